import PyProof.Rows.All
import Wide.All
import OpenK.AllK
import Wide.FinOn
import Lean
import PyProof.EqAt
import PyProof.EqKinds
import PyProof.NeKinds
import PyProof.TupleCall
import KE.KDictSum
import KE.KSortTup
import KE.KRevIter
import KE.KRevSl
import PySem.Challenge.RW_stakefield_k74_whole_fields_kept
set_option compiler.extract_closed false
set_option genInjectivity false
theorem z00(h:0=0:=by rfl):0=0:=h
def z0:=z00._auto_1
theorem x40(h:0=0:=by decide):0=0:=h
def x4:=x40._auto_1
theorem v30(h:0=0:=by first |exact .inl rfl |exact .inr rfl |assumption):0=0:=h
def v3:=v30._auto_1
theorem k60(h:0=0:=by first |exact Or.inl rfl |exact Or.inr (Or.inl rfl) |exact Or.inr (Or.inr rfl)):0=0:=h
def k6:=k60._auto_1
open List renaming length_map->IM,getElem?_eq_getElem->IQ,mem_cons_of_mem->IS,mem_cons->IT,mem_cons_self->IW,getElem?_map->I0,getElem?_eq_some_iff->I_,mem_map->Jb,mem_append_right->Jf,mem_reverse->Jh,length_cons->Ji,append_assoc->Jj,length_append->Jl,getElem?_append_left->Jn,getElem?_append_right->Jo,mem_of_getElem?->Jp,mem_singleton->Jq,pairwise_iff_getElem->Js,replicate->Jw,getD_eq_getElem?_getD->Jx,getElem?_set_ne->JA,mem_append->JB,map_cons->JF,size_toArray->JG,drop_eq_getElem_cons->JJ,length_pos_iff->JK,mem_iff_getElem?->JL,mem_range->JM,mem_append_left->JO,map_map->JP,take_append_drop->JQ,mem_filter->JS,pairwise_cons->J0,range->J3,length_reverse->J7,getElem?_eq_none->J_,getElem_mem->Ka,pairwise_map->Kg,pairwise_append->Kk,append_nil->Km,take_of_length_le->Kq,length_dropLast->Kr,map_append->Kt,getElem?_cons_succ->KA,not_mem_nil->KB,length_replicate->KH,replicate_succ->KI,getElem_of_mem->KJ,getElem?_reverse->KN,length_eq_zero_iff->KY,getLast?_eq_getElem?->K8,tail_cons->K9,length_drop->K_,filterMap_cons->Lb,take_succ_cons->Lg,getElem?_range->Lh,getElem?_replicate->Lo,lookup_cons->Lw,map_reverse->Lx,foldl_cons->LH,pairwise_reverse->LK,find?_cons->LL,getElem?_take_of_lt->LP,mem_of_mem_drop->LV,take_succ->L7,flatten_cons->Me,reverse_append->Mm,getElem?_dropLast->Mn,length_take_of_le->Mo,length_take->Mq,take_succ_eq_append_getElem->MK,nodup_cons->MQ,length_nil->MR,drop_sublist->MS,getLast?_cons_cons->M0,all_eq_true->M3,take_length->M4,length_pos_of_mem->M8,head?_eq_getElem?->M_,getElem?_drop->Na,length_set->Ni,getElem?_toArray->Nk,perm_append_comm->Nq,any_cons->Nu,nodup_append->Ny,ext_getElem?->NA,getElem_take->NC,getElem_drop->ND,getElem?_inj->NF,mem_of_getLast?->NM,take_zero->NO,mem_take_iff_getElem->NQ,exists_mem_of_ne_nil->NR,filter_cons->NS,drop_length->NV,lookup->NW,takeWhile_cons->NY,mem_filterMap->N5,sum_cons->Oa,getElem?_set_self->Ob,drop_eq_nil_of_le->Od,getLast?_map->Os,zipWith->OB,getLast?_reverse->OE,getElem?_zipWith_eq_some->OH,reverse_reverse->OR,mem_of_mem_take->OS,all_cons->OT,length_zipWith->O5,nodup_iff_pairwise_ne->O9,perm_ext_iff_of_nodup->O_,head?_map->Pu,getElem?_set->PF,reverse_perm->PM,map_dropLast->PV,length->P5,filter_cons_of_neg->Qb,getElem_inj->Qc,pairwise_lt_range->Qq,of_mem_zip->QD,length_singleton->QE,forIn_cons->QH,set_append_right->QU,length_filter_le->QW,range_succ->Q2,mem_iff_getElem->Rb,dropLast_subset->Rc,length_take_le->Ro,filterMap_map->RE,Perm->RM,zip_cons_cons->RO,head?_reverse->RT,mem_replicate->RV,take_sublist->R5,reverse_cons->Se,map_nil->Sx,perm_middle->SH,mem_flatMap->SR,head?_cons->Tp,forIn_nil->TL,drop_drop->TN,foldl->T_,set_comm->Ue,map_take->Um,map_drop->Uo,le_trans->Uq,all_map->Uu,range'->UK
open PySem renaming wpAny_bind->IP,wpAny_pure->IX,starEach->IY,Shared->Jd,Value->Je,Program->Jr,Addr->Jt,model->JE,boot_len->JH,wpAny->JN,World->J5,Around->Kb,compareOp->Kc,foldedSetIterable->Kf,wpAny_Call_Name_kw->Kn,wpAny_holding->Ko,backTo->Kv,swapsWith->Kw,mainGlobals->Kz,attributeBase->KW,bootBuiltins->KZ,eval->K0,wpAny_mono->K2,sizeLine_eq->Lc,keywordEach->Ld,mem_of_lookup->Le,wpAny_truthy_bool->Li,behindInMarks->Lm,wpAny_setState_of->LB,builtinLookup_eq_fast->LJ,FuncData->LO,Stmt->LS,wpAny_call_entry->LU,Heap->Ma,sysModules->Mb,wpAny_specialOf->Mi,assignEach->Mp,cLine->Mu,wpAny_newObj_type->MM,wpAny_passesOwn->MN,wpAny_pyIter_list->MP,backToKw->MU,wpAny_field->MW,wpAny_isInstance->M5,tupleKind_room_in1->Nc,wpAny_execs_nil->Nd,codeAny_mono->Nf,codeAny_builtin->Nh,typeLookup_type->Nl,wpAny_ite_split->Nn,binaryOp->Nt,intKind_is->Nz,wpAny_askSetting->NU,Keyword->NX,wpAny_standAt->N4,getMethod->N6,wpAny_attempt->N7,wpAny_callSpecial?_slot->N9,codeAny->Og,sliceBounds->Oh,call_meets->Oi,ofAClassStatement->On,bindArgs->Ot,isSubtype_type->Ou,wpAny_setField->Ov,valueAt->OJ,rawInt->OK,codeAny_call_builtin->OP,wpAny_pyNext_zip_end->OQ,plainId_quiet->OU,holding->OX,wpAny_setEntries_of->O1,wpAny_updateSeq->O4,GenState->Pb,wpAny_seqItems->Po,wpAny_assign_Name->Pv,wpAny_call->Py,wpAny_getItem_list_slice->Pz,wpAny_comprehension_free->PL,standAt->PY,swapsWithSole->PZ,swappedStores->P1,callWith->P4,Builtin->P7,strIterType->P9,wpAny_execs_cons->Qd,wpAny_forIn_list->Qg,wpAny_pyIter_zip->Qi,wpAny_pyNext_list_item->Qm,codeAny_compStart_list->Qo,wpAny_nextOf_list_item->Qr,tupleKind->Qx,wpAny_isTrue_Compare1->Qy,PassesOwn->Qz,wpAny_pyNext_list_end->QA,exec_Assign_Name_used->QJ,wpAny_eqIsQuiet_tuple->QK,wpAny_pyNext_zip_item->QO,wpAny_nextOf_list_end->QQ,strValues->QV,wpAny_rule->Q3,NameKind->Q4,typeLookup->Q5,typeIs_int->Q6,wpAny_loadName_local->Q9,wpAny_newFunctionEnv->Q_,wpAny_loadPart->Rf,isSubtype_stop->Ri,intKind->Rk,wpAny_loadName_cell->Rl,subscripted->Rm,hashByValue->Rn,Scope->Rx,evalPart_none->Rz,compEnvC->RB,comprehension->RC,setSearchFrom->RJ,pickOrder->RK,wpAny_tupleItemsOf->RN,wpAny_newList->RR,wpAny_Assign_Name->RX,getItem->R6,callerA->R8,isInstance->R9,wpAny_storeSet_of->R_,wpAny_pyIter_slot->Sa,wpAny_Call_method->Sg,Within->Sk,wpAny_typeOf->Su,JoinOk->Sw,call_meetsIn->Sy,checkBuiltinCall->SF,wpAny_getItem_of->SK,compPost->SS,ZipApart->SU,letOwnedTupleGo->SV,pyIter->SW,cellsFrom->SY,getAttrByItsOwn->S8,putSet_of->S_,codeAny_of_tree->Ta,wpAny_throw->Tc,wpAny_looks_onW->Tg,noteFrame->Th,wpAny_bindName->Ts,recursionLimit->Tv,boundAndCalled->Tz,entryFor_alias->TH,wpAny_fieldsOf->TJ,wpAny_newTuple->TM,intText?->TU,numbered_texts->TV,wpAny_notIn_of->TX,builtinsNs->T7,wpAny_Name->T8,assign->T9,closureFor->Ua,IsPair->Ub,BindsTo->Ug,storeName->Ut,leaving->UF,atKey->UN,pyNext->UO,Result->UQ,typeOf->UR,argsOk->UU,revObj->UV,bindL->UX,bindC->UY,call->UZ
open PySem.W renaming Frag->IR,mg_none_of->JV,kia_one->Ks,kitOne->KS,findIn->Lj,keepIn->Lk,emptyDict->Lz,instObj->Mh,cellsFrom_some->Oc,fnOf->Oz,plainGet->OF,plainGet_of->OY,callWith_K->Pe,lookIn->Pm,hasDictIn->Pw,kitx_list->Px,mroIn->P3,takerIn->QB,methodCall_KW->QC,codeIn->Rg,kitx_tuple->Ry,excIn->RF,plainOver->RY,kitx_dict->RZ,isFn->So,handedIn->SE,makesIn->SX,OpenLaw->S6,typeIn->Tu,kIn_of->Tx,mg_of->Uj,WalkO->Uk
open PySem.Heap renaming get?_push_of_some->IU,lt_size->Jc,get?_push_size->Jm,get?_update_other->KD,get?_update_self->KM,size_push->Ll,SameBut->Ms,FlyingW->Sr,ExtBut->UI
open Nat renaming le_refl->IV,lt_of_lt_of_le->IZ,le_of_lt->Ja,ne_of_lt->Jv,le_trans->Jy,mod_eq_of_lt->JC,lt_or_eq_of_le->JD,le_add_right->JI,lt_of_succ_lt->JX,lt_irrefl->JY,zero_le->JZ,le_of_lt_succ->J4,lt_trans->J6,add_sub_cancel'->J8,lt_succ_self->Kh,lt_of_le_of_lt->Ki,lt_of_le_of_ne->Kj,mod_lt->KC,add_lt_add_left->KO,one_pos->Lr,le_of_not_lt->Lv,lt_succ_of_lt->LA,add_sub_assoc->LD,zero_lt_of_lt->LF,le_of_eq->LG,lt_or_ge->LI,sub_lt->LQ,pos_of_ne_zero->LR,le_sub_one_of_lt->LW,sub_one_lt_of_le->LX,pow_succ->LZ,not_lt_zero->Mj,le_antisymm->Ml,ne_of_gt->Mt,eq_zero_or_pos->MA,zero_add->MD,sub_add_cancel->ME,min_eq_left->MT,add_le_add_left->MX,add_sub_cancel_left->MY,lt_of_lt_of_eq->Nb,add_zero->Nj,add_lt_of_lt_sub'->Np,mod_self->Nr,lt_trichotomy->Nv,add_assoc->Nx,sub_pos_of_lt->NB,add_mod_right->NG,mul_le_mul_right->NJ,le_sub_of_add_le'->OC,pow_le_pow_right->ON,mod_add_mod->OZ,sub_self->Ph,succ_add_eq_add_succ->PJ,sub_le->PN,le_max_right->Qf,min_eq_right->Qj,sub_sub_self->Qk,max_eq_right->Ql,div_div_eq_div_mul->Qp,sub_add_sub_cancel->Qt,le_of_succ_le_succ->Qw,add_comm->QF,mul_comm->QG,add_le_of_le_sub'->QS,sub_zero->QT,zero_mod->QZ,toDigits->Q1,one_mul->Rt,add_mul->Ru,mod_eq_sub_mod->RH,mod_mod_of_dvd->RI,add_sub_cancel->RS,succ_le_of_lt->Sf,le_succ_of_le->Sh,lt_of_succ_le->Si,lt_succ_of_le->Sj,succ_le_succ->SJ,lt_of_not_le->SQ,le_max_left->SZ,log2_lt->S0,strongRecOn->S9,le_add_left->Tf,one_ne_zero->Tq,add_le_add->T5,not_lt->Ud,digitChar->Ur,zero_max->Uv,gcd_comm->UB,le_succ->UE,pow_add->UH,add_mod->UJ,sub_sub->UM
open Array renaming length_toList->Jg,toList_append->JU,getElem?_toList->J9,getElem?_eq_getElem->Ke,getElem?_eq_some_iff->Kx,getD_eq_getD_getElem?->KL,toList_push->Mf,toList_reverse->ML,getD->Nw,toList_inj->NT,getElem?_replicate->N0,append_assoc->N3,mem_toList_iff->OM,toList_setIfInBounds->Pa,foldl_toList->Pf,forIn_toList->Pg,toList_map->Qh,toArray_toList->Ra,toList->Sm,toList_zip->SL,size_map->TF
open PyProof.Rows renaming wpS_bind->Jk,wpS_pure->Jz,arrOf->JT,Keyed->Kl,boot_isinstance->K7,SortSt->L8,wpS_forRange->L9,pendingOf->MC,envOfC->NH,wpS_modify->Oq,wpS_mono->Ow,SortKind->Ox,failedOf->OV,assignInOrder_cons->Pc,boot_str->Pk,AllBare->Pl,wpS_get->Pq,gallopOf->P8,subscriptTail_builtinR->Qn,IsTup->Q8,listUpdate_at->RQ,assignInOrder_nil->RW,Subscript_->R7,seqObj->SA,seqEpoch_at->Ti,entry_list_sort->Tj,digits10_le->Tr,slot_list_sort->TY,args_list_sort->TZ,sortedHeap_old->T3,signs_ofString->T4,mirror->Uc,IntsAre->Ui,boot_max->Us,bubble->Uw,tuples'->UL
open Bool renaming false_eq_true->Ju,false_ne_true->Ku,and_eq_true->KU,not_true->LY,true_and->Mx,eq_iff_iff->N8,not_eq_true'->Ol,eq_false_iff->Om,and_eq_true_iff->OO,not_false->Pp,beq_eq_decide_eq->QI,or_eq_false_iff->Re,or_eq_true->S7,and_false->TC,or_false->Uh,false_or->Ul
open PySem.Value renaming ref->JR,none->LN,type->L_,isInt_shape->Of,int->Oy,isStrOf->PX,isStrOf_shape->Rj,str->Rw,bool->T6,isInt->UD
open Option.some renaming inj->JW
open Int renaming mul_nonneg->Kp,dvd_trans->La,mul_eq_zero->Lu,toNat_natCast->LC,lt_or_le->LM,dvd_mul_right->Mg,dvd_mul_left->Mr,emod_lt_of_pos->Mw,emod_add_mul_ediv->MF,mul_pos->MJ,emod_nonneg->Ng,natAbs_of_nonneg->NL,eq_of_mul_eq_mul_left->NP,pos_of_mul_pos_right->N2,dvd_add->O6,dvd_refl->Pi,lt_or_eq_of_le->Pj,natAbs_mul->Pn,mul_ediv_cancel_left->PU,natAbs_dvd_natAbs->QY,gcd->Rq,le_refl->Rr,toNat_of_nonneg->Rv,mul_comm->SD,dvd_antisymm->SN,dvd_neg->Tn,dvd_sub->To,zero_mul->Ux,dvd_zero->Uy,le_total->Uz,not_le->U2
open Option renaming isSome_iff_exists->KG,map_eq_some_iff->Oe,getD_some->OG,isSome_map->PR,getD_none->Qe,toList_some->RD,none->UG,map->U0
open Classical renaming byContradiction->K5,choose_spec->QN,choose->SI
open PySem.Calls renaming spliced_cons->Ln,spliced_nil->Mc,callWith_builtin->M7,evalArgs_plain->NI,Name_function_global->O7
open PySem.F renaming called_set->Lp,slot_str_split->Ly,plain_extend_loop->MG,entry_str_split->MZ,plainAttrs_str->M9,args_str_split_2->N1,slot_dict_get->OD,excBase_ValueError->O8,slot_dict_getitem->Pr,plainAttrs_list->P6,args_dict_get_3->P_,plainAttrs_dict->Qa,type_str_split->Qu,entry_dict_get->Qv,plain_set_new->QL,slot_set_iter->QM,slot_zip_next->QP,slot_tuple_lt->QR,slot_dict_pop->QX
open PySem.Obj renaming data_mapFields->Lq,mapSeq->M6,putSet->Oo,isFreed_of_fields->OA,mapFields->RL,cls_mapFields->Sb
open List.Perm renaming append_left->Mz,append_right->Qs,refl->Rh,trans->Te
open Prod renaming ext->MB,fst->Q7,snd->RU
open PySem.Heap.SameBut renaming update->MV,refl->PH
open PySem.Around renaming under_plainId->NK,under->Sq
open List.Pairwise renaming imp_of_mem->NZ,nil->Oj,map->U1
open List.cons renaming inj->N_,injEq->Td
open Prod.mk renaming injEq->OW
open ToString renaming toString->Pd
open PySem.Heap.IsSliceOf renaming new->RA
open List.Nodup renaming length_le_of_subset->Ss
open Nat.succ renaming inj->Sv
open PySem.W.KIN renaming signs_num->UA,val_back->UC
open PySem.W.Looks renaming here->UP
open PySem.W.Dflts renaming none->US,noKw->UT
open PySem.Within renaming cons->UW
open PySem.Heap.DictOf renaming new->U3
set_option hygiene false
set_option hygiene true
set_option hygiene false
local macro_rules|`(tactic|walk_at"sC")=>`(tactic|exact⟨rfl,rfl,rfl,by decide+kernel,rfl,by decide+kernel,by decide+kernel⟩)
local macro_rules|`(tactic|walk_at"b1")=>`(tactic|exact λ_ _ _ _ _ _ _ h=>My.ar1 h λ_=>rfl)
local macro_rules|`(tactic|walk_at"b2")=>`(tactic|exact λ_ _ _ _ _ _ _ h=>My.ar2 h λ_ _=>rfl)
local macro_rules|`(tactic|walk_at"b3")=>`(tactic|exact λ_ _ _ _ _ _ _ h=>My.ar3 h λ_ _ _=>rfl)
set_option hygiene true
set_option maxHeartbeats 8000000
set_option Elab.async false
set_option linter.all false
set_option maxRecDepth 100000
namespace L2
open PySem PySem.Spec PyProof.Rows
noncomputable abbrev Key:=Sum Int Str
noncomputable def oP:Key->Je->Bool
 | .inl k,v=>UD k v
 | .inr x,v=>PX x v
noncomputable def Ip(w:J5):Key->Int
 | .inl k=>hashInt k
 | .inr x=>hashStr w x
theorem bS:∀{k}{v},oP k v=true->(∃i t,k=Sum.inl i/\v=Oy i t)\/(∃x t,k=Sum.inr x/\v=Rw x t)
 | .inl i,v,h=>by
  obtain⟨t,e⟩:=Of h;exact .inl ⟨i,t,rfl,e⟩
 | .inr x,v,h=>by
  obtain⟨t,e⟩:=Rj h;exact .inr ⟨x,t,rfl,e⟩
theorem yh(i)(t:Tok):oP (.inl i) (.int i t)=true:=by simp[oP,UD]
theorem xX(x)(t:Tok):oP (.inr x) (.str x t)=true:=by simp[oP,PX]
theorem FP(a b):decide ((Sum.inl a:Key)=Sum.inl b)=(a==b):=by
 by_cases e:a=b
 .subst e;simp
 .have h:¬ (Sum.inl a:Key)=Sum.inl b:=λq=>e (Sum.inl.inj q);rw[decide_eq_false h];exact (beq_eq_false_iff_ne.mpr e).symm
theorem FR(a b):decide ((Sum.inr a:Key)=Sum.inr b)=decide (a=b):=by
 by_cases e:a=b
 .subst e;simp
 .have h:¬ (Sum.inr a:Key)=Sum.inr b:=λq=>e (Sum.inr.inj q);rw[decide_eq_false h,decide_eq_false e]
theorem FC(a)(b):decide ((Sum.inl a:Key)=Sum.inr b)=false:=decide_eq_false (λq=>nomatch q)
theorem E5(a)(b):decide ((Sum.inr a:Key)=Sum.inl b)=false:=decide_eq_false (λq=>nomatch q)
noncomputable def bU(prog:Jr)(w:J5):PySem.KeyKind prog w Key where
 is:=oP
 hash:=Ip w
 inj:=λv a b ha hb=>by
  rcases bS ha with ⟨i,t,rfl,rfl⟩ |⟨x,t,rfl,rfl⟩
  .rcases bS hb with ⟨j,u,rfl,e⟩ |⟨y,u,rfl,e⟩
   .injection e with e1 _;rw[e1]
   .exact nomatch e
  .rcases bS hb with ⟨j,u,rfl,e⟩ |⟨y,u,rfl,e⟩
   .exact nomatch e
   .injection e with e1 _;rw[e1]
 byValue:=λk v h=>by
  rcases bS h with ⟨i,t,rfl,rfl⟩ |⟨x,t,rfl,rfl⟩ <;>rfl
 pyHash:=λc h=>by
  rcases bS c with ⟨i,t,rfl,rfl⟩ |⟨x,t,rfl,rfl⟩
  .exact wpAny_pyHash_int h
  .exact wpAny_pyHash_str h
 eqBool:=λd c h=>by
  rcases bS d with ⟨i,t,rfl,rfl⟩ |⟨x,t,rfl,rfl⟩
  .rcases bS c with ⟨j,u,rfl,rfl⟩ |⟨y,u,rfl,rfl⟩
   .rw[FP]at h;exact wpAny_eqBool_int h
   .rw[FC]at h;exact SeqAt.EqAt.int_str i t y u _ _ _ _ h
  .rcases bS c with ⟨j,u,rfl,rfl⟩ |⟨y,u,rfl,rfl⟩
   .rw[E5]at h;exact SeqAt.EqAt.str_int x t j u _ _ _ _ h
   .rw[FR]at h;exact wpAny_eqBool_str h
 «strs»:=λk x t v h=>by
  rcases bS h with ⟨i,u,rfl,e⟩ |⟨y,u,rfl,e⟩
  .exact nomatch e
  .injection e with e1 _;subst e1;cases v <;>rfl
theorem rf(prog)(w)(i)(t:Tok):(bU prog w).is (.inl i) (.int i t)=true:=yh i t
theorem rX(prog)(w)(x)(t:Tok):(bU prog w).is (.inr x) (.str x t)=true:=xX x t
inductive V where
 |non |bl (b:Bool) |int (i:Int) |str (x:Str) |byt (b:Array UInt8) |flt (b:UInt64) |ref (a:Jt) |ty (n:String)
 deriving DecidableEq
noncomputable def aS:V->Je->Prop
 | .non,u=>u=LN
 | .bl b,u=>u=T6 b
 | .int i,u=>∃t,u=Oy i t
 | .str x,u=>∃t,u=Rw x t
 | .byt b,u=>∃t,u=Value.bytes b t
 | .flt b,u=>∃t,u=Value.float b t
 | .ref a,u=>u=JR a
 | .ty n,u=>u=L_ n
abbrev aY:List V->List Je->Prop:=Paired aS
theorem aY.length(r:aY xs us):xs.length=us.length:=Paired.length r
theorem aY.get:∀{a}{b}{i:Nat}{x},aY a b->a[i]?=some x->∃u,b[i]?=some u/\aS x u
 |_,_,_,_,.nil,e=>by simp at e
 |_,_,0,_,.cons r _,e=>by simp at e;subst e;exact⟨_,rfl,r⟩
 |_,_,i+1,x,.cons _ t,e=>by
  obtain⟨u,c,d⟩:=aY.get t (by simpa using e);exact⟨u,by simpa using c,d⟩
theorem aY.append:∀{a d}{b c},aY a b->aY d c->aY (a++d) (b++c):=by
 intro a d b c h s
 induction h with
 |nil=>exact s
 |cons r t e=>exact .cons r e
theorem aY.take:∀{a}{b} n,aY a b->aY (a.take n) (b.take n)
 |_,_,0,_=>.nil
 |_,_,_+1,.nil=>.nil
 |_,_,n+1,.cons r t=>.cons r (aY.take n t)
theorem aY.drop:∀{a}{b} n,aY a b->aY (a.drop n) (b.drop n)
 |_,_,0,r=>r
 |_,_,_+1,.nil=>.nil
 |_,_,n+1,.cons _ t=>aY.drop n t
noncomputable def fV:Option V->Option Je->Prop
 |some v,some u=>aS v u
 |none,none=>True
 |_,_=>False
def KV{a:Type}:List (a×V)->List (a×Je)->Prop:=Paired λ(p:a×V) (q:a×Je)=>p.1=q.1/\aS p.2 q.2
noncomputable def kV:Key->V
 | .inl i=>.int i
 | .inr x=>.str x
inductive HO where
 /-- a list -/
 |lst (xs:List V)
 /-- a tuple (never changes) -/
 |tup (xs:List V)
 /-- a dict whose keys are ints and texts;one whose keys are tuples of ints and texts (the empty one is both) -/
 |dK (kvs:List (Key×V)) |dT (kvs:List (List Key×V))
 /-- a set of ints:its members,its size -/
 |set (S:Int->Bool) (n:Nat)
 /-- an instance of the class at C,its dict at dx,its attributes -/
 |ins (C dx:Jt) (fs:List (Str×V))
 /-- the dict of the instance at x -/
 |own (x:Jt)
 /-- the dict of an exception -/
 |xd (fs:List (Str×V))
 /-- a bound method,f of x -/
 |met (f x:Jt)
 /-- a range object lo,lo+1,.. below hi -/
 |rng (lo hi:Int)
 /-- a thing that is known to the object (the script;a dict while a loop walks it):read,never written while it is so -/
 |frz (o:Obj) (u:HO)
 /-- a code object's table -/
 |tbl (ps:Array Je)
 /-- any other thing,by what is true of its one object (a def of one's own:SetO a S n:=HO.ext λh=>..) -/
 |ext (φ:Ma->Prop)
noncomputable abbrev Hp:=Jt->Option HO
noncomputable def upd(H:Hp)(a:Jt)(o:HO):Hp:=λb=>if b=a then some o else H b
theorem aA:upd H a o a=some o:=by unfold upd;rw[if_pos rfl]
theorem aC(h:b≠a):upd H a o b=H b:=by unfold upd;rw[if_neg h]
theorem HL{H:Hp}(h:H a=some o)(h':H b=some u)(d:o≠u):a≠b:=by
 intro e;subst e;rw[h]at h';exact d (JW h')
theorem bN{H:Hp}(h:H a=some o)(h':H b=none):a≠b:=by
 intro e;subst e;rw[h]at h';cases h'
section
variable (P:Jr) (w:J5)
noncomputable def cH(H:Hp)(h:Ma)(a:Jt):HO->Prop
 | .lst xs=>xs.length≤sizeLine∧∃(its:List Je) (n:Nat),aY xs its∧h.get? a=some {cls:=.type "list",data:=.seq its.toArray n }
 | .tup xs=>xs.length<=sizeLine/\∃its:List Je,aY xs its/\Q8 h a its.toArray
 | .dK kvs=>kvs.length<=sizeLine/\(a==Mb)=false/\∃e,KV kvs e/\h.DictOf (bU P w) a e
 | .dT kvs=>kvs.length<=sizeLine/\(a==Mb)=false/\∃xs:List (List Key×Jt×Je),
   Paired (λ(p:List Key×V) (q:List Key×Jt×Je)=>p.1=q.1/\H q.2.1=some (.tup (p.1.map kV))/\aS p.2 q.2.2) kvs xs/\
   ∃o d j,h.get? a=some o/\o.ExactDict/\o.data=.dict d j/\d.toList=xs.map (entryOfKey (Qx (bU P w)))/\(xs.map (·.1)).Nodup
 | .set S n=>h.SetOf (Rk P w) a S n
 | .ins C c fs=>H c=some (.own a)/\fs.length<=1000/\c≠a/\h.get? a=some (Mh C c)/\
   ∃b,h.Ns1 c b/\(∀f,fV (fs.lookup f) (b f))/\Sk b (fs.map (·.1))
 | .own _=>∃o,h.get? a=some o
 | .xd fs=>∃b,h.Ns1 a b/\∀f,fV (fs.lookup f) (b f)
 | .rng lo k=>∃t u v,h.get? a=some {cls:=.type "range",data:=.fields #[.int lo t,.int k u,.int 1 v] }
 | .frz o u=>h.get? a=some o/\cH H h a u
 | .tbl ps=>h.get? a=some {cls:=.none,data:=.fields ps }
 | .met f x=>h.get? a=some (PySem.W.methodObj (.ref f) (.ref x))
 | .ext φ=>φ h/\(∃o,h.get? a=some o)/\∀i g:Ma,φ i->(∀o,i.get? a=some o->g.get? a=some o)->φ g
def HOk(H:Hp)(h:Ma):Prop:=∀a o,H a=some o->cH P w H h a o
end
section
variable {P:Jr}{w:J5}{H H':Hp}{h h':Ma}{a:Jt}{o:HO}
theorem cH.lt(x:cH P w H h a o):a<h.objs.size:=by
 cases o with
 |lst c=>obtain⟨_,_,_,_,e⟩:=x;exact Jc e
 |tup c=>obtain⟨_,_,_,p⟩:=x;exact p.lt
 |dK b=>obtain⟨_,_,_,_,o,_,_,e,_⟩:=x;exact Jc e
 |dT b=>obtain⟨_,_,_,_,o,_,_,e,_⟩:=x;exact Jc e
 |set S n=>obtain⟨o,_,_,_,e,_⟩:=x;exact Jc e
 |ins C i fs=>obtain⟨_,_,_,e,_⟩:=x;exact Jc e
 |own y=>obtain⟨_,e⟩:=x;exact Jc e
 |xd fs=>obtain⟨_,⟨_,_,_,e,_⟩,_⟩:=x;exact Jc e
 |rng g l=>obtain⟨_,_,_,e⟩:=x;exact Jc e
 |frz d u=>obtain⟨e,_⟩:=x;exact Jc e
 |tbl j=>exact Jc x
 |met f y=>exact Jc x
 |ext k=>obtain⟨_,⟨_,e⟩,_⟩:=x;exact Jc e
theorem Paired.mapP{α e:Type}{F G:α->e->Prop}:∀{d}{c},Paired F d c->(∀a b,F a b->G a b)->Paired G d c:=by
 intro d c h f
 induction h with
 |nil=>exact .nil
 |cons r t g=>exact .cons (f _ _ r) g
theorem cH.stay(x:cH P w H h a o)(k:∀b u,(b=a\/H b=some (.own a))->h.get? b=some u->h'.get? b=some u)
  (ho:∀b,H b=some (.own a)->H' b=some (.own a)) (ht:∀b l,H b=some (.tup l)->H' b=some (.tup l)):cH P w H' h' a o:=by
 induction o with
 |lst l=>obtain⟨z,its,n,r,e⟩:=x;exact⟨z,its,n,r,k _ _ (.inl rfl) e⟩
 |tup l=>obtain⟨z,its,r,g,e,c⟩:=x;exact⟨z,its,r,g,k _ _ (.inl rfl) e,c⟩
 |dK s=>obtain⟨z,y,G,r,g,i,j,e,c⟩:=x;exact⟨z,y,G,r,g,i,j,k _ _ (.inl rfl) e,c⟩
 |dT s=>
  obtain⟨z,y,l,r,g,i,j,e,c⟩:=x;exact⟨z,y,l,Paired.mapP r λp q z=>⟨z.1,ht _ _ z.2.1,z.2.2⟩,g,i,j,k _ _ (.inl rfl) e,c⟩
 |set S n=>obtain⟨g,i,j,t,e,c⟩:=x;exact⟨g,i,j,t,k _ _ (.inl rfl) e,c⟩
 |ins C J fs=>
  obtain⟨d,z,E,e,A,⟨m,i,j,F,c⟩,r⟩:=x;exact⟨ho _ d,z,E,k _ _ (.inl rfl) e,A,⟨m,i,j,k _ _ (.inr d) F,c⟩,r⟩
 |own y=>obtain⟨g,e⟩:=x;exact⟨g,k _ _ (.inl rfl) e⟩
 |xd fs=>obtain⟨A,⟨m,i,j,e,c⟩,r⟩:=x;exact⟨A,⟨m,i,j,k _ _ (.inl rfl) e,c⟩,r⟩
 |rng I M=>obtain⟨t,u,v,e⟩:=x;exact⟨t,u,v,k _ _ (.inl rfl) e⟩
 |frz g u D=>obtain⟨e,q⟩:=x;exact⟨k _ _ (.inl rfl) e,D q⟩
 |tbl K=>
  have e:=x;exact k a _ (.inl rfl) e
 |met f y=>
  have e:=x;exact k a _ (.inl rfl) e
 |ext L=>obtain⟨p,⟨o,e⟩,B⟩:=x;exact⟨B _ _ p λo q=>k _ _ (.inl rfl) q,⟨o,k _ _ (.inl rfl) e⟩,B⟩
theorem HOk.lt(x:HOk P w H h)(e:H a=some o):a<h.objs.size:=(x a o e).lt
theorem HOk.fresh(x:HOk P w H h)(e:h.objs.size<=a):H a=none:=by
 cases q:H a with
 |none=>rfl
 |some u=>exact absurd (IZ (x.lt q) e) (JY _)
theorem HOk.kept(x:HOk P w H h)(k:∀b u,h.get? b=some u->h'.get? b=some u):HOk P w H h':=λa o e=>
 (x a o e).stay (λb u _ q=>k b u q) (λ_ q=>q) λ_ _ q=>q
theorem HOk.laid(x:HOk P w H h)(k:∀b u,h.get? b=some u->h'.get? b=some u)(g:h.objs.size<=a)(d:cH P w (upd H a o) h' a o):HOk P w (upd H a o) h':=λb u e=>by
 have f:=x.fresh g;by_cases hb:b=a
 .subst hb;rw[aA]at e;cases e;exact d
 .rw[aC hb]at e;exact (x b u e).stay (λc v _ q=>k c v q) (λc q=>by rw[aC (bN q f)];exact q) λc i q=>by rw[aC (bN q f)];exact q
end
def Rd(H:Hp)(a:Jt)(u:HO):Prop:=H a=some u\/∃o,H a=some (.frz o u)
theorem Rd.of(h:H a=some u):Rd H a u:=.inl h
theorem Rd.ok(r:Rd H a u)(x:HOk P w H h):cH P w H h a u:=by
 rcases r with r |⟨o,r⟩
 .exact x a u r
 .obtain⟨_,q⟩:=x a _ r;exact q
noncomputable def Mut:Option HO->Prop
 |some (.lst _)=>True
 |some (.dK _)=>True
 |some (.dT _)=>True
 |some (.set _ _)=>True
 |some (.ins _ _ _)=>True
 |some (.ext _)=>True
 |_=>False
section
variable {P:Jr}{w:J5}{H:Hp}{h h':Ma}{x e:Jt}{o':HO}
theorem HOk.write(p:HOk P w H h)(j:Mut (H x))(m:e=x\/H e=some (.own x))(k:∀b u,b≠e->h.get? b=some u->h'.get? b=some u)(l:∃u,h'.get? e=some u)
  (new:cH P w (upd H x o') h' x o'):HOk P w (upd H x o') h':=λb u q=>by
 have d:∀c y,H c=some (.own y)->c≠x:=λc y r z=>by subst z;rw[r]at j;exact j
 have f:∀c g,H c=some (.tup g)->c≠x:=λc g r z=>by subst z;rw[r]at j;exact j
 by_cases hb:b=x
 .subst hb;rw[aA]at q;cases q;exact new
 .rw[aC hb]at q;by_cases a:b=e
  .have n:H b=some (.own x):=by
    rcases m with z |z
    .exact absurd (a.trans z) hb
    .rw[a];exact z
   rw[q]at n;cases n;obtain⟨v,o⟩:=l;exact⟨v,by rw[a];exact o⟩
  .refine (p b u q).stay (λc v i r=>k c v ?_ r) (λc r=>by rw[aC (d c b r)];exact r) λc g r=>by rw[aC (f c g r)];exact r
   rcases i with rfl |i
   .exact a
   .rintro rfl;rcases m with z |z
    .exact d c b i z
    .rw[i]at z;cases z;exact hb rfl
end
structure Un(fs ex:List Jt)(H H':Hp)(h h':Ma):Prop where
 keep:∀b o,h.get? b=some o->H b=none->b ∉ fs->b ∉ ex->h'.get? b=some o
 slot:∀b o,h.get? b=some o->H b=none->b∈fs->b ∉ ex->∃sl,h'.get? b=some {o with slots:=sl }
 free:∀b o,h.get? b=some o->H b=none->b ∉ ex->H' b=none
 there:∀b o,h.get? b=some o->b ∉ ex->∃o',h'.get? b=some o'
 tups:∀b xs,H b=some (.tup xs)->H' b=some (.tup xs)
 frzs:∀b o u,H b=some (.frz o u)->H' b=some (.frz o u)
 tbls:∀b ps,H b=some (.tbl ps)->∃more,H' b=some (.tbl (ps++more))
section
variable {fs fs' ex ex':List Jt}{H H1 H2:Hp}{h h1 h2 h':Ma}{a x e:Jt}{o:HO}
theorem Un.any(u:Un fs ex H H1 h h1)(q:h.get? b=some ob)(n:H b=none)(a:b ∉ ex):∃c,h1.get? b=some {ob with slots:=c }:=by
 by_cases hb:b∈fs
 .exact u.slot b ob q n hb a
 .exact⟨ob.slots,u.keep b ob q n hb a⟩
theorem Un.kept(k:∀b u,h.get? b=some u->h'.get? b=some u):Un fs ex H H h h':=
 ⟨λb a q _ _ _=>k b a q,λb a q _ _ _=>⟨a.slots,k b a q⟩,λ_ _ _ n _=>n,λb a q _=>⟨a,k b a q⟩,λ_ _ q=>q,λ_ _ _ q=>q,λ_ c q=>⟨#[],by rw[q];simp⟩⟩
theorem Un.refl:Un fs ex H H h h:=Un.kept λ_ _ q=>q
theorem Un.laid(k:∀b u,h.get? b=some u->h'.get? b=some u)(e:h.objs.size<=a)(c:H a=none):Un fs ex H (upd H a o) h h' where
 keep:=λb u q _ _ _=>k b u q
 slot:=λb u q _ _ _=>⟨u.slots,k b u q⟩
 free:=λb u q n _=>by rw[aC (Jv (IZ (Jc q) e))];exact n
 there:=λb u q _=>⟨u,k b u q⟩
 tups:=λb d q=>by rw[aC (bN q c)];exact q
 frzs:=λb u d q=>by rw[aC (bN q c)];exact q
 tbls:=λb f q=>⟨#[],by rw[aC (bN q c),q];simp⟩
theorem Un.write(c:Mut (H x))(j:e=x\/H e=some (.own x))(k:∀b u,b≠e->h.get? b=some u->h'.get? b=some u)(f:∃u,h'.get? e=some u):Un fs ex H (upd H x o) h h':=by
 have g:∀b,H b=none->b≠x:=λb n z=>by subst z;rw[n]at c;exact c
 have hb:∀b,H b=none->b≠e:=λb n z=>by
  subst z;rcases j with r |r
  .exact g b n r
  .rw[n]at r;cases r
 have d:∀b u,H b=some u->¬ Mut (some u)->b≠x:=λb u q nm z=>by subst z;rw[q]at c;exact nm c
 refine⟨λb u q n _ _=>k b u (hb b n) q,λb u q n _ _=>⟨u.slots,k b u (hb b n) q⟩,λb u q n _=>by rw[aC (g b n)];exact n,λb u q _=>?_,
  λb i q=>by rw[aC (d b _ q λz=>z)];exact q,λb u i q=>by rw[aC (d b _ q λz=>z)];exact q,λb l q=>⟨#[],by rw[aC (d b _ q λz=>z),q];simp⟩⟩
 by_cases a:b=e
 .subst a;exact f
 .exact⟨u,k b u a q⟩
end
noncomputable def trk(h:Ma)(H:Hp):List Jt:=(J3 h.objs.size).filter λa=>(H a).isSome
noncomputable def pj(h:Ma)(H:Hp):Ma:=PySem.W.hideAll h (trk h H)
theorem xW(h)(H):(pj h H).objs.size=h.objs.size:=PySem.W.hideAll_size _ _
theorem Ae(e:h.get? b=some o)(n:H b=none):(pj h H).get? b=some o:=
 PySem.W.hideAll_get _ e λa=>by
  have q:=(JS.mp a).2;rw[n]at q;simp at q
theorem B7(e:(pj h H).get? b=some o):h.get? b=some o/\H b=none:=by
 have a:=PySem.W.of_hideAll (trk h H) e;refine⟨a,?_⟩;cases q:H b with
 |none=>rfl
 |some x=>
  have c:b∈trk h H:=JS.mpr ⟨JM.mpr (Jc a),by simp[q]⟩;have z:(pj h H).get? b=none:=PySem.W.hideAll_none (trk h H) c;rw[z]at e;cases e
noncomputable def CS(g h:Ma)(L:Jt):List (Jt×Obj):=(J3 h.objs.size).filterMap λa=>if a=L\/(g.get? a).isSome=true then none else (h.get? a).map λo=>(a,o)
noncomputable def rest(g h:Ma)(L d:Jt):List (Jt×Obj):=(CS g h L).filter λp=>decide (p.1≠d)
structure Mod(K:IR)(mg:Str->Option Je)(base:Ma):Prop where
 kin:K.In base
 glob:base.Ns Kz mg
 blt:∃mb,base.Ns T7 mb∧∀x:Str,x≠"__name__"→mb x=KZ x
 nolimit:base.NoLimit
structure Cx where
 prog:Jr
 w:J5
 K:IR
 mg:Str->Option Je
 base:Ma
 A:Kb
 N:List Str
 s₀:Jd
 H₀:Hp
 env:Env
 outer:List Env
 stack:List Env
 ex:List Jt
 fn:Str->Bool
 calm:Bool
 pn:List (Jt×Obj)
 xe:Je->Jd->Prop
noncomputable def frs(l:List Env):List Jt:=l.filterMap (·.frame)
noncomputable abbrev Cx.fs(X:Cx):List Jt:=frs X.outer
def Vis(a:Rx)(x:Str):Prop:=a.names.lookup x=some .local\/a.names.lookup x=some .cell\/a.names.lookup x=some .free
def Loc(a:Rx)(x:Str):Prop:=a.names.lookup x=some .local\/a.names.lookup x=some .cell
def Iz(a:Env)(h:Ma)(m:Str->Option Je)(x:Str)(u:Je):Prop:=
 (a.kindOf x=some .local/\m x=some u)\/((a.kindOf x=some .cell\/a.kindOf x=some .free)/\∃c,a.cells.lookup x=some c/\h.IsCell c (some u))
structure Cx.Ok(X:Cx):Prop where
 mod:Mod X.K X.mg X.base
 kind:X.env.scope.kind=.function
 glob:X.env.globals=Kz
 blt:X.env.builtins=T7
 above:X.s₀.heap.objs.size<=X.env.locals
 inj:∀x y c,X.env.cells.lookup x=some c->X.env.cells.lookup y=some c->x=y
 has:∀x,(X.env.kindOf x=some .cell\/X.env.kindOf x=some .free)->∃c,X.env.cells.lookup x=some c
 cab:∀x c,X.fn x=true->X.env.cells.lookup x=some c->X.s₀.heap.objs.size<=c
 hd:X.calm=true->X.A.handled=none
 frames:X.A.frames=some X.stack
 stk:X.stack=X.outer\/(X.stack=X.env::X.outer/\X.env.frame=some X.env.locals)
 exf:∀b∈X.ex,b≠X.env.locals/\∀x c,X.env.cells.lookup x=some c->c≠b
 bs:∀b o,X.base.get? b=some o->X.s₀.heap.get? b=some o/\X.H₀ b=none
 bsz:X.base.objs.size<=X.s₀.heap.objs.size
 noex:∀b o,X.base.get? b=some o->b ∉ X.ex
 exfs:∀b∈X.ex,b ∉ X.fs
 funs:X.s₀.heap.FunFrames X.base X.outer
 frf:∀b∈X.fs,X.H₀ b=none
structure Inv(X:Cx)(U_:List (Jt×Obj))(σ:List (Option V))(H:Hp)(s:Jd):Prop where
 ok:X.Ok
 os:s.os=X.s₀.os
 bare:Pl s.gens
 base:Un X.fs X.ex X.H₀ H X.s₀.heap s.heap
 loc:∃m,s.heap.Ns X.env.locals m/\∀(i:Nat) (x:Str) (v:V),X.N[i]?=some x->σ[i]?=some (some v)->Vis X.env.scope x->∃u,aS v u/\Iz X.env s.heap m x u
 cell:∀x c,X.env.cells.lookup x=some c->∃v,s.heap.IsCell c v
 free:H X.env.locals=none
 freeC:∀x c,X.env.cells.lookup x=some c->H c=none
 pin:∀p∈X.pn++U_,s.heap.get? p.1=some p.2/\H p.1=none/\p.1≠X.env.locals/\p.1 ∉ X.fs/\∀v,p.2.data≠.cell v
 hok:HOk X.prog X.w H s.heap
 len:σ.length=X.N.length
section
variable {X:Cx}{U_:List (Jt×Obj)}{σ:List (Option V)}{H H':Hp}{s:Jd}{h':Ma}
theorem Cx.Ok.nofr(a:X.Ok)(e:X.base.get? b=some o):b ∉ X.fs:=λhb=>by
 have:=(a.funs.mem hb).1;rw[e]at this;cases this
theorem Inv.bs(I:Inv X U_ σ H s):∀b o,X.base.get? b=some o->s.heap.get? b=some o/\H b=none:=λb o e=>
 ⟨I.base.keep b o (I.ok.bs b o e).1 (I.ok.bs b o e).2 (I.ok.nofr e) (I.ok.noex b o e),I.base.free b o (I.ok.bs b o e).1 (I.ok.bs b o e).2 (I.ok.noex b o e)⟩
theorem Inv.bk(I:Inv X U_ σ H s):∀b o,X.base.get? b=some o->s.heap.get? b=some o:=λb o e=>(I.bs b o e).1
theorem Inv.mod(I:Inv X U_ σ H s):Mod X.K X.mg X.base:=I.ok.mod
theorem Inv.kIn(I:Inv X U_ σ H s):X.K.In s.heap:=I.ok.mod.kin.keeps I.bk
theorem Inv.lt(I:Inv X U_ σ H s):X.env.locals<s.heap.objs.size:=let ⟨_,hn,_⟩:=I.loc;hn.lt
theorem Inv.sz(I:Inv X U_ σ H s):X.s₀.heap.objs.size<=s.heap.objs.size:=Jy I.ok.above (Ja I.lt)
theorem Inv.nofs(I:Inv X U_ σ H s)(h:s.heap.objs.size<=a):a ∉ X.fs:=λhb=>by
 obtain⟨_,o,b,_⟩:=I.ok.funs.mem hb;exact absurd (IZ (Jc b) (Jy I.sz h)) (JY _)
theorem Inv.cne(I:Inv X U_ σ H s):∀x c,X.env.cells.lookup x=some c->c≠X.env.locals:=λx c e z=>by
 obtain⟨v,o,b,a⟩:=I.cell x c e;obtain⟨m,⟨h,i,g,f,d,_⟩,_⟩:=I.loc;rw[z,f]at b;cases b;rw[d]at a;cases a
theorem Inv.funs(I:Inv X U_ σ H s):s.heap.FunFrames X.base X.outer:=by
 have all:∀l,(∀b∈frs l,b∈X.fs)->X.s₀.heap.FunFrames X.base l->s.heap.FunFrames X.base l:=by
  intro l
  induction l with
  |nil=>intro _ _;trivial
  |cons g r f=>
   intro d j;obtain⟨i,⟨L,o,a,h,m,n⟩,k⟩:=j;have c:=d L (by unfold frs;rw[Lb,a];exact IW);obtain⟨p,e⟩:=I.base.slot L o m (I.ok.frf L c) c λz=>I.ok.exfs L z c;exact⟨i,⟨L,_,a,h,e,n⟩,f (λb hb=>d b (by unfold frs;rw[Lb,a];exact IS _ hb)) k⟩
 exact all X.outer (λ_ hb=>hb) I.ok.funs
theorem Inv.stack(I:Inv X U_ σ H s):s.heap.FunFrames X.base X.stack:=by
 rcases I.ok.stk with e |⟨e,b⟩
 .rw[e];exact I.funs
 .rw[e];obtain⟨m,a,_⟩:=I.loc;refine .cons (by rw[I.ok.kind];decide) b a ?_ I.funs;exact Heap.get?_none_of_le (Jy I.ok.bsz I.ok.above)
theorem Inv.stkSub(I:Inv X U_ σ H s):∀b∈frs X.stack,b∈X.env.locals::X.fs:=λb hb=>by
 rcases I.ok.stk with e |⟨e,a⟩
 .rw[e]at hb;exact IS _ hb
 .rw[e]at hb;unfold frs at hb;rw[Lb,a]at hb;exact hb
theorem Inv.stkFree(I:Inv X U_ σ H s):∀b∈frs X.stack,H b=none:=λb hb=>by
 rcases IT.mp (I.stkSub b hb) with e |hb
 .rw[e];exact I.free
 .obtain⟨_,o,a,_⟩:=I.ok.funs.mem hb;exact I.base.free b o a (I.ok.frf b hb) λz=>I.ok.exfs b z hb
theorem Inv.step{g':Array Pb}{t':Nat}{d':Drawn}{ch:List Jt}(I:Inv X U_ σ H s)
  (WB:∀b∈ch,(b∈X.ex\/X.s₀.heap.objs.size<=b)/\b≠X.env.locals/\(∀x c,X.env.cells.lookup x=some c->c≠b)/\∀p∈X.pn++U_,p.1≠b)
  (keep:∀b o,b≠X.env.locals->b ∉ X.fs->b ∉ ch->s.heap.get? b=some o->H b=none->h'.get? b=some o)
  (slot:∀b o,b≠X.env.locals->b∈X.fs->b ∉ ch->s.heap.get? b=some o->H b=none->∃E,h'.get? b=some {o with slots:=E }) (free:∀b o,b ∉ ch->s.heap.get? b=some o->H b=none->H' b=none)
  (there:∀b o,b ∉ ch->s.heap.get? b=some o->∃A,h'.get? b=some A)
  (tups:∀b j,H b=some (.tup j)->H' b=some (.tup j)) (frzs:∀b o u,H b=some (.frz o u)->H' b=some (.frz o u)) (tbls:∀b C,H b=some (.tbl C)->∃more,H' b=some (.tbl (C++more)))
  (ns:∀m,s.heap.Ns X.env.locals m->h'.Ns X.env.locals m) (hok:HOk X.prog X.w H' h') (hg:Pl g'):
  Inv X U_ σ H' {s with heap:=h',gens:=g',drawn:=d',toks:=t' }:=by
 have y:∀b o,X.s₀.heap.get? b=some o->b≠X.env.locals:=λb o e=>Jv (IZ (Jc e) I.ok.above)
 have g:∀b o,X.s₀.heap.get? b=some o->b ∉ X.ex->b ∉ ch:=λb o e a hb=>by
  rcases (WB b hb).1 with z |z
  .exact a z
  .exact absurd (IZ (Jc e) z) (JY _)
 have K:∀x c,X.env.cells.lookup x=some c->∀v,s.heap.IsCell c v->h'.IsCell c v:=λx c e v O=>by
  obtain⟨o,t,F⟩:=O;have f:c ∉ ch:=λz=>(WB c z).2.2.1 x c e rfl;by_cases L:c∈X.fs
  .obtain⟨E,q⟩:=slot c o (I.cne x c e) L f t (I.freeC x c e);exact⟨_,q,F⟩
  .exact⟨o,keep c o (I.cne x c e) L f t (I.freeC x c e),F⟩
 refine⟨I.ok,I.os,hg,⟨λb o e n hb a=>?_,λb o e n hb a=>?_,λb o e n a=>?_,λb o e a=>?_,λb j e=>tups b j (I.base.tups b j e),λb o j e=>frzs b o j (I.base.frzs b o j e),λb C e=>?_⟩,?_,λx c e=>?_,?_,λx c e=>?_,λp G=>?_,hok,I.len⟩
 .exact keep b o (y b o e) hb (g b o e a) (I.base.keep b o e n hb a) (I.base.free b o e n a)
 .obtain⟨E,h⟩:=I.base.slot b o e n hb a;obtain⟨D,B⟩:=slot b _ (y b o e) hb (g b o e a) h (I.base.free b o e n a);exact⟨D,B⟩
 .obtain⟨A,h⟩:=I.base.there b o e a;exact free b A (g b o e a) h (I.base.free b o e n a)
 .obtain⟨A,h⟩:=I.base.there b o e a;exact there b A (g b o e a) h
 .obtain⟨P,h⟩:=I.base.tbls b C e;obtain⟨N,B⟩:=tbls b _ h;exact⟨P++N,by rw[B,N3]⟩
 .obtain⟨m,Q,S⟩:=I.loc;refine⟨m,ns m Q,λi x v h B R=>?_⟩;obtain⟨u,r,l⟩:=S i x v h B R;refine⟨u,r,?_⟩;rcases l with l |⟨k,c,e,z⟩
  .exact .inl l
  .exact .inr ⟨k,c,e,K x c e _ z⟩
 .obtain⟨v,z⟩:=I.cell x c e;exact⟨v,K x c e v z⟩
 .obtain⟨m,⟨o,_,_,t,_⟩,_⟩:=I.loc;exact free _ o (λz=>(WB _ z).2.1 rfl) t I.free
 .obtain⟨v,o,t,F⟩:=I.cell x c e;exact free c o (λz=>(WB c z).2.2.1 x c e rfl) t (I.freeC x c e)
 .obtain⟨e,n,J,M,d⟩:=I.pin p G;have f:p.1 ∉ ch:=λz=>(WB p.1 z).2.2.2 p G rfl;exact⟨keep p.1 p.2 J M f e n,free p.1 p.2 f e n,J,M,d⟩
theorem Inv.un(I:Inv X U_ σ H s)(u:Un X.fs [] H H' s.heap h')(d:HOk X.prog X.w H' h'):Inv X U_ σ H' {s with heap:=h',toks:=t' }:=by
 obtain⟨m,⟨o,k,t,g,r⟩,_⟩:=id I.loc;obtain⟨q,i⟩:=u.any g I.free (by simp)
 exact I.step (ch:=[]) (λ_ z=>nomatch z) (λb o _ hb _ e n=>u.keep b o e n hb (by simp)) (λb o _ hb _ e n=>u.slot b o e n hb (by simp)) (λb o _ e n=>u.free b o e n (by simp)) (λb o _ e=>u.there b o e (by simp)) u.tups u.frzs u.tbls (λl j=>by
  obtain⟨p,a,c,f,h⟩:=j;rw[g]at f;cases f;exact⟨_,a,c,i,h⟩) d I.bare
theorem Inv.call(I:Inv X U_ σ H s)(u:Un (frs X.stack) ch H H' s.heap h')(h:HOk X.prog X.w H' h')(l:Pl g')
  (WB:∀b∈ch,(b∈X.ex\/X.s₀.heap.objs.size<=b)/\b≠X.env.locals/\(∀x c,X.env.cells.lookup x=some c->c≠b)/\∀p∈X.pn++U_,p.1≠b):
  Inv X U_ σ H' {s with heap:=h',gens:=g',drawn:=d',toks:=t' }:=by
 obtain⟨m,⟨o,t,B,j,r⟩,_⟩:=id I.loc;obtain⟨A,g⟩:=u.any j I.free λz=>(WB _ z).2.1 rfl
 exact I.step WB (λb o g hb a e n=>u.keep b o e n (λz=>(IT.mp (I.stkSub b z)).elim g hb) a) (λb o _ _ a e n=>u.any e n a) (λb o a e n=>u.free b o e n a) (λb o a e=>u.there b o e a) u.tups u.frzs u.tbls (λv q=>by
  obtain⟨y,d,f,i,k⟩:=q;rw[j]at i;cases i;exact⟨_,d,f,g,k⟩) h l
theorem Inv.turned(I:Inv X U_ σ H s)(k:∀b o,b≠it->s.heap.get? b=some o->h'.get? b=some o)(h:H it=none)(f:it≠X.env.locals)
  (h1:it∈X.ex\/X.s₀.heap.objs.size<=it) (h2:∀x c,X.env.cells.lookup x=some c->c≠it) (h3:∀p∈X.pn++U_,p.1≠it):Inv X U_ σ H {s with heap:=h',toks:=t' }:=by
 have d:∀b u,H b=some u->b≠it:=λb u e z=>by rw[z,h]at e;cases e
 refine I.step (ch:=[it]) (λb hb=>?_) (λb o _ _ a e _=>k b o (λz=>a (by simp[z])) e) (λb o _ _ a e _=>⟨o.slots,k b o (λz=>a (by simp[z])) e⟩) (λ_ _ _ _ n=>n)
  (λb o a e=>⟨o,k b o (λz=>a (by simp[z])) e⟩) (λ_ _ e=>e) (λ_ _ _ e=>e) (λb t e=>⟨#[],by rw[e];simp⟩) (λm l=>?_) (λb u e=>?_) I.bare
 .have e:b=it:=by simpa using hb
  subst e;exact⟨h1,f,h2,h3⟩
 .obtain⟨o,g,j,i,r⟩:=l;exact⟨o,g,j,k _ o (Ne.symm f) i,r⟩
 .refine (I.hok b u e).stay (λc v a q=>k c v ?_ q) (λ_ q=>q) λ_ _ q=>q;rcases a with z |z
  .rw[z];exact d b u e
  .exact d c _ z
theorem Inv.tok(I:Inv X U_ σ H s)(t):Inv X U_ σ H {s with toks:=t }:=I.un Un.refl I.hok
theorem Inv.kept(I:Inv X U_ σ H s)(k:∀b u,s.heap.get? b=some u->h'.get? b=some u):Inv X U_ σ H {s with heap:=h',toks:=t' }:=I.un (Un.kept k) (I.hok.kept k)
theorem Inv.laid(I:Inv X U_ σ H s)(k:∀b u,s.heap.get? b=some u->h'.get? b=some u)(d:s.heap.objs.size<=a)(c:cH X.prog X.w (upd H a o) h' a o):
  Inv X U_ σ (upd H a o) {s with heap:=h',toks:=t' }:=I.un (Un.laid k d (I.hok.fresh d)) (I.hok.laid k d c)
theorem Inv.write(I:Inv X U_ σ H s)(d:Mut (H x))(c:e=x\/H e=some (.own x))(k:∀b u,b≠e->s.heap.get? b=some u->h'.get? b=some u)(a:∃u,h'.get? e=some u)
  (new:cH X.prog X.w (upd H x o) h' x o):Inv X U_ σ (upd H x o) {s with heap:=h',toks:=t' }:=I.un (Un.write d c k a) (I.hok.write d c k a new)
theorem Inv.weak(I:Inv X U_ σ H s)(d:Vb.length=σ.length)(w:∀(i:Nat) v,Vb[i]?=some (some v)->σ[i]?=some (some v)):Inv X U_ Vb H s:=
 ⟨I.ok,I.os,I.bare,I.base,let ⟨m,hn,Vy⟩:=I.loc;⟨m,hn,λi x v a b c=>Vy i x v a (w i v b) c⟩,I.cell,I.free,I.freeC,I.pin,I.hok,d.trans I.len⟩
theorem Inv.pins_of(I:Inv X U_ σ H s)(h:∀p∈pins',s.heap.get? p.1=some p.2/\H p.1=none/\p.1≠X.env.locals/\p.1 ∉ X.fs/\∀v,p.2.data≠.cell v):Inv X pins' σ H s:=
 ⟨I.ok,I.os,I.bare,I.base,I.loc,I.cell,I.free,I.freeC,λp a=>(JB.mp a).elim (λz=>I.pin p (JO _ z)) (h p),I.hok,I.len⟩
theorem l7{N:List Str}(e:N.Nodup){i j:Nat}(a:N[i]?=some x)(b:N[j]?=some x):i=j:=by
 obtain⟨f,d⟩:=I_.mp a;obtain⟨g,c⟩:=I_.mp b;exact (Qc e).mp (d.trans c.symm)
theorem ik(I:Inv X U_ σ H s)(hN:X.N.Nodup)(O:X.N[i]?=some x)(t:Loc X.env.scope x)(r:aS v u)
  (h:∀Y,Inv X U_ (σ.set i (some v)) H Y->(∃a,Ms a s.heap Y.heap/\(a=X.env.locals\/X.env.cells.lookup x=some a))->Q () Y) (hf:autoParam (X.fn x=true\/X.env.scope.names.lookup x=some .local) v3):JN M A (Ut X.env x u) Q E s:=by
 obtain⟨m,U,hl⟩:=id I.loc;have G:(X.env.scope.kind==.class || (X.env.scope.kind==.module && X.env.locals !=X.env.globals))=false:=by rw[I.ok.kind];rfl
 have Xz:i<σ.length:=by rw[I.len];exact (I_.mp O).1
 have cne:=I.cne
 have VT:∀{a}{h'},(∃o,s.heap.get? a=some o/\H a=none)->Ms a s.heap h'->HOk X.prog X.w H h':=λ{a h'} ha f b ob e=>by
  obtain⟨_,_,XM⟩:=ha;refine (I.hok b ob e).stay (λc P l q=>(f.2 c ?_).trans q) (λ_ q=>q) λ_ _ q=>q;rintro rfl;rcases l with rfl |l
  .rw[XM]at e;cases e
  .rw[XM]at l;cases l
 rcases t with C |C
 .refine wpAny_storeName_local C U (λh' XA f=>?_) G;obtain⟨oL,_,_,hoL,_⟩:=id U;refine h _ ⟨I.ok,I.os,I.bare,⟨λb o e n hb t=>?_,λb o e n hb t=>?_,I.base.free,λb o e t=>?_,I.base.tups,I.base.frzs,I.base.tbls⟩,⟨_,XA,λj y v' g B V=>?_⟩,λy c e=>?_,I.free,I.freeC,λp Z=>?_,VT ⟨oL,hoL,I.free⟩ f,by simpa using I.len⟩ ⟨_,f,.inl rfl⟩
  .exact (f.2 b (Jv (IZ (Jc e) I.ok.above))).trans (I.base.keep b o e n hb t)
  .obtain⟨sl,g⟩:=I.base.slot b o e n hb t;exact⟨sl,(f.2 b (Jv (IZ (Jc e) I.ok.above))).trans g⟩
  .obtain⟨W,g⟩:=I.base.there b o e t;exact⟨W,(f.2 b (Jv (IZ (Jc e) I.ok.above))).trans g⟩
  .by_cases D:j=i
   .subst D;rw[O]at g;cases g;rw[Ob Xz]at B;cases B;exact⟨u,r,.inl ⟨C,by simp⟩⟩
   .rw[JA (Ne.symm D)]at B;obtain⟨u',T,q⟩:=hl j y v' g B V;refine⟨u',T,?_⟩;rcases q with ⟨k,e⟩ |⟨k,c,e,z⟩
    .refine .inl ⟨k,?_⟩;have:y≠x:=λe=>D (l7 hN g (e ▸ O));simp[this,e]
    .exact .inr ⟨k,c,e,z.sameBut f (cne y c e)⟩
  .obtain⟨P,z⟩:=I.cell y c e;exact⟨P,z.sameBut f (cne y c e)⟩
  .obtain⟨e,n,S,nf,d⟩:=I.pin p Z;exact⟨(f.2 p.1 S).trans e,n,S,nf,d⟩
 .have F:X.fn x=true:=by
   rcases hf with z |z
   .exact z
   .rw[z]at C;cases C
  obtain⟨c,l⟩:=I.ok.has x (.inl C);obtain⟨P,z⟩:=I.cell x c l;refine wpAny_storeName_cell I.ok.kind C l z (λh' XN f=>?_);obtain⟨oc,K,J⟩:=id z;refine h {s with heap:=h' } ⟨I.ok,I.os,I.bare,⟨λb o e n hb t=>?_,λb o e n hb t=>?_,I.base.free,λb o e t=>?_,I.base.tups,I.base.frzs,I.base.tbls⟩,⟨m,U.sameBut f (Ne.symm (cne x c l)),λj y v' g B V=>?_⟩,λy R e=>?_,I.free,I.freeC,λp Z=>?_,VT ⟨oc,K,I.freeC x c l⟩ f,by simpa using I.len⟩ ⟨c,f,.inr l⟩
  .exact (f.2 b (Jv (IZ (Jc e) (I.ok.cab x c F l)))).trans (I.base.keep b o e n hb t)
  .obtain⟨sl,g⟩:=I.base.slot b o e n hb t;exact⟨sl,(f.2 b (Jv (IZ (Jc e) (I.ok.cab x c F l)))).trans g⟩
  .obtain⟨W,g⟩:=I.base.there b o e t;exact⟨W,(f.2 b (Jv (IZ (Jc e) (I.ok.cab x c F l)))).trans g⟩
  .by_cases D:j=i
   .subst D;rw[O]at g;cases g;rw[Ob Xz]at B;cases B;exact⟨u,r,.inr ⟨.inl C,c,l,XN⟩⟩
   .rw[JA (Ne.symm D)]at B;obtain⟨u',T,q⟩:=hl j y v' g B V;refine⟨u',T,?_⟩;rcases q with q |⟨k,R,e,z'⟩
    .exact .inl q
    .refine .inr ⟨k,R,e,z'.sameBut f ?_⟩;rintro rfl;exact D (l7 hN g (I.ok.inj _ _ _ e l ▸ O))
  .by_cases L:R=c
   .subst L;exact⟨_,XN⟩
   .obtain⟨w2,z2⟩:=I.cell y R e;exact⟨w2,z2.sameBut f L⟩
  .obtain⟨e,n,S,nf,d⟩:=I.pin p Z;refine⟨(f.2 p.1 ?_).trans e,n,S,nf,d⟩;intro q;rw[q,K]at e;have q':=JW e;exact d P (by rw[<-q'];exact J)
theorem fM(I:Inv X U_ σ H s)(d:X.N.Nodup)(c:X.N[i]?=some x)(e:Loc X.env.scope x)(r:aS v u)
  (h:∀a,Inv X U_ (σ.set i (some v)) H a->Q () a) (hf:autoParam (X.fn x=true\/X.env.scope.names.lookup x=some .local) v3):JN M A (Ut X.env x u) Q E s:=
 ik I d c e r (λa b _=>h a b) hf
theorem Inv.call'(I:Inv X U_ σ H s)(f:s'.os=s.os)(u:Un (frs X.stack) ch H H' s.heap s'.heap)(a:HOk X.prog X.w H' s'.heap)(d:Pl s'.gens)
  (WB:∀b∈ch,(b∈X.ex\/X.s₀.heap.objs.size<=b)/\b≠X.env.locals/\(∀x c,X.env.cells.lookup x=some c->c≠b)/\∀p∈X.pn++U_,p.1≠b):Inv X U_ σ H' s':=by
 obtain⟨h',g,i,j,h⟩:=s';have e:=f;subst e;exact I.call u a d WB
end
noncomputable abbrev XK:=Je->Option Jt->Hp->Prop
noncomputable abbrev St:=List (Option V)
noncomputable abbrev VK:=V->Hp->Prop
noncomputable abbrev TE:=St->Hp->VK->Prop
noncomputable abbrev TT:=St->Hp->(Bool->Hp->Prop)->Prop
noncomputable abbrev TA:=St->Hp->(List V->Hp->Prop)->Prop
structure sV where
 nx:St->Hp->Prop
 rt:VK
 bk:St->Hp->Prop:=λ_ _=>False
 ct:St->Hp->Prop:=λ_ _=>False
noncomputable abbrev TS:=sV->St->Hp->Prop
def EP(X:Cx)(U_:List (Jt×Obj))(b:St)(Q:VK)(u:Je)(s':Jd):Prop:=∃v a,Inv X U_ b a s'/\aS v u/\Q v a
def TP(X:Cx)(U_:List (Jt×Obj))(c:St)(Q:Bool->Hp->Prop)(b:Bool)(s':Jd):Prop:=∃a,Inv X U_ c a s'/\Q b a
def AP(X:Cx)(U_:List (Jt×Obj))(d:St)(Q:List V->Hp->Prop)(c:List Je)(s':Jd):Prop:=∃b a,Inv X U_ d a s'/\aY b c/\Q b a
def SP(X:Cx)(U_:List (Jt×Obj))(D:sV)(f:Flow)(s':Jd):Prop:=
 match f with
 | .next=>∃b a,Inv X U_ b a s'/\D.nx b a
 | .brk=>∃b a,Inv X U_ b a s'/\D.bk b a
 | .cont=>∃b a,Inv X U_ b a s'/\D.ct b a
 | .ret u=>∃v b a,Inv X U_ b a s'/\aS v u/\D.rt v a
def PE(X:Cx)(e:Expr)(t:TE):Prop:=
 ∀(b:List (Jt×Obj)) (s:Jd) (a:St) (H:Hp) (Q:VK),Inv X b a H s->t a H Q->JN (JE X.prog X.w) X.A (K0 e X.env) (EP X b a Q) X.xe s
def PT(X:Cx)(e:Expr)(t:TT):Prop:=
 ∀(b:List (Jt×Obj)) (s:Jd) (a:St) (H:Hp) (Q:Bool->Hp->Prop),Inv X b a H s->t a H Q->JN (JE X.prog X.w) X.A (isTrue e X.env (K0 e X.env)) (TP X b a Q) X.xe s
def PW(X:Cx)(e:Expr)(t:TT):Prop:=
 ∀(c:Sem Je) (b:List (Jt×Obj)) (s:Jd) (a:St) (H:Hp) (Q:Bool->Hp->Prop),Inv X b a H s->t a H Q->JN (JE X.prog X.w) X.A (isTrue e X.env c) (TP X b a Q) X.xe s
theorem PW.pt(h:PW X e t):PT X e t:=h _
def PA(X:Cx)(d:List Expr)(t:TA):Prop:=
 ∀(c:Pos) (b:List (Jt×Obj)) (s:Jd) (a:St) (H:Hp) (Q:List V->Hp->Prop),Inv X b a H s->t a H Q->JN (JE X.prog X.w) X.A (spliced (Kv c (IY d X.env))) (AP X b a Q) X.xe s
def PS(X:Cx)(st:LS)(t:TS):Prop:=
 ∀(b:List (Jt×Obj)) (s:Jd) (a:St) (H:Hp) (D:sV),Inv X b a H s->t D a H->JN (JE X.prog X.w) X.A (exec st X.env) (SP X b D) X.xe s
def PSs(X:Cx)(st:List LS)(t:TS):Prop:=
 ∀(b:List (Jt×Obj)) (s:Jd) (a:St) (H:Hp) (D:sV),Inv X b a H s->t D a H->JN (JE X.prog X.w) X.A (execs st X.env) (SP X b D) X.xe s
theorem thn{α:Type}{t:Sem α}{Q b:α->Jd->Prop}(h:JN M A t Q E s)(c:∀a s,Q a s->b a s):JN M A t b E s:=K2 h c λ_ _ x=>x
section
variable {X:Cx}
noncomputable def II(i:Nat):TE:=λa H Q=>∃v,a[i]?=some (some v)/\Q v H
noncomputable def tC(v:V):TE:=λ_ H Q=>Q v H
theorem c0(w:X.N[i]?=some x)(j:Vis X.env.scope x)(d:autoParam ((x==("__debug__":Str))=false) x4)(q:autoParam ((x==("__classdict__":Str))=false) x4):PE X (.Name x U4) (II i):=by
 intro t s o H Q I h;obtain⟨v,e,h⟩:=h;obtain⟨m,k,n⟩:=I.loc;obtain⟨u,r,l⟩:=n i x v w e j;have b:EP X t o Q u s:=⟨v,H,I,r,h⟩;rcases l with ⟨a,p⟩ |⟨a,c,f,g⟩
 .exact T8 (Q9 I.ok.kind a k p b) d
 .rcases a with a |a
  .exact T8 (Rl I.ok.kind a f g b) d
  .exact T8 (wpAny_loadName_free I.ok.kind a f g b q) d
theorem E3{i j U4}:PE X (.Constant (.int i) j U4) (tC (.int i)):=λ_ _ _ H _ I h=>wpAny_Constant_int ⟨.int i,H,I.tok _,⟨_,rfl⟩,h⟩
theorem G7{b j U4}:PE X (.Constant (.bool b) j U4) (tC (.bl b)):=λ_ _ _ H _ I h=>Constant_bool ⟨.bl b,H,I,rfl,h⟩
theorem EG{j U4}:PE X (.Constant .none j U4) (tC .non):=λ_ _ _ H _ I h=>Constant_none ⟨.non,H,I,rfl,h⟩
theorem F3{x j U4}:PE X (.Constant (.str x) j U4) (tC (.str x)):=λ_ _ _ H _ I h=>Calls.Constant_str ⟨.str x,H,I.tok _,⟨_,rfl⟩,h⟩
def Gl(X:Cx)(x:Str):Prop:=X.env.kindOf x=some .globalImplicit
theorem gi(I:Inv X U_ σ H s)(a:Gl X x)(b:X.mg x=some u)(h:Q u s)
  (hd:autoParam ((x==("__debug__":Str))=false) x4):JN (JE X.prog X.w) X.A (K0 (.Name x U4) X.env) Q E s:=
 O7 I.ok.kind a (Calls.loadGlobal_global (by rw[I.ok.glob];exact I.mod.glob.keeps I.bk) b h) hd
theorem de(I:Inv X U_ σ H s)(d:Gl X x)(b:X.mg x=none)(e:KZ x=some u)(h:Q u s)
  (hn:autoParam (x≠"__name__") x4) (hd:autoParam ((x==("__debug__":Str))=false) x4):JN (JE X.prog X.w) X.A (K0 (.Name x U4) X.env) Q E s:=by
 obtain⟨f,a,c⟩:=I.mod.blt;exact O7 I.ok.kind d (Calls.loadGlobal_builtin (by rw[I.ok.glob];exact I.mod.glob.keeps I.bk) b (by rw[I.ok.blt];exact a.keeps I.bk) ((c x hn).trans e) h) hd
theorem je(c:Gl X x)(a:X.mg x=some u)(r:aS v u)(b:autoParam ((x==("__debug__":Str))=false) x4):PE X (.Name x U4) (tC v):=
 λ_ _ _ H _ I h=>gi I c a ⟨v,H,I,r,h⟩ b
theorem CL(d:Gl X x)(b:X.mg x=none)(e:KZ x=some u)(r:aS v u)(a:autoParam (x≠"__name__") x4)(c:autoParam ((x==("__debug__":Str))=false) x4):PE X (.Name x U4) (tC v):=
 λ_ _ _ H _ I h=>de I d b e ⟨v,H,I,r,h⟩ a c
variable {a b:Expr}{ta tb:TE}{U4:Pos}
def PC(X:Cx)(op:CmpOp)(a b:Expr)(t:TE):Prop:=
 ∀(d:List (Jt×Obj)) (s:Jd) (c:St) (H:Hp) (Q:VK),Inv X d c H s->t c H Q->
  JN (JE X.prog X.w) X.A (K0 a X.env) (λv f=>JN (JE X.prog X.w) X.A (K0 b X.env) (λu e=>JN (JE X.prog X.w) X.A (Kc op v u) (EP X d c Q) X.xe e) X.xe f) X.xe s
noncomputable def tB(t:TE):TT:=λb H Q=>t b H λx a=>∃c,x=.bl c/\Q c a
theorem pG(h:PC X op a b t)(e:Lm op b=false:=by first |exact nobehind _ (by decide) (by decide) |rfl):PT X (.Compare a [op] [b] U4) (tB t):=by
 intro n s m H Q I j;refine Qy (thn (h n s m H _ I j) λv p e=>thn e λu w l=>thn l λc r f=>?_) e;obtain⟨x,g,k,o,i⟩:=f;obtain⟨d,rfl,q⟩:=i;cases o;exact Li ⟨g,k,q⟩
theorem Fo(h:PE X e t)(k:∀a,isTrue e X.env a=(do let v <-a;PY e.pos;OX [v] (truthy v)):=by intro _;rfl):PT X e (tB t):=by
 intro l s j H Q I g;refine isTrue_plain (thn (h l s j H _ I g) λv n b=>?_) (k _);obtain⟨x,c,i,m,f⟩:=b;obtain⟨d,rfl,q⟩:=f;cases m;exact Li ⟨c,i,q⟩
variable {tA tB':TT}{rest:List Expr}
noncomputable def IC(t u:TT):TT:=λb H Q=>t b H λc a=>if c=true then u b a Q else Q false a
noncomputable def tOr(t u:TT):TT:=λb H Q=>t b H λc a=>if c=true then Q true a else u b a Q
noncomputable def Id(t:TT):TT:=λb H Q=>t b H λc a=>Q (!c) a
theorem CF(b:PT X a tA):PW X (.BoolOp .And [a] U4) tA:=by
 intro g f s d H Q I h;refine isTrue_and (thn (b f s d H Q I h) λc i e=>?_);cases c with
 |true=>exact isTrue_and_nil e
 |false=>exact e
theorem Gm(b:PT X a tA):PW X (.BoolOp .Or [a] U4) tA:=by
 intro g f s d H Q I h;refine isTrue_or (thn (b f s d H Q I h) λc i e=>?_);cases c with
 |false=>exact isTrue_or_nil e
 |true=>exact e
theorem zx(m:PT X a tA)(j:PW X (.BoolOp .And (b::rest) U4) tB'):PW X (.BoolOp .And (a::b::rest) U4) (IC tA tB'):=by
 intro k i s g H Q I h;refine isTrue_and (thn (m i s g H _ I h) λc l n=>?_);obtain⟨e,d,f⟩:=n;cases c with
 |true=>exact j k i l g e Q d f
 |false=>exact⟨e,d,f⟩
theorem D9(m:PT X a tA)(j:PW X (.BoolOp .Or (b::rest) U4) tB'):PW X (.BoolOp .Or (a::b::rest) U4) (tOr tA tB'):=by
 intro k i s g H Q I h;refine isTrue_or (thn (m i s g H _ I h) λc l n=>?_);obtain⟨e,d,f⟩:=n;cases c with
 |true=>exact⟨e,d,f⟩
 |false=>exact j k i l g e Q d f
theorem FQ(d:PT X a tA):PT X (.UnaryOp .Not a U4) (Id tA):=by
 intro f s e H Q I h;exact isTrue_not (d f s e H (λc b=>Q (!c) b) I h)
noncomputable def HK(ta tb:TE):TE:=λb H Q=>ta b H λx a=>∃c,x=.bl c/\if c=true then tb b a Q else Q (.bl false) a
noncomputable def Ib(ta tb:TE):TE:=λb H Q=>ta b H λx a=>∃c,x=.bl c/\if c=true then Q (.bl true) a else tb b a Q
noncomputable def Hb(ta:TE):TE:=λb H Q=>ta b H λx a=>∃c,x=.bl c/\Q (.bl (!c)) a
theorem FW{op}(h:PE X a t):PE X (.BoolOp op [a] U4) t:=λc s b H Q I d=>BoolOp_one (h c s b H Q I d)
theorem Aa(m:PE X a ta)(k:PE X (.BoolOp .And (b::rest) U4) tb):PE X (.BoolOp .And (a::b::rest) U4) (HK ta tb):=by
 intro i s g H Q I h;refine BoolOp_and (thn (m i s g H _ I h) λv l j=>?_);obtain⟨x,e,f,n,d⟩:=j;obtain⟨c,rfl,d⟩:=d;cases n;refine Li ?_;cases c with
 |true=>exact k i l g e Q f d
 |false=>exact⟨.bl false,e,f,rfl,d⟩
theorem Eh(m:PE X a ta)(k:PE X (.BoolOp .Or (b::rest) U4) tb):PE X (.BoolOp .Or (a::b::rest) U4) (Ib ta tb):=by
 intro i s g H Q I h;refine BoolOp_or (thn (m i s g H _ I h) λv l j=>?_);obtain⟨x,e,f,n,d⟩:=j;obtain⟨c,rfl,d⟩:=d;cases n;refine Li ?_;cases c with
 |false=>exact k i l g e Q f d
 |true=>exact⟨.bl true,e,f,rfl,d⟩
theorem FJ(f:PE X a ta):PE X (.UnaryOp .Not a U4) (Hb ta):=by
 intro i s g H Q I h;refine UnaryOp_ (thn (f i s g H _ I h) λv l j=>?_);obtain⟨x,e,d,k,b⟩:=j;obtain⟨c,rfl,b⟩:=b;cases k;exact not_of (Li ⟨.bl (!c),e,d,rfl,b⟩)
noncomputable def tIf(t:TT)(ta tb:TE):TE:=λa H Q=>t a H λc b=>if c=true then ta a b Q else tb a b Q
theorem rP(m:PT X c tA)(n:PE X a ta)(l:PE X b tb):PE X (.IfExp c a b U4) (tIf tA ta tb):=by
 intro f s e H Q I h;refine wpAny_IfExp (thn (m f s e H _ I h) λd j o=>?_);obtain⟨i,g,k⟩:=o;cases d with
 |true=>exact n f j e i Q g k
 |false=>exact l f j e i Q g k
end
def SqL(K:IR)(H:Hp)(a:Jt)(xs:List V):Prop:=
 Rd H a (.lst xs)\/
  ∃(o:Obj) (its:Array Je) (n:Nat),K.lookup a=some o∧o.cls=.type "list"∧o.dict=none∧o.data=.seq its n∧its.size≤sizeLine∧aY xs its.toList
def SqT(K:IR)(H:Hp)(a:Jt)(xs:List V):Prop:=
 Rd H a (.tup xs)\/
  ∃(o:Obj) (its:Array Je) (n:Nat),K.lookup a=some o∧o.cls=.type "tuple"∧o.data=.seq its n∧its.size≤sizeLine∧aY xs its.toList
noncomputable def Ig:Je->Option V
 | .none=>some .non
 | .bool b=>some (.bl b)
 | .int i _=>some (.int i)
 | .str x _=>some (.str x)
 | .bytes b _=>some (.byt b)
 | .float b _=>some (.flt b)
 | .ref a=>some (.ref a)
 | .type n=>some (.ty n)
 |_=>none
theorem aS.abs(r:aS x u):Ig u=some x:=by
 cases x with
 |non=>cases r;rfl
 |bl _=>cases r;rfl
 |int _=>obtain⟨t,rfl⟩:=r;rfl
 |str _=>obtain⟨t,rfl⟩:=r;rfl
 |byt _=>obtain⟨t,rfl⟩:=r;rfl
 |flt _=>obtain⟨t,rfl⟩:=r;rfl
 |ref _=>cases r;rfl
 |ty _=>cases r;rfl
theorem aS.inj(r:aS x u)(q:aS y u):x=y:=JW (r.abs.symm.trans q.abs)
theorem aY.inj:∀{b a}{c},aY b c->aY a c->b=a:=by
 intro b a c h
 induction h generalizing a with
 |nil=>intro h;cases h;rfl
 |cons r t d=>
  intro h;cases h with
  |cons q k=>rw[r.inj q,d k]
section
variable {X:Cx}{U_:List (Jt×Obj)}{σ:St}{H:Hp}{s:Jd}{a:Jt}{xs ys:List V}
theorem SqL.of{K:IR}(h:H a=some (.lst xs)):SqL K H a xs:=.inl (.inl h)
theorem SqT.of{K:IR}(h:H a=some (.tup xs)):SqT K H a xs:=.inl (.inl h)
theorem Inv.list(I:Inv X U_ σ H s)(h:SqL X.K H a xs):∃its,aY xs its/\PlainL s.heap a its.toArray/\xs.length<=sizeLine:=by
 rcases h with h |⟨o,its,n,d,c,f,b,g,r⟩
 .obtain⟨z,its,n,r,e⟩:=h.ok I.hok;exact⟨its,r,⟨_,n,e,rfl,rfl,rfl⟩,z⟩
 .refine⟨its.toList,r,⟨o,n,I.kIn a o d,c,f,by simpa using b⟩,?_⟩;have e:=r.length;simp only[Jg]at e;lia
theorem Inv.tuple(I:Inv X U_ σ H s)(h:SqT X.K H a xs):∃its,aY xs its/\Q8 s.heap a its.toArray/\xs.length<=sizeLine:=by
 rcases h with h |⟨o,its,n,d,c,b,f,r⟩
 .obtain⟨z,its,r,p⟩:=h.ok I.hok;exact⟨its,r,p,z⟩
 .refine⟨its.toList,r,⟨o,I.kIn a o d,c,n,by simpa using b⟩,?_⟩;have e:=r.length;simp only[Jg]at e;lia
theorem Inv.list_inj(I:Inv X U_ σ H s)(h:SqL X.K H a xs)(h':SqL X.K H a ys):xs=ys:=by
 obtain⟨its,r,⟨o,n,e,_,_,d⟩,_⟩:=I.list h;obtain⟨b,g,⟨i,j,c,_,_,f⟩,_⟩:=I.list h';rw[e]at c;cases c;rw[d]at f;injection f with d1 _
 have:its=b:=by simpa using congrArg Sm d1
 subst this;exact r.inj g
theorem Inv.tuple_inj(I:Inv X U_ σ H s)(h:SqT X.K H a xs)(h':SqT X.K H a ys):xs=ys:=by
 obtain⟨its,r,⟨o,e,_,n,d⟩,_⟩:=I.tuple h;obtain⟨b,g,⟨i,c,_,j,f⟩,_⟩:=I.tuple h';rw[e]at c;cases c;rw[d]at f;injection f with d1 _
 have:its=b:=by simpa using congrArg Sm d1
 subst this;exact r.inj g
end
noncomputable abbrev Cx.wish(X:Cx)(E:Je->Jd->Prop):Cx:={X with xe:=E }
noncomputable abbrev Cx.nox(X:Cx):Cx:=X.wish λ_ _=>False
theorem Cx.Ok.wish{X:Cx}(a:X.Ok)(E):(X.wish E).Ok:=
 ⟨a.mod,a.kind,a.glob,a.blt,a.above,a.inj,a.has,a.cab,a.hd,a.frames,a.stk,a.exf,a.bs,a.bsz,a.noex,a.exfs,a.funs,a.frf⟩
theorem Cx.Ok.unwish{X:Cx}(a:(X.wish E).Ok):X.Ok:=
 ⟨a.mod,a.kind,a.glob,a.blt,a.above,a.inj,a.has,a.cab,a.hd,a.frames,a.stk,a.exf,a.bs,a.bsz,a.noex,a.exfs,a.funs,a.frf⟩
section
variable {X:Cx}{U_:List (Jt×Obj)}{σ:St}{H:Hp}{s:Jd}{E:Je→Jd→Prop}
theorem Inv.wish(I:Inv X U_ σ H s)(E):Inv (X.wish E) U_ σ H s:=⟨I.ok.wish E,I.os,I.bare,I.base,I.loc,I.cell,I.free,I.freeC,I.pin,I.hok,I.len⟩
theorem Inv.unwish(I:Inv (X.wish E) U_ σ H s):Inv X U_ σ H s:=⟨I.ok.unwish,I.os,I.bare,I.base,I.loc,I.cell,I.free,I.freeC,I.pin,I.hok,I.len⟩
theorem SP.unwish(h:SP (X.wish E) U_ D f s'):SP X U_ D f s':=by
 cases f with
 |next=>obtain⟨b,a,I,q⟩:=h;exact⟨b,a,I.unwish,q⟩
 |brk=>obtain⟨b,a,I,q⟩:=h;exact⟨b,a,I.unwish,q⟩
 |cont=>obtain⟨b,a,I,q⟩:=h;exact⟨b,a,I.unwish,q⟩
 |ret u=>obtain⟨v,b,a,I,r,q⟩:=h;exact⟨v,b,a,I.unwish,r,q⟩
theorem PSs.nox{st:List LS}(h:PSs X.nox st t):PSs X st t:=λU_ s σ H D I a=>
 K2 (h U_ s σ H D (I.wish _) a) (λ_ _ q=>q.unwish) λ_ _ z=>False.elim z
end
section
variable {X:Cx}{st:LS}{rest:List LS}{t u:TS}{e:Expr}{te:TE}{U4:Pos}
noncomputable def G5:TS:=λD a H=>D.nx a H
noncomputable def Ik(t u:TS):TS:=λD a H=>t {D with nx:=u D } a H
theorem DA:PSs X [] G5:=λ_ _ a H _ I h=>Nd ⟨a,H,I,h⟩
theorem Bb(d:PS X st t)(i:PSs X rest u):PSs X (st::rest) (Ik t u):=by
 intro a s j H D I h;refine Qd (thn (d a s j H {D with nx:=u D } I h) λf e q=>?_);cases f with
 |next=>
  obtain⟨g,c,b,q⟩:=q;exact i a e g c D b q
 |ret v=>exact q
 |brk=>exact q
 |cont=>exact q
theorem Ds(a:PS X st t):PSs X [st] t:=by
 intro c s b H D I h;refine Qd (thn (a c s b H D I h) λf d q=>?_);cases f with
 |next=>exact Nd q
 |ret v=>exact q
 |brk=>exact q
 |cont=>exact q
theorem Inv.quiet(I:Inv X U_ σ H s):interactive X.env=false:=by simp[interactive,I.ok.kind]
noncomputable def GU(te:TE):TS:=λD a H=>te a H λ_ b=>D.nx a b
theorem ir(d:PE X e te)(hs:autoParam (Kw e none U4.line X.env=pure false) z0):PS X (.Expr e U4) (GU te):=by
 intro g s a H D I h;exact wpAny_Expr_any (thn (d g s a H _ I h) λv i ⟨x,c,b,j,f⟩=>⟨a,c,b,f⟩) I.quiet hs
noncomputable def Ia(te:TE):TS:=λD a H=>te a H D.rt
theorem iS(d:PE X e te):PS X (.Return (some e) U4) (Ia te):=by
 intro g s a H D I h;exact wpAny_Return_some (thn (d g s a H _ I h) λv j ⟨x,c,b,i,f⟩=>⟨x,a,c,b,i,f⟩)
noncomputable def IG(c:TT)(t u:TS):TS:=λD a H=>c a H λb d=>if b=true then t D a d else u D a d
theorem Ef(m:PT X c tc)(n:PSs X a t)(l:PSs X b u):PS X (.If c a b U4) (IG tc t u):=by
 intro f s e H D I h;refine wpAny_If (thn (m f s e H _ I h) λd j o=>?_);obtain⟨i,g,k⟩:=o;cases d with
 |true=>exact n f j e i D g k
 |false=>exact l f j e i D g k
end
noncomputable abbrev TG:=V->St->Hp->(St->Hp->Prop)->Prop
noncomputable abbrev TGs:=List V->St->Hp->(St->Hp->Prop)->Prop
def PG(X:Cx)(a:Expr)(t:TG):Prop:=
 ∀(e:List (Jt×Obj)) (s:Jd) (d:St) (H:Hp) (v:V) (u:Je) (Q:St->Hp->Prop),Inv X e d H s->aS v u->t v d H Q->
  JN (JE X.prog X.w) X.A (T9 a X.env u) (λ_ f=>∃c b,Inv X e c b f/\Q c b) X.xe s
def PGs(X:Cx)(g:List Expr)(t:TGs):Prop:=
 ∀(f:List (Jt×Obj)) (s:Jd) (e:St) (H:Hp) (b:List V) (d:List Je) (Q:St->Hp->Prop),Inv X f e H s->aY b d->t b e H Q->
  JN (JE X.prog X.w) X.A (assignInOrder ((Mp g X.env).map (·.2)) d) (λ_ h=>∃c a,Inv X f c a h/\Q c a) X.xe s
noncomputable abbrev TIp:=V->V->Hp->VK->Prop
def PIp(X:Cx)(op:Operator)(t:TIp):Prop:=
 ∀(b:List (Jt×Obj)) (s:Jd) (a:St) (H:Hp) (x y:V) (v u:Je) (Q:VK),Inv X b a H s->aS x v->aS y u->t x y H Q->
  JN (JE X.prog X.w) X.A (inplaceOp op v u) (EP X b a Q) X.xe s
section
variable {X:Cx}{U4:Pos}
noncomputable def oX(i:Nat):TG:=λv a H Q=>Q (a.set i (some v)) H
theorem aE(c:X.N.Nodup)(b:X.N[i]?=some x)(e:Loc X.env.scope x)(d:autoParam (X.fn x=true\/X.env.scope.names.lookup x=some .local) v3):PG X (.Name x U4) (oX i):=by
 intro j s g H v u Q I r h;exact Pv (fM I c b e r (λf a=>⟨_,H,a,h⟩) d)
noncomputable def HQ:TGs:=λb a H Q=>b=[]/\Q a H
noncomputable def Ew(t:TG)(u:TGs):TGs:=λb d H Q=>∃v r,b=v::r/\t v d H λc a=>u r c a Q
theorem cw:PGs X [] HQ:=by
 intro d s a H b c Q I r h;obtain⟨e,h⟩:=h;subst e;cases r;exact RW ⟨a,H,I,h⟩
theorem aM(m:PG X e t)(k:PGs X es u)
  (hs:autoParam ((Mp (e::es) X.env).map (·.2)=T9 e X.env::(Mp es X.env).map (·.2)) z0):PGs X (e::es) (Ew t u):=by
 intro a s l H o q Q I r h;obtain⟨v,p,d,h⟩:=h;subst d;cases r with
 |cons r f=>
  rw[hs];refine Pc (thn (m a s l H _ _ _ I r h) λ_ j b=>?_);obtain⟨n,c,i,g⟩:=b;exact k a j n c _ _ Q i f g
noncomputable def Gz(K:IR)(n:Nat)(t:TGs):TG:=λv c H Q=>∃a b,v=.ref a/\SqT K H a b/\b.length=n/\t b c H Q
theorem eK(w:X.calm=true)(h:PGs X es t)
  (hn:autoParam ((Mp es X.env).length=n) z0) (Vp:autoParam ((Mp es X.env).findIdx? (·.1)=none) z0):PG X (.Tuple es k U4) (Gz X.K n t):=by
 intro x s q H v u Q I r c;obtain⟨a,l,g,m,p,c⟩:=c;subst g;cases r;obtain⟨its,d,i,z⟩:=I.tuple m;refine assign_Tuple_tuple (I.ok.hd w) i (by simp[hn,<-p,d.length]) Vp λy f=>?_;have j:=I.kept (t':=s.toks) λb o e=>f b o (Jv (Jc e)) e;exact h x _ q H l _ Q j (by simpa using d) c
noncomputable def Da(c:TE)(g:TG):TS:=λD a H=>c a H λx b=>g x a b D.nx
theorem FN(m:PE X e te)(l:PG X tg g)(hs:autoParam (PZ [tg] e U4.line X.env=pure false) z0)(i:autoParam (P1 [tg] e X.env=pure none) z0)
  (h1:autoParam ((Mp [tg] X.env).map (·.2)=[T9 tg X.env]) z0):PS X (.Assign [tg] e U4) (Da te g):=by
 intro b s a H D I h;refine wpAny_Assign_stores (thn (m b s a H _ I h) λv k c=>?_) hs i;obtain⟨x,d,j,n,f⟩:=c;rw[h1];exact thn (l b k a d x v _ j n f) λ_ o q=>q
theorem lZ(n:X.N.Nodup)(m:X.N[i]?=some x)(c:Loc X.env.scope x)(l:PE X e te)(hs:autoParam (Kw e (some (.Name x Vg)) U4.line X.env=pure false) z0)(a:autoParam (X.fn x=true\/X.env.scope.names.lookup x=some .local) v3):
  PS X (.Assign [.Name x Vg] e U4) (Da te (oX i)):=by
 intro o s k H D I h;refine RX (thn (l o s k H _ I h) λv q b=>?_) hs;obtain⟨y,d,j,p,g⟩:=b;exact fM j n m c p (λr f=>⟨_,d,f,g⟩) a
noncomputable def Io(i j:Nat)(ta:TA):TS:=λD a H=>ta a H λc b=>∃v w,c=[v,w]/\D.nx ((a.set i (some v)).set j (some w)) b
theorem F1{kt k2 pt2}(M:X.calm=true)(n:X.N.Nodup)(O:X.N[i]?=some x)(F:X.N[j]?=some y)(L:i≠j)
  (hx:X.env.scope.names.lookup x=some .local) (hy:X.env.scope.names.lookup y=some .local) (ha:PA X [a,b] ta)
  (hw:P1 [.Tuple [.Name x px,.Name y py] kt pt] (.Tuple [a,b] k2 pt2) X.env=pure (some [x,y]))
  (hs:autoParam (PZ [.Tuple [.Name x px,.Name y py] kt pt] (.Tuple [a,b] k2 pt2) U4.line X.env=pure false) z0):
  PS X (.Assign [.Tuple [.Name x px,.Name y py] kt pt] (.Tuple [a,b] k2 pt2) U4) (Io i j ta):=by
 intro r s m H D I h;rw[exec_Assign_arm];refine IP (N4 ?_);rw[hs];refine IP (IX ?_);rw[if_neg (by decide)];refine IP (Tuple_ (thn (ha _ r s m H _ I h) λP f B=>?_));obtain⟨T,k,K,R,g⟩:=B;obtain⟨v,w,C,g⟩:=g;subst C
 obtain⟨d,c,rfl,u,A⟩:∃d c,P=[d,c]/\aS v d/\aS w c:=by
  cases R with
  |cons p q=>
   cases q with
   |cons J Q=>
    cases Q;exact⟨_,_,rfl,p,J⟩
 refine MM ?_ (by show 2<=sizeLine;decide);have E:Inv X r m k {f with heap:=f.heap.push {cls:=.type "tuple",data:=.seq [d,c].toArray } }:=K.kept λb o e=>IU _ e;rw[hw];refine IP (IX ?_);refine IP (Q3 (IP (unpackItems_tuple (items:=#[d,c]) (I.ok.hd M) (IsTup.new f.heap _) λS z=>?_)));have G:=E.kept (t':=f.toks) λb o e=>z b o (Jv (Jc e)) e;refine IP (Pc (Ts (fM G n F (.inl hy) A (λV t=>?_) (.inr hy))));refine Pc (Ts (fM t n O (.inl hx) u (λU l=>RW (IX ?_)) (.inr hx)));rw[Ue _ _ (Ne.symm L)]at l;exact⟨_,k,l,g⟩
noncomputable def H_(i:Nat)(d:TE)(b:TIp):TS:=λD a H=>∃x,a[i]?=some (some x)/\d a H λy c=>b x y c λz e=>D.nx (a.set i (some z)) e
theorem Fz(U:X.N.Nodup)(n:X.N[i]?=some x)(d:Loc X.env.scope x)(R:PE X e te)(P:PIp X op ti)(p:autoParam (X.fn x=true\/X.env.scope.names.lookup x=some .local) v3):
  PS X (.AugAssign (.Name x Vg) op e U4) (H_ i te ti):=by
 intro g s j H D I h;obtain⟨v,C,h⟩:=h;obtain⟨m,B,M⟩:=I.loc;have f:Vis X.env.scope x:=by rcases d with k |k;exact .inl k;exact .inr (.inl k)
 obtain⟨u,r,l⟩:=M i x v n C f;refine wpAny_AugAssign_Name ?_
 have go:JN (JE X.prog X.w) X.A (K0 e X.env) (λw T=>JN (JE X.prog X.w) X.A (inplaceOp op u w) (λr Q=>JN (JE X.prog X.w) X.A (Ut X.env x r) (λ_=>SP X g D .next) X.xe Q) X.xe T) X.xe s:=by
  refine thn (R g s j H _ I h) λw L b=>?_;obtain⟨y,E,K,W,J⟩:=b;refine thn (P g L j E v y u w _ K r W J) λz Z b=>?_;obtain⟨zv,q,F,t,o⟩:=b;exact fM F U n d t (λY G=>⟨_,q,G,o⟩) p
 rcases l with ⟨a,S⟩ |⟨a,c,O,V⟩
 .exact Q9 I.ok.kind a B S go
 .rcases a with a |a
  .exact Rl I.ok.kind a O V go
  .rcases d with k |k
   .have:X.env.scope.names.lookup x=some .free:=a;rw[k]at this;cases this
   .have:X.env.scope.names.lookup x=some .free:=a;rw[k]at this;cases this
noncomputable def ipI(f:Int->Int->Int):TIp:=λx y H Q=>∃i j,x=.int i/\y=.int j/\Q (.int (f i j)) H
theorem Fc:PIp X .Add (ipI λi j=>i+j):=by
 intro g s f H x y v u Q I d a h;obtain⟨i,j,b,c,q⟩:=h;subst b;subst c;obtain⟨t,rfl⟩:=d;obtain⟨e,rfl⟩:=a;exact iadd_int ⟨.int _,H,I.tok _,⟨_,rfl⟩,q⟩
noncomputable def ES(c:TT)(tb:TS):TS:=λD a H=>∃W:Nat->St->Hp->Prop,(∃m,W m a H)/\∀m a H,W m a H->
 c a H λb d=>if b=true then ∃N:St->Hp->Prop,(∀g e,N g e->∃f,f<m/\W f g e)/\tb {D with nx:=N,ct:=N,bk:=D.nx } a d else D.nx a d
theorem zQ(y:Qz (JE X.prog X.w) X.A X.env X.xe)(P:PT X c tc)(F:PSs X Vh tb):PS X (.While c Vh [] U4) (ES tc tb):=by
 intro q s O H D I h;obtain⟨W,⟨L,G⟩,d⟩:=h;refine wpAny_While (codeAny_whileLoop (λn J=>∃x z,Inv X q x z J/\W n x z) ?_ L ⟨O,H,I,G⟩);rintro n M ⟨j,t,K,E⟩;refine MN y (thn (P q M j t _ K (d n j t E)) λb Q C=>?_);obtain⟨r,u,i⟩:=C;cases b with
 |true=>
  obtain⟨N,B,i⟩:=i;rw[if_pos rfl];refine MN y (thn (F q Q j r _ u i) λf R g=>?_);cases f with
  |next=>
   obtain⟨e,a,m,o⟩:=g;obtain⟨k,p,l⟩:=B e a o;exact⟨k,p,e,a,m,l⟩
  |cont=>
   obtain⟨e,a,m,o⟩:=g;obtain⟨k,p,l⟩:=B e a o;exact⟨k,p,e,a,m,l⟩
  |brk=>exact g
  |ret v=>exact g
 |false=>
  rw[if_neg Ku];exact Nd ⟨j,r,u,i⟩
end
structure It where
 go:Nat->Hp->Prop
 yld:Nat->Hp->V->Hp->Prop
 stop:Nat->Hp->Prop
def jK(X:Cx)(U_:List (Jt×Obj))(H:Hp)(b:Jt):Prop:=
 H b=none/\b≠X.env.locals/\b ∉ X.fs/\(b∈X.ex\/X.s₀.heap.objs.size<=b)/\(∀x c,X.env.cells.lookup x=some c->c≠b)/\∀p∈X.pn++U_,p.1≠b
theorem Inv.fpOk(I:Inv X U_ σ H s)(a:s.heap.objs.size<=b)(d:H' b=none):jK X U_ H' b:=by
 refine⟨d,Mt (IZ I.lt a),I.nofs a,.inr (Jy I.sz a),λx c e z=>?_,λp f z=>?_⟩
 .obtain⟨v,q⟩:=I.cell x c e;exact absurd (IZ q.lt (by rw[z];exact a)) (JY _)
 .exact absurd (IZ (Jc (I.pin p f).1) (by rw[z];exact a)) (JY _)
structure wL(P:Jr)(w:J5)(K:IR)(tg:Expr)(J:It)(fp:List Jt)(it:Jt)(tn:Nat->Ma->Prop):Prop where
 mem:it∈fp
 obj:∀i h,tn i h->∀b∈fp,∃o,h.get? b=some o/\∀v,o.data≠.cell v
 keep:∀i h h',tn i h->(∀b∈fp,∀o,h.get? b=some o->h'.get? b=some o)->tn i h'
 item:∀(X:Cx),X.prog=P->X.w=w->X.K=K->X.calm=true->∀(i:Nat) (U_:List (Jt×Obj)) (s:Jd) (σ:St) (H:Hp) (E:Je->Jd->Prop),Inv X U_ σ H s->(∀b∈fp,jK X U_ H b)->tn i s.heap->J.go i H->
  JN (JE P w) X.A (UO (.ref it)) (λr s1=>∃u,r=some u/\
   JN (JE P w) X.A (SV tg (.ref it) u) (λ_ s2=>∃x H',Inv X U_ σ H' s2/\aS x u/\J.yld i H x H'/\tn (i+1) s2.heap/\∀b∈fp,H' b=none) E s1) E s
 done:∀(X:Cx),X.prog=P->X.w=w->X.K=K->X.calm=true->∀(i:Nat) (U_:List (Jt×Obj)) (s:Jd) (σ:St) (H:Hp) (E:Je->Jd->Prop),Inv X U_ σ H s->(∀b∈fp,jK X U_ H b)->tn i s.heap->J.stop i H->
  JN (JE P w) X.A (UO (.ref it)) (λr s1=>r=none/\Inv X U_ σ H s1) E s
 self:∀(A:Kb) (i:Nat) (s:Jd) (Q:Je->Jd->Prop) (E:Je->Jd->Prop),tn i s.heap->Q (.ref it) s->JN (JE P w) A (SW (.ref it)) Q E s
noncomputable abbrev TI:=St->Hp->(It->Hp->Prop)->Prop
def PIE(X:Cx)(U_:List (Jt×Obj))(i:St)(h:Expr)(R:It->Hp->Prop)(c:Je)(e:Jd):Prop:=
 ∃(g:Jt) (f:List Jt) (d:Nat->Ma->Prop) (J:It) (a:Hp),c=.ref g/\Inv X U_ i a e/\wL X.prog X.w X.K h J f g d/\d 0 e.heap/\(∀b∈f,jK X U_ a b)/\R J a
def PI(X:Cx)(e a:Expr)(f:TI):Prop:=
 ∀(c:List (Jt×Obj)) (s:Jd) (b:St) (H:Hp) (R:It->Hp->Prop),Inv X c b H s->f b H R->
  JN (JE X.prog X.w) X.A (K0 a X.env) (λv d=>JN (JE X.prog X.w) X.A (SW v) (PIE X c b e R) X.xe d) X.xe s
theorem vJ(c:s.heap.get? it=some o)(b:o.cls=.type n)(a:o.data=.fields vs)
  (hn:["enumerate","zip","dict_itemiterator","dict_reverseitemiterator","odict_iterator","itertools.zip_longest","itertools.pairwise"].contains n=false) (hQ:Q () s):JN M A (SV tg (.ref it) u) Q E s:=by
 cases tg <;>first
  |exact IX hQ
  | (cases u <;>first
    |exact IX hQ
    | (refine IP (wpAny_load c ?_)
       rw[b,a];show JN M A (if (["enumerate","zip","dict_itemiterator","dict_reverseitemiterator","odict_iterator","itertools.zip_longest","itertools.pairwise"].contains n && vs[0]?==some (OK _))=true then _ else _) Q E s;rw[if_neg (by intro h;rw[hn,Bool.false_and]at h;cases h)];exact IX hQ))
noncomputable def Itl(K:IR)(a:Jt):It:=
 ⟨λi H=>∃b x,SqL K H a b/\b[i]?=some x,λi H x c=>c=H/\∀b,SqL K H a b->b[i]?=some x,λi H=>∃b,SqL K H a b/\b.length<=i⟩
noncomputable def Itt(K:IR)(a:Jt):It:=
 ⟨λi H=>∃b x,SqT K H a b/\b[i]?=some x,λi H x c=>c=H/\∀b,SqT K H a b->b[i]?=some x,λi H=>∃b,SqT K H a b/\b.length<=i⟩
noncomputable def Itr(b:Int)(n:Nat):It:=⟨λi _=>i<n,λi H x a=>a=H/\x=.int (b+i),λi _=>n<=i⟩
theorem w8{P:Jr}{w:J5}{K:IR}{M:Expr}(a g:Jt):wL P w K M (Itl K a) [g] g (λi h=>h.IsListIter g a i) where
 mem:=by simp
 obj:=λi h f b hb=>by
  have e:b=g:=by simpa using hb
  subst e;obtain⟨o,e,c,d⟩:=f;exact⟨o,e,λv z=>by rw[d]at z;cases z⟩
 keep:=λi h J f k=>f.at λo e=>k g (by simp) o e
 item:=by
  intro X t A y L i W s U H E I j f B;subst t A y;obtain⟨S,x,l,q⟩:=B;obtain⟨its,m,p,V⟩:=I.list l;obtain⟨u,Q,ru⟩:=m.get q;obtain⟨r,C,N,D,n,F⟩:=j g (by simp);refine Qm f p.isList (by simpa using Q) λJ G O=>?_;have R:=I.turned (t':=s.toks) (λb o hb e=>(O.2 b hb).trans e) r C D n F;obtain⟨o,e,c,d⟩:=id G;exact⟨u,rfl,vJ e c d (by decide) ⟨x,H,R,ru,⟨rfl,λY hy=>by rw[I.list_inj hy l];exact q⟩,G,λb hb=>(j b hb).1⟩⟩
 done:=by
  intro X t A y L i W s U H E I j f B;subst t A y;obtain⟨S,l,q⟩:=B;obtain⟨its,m,p,V⟩:=I.list l;obtain⟨r,C,N,D,n,F⟩:=j g (by simp);have Z:=m.length;exact QA (I.ok.hd L) f p.isList (by simp;lia) λJ T=>⟨rfl,I.turned (λb o hb e=>T b o hb e) r C D n F⟩
 self:=λ_ _ _ _ _ f h=>wpAny_pyIter_listiter f h
theorem uo{P:Jr}{w:J5}{K:IR}{M:Expr}(a g:Jt):wL P w K M (Itt K a) [g] g (λi h=>h.IsTupleIter g a i) where
 mem:=by simp
 obj:=λi h f b hb=>by
  have e:b=g:=by simpa using hb
  subst e;obtain⟨o,e,c,d⟩:=f;exact⟨o,e,λv z=>by rw[d]at z;cases z⟩
 keep:=λi h J f k=>f.at λo e=>k g (by simp) o e
 item:=by
  intro X t A y L i W s U H E I j f B;subst t A y;obtain⟨S,x,l,q⟩:=B;obtain⟨its,m,p,V⟩:=I.tuple l;obtain⟨u,Q,ru⟩:=m.get q;obtain⟨r,C,N,D,n,F⟩:=j g (by simp);refine wpAny_pyNext_tuple_item f p (by simpa using Q) λJ G O=>?_;have R:=I.turned (t':=s.toks) (λb o hb e=>(O.2 b hb).trans e) r C D n F;obtain⟨o,e,c,d⟩:=id G;exact⟨u,rfl,vJ e c d (by decide) ⟨x,H,R,ru,⟨rfl,λY hy=>by rw[I.tuple_inj hy l];exact q⟩,G,λb hb=>(j b hb).1⟩⟩
 done:=by
  intro X t A y L i W s U H E I j f B;subst t A y;obtain⟨S,l,q⟩:=B;obtain⟨its,m,p,V⟩:=I.tuple l;obtain⟨r,C,N,D,n,F⟩:=j g (by simp);have Z:=m.length;exact wpAny_pyNext_tuple_end (I.ok.hd L) f p (by simp;omega) λJ T=>⟨rfl,I.turned (λb o hb e=>T b o hb e) r C D n F⟩
 self:=λ_ _ _ _ _ f h=>wpAny_pyIter_tupleiter f h
theorem um{P:Jr}{w:J5}{K:IR}{F:Expr}(c:Jt)(f:Int)(n:Nat):wL P w K F (Itr f n) [c] c (λi h=>IsRangeIter h c (f+(i:Nat) *1) ((n:Int)-(i:Nat)) 1) where
 mem:=by simp
 obj:=λi h a b hb=>by
  have e:b=c:=by simpa using hb
  subst e
  exact⟨_,a,λv z=>by
   have Q:=z;cases Q⟩
 keep:=λi h l a k=>k c (by simp) _ a
 item:=by
  intro X y B A u i D s C H E I d a m;subst y B A;obtain⟨j,p,L,q,g,r⟩:=d c (by simp);have W:=Walks.range (prog:=X.prog) (w:=X.w) (I.ok.hd u) c f 1 n;refine W.item i s _ _ m a λv l O G x J=>?_;obtain⟨t,rfl⟩:=G;have M:Inv X D C H {s with heap:=l,toks:=O }:=I.turned (λb o hb e=>J b o (by simpa using hb) e) j p q g r;refine⟨_,rfl,vJ x rfl rfl (by decide) ⟨.int (f+i),H,M,⟨t,?_⟩,⟨rfl,rfl⟩,x,λb hb=>(d b hb).1⟩⟩;rw[Int.mul_one]
 done:=by
  intro X y B A u i D s C H E I d a m;obtain⟨j,p,L,q,g,r⟩:=d c (by simp);exact wpAny_pyNext_range_end (I.ok.hd u) a (by have:n<=i:=m;lia) λl N=>⟨rfl,I.turned (λb o hb e=>N b o hb e) j p q g r⟩
 self:=λ_ _ _ _ _ a h=>wpAny_pyIter_rangeiter a h
section
variable {X:Cx}{tg:Expr}
noncomputable def Ho(K:IR)(d:TE):TI:=λe H R=>d e H λx b=>∃a,x=.ref a/\(∃c,SqL K b a c)/\R (Itl K a) b
noncomputable def IH(K:IR)(d:TE):TI:=λe H R=>d e H λx b=>∃a,x=.ref a/\(∃c,SqT K b a c)/\R (Itt K a) b
theorem B8(k:PE X l tl):PI X tg l (Ho X.K tl):=by
 intro n s m H R I h;refine thn (k n s m H _ I h) λv d f=>?_;obtain⟨x,g,c,r,i⟩:=f;obtain⟨a,e,⟨u,j⟩,q⟩:=i;subst e;cases r;obtain⟨its,t,p,w⟩:=c.list j;refine MP p.isList ?_;refine⟨d.heap.objs.size,[d.heap.objs.size],_,_,g,rfl,c.kept λb o e=>IU _ e,w8 a _,⟨_,Jm _ rfl,rfl,rfl⟩,λb hb=>?_,q⟩;have e:b=d.heap.objs.size:=by simpa using hb
 subst e;exact c.fpOk (IV _) (c.hok.fresh (IV _))
theorem Fb(k:PE X l tl):PI X tg l (IH X.K tl):=by
 intro n s m H R I h;refine thn (k n s m H _ I h) λv d f=>?_;obtain⟨x,g,c,r,i⟩:=f;obtain⟨a,e,⟨u,j⟩,q⟩:=i;subst e;cases r;obtain⟨its,t,p,w⟩:=c.tuple j;refine wpAny_pyIter_tuple p ?_;refine⟨d.heap.objs.size,[d.heap.objs.size],_,_,g,rfl,c.kept λb o e=>IU _ e,uo a _,⟨_,Jm _ rfl,rfl,rfl⟩,λb hb=>?_,q⟩;have e:b=d.heap.objs.size:=by simpa using hb
 subst e;exact c.fpOk (IV _) (c.hok.fresh (IV _))
theorem qD{a c:Int}(I:Inv X U_ σ H s)(i:-(2 ^ 62)<=a)(j:a<2 ^ 62)(k:-(2 ^ 62)<=c)(h:c<2 ^ 62)
  (q:R (Itr a (c-a).toNat) H):JN (JE X.prog X.w) X.A (SW (.ref s.heap.objs.size)) (PIE X U_ σ tg R) E {s with heap:=s.heap.push {cls:=.type "range",data:=.fields #[.int a t,.int c u,.int 1 v] },toks:=tk }:=by
 refine wpAny_pyIter_range (IsRange.new ..) (small_one i j k h) ?_;have d:Inv X U_ σ H {s with heap:=s.heap.push {cls:=.type "range",data:=.fields #[.int a t,.int c u,.int 1 v] },toks:=tk }:=I.kept λb o e=>IU _ e
 refine⟨(s.heap.push {cls:=.type "range",data:=.fields #[.int a t,.int c u,.int 1 v] }).objs.size,[(s.heap.push {cls:=.type "range",data:=.fields #[.int a t,.int c u,.int 1 v] }).objs.size],_,_,H,rfl,
  d.kept λb o e=>IU _ e,um _ a (c-a).toNat,?_,λb hb=>?_,q⟩
 .have f:a+((0:Nat)) *1=a:=by simp
  have g:(((c-a).toNat:Nat))-((0:Nat))=Builtin.Range.rangeSize a c 1:=by rw[rangeSize_one];split <;>lia
  rw[f,g];exact Jm _ rfl
 .have e:b=(s.heap.push {cls:=.type "range",data:=.fields #[.int a t,.int c u,.int 1 v] }).objs.size:=by simpa using hb
  subst e;exact d.fpOk (IV _) (d.hok.fresh (IV _))
noncomputable def GV(ta:TA):TI:=λc H R=>ta c H λb a=>∃j:Int,b=[.int j]/\-(2 ^ 62)<=j/\j<2 ^ 62/\R (Itr 0 j.toNat) a
noncomputable def Hy(ta:TA):TI:=λc H R=>ta c H λb a=>∃i j:Int,b=[.int i,.int j]/\(-(2 ^ 62)<=i/\i<2 ^ 62/\-(2 ^ 62)<=j/\j<2 ^ 62)/\R (Itr i (j-i).toNat) a
theorem xZ(k:Gl X "range")(m:X.mg "range"=none)(i:PA X [a] ta)(hs:autoParam (IY [a] X.env=[(false,K0 a X.env)]) z0):PI X tg (.Call (.Name "range" p) [a] [] U4) (GV ta):=by
 intro n s l H R I h;refine Call_ (de I k m boot_range (PyProof.Rows.callWith_type1 (thn (i U4 n s l H _ I h) λx v d=>?_) hs rfl));obtain⟨w,u,g,o,b⟩:=d;obtain⟨j,e,b,c,q⟩:=b;subst e;cases o with
 |cons r f=>
  cases f;obtain⟨t,rfl⟩:=r;exact call_range_1 (qD g (by lia) (by lia) b c (by simpa using q))
theorem xM(o:Gl X "range")(w:X.mg "range"=none)(n:PA X [a,b] ta)(hs:autoParam (IY [a,b] X.env=[(false,K0 a X.env),(false,K0 b X.env)]) z0)(c:autoParam (IY [b] X.env=[(false,K0 b X.env)]) z0):
  PI X tg (.Call (.Name "range" p) [a,b] [] U4) (Hy ta):=by
 intro x s u H R I h;refine Call_ (de I o w boot_range (PyProof.Rows.callWith_type1 (thn (n U4 x s u H _ I h) λD A ⟨B,z,m,y,f⟩=>?_) (by rw[hs,c]) (by rw[c];rfl)));obtain⟨i,j,e,⟨f,l,g,v⟩,q⟩:=f;subst e;cases y with
 |cons r d=>
  cases d with
  |cons k d=>
   cases d;obtain⟨t,rfl⟩:=r;obtain⟨C,rfl⟩:=k;exact call_range_2 (qD m f l g v q)
noncomputable def IA(h:TI)(g:TG)(tb:TS):TS:=λD a H=>h a H λJ f=>∃W:Nat->Nat->St->Hp->Prop,(∃m,W 0 m a f)/\∀i m a H,W i m a H->
 (J.stop i H/\D.nx a H)\/(J.go i H/\∃N:St->Hp->Prop,(∀e b,N e b->∃d,d<m/\W (i+1) d e b)/\∀x b,J.yld i H x b->g x a b λc j=>tb {D with nx:=N,ct:=N,bk:=D.nx } c j)
noncomputable def ki(fp:List Jt)(h:Ma):List (Jt×Obj):=fp.filterMap λb=>(h.get? b).map λo=>(b,o)
theorem c8(a:b∈fp)(e:h.get? b=some o):(b,o)∈ki fp h:=N5.mpr ⟨b,a,by rw[e];rfl⟩
theorem yg(c:p∈ki fp h):p.1∈fp/\h.get? p.1=some p.2:=by
 obtain⟨b,hb,e⟩:=N5.mp c;cases q:h.get? b with
 |none=>rw[q]at e;cases e
 |some o=>
  rw[q]at e;have a:=JW e;subst a;exact⟨hb,q⟩
theorem Inv.pinned(I:Inv X U_ σ H s)(i:∀b∈fp,jK X U_ H b)(j:∀b∈fp,∃o,s.heap.get? b=some o/\∀v,o.data≠.cell v):Inv X (U_++ki fp s.heap) σ H s:=
 I.pins_of λp h=>(JB.mp h).elim (λz=>I.pin p (Jf _ z)) λz=>by
  obtain⟨hb,e⟩:=yg z;obtain⟨c,g,f,_⟩:=i p.1 hb;obtain⟨o,a,d⟩:=j p.1 hb;rw[e]at a;cases a;exact⟨e,c,g,f,d⟩
theorem Inv.unpinned(I:Inv X (U_++pl) σ H s):Inv X U_ σ H s:=I.pins_of λp a=>I.pin p (Jf _ (JO _ a))
theorem Gu(L:Qz (JE X.prog X.w) X.A X.env X.xe)(hc:X.calm=true)(hi:PI X tg iter wi)(hg:PG X tg g)(k:PSs X Vh tb)
  (hs:∀x,Kf iter X.env x=pure x:=by intro _;rfl):PS X (.For tg iter Vh [] U4) (IA wi g tb):=by
 intro y s σ H D I h;refine wpAny_For (thn (hi y s σ H _ I h) λv s1 h1=>thn h1 λitv s2 h2=>?_) hs;obtain⟨it,E,tn,J,H2,e,I2,T,st2,V,W,⟨m0,w0⟩,K⟩:=h2;subst e;have c:∀{q},(∀b∈E,q b=none)->∀b∈E,jK X y q b:=λhn b k=>⟨hn b k,(V b k).2⟩
 refine codeAny_forLoop_any (λn s'=>∃i C q,Inv X y C q s'/\tn i s'.heap/\(∀b∈E,q b=none)/\W i n C q) ?_ m0 ⟨0,σ,H2,I2,st2,λb k=>(V b k).1,w0⟩;rintro n Z ⟨i,M,O,Y,st3,z,w3⟩;rcases K i n M O w3 with ⟨B,qn⟩ |⟨go,N,hN,step⟩
 .refine MN L (thn (T.done X rfl rfl rfl hc i y Z M O X.xe Y (c z) st3 B) λr s4 ⟨S,I4⟩=>?_);subst S;exact Nd ⟨M,O,I4,qn⟩
 .refine MN L (thn (T.item X rfl rfl rfl hc i y Z M O X.xe Y (c z) st3 go) λr s4 G=>?_);obtain⟨u,S,h4⟩:=G;subst S;refine MN L (thn h4 λ_ s5 G=>?_);obtain⟨x,H5,I5,r5,y5,st5,Q⟩:=G;have P:=I5.pinned (c Q) (T.obj _ _ st5);refine MN L (thn (hg _ s5 M H5 x u _ P r5 (step x H5 y5)) λ_ s6 G=>?_);obtain⟨U,H6,I6,q6⟩:=G;refine MN L (thn (k _ s6 U H6 _ I6 q6) λf R t=>?_)
  have p:∀{a}{l},Inv X (y++ki E s5.heap) a l R->N a l->∃m,m<n/\∃i C q,Inv X y C q R/\tn i R.heap/\(∀b∈E,q b=none)/\W i m C q:=λ{a l} j F=>by
   obtain⟨m',hm,w7⟩:=hN a l F;refine⟨m',hm,i+1,a,l,j.unpinned,T.keep _ _ _ st5 λb k o e=>(j.pin (b,o) (Jf _ (Jf _ (c8 k e)))).1,λb k=>?_,w7⟩;obtain⟨o,e,d⟩:=T.obj _ _ st5 b k;exact (j.pin (b,o) (Jf _ (Jf _ (c8 k e)))).2.1
  cases f with
  |next=>obtain⟨a,l,j,F⟩:=t;exact p j F
  |cont=>obtain⟨a,l,j,F⟩:=t;exact p j F
  |brk=>obtain⟨a,l,j,t⟩:=t;exact⟨a,l,j.unpinned,t⟩
  |ret v=>obtain⟨x7,a,l,j,r7,t⟩:=t;exact⟨x7,a,l,j.unpinned,r7,t⟩
end
noncomputable abbrev R2:=V->V->Hp->VK->Prop
def OpR(X:Cx)(f:Je->Je->Sem Je)(r:R2):Prop:=
 ∀(b:List (Jt×Obj)) (s:Jd) (a:St) (H:Hp) (x y:V) (v u:Je) (Q:VK),Inv X b a H s->aS x v->aS y u->r x y H Q->
  JN (JE X.prog X.w) X.A (f v u) (EP X b a Q) X.xe s
def UnR(X:Cx)(f:Je->Sem Je)(r:V->Hp->VK->Prop):Prop:=
 ∀(b:List (Jt×Obj)) (s:Jd) (a:St) (H:Hp) (x:V) (v:Je) (Q:VK),Inv X b a H s->aS x v->r x H Q->
  JN (JE X.prog X.w) X.A (f v) (EP X b a Q) X.xe s
def cB(X:Cx)(f:Je)(r:List V->Hp->VK->Prop):Prop:=
 ∀(d:List (Jt×Obj)) (s:Jd) (c:St) (H:Hp) (a:List V) (b:List Je) (Q:VK),Inv X d c H s->aY a b->r a H Q->
  JN (JE X.prog X.w) X.A (call f b) (EP X d c Q) X.xe s
noncomputable def tOp(r:R2)(ta tb:TE):TE:=λa H Q=>ta a H λx b=>tb a b λy c=>r x y c Q
noncomputable def tUn(r:V->Hp->VK->Prop)(ta:TE):TE:=λb H Q=>ta b H λx a=>r x a Q
noncomputable def rI(C:Int->Int->Prop)(g:Int->Int->V):R2:=λx y H Q=>∃i j,x=.int i/\y=.int j/\C i j/\Q (g i j) H
noncomputable def rI0(g:Int->Int->V):R2:=λx y H Q=>∃i j,x=.int i/\y=.int j/\Q (g i j) H
def rU(g:Int->V):V->Hp->VK->Prop:=λx H Q=>∃i,x=.int i/\Q (g i) H
section
variable {X:Cx}{a b c:Expr}{ta tb tc:TE}{U4:Pos}
theorem Gd(p:PE X a ta)(k:PE X b tb){R:V->V->Hp->Prop}(I:Inv X U_ σ H s)
  (h:ta σ H λx g=>tb σ g λy c=>R x y c) {f:Je->Je->Sem Je}
  (hf:∀v u d x y c,Inv X U_ σ c d->aS x v->aS y u->R x y c->JN (JE X.prog X.w) X.A (f v u) Q X.xe d):
  JN (JE X.prog X.w) X.A (K0 a X.env) (λv q=>JN (JE X.prog X.w) X.A (K0 b X.env) (λu r=>JN (JE X.prog X.w) X.A (f v u) Q X.xe r) X.xe q) X.xe s:=by
 refine thn (p U_ s σ H _ I h) λv o e=>?_;obtain⟨x,g,n,t,m⟩:=e;refine thn (k U_ o σ g _ n m) λu d e=>?_;obtain⟨y,c,l,j,i⟩:=e;exact hf v u d x y c l t j i
theorem o0(k:OpR X (Nt op) r)(i:PE X a ta)(e:PE X b tb):PE X (.BinOp a op b U4) (tOp r ta tb):=by
 intro m s j H Q I h;exact wpAny_BinOp (Gd i e I h λv u l x y d f c g q=>k m l j d x y v u Q f c g q)
theorem Hj(g:UnR X (unaryOp op) r)(i:PE X a ta):PE X (.UnaryOp op a U4) (tUn r ta):=by
 intro c s b H Q I h;exact UnaryOp_ (thn (i c s b H _ I h) λv f ⟨x,e,d,k,j⟩=>g c f b e x v Q d k j)
theorem opI{g:Int->Int->Int}
  (rule:∀i j (t u:Tok) s Q E,C i j->Q (.int (g i j) s.toks) {s with toks:=s.toks+1 }->JN (JE X.prog X.w) X.A (f (.int i t) (.int j u)) Q E s):
  OpR X f (rI C λi j=>.int (g i j)):=by
 intro k s e H x y v u Q I a b h;obtain⟨i,j,rfl,rfl,d,q⟩:=h;obtain⟨t,rfl⟩:=a;obtain⟨c,rfl⟩:=b;exact rule i j t c s _ _ d ⟨.int (g i j),H,I.tok _,⟨_,rfl⟩,q⟩
theorem Hn{g:Int->Int->Int}
  (rule:∀i j (t u:Tok) s Q E,Q (.int (g i j) s.toks) {s with toks:=s.toks+1 }->JN (JE X.prog X.w) X.A (f (.int i t) (.int j u)) Q E s):
  OpR X f (rI0 λi j=>.int (g i j)):=by
 intro e s d H x y v u Q I a b h;obtain⟨i,j,rfl,rfl,q⟩:=h;obtain⟨t,rfl⟩:=a;obtain⟨c,rfl⟩:=b;exact rule i j t c s _ _ ⟨.int (g i j),H,I.tok _,⟨_,rfl⟩,q⟩
theorem C7{g:Int->Int->Bool}
  (rule:∀i j (t u:Tok) s Q E,Q (.bool (g i j)) s->JN (JE X.prog X.w) X.A (f (.int i t) (.int j u)) Q E s):
  OpR X f (rI0 λi j=>.bl (g i j)):=by
 intro e s d H x y v u Q I a b h;obtain⟨i,j,rfl,rfl,q⟩:=h;obtain⟨t,rfl⟩:=a;obtain⟨c,rfl⟩:=b;exact rule i j t c s _ _ ⟨.bl (g i j),H,I,rfl,q⟩
def GF(i j:Int):Prop:=0<=j/\j<=1000000/\i.natAbs<2 ^ 64
theorem Fe:OpR X (Nt .Add) (rI0 λi j=>.int (i+j)):=Hn λ_ _ _ _ _ _ _ q=>add_int q
theorem F5:OpR X (Nt .Sub) (rI0 λi j=>.int (i-j)):=Hn λ_ _ _ _ _ _ _ q=>sub_int q
theorem F6:OpR X (Nt .Mod) (rI (λ_ j=>0<j) λi j=>.int (i%j)):=opI λi j _ _ _ _ _ a q=>by
 exact mod_int' (by lia) (by rw[Int.fmod_eq_emod_of_nonneg i (by lia)];exact q)
theorem Fp:OpR X (Nt .Pow) (rI GF λi j=>.int (i ^ j.toNat)):=opI λ_ _ _ _ _ _ _ a q=>pow_int_small a.1 a.2.1 a.2.2 q
theorem unI{g:Int->Int}
  (rule:∀i (t:Tok) s Q E,Q (.int (g i) s.toks) {s with toks:=s.toks+1 }->JN (JE X.prog X.w) X.A (f (.int i t)) Q E s):
  UnR X f (rU λi=>.int (g i)):=by
 intro c s b H x v Q I a h;obtain⟨i,rfl,q⟩:=h;obtain⟨t,rfl⟩:=a;exact rule i t s _ _ ⟨.int (g i),H,I.tok _,⟨_,rfl⟩,q⟩
theorem E2:UnR X (unaryOp .USub) (rU λi=>.int (-i)):=unI λ_ _ _ _ _ q=>neg_int q
theorem ke(I:Inv X U_ σ H s)(q:Q (.bl k) H)(e:k=k'):EP X U_ σ Q (.bool k') s:=by
 subst e;exact⟨.bl k,H,I,rfl,q⟩
theorem G0:OpR X (Kc .Lt) (rI0 λi j=>.bl (decide (i<j))):=C7 λ_ _ _ _ _ _ _ q=>lt_int q
theorem Gx:OpR X (Kc .LtE) (rI0 λi j=>.bl (decide (i<=j))):=C7 λ_ _ _ _ _ _ _ q=>le_int q
theorem Hs:OpR X (Kc .Gt) (rI0 λi j=>.bl (decide (j<i))):=C7 λ_ _ _ _ _ _ _ q=>gt_int q
theorem GS:OpR X (Kc .GtE) (rI0 λi j=>.bl (decide (j<=i))):=C7 λ_ _ _ _ _ _ _ q=>ge_int q
theorem xS:OpR X (Kc .In) (λx y H Q=>∃i j,x=.str i/\y=.str j/\Q (.bl (!(Builtin.Str.occurrences j i 0 j.length 1).isEmpty)) H):=by
 intro e s d H x y v u Q I a b h;obtain⟨i,j,rfl,rfl,q⟩:=h;obtain⟨t,rfl⟩:=a;obtain⟨c,rfl⟩:=b;exact in_str (ke I q rfl)
theorem iM(b)(h:autoParam (op≠.In) x4)(a:autoParam (op≠.NotIn) x4):Lm op b=false:=by
 have d:(op==CmpOp.In)=false:=by cases op <;>first |rfl |exact absurd rfl h
 have c:(op==CmpOp.NotIn)=false:=by cases op <;>first |rfl |exact absurd rfl a
 cases b <;>simp[Lm,d,c]
theorem CQ(k:OpR X (Kc op) r)(i:PE X a ta)(e:PE X b tb)(l:Lm op b=false):PE X (.Compare a [op] [b] U4) (tOp r ta tb):=by
 intro n s j H Q I h;exact wpAny_Compare1 (Gd i e I h λv u m x y d f c g q=>k n m j d x y v u Q f c g q) l
noncomputable def Ea(t:TE):TT:=λb H Q=>t b H λx a=>∃k,x=.bl k/\Q k a
theorem C8(D:OpR X (Kc op) r)(C:PE X a ta)(m:PE X b tb)(E:Lm op b=false):PT X (.Compare a [op] [b] U4) (Ea (tOp r ta tb)):=by
 intro f s d H Q I h
 refine Qy (thn (C f s d H _ I h) λv B ⟨x,n,A,G,w⟩=>thn (m f B d n _ A w) λu F ⟨y,j,o,l,i⟩=>
  thn (D f F d j x y v u _ o G l i) λc J z9=>?_) E
 obtain⟨z,q,t,p,k,e,g⟩:=z9
 subst e;cases p;exact Li ⟨q,t,g⟩
noncomputable def E4(r f:R2)(ta tb tc:TE):TE:=λa H Q=>ta a H λx c=>tb a c λy g=>r x y g λz b=>∃k,z=.bl k/\
 (if k=true then tc a b λd e=>f y d e Q else Q (.bl false) b)
theorem AM(T:OpR X (Kc op) r)(R:OpR X (Kc op') r')(P:PE X a ta)(A:PE X b tb)(S:PE X c tc)
  (hm:lastMarks [op,op'] [b,c]=false:=by with_unfolding_all rfl):PT X (.Compare a [op,op'] [b,c] U4) (Ea (E4 r r' ta tb tc)):=by
 intro g s f H Q I h
 refine isTrue_chain (thn (P g s f H _ I h) λv O ⟨x,B,J,r1,E⟩=>test_link (thn (A g O f B _ J E) λu W ⟨y,w,C,j,o⟩=>
  thn (T g W f w x y v u _ C r1 j o) λd V z9=>?_)) hm
 obtain⟨z,l,m,D,k,e,i⟩:=z9
 subst e;cases D;refine Li ?_;cases k with
 |false=>
  obtain⟨k',N,q'⟩:=i;cases N;exact ite_ff ⟨l,m,q'⟩
 |true=>
  refine ite_tt (test_last (thn (S g V f l _ m i) λq s4 ⟨Z,M,n,G,U⟩=>thn (R g s4 f M y Z u q _ n j G U) λd' s5 t=>?_));obtain⟨z2,Y,F,K,k2,L,p⟩:=t;subst L;cases K;exact Li ⟨Y,F,p⟩
theorem m9:(sizeLine:Nat)<2 ^ 63:=by rw[Lc];decide
theorem tN:OpR X (Nt .Add) (λx y H Q=>∃i j,x=.str i/\y=.str j/\i.length+j.length<=sizeLine/\Q (.str (i++j)) H):=by
 intro g s e H x y v u Q I a b h;obtain⟨i,j,rfl,rfl,d,q⟩:=h;obtain⟨t,rfl⟩:=a;obtain⟨c,rfl⟩:=b;exact add_str (λc f=>⟨.str (i++j),H,I.tok _,⟨_,rfl⟩,q⟩) d
theorem d8(r:aY [x] us):∃u,us=[u]/\aS x u:=by
 cases r with
 |cons a b=>cases b;exact⟨_,rfl,a⟩
theorem i_(r:aY [x,y] us):∃u a,us=[u,a]/\aS x u/\aS y a:=by
 cases r with
 |cons d e=>
  cases e with
  |cons b c=>cases c;exact⟨_,_,rfl,d,b⟩
theorem yX:cB X (.builtin "abs") (λa H Q=>∃i,a=[.int i]∧Q (.int (if i<0 then -i else i)) H):=by
 intro e s d H a b Q I r h;obtain⟨i,rfl,q⟩:=h;obtain⟨u,rfl,t,rfl⟩:=d8 r;exact call_abs_int λu c=>⟨.int (if i<0 then -i else i),H,I.tok _,⟨_,rfl⟩,q⟩
theorem xU(c:X.calm=true):cB X (.builtin "max") (λb H Q=>∃i j,b=[.int i,.int j]∧Q (.int (if j >i then j else i)) H):=by
 intro n s g H b l Q I r h;obtain⟨i,j,rfl,q⟩:=h;obtain⟨u,d,rfl,⟨t,rfl⟩,⟨f,rfl⟩⟩:=i_ r;refine max_two_ints (I.ok.hd c) λe m k=>⟨_,H,I.kept k,?_,q⟩
 by_cases a:j >i
 .rw[if_pos a,if_pos a];exact⟨_,rfl⟩
 .rw[if_neg a,if_neg a];exact⟨_,rfl⟩
theorem wX(c:X.calm=true):cB X (.builtin "min") (λb H Q=>∃i j,b=[.int i,.int j]∧Q (.int (if j<i then j else i)) H):=by
 intro n s g H b l Q I r h;obtain⟨i,j,rfl,q⟩:=h;obtain⟨u,d,rfl,⟨t,rfl⟩,⟨f,rfl⟩⟩:=i_ r;refine min_two_ints (I.ok.hd c) λe m k=>⟨_,H,I.kept k,?_,q⟩
 by_cases a:j<i
 .rw[if_pos a,if_pos a];exact⟨_,rfl⟩
 .rw[if_neg a,if_neg a];exact⟨_,rfl⟩
theorem qw:cB X (.type "str") (λa H Q=>∃i,a=[.int i]∧i.natAbs.log2<1920∧Q (.str (Pd i)) H):=by
 intro e s d H a c Q I r h;obtain⟨i,rfl,b,q⟩:=h;obtain⟨u,rfl,t,rfl⟩:=d8 r;exact PySem.P.str_of_int b ⟨.str _,H,I.tok _,⟨_,rfl⟩,q⟩
end
structure tT(h:Ma)(x dx C:Jt)(mA:Str->Option Je):Prop where
 obj:h.get? x=some (Mh C dx)
 ns:h.Ns1 dx mA
 ne:dx≠x
theorem xN{h:Ma}(n:h.Ns1 dx mA):∃d,h.get? dx=some d/\∀b,Pm b d=some (mA b):=by
 obtain⟨o,f,m,i,k,g,_,j⟩:=n;refine⟨o,i,λb=>?_⟩;have e:=j b;unfold nsFind findBy at e;rw[<-Array.find?_toList]at e;unfold Pm;rw[k];dsimp only;split
 .rename_i y q
  rw[q]at e;exact congrArg some e
 .rename_i q
  rw[q]at e
  have a:f.toList.any (·.refKey)=false:=by
   rw[List.any_eq_false];intro y hy;obtain⟨z,t,c⟩:=g y (OM.mp hy);simp[DictEntry.refKey,c]
  have l:¬ f.toList.any (·.refKey)=true:=by rw[a];exact Ku
  rw[if_neg l];exact congrArg some e
theorem tT.look(I:tT h x dx C mA):∃b,PySem.W.InstAt h x (Mh C dx) C (some b)/\∀a,Pm a b=some (mA a):=
 let ⟨b,ho,hl⟩:=xN I.ns
 ⟨b,⟨I.obj,rfl,rfl,ho⟩,hl⟩
section
variable {prog:Jr}{w:J5}{A:Kb}{E:Je→Jd→Prop}{s:Jd}{K:IR}{x dx C f:Jt}{mA:Str→Option Je}{name:Str}{v:Je}
theorem C6(X:K.In s.heap)(I:tT s.heap x dx C mA)(c:OF K C name=true)(a:Pw K C=true)
  (ha:Lj K (.ref C) name=some none) (hv:mA name=some v) (XO:SE v=true) (h:Q v {s with toks:=s.toks+1 }):
  JN (JE prog w) A (getAttr (.ref x) name expr) Q E s:=by
 obtain⟨d,J,b⟩:=I.look;exact PySem.W.get_value X J (OY c).1 (PySem.W.findObj_own a ha rfl (by rw[b,hv])) XO h
theorem A7(X:K.In s.heap)(I:tT s.heap x dx C mA)(a:OF K C name=true)
  (hf:Lj K (.ref C) name=some (some (.ref f))) (ht:So K (.ref f)=true) (hv:mA name=none) (h:Q (.ref f,[.ref x]) s):
  JN (JE prog w) A (N6 (.ref x) name pl) Q E s:=by
 obtain⟨c,J,b⟩:=I.look;exact PySem.W.method_fn X J (OY a).1 (OY a).2 hf (beq_iff_eq.mp ht) (by show (Pm name c).map (·.isSome)=some false;rw[b,hv];rfl) h
theorem De(X:K.In s.heap)(I:tT s.heap x dx C mA)
  (hs:Lj K (.ref C) "__setattr__"=some (some (.builtin "object.__setattr__"))) (hp:RY K C=true) (ht:QB K C name=some none) (hh:Pw K C=true)
  (hw:Sk mA ns) (Vw:ns.length<=sizeLine)
  (h:∀d,tT d x dx C (λy=>if y=name then some v else mA y)->Ms dx s.heap d->Q () {s with heap:=d,toks:=s.toks+2 }):
  JN (JE prog w) A (setAttr (.ref x) name v) Q E s:=by
 obtain⟨o,J,p⟩:=I.look;refine PySem.W.set_plain X J hs (PySem.W.osa_open X J hp ht λb=>?_);obtain⟨cd,l,i⟩:=PySem.W.any_some hh;have g:=I.obj;refine IP (IX (IP (IP (Rf g (IP (UP (PySem.W.looks_clsIn X l) ?_))))));rw[i];refine IX (IP (IX (IP ?_)));refine wpAny_nsSet1 I.ns λd c a=>?_;obtain⟨n,m,j,f,e,k⟩:=c.count (UW name v hw);refine IP (wpAny_lookBehind f (by rw[e];exact pastItsLine_dict (Jy k (by rw[Ji];lia))) ?_);exact IX (h _ ⟨(a.2 _ (Ne.symm I.ne)).trans I.obj,c,I.ne⟩ a)
theorem AT(X:K.In s.heap)(b:SX K C=true)
  (hi:Lj K (.ref C) "__init__"=some (some (.ref f))) (hf:Tu K (.ref f)=some (.type "function"))
  (h:Og (JE prog w) (A.under (.builtin "type.__call__" ⟨.ref C::vs,kw⟩)) (.call (.ref f) ⟨.ref (s.heap.objs.size+1)::vs,kw⟩) (PySem.W.InitBack (s.heap.objs.size+1) R)
   {s with heap:=(s.heap.push Lz).push (Mh C s.heap.objs.size) }):
  Og (JE prog w) A (.call (.ref C) ⟨vs,kw⟩) R s:=by
 exact PySem.W.make_core (PySem.W.makes_of X b) (PySem.W.looks_findIn X hi) (λa=>PySem.W.bind_fn X a hf) (.inl rfl) h
end
noncomputable def iw(f:Str)(v:V):List (Str×V)->List (Str×V)
 |[]=>[(f,v)]
 | (g,x)::r=>if g=f then (g,v)::r else (g,x)::iw f v r
theorem kS(f g)(v):∀fs,(iw f v fs).lookup g=if g=f then some v else fs.lookup g
 |[]=>by
  show NW g [(f,v)]=_;by_cases h:g=f
  .have hb:=beq_iff_eq.mpr h;simp only[NW,hb,if_pos h]
  .have hb:=beq_eq_false_iff_ne.mpr h;simp only[NW,hb,if_neg h]
 | (k,x)::r=>by
  have b:=kS f g v r;rw[show iw f v ((k,x)::r)=(if k=f then (k,v)::r else (k,x)::iw f v r) from rfl];by_cases a:k=f
  .rw[if_pos a];by_cases h:g=k
   .have hb:=beq_iff_eq.mpr h;simp only[NW,hb,if_pos (h.trans a)]
   .have hb:=beq_eq_false_iff_ne.mpr h;simp only[NW,hb,if_neg (λe:g=f=>h (e.trans a.symm))]
  .rw[if_neg a];by_cases h:g=k
   .have hb:=beq_iff_eq.mpr h;simp only[NW,hb,if_neg (λe:g=f=>a (h.symm.trans e))]
   .have hb:=beq_eq_false_iff_ne.mpr h;simp only[NW,hb];exact b
theorem jX(f)(v):∀fs,f∈(iw f v fs).map (·.1)/\∀g,g∈fs.map (·.1)->g∈(iw f v fs).map (·.1)
 |[]=>⟨by simp[iw],λg h=>by simp at h⟩
 | (k,x)::r=>by
  obtain⟨c,b⟩:=jX f v r;rw[show iw f v ((k,x)::r)=(if k=f then (k,v)::r else (k,x)::iw f v r) from rfl];by_cases a:k=f
  .rw[if_pos a];subst a;exact⟨by simp,λg h=>by simpa using h⟩
  .rw[if_neg a];refine⟨?_,λg h=>?_⟩
   .rw[JF];exact IS _ c
   .rw[JF]at h |-;rcases IT.mp h with e |e
    .exact IT.mpr (.inl e)
    .exact IS _ (b g e)
theorem kE(f)(v):∀fs,(iw f v fs).length<=fs.length+1
 |[]=>by simp[iw]
 | (k,x)::r=>by
  have ih:=kE f v r;rw[show iw f v ((k,x)::r)=(if k=f then (k,v)::r else (k,x)::iw f v r) from rfl];by_cases a:k=f
  .rw[if_pos a,Ji,Ji];lia
  .rw[if_neg a,Ji,Ji];lia
theorem fV.some_of(r:fV (some v) o):∃u,o=some u/\aS v u:=by
 cases o with
 |none=>exact r.elim
 |some u=>exact⟨u,rfl,r⟩
theorem fV.none_of(r:fV none o):o=none:=by
 cases o with
 |none=>rfl
 |some u=>exact r.elim
theorem wO(r:aS v u):SE u=true:=by
 cases v with
 |non=>cases r;rfl
 |bl b=>cases r;rfl
 |int i=>obtain⟨t,e⟩:=r;cases e;rfl
 |str x=>obtain⟨t,e⟩:=r;cases e;rfl
 |byt b=>obtain⟨t,e⟩:=r;cases e;rfl
 |flt b=>obtain⟨t,e⟩:=r;cases e;rfl
 |ref a=>cases r;rfl
 |ty n=>cases r;rfl
section
variable {P:Jr}{w:J5}{H H':Hp}{h h':Ma}{a C dx:Jt}{fs fs':List (Str×V)}
theorem lh(c:HOk P w H h)(e:H a=some (.ins C dx fs)):∃b,tT h a dx C b/\(∀f,fV (fs.lookup f) (b f))/\Sk b (fs.map (·.1))/\fs.length<=1000/\H dx=some (.own a):=by
 obtain⟨d,z,g,i,b,n,r,q⟩:=(c a _ e);exact⟨b,⟨i,n,g⟩,r,q,z,d⟩
end
structure Cls(K:IR)(C:Jt):Prop where
 pg:OF K C Str.empty=true
 hd:Pw K C=true
 po:RY K C=true
 sa:Lj K (.ref C) "__setattr__"=some (some (.builtin "object.__setattr__"))
theorem Cls.get{K:IR}(c:Cls K C)(f):OF K C f=true:=c.pg
def gm(K:IR)(C:Jt)(f:Str):Prop:=Lj K (.ref C) f=some none
theorem gm.taker{K:IR}(n:gm K C f):QB K C f=some none:=by
 unfold QB;rw[show Lj K (.ref C) f=some none from n];rfl
structure pD(K:IR)(C:Jt)(m:Str)(f:Jt):Prop where
 at_:Lj K (.ref C) m=some (some (.ref f))
 fn:So K (.ref f)=true
 kp:Lk K (.ref f)=true
section
variable {X:Cx}{U_:List (Jt×Obj)}{σ:St}{H:Hp}{s:Jd}{a C dx:Jt}{fs:List (Str×V)}{f:Str}{v:V}{A:Kb}{E:Je→Jd→Prop}
theorem uG(I:Inv X U_ σ H s)(e:H a=some (.ins C dx fs))(c:Cls X.K C)(n:gm X.K C f)(l:fs.lookup f=some v)
  (h:∀u d,Inv X U_ σ H d->aS v u->Q u d):JN (JE X.prog X.w) A (getAttr (.ref a) f b) Q E s:=by
 obtain⟨i,O,r,_,_,_⟩:=lh I.hok e;obtain⟨u,g,ru⟩:=fV.some_of (by rw[<-l];exact r f);exact C6 I.kIn O (c.get f) c.hd n g (wO ru) (h u _ (I.tok _) ru)
theorem lO(I:Inv X U_ σ H s)(e:H a=some (.ins C dx fs))(c:Cls X.K C)(k:pD X.K C m g)(l:fs.lookup m=none)
  (h:Q (.ref g,[.ref a]) s):JN (JE X.prog X.w) A (N6 (.ref a) m pl) Q E s:=by
 obtain⟨d,O,r,_,_,_⟩:=lh I.hok e;have b:=fV.none_of (by rw[<-l];exact r m);exact A7 I.kIn O (c.get m) k.at_ k.fn b h
theorem uS(I:Inv X U_ σ H s)(e:H a=some (.ins C dx fs))(c:Cls X.K C)(n:gm X.K C f)(D:fs.length<1000)(m:aS y u)
  (h:∀j,Inv X U_ σ (upd H a (.ins C dx (iw f y fs))) j->Q () j):JN (JE X.prog X.w) A (setAttr (.ref a) f u) Q E s:=by
 obtain⟨l,O,r,i,_,k⟩:=lh I.hok e;have x:(fs.map (·.1)).length<=sizeLine:=by rw[IM,Lc];lia
 refine De I.kIn O c.sa c.po n.taker c.hd i x λt d p=>h _ ?_;have B:∃o,t.get? dx=some o:=let ⟨o,_,_,e',_⟩:=d.ns;⟨o,e'⟩;refine I.write (by rw[e];exact True.intro) (.inr k) (λb q hb z=>(p.2 b hb).trans z) B ?_
 refine⟨by rw[aC O.ne];exact k,?_,O.ne,d.obj,_,d.ns,λg=>?_,λg v=>?_⟩
 .have:=kE f y fs;lia
 .show fV ((iw f y fs).lookup g) (if g=f then some u else l g);rw[kS];by_cases q:g=f
  .rw[if_pos q,if_pos q];exact m
  .rw[if_neg q,if_neg q];exact r g
 .by_cases q:g=f
  .rw[q];exact (jX f y fs).1
  .refine (jX f y fs).2 g (i g λz=>v ?_);show (if g=f then some u else l g)=none;rw[if_neg q];exact z
theorem Inv.made(I:Inv X U_ σ H s):Inv X U_ σ (upd (upd H s.heap.objs.size (.own (s.heap.objs.size+1))) (s.heap.objs.size+1) (.ins C s.heap.objs.size []))
  {s with heap:=(s.heap.push Lz).push (Mh C s.heap.objs.size) }:=by
 have a:(s.heap.push Lz).get? s.heap.objs.size=some Lz:=Jm s.heap rfl
 have f:((s.heap.push Lz).push (Mh C s.heap.objs.size)).get? (s.heap.objs.size+1)=some (Mh C s.heap.objs.size):=by
  have:=Jm (s.heap.push Lz) (o:=Mh C s.heap.objs.size) rfl
  rwa [Ll]at this
 have g:(s.heap.push Lz).Ns s.heap.objs.size (λ_=>none):=⟨Lz,#[],_,a,rfl,(λe h=>absurd h (by simp)),λ_=>rfl⟩
 have d:=I.laid (o:=.own (s.heap.objs.size+1)) (t':=s.toks) (λb u q=>IU _ q) (IV _) ⟨_,a⟩;refine d.laid (λb u q=>IU _ q) (LG (Ll _ _)) ?_;have c:s.heap.objs.size≠s.heap.objs.size+1:=Jv (Kh _);refine⟨by rw[aC c,aA],JZ _,c,f,λ_=>none,(Heap.Ns1.of_empty g).at λo q=>IU _ q,λ_=>True.intro,λy hy=>absurd rfl hy⟩
theorem Cm(a:KW e f env (K0 e env)=K0 e env)
  (h:JN (JE prog w) A (K0 e env) (λo b=>JN (JE prog w) A (getAttr o f true) Q E b) E s):JN (JE prog w) A (K0 (.Attribute e f U4) env) Q E s:=
 Attribute_any_ h (by rw[arm_eval_Attribute,a])
end
noncomputable def HW(K:IR)(ta:TE)(f:Str):TE:=λd H Q=>ta d H λx b=>∃a C c fs v,x=.ref a/\b a=some (.ins C c fs)/\Cls K C/\gm K C f/\fs.lookup f=some v/\Q v b
noncomputable def Im(K:IR)(ta g:TE)(f:Str):TS:=λD b H=>g b H λy e=>ta b e λx d=>∃a C c fs,x=.ref a/\d a=some (.ins C c fs)/\Cls K C/\gm K C f/\fs.length<1000/\
 D.nx b (upd d a (.ins C c (iw f y fs)))
section
variable {X:Cx}{o e Vf:Expr}{f:Str}{U4 Vg tpos:Pos}{ta tv:TE}
theorem FU(r:PE X e ta)(g:KW e f X.env (K0 e X.env)=K0 e X.env):PE X (.Attribute e f U4) (HW X.K ta f):=by
 intro t s o H Q I h;refine Cm g (thn (r t s o H _ I h) λu y d=>?_);obtain⟨x,i,m,b,a,C,w,fs,v,p,k,c,n,l,q⟩:=d;subst p;obtain rfl:u=JR a:=b;exact uG m k c n l λz A j ru=>⟨v,i,j,ru,q⟩
theorem Fs(A:PE X o ta)(i:PE X Vf tv)(hs:Kw Vf (some (.Attribute o f Vg)) U4.line X.env=pure false):PS X (.Assign [.Attribute o f Vg] Vf U4) (Im X.K ta tv f):=by
 intro d s b H D I h;refine plainObj_wpAny_Assign_Attribute (thn (i d s b H _ I h) λu z ⟨y,k,v,m,q⟩=>thn (A d z b k _ v q) λw J j=>?_) hs;obtain⟨x,E,p,e,a,C,F,fs,B,r,c,n,l,g⟩:=j;subst B;obtain rfl:w=JR a:=e;exact uS p r c n l m λG t=>⟨b,_,t,g⟩
end
section
variable {X:Cx}{U_:List (Jt×Obj)}{σ:St}{H:Hp}{s:Jd}{A:Kb}{E:Je→Jd→Prop}{Q:Je→Jd→Prop}{c:Je}{b:Bool}
inductive k7 (K:IR) (H:Hp):V->Je->Prop where
 |non:k7 K H .non (.type "NoneType")
 |bl (x:Bool):k7 K H (.bl x) (.type "bool")
 |int (i:Int):k7 K H (.int i) (.type "int")
 |str (x:Str):k7 K H (.str x) (.type "str")
 |flt (x:UInt64):k7 K H (.flt x) (.type "float")
 |lst {a:Jt}{xs:List V} (e:H a=some (.lst xs)):k7 K H (.ref a) (.type "list")
 |frz {a:Jt}{o:Obj}{xs:List V} (e:H a=some (.frz o (.lst xs))):k7 K H (.ref a) (.type "list")
 |tup {a:Jt}{xs:List V} (e:H a=some (.tup xs)):k7 K H (.ref a) (.type "tuple")
 |dK {a:Jt}{kvs:List (Key×V)} (e:H a=some (.dK kvs)):k7 K H (.ref a) (.type "dict")
 |dT {a:Jt}{kvs:List (List Key×V)} (e:H a=some (.dT kvs)):k7 K H (.ref a) (.type "dict")
 |ins {a C dx:Jt}{fs:List (Str×V)} (e:H a=some (.ins C dx fs)) (cl:Cls K C) (ha:Lj K (.ref C) "__class__"=some (some (.builtin "object.__class__")))
   (hn:PySem.W.specialIn K (.builtin "object.__class__") "__get__"=some (some (.builtin "getset_descriptor.__get__"))) (Wf:PySem.W.takesIn K (.builtin "object.__class__")=some true)
   (hm:P3 K C (.type "object")=some true):k7 K H (.ref a) (.ref C)
theorem dW(I:Inv X U_ σ H s)(d:aS x u)(r:k7 X.K H x t)(e:KS X.K t c=some b)(h:∀G,Q (.bool b) {s with toks:=G }):
  JN (JE X.prog X.w) A (call (.builtin "isinstance") [u,c]) Q E s:=by
 cases r with
 |non=>cases d;exact Ks PySem.W.kitx_none I.kIn True.intro e (λz=>nomatch z) h
 |bl y=>cases d;exact Ks PySem.W.kitx_bool I.kIn True.intro e (λz=>nomatch z) h
 |int i=>obtain⟨t,q⟩:=d;cases q;exact Ks PySem.W.kitx_int I.kIn True.intro e (λz=>nomatch z) h
 |str y=>obtain⟨t,q⟩:=d;cases q;exact Ks PySem.W.kitx_str I.kIn True.intro e (λz=>nomatch z) h
 |flt y=>obtain⟨t,q⟩:=d;cases q;exact Ks PySem.W.kitx_float I.kIn True.intro e (λz=>nomatch z) h
 | @lst a k f=>
  cases d;obtain⟨_,_,n,_,g⟩:=(I.hok a _ f);exact Ks Px I.kIn ⟨_,g,rfl⟩ e (λz=>nomatch z) h
 | @frz a M k f=>
  cases d;obtain⟨_,_,_,n,_,g⟩:=(I.hok a _ f);exact Ks Px I.kIn ⟨_,g,rfl⟩ e (λz=>nomatch z) h
 | @tup a k f=>
  cases d;obtain⟨_,_,_,p⟩:=(I.hok a _ f);obtain⟨o,g,j,_⟩:=p;exact Ks Ry I.kIn ⟨o,g,j⟩ e (λz=>nomatch z) h
 | @dK a l f=>
  cases d;obtain⟨_,_,R,_,p⟩:=(I.hok a _ f);obtain⟨o,v,D,g,j,_⟩:=p;exact Ks RZ I.kIn ⟨o,g,j.1⟩ e (λz=>nomatch z) h
 | @dT a l f=>
  cases d;obtain⟨_,_,k,_,o,v,D,g,j,_⟩:=(I.hok a _ f);exact Ks RZ I.kIn ⟨o,g,j.1⟩ e (λz=>nomatch z) h
 | @ins a C P fs f m ha B L F=>
  cases d;obtain⟨S,O,_⟩:=lh I.hok f;obtain⟨N,J,_⟩:=O.look;exact Ks (PySem.W.kitx_own (m.get _) m.hd ha B L F) I.kIn J e (λz=>nomatch z) h
end
structure bQ(k:Nat)(A:Kb):Prop where
 hd:A.handled=none
 dp:A.depth+3*k+5<Tv
 un:A.units+16*k+200<Mu
theorem bQ.mono(r:bQ k A)(h:j<=k):bQ j A:=⟨r.hd,by have:=r.dp;lia,by have:=r.un;lia⟩
theorem bQ.deeper(r:bQ (k+1) A)(env):bQ k (A.deeper env):=
 ⟨r.hd,by have:=r.dp;show A.depth+1+3*k+5<_;lia,by have:=r.un;show A.units+3+16*k+200<_;lia⟩
theorem uz{A:Kb}:(A.under (.builtin "type.__call__" ⟨.ref C::us,kw⟩)).depth=A.depth+1:=by
 first |rfl |simp[Sq,Code.weight,Code.isCreation,Code.isGuard,Code.isCaller,Code.frames,Code.isFrame,guardIds]
theorem uj{A:Kb}:(A.under (.builtin "type.__call__" ⟨.ref C::us,kw⟩)).units=A.units+1:=by
 first |rfl |simp[Sq,Code.cUnits,Code.frames,Code.isFrame]
theorem bQ.make(r:bQ (k+1) A)(C)(us)(kw):bQ k (A.under (.builtin "type.__call__" ⟨.ref C::us,kw⟩)):=
 ⟨r.hd,by have:=r.dp;rw[uz];omega,by have:=r.un;rw[uj];omega⟩
theorem bQ.depth(r:bQ k A):A.depth<Tv:=by have:=r.dp;lia
noncomputable def Ha:TA:=λ_ H Q=>Q [] H
noncomputable def GQ(ta:TE)(d:TA):TA:=λa H Q=>ta a H λx b=>d a b λc e=>Q (x::c) e
variable {es:List Expr}
section
variable {X:Cx}{e:Expr}{te:TE}{t:TA}{U4:Pos}
theorem cC:PA X [] Ha:=λ_ _ _ _ H Q I h=>Mc ⟨[],H,I,.nil,h⟩
theorem a9(o:PE X e te)(p:PA X es t)(hs:autoParam (IY (e::es) X.env=(false,K0 e X.env)::IY es X.env) z0):PA X (e::es) (GQ te t):=by
 intro U4 b s a H Q I h;rw[hs];refine Ln (thn (o b s a H _ I h) λu n d=>?_);obtain⟨x,i,l,q,k⟩:=d;exact thn (p U4 b n a i _ l k) λr v ⟨m,f,j,g,c⟩=>⟨x::m,f,j,.cons q g,c⟩
noncomputable def HS(t:TA):TE:=λc H Q=>t c H λb a=>b.length<=sizeLine/\∀p,a p=none->Q (.ref p) (upd a p (.tup b))
noncomputable def IE(t:TA):TE:=λc H Q=>t c H λb a=>b.length<=sizeLine/\∀p,a p=none->Q (.ref p) (upd a p (.lst b))
theorem AI{x1}(h:PA X es t):PE X (.Tuple es x1 U4) (HS t):=by
 intro l s j H Q I i;refine wpAny_Tuple_spliced (thn (h U4 l s j H _ I i) λk c ⟨g,f,a,r,z,q⟩=>⟨by rw[<-r.length];exact z,?_⟩);have d:=a.hok.fresh (IV _);refine⟨.ref c.heap.objs.size,upd f c.heap.objs.size (.tup g),a.laid (λb u e=>IU _ e) (IV _) ?_,rfl,q _ d⟩;exact⟨z,k,r,⟨_,Jm _ rfl,rfl,_,rfl⟩⟩
theorem tW(h:PA X es t):PE X (.List es U4) (IE t):=by
 intro l s j H Q I i;refine wpAny_List_spliced (thn (h U4 l s j H _ I i) λk c ⟨g,f,a,r,z,q⟩=>⟨by rw[<-r.length];exact z,?_⟩);have d:=a.hok.fresh (IV _);refine⟨.ref c.heap.objs.size,upd f c.heap.objs.size (.lst g),a.laid (λb u e=>IU _ e) (IV _) ?_,rfl,q _ d⟩;exact⟨z,k,0,r,Jm _ rfl⟩
end
noncomputable abbrev Sp:=List V->Hp->VK->XK->Prop
noncomputable abbrev CXT:=List Env->Hp->Jd->XK->Je->Jd->Prop
structure ub(P:Jr)(w:J5)(K:IR)(mg:Str->Option Je)(base:Ma)(A:Kb)(outer:List Env)(s:Jd)(H:Hp):Prop where
 frames:A.frames=some outer
 mod:Mod K mg base
 bs:∀b o,base.get? b=some o->s.heap.get? b=some o/\H b=none
 bsz:base.objs.size<=s.heap.objs.size
 funs:s.heap.FunFrames base outer
 frf:∀b∈frs outer,H b=none
 hok:HOk P w H s.heap
 bare:Pl s.gens
def CE(a:List Env)(P:Jr)(w:J5)(H:Hp)(s:Jd)(Q:VK)(u:Je)(s':Jd):Prop:=
 ∃v b,s'.os=s.os/\Pl s'.gens/\Un (frs a) [] H b s.heap s'.heap/\HOk P w b s'.heap/\aS v u/\Q v b
def CR(CX:CXT)(a:List Env)(P:Jr)(w:J5)(H:Hp)(s:Jd)(Q:VK)(E:XK)(r:UQ)(s':Jd):Prop:=
 match r with
 | .ok (.ret u)=>CE a P w H s Q u s'
 | .ok _=>False
 | .error e=>CX a H s E e s'
structure bL(P:Jr)(w:J5)(K:IR)(mg:Str->Option Je)(base:Ma)(CX:CXT)(k:Nat)(f:Jt)(fd:LO)(ps:List Str)(sp:Sp):Prop where
 len:∀vs H Q E,sp vs H Q E->vs.length=ps.length
 run:∀(A:Kb) (outer:List Env) (s:Jd) (H:Hp) (args:Args) (us:List Je) (vs:List V) (Q:VK) (E:XK),bQ k A->ub P w K mg base A outer s H->Ug s fd args (ps.zip us)->aY vs us->sp vs H Q E->
  Og (JE P w) A (.call (.ref f) args) (CR CX outer P w H s Q E) s
theorem bL.mono{K:IR}(F:bL P w K mg base CX j f fd ps sp)(h:j<=k):
  bL P w K mg base CX k f fd ps sp:=⟨F.len,λA a s H b d c Q E e=>F.run A a s H b d c Q E (e.mono h)⟩
theorem ub.make{K:IR}(e:ub P w K mg base A outer s H)(C)(us)(kw):
  ub P w K mg base (A.under (.builtin "type.__call__" ⟨.ref C::us,kw⟩)) outer s H:=⟨by first |exact e.frames | (simpa [Sq,Code.envs,Code.isFrame,pushEnvs] using e.frames),e.mod,e.bs,e.bsz,e.funs,e.frf,e.hok,e.bare⟩
section
variable {X:Cx}{U_:List (Jt×Obj)}{σ:St}{H:Hp}{s s':Jd}
theorem Inv.env0(I:Inv X U_ σ H s):ub X.prog X.w X.K X.mg X.base X.A X.stack s H:=
 ⟨I.ok.frames,I.ok.mod,I.bs,Jy I.ok.bsz I.sz,I.stack,I.stkFree,I.hok,I.bare⟩
theorem Inv.after(I:Inv X U_ σ H s)(h:CE X.stack X.prog X.w H s Q u s'):EP X U_ σ Q u s':=by
 obtain⟨v,f,i,a,un,c,r,q⟩:=h;obtain⟨j,g,d,t,e⟩:=s';obtain rfl:e=s.os:=i;exact⟨v,f,I.call un c a (λb z=>absurd z (by simp)),r,q⟩
end
noncomputable def GB(sp:Sp)(d:List V)(E:XK)(t:TA):TE:=λc H Q=>t c H λb a=>sp (b++d) a Q E
noncomputable def G9(C:Jt)(m:Str)(sp:Sp)(g:List V)(E:XK)(ta:TE)(t:TA):TE:=λc H Q=>ta c H λx b=>∃a d fs,x=.ref a/\b a=some (.ins C d fs)/\fs.lookup m=none/\
 t c b λe f=>sp (x::(e++g)) f Q E
noncomputable def Hr(C:Jt)(sp:Sp)(f:List V)(E:XK)(t:TA):TE:=λd H Q=>t d H λc b=>∀x a,b x=none->b a=none->a≠x->
 sp (.ref x::(c++f)) (upd (upd b a (.own x)) x (.ins C a [])) (λv e=>v=.non/\Q (.ref x) e) E
def b7(K:IR)(c:LO)(b:List Str)(ds:List Je):Prop:=
 ∀(s:Jd) (a:List Je),K.In s.heap->(a++ds).length=b.length->Ug s c ⟨a,[]⟩ (b.zip (a++ds))
theorem b7.all{K:IR}(h:∀a,a.length=ps.length->Ot fd ⟨a,[]⟩=pure (ps.zip a)):b7 K fd ps []:=λs a _ b=>by
 rw[Km]at b |-;exact .of_eq (h a b)
def bO(CX:CXT)(X:Cx)(E:XK):Prop:=∀(c:List (Jt×Obj)) (b:St) (H:Hp) (s:Jd) (e:Je) (a:Jd),Inv X c b H s->CX X.stack H s E e a->X.xe e a
section
variable {X:Cx}{CX:CXT}{k:Nat}{f C:Jt}{fd:LO}{ps:List Str}{sp:Sp}{Wc:List V}{ds:List Je}{E:XK}{x m:Str}{p U4 U7:Pos}{e o:Expr}{ta:TE}{t:TA}
theorem yl(F:bL X.prog X.w X.K X.mg X.base CX k f fd ps sp)(j:bQ k X.A)(c:b7 X.K fd ps ds)(g:aY Wc ds)(l:bO CX X E)
  (I:Inv X U_ σ H s) (r:aY vs us) (h:sp (vs++Wc) H Q E):JN (JE X.prog X.w) X.A (call (.ref f) us) (EP X U_ σ Q) X.xe s:=by
 have b:=r.append g;have d:(us++ds).length=ps.length:=by rw[<-b.length];exact F.len _ _ _ _ h
 refine Py (Nf (F.run X.A X.stack s H ⟨us,[]⟩ (us++ds) (vs++Wc) Q E j I.env0 (c s us I.kIn d) b h) λr i a=>?_);cases r with
 |error e=>exact l U_ σ H s e i I a
 |ok fl=>
  cases fl with
  |ret u=>exact I.after a
  |next=>exact False.elim a
  |brk=>exact False.elim a
  |cont=>exact False.elim a
theorem ii(F:bL X.prog X.w X.K X.mg X.base CX k f fd ps sp)(i:bQ k X.A)(g:Gl X x)(l:X.mg x=some (.ref f))(d:Lk X.K (.ref f)=true)(c:b7 X.K fd ps ds)(m:aY Wc ds)(b:bO CX X E)
  (ha:PA X (e::es) t) (Vs:autoParam ((x==("__debug__":Str))=false) x4) (he:autoParam (IY (e::es) X.env=(false,K0 e X.env)::IY es X.env) z0) (Vk:autoParam ((Kv U4 (IY es X.env)).any (·.1)=false) z0):
  PE X (.Call (.Name x p) (e::es) [] U4) (GB sp Wc E t):=by
 intro n s j H Q I h;refine Kn (gi I g l ?_ Vs);refine Pe I.ok.mod.kin d (thn (ha U4 n s j H _ I h) λy u ⟨v,o,a,r,q⟩=>⟨a.kIn,?_⟩) he Vk;exact yl F i c m b a r q
theorem pW(N:PE X o ta)(c:Cls X.K C)(i:pD X.K C m f)(F:bL X.prog X.w X.K X.mg X.base CX k f fd ps sp)(L:bQ k X.A)(z:b7 X.K fd ps ds)(O:aY Wc ds)(y:bO CX X E)(J:PA X (e::es) t)
  (Vp:autoParam (IY (e::es) X.env=(false,K0 e X.env)::IY es X.env) z0) (Vk:autoParam ((Kv U4 (IY es X.env)).any (·.1)=false) z0)
  (ht:autoParam (K0 (.Call (.Attribute o m U7) (e::es) [] U4) X.env=(do
   let ov <-K0 o X.env
   PY U7.atName
   let (f,first) <-OX [ov] (N6 ov m pl)
   P4 U4 f first (Kv U4 (IY (e::es) X.env)) (MU U4 (Ld [] X.env)))) z0):
  PE X (.Call (.Attribute o m U7) (e::es) [] U4) (G9 C m sp Wc E ta t):=by
 intro j s g H Q I h;refine QC (thn (N j s g H _ I h) λu G v=>?_) ht;obtain⟨x,B,d,n,a,R,fs,M,D,l,q⟩:=v;subst M;obtain rfl:u=JR a:=n;refine lO d D c i l ?_;refine Pe I.ok.mod.kin i.kp (thn (J U4 j G g B _ d q) λS T ⟨vs,P,b,r,p⟩=>⟨b.kIn,?_⟩) Vp Vk;exact yl (vs:=.ref a::vs) F L z O y b (.cons rfl r) p
structure Mk(K:IR)(C f:Jt):Prop where
 makes:SX K C=true
 init:Lj K (.ref C) "__init__"=some (some (.ref f))
 fn:So K (.ref f)=true
 kp:Lk K (.ref C)=true
theorem zO(M:Mk X.K C f)(F:bL X.prog X.w X.K X.mg X.base CX k f fd ps sp)(q:bQ (k+1) X.A)(m:b7 X.K fd ps ds)(y:aY Wc ds)
  (hx:bO CX X E) (I:Inv X U_ σ H s) (r:aY vs us)
  (h:∀x b,H x=none->H b=none->b≠x->sp (.ref x::(vs++Wc)) (upd (upd H b (.own x)) x (.ins C b [])) (λv l=>v=.non/\Q (.ref x) l) E):
  JN (JE X.prog X.w) X.A (call (.ref C) us) (EP X U_ σ Q) X.xe s:=by
 have g:=h (s.heap.objs.size+1) s.heap.objs.size (I.hok.fresh (UE _)) (I.hok.fresh (IV _)) (Jv (Kh _));have c:=Inv.made (C:=C) I;have d:aY (V.ref (s.heap.objs.size+1)::(vs++Wc)) (JR (s.heap.objs.size+1)::(us++ds)):=.cons rfl (r.append y)
 have p:(JR (s.heap.objs.size+1)::us++ds).length=ps.length:=by
  have e:=d.length;rw[F.len _ _ _ _ g]at e;exact e.symm
 refine Py (AT I.kIn M.makes M.init (beq_iff_eq.mp M.fn) (Nf (F.run _ X.stack _ _ ⟨JR (s.heap.objs.size+1)::us,[]⟩ (JR (s.heap.objs.size+1)::(us++ds)) _ _ E (q.make C us [])
  (c.env0.make C us []) (m _ (JR (s.heap.objs.size+1)::us) c.kIn p) d g) λr n a=>?_))
 cases r with
 |error e=>exact hx U_ σ _ _ e n c a
 |ok fl=>
  cases fl with
  |ret u=>
   obtain⟨v,t,o,j,ev,i⟩:=c.after a;subst ev;exact⟨j,⟨V.ref (s.heap.objs.size+1),t,o,rfl,i⟩⟩
  |next=>exact False.elim a
  |brk=>exact False.elim a
  |cont=>exact False.elim a
theorem Bw(M:Mk X.K C f)(F:bL X.prog X.w X.K X.mg X.base CX k f fd ps sp)(e:bQ (k+1) X.A)(d:Gl X x)(b:X.mg x=some (.ref C))(a:b7 X.K fd ps ds)(c:aY Wc ds)(g:bO CX X E)
  (Vs:autoParam ((x==("__debug__":Str))=false) x4):PE X (.Call (.Name x p) [] [] U4) (Hr C sp Wc E Ha):=by
 intro j s i H Q I h;refine Kn (gi I d b ?_ Vs);exact PySem.W.callWith_K0 I.kIn M.kp (zO M F e a c g I .nil h)
end
structure aq(N P:List Str)(sc:Rx):Prop where
 kind:sc.kind=.function
 co:sc.isCoroutine=false
 gen:sc.isGenerator=false
 nd:N.Nodup
 pre:N.take P.length=P
 par:∀x∈P,sc.names.lookup x=some .local\/sc.names.lookup x=some .cell
 nofree:∀y∈sc.names,y.2≠.free
theorem oU{a:Str->Option Q4}:∀{binds}{m},(∀v,(x,v) ∉ binds)->UX a binds m x=m x
 |[],_,_=>rfl
 | (n,v)::r,m,h=>by
  unfold UX;rw[oU λw b=>h w (IS _ b)];split
  .have:x≠n:=by rintro rfl;exact h v IW
   simp[this]
  .rfl
theorem og{a:Str->Option Q4}:∀{binds}{m},(∀v,(x,v) ∉ binds)->UY a binds m x=m x
 |[],_,_=>rfl
 | (n,v)::r,m,h=>by
  unfold UY;rw[og λw b=>h w (IS _ b)];split
  .rfl
  .have:x≠n:=by rintro rfl;exact h v IW
   simp[this]
theorem oO{a:Str->Option Q4}:∀{P:List Str}{b}{i:Nat}{m},P.Nodup->P[i]?=some x->b[i]?=some v->a x=some .local->
  UX a (P.zip b) m x=some v
 |[],_,_,_,_,h,_,_=>by simp at h
 |_::_,[],_,_,_,_,h,_=>by simp at h
 |p::P,w::b,0,m,nd,h1,h2,hk=>by
  simp at h1 h2;subst h1;subst h2;show UX a ((p,w)::P.zip b) m p=_;unfold UX;rw[oU λv c=>(MQ.mp nd).1 (QD c).1,if_pos hk];simp
 |p::P,w::b,i+1,m,nd,h1,h2,hk=>by
  unfold UX;exact oO (MQ.mp nd).2 (by simpa using h1) (by simpa using h2) hk
theorem oR{a:Str->Option Q4}:∀{P:List Str}{b}{i:Nat}{m},P.Nodup->P[i]?=some x->b[i]?=some v->a x≠some .local->
  UY a (P.zip b) m x=some v
 |[],_,_,_,_,h,_,_=>by simp at h
 |_::_,[],_,_,_,_,h,_=>by simp at h
 |p::P,w::b,0,m,nd,h1,h2,hk=>by
  simp at h1 h2;subst h1;subst h2;show UY a ((p,w)::P.zip b) m p=_;unfold UY;rw[og λv c=>(MQ.mp nd).1 (QD c).1,if_neg hk];simp
 |p::P,w::b,i+1,m,nd,h1,h2,hk=>by
  unfold UY;exact oR (MQ.mp nd).2 (by simpa using h1) (by simpa using h2) hk
noncomputable def start(N:List Str)(vs:List V):St:=vs.map some++Jw (N.length-vs.length) none
noncomputable def dG(CX:CXT)(P:Jr)(w:J5)(K:IR)(mg:Str->Option Je)(base:Ma)(N:List Str)(b:Str)(scope:Rx)(f:Jt)(c:Je)(A:Kb)(outer:List Env)(s:Jd)(H:Hp)(E:XK):Cx where
 prog:=P
 w:=w
 K:=K
 mg:=mg
 base:=base
 A:=A.deeper (NH b scope s.heap.objs.size f c)
 N:=N
 s₀:=s
 H₀:=H
 env:=NH b scope s.heap.objs.size f c
 outer:=outer
 stack:=NH b scope s.heap.objs.size f c::outer
 ex:=[]
 calm:=true
 fn:=λ_=>true
 pn:=[]
 xe:=λe d=>JN (JE P w) (A.deeper (NH b scope s.heap.objs.size f c)) (UF (NH b scope s.heap.objs.size f c) e) (λ_ a=>CX outer H s E e a) (λg a=>CX outer H s E g a) d
theorem qV{a:Rx}(h:a.names.lookup x=some .cell):∃c,(SY n a.names []).lookup x=some c:=by
 have q:=Oc a.names n [] (.inl h);exact KG.mp q
theorem x8{K:IR} 
  (S:aq N ps scope) (hd:A.handled=none) (e0:ub P w K mg base A outer s H) (hl:vs.length=ps.length) (r:aY vs us)
  (x:InCallC s s.heap.objs.size (UX (NH U8 scope s.heap.objs.size f cd).kindOf (ps.zip us) λ_=>none) (SY (s.heap.objs.size+1) scope.names []) (UY (NH U8 scope s.heap.objs.size f cd).kindOf (ps.zip us) λ_=>none) s1):
  Inv (dG CX P w K mg base N U8 scope f cd A outer s H E) [] (start N vs) H s1:=by
 have D:ps.length<=N.length:=by have:=congrArg P5 S.pre;rw[Mq]at this;lia
 obtain⟨m,F,rfl,o⟩:=x.done;have g:∀b,b ∉ (dG CX P w K mg base N U8 scope f cd A outer s H E).ex:=λb z=>absurd (show b∈[] from z) (by simp)
 refine⟨⟨e0.mod,S.kind,rfl,rfl,IV _,λy z c m d=>?_,λy hy=>?_,λy c _ h=>?_,λ_=>hd,Around.frames_deeper e0.frames,.inr ⟨rfl,rfl⟩,λb z=>absurd z (g b),e0.bs,e0.bsz,λb _ _=>g b,λb z=>absurd z (g b),e0.funs,e0.frf⟩,
  rfl,e0.bare,Un.kept o,⟨_,x.toInCall.ns,λi y v m d C=>?_⟩,λy c h=>⟨_,x.cell y c h⟩,e0.hok.fresh (IV _),λy c h=>?_,λp l=>absurd (show p∈[] from l) (by simp),e0.hok.kept o,?_⟩
 .exact name_of_addr x.apart (Le m) (Le d)
 .have hy:=hy;rcases hy with hy |hy
  .exact qV hy
  .exact absurd rfl (S.nofree _ (Le hy))
 .exact Ja (x.above y c (Le h))
 .have n:i<vs.length:=by
   unfold start at d;by_cases n:i<vs.length
   .exact n
   .rw[Jo (by simpa using n)]at d
    rw[Lo]at d;split at d <;>cases d
  have ha:vs[i]?=some v:=by
   unfold start at d;rw[Jn (by simpa using n),I0]at d
   cases e:vs[i]? with
   |none=>rw[e]at d;cases d
   |some a=>rw[e]at d;cases d;rfl
  obtain⟨u,t,B⟩:=r.get ha
  have l:ps[i]?=some y:=by
   rw[<-S.pre,LP (by lia)];exact m
  have j:ps.Nodup:=by rw[<-S.pre];exact S.nd.sublist (R5 _ _)
  refine⟨u,B,?_⟩;rcases S.par y (Jp l) with k |k
  .exact .inl ⟨k,oO j l t k⟩
  .obtain⟨c,e⟩:=qV k;refine .inr ⟨.inl k,c,e,?_⟩;have q:=x.cell y c e;rw[oR j l t (by show scope.names.lookup y≠_;rw[k];decide)]at q
   exact q
 .exact e0.hok.fresh (Ja (x.above y c (Le h)))
 .unfold start;show _=N.length;rw[Jl,IM,KH];lia
theorem G_{K:IR}{O F U L c R oc:Je} 
  (lk:K.lookup f=some ⟨oc,od,.func (Oz name U8 params Vh scope O F U L an c R),osl⟩) (Vq:Rg K c U8=true) (S:aq N ps scope)
  (len:∀d H Q E,sp d H Q E->d.length=ps.length)
  (VJ:∀A a s H d Q E,bQ k (A.deeper (NH U8 scope s.heap.objs.size f c))->sp d H Q E->
   ∃t,PSs (dG CX P w K mg base N U8 scope f c A a s H E) Vh t/\t {nx:=λ_ g=>Q .non g,rt:=Q } (start N d) H):
  bL P w K mg base CX (k+1) f (Oz name U8 params Vh scope O F U L an c R) ps sp:=by
 refine⟨len,λA a s H M us d Q E C j hb r G=>?_⟩;have Z:=len _ _ _ _ G;have D:=j.mod.kin.keeps λb o e=>(j.bs b o e).1;have z:=j.mod.nolimit.keeps λb o e=>(j.bs b o e).1
 have h:∀y∈ps.zip us,scope.names.lookup y.1=some .local\/(scope.names.lookup y.1=some .cell/\((SY (s.heap.objs.size+1) scope.names []).lookup y.1).isSome=true):=λ⟨n,v⟩ hy=>by
  rcases S.par n (QD hy).1 with q |q
  .exact .inl q
  .exact .inr ⟨q,Oc _ _ _ (.inl q)⟩
 refine codeAny_call_function C.depth (D _ _ lk) rfl S.co S.gen rfl (PySem.W.codeRec_of D Vq) (hb _ _ _ _ ?_);refine wpAny_newFunctionEnv_cells S.kind h λX he T x=>?_;subst he;refine⟨z.keeps x.toInCall.keep,codeAny_func ?_⟩;obtain⟨t,Y,hq⟩:=VJ A a s H d Q E (C.deeper _) G;have I:Inv (dG CX P w K mg base N U8 scope f c A a s H E) [] (start N d) H T:=x8 S C.hd j Z r x;refine K2 (Y [] T (start N d) H _ I hq) (λfl B i=>?_) λe B i=>i
 have l:∀{m}{g}{v}{u},Inv (dG CX P w K mg base N U8 scope f c A a s H E) [] m g B->aS v u->Q v g->CE a P w H s Q u B:=
  λ{m g v u} J p q=>⟨v,g,J.os,J.bare,J.base,J.hok,p,q⟩
 cases fl with
 |ret u=>
  obtain⟨v,m,g,J,p,q⟩:=i;exact l J p q
 |next=>
  obtain⟨m,g,J,q⟩:=i;exact l (v:=V.non) J rfl q
 |brk=>
  obtain⟨_,_,_,q⟩:=i;exact False.elim q
 |cont=>
  obtain⟨_,_,_,q⟩:=i;exact False.elim q
section
variable {X:Cx}{x:Str}{p U4:Pos}{e:Expr}{t:TA}{id T:String}{r:List V→Hp→VK→Prop}
noncomputable def tCB(r:List V->Hp->VK->Prop)(t:TA):TE:=λc H Q=>t c H λb a=>r b a Q
theorem jE(o:cB X (.builtin id) r)(n:Gl X x)(q:X.mg x=none)(d:KZ x=some (.builtin id))(m:PA X (e::es) t)(g:autoParam (x≠"__name__") x4)(c:autoParam ((x==("__debug__":Str))=false) x4)
  (he:autoParam (IY (e::es) X.env=(false,K0 e X.env)::IY es X.env) z0) (Vk:autoParam ((Kv U4 (IY es X.env)).any (·.1)=false) z0):PE X (.Call (.Name x p) (e::es) [] U4) (tCB r t):=by
 intro b s a H Q I h;refine Kn (de I n q d ?_ g c);exact PyProof.Rows.callWith_builtin1 (thn (m U4 b s a H _ I h) λu k ⟨l,f,j,v,i⟩=>o b k a f l u Q j v i) he Vk
theorem xA(o:cB X (.type T) r)(n:Gl X x)(q:X.mg x=none)(d:KZ x=some (.type T))(m:PA X (e::es) t)(g:autoParam (x≠"__name__") x4)(c:autoParam ((x==("__debug__":Str))=false) x4)
  (he:autoParam (IY (e::es) X.env=(false,K0 e X.env)::IY es X.env) z0) (Vk:autoParam ((Kv U4 (IY es X.env)).any (·.1)=false) z0):PE X (.Call (.Name x p) (e::es) [] U4) (tCB r t):=by
 intro b s a H Q I h;refine Kn (de I n q d ?_ g c);exact PyProof.Rows.callWith_type1 (thn (m U4 b s a H _ I h) λu k ⟨l,f,j,v,i⟩=>o b k a f l u Q j v i) he Vk
end
end L2
namespace HT
open PySem PyProof.Rows
section
variable {prog:Jr}{w:J5}{A:Kb}{E:Je→Jd→Prop}{s:Jd}
noncomputable def sIx(n d:Nat):Option Int->Nat
 |none=>d
 |some v=>if v<0 then (v+(n:Int)).toNat else min v.toNat n
theorem sIx_none(n d):sIx n d none=d:=rfl
end
end HT
namespace L2
open PySem PySem.Spec PyProof.Rows
noncomputable abbrev TO:=St->Hp->(Option Int->Hp->Prop)->Prop
def PO(X:Cx)(e:Option Expr)(t:TO):Prop:=
 ∀(c:List (Jt×Obj)) (s:Jd) (a:St) (H:Hp) (Q:Option Int->Hp->Prop),Inv X c a H s->t a H Q->
  JN (JE X.prog X.w) X.A (evalPart e X.env) (λu d=>∃o b,Inv X c a b d/\IsPart u o/\Q o b) X.xe s
noncomputable def DF:TO:=λ_ H Q=>Q none H
noncomputable def Hw(t:TE):TO:=λb H Q=>t b H λx a=>∃i,x=.int i/\Q (some i) a
section
variable {X:Cx}{e:Expr}{te:TE}{lo hi:Option Expr}{tl th:TO}{U4 p2:Pos}
theorem Dv:PO X none DF:=by
 intro b s a H Q I h;rw[Rz];exact IX ⟨none,H,I,.none,h⟩
theorem Cl(h:PE X e te):PO X (some e) (Hw te):=by
 intro j s g H Q I d;rw[evalPart_some];refine thn (h j s g H _ I d) λu l a=>?_;obtain⟨x,b,f,k,c⟩:=a;obtain⟨i,rfl,q⟩:=c;obtain⟨t,rfl⟩:=k;exact⟨some i,b,f,.int i t,q⟩
def SlR(X:Cx)(r:V->Option Int->Option Int->Hp->VK->Prop):Prop:=
 ∀(e:List (Jt×Obj)) (s:Jd) (d:St) (H:Hp) (x:V) (v c a:Je) (lo hi:Option Int) (b:Jt) (Q:VK),Inv X e d H s->aS x v->s.heap.IsSliceOf b c a .none->IsPart c lo->IsPart a hi->r x lo hi H Q->
  ∃T f,Q5 (.type T) "__getitem__"=pure (some (.builtin f))∧s.TypeIs v T∧JN (JE X.prog X.w) X.A (R6 v (.ref b)) (EP X e d Q) X.xe s
noncomputable def tSl(r:V->Option Int->Option Int->Hp->VK->Prop)(te:TE)(tl th:TO):TE:=λa H Q=>te a H λx b=>tl a b λl d=>th a d λu c=>r x l u c Q
theorem su(G:SlR X r)(K:PE X e te)(E:PO X lo tl)(B:PO X hi th):PE X (.Subscript e (.Slice lo hi none p2) U4) (tSl r te tl th):=by
 intro d s a H Q I h;refine R7 (thn (K d s a H _ I h) λv D f=>?_);obtain⟨x,t,C,M,z⟩:=f;refine wpAny_Slice (thn (E d D a t _ C z) λi L ⟨l,p,w,J,n⟩=>thn (B d L a p _ w n) λg c f=>?_);obtain⟨u,j,y,pu,k⟩:=f;rw[Rz];refine IX ?_;have m:Inv X d a j {c with heap:=c.heap.push {cls:=.type "slice",data:=.fields #[i,g,.none] } }:=y.kept λb N q=>IU _ q;obtain⟨T,O,o,A,F⟩:=G d {c with heap:=c.heap.push {cls:=.type "slice",data:=.fields #[i,g,.none] } } a j x v i g l u c.heap.objs.size Q m M (RA ..) J pu k;exact tail_any A o F (by with_unfolding_all rfl)
noncomputable def BF(xs:List V)(lo hi:Option Int):List V:=(xs.drop (HT.sIx xs.length 0 lo)).take (HT.sIx xs.length xs.length hi-HT.sIx xs.length 0 lo)
theorem sK(xs)(lo hi):(BF xs lo hi).length<=xs.length:=by
 unfold BF;rw[Mq,K_];lia
end
noncomputable def ixN(n:Nat)(i:Int):Option Nat:=if 0<=i then (if i<n then some i.toNat else none) else if -(n:Int)<=i then some (i+n).toNat else none
noncomputable def atI{α:Type}(xs:List α)(i:Int):Option α:=(ixN xs.length i).bind λj=>xs[j]?
theorem BJ(h:ixN n i=some j):seqIndex? i n=some j/\j<n/\-(n:Int)<=i/\i<n:=by
 unfold ixN at h;by_cases b:0<=i
 .rw[if_pos b]at h;by_cases a:i<n
  .rw[if_pos a]at h;have e:=JW h;exact⟨by rw[seqIndex_of b a,e],by lia,by lia,a⟩
  .rw[if_neg a]at h;cases h
 .rw[if_neg b]at h;by_cases a:-n<=i
  .rw[if_pos a]at h;have e:=JW h;exact⟨by rw[seqIndex_neg (by lia) a,e],by lia,a,by lia⟩
  .rw[if_neg a]at h;cases h
theorem qx{α:Type}{xs:List α}{v:α}(h:atI xs i=some v):∃j,seqIndex? i xs.length=some j/\xs[j]?=some v/\j<xs.length/\-(xs.length:Int)<=i/\i<xs.length:=by
 unfold atI at h;cases e:ixN xs.length i with
 |none=>rw[e]at h;cases h
 |some j=>
  rw[e]at h;obtain⟨b,c,d,a⟩:=BJ e;exact⟨j,b,h,c,d,a⟩
theorem vK{α:Type}{xs:List α}{j:Nat}{v:α}(h:xs[j]?=some v):atI xs (j:Int)=some v:=by
 have a:=(I_.mp h).1
 have e:ixN xs.length j=some j:=by
  unfold ixN;rw[if_pos (by lia),if_pos (by lia)];simp
 unfold atI;rw[e];exact h
def jv(b:Expr):Prop:=∀o i,Rm b false o i=operate [o,i] (R6 o i)
def IxR(X:Cx)(r:R2):Prop:=
 ∀(d a:Expr) (c:List (Jt×Obj)) (s:Jd) (b:St) (H:Hp) (x y:V) (v u:Je) (Q:VK),Inv X c b H s->aS x v->aS y u->r x y H Q->
  Rm a false v u=operate [v,u] (R6 v u)->JN (JE X.prog X.w) X.A (subscriptTail d a v u) (EP X c b Q) X.xe s
def MtR(X:Cx)(e:String)(r:V->List V->Hp->VK->Prop):Prop:=
 ∀(d:List (Jt×Obj)) (s:Jd) (c:St) (H:Hp) (x:V) (a:List V) (v:Je) (b:List Je) (Q:VK),Inv X d c H s->aS x v->aY a b->r x a H Q->
  JN (JE X.prog X.w) X.A (call (.builtin e) (v::b)) (EP X d c Q) X.xe s
section
variable {X:Cx}{a b:Expr}{ta tb:TE}{U4:Pos}
theorem IxR.or(h:IxR X r)(h':IxR X r'):IxR X (λx y H Q=>r x y H Q\/r' x y H Q):=by
 intro c a g s f H x y v u Q I e d q b;rcases q with q |q
 .exact h c a g s f H x y v u Q I e d q b
 .exact h' c a g s f H x y v u Q I e d q b
theorem v9(j:IxR X r)(i:PE X a ta)(e:PE X b tb)(hs:jv b):PE X (.Subscript a b U4) (tOp r ta tb):=by
 intro m s k H Q I h;exact R7 (Gd i e I h λv u l x y d f c g q=>j a b m l k d x y v u Q f c g q (hs _ _))
noncomputable def Ir(K:IR):R2:=λx y H Q=>∃p a i v,x=.ref p/\y=.int i/\SqL K H p a/\atI a i=some v/\Q v H
noncomputable def IB(K:IR):R2:=λx y H Q=>∃p a i v,x=.ref p/\y=.int i/\SqT K H p a/\atI a i=some v/\Q v H
noncomputable def Ii:R2:=λx y H Q=>∃z i c,x=.str z/\y=.int i/\z.length<=sizeLine/\atI z.cps.toList i=some c/\Q (.str ⟨#[c]⟩) H
theorem qj:IxR X (Ir X.K):=by
 intro N e G s D H x y v u Q I m o h f;obtain⟨p,L,i,z,rfl,rfl,A,E,q⟩:=h;cases m;obtain⟨t,rfl⟩:=o;obtain⟨its,r,d,O⟩:=I.list A;obtain⟨j,b,C,M,l,F⟩:=qx E;obtain⟨w,g,n⟩:=r.get C;have B:=r.length;have J:=m9;have a:EP X G D Q w s:=⟨z,H,I,n,q⟩;by_cases k:0<=i
 .have c:i.toNat=j:=by
   rw[seqIndex_of k F]at b;exact JW b
  exact item_listR d.isList k (by lia) (by rw[c];simpa using g) a f
 .have c:(i+its.toArray.size).toNat=j:=by
   rw[seqIndex_neg (by lia) l]at b
   rw[JG,<-B];exact JW b
  exact Qn d.isList.typeIs slot_list_getitem.lookup
   (wpAny_getItem_list_neg d.isList (by lia) (by rw[JG] <;>lia) (by lia) (by rw[c];simpa using g) ⟨rfl,a⟩) f
theorem Gg:IxR X (IB X.K):=by
 intro J b C s o H x y v u Q I d f h g;obtain⟨p,F,i,z,rfl,rfl,l,A,q⟩:=h;cases d;obtain⟨t,rfl⟩:=f;obtain⟨its,r,c,L⟩:=I.tuple l;obtain⟨j,B,n,G,D,M⟩:=qx A;obtain⟨w,k,e⟩:=r.get n;have m:=r.length;have E:=m9;have a:EP X C o Q w s:=⟨z,H,I,e,q⟩
 exact Qn c.typeIs slot_tuple_getitem.lookup
  (getItem_tuple c (by lia) (by lia) (by rw[JG,<-m];exact B) (by simpa using k) ⟨rfl,a⟩) g
theorem FY:IxR X Ii:=by
 intro C a E s B H x y v u Q I e g h k;obtain⟨z,i,c,rfl,rfl,D,o,q⟩:=h;obtain⟨t,rfl⟩:=e;obtain⟨w,rfl⟩:=g;obtain⟨j,b,n,A,d,p⟩:=qx o;have m:z.cps.toList.length=z.length:=by simp[Str.length]
 rw[m]at b d p;have r:=m9
 exact tail_any (typeIs_str s z t) slot_str_getitem.lookup (getItem_str (by
  have f:decide (i < -(2 ^ 63))=false:=decide_eq_false (by lia);have l:decide (i ≥ 2 ^ 63)=false:=decide_eq_false (by lia);rw[f,l,Uh]) (by rw[b];simpa using n) ⟨.str ⟨#[c]⟩,H,I.tok _,⟨_,rfl⟩,q⟩) k
theorem qa(lo hi)(n):(Oh lo hi none n).1=((HT.sIx n 0 lo:Nat):Int)/\(Oh lo hi none n).2.1=((HT.sIx n n hi:Nat):Int)/\(Oh lo hi none n).2.2=1:=by
 refine⟨?_,?_,rfl⟩
 .cases lo with
  |none=>simp[Oh,HT.sIx]
  |some i=>
   simp only[Oh,HT.sIx,Qe,show 1 >0 by decide,if_true];by_cases h:i<0
   .simp only[h,if_true] <;>lia
   .simp only[h,if_false] <;>lia
 .cases hi with
  |none=>simp[Oh,HT.sIx]
  |some i=>
   simp only[Oh,HT.sIx,Qe,show 1 >0 by decide,if_true];by_cases h:i<0
   .simp only[h,if_true] <;>lia
   .simp only[h,if_false] <;>lia
theorem n_(a:List Je)(lo hi):slicePick a.toArray lo hi none=((a.drop (HT.sIx a.length 0 lo)).take (HT.sIx a.length a.length hi-HT.sIx a.length 0 lo)).toArray:=by
 obtain⟨d,c,b⟩:=qa lo hi a.toArray.size;unfold slicePick;rw[d,c,b];simp only[sliceRange_one,pick_run,JG] <;>rfl
def Ix(K:IR):V->Option Int->Option Int->Hp->VK->Prop:=λx d c H Q=>∃a b,x=.ref a/\SqL K H a b/\∀p,H p=none->Q (.ref p) (upd H p (.lst (BF b d c)))
theorem DI:SlR X (Ix X.K):=by
 intro w s u H x v p o d f t Q I g k l pu h;obtain⟨a,c,rfl,j,q⟩:=h;cases g;obtain⟨its,r,e,m⟩:=I.list j;have i:=r.length;refine⟨"list",_,slot_list_getitem.lookup,e.isList.typeIs,?_⟩;refine Pz e.isList k l pu .none (by simp) ?_ (by rw[JG] <;>lia);rw[n_,<-i];refine⟨.ref s.heap.objs.size,_,I.laid (λb n q=>IU _ q) (IV _) ?_,rfl,q _ (I.hok.fresh (IV _))⟩;exact⟨Jy (sK c d f) m,_,0,(r.drop (HT.sIx c.length 0 d)).take (HT.sIx c.length c.length f-HT.sIx c.length 0 d),Jm _ rfl⟩
noncomputable def iJ:V->Bool
 | .non=>true
 | .bl _=>true
 | .int _=>true
 | .str _=>true
 |_=>false
noncomputable def eqV:V->V->Bool
 | .non,.non=>true
 | .bl a,.bl b=>a==b
 | .bl a,.int b=>(if a then 1 else 0)==b
 | .int a,.bl b=>a==(if b then 1 else 0)
 | .int a,.int b=>a==b
 | .str a,.str b=>a==b
 |_,_=>false
theorem FB(f:aS y u)(c:aS x v)(g:iJ y=true)(e:iJ x=true):SeqAt.EqAt A s u v (eqV y x):=by
 cases y with
 |non=>
  cases f;cases x with
  |non=>cases c;exact SeqAt.EqAt.same _
  |bl b=>cases c;exact SeqAt.EqAt.none_bool b
  |int b=>obtain⟨t,rfl⟩:=c;exact SeqAt.EqAt.none_int b t
  |str b=>obtain⟨t,rfl⟩:=c;exact SeqAt.EqAt.none_str b t
  |_=>exact absurd e Ku
 |bl a=>
  cases f;cases x with
  |non=>cases c;exact SeqAt.EqAt.bool_none a
  |bl b=>cases c;exact SeqAt.EqAt.bool_bool a b
  |int b=>obtain⟨t,rfl⟩:=c;exact SeqAt.EqAt.bool_int a b t
  |str b=>obtain⟨t,rfl⟩:=c;exact SeqAt.EqAt.bool_str a b t
  |_=>exact absurd e Ku
 |int a=>
  obtain⟨d,rfl⟩:=f;cases x with
  |non=>cases c;exact SeqAt.EqAt.int_none a d
  |bl b=>cases c;exact SeqAt.EqAt.int_bool a d b
  |int b=>obtain⟨t,rfl⟩:=c;exact SeqAt.EqAt.int_int a d b t
  |str b=>obtain⟨t,rfl⟩:=c;exact SeqAt.EqAt.int_str a d b t
  |_=>exact absurd e Ku
 |str a=>
  obtain⟨d,rfl⟩:=f;cases x with
  |non=>cases c;exact SeqAt.EqAt.str_none a d
  |bl b=>cases c;exact SeqAt.EqAt.str_bool a d b
  |int b=>obtain⟨t,rfl⟩:=c;exact SeqAt.EqAt.str_int a d b t
  |str b=>obtain⟨t,rfl⟩:=c;exact SeqAt.EqAt.str_str a d b t
  |_=>exact absurd e Ku
 |_=>exact absurd g Ku
noncomputable def eqU(x:V)(u:Je):Bool:=match u with
 | .none=>eqV .non x
 | .bool b=>eqV (.bl b) x
 | .int i _=>eqV (.int i) x
 | .str z _=>eqV (.str z) x
 |_=>false
theorem zL(r:aS y u)(f:iJ y=true):eqU x u=eqV y x:=by
 cases y with
 |non=>cases r;rfl
 |bl b=>cases r;rfl
 |int i=>obtain⟨t,rfl⟩:=r;rfl
 |str z=>obtain⟨t,rfl⟩:=r;rfl
 |_=>exact absurd f Ku
theorem pY:∀{a}{b},aY a b->a.all iJ=true->b.any (eqU x)=a.any λy=>eqV y x
 |_,_,.nil,_=>rfl
 |y::a,u::b,.cons r t,f=>by
  rw[OT,KU]at f;rw[Nu,Nu,zL r f.1,pY t f.2]
theorem nG(e:aS x v)(d:iJ x=true):∀{b}{c},aY b c->b.all iJ=true->∀u∈c,SeqAt.EqAt A s u v (eqU x u)
 |_,_,.nil,_=>λu a=>by cases a
 |y::b,u::c,.cons r t,f=>λg a=>by
  rw[OT,KU]at f;rcases IT.mp a with rfl |a
  .rw[zL r f.1];exact FB r e f.1 d
  .exact nG e d t f.2 g a
noncomputable def inV(x:V)(xs:List V):Bool:=xs.any λy=>eqV y x
noncomputable def rIn(K:IR)(b:Bool):R2:=λx y H Q=>∃p a,y=.ref p/\(SqL K H p a\/SqT K H p a)/\iJ x=true/\a.all iJ=true/\Q (.bl (if b then !inV x a else inV x a)) H
theorem xV:OpR X (Kc .In) (rIn X.K false):=by
 intro k s j H x y v u Q I d f h;obtain⟨p,i,rfl,a,e,fs,q⟩:=h;cases f;rcases a with a |a
 .obtain⟨its,r,c,g⟩:=I.list a;refine SeqAt.in_listAt (eqU x) c.isList (λw b=>nG d e r fs w (by simpa using b)) ⟨.bl _,H,I,rfl,?_⟩;rw[show its.toArray.any (eqU x)=its.any (eqU x) by simp,pY r fs];exact q
 .obtain⟨its,r,c,g⟩:=I.tuple a;refine SeqAt.in_tupleAt (eqU x) c (λw b=>nG d e r fs w (by simpa using b)) ⟨.bl _,H,I,rfl,?_⟩;rw[show its.toArray.any (eqU x)=its.any (eqU x) by simp,pY r fs];exact q
theorem jJ:cB X (.builtin "len") (λf H Q=>∃p a,f=[.ref p]∧(SqL X.K H p a∨SqT X.K H p a)∧Q (.int a.length) H):=by
 intro m s k H f l Q I r h;obtain⟨p,a,rfl,b,q⟩:=h;obtain⟨u,rfl,g⟩:=d8 r;cases g;have j:=m9;rcases b with b |b
 .obtain⟨its,c,e,i⟩:=I.list b;have d:=c.length;exact Calls.call_len_list e.isList (by simp only[JG] <;>lia) ⟨.int a.length,H,I.tok _,⟨s.toks+1,by rw[JG,d]⟩,q⟩
 .obtain⟨its,c,e,i⟩:=I.tuple b;have d:=c.length;exact len_tuple e (by simp only[JG] <;>lia) ⟨.int a.length,H,I.tok _,⟨s.toks+1,by rw[JG,d]⟩,q⟩
theorem pK:cB X (.builtin "len") (λa H Q=>∃z,a=[.str z]∧z.length≤sizeLine∧Q (.int z.length) H):=by
 intro f s e H a d Q I r h;obtain⟨z,rfl,b,q⟩:=h;obtain⟨u,rfl,t,rfl⟩:=d8 r;have c:=m9;exact len_str (by lia) ⟨.int z.length,H,I.tok _,⟨_,rfl⟩,q⟩
theorem n8:cB X (.type "tuple") (λj H Q=>∃p a,j=[.ref p]∧((SqL X.K H p a∧∀l,H l=none→Q (.ref l) (upd H l (.tup a)))∨(SqT X.K H p a∧Q (.ref p) H))):=by
 intro w s t H j y Q I r h;obtain⟨p,a,rfl,h⟩:=h;obtain⟨u,rfl,m⟩:=d8 r;cases m;rcases h with ⟨f,q⟩ |⟨f,q⟩
 .obtain⟨its,c,g,k⟩:=I.list f;have x:=c.length;refine call_tuple_list g.isList (λd v=>?_) (by simp only[JG] <;>lia);have i:=I.kept (t':=s.toks) v
  have n:Inv X w t (upd H d.objs.size (.tup a)) {s with heap:=d.push {cls:=.type "tuple",data:=.seq its.toArray } }:=
   i.laid (λb o e=>IU _ e) (IV _) (⟨k,its,c,IsTup.new _ _⟩)
  exact⟨.ref d.objs.size,_,n,rfl,q _ (i.hok.fresh (IV _))⟩
 .obtain⟨its,c,g,k⟩:=I.tuple f;exact call_tuple_same g ⟨.ref p,H,I,rfl,q⟩
def tyV(K:IR)(T:String)(x:V)(H:Hp):Prop:=match x with
 | .str _=>T="str"
 | .int _=>T="int"
 | .ref p=>(T="list"∧∃b,SqL K H p b)∨(T="tuple"∧∃o,K.lookup p=some o∧o.cls=.type "tuple"∧o.dict=none)∨
   (T="dict"∧((∃a,H p=some (.dK a))∨∃a,H p=some (.dT a)))∨(T="set"∧∃S n,H p=some (.set S n))
 |_=>False
theorem Bs(I:Inv X U_ σ H s)(r:aS x v)(f:tyV X.K T x H):
  s.TypeIs v T/\∀a,v=.ref a->∃k,s.heap.get? a=some k/\k.dict=none:=by
 cases x with
 |str z=>
  obtain⟨t,rfl⟩:=r;cases f;exact⟨typeIs_str s z t,λ_ e=>nomatch e⟩
 |int i=>
  obtain⟨t,rfl⟩:=r;cases f;exact⟨Q6 s i t,λ_ e=>nomatch e⟩
 |ref p=>
  cases r;rcases f with ⟨rfl,u,m⟩ |⟨rfl,o,b,q,j⟩ |⟨rfl,b⟩ |⟨rfl,S,n,b⟩
  .obtain⟨its,_,l,_⟩:=I.list m;refine⟨l.isList.typeIs,λa e=>?_⟩;cases e;obtain⟨o,n,e,c,j,_⟩:=l;exact⟨o,e,j⟩
  .refine⟨⟨o,I.kIn p o b,q⟩,λa e=>?_⟩;cases e;exact⟨o,I.kIn _ o b,j⟩
  .have z:∃o,s.heap.get? p=some o/\o.ExactDict:=by
    rcases b with ⟨h,b⟩ |⟨h,b⟩
    .obtain⟨_,_,_,_,o,_,_,e,d,_⟩:=I.hok p _ b;exact⟨o,e,d⟩
    .obtain⟨_,_,_,_,o,_,_,e,d,_⟩:=I.hok p _ b;exact⟨o,e,d⟩
   obtain⟨o,e,d⟩:=z;refine⟨⟨o,e,d.1⟩,λa g=>?_⟩;cases g;exact⟨o,e,d.2.1⟩
  .obtain⟨o,_,_,_,e,d,_⟩:=I.hok p _ b;refine⟨⟨o,e,d.1⟩,λa g=>?_⟩;cases g;exact⟨o,e,d.2.1⟩
 |_=>exact False.elim f
noncomputable def Is(K:IR)(T:String)(r:V->List V->Hp->VK->Prop)(c:TE):TE:=λb H Q=>c b H λx a=>tyV K T x a/\r x [] a Q
noncomputable def tBM(K:IR)(T:String)(r:V->List V->Hp->VK->Prop)(e:TE)(t:TA):TE:=λb H Q=>e b H λx a=>tyV K T x a/\t b a λc d=>r x c d Q
variable {o e:Expr}{es:List Expr}{to:TE}{t:TA}{name:Str}{U7 U5:Pos}{T id:String}{r:V→List V→Hp→VK→Prop}
theorem Ay(g:PlainAttrs T)(a:Slot T name id)(b:UR (.builtin id)=pure (.type "method_descriptor"))(q:MtR X id r)(n:PE X o to)
  (Vn:autoParam (KW o name X.env (K0 o X.env)=K0 o X.env) z0) (Vo:autoParam ((U7.endLine==U5.line)=true) z0):PE X (.Call (.Attribute o name U7) [] [] U5) (Is X.K T r to):=by
 intro e s d H Q I h;refine wpAny_Call_method0_late Vn Vo (thn (n e s d H _ I h) λv l i=>?_);obtain⟨x,j,c,f,ty,k⟩:=i;obtain⟨p,m⟩:=Bs c f ty;exact⟨T,id,g,a,b,p,m,M7 rfl (PySem.evalArgs_none (q e l d j x [] v [] Q c f .nil k))⟩
theorem v4(k:PlainAttrs T)(a:Slot T name id)(c:UR (.builtin id)=pure (.type "method_descriptor"))(D:MtR X id r)(B:PE X o to)(A:PA X (e::es) t)
  (Vn:autoParam (KW o name X.env (K0 o X.env)=K0 o X.env) z0)
  (VX:autoParam (((Kv U5 (IY (e::es) X.env)).all (λx=>!x.1) && (MU U5 (Ld [] X.env)).all (λx=>x.1.isSome)
   && decide ((e::es).length+([]:List NX).length+(if ([]:List NX).isEmpty then 0 else 1)<30))=true) z0)
  (Vo:autoParam ((U7.endLine==U5.line)=true) z0) (hs:autoParam (IY (e::es) X.env=(false,K0 e X.env)::IY es X.env) z0) (Vr:autoParam ((Kv U5 (IY es X.env)).any (·.1)=false) z0):
  PE X (.Call (.Attribute o name U7) (e::es) [] U5) (tBM X.K T r to t):=by
 intro d s b H Q I h;refine wpAny_Call_method_late Vn VX Vo rfl (thn (B d s b H _ I h) λv w l=>?_);obtain⟨x,p,f,i,ty,u⟩:=l;obtain⟨C,z⟩:=Bs f i ty;refine⟨T,id,k,a,c,C,z,?_⟩;have g:=A U5 d w b p _ f u;rw[hs]at g |-;refine M7 (by show (false || (Kv U5 (IY es X.env)).any (·.1))=false;rw[Vr] <;>rfl) (NI ?_)
 exact thn g λE F ⟨y,m,q,n,j⟩=>D d F b m x y v E Q q i n j
end
def MtM(X:Cx)(e:String)(r:V->List V->Hp->VK->Prop):Prop:=
 ∀(d:List (Jt×Obj)) (s:Jd) (c:St) (H:Hp) (x:V) (a:List V) (v:Je) (b:List Je) (Q:VK),Inv X d c H s->aS x v->aY a b->r x a H Q->
  JN (JE X.prog X.w) X.A (call (.builtin e) (v::b)) (EP X d c Q) X.xe s
theorem aY.one:∀{x}{a},aY [x] a->∃u,a=[u]/\aS x u:=by
 intro x a h;cases h with
 |cons r t=>cases t;exact⟨_,rfl,r⟩
theorem aY.zero:∀{a},aY [] a->a=[]
 |_,.nil=>rfl
theorem aY.dropLast(h:aY xs us):aY xs.dropLast us.dropLast:=by
 induction h with
 |nil=>exact .nil
 |cons r t a=>
  cases t with
  |nil=>exact .nil
  |cons q b=>exact .cons r a
theorem aY.rep(h:aY xs us):∀k,aY (Jw k xs).flatten (Jw k us).flatten
 |0=>.nil
 |k+1=>by
  rw[KI,KI,Me,Me];exact aY.append h (aY.rep h k)
theorem uN{α:Type}(l:List α):l.eraseIdx (l.length-1)=l.dropLast:=by
 induction l with
 |nil=>rfl
 |cons a r c=>
  cases r with
  |nil=>rfl
  |cons b r=>
   have e:(a::b::r).length-1=((b::r).length-1)+1:=by
    have d:(a::b::r).length=r.length+2:=rfl;have f:(b::r).length=r.length+1:=rfl;lia
   rw[e,List.eraseIdx_cons_succ,c]
   all_goals rfl
theorem oA(its):∀k (acc:List Je),
  T_ (λc b=>c++b) acc.toArray (Jw k its.toArray)=(acc++(Jw k its).flatten).toArray
 |0,acc=>by simp
 |k+1,acc=>by
  have e:acc.toArray++its.toArray=(acc++its).toArray:=by simp
  have a:(acc++its)++(Jw k its).flatten=acc++(Jw (k+1) its).flatten:=by
   rw[KI,Me,Jj]
  rw[<-a,<-oA its k (acc++its),<-e,KI,LH]
section
variable {X:Cx}{U_:List (Jt×Obj)}{σ:St}{H:Hp}{s:Jd}{l b:Jt}{xs ys zs:List V}
theorem Inv.lset{a its':List Je}(I:Inv X U_ σ H s)(b:H l=some (.lst xs))
  (e:s.heap.get? l=some {cls:=.type "list",data:=.seq a.toArray n }) (hf:f a.toArray=its'.toArray) (hv:aY ys its') (hz:ys.length≤sizeLine):
  Inv X U_ σ (upd H l (.lst ys)) {s with heap:=s.heap.update l (M6 f),toks:=t' }:=by
 have q:=PySem.IsL.update e f;rw[hf]at q;refine I.write (by rw[b];exact trivial) (.inl rfl) (λd u hb c=>(KD s.heap (M6 f) (Ne.symm hb)).trans c) ⟨_,q⟩ ?_
 exact⟨hz,its',_,hv,q⟩
theorem Inv.lnew(I:Inv X U_ σ H s)(b:aY ys its)(a:ys.length<=sizeLine):
  Inv X U_ σ (upd H s.heap.objs.size (.lst ys)) {s with heap:=s.heap.push {cls:=.type "list",data:=.seq its.toArray },toks:=t' }:=
 I.laid (λ_ _ q=>IU _ q) (IV _) ⟨a,its,0,b,Jm _ rfl⟩
theorem Inv.fresh(I:Inv X U_ σ H s):H s.heap.objs.size=none:=I.hok.fresh (IV _)
theorem Inv.lstM(I:Inv X U_ σ H s)(a:H l=some (.lst xs)):xs.length≤sizeLine∧∃its n,aY xs its∧xs.length=its.length∧s.heap.get? l=some {cls:=.type "list",data:=.seq its.toArray n }:=by
 obtain⟨z,its,n,r,e⟩:=I.hok l _ a;exact⟨z,its,n,r,r.length,e⟩
theorem Aw(h:n<=sizeLine):Builtin.List.listTooLong n=false:=by
 exact decide_eq_false (by lia)
end
section
variable {X:Cx}
def Cy:V->List V->Hp->VK->Prop:=λx b H Q=>∃l a y,x=.ref l/\b=[y]/\H l=some (.lst a)/\a.length<sizeLine/\Q .non (upd H l (.lst (a++[y])))
theorem kf:MtM X "list.append" Cy:=by
 intro m s i H x f v k Q I c b h;obtain⟨l,d,y,rfl,rfl,a,j,q⟩:=h;cases c;obtain⟨u,rfl,ru⟩:=b.one;obtain⟨z,its,n,r,g,e⟩:=I.lstM a;refine Oi F.slot_list_append ⟨_,e,rfl⟩ F.entry_list_append (F.args_list_append_2 _ _) (PySem.list_append l its.toArray n u (by rw[JG];lia)) ⟨e,?_⟩;refine⟨.non,_,I.lset a e (by simp) (r.append (.cons ru .nil)) ?_,rfl,q⟩;rw[Jl,QE];lia
def Iu:V->List V->Hp->VK->Prop:=λx b H Q=>∃l a y,x=.ref l/\b=[]/\H l=some (.lst a)/\a[a.length-1]?=some y/\Q y (upd H l (.lst a.dropLast))
theorem EI:MtM X "list.pop" Iu:=by
 intro p s m H x k v o Q I f d h;obtain⟨l,j,y,rfl,rfl,b,hy,q⟩:=h;cases f;have a:=d.zero;subst a;obtain⟨z,its,n,r,i,e⟩:=I.lstM b;obtain⟨u,g,ru⟩:=r.get hy
 have c:its.toArray[its.toArray.size-1]?=some u:=by
  show its.toArray[its.length-1]?=some u;rw[<-J9,<-i];exact g
 refine Oi F.slot_list_pop ⟨_,e,rfl⟩ F.entry_list_pop (F.args_list_pop_1 _) (MeetsSeq.list_pop_last l its.toArray n u c (by rw[JG];lia)) ⟨e,?_⟩;refine⟨y,_,I.lset b e ?_ r.dropLast ?_,ru,q⟩
 .show its.toArray.eraseIdxIfInBounds (its.toArray.size-1)=its.dropLast.toArray;rw[JG,List.eraseIdxIfInBounds_toArray,uN]
 .rw[Kr];lia
noncomputable def Il:R2:=λx y H Q=>∃l b a c,x=.ref l/\y=.ref b/\H l=some (.lst a)/\H b=some (.lst c)/\a.length+c.length<=sizeLine/\∀p,H p=none->Q (.ref p) (upd H p (.lst (a++c)))
theorem Fr:OpR X (Nt .Add) Il:=by
 intro D s B H x y v u Q I c f h;obtain⟨l,b,t,o,rfl,rfl,m,g,C,q⟩:=h;cases c;cases f;obtain⟨z,its,n,r,w,e⟩:=I.lstM m;obtain⟨A,a,p,d,i,k⟩:=I.lstM g;refine PySem.P.add_list e k ?_ (by rw[JG,JG];lia);have j:its.toArray++a.toArray=(its++a).toArray:=by simp
 rw[j];exact⟨.ref _,_,I.lnew (r.append d) (by rw[Jl];lia),rfl,q _ I.fresh⟩
noncomputable def IF:R2:=λx y H Q=>∃l k a,x=.ref l/\y=.int k/\H l=some (.lst a)/\-(2 ^ 63)<=k/\k<2 ^ 63/\a.length*k.toNat<=sizeLine/\
 ∀p,H p=none->Q (.ref p) (upd H p (.lst (Jw k.toNat a).flatten))
theorem BM{α:Type}(xs:List α)(k):(Jw k xs).flatten.length=k*xs.length:=by
 induction k with
 |zero=>simp
 |succ k a=>rw[KI,Me,Jl,a,Nat.succ_mul,QF]
theorem Gq:OpR X (Nt .Mult) IF:=by
 intro M s L H x y v u Q I j w h;obtain⟨l,k,K,rfl,rfl,G,E,D,i,q⟩:=h;cases j;obtain⟨t,rfl⟩:=w;obtain⟨z,its,n,r,C,e⟩:=I.lstM G;have o:its.toArray.size*k.toNat<=sizeLine:=by rw[JG,<-C];exact i
 have c:¬ its.toArray.size*k.toNat >(2 ^ 63-1)/8:=by
  have:sizeLine<=(2 ^ 63-1)/8:=by decide
  omega
 have B:¬ (!Builtin.List.listFitsIndex k)=true:=by
  rw[fitsIndex_both E D];exact Ku
 have b:¬ Builtin.List.listTooLong (its.toArray.size*k.toNat)=true:=by
  rw[Aw o];exact Ku
 have d:T_ (λg f=>g++f) #[] (Jw (if its.toArray.isEmpty=true then 0 else k.toNat) its.toArray)=(Jw k.toNat its).flatten.toArray:=by
  have p:∀m,T_ (λg f=>g++f) #[] (Jw m its.toArray)=(Jw m its).flatten.toArray:=λm=>by
   have:=oA its m [];exact this
  rw[p];cases its with
  |nil=>simp
  |cons a J=>rw[if_neg (by simp)]
 refine wpAny_binaryOp_repeat_ref (by decide) ⟨_,e,rfl⟩ (λA=>Q6 A k t) noFill_list_mul F.fills_int_mul F.slot_int_rmul repeat_list F.slot_int_index.lookup
  (Oi F.slot_int_rmul (Q6 s k t) F.entry_int_rmul (F.args_int_rmul_2 _ _) (int___rmul___int_list k t l its.toArray n)
   ⟨e,rfl,⟨_,e,rfl⟩,Oi F.slot_list_mul ⟨_,e,rfl⟩ F.entry_list_mul (F.args_list_mul_2 _ _) (AutoListH.list___mul___list_int_3 l its.toArray n k t B c b) ⟨e,?_⟩⟩)
 rw[d];exact⟨.ref _,_,I.lnew (r.rep k.toNat) (by rw[BM,QG];exact i),rfl,q _ I.fresh⟩
end
end L2
namespace Att
open PySem PySem.W PySem.Calls PyProof.Rows
theorem k_:∀c d,WellAll P h d (c.map WData.int)->Ui d c:=by
 intro c
 induction c with
 |nil=>
  intro d w;cases w;exact .nil
 |cons n c e=>
  intro d w;cases w with
  |cons a b=>
   cases a;exact .cons _ _ (e _ b)
theorem script_of{l:OpenLaw}(k:l.most=some n) 
  (Wq:l.row.toRowW.claim.pre args=true) (hwl:WellAll P h vals args):
  ∃a f b,vals=[JR a]∧args=[WData.list (b.map WData.int)]∧h.get? a=some {cls:=.type "list",data:=.seq f.toArray }∧Ui f b∧b.length≤n:=by
 have hsh:=(pre_splitW Wq).1;have p:l.pre.holds [] {args:=args }=true:=(pre_splitW Wq).2;obtain⟨d,r,rfl,t,m⟩:=hasAllW_cons hsh;obtain rfl:=hasAllW_nil m;obtain⟨v,rfl,o⟩:=hasW_list t;obtain⟨b,rfl⟩:=items_int o
 have i:b.length<=n:=by
  have c:(WTm.not (.lt (.lit (.int n)) (.len (.arg 0)))).holds [] {args:=[.list (b.map .int)] }=true:=by
   have c:=(holds_andW p).1;rw[k]at c;exact c
  have e:=condW_of c (w_not (w_lt w_lit (w_len_list (w_arg rfl))));refine Lv λq=>?_
  first
   | (rw[decide_eq_true q']at e;exact absurd e (by decide))
   | (simp at e;lia)
 cases hwl with
 |cons j g=>
  cases g;cases j with
  |list s u=>exact⟨_,_,b,rfl,rfl,s,k_ b _ u,i⟩
theorem post_true(l:OpenLaw)(args):l.row.toRowW.claim.post args (.bool true) args=true:=
 postW_of
  (show WShape.has [] (.bool true) .bool=true by first |rfl |decide |simp[WShape.has,WShape.arms,WShape.armsAll])
  (w_eq_bool (w_res rfl) w_lit) rfl
end Att
namespace L2
open PySem PySem.Spec PyProof.Rows
theorem o7:∀{a}{b},Ui a b->aY (b.map V.int) a
 |_,_,.nil=>.nil
 |_,_,.cons n t h=>.cons ⟨t,rfl⟩ (o7 h)
def Cv(H:Hp):Prop:=∀b,H b=none\/∃o a,H b=some (.frz o (.lst a))
theorem yy{K:IR} 
  (KX:K.In Vc.heap) (Xq:Vc.heap.Ns Kz mg) (hb:Vc.heap.Ns T7 mb) (hbb:∀x:Str,x≠"__name__"→mb x=KZ x) (hlim:Vc.heap.NoLimit) (hg:Vc.gens=#[])
  (ha:Vc.heap.get? a=some {cls:=.type "list",data:=.seq vs.toArray }) (hi:Ui vs ns) (hl:ns.length≤sizeLine) (hr:bQ k R8)
  (F:∀base,K.In base->base.Ns Kz mg->bL P w K mg base CX k fa fd [x] sp) (hbind:∀s u,Ug s fd ⟨[u],[]⟩ [(x,u)])
  (VU:∀H,Cv H->SqL K H a (ns.map V.int)->sp [.ref a] H (λv _=>v=.bl true) λ_ _ _=>False)
  (hCX:∀H e c,CX [] H Vc (λ_ _ _=>False) e c->False):
  Og (JE P w) R8 (.call (.ref fa) ⟨[.ref a],[]⟩) (λr c=>r=.ok (.ret (.bool true))/\OldK Vc.heap c.heap/\c.os=Vc.os/\Pl c.gens) Vc:=by
 have E:=o7 hi;have t:=hi.length
 have g:∀H,Cv H->SqL K H a (ns.map V.int)->HOk P w H Vc.heap->(∀b,H b≠none->b=a)->(H a≠none->K.lookup a=none)->
   Og (JE P w) R8 (.call (.ref fa) ⟨[.ref a],[]⟩) (λr c=>r=.ok (.ret (.bool true))/\OldK Vc.heap c.heap/\c.os=Vc.os/\Pl c.gens) Vc:=by
  intro H J T l L S;have G:∀{b}{o},Vc.heap.get? b=some o->H b=none->(pj Vc.heap H).get? b=some o:=λe n=>Ae e n
  have C:∀{b}{o}{A}{B},Vc.heap.get? b=some o->o.data=.dict A B->H b=none:=λ{b o A B} e d=>by
   cases q:H b with
   |none=>rfl
   |some u=>
    have D:=L b (by rw[q];simp);subst D;rw[ha]at e;cases e;have N:=d;cases N
  have f:∀{b}{m},Vc.heap.Ns b m->(pj Vc.heap H).Ns b m:=λ{b m} ⟨o,A,B,e,d,r⟩=>⟨o,A,B,G e (C e d),d,r⟩
  have p:K.In (pj Vc.heap H):=λb o e=>G (KX b o e) (by
   cases q:H b with
   |none=>rfl
   |some u=>
    have D:=L b (by rw[q];simp);subst D;rw[S (by rw[q];simp)]at e;cases e)
  have X:Mod K mg (pj Vc.heap H):=⟨p,f Xq,⟨mb,f hb,hbb⟩,let ⟨mc,h1,h2⟩:=hlim;⟨mc,f h1,h2⟩⟩;have R:ub P w K mg (pj Vc.heap H) R8 [] Vc H:=⟨rfl,X,λb o e=>B7 e,LG (xW _ _),trivial,λb hb=>absurd (show b∈[] from hb) (by simp),l,.of_eq hg⟩
  refine Nf ((F _ p (f Xq)).run R8 [] Vc H ⟨[.ref a],[]⟩ [.ref a] [.ref a] _ _ hr R (hbind Vc (.ref a)) (.cons rfl .nil) (VU H J T)) λr c h=>?_;cases r with
  |error e=>exact (hCX H e c h).elim
  |ok fl=>
   cases fl with
   |next=>exact False.elim h
   |brk=>exact False.elim h
   |cont=>exact False.elim h
   |ret u=>
    obtain⟨v,H',Q,j,un,i,M,q⟩:=h;have Y:=q;subst Y;obtain rfl:u=T6 true:=M;refine⟨rfl,OldK.of_keep λb o e=>?_,Q,j⟩;cases q:H b with
    |none=>exact un.keep b o e q (by intro z;exact absurd (show b∈[] from z) (by simp)) (by simp)
    |some u=>
     rcases J b with z |⟨O,Z,z⟩
     .rw[q]at z;cases z
     .have W:=un.frzs b O _ z;obtain⟨I,_⟩:=l b _ z;obtain⟨U,_⟩:=i b _ W;rw[e]at I;cases I;exact U
 cases hk:K.lookup a with
 |some o=>
  have e:=KX a o hk;rw[ha]at e;cases e;refine g (λ_=>none) (λ_=>.inl rfl) (.inr ⟨_,vs.toArray,_,hk,rfl,rfl,rfl,by rw[JG,t];exact hl,by simpa using E⟩) (λb u z=>by have y:=z;cases y) (λb z=>absurd rfl z) λz=>absurd rfl z
 |none=>
  refine g (λb=>if b=a then some (.frz {cls:=.type "list",data:=.seq vs.toArray } (.lst (ns.map V.int))) else none) (λb=>?_) (.inl (.inr ⟨{cls:=.type "list",data:=.seq vs.toArray },if_pos rfl⟩)) (λb u z=>?_) (λb z=>?_) λ_=>hk
  .by_cases hb:b=a
   .exact .inr ⟨_,_,if_pos hb⟩
   .exact .inl (if_neg hb)
  .by_cases hb:b=a
   .have y:=(if_pos hb).symm.trans z;cases y;subst hb;exact⟨ha,by rw[IM];exact hl,vs,_,E,ha⟩
   .have y:=(if_neg hb).symm.trans z;cases y
  .by_cases hb:b=a
   .exact hb
   .exact absurd (if_neg hb) z
noncomputable abbrev KOf{K:IR}{h:Ma}(_:K.In h):IR:=K
end L2
namespace L2
open PySem PySem.Spec PyProof.Rows
noncomputable def eW(s:LS):Arguments:=match s with
 | .FunctionDef _ a _ _ _ _ _ _ _ _=>a
 |_=>{posonlyargs:=[],args:=[],vararg:=none,kwonlyargs:=[],kw_defaults:=[],kwarg:=none,defaults:=[] }
noncomputable def b9(s:LS):List LS:=match s with
 | .FunctionDef _ _ b _ _ _ _ _ _ _=>b
 |_=>[]
noncomputable def ah(s:LS):Rx:=match s with
 | .FunctionDef _ _ _ _ _ _ a _ _ _=>a
 |_=>{kind:=.function,names:=[],isGenerator:=false,isCoroutine:=false }
noncomputable abbrev CX0:CXT:=λ_ _ _ _ _ _=>False
noncomputable abbrev E0:XK:=λ_ _ _=>False
structure Fun(K:IR)(x U8:Str)(st:LS)(f:Jt)(fd:LO):Prop where
 ex:∃(oc:Je) (od:Option Jt) (kV V6 pm:Je) (an:Option Jt) (cdv ct:Je) (osl:Array (Option Je)),
  fd=Oz x U8 (eW st) (b9 st) (ah st) .none kV V6 pm an cdv ct/\K.lookup f=some ⟨oc,od,.func fd,osl⟩/\Rg K cdv U8=true
 kp:Lk K (.ref f)=true
section
variable {P:Jr}{w:J5}{K:IR}{mg:Str→Option Je}{base:Ma}
theorem Fun.binds{st:LS}(F:Fun K x U8 st f fd)
  (h:∀kV c g e a b d,d.length=ps.length->Ot (Oz x U8 (eW st) (b9 st) (ah st) .none kV c g e a b) ⟨d,[]⟩=pure (ps.zip d)):b7 K fd ps []:=by
 obtain⟨l,m,kV,c,g,e,a,b,i,rfl,j,k⟩:=F.ex;exact .all (h kV c g e a b)
theorem j6{st:LS}{e d g a b:Je}(l:K.lookup f=some ⟨oc,od,.func (Oz x U8 (eW st) (b9 st) (ah st) .none e d g an a b),osl⟩)
  (c:Rg K a U8=true) (k:Lk K (.ref f)=true):Fun K x U8 st f (Oz x U8 (eW st) (b9 st) (ah st) .none e d g an a b):=⟨⟨oc,od,e,d,g,an,a,b,osl,rfl,l,c⟩,k⟩
end
theorem ax(h:n<=1000):n<sizeLine:=Ki h (by decide)
theorem qu{A B:Prop}(h:B):if false=true then A else B:=by
 rw[if_neg Ku];exact h
theorem pU{A B:Prop}(h:A):if true=true then A else B:=by
 rw[if_pos rfl];exact h
def aP(H a:Hp):Prop:=∀b o,H b=some o->a b=some o
theorem aP.refl(H):aP H H:=λ_ _ h=>h
theorem aP.trans(a:aP H H1)(b:aP H1 H2):aP H H2:=λc o h=>b c o (a c o h)
theorem aP.free(e:aP H H')(h:H' l=UG):H l=UG:=by
 cases q:H l with
 |none=>rfl
 |some o=>
  rw[e l o q]at h;cases h
theorem aP.seq{K:IR}(e:aP H H')(h:SqL K H a xs):SqL K H' a xs:=by
 rcases h with (h |⟨o,h⟩) |h
 .exact .inl (.inl (e _ _ h))
 .exact .inl (.inr ⟨o,e _ _ h⟩)
 .exact .inr h
def Sz(m:Nat)(x:Int):Prop:=x.natAbs<2 ^ m
theorem Sz.mono(h:Sz m x)(a:m<=n):Sz n x:=IZ h (ON (by decide) a)
theorem Sz.neg(h:Sz m x):Sz m (-x):=by unfold Sz at *;rw[Int.natAbs_neg];exact h
theorem Sz.add(b:Sz m x)(a:Sz m y):Sz (m+1) (x+y):=by
 unfold Sz at *;have:=Int.natAbs_add_le x y;rw[LZ];omega
theorem Sz.sub(b:Sz m x)(a:Sz m y):Sz (m+1) (x-y):=by
 rw[Int.sub_eq_add_neg];exact b.add a.neg
theorem Sz.mul(b:Sz m x)(a:Sz n y):Sz (m+n) (x*y):=by
 unfold Sz at *;rw[Pn,UH];exact Nat.mul_lt_mul'' b a
theorem Sz.le(h:x.natAbs<=y.natAbs)(a:Sz m y):Sz m x:=Ki h a
theorem Sz.ediv(a:Sz m x):Sz m (x/y):=Sz.le (Int.natAbs_ediv_le_natAbs x y) a
theorem Sz.emod(b:0<y)(a:Sz m y):Sz m (x%y):=by
 have d:=Ng x (show y≠0 by lia);have c:=Mw x b;exact Sz.le (by lia) a
theorem Sz.abs(a:Sz m x):Sz m (if x<0 then -x else x):=by split;exact a.neg;exact a
instance (m:Nat) (x:Int):Decidable (Sz m x):=inferInstanceAs (Decidable (x.natAbs<2 ^ m))
theorem Sz.add'(b:Sz m x)(a:Sz n y):Sz (max m n+1) (x+y):=(b.mono (SZ m n)).add (a.mono (Qf m n))
theorem Sz.sub'(b:Sz m x)(a:Sz n y):Sz (max m n+1) (x-y):=(b.mono (SZ m n)).sub (a.mono (Qf m n))
theorem Sz.lit(h:Sz m x):Sz m x:=h
theorem Sz.ok(b:Sz m x)(a:Sz n y)(h:m+n<=134217728):IntMulOk x y:=
 PyProof.Rows.mulOk_of_bits (intBits_le_iff.mpr b) (intBits_le_iff.mpr a) h
theorem Sz.log(h:Sz m x)(b:m<=9000)(a:x≠0):x.natAbs.log2<9000:=by
 have q:=(S0 (by lia)).mpr (show x.natAbs<2 ^ m from h);lia
def Ey(_ j:Int):Prop:=0<j/\Sz 9000 j
def D5(_ j:Int):Prop:=j≠0/\Sz 9000 j
section
variable {X:Cx}{a b c:Expr}{ta tb tc:TE}{U4:Pos}
theorem Dp:OpR X (Nt .Mult) (rI IntMulOk λi j=>.int (i*j)):=opI λ_ _ _ _ _ _ _ a q=>mul_int q a
theorem BB:OpR X (Nt .FloorDiv) (rI Ey λi j=>.int (i/j)):=opI λi j _ _ _ _ _ a q=>by
 have b:=a.1;exact floordiv_int (by lia) (by rw[Int.fdiv_eq_ediv_of_nonneg i (by lia)];exact q) (.inl (PyProof.noPylong_of_log2 (a.2.log (by decide) (by lia))))
theorem zA:OpR X (Nt .FloorDiv) (rI D5 λi j=>.int (i.fdiv j)):=opI λi j _ _ _ _ _ a q=>
 floordiv_int a.1 q (.inl (PyProof.noPylong_of_log2 (a.2.log (by decide) a.1)))
theorem Hm(d:Gl X x)(b:X.mg x=none)(e:KZ x=some (.type n))(a:autoParam (x≠"__name__") x4)(c:autoParam ((x==("__debug__":Str))=false) x4):PE X (.Name x U4) (tC (.ty n)):=
 CL d b e rfl a c
end
theorem kit_int_int(K):KS K (.type "int") (.type "int")=some true:=rfl
theorem kit_int_bool(K):KS K (.type "int") (.type "bool")=some false:=rfl
theorem aQ(h:H p=none)(o):aP H (upd H p o):=λb u q=>by rw[aC (bN q h)];exact q
theorem aP.put(e:aP H H')(h:H l=none)(o):aP H (upd H' l o):=λb u q=>by rw[aC (bN q h)];exact e b u q
theorem aP.tup{K:IR}{H b:Hp}{a:Jt}{xs:List V}(e:aP H b)(h:SqT K H a xs):SqT K b a xs:=by
 rcases h with (h |⟨o,h⟩) |h
 .exact .inl (.inl (e _ _ h))
 .exact .inl (.inr ⟨o,e _ _ h⟩)
 .exact .inr h
end L2
namespace L2
open PySem PySem.W PySem.Calls PySem.Spec PyProof.Rows
theorem sN{ns:List Int}(h:WData.layableAll [WData.list (ns.map WData.int)]=true):∀n∈ns,Sz 1048576 n:=by
 intro n a;have c:=(PySem.W.layableW_arg h) _ (Jq.mpr rfl);have d:=PySem.W.layableW_item c (WData.int n) (Jb.mpr ⟨n,a,rfl⟩);have e:=(PySem.W.layableW_iff.mp d).2.2;have b:Builtin.Int.intBits n<=1048576:=by simpa only[WData.weight,Builtin.Int.intBits] using e
 exact intBits_le_iff.mp b
theorem p6{l:S6} 
  (hn:l.most=some n) (hdf:d.params.defaults=[])
  (call:∀w b c k x j o s cd u a e h,
   PySem.W.Ground q loose [] XP w b k x c.heap->YP w c.heap->
   c.heap.get? j=some o->o.data=.func (docDef d.name d.params d.body d.scope s cd u)->c.heap.CodeRec cd d.name->k d.name=some (.ref j)->
   c.heap.get? a=some {cls:=.type "list",data:=.seq e.toArray }→Ui e h→h.length≤n→(∀m∈h,Sz 1048576 m)→c.gens=#[]→
   Og (JE l.prog w) R8 (.call (.ref j) ⟨[.ref a],[]⟩) (λr p=>r=.ok (.ret (.bool true))/\OldK c.heap p.heap/\p.os=c.os/\Pl p.gens) c):
  Uk q loose XP YP l.row.toRowW d [] (λf e=>UZ f e):=by
 intro w b c k x G Y j o s cd u F kV M P O y v K z A as H i E t Q;obtain rfl:F=.none:=US y hdf;obtain rfl:kV=.none:=UT y;obtain⟨a,e,h,rfl,rfl,g,D,C⟩:=Att.script_of hn H t;refine PySem.W.enter_call (Nf (call w b c k x j o s cd u a e h G Y M (PySem.W.fd_plain P) O v g D C (sN i) K) λr p I=>?_);obtain⟨rfl,J,L,B⟩:=I;exact⟨.inl ⟨.bool true,.bool true,[],rfl,λ_=>rfl,.bool true,Att.post_true l _,λ_=>⟨Oj,λ_ N=>(nomatch N)⟩⟩,J,L,B⟩
theorem walk_ofB{l:S6}{K:Params->IR}{sp:IR->Sp} 
  (hn:l.most=some n) (hn2:n<=sizeLine) (hdf:d.params.defaults=[]) (hr:bQ k R8)
  (hY:∀w h,YP w h->(K w.params).In h)
  (F:∀w i r h,(K w.params).In h->h.Ns Kz i->i d.name=some (.ref r)->
   ∃y,(∀s u,Ug s y ⟨[u],[]⟩ [(x,u)])/\
    ∀base,(K w.params).In base->base.Ns Kz i->bL l.prog w (K w.params) i base CX k r y [x] (sp (K w.params)))
  (VU:∀K H a (p:List Int),p.length<=n->(∀m∈p,Sz 1048576 m)->Cv H->SqL K H a (p.map V.int)->sp K [.ref a] H (λv _=>v=.bl true) λ_ _ _=>False)
  (hCX:∀H s e t,CX [] H s (λ_ _ _=>False) e t->False):
  Uk q loose XP YP l.row.toRowW d [] (λf D=>UZ f D):=by
 refine p6 hn hdf λw C L i U r o O cd P a D p G Y Q S R z j E B c J=>?_;have A:=hY w _ Y;obtain⟨y,hb,N⟩:=F w i r _ A G.T.g z;exact yy A G.T.g G.T.b G.T.builtins G.T.nolimit J j E (Jy B hn2) hr N hb (λH M I=>VU _ H a p B c M I) λH e t=>hCX H L e t
end L2
namespace L2
theorem aW{α:Type}{xs:List α}{i:Nat}{v:α}(e:k=(i:Int))(h:xs[i]?=some v):atI xs k=some v:=by subst e;exact vK h
theorem Sz.natle(a:Sz m y)(h:x.natAbs<=y.natAbs):Sz m x:=Sz.le h a
end L2
namespace L2
open PySem PySem.Spec PyProof.Rows
noncomputable abbrev aI(X:Cx)(scope:Rx)(cl:List (Str×Jt))(C:Jt)(s:Jd)(H:Hp)(fp:List Jt):Cx:=
 {X with s₀:=s,H₀:=H,env:=RB scope cl C X.env,outer:=X.stack,ex:=fp,fn:=λ_=>false,pn:=[],xe:=λ_ _=>False }
noncomputable def mask:List Nat->St->St
 |[],σ=>σ
 |i::is,σ=>mask is (σ.set i none)
theorem fI:∀is a,(mask is a).length=a.length
 |[],_=>rfl
 |i::is,a=>by rw[mask,fI is];simp
theorem jq:∀is σ j v,(mask is σ)[j]?=some (some v)->σ[j]?=some (some v)/\j ∉ is
 |[],σ,j,v,h=>⟨h,by simp⟩
 |i::is,σ,j,v,h=>by
  obtain⟨a,b⟩:=jq is _ j v h;by_cases e:i=j
  .subst e;rw[PF]at a;simp at a
  .rw[JA e]at a;exact⟨a,by simp[Ne.symm e,b]⟩
structure cy(X:Cx)(scope:Rx)(cl:List (Str×Jt))(is:List Nat):Prop where
 clos:Ua scope X.env=pure cl
 cell:∀y∈scope.names,y.2≠.cell
 kind:scope.kind=.function
 names:∀y∈scope.names,y.2=.local->scope.names.lookup y.1=some .local
 cls:∀x c,cl.lookup x=some c->X.env.cells.lookup x=some c
 free:∀x,((relabel scope X.env).names.lookup x=some .cell\/(relabel scope X.env).names.lookup x=some .free)->Vis X.env.scope x/\X.env.scope.names.lookup x≠some .local/\∃c,cl.lookup x=some c
 own:∀i x,X.N[i]?=some x->(relabel scope X.env).names.lookup x=some .local->i∈is
def Ba(J:It)(is:List Nat)(g:TG)(o:TE)(e:St)(k:Hp)(l:Jt)(Q:VK):Prop:=
 ∃W:Nat->Nat->Hp->Prop,(∃m,W 0 m (upd k l (.lst [])))/\∀i m a,W i m a->
  (J.stop i a/\Q (.ref l) a)\/(J.go i a/\∀x d,J.yld i a x d->g x (mask is e) d λf n=>o f n λy h=>
   (∀(j:Nat) (v:V),(mask is e)[j]?=some (some v)->f[j]?=some (some v))/\∃b,h l=some (.lst b)/\b.length<sizeLine/\∃c,c<m/\W (i+1) c (upd h l (.lst (b++[y]))))
def HJ(is:List Nat)(g:TG)(b:TE)(c:St)(Q:VK)(J:It)(a:Hp):Prop:=∀l,a l=none->Ba J is g b c a l Q
noncomputable def DW(is:List Nat)(c:TI)(g:TG)(b:TE):TE:=λa H Q=>c a H (HJ is g b a Q)
section
variable {X:Cx}{U_:List (Jt×Obj)}{σ:St}{H:Hp}{s:Jd}
theorem kU(I:Inv X U_ σ H s)(B:cy X scope cl is)(a:∀b∈fp,jK X U_ H b)(j:∀b∈fp,b<s.heap.objs.size)
  (hn:h₁.Ns s.heap.objs.size m) (hk:∀b o,s.heap.get? b=some o->h₁.get? b=some o):
  Inv (aI X scope cl s.heap.objs.size s H fp) [] (mask is σ) H {s with heap:=h₁,toks:=t' }:=by
 refine⟨⟨I.ok.mod,B.kind,I.ok.glob,I.ok.blt,IV _,λx y c d n=>I.ok.inj x y c (B.cls x c d) (B.cls y c n),λx D=>(B.free x D).2.2,λx c h=>(by cases h),I.ok.hd,I.ok.frames,.inl rfl,λb hb=>⟨Jv (j b hb),λx c e=>(a b hb).2.2.2.2.1 x c (B.cls x c e)⟩,
  I.bs,Jy I.ok.bsz I.sz,λb o e hb=>?_,λb hb z=>?_,I.stack,I.stkFree⟩,rfl,I.bare,Un.kept hk,⟨m,hn,λi x v d n L=>?_⟩,λx c e=>?_,I.hok.fresh (IV _),λx c e=>I.freeC x c (B.cls x c e),λp G=>absurd (show p∈([]:List (Jt×Obj)) from G) (by simp),I.hok.kept hk,?_⟩
 .rcases (a b hb).2.2.2.1 with z |z
  .exact I.ok.noex b o e z
  .exact absurd (IZ (Jc e) (Jy I.ok.bsz z)) (JY _)
 .rcases IT.mp (I.stkSub b z) with e |e
  .exact (a b hb).2.1 e
  .exact (a b hb).2.2.1 e
 .obtain⟨J,F⟩:=jq is σ i v n;have f:=L;rcases f with z |z
  .exact absurd (B.own i x d z) F
  .obtain⟨C,g,c,A⟩:=B.free x z;obtain⟨O,_,K⟩:=I.loc;obtain⟨u,r,l⟩:=K i x v d J C;refine⟨u,r,.inr ⟨z,c,A,?_⟩⟩;rcases l with ⟨k,_⟩ |⟨_,M,E,o,q,t⟩
   .exact absurd k g
   .have w:=B.cls x c A;rw[E]at w;cases w;exact⟨o,hk _ _ q,t⟩
 .obtain⟨v,o,q,t⟩:=I.cell x c (B.cls x c e);exact⟨v,o,hk _ _ q,t⟩
 .show (mask is σ).length=X.N.length;rw[fI];exact I.len
end
section
variable {prog:Jr}{w:J5}{A:Kb}{E:Je→Jd→Prop}
theorem oy(h:t≠it):∀n i s Q,s.heap.IsListIter it t i->s.heap.IsList t items->i+n<=items.size->
  (∀h',h'.IsListIter it t (i+n)->Ms it s.heap h'->Q ((items.toList.drop i).take n) {s with heap:=h' })->JN (JE prog w) A (draw (.ref it) n) Q E s
 |0,i,s,Q,d,_,_,c=>by
  exact IX (by simpa using c s.heap d (PH ..))
 |n+1,i,s,Q,d,g,m,c=>by
  have Vj:i<items.size:=by lia
  refine IP (Qm d g (x:=items[i]) (by simp[Vj]) λe k f=>?_);refine IP (Ko (oy h n (i+1) _ _ k (g.extBut f.extBut h) (by lia) λj a b=>IX ?_));have l:items.toList.drop i=items[i]::items.toList.drop (i+1):=by simp[JJ,Vj]
  have:=c j (by rw[show i+(n+1)=i+1+n by lia];exact a) (f.trans b);rw[l,Lg]at this;exact this
theorem j4(k:A.handled=none)(d:s.heap.IsList t items)
  (hQ:∀g,UI s.heap.objs.size s.heap g->Q items.toList {s with heap:=g }):JN (JE prog w) A (unpackItems (.ref t) items.size none) Q E s:=by
 have i:t≠s.heap.objs.size:=by obtain⟨o,l,_⟩:=d;exact Jv (Jc l)
 refine IP ?_
 .unfold notIterableAtAll;refine IP (Mi d.typeIs PySem.slot_list_iter.lookup ?_);refine IX ?_;simp only[Ju,if_false];refine IP (Ko (MP d ?_));refine IP (Ko (oy i items.size 0 _ _ ⟨_,Jm _ rfl,rfl,rfl⟩ (d.push _) (by lia) λf j h=>?_))
  have m:List.take items.size (List.drop 0 items.toList)=items.toList:=by
   rw[List.drop_zero];exact Kq (by simp)
  rw[m];rw[if_neg (by simp)];have c:=(d.push _).extBut h.extBut i;refine IP (Ko (QA k j c (by simp) λn a=>?_));simp only[Option.isSome_none,Ju,if_false];refine IX (hQ n λb o hb e=>a b o hb (h.extBut b o hb (IU _ e)))
variable {X:Cx}{U4:Pos}
noncomputable def Ie(K:IR)(n:Nat)(t:TGs):TG:=λv c H Q=>∃a b,v=.ref a/\SqL K H a b/\b.length=n/\t b c H Q
theorem Fy(w:X.calm=true)(h:PGs X es t)
  (hn:autoParam ((Mp es X.env).length=n) z0) (Vp:autoParam ((Mp es X.env).findIdx? (·.1)=none) z0):PG X (.Tuple es k U4) (Ie X.K n t):=by
 intro x s q H v u Q I r c;obtain⟨a,l,g,m,p,c⟩:=c;subst g;cases r;obtain⟨its,d,i,z⟩:=I.list m;rw[assign_Tuple];refine IP (N4 ?_);unfold unpack;rw[Vp,hn,<-p,d.length,<-JG];refine IP (Ko (j4 (I.ok.hd w) i.isList λy f=>?_));have j:=I.kept (t':=s.toks) λb o e=>f b o (Jv (Jc e)) e;exact h x _ q H l _ Q j (by simpa using d) c
end
noncomputable def goC(a:List (Str×Jt)):List (Str×Q4)->List (Str×Jt)->List (Str×Jt)
 |[],acc=>acc
 | (n,k)::r,acc=>goC a r (if (k==.free)=true then (n,(a.lookup n).getD 0)::acc else acc)
theorem uL(h:∀y∈scope.names,y.2=.free->(env.cells.lookup y.1).isSome=true):Ua scope env=pure (goC env.cells scope.names []):=by
 have all:∀names a,(∀y∈names,y.2=.free->(env.cells.lookup y.1).isSome=true)->
   (forIn names a (λx g=>match x with | (name,b)=>if (b==.free)=true then (do let c <-cellOf env name;pure (ForInStep.yield ((name,c)::g))) else pure (ForInStep.yield g)):Sem (List (Str×Jt)))=pure (goC env.cells names a):=by
  intro names
  induction names with
  |nil=>intro a _;rfl
  |cons y r f=>
   intro a hy;obtain⟨n,k⟩:=y;rw[QH];by_cases i:k=.free
   .subst i;have:=hy (n,.free) IW rfl;obtain⟨c,j⟩:=KG.mp this;have e:cellOf env n=pure c:=by unfold cellOf;rw[j]
    simp only[beq_self_eq_true,if_true,e,pure_bind];rw[f _ λy d=>hy y (IS _ d)];simp only[goC,beq_self_eq_true,if_true,j,OG]
   .have hb:(k==NameKind.free)=false:=by simpa using i
    simp only[hb,Ju,if_false,pure_bind];rw[f _ λy d=>hy y (IS _ d)];simp only[goC,hb,Ju,if_false]
 simp only[Ua];have:=all scope.names [] h;simpa using this
theorem CJ:∀names a,(∀y∈names,y.2=.free->(V1.lookup y.1).isSome=true)->(∀x c,a.lookup x=some c->V1.lookup x=some c)->
  ∀x c,(goC V1 names a).lookup x=some c->V1.lookup x=some c:=by
 intro o
 induction o with
 |nil=>
  intro _ _ ha x c h;exact ha x c h
 |cons p r l=>
  obtain⟨n,k⟩:=p;intro a hy ha x c h;rw[goC]at h;refine l _ (λy j=>hy y (IS _ j)) (λb g e=>?_) x c h
  by_cases i:k=.free
  .subst i;simp only[beq_self_eq_true,if_true]at e;rw[Lw]at e;by_cases f:(b==n)=true
   .rw[f]at e;have m:b=n:=by simpa using f
    obtain⟨q,d⟩:=KG.mp (hy (n,.free) IW rfl);simp only[d,OG]at e;rw[m,d];exact e
   .have:(b==n)=false:=by simpa using f
    rw[this]at e;exact ha b g e
  .have hb:(k==NameKind.free)=false:=by simpa using i
   rw[hb]at e;exact ha b g e
theorem Dk:∀names a,((x,NameKind.free)∈names\/∃c,a.lookup x=some c)->∃c,(goC V1 names a).lookup x=some c:=by
 intro g
 induction g with
 |nil=>
  intro _ h;rcases h with h |h
  .cases h
  .exact h
 |cons f r d=>
  obtain⟨n,k⟩:=f;intro a h;rw[goC];refine d _ ?_;rcases h with h |⟨c,h⟩
  .rcases IT.mp h with e |h
   .cases e
    right
    simp
   .exact .inl h
  .right
   by_cases b:k=.free
   .subst b;simp only[beq_self_eq_true,if_true];rw[Lw];cases hx:x==n with
    |true=>exact⟨_,rfl⟩
    |false=>exact⟨c,h⟩
   .have hb:(k==NameKind.free)=false:=by simpa using b
    rw[hb];exact⟨c,h⟩
theorem eM{a:Env}{x:Str}{c:Q4}:∀{names:List (Str×Q4)},
  (names.map λ(n,k)=>if (k==NameKind.free && a.scope.kind==.function && a.kindOf n==some .cell) then (n,NameKind.cell) else (n,k)).lookup x=some c->names.lookup x=some c\/(c=.cell/\names.lookup x=some .free):=by
 intro i
 induction i with
 |nil=>
  intro h;simp at h
 |cons g r b=>
  obtain⟨n,k⟩:=g;intro h;have b:=@b
  change NW x ((if (k==NameKind.free && a.scope.kind==.function && a.kindOf n==some .cell)=true then (n,NameKind.cell) else (n,k))::_)=_ at h
  by_cases d:(k==NameKind.free && a.scope.kind==.function && a.kindOf n==some .cell)=true
  .rw[if_pos d]at h;rw[Lw]at h |-;cases hx:x==n with
   |true=>
    rw[hx]at h
    have f:k=.free:=by
     have:=(OO.mp (OO.mp d).1).1;simpa using this
    subst f;have e:=h;cases e;exact .inr ⟨rfl,rfl⟩
   |false=>rw[hx]at h;exact b h
  .rw[if_neg d]at h;rw[Lw]at h |-;cases hx:x==n with
   |true=>rw[hx]at h;exact .inl h
   |false=>rw[hx]at h;exact b h
noncomputable def zj(scope a:Rx)(N:List Str)(is:List Nat):Bool:=
 scope.names.all (λy=>y.2 !=.cell) && scope.names.all (λy=>y.2 !=.local ||scope.names.lookup y.1==some .local) && scope.names.all (λy=>y.2 !=.free ||a.names.lookup y.1==some .cell) &&
  (J3 N.length).all λi=>match N[i]? with |some x=>scope.names.lookup x !=some .local ||is.contains i |none=>true
theorem blk(VG)(N)(is)(d:X.N=N)(hs:X.env.scope=VG)(b:X.env.cells=SY (X.env.locals+1) VG.names [])(q:scope.kind=.function)(h:zj scope VG N is=true):cy X scope (goC X.env.cells scope.names []) is:=by
 subst d;unfold zj at h;simp only[KU,M3]at h;obtain⟨⟨⟨u,s⟩,t⟩,n⟩:=h
 have j:∀y∈scope.names,y.2=.free->VG.names.lookup y.1=some .cell:=λy hy e=>by
  have:=t y hy;simp only[S7,bne_iff_ne,ne_eq,beq_iff_eq]at this;exact this.resolve_left λz=>z e
 have g:∀y∈scope.names,y.2=.free->(X.env.cells.lookup y.1).isSome=true:=λy hy e=>by
  rw[b];exact Oc _ _ _ (.inl (j y hy e))
 have l:∀y∈scope.names,y.2≠.cell:=λy hy=>by have:=u y hy;simpa using this
 refine⟨uL g,l,q,λy hy e=>?_,CJ _ _ g (λx c e=>by simp at e),λx a=>?_,λi x m r=>?_⟩
 .have:=s y hy;simp only[S7,bne_iff_ne,ne_eq,beq_iff_eq]at this;exact this.resolve_left λz=>z e
 .have f:(x,NameKind.free)∈scope.names:=by
   rcases a with a |a
   .rcases eM a with z |⟨_,z⟩
    .exact absurd rfl (l _ (Le z))
    .exact Le z
   .rcases eM a with z |⟨z,_⟩
    .exact Le z
    .cases z
  have k:=j _ f rfl;refine⟨.inr (.inl (by rw[hs];exact k)),(by rw[hs,show VG.names.lookup x=some .cell from k];intro z;cases z),Dk _ _ (.inl f)⟩
 .have o:=(I_.mp m).1;have:=n i (JM.mpr o);rw[m]at this
  have p:scope.names.lookup x=some .local:=by
   rcases eM r with z |⟨z,_⟩
   .exact z
   .cases z
  simp only[p,bne_self_eq_false,Ul,List.contains_iff_mem]at this;exact this
end L2
namespace L2
open PySem PySem.Spec PySem.W PyProof.Rows
theorem DL{K:Frag}(X:K.In h)(o:mg x=some (.ref C))(q:excIn K C bmB newId=true):OwnCls x C bmB newId mg h:=by
 refine⟨o,?_⟩;unfold excIn at q;split at q
 .rename_i w cd g A
  split at q
  .rename_i G u l j f m n k E i
   simp only[KU,beq_iff_eq,Ol]at q;obtain⟨⟨⟨⟨⟨p,t⟩,a⟩,s⟩,b⟩,d⟩:=q;subst p t;obtain⟨nm,bs,r,y,D,F,v,sub,B,c,z⟩:=cd;subst E a;have e:g=#[l,j,f,m,some (.builtin n),k]:=by cases g;simp only at i;rw[i]
   subst e;exact⟨u,y,nm,D,bs,F,v,sub,B,c,w,l,j,f,m,k,_,X _ _ A,.of_isNs (isNs_of_in X b),nsMap_none_of_in X b d,tail_of_in X s⟩
  .cases q
 .cases q
noncomputable def CXF(P:Jr)(w:J5):CXT:=λa H s E e f=>∃(g:Jt) (c i:Je) (B:Ma) (d:Hp),e=.ref g/\f.os=s.os/\Pl f.gens/\Un (frs a) [] H d s.heap f.heap/\HOk P w d f.heap/\d g=none/\
 (∀b o,s.heap.get? b=some o->b ∉ frs a->H b=none->B.get? b=some o)/\(∀b u,d b=some u->∃o,B.get? b=some o)/\(∀b o,s.heap.get? b=some o->b ∉ frs a->∃h,B.get? b=some h)/\
 Sr B a g c i f.heap/\E c none d
theorem gV:bO (CXF P w) X E0:=λ_ _ _ _ _ _ _ h=>by
 obtain⟨_,_,_,_,_,_,_,_,_,_,_,_,_,_,_,a⟩:=h;exact a.elim
theorem oH(x:cH P w H h a o):∃b,h.get? a=some b:=by
 cases o with
 |lst d=>obtain⟨_,_,_,_,e⟩:=x;exact⟨_,e⟩
 |tup d=>obtain⟨_,_,_,b,e,_⟩:=x;exact⟨_,e⟩
 |dK c=>obtain⟨_,_,_,_,o,_,_,e,_⟩:=x;exact⟨_,e⟩
 |dT c=>obtain⟨_,_,_,_,o,_,_,e,_⟩:=x;exact⟨_,e⟩
 |set S n=>obtain⟨o,_,_,_,e,_⟩:=x;exact⟨_,e⟩
 |ins C j fs=>obtain⟨_,_,_,e,_⟩:=x;exact⟨_,e⟩
 |own y=>obtain⟨_,e⟩:=x;exact⟨_,e⟩
 |xd fs=>obtain⟨_,⟨_,_,_,e,_⟩,_⟩:=x;exact⟨_,e⟩
 |rng g l=>obtain⟨_,_,_,e⟩:=x;exact⟨_,e⟩
 |frz b u=>obtain⟨e,_⟩:=x;exact⟨_,e⟩
 |tbl i=>exact⟨_,(show h.get? a=some _ from x)⟩
 |met f y=>exact⟨_,(show h.get? a=some _ from x)⟩
 |ext k=>obtain⟨_,⟨_,e⟩,_⟩:=x;exact⟨_,e⟩
theorem io{h h' B:Ma}(g:HOk P w H' h)(i:∀b u,H' b=some u->∃o,B.get? b=some o)(j:B.StaysIn h)(k:B.StaysIn h'):HOk P w H' h':=λa o e=>by
 refine (g a o e).stay (λb u hb q=>?_) (λ_ q=>q) λ_ _ q=>q
 have:∃v,H' b=some v:=by
  rcases hb with z |z
  .subst z;exact⟨_,e⟩
  .exact⟨_,z⟩
 obtain⟨v,f⟩:=this;obtain⟨d,c⟩:=i b v f;have:=j b d c;rw[q]at this;cases this;exact k b _ c
theorem zC{a:List Jt}{g l:Hp}{d h1 k B:Ma}(u:Un a [] g l d h1)(k1:∀b o,d.get? b=some o->b ∉ a->g b=none->B.get? b=some o)(k3:∀b o,d.get? b=some o->b ∉ a->∃f,B.get? b=some f)
  (st:B.StaysIn k) (up:h1.UpToSlots k) (fr:∀b∈a,∀o,d.get? b=some o->∀q,o.data≠.fields q) (frf:∀b∈a,g b=none):Un a [] g l d k where
 keep:=λb o e n hb _=>st b o (k1 b o e hb n)
 slot:=λb o e n hb h=>by
  obtain⟨m,i⟩:=u.slot b o e n hb h;obtain⟨c,j⟩:=up b _ i (fr b hb o e);exact⟨c,j⟩
 free:=u.free
 there:=λb o e h=>by
  by_cases hb:b∈a
  .obtain⟨m,i⟩:=u.slot b o e (frf b hb) hb h;obtain⟨c,j⟩:=up b _ i (fr b hb o e);exact⟨_,j⟩
  .obtain⟨f,p⟩:=k3 b o e hb;exact⟨f,st b f p⟩
 tups:=u.tups
 frzs:=u.frzs
 tbls:=u.tbls
theorem jz{h a:Ma}:∀{l},h.FunFrames a l->∀b∈frs l,∀o,h.get? b=some o->∀c,o.data≠.fields c
 |[],_,b,hb,_,_=>absurd (show b∈[] from hb) (by simp)
 |env::r,⟨_,⟨L,o',hf,_,ho,hd⟩,hr⟩,b,hb,o,e=>by
  unfold frs at hb;rw[Lb,hf]at hb;rcases IT.mp hb with z |z
  .subst z;rw[ho]at e;cases e;exact hd
  .exact jz hr b z o e
section
variable {P:Jr}{w:J5}{K:Frag}{mg:Str→Option Je}{base:Ma}{N:List Str}{U8:Str}{scope:Rx}{f:Jt}{cd:Je}{A:Kb}{outer:List Env}{s:Jd}{H:Hp}{E:XK}
theorem i9(h:env.frame=some L):frs (env::l)=L::frs l:=by unfold frs;rw[Lb,h]
theorem qT{B h1 m:Ma}(I:Inv (dG (CXF P w) P w K mg base N U8 scope f cd A outer s H E) U_ σ H1 s1)
  (un:Un (frs (NH U8 scope s.heap.objs.size f cd::outer)) [] H1 H' s1.heap h1)
  (k1:∀b o,s1.heap.get? b=some o->b ∉ frs (NH U8 scope s.heap.objs.size f cd::outer)->H1 b=none->B.get? b=some o) (k3:∀b o,s1.heap.get? b=some o->b ∉ frs (NH U8 scope s.heap.objs.size f cd::outer)->∃a,B.get? b=some a)
  (st:B.StaysIn m) (up:h1.UpToSlots m):
  Un (frs outer) [] H H' s.heap m/\(∀b o,s.heap.get? b=some o->b ∉ frs outer->H b=none->B.get? b=some o)/\(∀b o,s.heap.get? b=some o->b ∉ frs outer->∃a,B.get? b=some a):=by
 have G:frs (NH U8 scope s.heap.objs.size f cd::outer)=s.heap.objs.size::frs outer:=i9 rfl;rw[G]at un k1 k3
 have t:∀b o,s.heap.get? b=some o->b ∉ frs outer->b ∉ s.heap.objs.size::frs outer:=λb o e hb z=>by
  rcases IT.mp z with y |y
  .exact absurd (Jc e) (by rw[y];exact JY _)
  .exact hb y
 have c:Un (frs outer) [] H H1 s.heap s1.heap:=I.base
 have v:∀b o,s.heap.get? b=some o->b ∉ frs outer->H b=none->B.get? b=some o:=λb o e hb n=>
  k1 b o (c.keep b o e n hb (by simp)) (t b o e hb) (c.free b o e n (by simp))
 have x:∀b o,s.heap.get? b=some o->b ∉ frs outer->∃a,B.get? b=some a:=λb o e hb=>by
  obtain⟨a,l⟩:=c.there b o e (by simp);exact k3 b a l (t b o e hb)
 have q:∀b∈frs outer,∀o,s.heap.get? b=some o->∀L,o.data≠.fields L:=jz I.ok.funs;have j:∀b∈frs outer,H b=none:=I.ok.frf;refine⟨⟨λb o e n hb _=>st b o (v b o e hb n),λb o e n hb d=>?_,λb o e n d=>?_,λb o e d=>?_,λb r e=>un.tups b r (c.tups b r e),λb o u e=>un.frzs b o u (c.frzs b o u e),λb D e=>?_⟩,v,x⟩
 .obtain⟨J,g⟩:=c.slot b o e n hb d;obtain⟨p,i⟩:=un.slot b _ g (c.free b o e n d) (IS _ hb) d;obtain⟨h,k⟩:=up b _ i (q b hb o e);exact⟨h,k⟩
 .obtain⟨a,g⟩:=c.there b o e d;exact un.free b a g (c.free b o e n d) d
 .by_cases hb:b∈frs outer
  .obtain⟨J,g⟩:=c.slot b o e (j b hb) hb d;obtain⟨p,i⟩:=un.slot b _ g (c.free b o e (j b hb) d) (IS _ hb) d;obtain⟨h,k⟩:=up b _ i (q b hb o e);exact⟨_,k⟩
  .obtain⟨a,l⟩:=x b o e hb;exact⟨a,st b a l⟩
 .obtain⟨F,g⟩:=c.tbls b D e;obtain⟨C,i⟩:=un.tbls b _ g;exact⟨F++C,by rw[i,N3]⟩
theorem vz:bO (CXF P w) (dG (CXF P w) P w K mg base N U8 scope f cd A outer s H E) E:=by
 intro D C v y e x I d;obtain⟨k,c,t,B,p,rfl,j,b,un,g,i,l,h,q,fl,o⟩:=d;refine wpAny_leaves_onW I.ok.frames rfl fl λz a n=>?_;obtain⟨u,m,r⟩:=qT I un l q a.1 n;exact⟨k,c,t,B,p,rfl,j.trans I.os,b,u,io g h fl.1 a.1,i,m,h,r,a,o⟩
noncomputable def EO(E:XK)(C:Jt)(b:TE):TS:=λ_ c H=>b c H λ_ a=>E (.ref C) none a
theorem yn(k:excIn K C [.type "ValueError",.type "Exception",.type "BaseException",.type "object"] "ValueError.__new__"=true)
  (hg:Gl (dG (CXF P w) P w K mg base N U8 scope f cd A outer s H E) x) (hm:mg x=some (.ref C)) (he:PE (dG (CXF P w) P w K mg base N U8 scope f cd A outer s H E) e0 te)
  (Vp:autoParam (IY [e0] (dG (CXF P w) P w K mg base N U8 scope f cd A outer s H E).env=[(false,K0 e0 (dG (CXF P w) P w K mg base N U8 scope f cd A outer s H E).env)]) z0) (hd:autoParam ((x==("__debug__":Str))=false) x4):
  PS (dG (CXF P w) P w K mg base N U8 scope f cd A outer s H E) (.Raise (some (.Call (.Name x np) [e0] [] U5)) none U4) (EO E C te):=by
 intro V F J p D I h;have O:=DL I.ok.mod.kin hm k;obtain⟨X,B,nm,q,bs,hdct,sn,sub,ab,col,dd,k0,k1,k2,k3,k5,mN,r,U,j,T⟩:=O.obj;have Q:(Kv U5 (IY [e0] (dG (CXF P w) P w K mg base N U8 scope f cd A outer s H E).env)).any (·.1)=false:=by rw[Vp];rfl
 refine wpAny_Raise_call_subT (nm:=nm) (q:=q) (N:=B) (bs:=bs) (hdct:=hdct) (sn:=sn) (sub:=sub) (ab:=ab) (col:=col) (dd:=dd) (k0:=k0) (k1:=k1) (k2:=k2) (k3:=k3) (k5:=k5)
  O8 (T.hasType O8.hasBase) (I.ok.hd rfl) Q j (gi I hg hm ⟨rfl,?_⟩ hd)
 rw[Vp];refine NI ?_;refine Ln (thn (he V F J p _ I h) λv S ⟨y,g,a,W,M⟩=>Mc ⟨rfl,by show 1<=sizeLine;decide,a.bk _ _ r,U.keeps a.bk,T.keeps a.bk,λY e i=>?_⟩);have l:=a.stack
 refine wpAny_leaves_madeW a.ok.frames rfl (λb o q=>of_hideAll _ q)
  (funFrames_hide l λd he b hb=>N5.mpr ⟨d,he,hb⟩) i λZ t fl _ _ L=>?_
 have n:∀b u,g b=some u->∃o,(hideAll S.heap (frs (NH U8 scope s.heap.objs.size f cd::outer))).get? b=some o:=λb u e=>by
  obtain⟨m,c⟩:=oH (a.hok b u e);exact⟨m,hideAll_get _ c λz=>by have:=a.stkFree b z;rw[e]at this;cases this⟩
 obtain⟨u,G,R⟩:=qT a (Un.kept i.keeps) (λb o e hb _=>hideAll_get _ e hb) (λb o e hb=>⟨o,hideAll_get _ e hb⟩) fl.1 L;refine⟨e,.ref C,.ref t,_,g,rfl,a.os,a.bare,u,io a.hok n (λb o q=>of_hideAll _ q) fl.1,?_,G,n,R,fl,M⟩;cases z:g e with
 |none=>rfl
 |some u=>
  obtain⟨m,c⟩:=oH (a.hok e u z);rw[i.new]at c;cases c
end
theorem Fun.okF{K:Frag}{st:LS}(F:Fun K x U8 st f fd)(S:aq N ps (ah st))(d:∀c H Q E,sp c H Q E->c.length=ps.length)
  (VJ:∀b A a s H c Q E,bQ k (A.deeper (NH U8 (ah st) s.heap.objs.size f b))->sp c H Q E->
   ∃t,PSs (dG (CXF P w) P w K mg base N U8 (ah st) f b A a s H E) (b9 st) t/\t {nx:=λ_ j=>Q .non j,rt:=Q } (start N c) H):bL P w K mg base (CXF P w) (k+1) f fd ps sp:=by
 obtain⟨r,m,kV,q,o,n,b,p,h,rfl,g,l⟩:=F.ex;exact G_ g l S d λA a s H c Q E i e=>VJ b A a s H c Q E i e
noncomputable abbrev gM(X:Cx)(a:Jt):Cx:={X with A:=X.A.mark (some (.ref a)),calm:=false,xe:=λ_ _=>False }
section
variable {X:Cx}{U_:List (Jt×Obj)}{σ:St}{H:Hp}{s:Jd}
theorem Inv.hand(I:Inv X U_ σ H s)(ea):Inv (gM X ea) U_ σ H s:=
 ⟨⟨I.ok.mod,I.ok.kind,I.ok.glob,I.ok.blt,I.ok.above,I.ok.inj,I.ok.has,I.ok.cab,λh=>(by cases h),I.ok.frames,I.ok.stk,I.ok.exf,I.ok.bs,I.ok.bsz,I.ok.noex,I.ok.exfs,I.ok.funs,I.ok.frf⟩,
  I.os,I.bare,I.base,I.loc,I.cell,I.free,I.freeC,I.pin,I.hok,I.len⟩
theorem Inv.unhand(a:X.calm=true->X.A.handled=none)(I:Inv (gM X ea) U_ σ H s):Inv X U_ σ H s:=
 ⟨⟨I.ok.mod,I.ok.kind,I.ok.glob,I.ok.blt,I.ok.above,I.ok.inj,I.ok.has,I.ok.cab,a,I.ok.frames,I.ok.stk,I.ok.exf,I.ok.bs,I.ok.bsz,I.ok.noex,I.ok.exfs,I.ok.funs,I.ok.frf⟩,
  I.os,I.bare,I.base,I.loc,I.cell,I.free,I.freeC,I.pin,I.hok,I.len⟩
theorem SP.unhand(c:X.calm=true->X.A.handled=none)(h:SP (gM X ea) U_ D f s'):SP X U_ D f s':=by
 cases f with
 |next=>obtain⟨b,a,I,q⟩:=h;exact⟨b,a,I.unhand c,q⟩
 |brk=>obtain⟨b,a,I,q⟩:=h;exact⟨b,a,I.unhand c,q⟩
 |cont=>obtain⟨b,a,I,q⟩:=h;exact⟨b,a,I.unhand c,q⟩
 |ret u=>obtain⟨v,b,a,I,r,q⟩:=h;exact⟨v,b,a,I.unhand c,r,q⟩
end
end L2
namespace L2
open PySem PySem.Spec PyProof.Rows
theorem oM:(J3 n).all e=true↔∀j,j<n->e j=true:=by
 rw[M3];exact⟨λh j a=>h j (JM.mpr a),λh j a=>h j (JM.mp a)⟩
end L2
namespace PySem.W
open PySem PySem.Spec PySem.Calls PyProof.Rows PySem.Builtin PySem.Builtin.ObjectAttr PySem.Builtin.Getset_descriptor
section
variable {prog:Jr}{w:J5}{A:Kb}{E:Je→Jd→Prop}{s:Jd}{K:Frag}{x C:Jt}
def OfCls(x C:Jt)(h:Ma):Prop:=∃o,h.get? x=some o/\o.cls=.ref C
theorem OfCls.type(I:OfCls x C h):Looks M h (UR (.ref x)) (.ref C):=by
 obtain⟨o,a,b⟩:=I;exact b ▸ (Looks.ld a).andThen .now
theorem Gc(X:K.In s.heap)(I:OfCls x C s.heap)(a:mroIn K C (.type "object")=some true)
  (h:R (.ok (.ret (.ref C))) s):Og (JE prog w) A (.call (.builtin "getset_descriptor.__get__") ⟨[.builtin "object.__class__",.ref x,tp],[]⟩) R s:=by
 obtain⟨b,g,d,t,f⟩:=s;have c:=I.type (M:=JE prog w);have e:=looks_mroIn (M:=JE prog w) X a;refine OP KF.slot_gs.plain KF.entry_gs (KF.slot_gs.check _ _ _ _ _ _ _ _ KF.type_class (KF.args_gs _ _ _) ?_);unfold Builtin.«getset_descriptor.__get__» descrGet;rw[dga_obj];refine IP (IX ?_);unfold descrGetter descrCheckInstance descrNameAndClass R9;simp only[KF.owner_class]
 repeat lk
 refine⟨Code.quiet_builtin _ (by decide+kernel),Nh KF.entry_class ?_⟩;unfold Builtin.«object.__class__» shownTypeOf
 repeat lk
 exact h
theorem Cp(X:K.In h)(c:findIn K (.ref C) name=some (some a))(e:specialIn K a "__get__"=some (some g))(i:takesIn K a=some true):
  Looks M h (find (.ref x) (.ref C) name) (.bind g a):=by
 have d:=looks_findIn (M:=M) X c;have b:Looks M h (getOf (some a)) (some g):=looks_specialIn X e;have f:=looks_takesIn (M:=M) X i;exact d.andThen (b.andThen ((show Looks M h (dataDescriptor? (some a) (some g)) (some (g,a)) from f.andThen .now).andThen (Looks.tag .now)))
variable (hga:findIn K (.ref C) "__getattribute__"=some (some (.builtin "BaseException.__getattribute__"))) (hgn:findIn K (.ref C) "__getattr__"=some none) (ha:findIn K (.ref C) "__class__"=some (some (.builtin "object.__class__")))
 (hn:specialIn K (.builtin "object.__class__") "__get__"=some (some (.builtin "getset_descriptor.__get__"))) (Wf:takesIn K (.builtin "object.__class__")=some true) (hm:mroIn K C (.type "object")=some true) (hmB:mroIn K C (.type "BaseException")=some true)
include ha hn Wf hm in
theorem Au(X:K.In s.heap)(I:OfCls x C s.heap)(a:Q (.done (.ret (.ref C))) s):
  JN (JE prog w) A (Builtin.«object.__getattribute__» ⟨[.ref x,.str "__class__" tk],[]⟩) Q E s:=by
 have b:=I.type (M:=JE prog w);have c:=Cp (M:=JE prog w) (x:=x) X ha hn Wf;obtain⟨d,g,e,t,f⟩:=s;unfold Builtin.«object.__getattribute__»;refine IP (IX ?_);refine IP (IX (IP (b.at (IP (c.at ?_)))));show JN _ _ (bindTo _ _ _ _) _ _ _;unfold bindTo;show JN _ _ (OX [_] (call _ [_,_,_]) >>=ret) _ _ _;refine IP (Ko (Py (Gc X I hm ?_)));exact IX a
include hmB in
theorem zu(X:K.In s.heap)(I:OfCls x C s.heap)(e:Q () s):JN M A (SF "BaseException.__getattribute__" ⟨[.ref x,nameV],[]⟩) Q E s:=by
 have b:builtinKind "BaseException.__getattribute__"=some .slot:=by decide+kernel
 have a:splitId "BaseException.__getattribute__"=some ("BaseException","__getattribute__"):=by decide+kernel
 have c:=F.args_bexc_ga (.ref x) nameV;have L:Looks M s.heap (R9 (.ref x) (.type "BaseException")) true:=I.type.andThen (looks_mroIn X hmB);obtain⟨d,g,f,t,h⟩:=s;simp only[SF,b,a];refine IP (L.at ?_)
 repeat (first |assumption |wp_step)
include hga hgn ha hn Wf hm hmB
theorem Cg(X:K.In s.heap)(I:OfCls x C s.heap)(a:R (.ok (.ret (.ref C))) s):
  Og (JE prog w) A (.call (.builtin "BaseException.__getattribute__") ⟨[.ref x,.str "__class__" tk],[]⟩) R s:=by
 exact OP F.excAttr_ValueError.ga.plain F.entry_bexc_ga (zu hmB X I (Au ha hn Wf hm X I a))
theorem zE(X:K.In s.heap)(I:OfCls x C s.heap)(h:Q (some (.ref C)) {s with toks:=s.toks+1 }):JN (JE prog w) A (getAttr? (.ref x) "__class__") Q E s:=by
 obtain⟨f,g,d,t,i⟩:=s;have b:=I.type (M:=JE prog w);have c:=looks_findIn (M:=JE prog w) X hga;have a:=looks_findIn (M:=JE prog w) X hgn;have e:=F.excAttr_ValueError.ga.bind (.ref x);unfold getAttr? getAttrBy? getAttrBy;refine IP (wpAny_mkText (IP (N7 (Ko (IP (b.at (IP (c.at ?_))))))));show JN _ _ (S8 _ _ _ _ _ _) _ _ _;unfold S8;refine IP (a.at ?_);refine IP (N7 (Ko ?_));show JN _ _ (Tz _ _ _) _ _ _;unfold Tz;rw[e];refine IP (IX (Py ?_));exact Cg hga hgn ha hn Wf hm hmB X I (IX (IX h))
theorem Cw(i:(clsIn K C).isSome=true):KitX K (.ref x) (.ref C) (OfCls x C) where
 ty:=λ_ _ _ I=>I.type
 it:=λ_ _ X _=>by
  obtain⟨g,a⟩:=KG.mp i;unfold clsIn at a;split at a
  .rename_i l j c b f
   intro r p o s k q;unfold isType loadHead;exact IP (Rf (k _ _ (X _ _ f)) (IX q))
  .cases a
 ne:=λh m u its n t X d=>by
  obtain⟨g,a⟩:=KG.mp i;refine Om.mpr λq=>?_;have e:C=m:=Value.ref.inj (beq_iff_eq.mp q);subst e;unfold clsIn at a;split at a
  .rename_i l j c b f
   have z:=(X _ _ f).symm.trans d;cases z
  .cases a
 ca:=λX I k=>zE hga hgn ha hn Wf hm hmB X I k
end
theorem nJ{K:Frag}(h:mroIn K C v=some b):(clsIn K C).isSome=true:=by
 obtain⟨cd,e,_⟩:=Option.bind_eq_some_iff.mp h;rw[e];rfl
structure XcOk(K:Frag)(C:Jt):Prop where
 ga:findIn K (.ref C) "__getattribute__"=some (some (.builtin "BaseException.__getattribute__"))
 gn:findIn K (.ref C) "__getattr__"=some none
 at_:findIn K (.ref C) "__class__"=some (some (.builtin "object.__class__"))
 sp:specialIn K (.builtin "object.__class__") "__get__"=some (some (.builtin "getset_descriptor.__get__"))
 tk:takesIn K (.builtin "object.__class__")=some true
 mo:mroIn K C (.type "object")=some true
 mb:mroIn K C (.type "BaseException")=some true
theorem XcOk.kit{K:Frag}(h:XcOk K C):KitX K (.ref x) (.ref C) (OfCls x C):=Cw h.ga h.gn h.at_ h.sp h.tk h.mo h.mb (nJ h.mo)
end PySem.W
namespace L2
open PySem PySem.Spec PyProof.Rows
inductive TyX where
 |nm (n:String) |xc (C:Jt)
inductive U where
 |non |bl (b:Bool) |int (i:Int) |str (x:Str) |ty (n:TyX) |dic |scr (xs:List U) |tup (xs:List U) |lst (xs:List U)
noncomputable def U.items:U->Option (List U)
 | .scr xs=>some xs
 | .tup xs=>some xs
 | .lst xs=>some xs
 |_=>none
noncomputable def hid(H:Hp)(O:List Jt):Hp:=λb=>if b∈O then none else H b
theorem cS(h:hid H O b=some o):H b=some o/\b ∉ O:=by
 unfold hid at h;split at h
 .cases h
 .exact⟨h,by assumption⟩
theorem bV(h:H b=some o)(n:b ∉ O):hid H O b=some o:=by
 unfold hid;rw[if_neg n];exact h
theorem aH:aP (hid H O) H:=λ_ _ h=>(cS h).1
theorem aJ(e:aP H H'):aP (hid H O) (hid H' O):=λ_ _ h=>bV (e _ _ (cS h).1) (cS h).2
theorem aF(e:∀a∈O',a∈O):aP (hid H O) (hid H O'):=λ_ _ h=>bV (cS h).1 λz=>(cS h).2 (e _ z)
theorem bH(e:aP H H')(n:H a=none):aP (hid H O) (hid H' (a::O)):=λb o h=>by
 obtain⟨c,d⟩:=cS h;refine bV (e _ _ c) λz=>?_;rcases IT.mp z with y |y
 .subst y;rw[n]at c;cases c
 .exact d y
theorem fZ(h:a∈O):hid (upd H a o) O=hid H O:=by
 funext b
 unfold hid;split
 .rfl
 .rename_i n
  rw[aC λe=>n (by rw[e];exact h)]
inductive Rp (K:IR) (H:Hp):V->U->Prop where
 |non:Rp K H .non .non
 |bl (b:Bool):Rp K H (.bl b) (.bl b)
 |int (i:Int):Rp K H (.int i) (.int i)
 |str (x:Str):Rp K H (.str x) (.str x)
 |ty (n:String):Rp K H (.ty n) (.ty (.nm n))
 |dic {a:Jt}{kvs:List (Key×V)} (h:H a=some (.dK kvs)):Rp K H (.ref a) .dic
 |xc {a C:Jt} (h:H a=some (.ext (PySem.W.OfCls a C))) (k:PySem.W.XcOk K C):Rp K H (.ref a) (.ty (.xc C))
 |scr {a:Jt}{vs:List V}{xs:List U} (h:SqL K H a vs) (hl:vs.length=xs.length) (hi:∀(i:Nat) (v:V) (x:U),vs[i]?=some v->xs[i]?=some x->Rp K H v x):Rp K H (.ref a) (.scr xs)
 |tup {a:Jt}{vs:List V}{xs:List U} (h:SqT K H a vs) (hl:vs.length=xs.length) (hi:∀(i:Nat) (v:V) (x:U),vs[i]?=some v->xs[i]?=some x->Rp K H v x):Rp K H (.ref a) (.tup xs)
 |lst {a:Jt}{vs:List V}{xs:List U} (h:H a=some (.lst vs)) (hl:vs.length=xs.length) (hi:∀(i:Nat) (v:V) (x:U),vs[i]?=some v->xs[i]?=some x->Rp K H v x):Rp K H (.ref a) (.lst xs)
theorem Rp.same{K:IR}(e:aP H H')(h:Rp K H v u):Rp K H' v u:=by
 induction h with
 |non=>exact .non
 |bl b=>exact .bl b
 |int i=>exact .int i
 |str x=>exact .str x
 |ty n=>exact .ty n
 |dic h=>exact .dic (e _ _ h)
 |xc h k=>exact .xc (e _ _ h) k
 |scr h c d a=>exact .scr (e.seq h) c a
 |tup h c d a=>exact .tup (e.tup h) c a
 |lst h c d a=>exact .lst (e _ _ h) c a
structure Rps(K:IR)(H:Hp)(vs:List V)(xs:List U):Prop where
 len:vs.length=xs.length
 at_:∀(i:Nat) (v:V) (x:U),vs[i]?=some v->xs[i]?=some x->Rp K H v x
theorem Rps.same{K:IR}(e:aP H H')(h:Rps K H vs xs):Rps K H' vs xs:=⟨h.len,λi v x a b=>(h.at_ i v x a b).same e⟩
theorem Rps.nil{K:IR}:Rps K H [] []:=⟨rfl,λi v x h=>by simp at h⟩
theorem Rps.cons{K:IR}{H:Hp}{v:V}{x:U}{vs:List V}{xs:List U}(h:Rp K H v x)(t:Rps K H vs xs):Rps K H (v::vs) (x::xs):=by
 refine⟨by simp[t.len],λi a b c d=>?_⟩
 induction i with
 |zero=>simp at c d;subst c;subst d;exact h
 |succ i=>exact t.at_ i a b (by simpa using c) (by simpa using d)
theorem Rps.snoc{K:IR}(h:Rps K H vs xs)(t:Rps K H ws ys):Rps K H (vs++ws) (xs++ys):=by
 refine⟨by simp[h.len,t.len],λi a b c d=>?_⟩;by_cases e:i<vs.length
 .rw[Jn e]at c;rw[Jn (by rw[<-h.len];exact e)]at d
  exact h.at_ i a b c d
 .have f:=Lv e;rw[Jo f]at c;rw[Jo (by rw[<-h.len];exact f),<-h.len]at d
  exact t.at_ _ a b c d
theorem Rps.get{K:IR}{i:Nat}(h:Rps K H vs xs)(e:xs[i]?=some x):∃v,vs[i]?=some v/\Rp K H v x:=by
 have a:i<vs.length:=by rw[h.len];exact (I_.mp e).1
 exact⟨vs[i],IQ a,h.at_ i _ x (IQ a) e⟩
theorem Rps.atI{K:IR}(h:Rps K H vs xs)(e:L2.atI xs i=some x):∃v,L2.atI vs i=some v/\Rp K H v x:=by
 unfold L2.atI at e |-;rw[h.len];cases q:ixN xs.length i with
 |none=>rw[q]at e;cases e
 |some j=>
  rw[q]at e;obtain⟨v,a,b⟩:=h.get e;exact⟨v,a,b⟩
theorem Rps.cons_inv{K:IR}(h:Rps K H vs (x::xs)):∃v c,vs=v::c/\Rp K H v x/\Rps K H c xs:=by
 induction vs with
 |nil=>have:=h.len;simp at this
 |cons v c=>
  refine⟨v,c,rfl,h.at_ 0 v x rfl rfl,by have:=h.len;simpa using this,λi a b d e=>h.at_ (i+1) a b (by simpa using d) (by simpa using e)⟩
theorem Rps.nil_inv{K:IR}(h:Rps K H vs []):vs=[]:=KY.mp (by rw[h.len];rfl)
structure DkR(K:IR)(H:Hp)(kv:List (Key×V))(kvs:List (Str×U)):Prop where
 len:kv.length=kvs.length
 at_:∀(i:Nat) (k:Key) (v:V) (x:Str) (u:U),kv[i]?=some (k,v)->kvs[i]?=some (x,u)->k=.inr x/\Rp K H v u
theorem DkR.same{K:IR}(e:aP H H')(h:DkR K H kv kvs):DkR K H' kv kvs:=⟨h.len,λi k v x u a b=>⟨(h.at_ i k v x u a b).1,(h.at_ i k v x u a b).2.same e⟩⟩
inductive Sl where
 |val (u:U) |own (xs:List U) |pin (w:V) (u:U) |dsk (w:Bool) (C a d:Jt) (kvs:List (Str×U))
 |raw (v0:V) (obs:List (Jt×HO)) (ds:List (Jt×List (Str×U)))
noncomputable def isD:Sl->Bool
 | .dsk _ _ _ _ _=>true
 | .raw _ _ _=>true
 |_=>false
noncomputable abbrev PSt:=List (Option Sl)
noncomputable def kX(K:IR)(H:Hp)(O g:List Jt)(v:V):Sl->Prop
 | .val u=>Rp K (hid H O) v u
 | .own xs=>∃a h,v=.ref a/\a∈O/\a ∉ g/\H a=some (.lst h)/\Rps K (hid H O) h xs
 | .pin w u=>v=w/\Rp K (hid H O) v u
 | .dsk w C a d c=>∃i e,v=.ref a∧d∈O∧(w=true→d ∉ g)∧H a=some (.ins C i [("lands",.ref d)])∧H d=some (.dK e)∧DkR K (hid H O) e c
 | .raw v0 f ds=>v=v0/\(∀b o,(b,o)∈f->hid H O b=some o)/\∀d c,(d,c)∈ds->d∈O/\d ∉ g/\∃e,H d=some (.dK e)/\DkR K (hid H O) e c
structure Rs(K:IR)(H0:Hp)(O0:List Jt)(ps:PSt)(σ:St)(H:Hp)(O:List Jt):Prop where
 same:aP H0 H
 old:∀a∈O0,a∈O
 new:∀a∈O,a∈O0\/H0 a=none
 dom:∀a∈O,H a≠none
 len:σ.length=ps.length
 at_:∀(i:Nat) (s:Sl),ps[i]?=some (some s)->∃v,σ[i]?=some (some v)/\kX K H O O0 v s
 inj:∀(i j:Nat) (xs ys:List U) (a:Jt),ps[i]?=some (some (.own xs))->ps[j]?=some (some (.own ys))->σ[i]?=some (some (.ref a))->σ[j]?=some (some (.ref a))->i=j
section
variable {K:IR}{H0 H H':Hp}{O0 O:List Jt}{ps:PSt}{σ:St}
theorem kX.raw_go(h:kX K H O O0 v (.raw v0 obs ds))(g:aP (hid H O) (hid H' O'))(i:∀d a,d∈O->H d=some (.dK a)->d∈O'/\H' d=some (.dK a)):kX K H' O' O0 v (.raw v0 obs ds):=by
 obtain⟨k,l,m⟩:=h;refine⟨k,λb o q=>g _ _ (l b o q),λd c q=>?_⟩;obtain⟨f,j,a,e,n⟩:=m d c q;exact⟨(i d a f e).1,j,a,(i d a f e).2,n.same g⟩
theorem kX.same(e:aP H H')(h:kX K H O O0 v s):kX K H' O O0 v s:=by
 induction s with
 |val u=>exact Rp.same (aJ e) h
 |own p=>obtain⟨a,n,c,b,g,f,i⟩:=h;exact⟨a,n,c,b,g,e _ _ f,i.same (aJ e)⟩
 |pin w u=>exact⟨h.1,Rp.same (aJ e) h.2⟩
 |dsk w C a d m=>obtain⟨k,j,c,b,g,f,i,o⟩:=h;exact⟨k,j,c,b,g,e _ _ f,e _ _ i,o.same (aJ e)⟩
 |raw q l ds=>exact h.raw_go (aJ e) λd j c b=>⟨c,e _ _ b⟩
theorem Rs.go(R:Rs K H0 O0 ps σ H O)(e:aP H H'):Rs K H0 O0 ps σ H' O:=
 ⟨R.same.trans e,R.old,R.new,λa ha z=>R.dom a ha (e.free z),R.len,λi s h=>let ⟨v,h1,h2⟩:=R.at_ i s h;⟨v,h1,h2.same e⟩,R.inj⟩
theorem bu{α:Type}{xs:List α}{y x:α}(h:(xs.set i y)[j]?=some x):(i=j/\x=y)\/(i≠j/\xs[j]?=some x):=by
 by_cases e:i=j
 .subst e;rw[PF]at h;simp at h;exact .inl ⟨rfl,h.2.symm⟩
 .rw[JA e]at h;exact .inr ⟨e,h⟩
theorem fE{α:Type}{xs:List α}{y:α}(h:i<xs.length):(xs.set i y)[i]?=some y:=by rw[PF];simp[h]
theorem aN{α:Type}{xs:List α}{y:α}(h:xs[i]?=some y):i<xs.length:=(I_.mp h).1
theorem nu(h:(ps.set i (some (.val u)))[j]?=some (some (.own xs))):i≠j/\ps[j]?=some (some (.own xs)):=by
 rcases bu h with ⟨_,e⟩ |h
 .cases e
 .exact h
theorem Rs.set(R:Rs K H0 O0 ps σ H O)(r:Rp K (hid H O) v u):Rs K H0 O0 (ps.set i (some (.val u))) (σ.set i (some v)) H O:=by
 refine⟨R.same,R.old,R.new,R.dom,by simp[R.len],λj s h=>?_,λj k t o a c b f d=>?_⟩
 .rcases bu h with ⟨e,q⟩ |⟨n,q⟩
  .subst e;cases q;have g:=aN h;rw[Ni]at g;exact⟨v,fE (by rw[R.len];exact g),r⟩
  .obtain⟨w,c,b⟩:=R.at_ j s q;exact⟨w,by rw[JA n];exact c,b⟩
 .obtain⟨x,p⟩:=nu c;obtain⟨m,l⟩:=nu b;rw[JA x]at f;rw[JA m]at d;exact R.inj j k t o a p l f d
theorem Rs.drop(R:Rs K H0 O0 ps σ H O):Rs K H0 O0 (ps.set i none) (σ.set i o) H O:=by
 have b:∀{j}{s},(ps.set i none)[j]?=some (some s)->i≠j/\ps[j]?=some (some s):=λ{j s} h=>by
  rcases bu h with ⟨_,e⟩ |h
  .cases e
  .exact h
 refine⟨R.same,R.old,R.new,R.dom,by simp[R.len],λj s h=>?_,λj k t p a d c g f=>?_⟩
 .obtain⟨n,q⟩:=b h;obtain⟨w,d,c⟩:=R.at_ j s q;exact⟨w,by rw[JA n];exact d,c⟩
 .obtain⟨u,r⟩:=b d;obtain⟨m,l⟩:=b c;rw[JA u]at g;rw[JA m]at f;exact R.inj j k t p a r l g f
theorem Rs.own(R:Rs K H0 O0 ps σ H O)(e:aP H H')(n:H a=none)(h:H' a=some (.lst vs))(r:Rps K (hid H' (a::O)) vs xs):
  Rs K H0 O0 (ps.set i (some (.own xs))) (σ.set i (some (.ref a))) H' (a::O):=by
 have T:a ∉ O:=λz=>R.dom a z n;have p:a ∉ O0:=λz=>T (R.old a z);have n0:=R.same.free n
 have N:∀(j:Nat) (o:List U),ps[j]?=some (some (.own o))->σ[j]?≠some (some (.ref a)):=λj o m c=>by
  obtain⟨v,f,b,S,g,h5,_⟩:=R.at_ j _ m;rw[c]at f;cases f;cases g;exact T h5
 refine⟨R.same.trans e,λb hb=>IS _ (R.old b hb),λb hb=>?_,λb hb z=>?_,by simp[R.len],λj s q=>?_,λj k o J b m c f g=>?_⟩
 .rcases IT.mp hb with y |y
  .subst y;exact .inr n0
  .exact R.new b y
 .rcases IT.mp hb with y |y
  .subst y;rw[h]at z;cases z
  .exact R.dom b y (e.free z)
 .rcases bu q with ⟨e',G⟩ |⟨Y,G⟩
  .subst e';cases G;have l:=aN q;rw[Ni]at l;exact⟨.ref a,fE (by rw[R.len];exact l),a,vs,rfl,IW,p,h,r⟩
  .obtain⟨w,m,c⟩:=R.at_ j s G;refine⟨w,by rw[JA Y];exact m,?_⟩
   induction s with
   |val u=>exact Rp.same (bH e n) c
   |own o=>
    obtain⟨b,S,D,t,F,A,E⟩:=c;exact⟨b,S,D,IS _ t,F,e _ _ A,E.same (bH e n)⟩
   |pin z u=>exact⟨c.1,Rp.same (bH e n) c.2⟩
   |dsk w C b d Z=>obtain⟨V,I,D,t,F,A,E,W⟩:=c;exact⟨V,I,D,IS _ t,F,e _ _ A,e _ _ E,W.same (bH e n)⟩
   |raw v0 X ds=>exact kX.raw_go c (bH e n) λd I m c=>⟨IS _ m,e _ _ c⟩
 .rcases bu m with ⟨M,B⟩ |⟨Q,B⟩ <;>rcases bu c with ⟨P,x⟩ |⟨L,x⟩
  .rw[<-M,<-P]
  .subst M;have l:=aN f;rw[Ni]at l;rw[fE l]at f;cases f;rw[JA L]at g;exact absurd g (N k J x)
  .subst P;have l:=aN g;rw[Ni]at l;rw[fE l]at g;cases g;rw[JA Q]at f;exact absurd f (N j o B)
  .rw[JA Q]at f;rw[JA L]at g;exact R.inj j k o J b B x f g
theorem Rs.write(R:Rs K H0 O0 ps σ H O)(n:ps[i]?=some (some (.own xs)))(hs:σ[i]?=some (some (.ref a)))(r:Rps K (hid H O) vs ys):
  Rs K H0 O0 (ps.set i (some (.own ys))) σ (upd H a (.lst vs)) O:=by
 obtain⟨v,I,b,ws,V,A,D,B,h6⟩:=R.at_ i _ n;rw[hs]at I;cases I;cases V;have Y:=(R.new a A).resolve_left D;have h:hid (upd H a (.lst vs)) O=hid H O:=fZ A;refine⟨R.same.put Y _,R.old,R.new,λb hb z=>?_,by simp[R.len],λj s q=>?_,λj k F J b Q M L W=>?_⟩
 .by_cases e:b=a
  .subst e;rw[aA]at z;cases z
  .rw[aC e]at z;exact R.dom b hb z
 .rcases bu q with ⟨U,o⟩ |⟨S,o⟩
  .subst U;cases o;exact⟨.ref a,hs,a,vs,rfl,A,D,aA,by rw[h];exact r⟩
  .obtain⟨w,G,g⟩:=R.at_ j s o;refine⟨w,G,?_⟩
   induction s with
   |val u=>exact (show Rp K (hid (upd H a (.lst vs)) O) w u by rw[h];exact g)
   |own F=>
    obtain⟨b,J,m,x,t,l,c⟩:=g;subst m;have:b≠a:=λz=>by subst z;exact S (R.inj i j xs F b n o hs G)
    exact⟨b,J,rfl,x,t,by rw[aC this];exact l,by rw[h];exact c⟩
   |pin z u=>exact⟨g.1,by rw[h];exact g.2⟩
   |dsk w C b d T=>
    obtain⟨N,E,m,x,t,l,c,X⟩:=g;exact⟨N,E,m,x,t,by rw[aC λz=>by rw[z,B]at l;cases l];exact l,by rw[aC λz=>by rw[z,B]at c;cases c];exact c,by rw[h];exact X⟩
   |raw Z P ds=>exact kX.raw_go g (by rw[h];exact .refl _) λd E m c=>⟨m,by rw[aC λz=>by rw[z,B]at c;cases c];exact c⟩
 .have y:∃f,ps[j]?=some (some (.own f)):=by
   rcases bu Q with ⟨e,_⟩ |⟨_,z⟩
   .subst e;exact⟨_,n⟩
   .exact⟨_,z⟩
  have p:∃f,ps[k]?=some (some (.own f)):=by
   rcases bu M with ⟨e,_⟩ |⟨_,z⟩
   .subst e;exact⟨_,n⟩
   .exact⟨_,z⟩
  obtain⟨_,y⟩:=y;obtain⟨_,p⟩:=p;exact R.inj j k _ _ b y p L W
noncomputable def SubP:PSt->PSt->Prop
 |[],[]=>True
 |none::p,_::q=>SubP p q
 |some s::p,t::q=>t=some s/\SubP p q
 |_,_=>False
theorem SubP.at_:∀{p q},SubP p q->p.length=q.length/\∀(i:Nat) s,p[i]?=some (some s)->q[i]?=some (some s)
 |[],[],_=>⟨rfl,λi s h=>by simp at h⟩
 |none::p,t::q,h=>by
  obtain⟨a,b⟩:=SubP.at_ (p:=p) (q:=q) h;refine⟨by simp[a],λi s e=>?_⟩
  induction i with
  |zero=>simp at e
  |succ i=>exact b i s (by simpa using e)
 |some s0::p,t::q,h=>by
  obtain⟨c,h⟩:=h;obtain⟨a,b⟩:=SubP.at_ (p:=p) (q:=q) h;refine⟨by simp[a],λi s e=>?_⟩
  induction i with
  |zero=>simp at e;subst e;rw[c];rfl
  |succ i=>exact b i s (by simpa using e)
 |[],_::_,h=>h.elim
 |none::_,[],h=>h.elim
 |some _::_,[],h=>h.elim
theorem Rs.sub(R:Rs K H0 O0 ps σ H O)(h:SubP VB ps):Rs K H0 O0 VB σ H O:=by
 obtain⟨g,b⟩:=h.at_;exact⟨R.same,R.old,R.new,R.dom,R.len.trans g.symm,λi s e=>R.at_ i s (b i s e),λi j c k a d f=>R.inj i j c k a (b _ _ d) (b _ _ f)⟩
end
def Ev(X:Cx)(c:Hp)(f:List Jt)(b:PSt)(e:Expr)(u:U):Prop:=
 PE X e λd H Q=>∃O,Rs X.K c f b d H O/\∀v a,aP H a->Rp X.K (hid a O) v u->Q v a
def EvN(X:Cx)(f:Hp)(h:List Jt)(d:PSt)(e:Expr)(xs:List U):Prop:=
 PE X e λg H Q=>∃O,Rs X.K f h d g H O/\∀a c b,aP H b->H a=none->b a=some (.lst c)->Rps X.K (hid b (a::O)) c xs->Q (.ref a) b
def Tt(X:Cx)(d:Hp)(g:List Jt)(c:PSt)(e:Expr)(b:Bool):Prop:=
 PT X e λf H Q=>∃O,Rs X.K d g c f H O/\∀a,aP H a->Q b a
def Tw(X:Cx)(d:Hp)(g:List Jt)(c:PSt)(e:Expr)(b:Bool):Prop:=
 PW X e λf H Q=>∃O,Rs X.K d g c f H O/\∀a,aP H a->Q b a
def EvA(X:Cx)(d:Hp)(h:List Jt)(c:PSt)(f:List Expr)(e:List U):Prop:=
 PA X f λg H Q=>∃O,Rs X.K d h c g H O/\∀b a,aP H a->Rps X.K (hid a O) b e->Q b a
theorem PE.mono(h:PE X e t)(m:∀a H Q,t' a H Q->t a H Q):PE X e t':=λb s a H Q I q=>h b s a H Q I (m a H Q q)
theorem PT.mono(h:PT X e t)(m:∀a H Q,t' a H Q->t a H Q):PT X e t':=λb s a H Q I q=>h b s a H Q I (m a H Q q)
theorem PW.mono(h:PW X e t)(m:∀a H Q,t' a H Q->t a H Q):PW X e t':=λb c s a H Q I q=>h b c s a H Q I (m a H Q q)
theorem PA.mono(h:PA X e t)(m:∀a H Q,t' a H Q->t a H Q):PA X e t':=λb c s a H Q I q=>h b c s a H Q I (m a H Q q)
theorem PS.mono(h:PS X e t)(m:∀D a H,t' D a H->t D a H):PS X e t':=λb s a H D I q=>h b s a H D I (m D a H q)
theorem PSs.mono(h:PSs X e t)(m:∀D a H,t' D a H->t D a H):PSs X e t':=λb s a H D I q=>h b s a H D I (m D a H q)
variable {es:List Expr}
section
variable {X:Cx}{H0:Hp}{O0:List Jt}{ps:PSt}{a b c e:Expr}{U4 p:Pos}{u x y:U}{xs ys us:List U}{i j:Int}
theorem EvN.ev(h:EvN X H0 O0 ps e xs):Ev X H0 O0 ps e (.lst xs):=PE.mono h λi H Q ⟨O,R,k⟩=>⟨O,R,λa g d s n h r=>by
 have f:a ∉ O:=λz=>R.dom a z n;have c:aP (hid d (a::O)) (hid d O):=aF λb hb=>IS _ hb;exact k _ d s (.lst (bV h f) (r.same c).len (r.same c).at_)⟩
theorem aa(i:Nat){x:Str}(h:ps[i]?=some (some (.val u)))(d:autoParam (X.N[i]?=some x) z0)(e:autoParam (Vis X.env.scope x) k6)(c:autoParam ((x==("__debug__":Str))=false) x4)
  (Vq:autoParam ((x==("__classdict__":Str))=false) x4):Ev X H0 O0 ps (.Name x U4) u:=PE.mono (c0 d e c Vq) λf H Q ⟨O,R,k⟩=>by
 obtain⟨v,a,b⟩:=R.at_ i _ h;exact⟨v,a,k v H (.refl H) b⟩
theorem af{i j U4}:Ev X H0 O0 ps (.Constant (.int i) j U4) (.int i):=PE.mono E3 λ_ H _ ⟨_,_,k⟩=>k _ H (.refl H) (.int i)
theorem zl{i j U4}:Ev X H0 O0 ps (.Constant (.bool i) j U4) (.bl i):=PE.mono G7 λ_ H _ ⟨_,_,k⟩=>k _ H (.refl H) (.bl i)
theorem HF{j U4}:Ev X H0 O0 ps (.Constant .none j U4) .non:=PE.mono EG λ_ H _ ⟨_,_,k⟩=>k _ H (.refl H) .non
theorem aw{i j U4}:Ev X H0 O0 ps (.Constant (.str i) j U4) (.str i):=PE.mono F3 λ_ H _ ⟨_,_,k⟩=>k _ H (.refl H) (.str i)
theorem zS{x:Str}(d:Gl X x)(b:X.mg x=none)(e:KZ x=some (.type n))(a:autoParam (x≠"__name__") x4)(c:autoParam ((x==("__debug__":Str))=false) x4):Ev X H0 O0 ps (.Name x U4) (.ty (.nm n)):=
 PE.mono (Hm d b e a c) λ_ H _ ⟨_,_,k⟩=>k _ H (.refl H) (.ty n)
theorem two(R:Rs X.K H0 O0 ps σ H O)
  (ha:∀σ H Q,(∃O,Rs X.K H0 O0 ps σ H O/\∀v a,aP H a->Rp X.K (hid a O) v x->Q v a)->ta σ H Q) (hb:∀σ H Q,(∃O,Rs X.K H0 O0 ps σ H O/\∀v a,aP H a->Rp X.K (hid a O) v y->Q v a)->tb σ H Q)
  (h:∀v w a,aP H a->Rs X.K H0 O0 ps σ a O->Rp X.K (hid a O) v x->Rp X.K (hid a O) w y->r v w a Q):tOp r ta tb σ H Q:=
 ha σ H _ ⟨O,R,λv d b f=>hb σ d _ ⟨O,R.go b,λw e c g=>h v w e (b.trans c) (R.go (b.trans c)) (f.same (aJ c)) g⟩⟩
theorem Eo{g:Int->Int->Int}(f:OpR X (Nt op) (rI0 λi j=>.int (g i j)))(e:Ev X H0 O0 ps a (.int i))(d:Ev X H0 O0 ps b (.int j)):Ev X H0 O0 ps (.BinOp a op b U4) (.int (g i j)):=
 PE.mono (o0 f e d) λm H Q ⟨O,R,k⟩=>two R (λ_ _ _ z=>z) (λ_ _ _ z=>z) λv w h s _ l c=>by
  cases l;cases c;exact⟨i,j,rfl,rfl,k _ h s (.int _)⟩
theorem qY{g:Int->Int->Int}(h:OpR X (Nt op) (rI C λi j=>.int (g i j)))(e:Ev X H0 O0 ps a (.int i))(d:Ev X H0 O0 ps b (.int j))(f:C i j):Ev X H0 O0 ps (.BinOp a op b U4) (.int (g i j)):=
 PE.mono (o0 h e d) λn H Q ⟨O,R,k⟩=>two R (λ_ _ _ z=>z) (λ_ _ _ z=>z) λv w l s _ m c=>by
  cases m;cases c;exact⟨i,j,rfl,rfl,f,k _ l s (.int _)⟩
theorem b_(d:Ev X H0 O0 ps a (.int i))(c:Ev X H0 O0 ps b (.int j)):Ev X H0 O0 ps (.BinOp a .Add b U4) (.int (i+j)):=Eo Fe d c
theorem bp(d:Ev X H0 O0 ps a (.int i))(c:Ev X H0 O0 ps b (.int j)):Ev X H0 O0 ps (.BinOp a .Sub b U4) (.int (i-j)):=Eo F5 d c
theorem bo(e:Ev X H0 O0 ps a (.int i))(c:Ev X H0 O0 ps b (.int j))(d:IntMulOk i j):Ev X H0 O0 ps (.BinOp a .Mult b U4) (.int (i*j)):=qY Dp e c d
theorem cV(e:Ev X H0 O0 ps a (.int i))(c:Ev X H0 O0 ps b (.int j))(d:Ey i j):Ev X H0 O0 ps (.BinOp a .FloorDiv b U4) (.int (i/j)):=qY BB e c d
theorem E8(e:Ev X H0 O0 ps a (.int i))(c:Ev X H0 O0 ps b (.int j))(d:D5 i j):Ev X H0 O0 ps (.BinOp a .FloorDiv b U4) (.int (i.fdiv j)):=qY zA e c d
theorem b6(e:Ev X H0 O0 ps a (.int i))(c:Ev X H0 O0 ps b (.int j))(d:0<j):Ev X H0 O0 ps (.BinOp a .Mod b U4) (.int (i%j)):=qY F6 e c d
theorem mQ(e:Ev X H0 O0 ps a (.int i))(c:Ev X H0 O0 ps b (.int j))(d:GF i j):Ev X H0 O0 ps (.BinOp a .Pow b U4) (.int (i ^ j.toNat)):=qY Fp e c d
theorem fL(c:Ev X H0 O0 ps a (.int i)):Ev X H0 O0 ps (.UnaryOp .USub a U4) (.int (-i)):=
 PE.mono (Hj E2 c) λd H Q ⟨O,R,k⟩=>⟨O,R,λv b s r=>by cases r;exact⟨i,rfl,k _ b s (.int _)⟩⟩
end
def U.isN:U->Bool
 | .non=>true
 |_=>false
def U.isB(a:Bool):U->Bool
 | .bl b=>a==b
 | .int j=>(if a then 1 else 0)==j
 |_=>false
def U.isI(i:Int):U->Bool
 | .bl b=>i==(if b then 1 else 0)
 | .int j=>i==j
 |_=>false
def U.isS(a:Str):U->Bool
 | .str b=>a==b
 |_=>false
def U.isT(f:List U->Bool):U->Bool
 | .tup ys=>f ys
 |_=>false
def U.isL(f:List U->Bool):U->Bool
 | .lst ys=>f ys
 | .scr ys=>f ys
 |_=>false
def U.isC(f:U->Bool)(g:List U->Bool):List U->Bool
 |[]=>false
 |y::ys=>f y && g ys
mutual
def eqW:U->U->Bool
 | .non=>U.isN
 | .bl a=>U.isB a
 | .int i=>U.isI i
 | .str a=>U.isS a
 | .tup xs=>U.isT (eqWs xs)
 | .lst xs=>U.isL (eqWs xs)
 | .scr xs=>U.isL (eqWs xs)
 |_=>λ_=>false
def eqWs:List U->List U->Bool
 |[]=>List.isEmpty
 |x::xs=>U.isC (eqW x) (eqWs xs)
end
def U.okS(f:Nat->Bool):Nat->Bool
 |0=>false
 |n+1=>f n
mutual
def okU:Nat->U->Bool
 |_,.ty _=>false
 |_,.dic=>false
 |n,.tup a=>U.okS (λn=>okUs n a) n
 |n,.lst a=>U.okS (λn=>okUs n a) n
 |n,.scr a=>U.okS (λn=>okUs n a) n
 |_,_=>true
def okUs:Nat->List U->Bool
 |_,[]=>true
 |n,x::xs=>okU n x && okUs n xs
end
theorem jC:∀{n}{a}{i:Nat}{x},okUs n a=true->a[i]?=some x->okU n x=true
 |n,[],i,x,_,h=>by simp at h
 |n,y::a,0,x,h,e=>by simp at e;subst e;simp[okUs]at h;exact h.1
 |n,y::a,i+1,x,h,e=>by simp[okUs]at h;exact jC h.2 (by simpa using e)
theorem ja:∀a b,((J3 (min a.length b.length)).all (λj=>eqW (a.getD j .non) (b.getD j .non)) && a.length==b.length)=eqWs a b
 |[],[]=>rfl
 |[],y::b=>rfl
 |x::a,[]=>rfl
 |x::a,y::b=>by
  have ih:=ja a b;show _=(eqW x y && eqWs a b);rw[<-ih];simp only[Ji,Nat.succ_min_succ];rw[List.range_succ_eq_map,OT,Uu];have e:((a.length+1==b.length+1))=(a.length==b.length):=by simp
  rw[e,Bool.and_assoc];rfl
theorem IsU.list(I:Inv X U_ σ H s){xs:List U}(h:SqL X.K H a vs)(b:vs.length=xs.length):∃its,aY vs its/\s.heap.IsList a its.toArray/\its.length=xs.length:=by
 obtain⟨its,r,c,_⟩:=I.list h;exact⟨its,r,c.isList,by rw[<-r.length,b]⟩
theorem IsU.tup{X:Cx}{U_:List (Jt×Obj)}{c:St}{H:Hp}{s:Jd}(I:Inv X U_ c H s){a:Jt}{xs:List U}{vs:List V}(h:SqT X.K H a vs)(b:vs.length=xs.length):∃its,aY vs its/\Q8 s.heap a its.toArray/\its.length=xs.length:=by
 obtain⟨its,r,d,_⟩:=I.tuple h;exact⟨its,r,d,by rw[<-r.length,b]⟩
section
variable {X:Cx}{U_:List (Jt×Obj)}{σ:St}{H:Hp}{s:Jd}
inductive Kd (s:Jd):Je->U->Prop
 |non:Kd s .none .non
 |bl (b:Bool):Kd s (.bool b) (.bl b)
 |int (i:Int) (t:Tok):Kd s (.int i t) (.int i)
 |str (x:Str) (t:Tok):Kd s (.str x t) (.str x)
 |scr {a:Jt}{xs:List U}{its:List Je} (pl:s.heap.IsList a its.toArray):Kd s (.ref a) (.scr xs)
 |lst {a:Jt}{xs:List U}{its:List Je} (pl:s.heap.IsList a its.toArray):Kd s (.ref a) (.lst xs)
 |tup {a:Jt}{xs:List U}{its:List Je} (pl:Q8 s.heap a its.toArray):Kd s (.ref a) (.tup xs)
structure Gp(X:Cx)(H:Hp)(n:Nat)(xs:List U)(vs:List V)(its:List Je):Prop where
 r:aY vs its
 l:its.length=xs.length
 hl:vs.length=xs.length
 hi:∀(i:Nat) (v:V) (x:U),vs[i]?=some v->xs[i]?=some x->Rp X.K H v x
 o:okUs n xs=true
theorem Rp.kd(I:Inv X U_ σ H s){n:Nat}{v:V}{x:U}{p:Je}(R:Rp X.K H v x)(q:aS v p)(o:okU n x=true):Kd s p x:=by
 cases R with
 |non=>cases (show p=LN from q);exact .non
 |bl b=>cases (show p=T6 b from q);exact .bl b
 |int i=>obtain⟨t,rfl⟩:=(show ∃t,p=Oy i t from q);exact .int i t
 |str i=>obtain⟨t,rfl⟩:=(show ∃t,p=Rw i t from q);exact .str i t
 |scr a c e=>cases q;obtain⟨its,r,d,l⟩:=IsU.list I a c;exact .scr d
 |lst a c e=>cases q;obtain⟨its,r,d,l⟩:=IsU.list I (SqL.of a) c;exact .lst d
 |tup a c e=>cases q;obtain⟨its,r,d,l⟩:=IsU.tup I a c;exact .tup d
 |ty |dic |xc=>cases o
theorem uq{n:Nat}{f:Nat->Bool}(o:U.okS f n=true):∃m,n=m+1/\f m=true:=by
 cases n with
 |zero=>cases o
 |succ n=>exact⟨n,rfl,o⟩
theorem Rp.its(I:Inv X U_ σ H s){n:Nat}{v:V}{x:U}{a:Jt}(R:Rp X.K H v x)(q:aS v (.ref a))(o:okU n x=true):∃m g h its,n=m+1/\Gp X H m g h its/\((SqL X.K H a h/\s.heap.IsList a its.toArray/\(x=.lst g\/x=.scr g))\/(SqT X.K H a h/\Q8 s.heap a its.toArray/\x=.tup g)):=by
 cases R with
 |non |bl |int |str=>exact nomatch q
 |scr b c f=>cases q;obtain⟨m,e,o⟩:=uq o;obtain⟨its,r,d,l⟩:=IsU.list I b c;exact⟨m,_,_,its,e,⟨r,l,c,f,o⟩,.inl ⟨b,d,.inr rfl⟩⟩
 |lst b c f=>cases q;obtain⟨m,e,o⟩:=uq o;obtain⟨its,r,d,l⟩:=IsU.list I (SqL.of b) c;exact⟨m,_,_,its,e,⟨r,l,c,f,o⟩,.inl ⟨SqL.of b,d,.inl rfl⟩⟩
 |tup b c f=>cases q;obtain⟨m,e,o⟩:=uq o;obtain⟨its,r,d,l⟩:=IsU.tup I b c;exact⟨m,_,_,its,e,⟨r,l,c,f,o⟩,.inr ⟨b,d,rfl⟩⟩
 |ty |dic |xc=>cases o
structure Knd(s:Jd)(P:Je->Je->Bool->Prop):Prop where
 nn:P .none .none true
 nb:∀b,P .none (.bool b) false
 ni:∀i t,P .none (.int i t) false
 ns:∀c t,P .none (.str c t) false
 bn:∀b,P (.bool b) .none false
 bb:∀a b,P (.bool a) (.bool b) (a==b)
 bi:∀a j t,P (.bool a) (.int j t) ((if a then 1 else 0)==j)
 bs:∀a c t,P (.bool a) (.str c t) false
 jn:∀i t,P (.int i t) .none false
 jb:∀i t b,P (.int i t) (.bool b) (i==(if b then 1 else 0))
 ji:∀i t j u,P (.int i t) (.int j u) (i==j)
 js:∀i t c u,P (.int i t) (.str c u) false
 sn:∀c t,P (.str c t) .none false
 sb:∀c t b,P (.str c t) (.bool b) false
 si:∀c t i u,P (.str c t) (.int i u) false
 ss:∀c t d u,P (.str c t) (.str d u) (c==d)
 nl:∀{l:Jt}{its:Array Je},s.heap.IsList l its->P .none (.ref l) false
 nt:∀{l:Jt}{its:Array Je},Q8 s.heap l its->P .none (.ref l) false
 bl:∀{l:Jt}{its:Array Je} b,s.heap.IsList l its->P (.bool b) (.ref l) false
 bt:∀{l:Jt}{its:Array Je} b,Q8 s.heap l its->P (.bool b) (.ref l) false
 jl:∀{l:Jt}{its:Array Je} i t,s.heap.IsList l its->P (.int i t) (.ref l) false
 jt:∀{l:Jt}{its:Array Je} i t,Q8 s.heap l its->P (.int i t) (.ref l) false
 sl:∀{l:Jt}{its:Array Je} c t,s.heap.IsList l its->P (.str c t) (.ref l) false
 st:∀{l:Jt}{its:Array Je} c t,Q8 s.heap l its->P (.str c t) (.ref l) false
 ln:∀{l:Jt}{its:Array Je},s.heap.IsList l its->P (.ref l) .none false
 tn:∀{l:Jt}{its:Array Je},Q8 s.heap l its->P (.ref l) .none false
 lb:∀{l:Jt}{its:Array Je} b,s.heap.IsList l its->P (.ref l) (.bool b) false
 tb:∀{l:Jt}{its:Array Je} b,Q8 s.heap l its->P (.ref l) (.bool b) false
 lj:∀{l:Jt}{its:Array Je} i t,s.heap.IsList l its->P (.ref l) (.int i t) false
 tj:∀{l:Jt}{its:Array Je} i t,Q8 s.heap l its->P (.ref l) (.int i t) false
 ls:∀{l:Jt}{its:Array Je} c t,s.heap.IsList l its->P (.ref l) (.str c t) false
 ts:∀{l:Jt}{its:Array Je} c t,Q8 s.heap l its->P (.ref l) (.str c t) false
theorem Knd.all{P:Je->Je->Bool->Prop}(k:Knd s P){p q:Je}{x y:U}(h:Kd s p x)(f:Kd s q y)(g:∀a b,p=.ref a->q=.ref b->P p q (eqW x y)):P p q (eqW x y):=by
 induction h with
 |non=>induction f with
  |non=>exact k.nn
  |bl b=>exact k.nb b
  |int i t=>exact k.ni i t
  |str c t=>exact k.ns c t
  |scr e |lst e=>exact k.nl e
  |tup e=>exact k.nt e
 |bl a=>induction f with
  |non=>exact k.bn a
  |bl b=>exact k.bb a b
  |int i t=>exact k.bi a i t
  |str c t=>exact k.bs a c t
  |scr e |lst e=>exact k.bl a e
  |tup e=>exact k.bt a e
 |int j u=>induction f with
  |non=>exact k.jn j u
  |bl b=>exact k.jb j u b
  |int i t=>exact k.ji j u i t
  |str c t=>exact k.js j u c t
  |scr e |lst e=>exact k.jl j u e
  |tup e=>exact k.jt j u e
 |str d u=>induction f with
  |non=>exact k.sn d u
  |bl b=>exact k.sb d u b
  |int i t=>exact k.si d u i t
  |str c t=>exact k.ss d u c t
  |scr e |lst e=>exact k.sl d u e
  |tup e=>exact k.st d u e
 |scr e |lst e=>induction f with
  |non=>exact k.ln e
  |bl b=>exact k.lb b e
  |int i t=>exact k.lj i t e
  |str c t=>exact k.ls c t e
  |_=>exact g _ _ rfl rfl
 |tup e=>induction f with
  |non=>exact k.tn e
  |bl b=>exact k.tb b e
  |int i t=>exact k.tj i t e
  |str c t=>exact k.ts c t e
  |_=>exact g _ _ rfl rfl
theorem Dz(h:xs.length=ys.length)(c:∀(i:Nat) x y,xs[i]?=some x->ys[i]?=some y->eqW x y=true):eqWs xs ys=true:=by
 rw[<-ja,KU,oM];refine⟨λj d=>?_,by simp[h]⟩;have b:j<xs.length:=by lia
 have a:j<ys.length:=by lia
 rw[Jx,IQ b,Jx,IQ a];exact c j _ _ (IQ b) (IQ a)
theorem Rp.one_of(I:Inv X U_ σ H s){n:Nat}{v:V}{x y:U}{p:Je}(L:∀m,n=m+1->∀{v:V}{x y:U}{p:Je},Rp X.K H v x->Rp X.K H v y->aS v p->okU m x=true->okU m y=true->eqW x y=true)(G:Rp X.K H v x)(J:Rp X.K H v y)(q:aS v p)(E:okU n x=true)(F:okU n y=true):eqW x y=true:=by
 have g:∀a,p=.ref a->eqW x y=true:=λa e=>by
  subst e;obtain⟨m,N,O,its,c,d,h⟩:=G.its I q E;obtain⟨Q,M,P,D,k,t,f⟩:=J.its I q F;subst c;cases k
  have C:O=P->eqWs N M=true:=by
   rintro rfl;refine Dz (d.hl.symm.trans t.hl) λi x y c k=>?_;have z:=d.hl ▸ aN c;obtain⟨u,_,q⟩:=d.r.get (IQ z);exact L _ rfl (d.hi i _ x (IQ z) c) (t.hi i _ y (IQ z) k) q (jC d.o c) (jC t.o k)
  rcases h with ⟨w,B,h⟩ |⟨w,B,h⟩ <;>rcases f with ⟨A,l,f⟩ |⟨A,l,f⟩
  .rcases h with rfl |rfl <;>rcases f with rfl |rfl <;>exact C (I.list_inj w A)
  .exact absurd rfl (SeqAt.ne_of_list_tuple B l)
  .exact absurd rfl (SeqAt.ne_of_list_tuple l B)
  .subst h f;exact C (I.tuple_inj w A)
 have j:=J.kd I q F;cases G.kd I q E with
 |non=>cases j;rfl
 |bl b=>cases j;exact beq_self_eq_true b
 |int b=>cases j;exact beq_self_eq_true b
 |str b=>cases j;exact beq_self_eq_true b
 |_=>exact g _ rfl
theorem Rp.one(I:Inv X U_ σ H s):∀n {v}{x y}{p},Rp X.K H v x->Rp X.K H v y->aS v p->okU n x=true->okU n y=true->eqW x y=true:=by
 intro n
 induction n with
 |zero=>exact Rp.one_of I λm e=>by cases e
 |succ n a=>exact Rp.one_of I λ_ e=>by cases e;exact a
theorem Ai{A:Kb}(a:A.units<Mu):Knd s (SeqAt.EqAt A s):=⟨SeqAt.EqAt.same _,SeqAt.EqAt.none_bool,SeqAt.EqAt.none_int,SeqAt.EqAt.none_str,SeqAt.EqAt.bool_none,SeqAt.EqAt.bool_bool,SeqAt.EqAt.bool_int,SeqAt.EqAt.bool_str,SeqAt.EqAt.int_none,SeqAt.EqAt.int_bool,SeqAt.EqAt.int_int,SeqAt.EqAt.int_str,SeqAt.EqAt.str_none,SeqAt.EqAt.str_bool,SeqAt.EqAt.str_int,SeqAt.EqAt.str_str,(SeqAt.EqAt.none_list · a),(SeqAt.EqAt.none_tuple · a),(SeqAt.EqAt.bool_list · · a),(SeqAt.EqAt.bool_tuple · · a),(SeqAt.EqAt.int_list · · · a),(SeqAt.EqAt.int_tuple · · · a),(SeqAt.EqAt.str_list · · · a),(SeqAt.EqAt.str_tuple · · · a),(SeqAt.EqAt.list_none · a),(SeqAt.EqAt.tuple_none · a),(SeqAt.EqAt.list_bool · · a),(SeqAt.EqAt.tuple_bool · · a),(SeqAt.EqAt.list_int · · · a),(SeqAt.EqAt.tuple_int · · · a),(SeqAt.EqAt.list_str · · · a),(SeqAt.EqAt.tuple_str · · · a)⟩
theorem yA{A:Kb}(a:A.units<Mu):Knd s (SeqAt.RcAt A s):=⟨SeqAt.RcAt.none_none,SeqAt.RcAt.none_bool,SeqAt.RcAt.none_int,SeqAt.RcAt.none_str,SeqAt.RcAt.bool_none,SeqAt.RcAt.bool_bool,SeqAt.RcAt.bool_int,SeqAt.RcAt.bool_str,SeqAt.RcAt.int_none,SeqAt.RcAt.int_bool,SeqAt.RcAt.int_int,SeqAt.RcAt.int_str,SeqAt.RcAt.str_none,SeqAt.RcAt.str_bool,SeqAt.RcAt.str_int,SeqAt.RcAt.str_str,(SeqAt.RcAt.none_list · a),(SeqAt.RcAt.none_tuple · a),(SeqAt.RcAt.bool_list · · a),(SeqAt.RcAt.bool_tuple · · a),(SeqAt.RcAt.int_list · · · a),(SeqAt.RcAt.int_tuple · · · a),(SeqAt.RcAt.str_list · · · a),(SeqAt.RcAt.str_tuple · · · a),(SeqAt.RcAt.list_none · a),(SeqAt.RcAt.tuple_none · a),(SeqAt.RcAt.list_bool · · a),(SeqAt.RcAt.tuple_bool · · a),(SeqAt.RcAt.list_int · · · a),(SeqAt.RcAt.tuple_int · · · a),(SeqAt.RcAt.list_str · · · a),(SeqAt.RcAt.tuple_str · · · a)⟩
structure Knq(A:Kb)(s:Jd)(P:Je->Je->Bool->Prop):Prop where
 k:Knd s P
 ll:∀{a b:Jt}{xs ys:Array Je}{e:Nat->Bool},s.heap.IsList a xs->s.heap.IsList b ys->xs.size=ys.size->(∀j (h1:j<xs.size) (h2:j<ys.size),SeqAt.EqAt A.in1 s xs[j] ys[j] (e j))->P (.ref a) (.ref b) ((J3 xs.size).all e)
 ln:∀{a b:Jt}{xs ys:Array Je},s.heap.IsList a xs->s.heap.IsList b ys->(xs.size !=ys.size)=true->P (.ref a) (.ref b) false
 lt:∀{a b:Jt}{xs ys:Array Je},s.heap.IsList a xs->Q8 s.heap b ys->P (.ref a) (.ref b) false
 tl:∀{a b:Jt}{xs ys:Array Je},Q8 s.heap a xs->s.heap.IsList b ys->P (.ref a) (.ref b) false
 tt:∀{a b:Jt}{xs ys:Array Je}{e:Nat->Bool},Q8 s.heap a xs->Q8 s.heap b ys->(∀j (h1:j<xs.size) (h2:j<ys.size),SeqAt.EqAt A.in1 s xs[j] ys[j] (e j))->P (.ref a) (.ref b) ((J3 (min xs.size ys.size)).all e && xs.size==ys.size)
theorem Ag(I:Inv X U_ σ H s){n:Nat}{vs B:List V}{xs ys:List U}{c d:List Je}(d1:Gp X H n xs vs c)(d2:Gp X H n ys B d){A:Kb}
  (rc0:∀(x y:U) (v w:V) (p q:Je),Rp X.K H v x->Rp X.K H w y->aS v p->aS w q->okU n x=true->okU n y=true->SeqAt.RcAt A s p q (eqW x y)) (hu:A.units<Mu)
  (j:Nat) (j1:j<c.length) (j2:j<d.length):SeqAt.EqAt A s c[j] d[j] (eqW (xs.getD j .non) (ys.getD j .non)):=by
 have z:j<vs.length:=d1.r.length ▸ j1;have u:j<B.length:=d2.r.length ▸ j2;obtain⟨x,m⟩:∃x,xs[j]?=some x:=⟨_,IQ (d1.l ▸ j1)⟩;obtain⟨y,g⟩:∃y,ys[j]?=some y:=⟨_,IQ (d2.l ▸ j2)⟩;rw[Jx,Jx,m,g];have t:=d1.hi j _ x (IQ z) m;have R2:=d2.hi j _ y (IQ u) g;obtain⟨p,C,f⟩:=d1.r.get (IQ z);obtain⟨q,E,h⟩:=d2.r.get (IQ u);rw[show c[j]=p from JW ((IQ j1).symm.trans C),show d[j]=q from JW ((IQ j2).symm.trans E)];have i:=jC d1.o m;have k:=jC d2.o g;refine (Ai hu).all (t.kd I f i) (R2.kd I h k) λa b D F=>?_;subst D F;by_cases e:a=b
 .subst e;rw[<-f.inj h]at R2;show SeqAt.EqAt A s _ _ (eqW x y);rw[Rp.one I n t R2 f i k];exact SeqAt.EqAt.same _
 .exact SeqAt.EqAt.of_refs e (rc0 x y _ _ _ _ t R2 f h i k)
theorem Knq.all{A:Kb}{P:Je->Je->Bool->Prop}(k:Knq A s P)(I:Inv X U_ σ H s){n:Nat}{x y:U}{v w:V}{p q:Je}(j:∀m,n=m+1->∀(x y:U) (v w:V) (p q:Je),Rp X.K H v x->Rp X.K H w y->aS v p->aS w q->okU m x=true->okU m y=true->SeqAt.RcAt A.in1 s p q (eqW x y))(C:∀m,n=m+1->A.in1.units<Mu)
  (R1:Rp X.K H v x) (R2:Rp X.K H w y) (q1:aS v p) (q2:aS w q) (o1:okU n x=true) (o2:okU n y=true):P p q (eqW x y):=by
 refine k.k.all (R1.kd I q1 o1) (R2.kd I q2 o2) λa b B F=>?_;subst B F;obtain⟨m,r,L,its,z,h,d⟩:=R1.its I q1 o1;obtain⟨J,o,M,u,D,i,c⟩:=R2.its I q2 o2;subst z;cases D;have t:=Ag I h i (j m rfl) (C m rfl);rcases d with ⟨E,f,d⟩ |⟨E,f,d⟩ <;>rcases c with ⟨G,e,c⟩ |⟨G,e,c⟩
 .have:P (.ref a) (.ref b) (eqWs r o):=by
   rw[<-ja,<-h.l,<-i.l];by_cases g:its.length=u.length
   .have:=k.ll f e g t;rw[<-g,Nat.min_self,beq_self_eq_true,Bool.and_true];exact this
   .rw[beq_false_of_ne g,TC];exact k.ln f e (bne_iff_ne.mpr g)
  rcases d with rfl |rfl <;>rcases c with rfl |rfl <;>exact this
 .subst c;rcases d with rfl |rfl <;>exact k.lt f e
 .subst d;rcases c with rfl |rfl <;>exact k.tl f e
 .subst d c;show P _ _ (eqWs r o);rw[<-ja,<-h.l,<-i.l];exact k.tt f e t
theorem rK{A:Kb}(a:A.units<Mu):Knq A s (SeqAt.RcAt A s):=⟨yA a,(SeqAt.RcAt.lists · · · a ·),(SeqAt.RcAt.lists_lengths · · · a),(SeqAt.RcAt.list_tuple · · a),(SeqAt.RcAt.tuple_list · · a),(SeqAt.RcAt.tuples · · a ·)⟩
theorem Gw(I:Inv X U_ σ H s):∀n A x y v w p q,Rp X.K H v x->Rp X.K H w y->aS v p->aS w q->okU n x=true->okU n y=true->A.units+n<Mu->SeqAt.RcAt A s p q (eqW x y):=by
 intro n
 induction n with
 |zero=>exact λA x y v w p q g R2 f b c d a=>(rK a).all I (λm e=>by cases e) (λm e=>by cases e) g R2 f b c d
 |succ n j=>
  intro A x y v w p q g R2 f b c d a;have h:A.in1.units+n<Mu:=PJ A.units n ▸ a;exact (rK (Ki (JI _ _) a)).all I (λ_ e x y v w p q r k o i l t=>by cases e;exact j A.in1 x y v w p q r k o i l t h) (λ_ _=>Ki (JI _ n) h) g R2 f b c d
theorem Bp{A:Kb}(a:A.units<Mu):Knq A s (λp q b=>SeqAt.RcNeAt A s p q (!b)):=⟨⟨SeqAt.RcNeAt.none_none,SeqAt.RcNeAt.none_bool,SeqAt.RcNeAt.none_int,SeqAt.RcNeAt.none_str,SeqAt.RcNeAt.bool_none,SeqAt.RcNeAt.bool_bool,SeqAt.RcNeAt.bool_int,SeqAt.RcNeAt.bool_str,SeqAt.RcNeAt.int_none,SeqAt.RcNeAt.int_bool,SeqAt.RcNeAt.int_int,SeqAt.RcNeAt.int_str,SeqAt.RcNeAt.str_none,SeqAt.RcNeAt.str_bool,SeqAt.RcNeAt.str_int,SeqAt.RcNeAt.str_str,(SeqAt.RcNeAt.none_list · a),(SeqAt.RcNeAt.none_tuple · a),(SeqAt.RcNeAt.bool_list · · a),(SeqAt.RcNeAt.bool_tuple · · a),(SeqAt.RcNeAt.int_list · · · a),(SeqAt.RcNeAt.int_tuple · · · a),(SeqAt.RcNeAt.str_list · · · a),(SeqAt.RcNeAt.str_tuple · · · a),(SeqAt.RcNeAt.list_none · a),(SeqAt.RcNeAt.tuple_none · a),(SeqAt.RcNeAt.list_bool · · a),(SeqAt.RcNeAt.tuple_bool · · a),(SeqAt.RcNeAt.list_int · · · a),(SeqAt.RcNeAt.tuple_int · · · a),(SeqAt.RcNeAt.list_str · · · a),(SeqAt.RcNeAt.tuple_str · · · a)⟩,(SeqAt.RcNeAt.lists · · · a ·),(SeqAt.RcNeAt.lists_lengths · · · a),(SeqAt.RcNeAt.list_tuple · · a),(SeqAt.RcNeAt.tuple_list · · a),(SeqAt.RcNeAt.tuples · · a ·)⟩
theorem FI(I:Inv X U_ σ H s)(n)(A)(x y)(v w)(p q)(o:Rp X.K H v x)(r:Rp X.K H w y)(i:aS v p)(d:aS w q)(f:okU (n+1) x=true)(h:okU (n+1) y=true)(a:A.units+(n+1)<Mu):SeqAt.RcNeAt A s p q (!eqW x y):=by
 have b:A.in1.units+n<Mu:=PJ A.units n ▸ a;exact (Bp (Ki (JI _ _) a)).all I (λ_ e x y v w p q m g k c j l=>by cases e;exact Gw I n A.in1 x y v w p q m g k c j l b) (λ_ _=>Ki (JI _ n) b) o r i d f h
end
def OpS(X:Cx)(f:Je->Je->Sem Je)(x y:U)(z:V):Prop:=OpR X f λv w H Q=>Rp X.K H v x/\Rp X.K H w y/\Q z H
section
variable {X:Cx}{H0:Hp}{O0:List Jt}{ps:PSt}{a b c e:Expr}{rest:List Expr}{U4 p:Pos}{u x y:U}{xs ys us:List U}{i j:Int}{k m:Bool}
theorem Rp.out{K:IR}(h:Rp K (hid H O) v u):Rp K H v u:=h.same aH
theorem eY(g:OpS X (Kc op) x y (.bl k))(f:Ev X H0 O0 ps a x)(c:Ev X H0 O0 ps b y)(e:Lm op b=false:=by first |exact iM _ |with_unfolding_all rfl):Ev X H0 O0 ps (.Compare a [op] [b] U4) (.bl k):=
 PE.mono (CQ g f c e) λj H Q ⟨O,R,q⟩=>two R (λ_ _ _ z=>z) (λ_ _ _ z=>z) λv w d s _ h i=>⟨h.out,i.out,q _ d s (.bl _)⟩
theorem am(g:OpS X (Kc op) x y (.bl k))(f:Ev X H0 O0 ps a x)(c:Ev X H0 O0 ps b y)(e:Lm op b=false:=by first |exact iM _ |with_unfolding_all rfl):Tt X H0 O0 ps (.Compare a [op] [b] U4) k:=
 PT.mono (C8 g f c e) λj H Q ⟨O,R,q⟩=>two R (λ_ _ _ z=>z) (λ_ _ _ z=>z) λv w d s _ h i=>⟨h.out,i.out,_,rfl,q d s⟩
theorem wc{g:Int->Int->Bool}(e:OpR X (Kc op) (rI0 λi j=>.bl (g i j))):OpS X (Kc op) (.int i) (.int j) (.bl (g i j)):=by
 intro k s d H v w p q Q I l a h;obtain⟨f,b,c⟩:=h;cases f;cases b;exact e k s d H _ _ _ _ Q I l a ⟨i,j,rfl,rfl,c⟩
theorem fB:OpS X (Kc .Lt) (.int i) (.int j) (.bl (decide (i<j))):=wc G0
theorem Iy:OpS X (Kc .LtE) (.int i) (.int j) (.bl (decide (i<=j))):=wc Gx
theorem fc:OpS X (Kc .Gt) (.int i) (.int j) (.bl (decide (j<i))):=wc Hs
theorem GE:OpS X (Kc .GtE) (.int i) (.int j) (.bl (decide (j<=i))):=wc GS
theorem IJ(i:X.A.units+10<Mu)(e:okU 9 x=true)(c:okU 9 y=true):OpS X (Kc .Eq) x y (.bl (eqW x y)):=by
 intro k s j H v w p q Q I g b h;obtain⟨d,a,f⟩:=h;exact Gw I 9 X.A x y v w p q d a g b e c (by lia) X.prog X.w _ _ (ke I f rfl)
theorem Ic(i:X.A.units+10<Mu)(e:okU 9 x=true)(c:okU 9 y=true):OpS X (Kc .NotEq) x y (.bl (!eqW x y)):=by
 intro k s j H v w p q Q I g b h;obtain⟨d,a,f⟩:=h;exact FI I 8 X.A x y v w p q d a g b e c (by omega) X.prog X.w _ _ (ke I f rfl)
theorem bw:OpS X (Kc .Eq) (.int i) (.int j) (.bl (decide (i=j))):=by
 rintro h s g H v w p q Q I d e ⟨a,b,c⟩;cases a;cases b;obtain⟨t,rfl⟩:=d;obtain⟨f,rfl⟩:=e;exact eq_int (ke I c (QI i j))
theorem tq:OpS X (Kc .NotEq) (.int i) (.int j) (.bl (!decide (i=j))):=by
 rintro h s g H v w p q Q I d e ⟨a,b,c⟩;cases a;cases b;obtain⟨t,rfl⟩:=d;obtain⟨f,rfl⟩:=e;exact ne_int (ke I c (by rw[bne,QI]))
theorem jh(h:Ev X H0 O0 ps e (.bl k))(c:∀a,isTrue e X.env a=(do let v <-a;PY e.pos;OX [v] (truthy v)):=by intro _;rfl):Tt X H0 O0 ps e k:=
 PT.mono (Fo h c) λd H Q ⟨O,R,q⟩=>⟨O,R,λv b s r=>by cases r;exact⟨_,rfl,q b s⟩⟩
theorem lN(h:Tt X H0 O0 ps a k):Tt X H0 O0 ps (.UnaryOp .Not a U4) (!k):=PT.mono (FQ h) λb H Q ⟨O,R,q⟩=>⟨O,R,q⟩
theorem Tw.t(h:Tw X H0 O0 ps e k):Tt X H0 O0 ps e k:=h.pt
theorem cU(h:Tt X H0 O0 ps a k):Tw X H0 O0 ps (.BoolOp .And [a] U4) k:=CF h
theorem fQ(h:Tt X H0 O0 ps a k):Tw X H0 O0 ps (.BoolOp .Or [a] U4) k:=Gm h
theorem eE(d:Tt X H0 O0 ps a k)(e:k=true->Tw X H0 O0 ps (.BoolOp .And (b::rest) U4) m):Tw X H0 O0 ps (.BoolOp .And (a::b::rest) U4) (k && m):=by
 induction k with
 |true=>exact PW.mono (zx d (e rfl)) λg H Q ⟨O,R,q⟩=>⟨O,R,λc s=>by exact pU (⟨O,R.go s,λi f=>q i (s.trans f)⟩)⟩
 |false=>exact PW.mono (zx d (λ_ _ _ _ _ _ _ h=>h.elim) (tB':=λ_ _ _=>False)) λg H Q ⟨O,R,q⟩=>⟨O,R,λc s=>by exact qu (q c s)⟩
theorem jN(d:Tt X H0 O0 ps a k)(e:k=false->Tw X H0 O0 ps (.BoolOp .Or (b::rest) U4) m):Tw X H0 O0 ps (.BoolOp .Or (a::b::rest) U4) (k ||m):=by
 induction k with
 |false=>exact PW.mono (D9 d (e rfl)) λg H Q ⟨O,R,q⟩=>⟨O,R,λc s=>by exact qu (⟨O,R.go s,λi f=>q i (s.trans f)⟩)⟩
 |true=>exact PW.mono (D9 d (λ_ _ _ _ _ _ _ h=>h.elim) (tB':=λ_ _ _=>False)) λg H Q ⟨O,R,q⟩=>⟨O,R,λc s=>by exact pU (q c s)⟩
theorem DV{op}(h:Ev X H0 O0 ps a u):Ev X H0 O0 ps (.BoolOp op [a] U4) u:=FW h
theorem GJ(d:Ev X H0 O0 ps a (.bl k))(e:k=true->Ev X H0 O0 ps (.BoolOp .And (b::rest) U4) (.bl m)):Ev X H0 O0 ps (.BoolOp .And (a::b::rest) U4) (.bl (k && m)):=by
 induction k with
 |true=>exact PE.mono (Aa d (e rfl)) λg H Q ⟨O,R,q⟩=>⟨O,R,λv c s r=>by cases r;exact⟨_,rfl,by exact pU (⟨O,R.go s,λv i f j=>q v i (s.trans f) j⟩)⟩⟩
 |false=>exact PE.mono (Aa d (λ_ _ _ _ _ _ h=>h.elim) (tb:=λ_ _ _=>False)) λg H Q ⟨O,R,q⟩=>⟨O,R,λv c s r=>by cases r;exact⟨_,rfl,by exact qu (q _ c s (.bl _))⟩⟩
theorem HV(d:Ev X H0 O0 ps a (.bl k))(e:k=false->Ev X H0 O0 ps (.BoolOp .Or (b::rest) U4) (.bl m)):Ev X H0 O0 ps (.BoolOp .Or (a::b::rest) U4) (.bl (k ||m)):=by
 induction k with
 |false=>exact PE.mono (Eh d (e rfl)) λg H Q ⟨O,R,q⟩=>⟨O,R,λv c s r=>by cases r;exact⟨_,rfl,by exact qu (⟨O,R.go s,λv i f j=>q v i (s.trans f) j⟩)⟩⟩
 |true=>exact PE.mono (Eh d (λ_ _ _ _ _ _ h=>h.elim) (tb:=λ_ _ _=>False)) λg H Q ⟨O,R,q⟩=>⟨O,R,λv c s r=>by cases r;exact⟨_,rfl,by exact pU (q _ c s (.bl _))⟩⟩
theorem HE(c:Ev X H0 O0 ps a (.bl k)):Ev X H0 O0 ps (.UnaryOp .Not a U4) (.bl (!k)):=PE.mono (FJ c) λd H Q ⟨O,R,q⟩=>⟨O,R,λv b s r=>by cases r;exact⟨_,rfl,q _ b s (.bl _)⟩⟩
theorem GK(g:Tt X H0 O0 ps c k)(l:k=true->Ev X H0 O0 ps a u)(i:k=false->Ev X H0 O0 ps b u):Ev X H0 O0 ps (.IfExp c a b U4) u:=by
 induction k with
 |true=>exact PE.mono (rP g (l rfl) (λ_ _ _ _ _ _ h=>h.elim) (tb:=λ_ _ _=>False)) λm H Q ⟨O,R,q⟩=>⟨O,R,λj s=>by exact pU (⟨O,R.go s,λv e d f=>q v e (s.trans d) f⟩)⟩
 |false=>exact PE.mono (rP g (λ_ _ _ _ _ _ h=>h.elim) (i rfl) (ta:=λ_ _ _=>False)) λm H Q ⟨O,R,q⟩=>⟨O,R,λj s=>by exact qu (⟨O,R.go s,λv e d f=>q v e (s.trans d) f⟩)⟩
theorem aj:EvA X H0 O0 ps [] []:=PA.mono cC λa H Q ⟨O,R,q⟩=>q [] H (.refl H) .nil
theorem ag(c:Ev X H0 O0 ps e u)(d:EvA X H0 O0 ps es us)(hs:autoParam (IY (e::es) X.env=(false,K0 e X.env)::IY es X.env) z0):EvA X H0 O0 ps (e::es) (u::us):=
 PA.mono (a9 c d hs) λk H Q ⟨O,R,q⟩=>⟨O,R,λv i a g=>⟨O,R.go a,λj f b h=>q _ f (a.trans b) (.cons (g.same (aJ b)) h)⟩⟩
theorem Rs.hidnew{K:IR}(R:Rs K H0 O0 ps σ H O){p:Jt}(n:H p=none):hid (upd H p o) O p=some o:=bV aA λz=>R.dom p z n
theorem GN{x1}(h:EvA X H0 O0 ps es us)(f:us.length<=sizeLine:=by first |decide | (simp only[Ji,MR];decide)):Ev X H0 O0 ps (.Tuple es x1 U4) (.tup us):=
 PE.mono (AI h) λj H Q ⟨O,R,q⟩=>⟨O,R,λg i b d=>⟨by rw[d.len];exact f,λp a=>by
  have c:=aQ a (.tup g);have e:=d.same (aJ c);exact q _ _ (b.trans c) (.tup (SqT.of ((R.go b).hidnew a)) e.len e.at_)⟩⟩
theorem GC(h:EvA X H0 O0 ps es us)(d:us.length<=sizeLine:=by first |decide | (simp only[Ji,MR];decide)):EvN X H0 O0 ps (.List es U4) us:=
 PE.mono (tW h) λg H Q ⟨O,R,q⟩=>⟨O,R,λe f b c=>⟨by rw[c.len];exact d,λp a=>by
  exact q p e _ (b.trans (aQ a _)) (b.free a) aA (c.same (bH (aQ a _) a))⟩⟩
theorem aD(n:Ev X H0 O0 ps a x)(m:Ev X H0 O0 ps b (.int i))(g:x.items=some xs)(k:atI xs i=some u)(hs:jv b:=by intro _ _;rfl):Ev X H0 O0 ps (.Subscript a b U4) u:=
 PE.mono (v9 (qj.or Gg) n m hs) λp H Q ⟨O,R,q⟩=>two (y:=.int i) R (λ_ _ _ z=>z) (λ_ _ _ z=>z) λv w j s _ o l=>by
  cases l
  induction o with
  |scr h d c=>cases g;obtain⟨z,f,e⟩:=Rps.atI ⟨d,c⟩ k;exact .inl ⟨_,_,i,z,rfl,rfl,aH.seq h,f,q z j s e⟩
  |lst h d c=>cases g;obtain⟨z,f,e⟩:=Rps.atI ⟨d,c⟩ k;exact .inl ⟨_,_,i,z,rfl,rfl,aH.seq (SqL.of h),f,q z j s e⟩
  |tup h d c=>cases g;obtain⟨z,f,e⟩:=Rps.atI ⟨d,c⟩ k;exact .inr ⟨_,_,i,z,rfl,rfl,aH.tup h,f,q z j s e⟩
  |_=>cases g
theorem vV(n:Nat){x:Str}(h:ps[n]?=some (some (.own xs)))(f:Ev X H0 O0 ps b (.int i))(t:atI xs i=some u)(A:autoParam (X.N[n]?=some x) z0)(d:autoParam (Vis X.env.scope x) k6)(y:autoParam ((x==("__debug__":Str))=false) x4)
  (Vq:autoParam ((x==("__classdict__":Str))=false) x4) (hs:jv b:=by intro _ _;rfl):Ev X H0 O0 ps (.Subscript (.Name x p) b U4) u:=
 PE.mono (v9 qj (c0 A d y Vq) f hs) λD H Q e=>by
  obtain⟨O,R,q⟩:=e;obtain⟨v,m,a,g,rfl,C,B,l,o⟩:=R.at_ n _ h;refine⟨_,m,O,R,λw k s r=>?_⟩;cases r;obtain⟨z,j,c⟩:=o.atI t;exact⟨a,g,i,z,rfl,rfl,SqL.of (s _ _ l),j,q z k s (c.same (aJ s))⟩
def e9(X:Cx)(f:Je)(us:List U)(u:U):Prop:=cB X f λc H Q=>∃O,(∀a∈O,H a≠none)/\Rps X.K (hid H O) c us/\∀v b,aP H b->Rp X.K (hid b O) v u->Q v b
theorem ay{b:String}(l:e9 X (.builtin b) us u)(k:Gl X f)(m:X.mg f=none)(d:KZ f=some (.builtin b))(j:EvA X H0 O0 ps (e::es) us)(i:autoParam (f≠"__name__") x4)(c:autoParam ((f==("__debug__":Str))=false) x4)
  (he:autoParam (IY (e::es) X.env=(false,K0 e X.env)::IY es X.env) z0) (Vk:autoParam ((Kv U4 (IY es X.env)).any (·.1)=false) z0):Ev X H0 O0 ps (.Call (.Name f p) (e::es) [] U4) u:=
 PE.mono (jE l k m d j i c he Vk) λt H Q ⟨O,R,q⟩=>⟨O,R,λs r a o=>⟨O,(R.go a).dom,o,λv g n h=>q v g (a.trans n) h⟩⟩
theorem dP{b:String}(l:e9 X (.type b) us u)(k:Gl X f)(m:X.mg f=none)(d:KZ f=some (.type b))(j:EvA X H0 O0 ps (e::es) us)(i:autoParam (f≠"__name__") x4)(c:autoParam ((f==("__debug__":Str))=false) x4)
  (he:autoParam (IY (e::es) X.env=(false,K0 e X.env)::IY es X.env) z0) (Vk:autoParam ((Kv U4 (IY es X.env)).any (·.1)=false) z0):Ev X H0 O0 ps (.Call (.Name f p) (e::es) [] U4) u:=
 PE.mono (xA l k m d j i c he Vk) λt H Q ⟨O,R,q⟩=>⟨O,R,λs r a o=>⟨O,(R.go a).dom,o,λv g n h=>q v g (a.trans n) h⟩⟩
theorem cW{K:IR}(h:Rps K H vs [x]):∃v,vs=[v]/\Rp K H v x:=by
 obtain⟨v,c,rfl,a,b⟩:=h.cons_inv;rw[b.nil_inv];exact⟨v,rfl,a⟩
theorem ju{K:IR}(h:Rps K H vs [x,y]):∃v w,vs=[v,w]/\Rp K H v x/\Rp K H w y:=by
 obtain⟨v,d,rfl,a,b⟩:=h.cons_inv;obtain⟨w,rfl,c⟩:=cW b;exact⟨v,w,rfl,a,c⟩
theorem cB.mono(h:cB X f r)(m:∀a H Q,r' a H Q->r a H Q):cB X f r':=λc s b H a us Q I v q=>h c s b H a us Q I v (m a H Q q)
theorem wu{K:IR}(h:Rp K H v x)(d:x.items=some xs):∃a e,v=.ref a/\(SqL K H a e\/SqT K H a e)/\Rps K H e xs:=by
 induction h with
 |scr h c b=>cases d;exact⟨_,_,rfl,.inl h,c,b⟩
 |lst h c b=>cases d;exact⟨_,_,rfl,.inl (SqL.of h),c,b⟩
 |tup h c b=>cases d;exact⟨_,_,rfl,.inr h,c,b⟩
 |_=>cases d
theorem CU{K:IR}{a:Jt}(h:SqL K (hid H O) a vs\/SqT K (hid H O) a vs):SqL K H a vs\/SqT K H a vs:=h.imp (λz=>aH.seq z) λz=>aH.tup z
theorem ci(g:x.items=some xs):e9 X (.builtin "len") [x] (.int xs.length):=cB.mono jJ λi H Q f=>by
 obtain⟨O,d,r,q⟩:=f;obtain⟨v,rfl,h⟩:=cW r;obtain⟨a,e,rfl,b,c⟩:=wu h g;exact⟨a,e,rfl,CU b,by rw[c.len];exact q _ H (.refl H) (.int _)⟩
theorem Fj(n:Nat){x:Str}(h:ps[n]?=some (some (.own xs)))(e:Gl X "len")(i:X.mg "len"=none)(l:autoParam (X.N[n]?=some x) z0)(b:autoParam (Vis X.env.scope x) k6)(k:autoParam ((x==("__debug__":Str))=false) x4)
  (Vq:autoParam ((x==("__classdict__":Str))=false) x4) (hs:autoParam (IY [.Name x p'] X.env=(false,K0 (.Name x p') X.env)::IY [] X.env) z0) (Vk:autoParam ((Kv U4 (IY [] X.env)).any (·.1)=false) z0):Ev X H0 O0 ps (.Call (.Name "len" pc) [.Name x p'] [] U4) (.int xs.length):=
 PE.mono (jE jJ e i JH (a9 (c0 l b k Vq) cC hs) (by decide) (by decide) hs Vk) λp H Q c=>by
  obtain⟨O,R,q⟩:=c;obtain⟨v,g,a,d,rfl,o,m,f,j⟩:=R.at_ n _ h;exact⟨_,g,a,d,rfl,.inl (SqL.of f),by rw[j.len];exact q _ H (.refl H) (.int _)⟩
theorem kN:e9 X (.builtin "abs") [.int i] (.int (if i<0 then -i else i)):=cB.mono yX λb H Q a=>by
 obtain⟨O,d,r,q⟩:=a;obtain⟨v,rfl,h⟩:=cW r;cases h;exact⟨i,rfl,q _ H (.refl H) (.int _)⟩
theorem En(a:X.calm=true):e9 X (.builtin "max") [.int i,.int j] (.int (if j >i then j else i)):=cB.mono (xU a) λe H Q c=>by
 obtain⟨O,d,r,q⟩:=c;obtain⟨v,w,rfl,h,b⟩:=ju r;cases h;cases b;exact⟨i,j,rfl,q _ H (.refl H) (.int _)⟩
theorem Er(a:X.calm=true):e9 X (.builtin "min") [.int i,.int j] (.int (if j<i then j else i)):=cB.mono (wX a) λe H Q c=>by
 obtain⟨O,d,r,q⟩:=c;obtain⟨v,w,rfl,h,b⟩:=ju r;cases h;cases b;exact⟨i,j,rfl,q _ H (.refl H) (.int _)⟩
theorem DJ(k:x=.lst xs∨x=.scr xs):e9 X (.type "tuple") [x] (.tup xs):=cB.mono n8 λm H Q j=>by
 obtain⟨O,d,r,q⟩:=j;obtain⟨v,rfl,h⟩:=cW r;have g:∀{l}{o},H l=none->hid (upd H l o) O l=some o:=λ{l o} b=>bV aA λz=>d _ z b;rcases k with rfl |rfl
 .cases h with
  |lst h b e=>exact⟨_,_,rfl,.inl ⟨aH.seq (SqL.of h),λl a=>q _ _ (aQ a _) (.tup (SqT.of (g a)) b λi v x c f=>(e i v x c f).same (aJ (aQ a _)))⟩⟩
 .cases h with
  |scr h b e=>exact⟨_,_,rfl,.inl ⟨aH.seq h,λl a=>q _ _ (aQ a _) (.tup (SqT.of (g a)) b λi v x c f=>(e i v x c f).same (aJ (aQ a _)))⟩⟩
noncomputable def tyU:U->Je
 | .non=>.type "NoneType" | .bl _=>.type "bool" | .int _=>.type "int" | .str _=>.type "str" | .ty _=>.type "type" | .dic=>.type "dict" | .scr _=>.type "list" | .tup _=>.type "tuple" | .lst _=>.type "list"
theorem gD(j:∀m,x≠.ty m)(h:KS X.K (tyU x) (.type n)=some k):e9 X (.builtin "isinstance") [x,.ty (.nm n)] (.bl k):=by
 intro F s D H J us Q I r B;obtain⟨O,d,A,q⟩:=B;obtain⟨v,w,rfl,E,C⟩:=ju A;cases C;obtain⟨L,y,rfl,c,u⟩:=i_ r;cases (show y=L_ n from u);have a:∀t,EP X F D Q (.bool k) {s with toks:=t }:=λt=>⟨.bl k,H,I.tok _,rfl,q _ H (.refl H) (.bl _)⟩
 induction E with
 |non=>exact dW I c .non h a
 |bl b=>exact dW I c (.bl b) h a
 |int b=>exact dW I c (.int b) h a
 |str b=>exact dW I c (.str b) h a
 |ty m=>exact absurd rfl (j _)
 |dic e=>exact dW I c (.dK (aH _ _ e)) h a
 |xc e G=>exact absurd rfl (j _)
 |scr e p l=>
  cases c;obtain⟨its,_,i,_⟩:=I.list (aH.seq e);obtain⟨o,nn,f,g,_⟩:=i;exact Ks Px I.kIn ⟨o,f,g⟩ h (λz=>nomatch z) a
 |lst e p l=>exact dW I c (.lst (aH _ _ e)) h a
 |tup e p l=>
  cases c;obtain⟨its,_,i,_⟩:=I.tuple (aH.tup e);obtain⟨o,f,g,_⟩:=i;exact Ks Ry I.kIn ⟨o,f,g⟩ h (λz=>nomatch z) a
end
inductive Out where
 |val (u:U) |new (xs:List U) |exc (C:Jt) |dsk (d:Jt) (u:U) (kvs:List (Str×U))
noncomputable def lQ(K:IR)(c:Hp)(e:List Jt)(Q:VK)(E:XK):Out->Prop
 | .val u=>∀v b,aP c b->Rp K (hid b e) v u->Q v b
 | .new xs=>∀a h b,aP c b->c a=none->b a=some (.lst h)->Rps K (hid b (a::e)) h xs->Q (.ref a) b
 | .exc C=>∀b,aP c b->E (.ref C) none b
 | .dsk d u f=>∀v g b,aP c b->b d=some (.dK g)->DkR K (hid b (d::e)) g f->Rp K (hid b (d::e)) v u->Q v b
theorem lQ.later{K:IR}(e:aP H0 H1)(h:lQ K H0 O0 Q E o):lQ K H1 O0 Q E o:=by
 cases o with
 |val u=>exact λv b s r=>h v b (e.trans s) r
 |new i=>exact λa g b s n q r=>h a g b (e.trans s) (e.free n) q r
 |exc C=>exact λb s=>h b (e.trans s)
 |dsk d u c=>exact λv f b s q r p=>h v f b (e.trans s) q r p
structure PD where
 nx:PSt->Prop
 rt:Out->Prop
 bk:PSt->Prop:=λ_=>False
 ct:PSt->Prop:=λ_=>False
structure Lf(K:IR)(H0:Hp)(O0:List Jt)(E:XK)(D:PD)(D':sV):Prop where
 nx:∀ps σ H O,Rs K H0 O0 ps σ H O->D.nx ps->D'.nx σ H
 bk:∀ps σ H O,Rs K H0 O0 ps σ H O->D.bk ps->D'.bk σ H
 ct:∀ps σ H O,Rs K H0 O0 ps σ H O->D.ct ps->D'.ct σ H
 rt:∀o,D.rt o->lQ K H0 O0 D'.rt E o
def Ws(X:Cx)(a:Hp)(b:List Jt)(E:XK)(d:List LS)(D:PD)(c:PSt):Prop:=PSs X d λe f H=>Lf X.K a b E D e/\∃O,Rs X.K a b c f H O
def W1(X:Cx)(a:Hp)(b:List Jt)(E:XK)(s:LS)(D:PD)(c:PSt):Prop:=PS X s λd e H=>Lf X.K a b E D d/\∃O,Rs X.K a b c e H O
variable {Vh:List LS}
section
variable {X:Cx}{H0:Hp}{O0:List Jt}{E:XK}{ps VB:PSt}{D:PD}{s:LS}{ss:List LS}{a b c e:Expr}{U4 p:Pos}{u x y:U}{xs ys us:List U}{k:Bool}
theorem au(h:D.nx ps):Ws X H0 O0 E [] D ps:=PSs.mono DA λb a H ⟨L,O,R⟩=>L.nx ps a H O R h
theorem ae(h:W1 X H0 O0 E s {D with nx:=λp=>Ws X H0 O0 E ss D p } ps):Ws X H0 O0 E (s::ss) D ps:=by
 have c:PSs X ss λb a H=>∃p,Ws X H0 O0 E ss D p/\Lf X.K H0 O0 E D b/\∃O,Rs X.K H0 O0 p a H O:=λd s a H b I ⟨p,w,l,r⟩=>w d s a H b I ⟨l,r⟩;exact PSs.mono (Bb h c) λb a H ⟨L,O,R⟩=>⟨⟨λp a H O R q=>⟨p,q,L,O,R⟩,L.bk,L.ct,L.rt⟩,O,R⟩
theorem c4(h:Ws X H0 O0 E ss D VB)(hs:SubP VB ps):Ws X H0 O0 E ss D ps:=PSs.mono h λa b H ⟨L,O,R⟩=>⟨L,O,R.sub hs⟩
theorem qQ{x:Str}(c:X.N.Nodup)(b:X.N[i]?=some x)(f:Loc X.env.scope x)(a:Ev X H0 O0 ps e u)(h:D.nx (ps.set i (some (.val u))))(hs:autoParam (Kw e (some (.Name x Vg)) U4.line X.env=pure false) z0)(d:autoParam (X.fn x=true\/X.env.scope.names.lookup x=some .local) v3):
  W1 X H0 O0 E (.Assign [.Name x Vg] e U4) D ps:=PS.mono (lZ c b f a hs d) λj k H ⟨L,O,R⟩=>⟨O,R,λv g s r=>L.nx _ _ _ O ((R.go s).set r) h⟩
theorem m_{x:Str}(g:X.N.Nodup)(f:X.N[i]?=some x)(c:Loc X.env.scope x)(d:EvN X H0 O0 ps e xs)(h:D.nx (ps.set i (some (.own xs))))(hs:autoParam (Kw e (some (.Name x Vg)) U4.line X.env=pure false) z0)(b:autoParam (X.fn x=true\/X.env.scope.names.lookup x=some .local) v3):
  W1 X H0 O0 E (.Assign [.Name x Vg] e U4) D ps:=PS.mono (lZ g f c d hs b) λk l H ⟨L,O,R⟩=>⟨O,R,λa j m s n q r=>L.nx _ _ _ _ (R.own s n q r) h⟩
theorem j_(a:Tt X H0 O0 ps c k)(d:k=true->Ws X H0 O0 E tb D ps)(e:k=false->Ws X H0 O0 E fb D ps):W1 X H0 O0 E (.If c tb fb U4) D ps:=by
 cases k with
 |true=>exact PS.mono (Ef a (d rfl) (λ_ _ _ _ _ _ h=>h.elim) (u:=λ_ _ _=>False)) λf g H ⟨L,O,R⟩=>⟨O,R,λb s=>pU ⟨L,O,R.go s⟩⟩
 |false=>exact PS.mono (Ef a (λ_ _ _ _ _ _ h=>h.elim) (e rfl) (t:=λ_ _ _=>False)) λf g H ⟨L,O,R⟩=>⟨O,R,λb s=>qu ⟨L,O,R.go s⟩⟩
theorem Rs.ret{K:IR}(R:Rs K H0 O0 ps σ H O)(r:Rp K (hid H O) v u):Rp K (hid H O0) v u:=r.same (aF R.old)
theorem aO(b:Ev X H0 O0 ps e u)(h:D.rt (.val u)):W1 X H0 O0 E (.Return (some e) U4) D ps:=
 PS.mono (iS b) λc d H ⟨L,O,R⟩=>⟨O,R,λv a s r=>L.rt _ h v a (R.same.trans s) ((R.go s).ret r)⟩
theorem cD(d:EvN X H0 O0 ps e xs)(h:D.rt (.new xs)):W1 X H0 O0 E (.Return (some e) U4) D ps:=
 PS.mono (iS d) λg i H ⟨L,O,R⟩=>⟨O,R,λa f c s n q r=>L.rt _ h a f c (R.same.trans s) (R.same.free n) q (r.same (aF λb hb=>by
  rcases IT.mp hb with y |y
  .subst y;exact IW
  .exact IS _ (R.old b y)))⟩
theorem lR(i:Nat){x:Str}(g:ps[i]?=some (some (.own xs)))(h:D.rt (.new xs))(o:autoParam (X.N[i]?=some x) z0)(e:autoParam (Vis X.env.scope x) k6)(n:autoParam ((x==("__debug__":Str))=false) x4)
  (Vq:autoParam ((x==("__classdict__":Str))=false) x4):W1 X H0 O0 E (.Return (some (.Name x p)) U4) D ps:=
 PS.mono (iS (c0 o e n Vq)) λq r H f=>by
  obtain⟨L,O,R⟩:=f;obtain⟨v,l,a,j,rfl,c,d,k,m⟩:=R.at_ i _ g;refine⟨_,l,L.rt _ h a j H R.same ((R.new a c).resolve_left d) k (m.same (aF λb hb=>?_))⟩;rcases IT.mp hb with y |y
  .subst y;exact c
  .exact R.old b y
theorem nO(a:Ev X H0 O0 ps e u)(h:D.nx ps)(hs:autoParam (Kw e none U4.line X.env=pure false) z0):W1 X H0 O0 E (.Expr e U4) D ps:=
 PS.mono (ir a hs) λc d H ⟨L,O,R⟩=>⟨O,R,λv b s r=>L.nx _ _ _ O (R.go s) h⟩
theorem Hq{x:Str}(f:PIp X op (ipI g))(o:X.N.Nodup)(l:X.N[i]?=some x)(b:Loc X.env.scope x)(c:ps[i]?=some (some (.val (.int n))))(j:Ev X H0 O0 ps e (.int m))(h:D.nx (ps.set i (some (.val (.int (g n m))))))
  (hf:autoParam (X.fn x=true\/X.env.scope.names.lookup x=some .local) v3):W1 X H0 O0 E (.AugAssign (.Name x Vg) op e U4) D ps:=
 PS.mono (Fz o l b j f hf) λp q H a=>by
  obtain⟨L,O,R⟩:=a;obtain⟨v,k,d⟩:=R.at_ i _ c;cases d;refine⟨_,k,O,R,λv t s r=>?_⟩;cases r;exact⟨n,m,rfl,rfl,L.nx _ _ _ O ((R.go s).set (.int _)) h⟩
theorem eN(i){x:Str}(b:ps[i]?=some (some (.own xs)))(k:Ev X H0 O0 ps e u)(l:xs.length<sizeLine)(h:D.nx (ps.set i (some (.own (xs++[u])))))
  (hN:autoParam (X.N[i]?=some x) z0) (hv:autoParam (Vis X.env.scope x) k6) (hd:autoParam ((x==("__debug__":Str))=false) x4) (Vq:autoParam ((x==("__classdict__":Str))=false) x4)
  (Vn:autoParam (KW (.Name x xp) "append" X.env (K0 (.Name x xp) X.env)=K0 (.Name x xp) X.env) z0)
  (VX:autoParam (((Kv U5 (IY [e] X.env)).all (λx=>!x.1) && (MU U5 (Ld [] X.env)).all (λx=>x.1.isSome) && decide ([e].length+([]:List NX).length+(if ([]:List NX).isEmpty then 0 else 1)<30))=true) z0)
  (Vo:autoParam ((U7.endLine==U5.line)=true) z0) (WR:autoParam (IY [e] X.env=(false,K0 e X.env)::IY [] X.env) z0) (Vr:autoParam ((Kv U5 (IY [] X.env)).any (·.1)=false) z0)
  (hs:autoParam (Kw (.Call (.Attribute (.Name x xp) "append" U7) [e] [] U5) none U4.line X.env=pure false) z0):W1 X H0 O0 E (.Expr (.Call (.Attribute (.Name x xp) "append" U7) [e] [] U5) U4) D ps:=
 PS.mono (ir (v4 P6 PySem.F.slot_list_append PySem.F.type_list_append kf (c0 hN hv hd Vq) (a9 k cC WR) Vn VX Vo WR Vr) hs) λn p H g=>by
  obtain⟨L,O,R⟩:=g;obtain⟨v,d,a,j,rfl,o,m,c,f⟩:=R.at_ i _ b;refine⟨_,d,.inl ⟨rfl,_,SqL.of c⟩,O,R,λw q s r=>⟨a,j,w,rfl,rfl,s _ _ c,by rw[f.len];exact l,?_⟩⟩;exact L.nx _ _ _ O ((R.go s).write b d ((f.same (aJ s)).snoc (.cons r .nil))) h
theorem Ep(i){x:Str}(f:ps[i]?=some (some (.own xs)))(m:xs≠[])(h:D.nx (ps.set i (some (.own xs.dropLast))))
  (hN:autoParam (X.N[i]?=some x) z0) (hv:autoParam (Vis X.env.scope x) k6) (hd:autoParam ((x==("__debug__":Str))=false) x4) (Vq:autoParam ((x==("__classdict__":Str))=false) x4)
  (Vn:autoParam (KW (.Name x xp) "pop" X.env (K0 (.Name x xp) X.env)=K0 (.Name x xp) X.env) z0)
  (Vo:autoParam ((U7.endLine==U5.line)=true) z0)
  (hs:autoParam (Kw (.Call (.Attribute (.Name x xp) "pop" U7) [] [] U5) none U4.line X.env=pure false) z0):W1 X H0 O0 E (.Expr (.Call (.Attribute (.Name x xp) "pop" U7) [] [] U5) U4) D ps:=
 PS.mono (ir (Ay P6 PySem.F.slot_list_pop PySem.F.type_list_pop EI (c0 hN hv hd Vq) Vn Vo) hs) λq s H l=>by
  obtain⟨L,O,R⟩:=l;obtain⟨v,k,a,b,rfl,r,o,g,e⟩:=R.at_ i _ f;have p:0<b.length:=by rw[e.len];exact JK.mpr m
  have n:b.length-1<b.length:=by lia
  refine⟨_,k,.inl ⟨rfl,_,SqL.of g⟩,a,b,b[b.length-1],rfl,rfl,g,IQ n,?_⟩;refine L.nx _ _ _ O (R.write f k ⟨by simp[e.len],λj v x c d=>?_⟩) h;rw[Mn]at c d;split at c
  .split at d
   .exact e.at_ j v x c d
   .cases d
  .cases c
end
noncomputable def mX:List Nat->TGs
 |[]=>HQ
 |j::js=>Ew (oX j) (mX js)
noncomputable def setAll:PSt->List Nat->List U->PSt
 |ps,j::js,u::us=>setAll (ps.set j (some (.val u))) js us
 |ps,_,_=>ps
noncomputable def lv:St->List Nat->List V->St
 |σ,j::js,u::us=>lv (σ.set j (some u)) js us
 |σ,_,_=>σ
theorem Rs.setAll{K:IR}:∀{js}{ps}{c}{a}{b},Rs K H0 O0 ps c H O->Rps K (hid H O) a b->Rs K H0 O0 (L2.setAll ps js b) (lv c js a) H O
 |[],ps,c,a,b,R,r=>by cases b <;>cases a <;>exact R
 |j::js,ps,c,a,[],R,r=>by rw[r.nil_inv];exact R
 |j::js,ps,c,a,u::b,R,r=>by
  obtain⟨v,f,rfl,d,e⟩:=r.cons_inv;exact Rs.setAll (js:=js) (R.set d) e
theorem fH:∀{b}{σ}{a},a.length=b.length->Q (lv σ b a) H->mX b a σ H Q
 |[],σ,[],_,q=>⟨rfl,q⟩
 |j::b,σ,v::a,e,q=>⟨v,a,rfl,fH (by simpa using e) q⟩
 |[],_,_::_,e,_=>by simp at e
 |_::_,_,[],e,_=>by simp at e
def TgS(X:Cx)(b:Hp)(d:List Jt)(f:Expr)(e:PSt)(u:U)(h:PSt):Prop:=
 PG X f λv g H Q=>∃O,Rs X.K b d e g H O/\Rp X.K (hid H O) v u/\∀c a,aP H a->Rs X.K b d h c a O->Q c a
theorem PG.mono(h:PG X e t)(m:∀v a H Q,t' v a H Q->t v a H Q):PG X e t':=λb s a H v u Q I r q=>h b s a H v u Q I r (m v a H Q q)
theorem PI.mono(h:PI X tg e t)(m:∀a H Q,t' a H Q->t a H Q):PI X tg e t':=λb s a H Q I q=>h b s a H Q I (m a H Q q)
def Yl(K:IR)(J:It)(G:Hp)(xs:List U):Prop:=
 ∀a,aP G a->(∀i,i<xs.length->J.go i a/\∀x b,J.yld i a x b->b=a/\∃u,xs[i]?=some u/\Rp K G x u)/\J.stop xs.length a
def EvI(X:Cx)(d:Hp)(g:List Jt)(c:PSt)(e a:Expr)(xs:List U):Prop:=
 PI X e a λf H R=>∃O,Rs X.K d g c f H O/\∀J b,aP H b->Yl X.K J (hid b O) xs->R J b
section
variable {X:Cx}{H0:Hp}{O0:List Jt}{E:XK}{ps VB:PSt}{D:PD}{s:LS}{ss:List LS}{a b c e tg iter:Expr}{U4 p:Pos}{u x y:U}{xs ys us:List U}{k:Bool}
theorem ft{x:Str}(b:X.N.Nodup)(a:X.N[i]?=some x)(d:Loc X.env.scope x)(c:autoParam (X.fn x=true\/X.env.scope.names.lookup x=some .local) v3):TgS X H0 O0 (.Name x U4) ps u (ps.set i (some (.val u))):=
 PG.mono (aE b a d c) λv e H Q ⟨O,R,r,q⟩=>q _ H (.refl H) (R.set r)
theorem G6{k:Nat}(js)(e:X.calm=true)(h:PGs X es (mX js))(b:us.length=js.length)(d:autoParam ((Mp es X.env).length=js.length) z0)(g:autoParam ((Mp es X.env).findIdx? (·.1)=none) z0):TgS X H0 O0 (.Tuple es k U4) ps (.tup us) (setAll ps js us):=
 PG.mono (eK e h d g) λv j H Q i=>by
  obtain⟨O,R,r,q⟩:=i;cases r with
  |tup f a c=>exact⟨_,_,rfl,aH.tup f,a.trans b,fH (a.trans b) (q _ H (.refl H) (R.setAll ⟨a,c⟩))⟩
theorem Ex{k:Nat}(js)(j:X.calm=true)(h:PGs X es (mX js))(g:x=.lst us\/x=.scr us)(b:us.length=js.length)(i:autoParam ((Mp es X.env).length=js.length) z0)(e:autoParam ((Mp es X.env).findIdx? (·.1)=none) z0):TgS X H0 O0 (.Tuple es k U4) ps x (setAll ps js us):=
 PG.mono (Fy j h i e) λv l H Q f=>by
  obtain⟨O,R,r,q⟩:=f;rcases g with rfl |rfl
  .cases r with
   |lst d a c=>exact⟨_,_,rfl,aH.seq (SqL.of d),a.trans b,fH (a.trans b) (q _ H (.refl H) (R.setAll ⟨a,c⟩))⟩
  .cases r with
   |scr d a c=>exact⟨_,_,rfl,aH.seq d,a.trans b,fH (a.trans b) (q _ H (.refl H) (R.setAll ⟨a,c⟩))⟩
theorem zD(f:Ev X H0 O0 ps e u)(c:TgS X H0 O0 tg ps u VB)(h:D.nx VB)(hs:autoParam (PZ [tg] e U4.line X.env=pure false) z0)(a:autoParam (P1 [tg] e X.env=pure none) z0)
  (h1:autoParam ((Mp [tg] X.env).map (·.2)=[T9 tg X.env]) z0):W1 X H0 O0 E (.Assign [tg] e U4) D ps:=
 PS.mono (FN f c hs a h1) λk l H ⟨L,O,R⟩=>⟨O,R,λv i b d=>⟨O,R.go b,d,λj g m R2=>L.nx _ _ _ O R2 h⟩⟩
theorem GA{x y:Str}{kt k2 pt2}(g:X.calm=true)(m:X.N.Nodup)(l:X.N[i]?=some x)(c:X.N[j]?=some y)(d:i≠j)
  (hx:X.env.scope.names.lookup x=some .local) (hy:X.env.scope.names.lookup y=some .local) (ha:EvA X H0 O0 ps [a,b] [u,w])
  (hw:P1 [.Tuple [.Name x px,.Name y py] kt pt] (.Tuple [a,b] k2 pt2) X.env=pure (some [x,y])) (h:D.nx ((ps.set i (some (.val u))).set j (some (.val w))))
  (hs:autoParam (PZ [.Tuple [.Name x px,.Name y py] kt pt] (.Tuple [a,b] k2 pt2) U4.line X.env=pure false) z0):
  W1 X H0 O0 E (.Assign [.Tuple [.Name x px,.Name y py] kt pt] (.Tuple [a,b] k2 pt2) U4) D ps:=
 PS.mono (F1 g m l c d hx hy ha hw hs) λq r H ⟨L,O,R⟩=>⟨O,R,λp o e n=>by
  obtain⟨v,z,rfl,k,f⟩:=ju n;exact⟨v,z,rfl,L.nx _ _ _ O (((R.go e).set k).set f) h⟩⟩
theorem bY(n:Ev X H0 O0 ps iter x)(m:x=.lst xs\/x=.scr xs):EvI X H0 O0 ps tg iter xs:=
 PI.mono (B8 n) λt H Q ⟨O,R,q⟩=>⟨O,R,λv h s r=>by
  have g:∃a b,v=.ref a/\SqL X.K (hid h O) a b/\Rps X.K (hid h O) b xs:=by
   rcases m with rfl |rfl
   .cases r with
    |lst c f e=>exact⟨_,_,rfl,SqL.of c,f,e⟩
   .cases r with
    |scr c f e=>exact⟨_,_,rfl,c,f,e⟩
  obtain⟨a,b,rfl,c,d⟩:=g;refine⟨a,rfl,⟨b,aH.seq c⟩,q _ h s λo k=>⟨λi j=>?_,⟨b,k.seq c,by rw[d.len];exact IV _⟩⟩⟩;have l:i<b.length:=by rw[d.len];exact j
  refine⟨⟨b,b[i],k.seq c,IQ l⟩,λz p y=>⟨y.1,xs[i],IQ j,d.at_ i z _ (y.2 b (k.seq c)) (IQ j)⟩⟩⟩
theorem DZ(l:Ev X H0 O0 ps iter (.tup xs)):EvI X H0 O0 ps tg iter xs:=
 PI.mono (Fb l) λo H Q ⟨O,R,q⟩=>⟨O,R,λv g s r=>by
  cases r with
  | @tup a b _ c k j=>
   have d:Rps X.K (hid g O) b xs:=⟨k,j⟩;refine⟨a,rfl,⟨b,aH.tup c⟩,q _ g s λm f=>⟨λi e=>?_,⟨b,f.tup c,by rw[d.len];exact IV _⟩⟩⟩;have h:i<b.length:=by rw[d.len];exact e
   refine⟨⟨b,b[i],f.tup c,IQ h⟩,λz n y=>⟨y.1,xs[i],IQ e,d.at_ i z _ (y.2 b (f.tup c)) (IQ e)⟩⟩⟩
noncomputable def gZ(a:Int)(n:Nat):List U:=(J3 n).map λ(i:Nat)=>U.int (a+(i:Int))
theorem cR{a:Int}:(gZ a n).length=n:=by simp[gZ]
theorem o3{a:Int}(h:i<n):(gZ a n)[i]?=some (.int (a+(i:Int))):=by
 unfold gZ;rw[I0,Lh h];rfl
theorem df{b:Int}(h:(gZ b n)[i]?=some x):i<n/\x=.int (b+(i:Int)):=by
 have a:=aN h;rw[cR]at a;rw[o3 a]at h;exact⟨a,(JW h).symm⟩
theorem rg{K:IR}{b:Int}:Yl K (Itr b n) G (gZ b n):=λe c=>by
 rw[cR];refine⟨λi a=>⟨a,λz d y=>⟨y.1,_,o3 a,?_⟩⟩,IV _⟩;rw[y.2];exact .int _
theorem ie(d:Gl X "range")(f:X.mg "range"=none)(c:EvA X H0 O0 ps [a] [.int j])(g:-(2 ^ 62)≤j)(b:j<2 ^ 62)(hs:autoParam (IY [a] X.env=[(false,K0 a X.env)]) z0):EvI X H0 O0 ps tg (.Call (.Name "range" p) [a] [] U4) (gZ 0 j.toNat):=
 PI.mono (xZ d f c hs) λk H Q ⟨O,R,q⟩=>⟨O,R,λi e s r=>by
  obtain⟨v,rfl,h⟩:=cW r;cases h;exact⟨j,rfl,g,b,q _ e s rg⟩⟩
theorem Bt(f:Gl X "range")(l:X.mg "range"=none)(e:EvA X H0 O0 ps [a,b] [.int i,.int j])(h:-(2 ^ 62)≤i∧i<2 ^ 62∧-(2 ^ 62)≤j∧j<2 ^ 62)(hs:autoParam (IY [a,b] X.env=[(false,K0 a X.env),(false,K0 b X.env)]) z0)(c:autoParam (IY [b] X.env=[(false,K0 b X.env)]) z0):
  EvI X H0 O0 ps tg (.Call (.Name "range" p) [a,b] [] U4) (gZ i (j-i).toNat):=
 PI.mono (xM f l e hs c) λn H Q ⟨O,R,q⟩=>⟨O,R,λm k s r=>by
  obtain⟨v,w,rfl,g,d⟩:=ju r;cases g;cases d;exact⟨i,j,rfl,h,q _ k s rg⟩⟩
theorem Rs.rebase{K:IR}(R:Rs K H0 O0 ps σ H O):Rs K (hid H (O.filter λa=>decide (a ∉ O0))) O0 ps σ H O:=
 ⟨aH,R.old,λa ha=>by
  by_cases h:a∈O0
  .exact .inl h
  .right;unfold hid;rw[if_pos (JS.mpr ⟨ha,by simpa using h⟩)],R.dom,R.len,R.at_,R.inj⟩
theorem Rs.base{K:IR}(R:Rs K H0 O0 ps σ H O):aP H0 (hid H (O.filter λa=>decide (a ∉ O0))):=λb o h=>by
 refine bV (R.same b o h) λz=>?_;obtain⟨c,d⟩:=JS.mp z;rcases R.new b c with y |y
 .simp[y]at d
 .rw[h]at y;cases y
theorem Rs.unbase{K:IR}(e:aP H0 H1)(R:Rs K H1 O0 ps σ H O):Rs K H0 O0 ps σ H O:=
 ⟨e.trans R.same,R.old,λa ha=>(R.new a ha).imp id λz=>e.free z,R.dom,R.len,R.at_,R.inj⟩
theorem Rs.seen{K:IR}(R:Rs K H0 O0 ps σ H O)(e:Rs K (hid H (O.filter λa=>decide (a ∉ O0))) O0 XF σ2 H2 O2):aP (hid H O) (hid H2 O2):=λb o h=>by
 obtain⟨f,c⟩:=cS h;have d:hid H (O.filter λa=>decide (a ∉ O0)) b=some o:=bV f λz=>c (JS.mp z).1;refine bV (e.same b o d) λz=>?_;rcases e.new b z with y |y
 .exact c (R.old b y)
 .rw[d]at y;cases y
theorem GO(hc:X.calm=true)(U:Qz (JE X.prog X.w) X.A X.env X.xe)(hi:EvI X H0 O0 ps tg iter xs)(d:Nat->PSt->Prop)(h0:d 0 ps)
  (hs:∀H0 i x ps,xs[i]?=some x->d i ps->∃VB,TgS X H0 O0 tg ps x VB/\Ws X H0 O0 E Vh {D with nx:=d (i+1),ct:=d (i+1),bk:=D.nx } VB) (hd:∀ps,d xs.length ps->D.nx ps)
  (hf:∀x,Kf iter X.env x=pure x:=by intro _;rfl):W1 X H0 O0 E (.For tg iter Vh [] U4) D ps:=by
 have Z:PG X tg λv b H Q=>∃c ps u VB,TgS X c O0 tg ps u VB/\∃O,Rs X.K c O0 ps b H O/\Rp X.K (hid H O) v u/\∀g f,aP H f->Rs X.K c O0 VB g f O->Q g f:=
  λn s b H v u Q I r q=>by obtain⟨_,_,_,_,t,z⟩:=q;exact t n s b H v u Q I r z
 have hb:PSs X Vh λh b H=>∃c B VB,Ws X c O0 E Vh B VB/\Lf X.K c O0 E B h/\∃O,Rs X.K c O0 VB b H O:=λn s b H h I q=>by obtain⟨_,_,_,w,z⟩:=q;exact w n s b H h I z
 refine PS.mono (Gu U hc hi Z hb hf) λh b H ⟨L,O,R⟩=>⟨O,R,λJ c W Y=>?_⟩
 have l:=R.go W;have base:=l.base;refine⟨λi m b H=>m=xs.length-i/\i<=xs.length/\∃ps k,d i ps/\Rs X.K (hid c (O.filter λa=>decide (a ∉ O0))) O0 ps b H k,⟨_,rfl,JZ _,ps,O,h0,l.rebase⟩,?_⟩;rintro i m σ2 N ⟨rfl,M,j,F,C,R2⟩;have seen:=l.seen R2;obtain⟨P,y2⟩:=Y N (seen.trans aH);by_cases G:i<xs.length
 .obtain⟨g1,g2⟩:=P i G;refine .inr ⟨g1,λg f=>∃ps k,d (i+1) ps/\Rs X.K (hid c (O.filter λa=>decide (a ∉ O0))) O0 ps g f k,λg f z=>⟨xs.length-(i+1),by omega,rfl,G,z⟩,λx T y=>?_⟩;obtain⟨rfl,u,V,r⟩:=g2 x T y;obtain⟨VB,t,w⟩:=hs (hid c (O.filter λa=>decide (a ∉ O0))) i u j V C;refine⟨_,j,u,VB,t,F,R2,r.same seen,λg f s' S=>⟨_,_,VB,w,?_,F,S⟩⟩;exact⟨λp b H O R q=>⟨p,O,q,R⟩,λp b H O R q=>L.nx _ _ _ _ (R.unbase base) q,λp b H O R q=>⟨p,O,q,R⟩,λo q=>(L.rt o q).later base⟩
 .have e:i=xs.length:=by omega
  subst e;exact .inl ⟨y2,L.nx _ _ _ _ (R2.unbase base) (hd j C)⟩
theorem CY(r:Qz (JE X.prog X.w) X.A X.env X.xe)(e:Nat->PSt->Prop)(m)(B:e m ps)
  (hs:∀m ps,e m ps->∃b,Tt X H0 O0 ps c b/\(b=true->Ws X H0 O0 E Vh {D with nx:=λp=>∃d,d<m/\e d p,ct:=λp=>∃d,d<m/\e d p,bk:=D.nx } ps)/\(b=false->D.nx ps)):W1 X H0 O0 E (.While c Vh [] U4) D ps:=by
 have u:PT X c λa H Q=>∃ps b,Tt X H0 O0 ps c b/\∃O,Rs X.K H0 O0 ps a H O/\∀h,aP H h->Q b h:=λi s a H Q I q=>by obtain⟨_,_,t,z⟩:=q;exact t i s a H Q I z
 have hb:PSs X Vh λf a H=>∃j VB,Ws X H0 O0 E Vh j VB/\Lf X.K H0 O0 E j f/\∃O,Rs X.K H0 O0 VB a H O:=λi s a H f I q=>by obtain⟨_,_,w,z⟩:=q;exact w i s a H f I z
 refine PS.mono (zQ r u hb) λf a H ⟨L,O,R⟩=>⟨λm a H=>∃ps O,e m ps/\Rs X.K H0 O0 ps a H O,⟨m,ps,O,B,R⟩,?_⟩
 rintro m x C ⟨g,k,o,R2⟩;obtain⟨b,t,y,v⟩:=hs m g o;refine⟨g,b,t,k,R2,λF n=>?_⟩;cases b with
 |true=>
  refine pU ⟨λa H=>∃d,d<m/\∃ps O,e d ps/\Rs X.K H0 O0 ps a H O,λG h z=>z,_,g,y rfl,?_,k,R2.go n⟩;exact⟨λp a H O R ⟨d,l,q⟩=>⟨d,l,p,O,q,R⟩,λp a H O R q=>L.nx _ _ _ _ R q,λp a H O R ⟨d,l,q⟩=>⟨d,l,p,O,q,R⟩,L.rt⟩
 |false=>exact qu (L.nx _ _ _ _ (R2.go n) (v rfl))
noncomputable def c5:List Nat->PSt->PSt
 |[],ps=>ps
 |i::is,ps=>c5 is (ps.set i none)
theorem Rs.mask{K:IR}:∀{is}{ps}{a},Rs K H0 O0 ps a H O->Rs K H0 O0 (c5 is ps) (L2.mask is a) H O
 |[],ps,a,R=>R
 |i::is,ps,a,R=>Rs.mask (is:=is) (R.drop)
theorem Rs.hide{K:IR}(R:Rs K H0 O0 ps σ H O)(e:aP H H')(n:H l=none)(d:H' l≠none):Rs K H0 O0 ps σ H' (l::O):=by
 refine⟨R.same.trans e,λa ha=>IS _ (R.old a ha),λa ha=>?_,λa ha z=>?_,R.len,λi s h=>?_,R.inj⟩
 .rcases IT.mp ha with y |y
  .subst y;exact .inr (R.same.free n)
  .exact R.new a y
 .rcases IT.mp ha with y |y
  .subst y;exact d z
  .exact R.dom a y (e.free z)
 .obtain⟨w,m,c⟩:=R.at_ i s h;refine⟨w,m,?_⟩;cases s with
  |val u=>exact Rp.same (bH e n) c
  |own ys=>
   obtain⟨b,x,j,f,o,g,k⟩:=c;exact⟨b,x,j,IS _ f,o,e _ _ g,k.same (bH e n)⟩
  |pin z u=>exact⟨c.1,Rp.same (bH e n) c.2⟩
  |dsk w C b d v=>obtain⟨q,p,j,f,o,g,k,r⟩:=c;exact⟨q,p,j,IS _ f,o,e _ _ g,e _ _ k,r.same (bH e n)⟩
  |raw A t ds=>exact kX.raw_go c (bH e n) λd p m c=>⟨IS _ m,e _ _ c⟩
theorem sQ{js is:List Nat}:∀{b}{a},(∀j∈js,j∈is)->∀n v,n ∉ is->b[n]?=some (some v)->(lv b js a)[n]?=some (some v):=by
 induction js with
 |nil=>intro b a _ n v _ h;cases a <;>exact h
 |cons j js f=>
  intro b a d n v c h;cases a with
  |nil=>exact h
  |cons w g=>exact f (λz e=>d z (IS _ e)) n v c (by rw[JA (λz=>c (by rw[<-z];exact d j IW))];exact h)
def GOk(g:TG)(K:IR)(is:List Nat)(f:PSt->U->PSt)(c:U->Prop):Prop:=
 ∀(H0:Hp) (O0:List Jt) (ps:PSt) (b:St) (H:Hp) (O:List Jt) (v:V) (u:U) (Q:St->Hp->Prop),c u->Rs K H0 O0 ps b H O->Rp K (hid H O) v u->
  (∀a,Rs K H0 O0 (f ps u) a H O->(∀(n:Nat) (w:V),n ∉ is->b[n]?=some (some w)->a[n]?=some (some w))->Q a H)->g v b H Q
theorem bR{K:IR}(h:i∈is):GOk (oX i) K is (λps u=>ps.set i (some (.val u))) λ_=>True:=λH0 O0 ps b H O v u Q _ R r q=>
 q _ (R.set r) λn w a e=>by rw[JA (λz=>a (by rw[<-z];exact h))];exact e
theorem di{K:IR}(h:∀j∈js,j∈is):GOk (Gz K js.length (mX js)) K is (λps u=>match u with | .tup us=>setAll ps js us |_=>ps) λu=>∃us,u=.tup us/\us.length=js.length:=λH0 O0 ps i H O v u Q d R r q=>by
 obtain⟨us,rfl,b⟩:=d;cases r with
 |tup g a f=>exact⟨_,_,rfl,aH.tup g,a.trans b,fH (a.trans b) (q _ (R.setAll ⟨a,f⟩) λn w c e=>sQ h n w c e)⟩
end
def Yz(K:IR)(J:It)(G:Hp)(xs:List U):Prop:=
 ∀b,aP G b->(∀i,i<xs.length->J.go i b/\∀x d,J.yld i b x d->aP b d/\∃u,xs[i]?=some u/\∀c,(∀a∈c,b a≠none)->aP G (hid b c)->Rp K (hid d c) x u)/\J.stop xs.length b
def EvZ(X:Cx)(d:Hp)(g:List Jt)(c:PSt)(e a:Expr)(xs:List U):Prop:=
 PI X e a λf H R=>∃O,Rs X.K d g c f H O/\∀J b,aP H b->Yz X.K J (hid b O) xs->R J b
def El(is:List Nat)(h:St)(l:Jt)(g:TE)(W:Nat->Nat->Hp->Prop)(i m:Nat)(f:St)(b:Bool)(e:Hp):Prop:=
 (∀(j:Nat) (v:V),(mask is h)[j]?=some (some v)->f[j]?=some (some v))/\
   if b=true then g f e λy d=>∃c,d l=some (.lst c)/\c.length<sizeLine/\∃a,a<m/\W (i+1) a (upd d l (.lst (c++[y]))) else ∃a,a<m/\W (i+1) a e
def vO(is:List Nat)(g:TG)(h:TT)(j:TE)(d:St)(Q:VK)(J:It)(b:Hp):Prop:=∀l,b l=none->
 ∃W:Nat->Nat->Hp->Prop,(∃m,W 0 m (upd b l (.lst [])))/\∀i m a,W i m a->
  (J.stop i a/\Q (.ref l) a)\/(J.go i a/\∀x c,J.yld i a x c->g x (mask is d) c λe f=>h e f (El is d l j W i m e))
def Tst(X:Cx)(scope:Rx)(cl:List (Str×Jt))(b:List Expr)(a:TT):Prop:=(b=[]/\∀e H Q,a e H Q->Q true H)\/∃c,b=[c]/\∀C s H d,PT (aI X scope cl C s H d) c a
noncomputable abbrev eL(h:Ma):Ma:=h.push {cls:=.type "list",dict:=none,data:=.seq ([]:List Je).toArray }
noncomputable abbrev bX(X:Cx)(scope:Rx)(cl:List (Str×Jt))(s:Jd)(H:Hp)(l:Jt)(fp:List Jt):Cx:=aI X scope cl s.heap.objs.size s (upd H l (.lst [])) fp
section
variable {X:Cx}{U_:List (Jt×Obj)}{σ:St}{H:Hp}{s:Jd}
theorem o8(hc:X.calm=true)(B:cy X scope cl is)
  (hg:∀C s H f,PG (aI X scope cl C s H f) tg g) (ht:Tst X scope cl cs tt) (he:∀C s H f,PE (aI X scope cl C s H f) Vx te) (hs:∀x,Kf iter X.env x=pure x)
  (I:Inv X U_ σ H s) (hi:JN (JE X.prog X.w) X.A (K0 iter X.env) (λv s1=>JN (JE X.prog X.w) X.A (SW v) (PIE X U_ σ tg (vO is g tt te σ Q0)) X.xe s1) X.xe s)
  (fin:∀l C h j m,Inv X U_ σ h j->j.heap.Ns C m->h C=none->C≠X.env.locals->C ∉ X.fs->X.s₀.heap.objs.size<=C->(∀x c,X.env.cells.lookup x=some c->c≠C)->(∀p∈X.pn++U_,p.1≠C)->Q0 (.ref l) h->
   SS (JE X.prog X.w) X.A X.xe use Q (.ref l) C (.ok .next) j):
  JN (JE X.prog X.w) X.A (RC (.ListComp Vx [⟨tg,iter,cs,0⟩] scope U4) scope X.env pos0 (newList []) false (K0 iter X.env) use) Q X.xe s:=by
 refine PL rfl hs B.clos B.kind B.names (thn hi λxv s1 h1=>thn h1 λitv a h2=>?_);obtain⟨it,f,tn,J,t,e,I2,T,st2,f2,R⟩:=h2;subst e;refine MM (Q_ B.cell (by intro y hy;simp at hy) (λF Xq V5=>?_) B.kind);have hl:=I2.hok.fresh (IV _);obtain⟨W,⟨m0,w0⟩,Z⟩:=R a.heap.objs.size hl
 have G:Inv X U_ σ (upd t a.heap.objs.size (.lst [])) {a with heap:=eL a.heap }:=
  I2.laid (λb u e=>IU _ e) (IV _) ⟨JZ _,[],0,.nil,Jm _ rfl⟩
 have hfl:∀b∈f,b<a.heap.objs.size:=λb hb=>let ⟨o,e,_⟩:=T.obj 0 _ st2 b hb;Jc e
 have N:∀b∈f,jK X U_ (upd t a.heap.objs.size (.lst [])) b:=λb hb=>⟨by rw[aC (Jv (hfl b hb))];exact (f2 b hb).1,(f2 b hb).2⟩
 have kp:∀b o,(eL a.heap).get? b=some o->F.get? b=some o:=λb o e=>
  V5.extBut b o (Jv (Jc e)) (IU _ e)
 have st4:=T.keep 0 _ _ st2 λb _ o e=>kp b o (IU _ e)
 have hfl3:∀b∈f,b<(eL a.heap).objs.size:=λb hb=>by
  rw[Ll];exact LA (hfl b hb)
 have I4:=kU (t':=a.toks+([]:List (Str×Je)).length) G B N hfl3 Xq kp
 have loop:Og (JE X.prog X.w) X.A (.compLoop (.ListComp Vx [⟨tg,iter,cs,0⟩] scope U4) 0 (.ref it) (.ref a.heap.objs.size) (RB scope cl (eL a.heap).objs.size X.env))
   (SS (JE X.prog X.w) X.A X.xe use Q (.ref a.heap.objs.size) (eL a.heap).objs.size)
   {a with heap:=F,toks:=a.toks+([]:List (Str×Je)).length }:=by
  generalize hs3:({a with heap:=eL a.heap }:Jd)=k at *
  have hC:(eL a.heap).objs.size=k.heap.objs.size:=by rw[<-hs3]
  rw[hC]
  have V2:∀{h},(∀b∈f,h b=none)->∀b∈f,jK (bX X scope cl k t a.heap.objs.size f) [] h b:=λhn b hb=>
   ⟨hn b hb,(I4.ok.exf b hb).1,I4.ok.exfs b hb,.inl hb,λx c e=>(I4.ok.exf b hb).2 x c e,λp hp=>absurd hp (by simp)⟩
  have Y:∀{Vb}{h}{pp}{j},Inv (bX X scope cl k t a.heap.objs.size f) pp Vb h j->Inv X U_ σ h j:=λI'=>
   G.call' I'.os I'.base I'.hok I'.bare λb hb=>⟨(N b hb).2.2.2.1,(N b hb).2.1,(N b hb).2.2.2.2.1,(N b hb).2.2.2.2.2⟩
  refine codeAny_loop rfl (λn j=>∃i h,Inv (bX X scope cl k t a.heap.objs.size f) [] (mask is σ) h j/\tn i j.heap/\(∀b∈f,h b=none)/\W i n h) ?_ m0 ⟨0,_,(by subst hs3;exact I4),st4,λb hb=>(N b hb).1,w0⟩;rintro n s5 ⟨i,H5,I5,st5,V,w5⟩;refine wpAny_noted ?_;rw[compTurn_list];refine IP (N4 (IP ?_));rcases Z i n H5 w5 with ⟨O,q⟩ |⟨go,step⟩
  .refine thn (T.done (bX X scope cl k t a.heap.objs.size f) rfl rfl rfl hc i [] s5 _ H5 _ I5 (V2 V) st5 O) λr s6 ⟨hr,I6⟩=>?_;subst hr;refine IX ?_;obtain⟨m6,hn6,_⟩:=I6.loc;refine fin _ k.heap.objs.size H5 s6 m6 (Y I6) hn6 I6.free (Mt G.lt) (G.nofs (IV _)) G.sz (λx c e=>?_) (λp hp=>?_) q
   .obtain⟨v,z⟩:=G.cell x c e;exact Jv z.lt
   .exact Jv (Jc (G.pin p hp).1)
  .refine thn (T.item (bX X scope cl k t a.heap.objs.size f) rfl rfl rfl hc i [] s5 _ H5 _ I5 (V2 V) st5 go) λr s6 D=>?_;obtain⟨u,hr,h6⟩:=D;subst hr;refine IP (thn h6 λ_ s7 D=>?_);obtain⟨x,H7,I7,r7,y7,L,fr7⟩:=D;have I7':=I7.pinned (V2 fr7) (T.obj _ _ L);refine IP (K2 (hg _ _ _ _ _ s7 (mask is σ) H7 x u _ I7' r7 (step x H7 y7)) (λ_ s8 D=>?_) λ_ _ z=>z.elim);obtain⟨XR,H8,I8,q8⟩:=D;refine IP (K2 (Q:=TP (bX X scope cl k t a.heap.objs.size f) ([]++ki f s7.heap) XR (El is σ a.heap.objs.size te W i n XR)) (E:=λ_ _=>False) ?_ (λbb s9 ⟨H9,M,sub,q9⟩=>?_) λ_ _ z=>z.elim)
   .rcases ht with ⟨rfl,z⟩ |⟨c,rfl,z⟩
    .exact wpAny_tests_nil ⟨H8,I8,z _ _ _ q8⟩
    .exact wpAny_tests_one (z _ _ _ _ _ s8 XR H8 _ I8 q8)
   have S:∀{h}{j}{Vb},Inv (bX X scope cl k t a.heap.objs.size f) ([]++ki f s7.heap) Vb h j->tn (i+1) j.heap/\∀b∈f,h b=none:=λ{h j Vb} J=>⟨T.keep _ _ _ L λb hb o e=>(J.pin (b,o) (Jf _ (Jf _ (c8 hb e)))).1,λb hb=>by
    obtain⟨o,e,d⟩:=T.obj _ _ L b hb;exact (J.pin (b,o) (Jf _ (Jf _ (c8 hb e)))).2.1⟩
   cases bb with
   |true=>
    simp only[if_true];refine IP (IP (K2 (he _ _ _ _ _ s9 XR H9 _ M q9) (λv s10 D=>?_) λ_ _ z=>z.elim));obtain⟨y,P,I10,r10,vs,U,hz,m',hm,w'⟩:=D;refine IP (K2 (kf (X:=bX X scope cl k t a.heap.objs.size f) _ s10 XR P (.ref a.heap.objs.size) [y] (.ref a.heap.objs.size) [v] (λ_ h=>h=upd P a.heap.objs.size (.lst (vs++[y]))) I10 rfl (.cons r10 .nil) ⟨_,vs,y,rfl,rfl,U,hz,rfl⟩) (λz s11 D=>?_) λ_ _ z=>z.elim);obtain⟨zv,H11,K,_,e11⟩:=D;subst e11;obtain⟨k1,k2⟩:=S K;exact IX (IX ⟨rfl,m',hm,i+1,_,(K.unpinned).weak (by rw[K.len,fI,I.len]) sub,k1,k2,w'⟩)
   |false=>
    simp only[Ju,if_false];obtain⟨m',hm,w'⟩:=q9;obtain⟨k1,k2⟩:=S M
    first
     |exact IX ⟨rfl,m',hm,i+1,_,(M.unpinned).weak (by rw[M.len,fI,I.len]) sub,k1,k2,w'⟩
     |exact IP (IX (IX ⟨rfl,m',hm,i+1,_,(M.unpinned).weak (by rw[M.len,fI,I.len]) sub,k1,k2,w'⟩))
 exact Qo loop (T.self X.A 0 _ _ _ st4 loop)
theorem yQ(k:X.calm=true)(B:cy X scope cl is)
  (hi:PI X tg iter wi) (hg:∀C s H a,PG (aI X scope cl C s H a) tg g) (ht:Tst X scope cl cs tt) (he:∀C s H a,PE (aI X scope cl C s H a) Vx te) (hs:∀x,Kf iter X.env x=pure x):
  PE X (.ListComp Vx [⟨tg,iter,cs,0⟩] scope U4) λσ H Q=>wi σ H (vO is g tt te σ Q):=by
 intro U_ s σ H Q I h;rw[eval_ListComp];refine o8 k B hg ht he hs I (hi U_ s σ H _ I h) λl C n u m f d r j w c p t q=>⟨m,d,λv i=>?_⟩
 exact⟨.ref l,n,f.turned (λb o hb e=>i.extBut b o hb e) r (Ne.symm j.symm) (.inr c) p t,rfl,q⟩
theorem qI(F:X.calm=true)(M:X.N.Nodup)(u:X.N[j]?=some y)(K:Loc X.env.scope y)(B:cy X scope cl is)
  (hi:PI X tg iter wi) (hg:∀C s H c,PG (aI X scope cl C s H c) tg g) (ht:Tst X scope cl cs tt) (he:∀C s H c,PE (aI X scope cl C s H c) Vx te) (hs:∀x,Kf iter X.env x=pure x)
  (Wh:Kw (.ListComp Vx [⟨tg,iter,cs,0⟩] scope U4) (some (.Name y py)) VS.line X.env=pure true) (hf:X.fn y=true\/X.env.scope.names.lookup y=some .local):
  PS X (.Assign [.Name y py] (.ListComp Vx [⟨tg,iter,cs,0⟩] scope U4) VS) (Da (λσ H Q=>wi σ H (vO is g tt te σ Q)) (oX j)):=by
 intro U_ s σ H D I h;rw[QJ _ _ _ _ Wh];refine IP (N4 (IP ?_));refine IP (K2 (o8 F B hg ht he hs I (hi U_ s σ H _ I h) λl C G t m w p J f P k i L q=>?_) (λ_ t E=>IX (IX E)) λ_ _ e=>e);refine Pv (ik w M u K (v:=.ref l) rfl (λR r n=>?_) hf);obtain⟨a,z,ha⟩:=n
 have d:C≠a:=by
  rcases ha with e |e
  .rw[e];exact f
  .exact Ne.symm (i _ _ e)
 refine⟨m,p.sameBut z d,λO A=>⟨_,G,r.turned (λb o hb e=>A.extBut b o hb e) J f (.inr k) i L,q⟩⟩
end
section
variable {X:Cx}{H0:Hp}{O0:List Jt}{E:XK}{ps:PSt}{D:PD}{tg iter cond Vx:Expr}{U4 VS py:Pos}{xs ys:List U}{fs:List (Option U)}{scope:Rx}{cl:List (Str×Jt)}{is:List Nat}{g:TG}{f:PSt→U→PSt}{dom:U→Prop}{cs:List Expr}{y:Str}{j:Nat}
theorem Yl.z{K:IR}(Y:Yl K J G xs):Yz K J G xs:=λb a=>⟨λi c=>⟨((Y b a).1 i c).1,λx d y=>by
 obtain⟨rfl,u,f,r⟩:=((Y b a).1 i c).2 x d y;exact⟨.refl _,u,f,λg _ e=>r.same e⟩⟩,(Y b a).2⟩
theorem EvI.z(h:EvI X H0 O0 ps tg iter xs):EvZ X H0 O0 ps tg iter xs:=PI.mono h λb H R ⟨O,r,q⟩=>⟨O,r,λJ a s Y=>q J a s Y.z⟩
theorem tf(hg:GOk g X.K is f dom)(Vd:fs.length=xs.length)(hz:xs.length<=sizeLine)(VO:∀x∈xs,dom x)
  (ht:(cs=[]/\∀o∈fs,o.isSome=true)\/∃c,cs=[c]/\∀C s H t (i:Nat) (x:U) (o:Option U),xs[i]?=some x->fs[i]?=some o->Tt (aI X scope cl C s H t) H0 O0 (f (c5 is ps) x) c o.isSome)
  (he:∀C s H t (i:Nat) (x y:U),xs[i]?=some x->fs[i]?=some (some y)->Ev (aI X scope cl C s H t) H0 O0 (f (c5 is ps) x) Vx y):
  ∃tt te,Tst X scope cl cs tt/\(∀C s H t,PE (aI X scope cl C s H t) Vx te)/\∀h A O Q J,Rs X.K H0 O0 ps h A O->Yz X.K J (hid A O) xs->
   (∀a n d,aP A d->A a=none->d a=some (.lst n)->Rps X.K (hid d (a::O)) n (fs.filterMap id)->Q (.ref a) d)->vO is g tt te h Q J A:=by
 refine⟨λh H Q=>∃(i:Nat) (x:U) (o:Option U),xs[i]?=some x/\fs[i]?=some o/\∃M,Rs X.K H0 O0 (f (c5 is ps) x) h H M/\∀d,aP H d->Q o.isSome d,λh H Q=>∃i x y,xs[i]?=some x/\fs[i]?=some (some y)/\∃M,Rs X.K H0 O0 (f (c5 is ps) x) h H M/\∀v d,aP H d->Rp X.K (hid d M) v y->Q v d,
  ?_,λC s H t U_ R h d Q I q=>by obtain⟨i,x,y,Z,p,z⟩:=q;exact he C s H t i x y Z p U_ R h d Q I z,λh A O Q J R1 Y P l F=>?_⟩
 .refine ht.imp (λ⟨a,b⟩=>⟨a,λh H Q ⟨i,x,o,_,p,_,_,q⟩=>b o (Jp p) ▸ q H (.refl H)⟩) λ⟨c,a,b⟩=>⟨c,a,λC s H t U_ R h d Q I q=>by obtain⟨i,x,o,Z,p,z⟩:=q;exact b C s H t i x o Z p U_ R h d Q I z⟩
 refine⟨λi m B=>m=xs.length-i/\i<=xs.length/\aP A B/\∃n,B l=some (.lst n)/\n.length<=i/\Rps X.K (hid B (l::O)) n ((fs.take i).filterMap id),⟨_,rfl,JZ _,aQ F _,[],aA,IV _,by rw[NO];exact .nil⟩,?_⟩;rintro i m B ⟨rfl,hi,E,n,p,hv,T⟩;have seen:aP (hid A O) (hid B (l::O)):=bH E F;obtain⟨y1,y2⟩:=Y B (seen.trans aH);by_cases V:i<xs.length
 .obtain⟨g1,g2⟩:=y1 i V;refine .inr ⟨g1,λx H3 y=>?_⟩;obtain⟨L,u,S,r⟩:=g2 x H3 y;have R2:=((R1.mask (is:=is)).hide E F (by rw[p];intro z;cases z)).go L;have h3:=L _ _ p;refine hg H0 O0 _ _ H3 (l::O) x u _ (VO u (Jp S)) R2 (r (l::O) (λb hb z=>by rcases IT.mp hb with k |k;(rw[k,p]at z;cases z);exact R1.dom b k (E.free z)) seen) λXr R4 keep=>?_;obtain⟨o,W⟩:∃o,fs[i]?=some o:=⟨_,IQ (by lia)⟩
  refine⟨i,u,o,S,W,_,R4,λH5 D=>⟨λj w e=>keep j w (jq is h j w e).2 e,?_⟩⟩;have G:=(T.same (aJ L)).same (aJ D);have e:(fs.take (i+1)).filterMap id=(fs.take i).filterMap id++o.toList:=by rw[L7,W,RD,List.filterMap_append];cases o <;>rfl
  cases o with
  |none=>exact qu ⟨xs.length-(i+1),by lia,rfl,V,(E.trans L).trans D,n,D _ _ h3,by lia,by rw[e];simpa using G⟩
  |some yv=>
   refine pU ⟨i,u,yv,S,W,_,R4.go D,λv H6 N r6=>⟨n,N _ _ (D _ _ h3),by lia,xs.length-(i+1),by lia,rfl,V,(((E.trans L).trans D).trans N).put F _,n++[v],aA,by simp;lia,?_⟩⟩;rw[fZ IW,e];exact (G.same (aJ N)).snoc (.cons r6 .nil)
 .have e:i=xs.length:=by lia
  subst e;rw[<-Vd,M4]at T;exact .inl ⟨y2,P l n B E F p T⟩
theorem B_(t:X.calm=true)(B:cy X scope cl is)(A:EvZ X H0 O0 ps tg iter xs)(m:∀C s H b,PG (aI X scope cl C s H b) tg g)(u:GOk g X.K is f dom)(j:fs.length=xs.length)(w:xs.length<=sizeLine)(e:∀x∈xs,dom x)
  (ht:(cs=[]/\∀o∈fs,o.isSome=true)\/∃c,cs=[c]/\∀C s H b (i:Nat) (x:U) (o:Option U),xs[i]?=some x->fs[i]?=some o->Tt (aI X scope cl C s H b) H0 O0 (f (c5 is ps) x) c o.isSome)
  (he:∀C s H b (i:Nat) (x y:U),xs[i]?=some x->fs[i]?=some (some y)->Ev (aI X scope cl C s H b) H0 O0 (f (c5 is ps) x) Vx y)
  (hs:∀x,Kf iter X.env x=pure x):EvN X H0 O0 ps (.ListComp Vx [⟨tg,iter,cs,0⟩] scope U4) (fs.filterMap id):=by
 obtain⟨D,F,z,l,p⟩:=tf u j w e ht he;exact PE.mono (yQ t B A m z l hs) λG H Q ⟨O,R,q⟩=>⟨O,R,λJ E d Y=>p _ _ _ _ _ (R.go d) Y λa k v s n h r=>q a k v (d.trans s) (d.free n) h r⟩
theorem mm(e:Bool)(u:X.calm=true)(A:X.N.Nodup)(p:X.N[j]?=some y)(w:Loc X.env.scope y)(B:cy X scope cl is)
  (hi:EvZ X H0 O0 ps tg iter xs) (hg:∀C s H d,PG (aI X scope cl C s H d) tg g) (gk:GOk g X.K is f dom) (Vd:fs.length=xs.length) (hz:xs.length<=sizeLine) (VO:∀x∈xs,dom x)
  (ht:(cs=[]/\∀o∈fs,o.isSome=true)\/∃c,cs=[c]/\∀C s H d (i:Nat) (x:U) (o:Option U),xs[i]?=some x->fs[i]?=some o->Tt (aI X scope cl C s H d) H0 O0 (f (c5 is ps) x) c o.isSome)
  (he:∀C s H d (i:Nat) (x y:U),xs[i]?=some x->fs[i]?=some (some y)->Ev (aI X scope cl C s H d) H0 O0 (f (c5 is ps) x) Vx y) (h:D.nx (ps.set j (some (if e then .own (fs.filterMap id) else .val (.lst (fs.filterMap id))))))
  (hs:∀x,Kf iter X.env x=pure x) (Wh:Kw (.ListComp Vx [⟨tg,iter,cs,0⟩] scope U4) (some (.Name y py)) VS.line X.env=pure true) (hf:X.fn y=true\/X.env.scope.names.lookup y=some .local):
  W1 X H0 O0 E (.Assign [.Name y py] (.ListComp Vx [⟨tg,iter,cs,0⟩] scope U4) VS) D ps:=by
 obtain⟨G,M,v,q,t⟩:=tf gk Vd hz VO ht he;refine PS.mono (qI u A p w B hi hg v q hs Wh hf) λQ S H ⟨L,O,R⟩=>⟨O,R,λJ I k Y=>t _ _ _ _ _ (R.go k) Y λa P T s n m r=>?_⟩
 cases e with
 |true=>exact L.nx _ _ _ _ ((R.go k).own s n m r) h
 |false=>
  have F:a ∉ O:=λz=>(R.go k).dom a z n;have l:=r.same (aF λb hb=>IS a hb);exact L.nx _ _ _ _ (((R.go k).go s).set (.lst (bV m F) l.len l.at_)) h
theorem fmS(ys:List U):(ys.map some).filterMap id=ys:=by simp[RE]
theorem bP(d:X.calm=true)(B:cy X scope cl is)(h:EvZ X H0 O0 ps tg iter xs)(j:∀C s H a,PG (aI X scope cl C s H a) tg g)(b:GOk g X.K is f dom)
  (Vd:ys.length=xs.length) (hz:xs.length<=sizeLine) (VO:∀x∈xs,dom x) (he:∀C s H a (i:Nat) (x y:U),xs[i]?=some x->ys[i]?=some y->Ev (aI X scope cl C s H a) H0 O0 (f (c5 is ps) x) Vx y)
  (hs:∀x,Kf iter X.env x=pure x:=by intro _;rfl):EvN X H0 O0 ps (.ListComp Vx [⟨tg,iter,[],0⟩] scope U4) ys:=
 fmS ys ▸ B_ d B h j b (by simpa using Vd) hz VO (.inl ⟨rfl,by simp⟩) (λC s H a i x y c e=>he C s H a i x y c (by simpa using e)) hs
theorem f8(a:Bool)(e:X.calm=true)(l:X.N.Nodup)(m:X.N[j]?=some y)(d:Loc X.env.scope y)(B:cy X scope cl is)
  (hi:EvZ X H0 O0 ps tg iter xs) (hg:∀C s H b,PG (aI X scope cl C s H b) tg g) (gk:GOk g X.K is f dom) (Vd:ys.length=xs.length) (hz:xs.length<=sizeLine) (VO:∀x∈xs,dom x)
  (he:∀C s H b (i:Nat) (x y:U),xs[i]?=some x->ys[i]?=some y->Ev (aI X scope cl C s H b) H0 O0 (f (c5 is ps) x) Vx y) (h:D.nx (ps.set j (some (if a then .own ys else .val (.lst ys)))))
  (hs:∀x,Kf iter X.env x=pure x:=by intro _;rfl)
  (Wh:autoParam (Kw (.ListComp Vx [⟨tg,iter,[],0⟩] scope U4) (some (.Name y py)) VS.line X.env=pure true) z0) (hf:autoParam (X.fn y=true\/X.env.scope.names.lookup y=some .local) v3):
  W1 X H0 O0 E (.Assign [.Name y py] (.ListComp Vx [⟨tg,iter,[],0⟩] scope U4) VS) D ps:=
 mm a e l m d B hi hg gk (by simpa using Vd) hz VO (.inl ⟨rfl,by simp⟩) (λC s H b i x y c k=>he C s H b i x y c (by simpa using k)) ((fmS ys).symm ▸ h) hs Wh hf
theorem uE(fs:List (Option U))(a:Bool)(d:X.calm=true)(e:X.N.Nodup)(k:X.N[j]?=some y)(c:Loc X.env.scope y)(B:cy X scope cl is)
  (hi:EvZ X H0 O0 ps tg iter xs) (hg:∀C s H b,PG (aI X scope cl C s H b) tg g) (gk:GOk g X.K is f dom) (Vd:fs.length=xs.length) (hz:xs.length<=sizeLine) (VO:∀x∈xs,dom x)
  (ht:∀C s H b (i:Nat) (x:U) (o:Option U),xs[i]?=some x->fs[i]?=some o->Tt (aI X scope cl C s H b) H0 O0 (f (c5 is ps) x) cond o.isSome)
  (he:∀C s H b (i:Nat) (x y:U),xs[i]?=some x->fs[i]?=some (some y)->Ev (aI X scope cl C s H b) H0 O0 (f (c5 is ps) x) Vx y) (h:D.nx (ps.set j (some (if a then .own (fs.filterMap id) else .val (.lst (fs.filterMap id))))))
  (hs:∀x,Kf iter X.env x=pure x:=by intro _;rfl)
  (Wh:autoParam (Kw (.ListComp Vx [⟨tg,iter,[cond],0⟩] scope U4) (some (.Name y py)) VS.line X.env=pure true) z0) (hf:autoParam (X.fn y=true\/X.env.scope.names.lookup y=some .local) v3):
  W1 X H0 O0 E (.Assign [.Name y py] (.ListComp Vx [⟨tg,iter,[cond],0⟩] scope U4) VS) D ps:=
 mm a d e k c B hi hg gk Vd hz VO (.inr ⟨_,rfl,ht⟩) he h hs Wh hf
end
noncomputable def spU(K:IR)(d:List U->Out->Prop):Sp:=λc H Q E=>∃b O o,(∀a∈O,H a≠none)/\Rps K (hid H O) c b/\d b o/\lQ K H O Q E o
section
variable {X:Cx}{H0:Hp}{O0:List Jt}{E:XK}{ps VB:PSt}{D:PD}{s:LS}{ss:List LS}{a b c e:Expr}{U4 p:Pos}{u x y:U}{xs ys us:List U}{k:Bool}
 {CX:CXT}{n:Nat}{f C:Jt}{fd:LO}{pn:List Str}{Va:List U->Out->Prop}{nm:Str}
theorem EZ(F:bL X.prog X.w X.K X.mg X.base CX n f fd pn (spU X.K Va))(m:bQ n X.A)(l:Gl X nm)(o:X.mg nm=some (.ref f))(j:Lk X.K (.ref f)=true)(g:b7 X.K fd pn [])(d:bO CX X E0)
  (ha:EvA X H0 O0 ps (e::es) us) (h:Va us (.val u)) (Vs:autoParam ((nm==("__debug__":Str))=false) x4) (he:autoParam (IY (e::es) X.env=(false,K0 e X.env)::IY es X.env) z0) (Vk:autoParam ((Kv U4 (IY es X.env)).any (·.1)=false) z0):
  Ev X H0 O0 ps (.Call (.Name nm p) (e::es) [] U4) u:=
 PE.mono (ii F m l o j g .nil d ha Vs he Vk) λt H Q ⟨O,R,q⟩=>⟨O,R,λk i a s=>by
  show spU X.K Va (k++[]) i Q _;rw[Km];exact⟨us,O,.val u,(R.go a).dom,s,h,λv b r c=>q v b (a.trans r) c⟩⟩
theorem FT(F:bL X.prog X.w X.K X.mg X.base CX n f fd pn (spU X.K Va))(s:bQ n X.A)(r:Gl X nm)(t:X.mg nm=some (.ref f))(m:Lk X.K (.ref f)=true)(k:b7 X.K fd pn [])(j:bO CX X E0)
  (ha:EvA X H0 O0 ps (e::es) us) (h:Va us (.new xs)) (Vs:autoParam ((nm==("__debug__":Str))=false) x4) (he:autoParam (IY (e::es) X.env=(false,K0 e X.env)::IY es X.env) z0) (Vk:autoParam ((Kv U4 (IY es X.env)).any (·.1)=false) z0):
  EvN X H0 O0 ps (.Call (.Name nm p) (e::es) [] U4) xs:=
 PE.mono (ii F s r t m k .nil j ha Vs he Vk) λx H Q ⟨O,R,q⟩=>⟨O,R,λc l b v=>by
  show spU X.K Va (c++[]) l Q _;rw[Km];exact⟨us,O,.new xs,(R.go b).dom,v,h,λa c g u d o i=>q a c g (b.trans u) (b.free d) o i⟩⟩
def Xv(X:Cx)(H0:Hp)(O0:List Jt)(E:XK)(ps:PSt)(e:Expr)(C:Jt):Prop:=PE X e λb H _=>∃O,Rs X.K H0 O0 ps b H O/\∀a,aP H a->E (.ref C) none a
theorem F2(F:bL X.prog X.w X.K X.mg X.base CX n f fd pn (spU X.K Va))(l:bQ n X.A)(k:Gl X nm)(m:X.mg nm=some (.ref f))(i:Lk X.K (.ref f)=true)(d:b7 X.K fd pn [])(c:bO CX X E)
  (ha:EvA X H0 O0 ps (e::es) us) (h:Va us (.exc C)) (Vs:autoParam ((nm==("__debug__":Str))=false) x4) (he:autoParam (IY (e::es) X.env=(false,K0 e X.env)::IY es X.env) z0) (Vk:autoParam ((Kv U4 (IY es X.env)).any (·.1)=false) z0):
  Xv X H0 O0 E ps (.Call (.Name nm p) (e::es) [] U4) C:=
 PE.mono (ii F l k m i d .nil c ha Vs he Vk) λs H Q ⟨O,R,q⟩=>⟨O,R,λj g a r=>by
  show spU X.K Va (j++[]) g Q _;rw[Km];exact⟨us,O,.exc C,(R.go a).dom,r,h,λb o=>q b (a.trans o)⟩⟩
theorem BR(b:Xv X H0 O0 E ps e C)(h:D.rt (.exc C))(hs:autoParam (Kw e none U4.line X.env=pure false) z0):W1 X H0 O0 E (.Expr e U4) D ps:=
 PS.mono (ir b hs) λc d H ⟨L,O,R⟩=>⟨O,R,λa s=>L.rt _ h a (R.same.trans s)⟩
theorem FH(b:Xv X H0 O0 E ps e C)(h:D.rt (.exc C)):W1 X H0 O0 E (.Return (some e) U4) D ps:=
 PS.mono (iS b) λc d H ⟨L,O,R⟩=>⟨O,R,λa s=>L.rt _ h a (R.same.trans s)⟩
end
section
variable {P:Jr}{w:J5}{K:IR}{mg:Str→Option Je}{base:Ma}{N pn:List Str}{U8 nm:Str}{scope:Rx}{f:Jt}{cd:Je}{A:Kb}{outer:List Env}{s:Jd}{H H0:Hp}{O0:List Jt}{E:XK}{D:PD}{ps:PSt}{u:U}
theorem vg(a:RF K C [.type "ValueError",.type "Exception",.type "BaseException",.type "object"] "ValueError.__new__"=true)
  (hg:Gl (dG (CXF P w) P w K mg base N U8 scope f cd A outer s H E) x) (hm:mg x=some (.ref C)) (he:Ev (dG (CXF P w) P w K mg base N U8 scope f cd A outer s H E) H0 O0 ps e0 u) (h:D.rt (.exc C))
  (Vp:autoParam (IY [e0] (dG (CXF P w) P w K mg base N U8 scope f cd A outer s H E).env=[(false,K0 e0 (dG (CXF P w) P w K mg base N U8 scope f cd A outer s H E).env)]) z0) (hd:autoParam ((x==("__debug__":Str))=false) x4):
  W1 (dG (CXF P w) P w K mg base N U8 scope f cd A outer s H E) H0 O0 E (.Raise (some (.Call (.Name x np) [e0] [] U5)) none U4) D ps:=
 PS.mono (yn a hg hm he Vp hd) λc d H ⟨L,O,R⟩=>⟨O,R,λv b s r=>L.rt _ h b (R.same.trans s)⟩
noncomputable def ma(N:List Str)(a:List U):PSt:=a.map (λu=>some (.val u))++Jw (N.length-a.length) none
theorem Ee{st:LS}(F:Fun K nm U8 st f fd)(S:aq N pn (ah st))(n:∀b o,Va b o->b.length=pn.length)
  (VJ:∀c A outer s H E O b o,bQ k (A.deeper (NH U8 (ah st) s.heap.objs.size f c))->Va b o->
   Ws (dG (CXF P w) P w K mg base N U8 (ah st) f c A outer s H E) H O E (b9 st) ⟨λ_=>o=.val .non,λp=>p=o,λ_=>False,λ_=>False⟩ (ma N b)):bL P w K mg base (CXF P w) (k+1) f fd pn (spU K Va):=by
 refine F.okF S (λt H Q E h=>?_) λc A outer s H t Q E x h=>?_
 .obtain⟨b,O,o,_,r,m,_⟩:=h;rw[r.len];exact n b o m
 .obtain⟨b,O,o,d,r,m,q⟩:=h;refine⟨_,VJ c A outer s H E O b o x m,⟨λps J y C R e=>?_,λ_ _ _ _ _ e=>e.elim,λ_ _ _ _ _ e=>e.elim,λp e=>by subst e;exact q⟩,O,?_⟩
  .subst e;exact q .non y R.same .non
  .refine⟨.refl H,λa h=>h,λa h=>.inl h,d,?_,λi D e=>?_,λi j G B a l I _ _=>?_⟩
   .unfold start ma;rw[Jl,Jl,IM,IM,KH,KH,r.len]
   .unfold ma at e;by_cases g:i<b.length
    .rw[Jn (by simpa using g),I0,IQ g]at e
     cases e;obtain⟨v,z,u⟩:=r.get (IQ g);refine⟨v,?_,u⟩;unfold start;rw[Jn (by simpa [r.len] using g),I0,z];rfl
    .rw[Jo (by simpa using g),Lo]at e
     split at e <;>cases e
   .exfalso
    unfold ma at l;by_cases g:i<b.length
    .rw[Jn (by simpa using g),I0,IQ g]at l
     cases l
    .rw[Jo (by simpa using g),Lo]at l
     split at l <;>cases l
end
section
variable {X:Cx}{H0:Hp}{O0:List Jt}{ps:PSt}{a b c e:Expr}{rest:List Expr}{U4 p p2:Pos}{u x y:U}{xs ys us:List U}{i j:Int}{k m:Bool}{lo hi:Option Expr}{l h:Option Int}
def EvO(X:Cx)(H0:Hp)(O0:List Jt)(ps:PSt)(e:Option Expr)(n:Option Int):Prop:=PO X e λb H Q=>∃O,Rs X.K H0 O0 ps b H O/\∀a,aP H a->Q n a
theorem cT:EvO X H0 O0 ps none none:=λb s a H Q I ⟨O,R,q⟩=>Dv b s a H Q I (q H (.refl H))
theorem c3(b:Ev X H0 O0 ps e (.int i)):EvO X H0 O0 ps (some e) (some i):=λd s c H Q I ⟨O,R,q⟩=>Cl b d s c H Q I ⟨O,R,λv a s r=>by cases r;exact⟨i,rfl,q a s⟩⟩
noncomputable def gH(xs:List U)(lo hi:Option Int):List U:=(xs.drop (HT.sIx xs.length 0 lo)).take (HT.sIx xs.length xs.length hi-HT.sIx xs.length 0 lo)
theorem Rps.drop{K:IR}(r:Rps K H vs xs)(n):Rps K H (vs.drop n) (xs.drop n):=⟨by simp[r.len],λi v x a b=>r.at_ _ v x (by rwa [Na]at a) (by rwa [Na]at b)⟩
theorem Rps.take{K:IR}(r:Rps K H vs xs)(n):Rps K H (vs.take n) (xs.take n):=⟨by simp[r.len],λi v x a b=>by
 by_cases c:i<n
 .rw[LP c]at a b;exact r.at_ i v x a b
 .rw[List.getElem?_take_eq_none (by lia)]at a
  cases a⟩
theorem Rps.cut{K:IR}(r:Rps K H vs xs):Rps K H (BF vs l h) (gH xs l h):=by
 unfold BF gH;rw[r.len];exact (r.drop _).take _
theorem cA(t:Ev X H0 O0 ps e x)(f:EvO X H0 O0 ps lo l)(c:EvO X H0 O0 ps hi h)(r:x=.lst xs\/x=.scr xs):EvN X H0 O0 ps (.Subscript e (.Slice lo hi none p2) U4) (gH xs l h):=
 PE.mono (su DI t f c) λz H Q ⟨O,R,q⟩=>⟨O,R,λv m i o=>⟨O,R.go i,λw n=>⟨O,R.go (i.trans n),λy u=>by
  have k:∃a j,v=.ref a/\SqL X.K (hid m O) a j/\Rps X.K (hid m O) j xs:=by
   rcases r with rfl |rfl
   .cases o with
    |lst d f c=>exact⟨_,_,rfl,SqL.of d,f,c⟩
   .cases o with
    |scr d f c=>exact⟨_,_,rfl,d,f,c⟩
  obtain⟨a,j,rfl,d,s⟩:=k;have b:=n.trans u;refine⟨a,j,rfl,b.seq (aH.seq d),λp g=>q p _ _ ((i.trans b).trans (aQ g _)) ((i.trans b).free g) aA ?_⟩;exact (s.cut.same (aJ b)).same (bH (aQ g _) g)⟩⟩⟩
theorem mV(l:Ev X H0 O0 ps a (.lst xs))(i:Ev X H0 O0 ps b (.lst ys))(m:xs.length+ys.length<=sizeLine):EvN X H0 O0 ps (.BinOp a .Add b U4) (xs++ys):=
 PE.mono (o0 Fr l i) λo H Q ⟨O,R,q⟩=>two R (λ_ _ _ z=>z) (λ_ _ _ z=>z) λv w r s _ n h=>by
  cases n with
  |lst k f j=>
   cases h with
   |lst g e d=>
    refine⟨_,_,_,_,rfl,rfl,aH _ _ k,aH _ _ g,by rw[f,e];exact m,λp c=>q p _ _ (s.trans (aQ c _)) (s.free c) aA ?_⟩;exact (Rps.snoc ⟨f,j⟩ ⟨e,d⟩).same (bH (aQ c _) c)
noncomputable def fl:U->V
 | .bl b=>.bl b | .int i=>.int i | .str x=>.str x |_=>.non
noncomputable def BG:U->Bool
 | .bl _=>true | .int _=>true | .str _=>true | .non=>true |_=>false
theorem fl_of{K:IR}(h:Rp K H v u)(f:BG u=true):v=fl u/\iJ v=true:=by
 cases h <;>first |exact⟨rfl,rfl⟩ |cases f
theorem zd{K:IR}:∀{vs}{xs},Rps K H vs xs->xs.all BG=true->vs=xs.map fl/\vs.all iJ=true
 |vs,[],r,_=>by rw[r.nil_inv];exact⟨rfl,rfl⟩
 |vs,x::xs,r,f=>by
  obtain⟨v,h,rfl,d,e⟩:=r.cons_inv;simp only[OT,KU]at f;obtain⟨a,b⟩:=fl_of d f.1;obtain⟨c,g⟩:=zd e f.2;refine⟨by rw[JF,<-a,<-c],?_⟩;simp only[OT,KU];exact⟨b,g⟩
theorem Bn(e:BG x=true)(r:y.items=some ys)(d:ys.all BG=true):OpS X (Kc .In) x y (.bl (inV (fl x) (ys.map fl))):=by
 intro u s n H v w p q Q I z f h;obtain⟨m,b,t⟩:=h;obtain⟨a,k,rfl,o,l⟩:=wu b r;obtain⟨g,j⟩:=fl_of m e;obtain⟨i,c⟩:=zd l d;exact xV u s n H v _ p q Q I z f ⟨a,k,rfl,o,j,c,by rw[g,i];exact t⟩
theorem Ez{bs:List Bool}(L:X.calm=true):e9 X (.builtin "all") [.lst (bs.map U.bl)] (.bl (bs.all id)):=by
 intro U_ s Z H Y us Q I r f;obtain⟨O,d,F,q⟩:=f;obtain⟨v,rfl,N⟩:=cW F;obtain⟨p1,rfl,P⟩:=d8 r;cases N with
 | @lst a k _ f K G=>
  cases P;obtain⟨its,c,g,_⟩:=I.list (SqL.of (aH _ _ f));have p:its.length=bs.length:=by rw[<-c.length,K,IM]
  have D:∀(i:Nat) z,its.toArray[i]?=some z->z=.bool (bs.getD i false):=λi z e=>by
   have hi:i<its.length:=by have:=aN (show its[i]?=some z by simpa using e);exact this
   have hb:i<bs.length:=by lia
   have n:i<k.length:=by rw[c.length];exact hi
   obtain⟨u,l,J⟩:=c.get (IQ n);have B:=G i k[i] (.bl bs[i]) (IQ n) (by rw[I0,IQ hb];rfl);have t:its[i]?=some z:=by simpa using e
   rw[t]at l;cases l;generalize k[i]=S at *;cases B;rw[Jx,IQ hb];exact J
  refine call_all_walk (MP g.isList ?_);have M:a≠s.heap.objs.size:=by obtain⟨o,e,_⟩:=g.isList;exact Jv (Jc e)
  refine⟨s.heap.objs.size,_,_,_,_,_,λi=>bs.getD i false,rfl,Walks.list (A:=X.A.in1) (I.ok.hd L) s.heap.objs.size a M its.toArray,⟨⟨_,Jm _ rfl,rfl,rfl⟩,g.isList.push _⟩,λi z V T R E w=>?_,λW tk C=>?_⟩
  .rw[D i z E];exact Li w
  .have e:(J3 its.toArray.size).all (λi=>bs.getD i false)=bs.all id:=by
    rw[JG,p,N8,oM,M3];constructor
    .intro h x y;obtain⟨i,hi,rfl⟩:=KJ y;have:=h i hi
     rwa [Jx,IQ hi]at this
    .intro h j m;rw[Jx,IQ m];exact h _ (Ka m)
   rw[e];refine⟨.bl _,H,I.kept λb o e=>C b o ?_ (IU _ e),rfl,q _ H (.refl H) (.bl _)⟩;intro z;have:b=s.heap.objs.size:=by simpa using z
   exact absurd (Jc e) (by rw[this];exact JY _)
end
theorem Ws.nox(h:Ws X.nox H0 O0 E ss D ps):Ws X H0 O0 E ss D ps:=PSs.nox h
theorem bL.calm{K:IR}(F:bL P w K mg base (CXF P w) k f fd ps sp)(h:∀c H Q E,sp c H Q E->sp c H Q E0):bL P w K mg base CX0 k f fd ps sp:=by
 refine⟨F.len,λA a s H b m c Q E i l hb d g=>Nf (F.run A a s H b m c Q E0 i l hb d (h _ _ _ _ g)) λr n q=>?_⟩;cases r with
 |ok fl=>
  cases fl with
  |ret u=>exact q
  |next=>exact q
  |brk=>exact q
  |cont=>exact q
 |error e=>
  obtain⟨_,_,_,_,_,_,_,_,_,_,_,_,_,_,_,j⟩:=q;exact j.elim
def jx:List U->Out->Prop:=λb o=>∃a:List Int,b=[.scr (a.map U.int)]/\a.length<=63/\(∀m∈a,Sz 1048576 m)/\o=.val (.bl true)
theorem yB{K:IR}(vs)(H)(Q)(E)(h:spU K jx vs H Q E):spU K jx vs H Q E0:=by
 obtain⟨c,O,o,d,r,⟨e,a,b,f,rfl⟩,q⟩:=h;exact⟨c,O,_,d,r,⟨e,a,b,f,rfl⟩,q⟩
theorem yb{K:IR}{ns:List Int}(h:ns.length<=63)(f:∀m∈ns,Sz 1048576 m)(g:SqL K H a (ns.map V.int)):spU K jx [.ref a] H (λv _=>v=.bl true) E:=by
 refine⟨[.scr (ns.map U.int)],[],.val (.bl true),λa ha=>(nomatch ha),.cons ?_ .nil,⟨ns,rfl,h,f,rfl⟩,λv j s r=>by cases r;rfl⟩;have e:hid H []=H:=by funext b;unfold hid;rw[if_neg (by simp)]
 rw[e];refine .scr g (by simp) λi v x c d=>?_;rw[I0]at c d;cases q:ns[i]? with
 |none=>rw[q]at c;cases c
 |some n=>rw[q]at c d;cases c;cases d;exact .int n
theorem cG(a:bQ k A):A.units+10<Mu:=by have:=a.un;lia
theorem A3{ns:List Int}(b:0<=k)(h:k<(ns.length:Int)):atI (ns.map U.int) k=some (.int (ns.getD k.toNat 0)):=by
 have a:k.toNat<ns.length:=by lia
 have q:atI (ns.map U.int) ((k.toNat:Nat):Int)=some (.int (ns.getD k.toNat 0)):=vK (by rw[I0,Jx,IQ a] <;>rfl)
 rwa [show ((k.toNat:Nat):Int)=k by lia]at q
theorem B5{ns:List Int}(h:∀m∈ns,Sz 1048576 m)(i):Sz 1048576 (ns.getD i 0):=by
 by_cases a:i<ns.length
 .rw[Jx,IQ a,OG];exact h _ (Ka a)
 .rw[Jx,J_ (by lia),Qe];exact Sz.mono (m:=8) (by decide) (by decide)
noncomputable abbrev pt(x y:Int):U:=.tup [.int x,.int y]
theorem dTb[Decidable p](h:decide p=true):p:=of_decide_eq_true h
theorem dFb[Decidable p](h:decide p=false):¬ p:=of_decide_eq_false h
theorem nTb[Decidable p](h:(!decide p)=true):¬ p:=by simpa using h
theorem nFb[Decidable p](h:(!decide p)=false):p:=by simpa using h
theorem vB(h:a=b):Out.val (.bl a)=Out.val (.bl b):=by rw[h]
theorem vIO(h:a=b):Out.val (.int a)=Out.val (.int b):=by rw[h]
mutual
theorem jA:∀n u,okU n u=true->eqW u u=true
 |_,.non,_=>rfl
 |_,.bl b,_=>beq_self_eq_true b
 |_,.int b,_=>beq_self_eq_true b
 |_,.str b,_=>beq_self_eq_true b
 |n+1,.tup a,h=>eqWs_refl n a h
 |n+1,.lst a,h=>eqWs_refl n a h
 |n+1,.scr a,h=>eqWs_refl n a h
theorem eqWs_refl:∀n a,okUs n a=true->eqWs a a=true
 |_,[],_=>rfl
 |n,x::a,h=>by
  simp only[okUs,KU]at h;exact OO.mpr ⟨jA n x h.1,eqWs_refl n a h.2⟩
end
theorem yT{α:Type}{f:α->U}{l:List α}(h:∀a∈l,okU n (f a)=true):okUs n (l.map f)=true:=by
 induction l with
 |nil=>rfl
 |cons a l c=>
  rw[JF,okUs,KU];exact⟨h a IW,c λb hb=>h b (IS _ hb)⟩
theorem AE{α:Type}{f:α->U}{l:List α}(h:∀a,okU n (f a)=true):okU (n+1) (.lst (l.map f))=true:=yT λa _=>h a
theorem qX{α:Type}{f:α->U}{p:α->α->Prop}[DecidableEq α](c:∀a b,eqW (f a) (f b)=decide (a=b)):∀(l m:List α),eqWs (l.map f) (m.map f)=decide (l=m)
 |[],[]=>rfl
 |[],_::_=>rfl
 |_::_,[]=>rfl
 |a::l,b::m=>by
  show (eqW (f a) (f b) && eqWs (l.map f) (m.map f))=_;rw[c,qX (p:=p) c l m,N8];simp
section
variable {X:Cx}{H0:Hp}{O0:List Jt}{E:XK}{ps:PSt}{D:PD}{a b c e:Expr}{rest:List Expr}{U4:Pos}{k:Bool}
theorem bz(b:Tt X H0 O0 ps c k)(a:k=true)(h:Ws X H0 O0 E tb D ps):W1 X H0 O0 E (.If c tb fb U4) D ps:=j_ b (λ_=>h) (λe=>by rw[a]at e;cases e)
theorem aG(b:Tt X H0 O0 ps c k)(a:k=false)(h:Ws X H0 O0 E fb D ps):W1 X H0 O0 E (.If c tb fb U4) D ps:=j_ b (λe=>by rw[a]at e;cases e) (λ_=>h)
theorem nv(d:Tt X H0 O0 ps a k)(c:k=false):Tw X H0 O0 ps (.BoolOp .And (a::b::rest) U4) false:=by
 subst c;exact eE (m:=true) d λh=>by cases h
end
section
variable {X:Cx}{H0:Hp}{O0:List Jt}{E:XK}{ps:PSt}{D:PD}{tg iter c:Expr}{U4:Pos}{xs:List U}{α:Type}
theorem TgS.sub(h:TgS X H0 O0 tg p u VB)(hs:SubP p p'):TgS X H0 O0 tg p' u VB:=PG.mono h λv a H Q ⟨O,R,r,q⟩=>⟨O,R.sub hs,r,q⟩
theorem Tt.sub(h:Tt X H0 O0 p e k)(hs:SubP p p'):Tt X H0 O0 p' e k:=PT.mono h λa H Q ⟨O,R,q⟩=>⟨O,R.sub hs,q⟩
theorem fh(st:α->PSt)(Q:Nat->α->Prop)(h:X.calm=true)(g:Qz (JE X.prog X.w) X.A X.env X.xe)(j:EvI X H0 O0 ps tg iter xs)(k:∃a,Q 0 a/\SubP (st a) ps)
  (hs:∀H0 i x (a:α),xs[i]?=some x->Q i a->∃c,TgS X H0 O0 tg (st a) x c/\Ws X H0 O0 E Vh {D with nx:=λp=>∃b,Q (i+1) b/\SubP (st b) p,ct:=λp=>∃b,Q (i+1) b/\SubP (st b) p,bk:=D.nx } c)
  (hd:∀a ps,Q xs.length a->SubP (st a) ps->D.nx ps) (hf:∀x,Kf iter X.env x=pure x:=by intro _;rfl):W1 X H0 O0 E (.For tg iter Vh [] U4) D ps:=
 GO h g j (λi ps=>∃a,Q i a/\SubP (st a) ps) k (λH0 i x ps f e=>by
  obtain⟨a,q,d⟩:=e;obtain⟨c,t,w⟩:=hs H0 i x a f q;exact⟨c,t.sub d,w⟩) (λps ⟨a,q,d⟩=>hd a ps q d) hf
theorem gK(st:α->PSt)(Q:Nat->α->Prop)(n:Qz (JE X.prog X.w) X.A X.env X.xe)(s:∃m a,Q m a/\SubP (st a) ps)
  (hs:∀m a,Q m a->∃b,Tt X H0 O0 (st a) c b/\(b=true->Ws X H0 O0 E Vh {D with nx:=λp=>∃d f,d<m/\Q d f/\SubP (st f) p,ct:=λp=>∃d f,d<m/\Q d f/\SubP (st f) p,bk:=D.nx } (st a))/\(b=false->∀ps,SubP (st a) ps->D.nx ps)):W1 X H0 O0 E (.While c Vh [] U4) D ps:=by
 obtain⟨m,a,q,h⟩:=s;refine CY n (λm ps=>∃a,Q m a/\SubP (st a) ps) m ⟨a,q,h⟩ λm ps k=>?_;obtain⟨a,q,h⟩:=k;obtain⟨b,t,r,o⟩:=hs m a q;refine⟨b,t.sub h,λe=>?_,λe=>o e ps h⟩;refine c4 (PSs.mono (r e) λu i H ⟨L,O,R⟩=>⟨⟨λp i H O R ⟨d,f,l,j,g⟩=>L.nx p i H O R ⟨d,l,f,j,g⟩,L.bk,λp i H O R ⟨d,f,l,j,g⟩=>L.ct p i H O R ⟨d,l,f,j,g⟩,L.rt⟩,O,R⟩) h
end
noncomputable abbrev P2:=Int×Int
noncomputable abbrev pu(p:P2):U:=.tup [.int p.1,.int p.2]
noncomputable abbrev lp(l:List P2):U:=.lst (l.map pu)
theorem Fd(p q):eqW (pu p) (pu q)=decide (p=q):=by
 obtain⟨a,b⟩:=p;obtain⟨c,d⟩:=q;show (a==c && (b==d && true))=_;rw[N8];simp
theorem EA(l m):eqW (lp l) (lp m)=decide (l=m):=qX (p:=λ_ _=>True) Fd l m
theorem GP(l):okU 9 (lp l)=true:=AE λ_=>rfl
theorem iZ{l:List P2}{i:Nat}(h:(l.map pu)[i]?=some x):∃p,l[i]?=some p/\p∈l/\x=pu p:=by
 rw[I0]at h;cases q:l[i]? with
 |none=>rw[q]at h;cases h
 |some p=>rw[q]at h;cases h;exact⟨p,rfl,Jp q,rfl⟩
theorem bT{α:Type}{l:List α}{f:α->U}{g:α->U}{i:Nat}(b:(l.map f)[i]?=some x)(c:(l.map g)[i]?=some y):∃a,l[i]?=some a/\a∈l/\x=f a/\y=g a:=by
 rw[I0]at b c;cases q:l[i]? with
 |none=>rw[q]at b;cases b
 |some p=>rw[q]at b c;cases b;cases c;exact⟨p,rfl,Jp q,rfl,rfl⟩
theorem W1.mono(h:W1 X H0 O0 E s {D with nx:=J } ps)(m:∀ps,J ps->D.nx ps):W1 X H0 O0 E s D ps:=
 PS.mono h λb a H ⟨L,O,R⟩=>⟨⟨λp a H O R q=>L.nx p a H O R (m p q),L.bk,L.ct,L.rt⟩,O,R⟩
theorem iW(J)(b:W1 X H0 O0 E s {D with nx:=J } ps)(a:∀ps,J ps->Ws X H0 O0 E ss D ps):Ws X H0 O0 E (s::ss) D ps:=
 ae (W1.mono b a)
end L2
namespace PySem.W
open PySem PySem.Spec PySem.Calls PyProof.Rows
theorem tQ{K:Frag}(X:K.In s.heap)(I:OfCls x C s.heap)(b:typeIn K (.ref B)=some (.type "type"))(f:(clsIn K B).isSome=true)
  (hB:mroIn K B (.type "BaseException")=some true) (hC:mroIn K C (.ref B)=some true) (h:Q true s):JN M A (excMatches (.ref x) (.ref B)) Q E s:=by
 have w:Looks M s.heap (UR (.ref x)) (.ref C):=I.type;have i:Looks M s.heap (UR (.ref B)) (.type "type"):=looks_typeIn X b;have G:Looks M s.heap (R9 (.ref B) (.type "tuple")) false:=i.andThen (Looks.of_pure tc_notTuple);have F:Looks M s.heap (isSubtype (.ref B) (.type "BaseException")) true:=looks_mroIn X hB;have l:Looks M s.heap (isSubtype (.ref C) (.ref B)) true:=looks_mroIn X hC
 have o:Looks M s.heap (isType (.ref B)) true:=by
  obtain⟨j,a⟩:=KG.mp f;unfold clsIn at a;split at a
  .rename_i u n d c e
   intro v r m y k q;unfold isType loadHead;exact IP (Rf (k _ _ (X _ _ e)) (IX q))
  .cases a
 obtain⟨z,g,D,t,p⟩:=s;unfold excMatches isExcClass
 repeat (first |lk |wp_step)
 exact h
end PySem.W
namespace L2
open PySem PySem.Spec PySem.W PyProof.Rows
section
variable {X:Cx}{U_:List (Jt×Obj)}{σ:St}{H:Hp}{s:Jd}
theorem lI(I:Inv X U_ σ H s)(hN:X.N.Nodup)(F:X.N[i]?=some x)(O:X.env.kindOf x=some .local)
  (h:∀C,Inv X U_ (σ.set i none) H C->Q () C):JN M A (do bindName X.env x .none;unbindBehindTheSuite X.env x U4) Q E s:=by
 obtain⟨m,K,V⟩:=id I.loc;have g:(X.env.scope.kind==.class || (X.env.scope.kind==.module && X.env.locals !=X.env.globals))=false:=by rw[I.ok.kind];rfl
 have Xz:i<σ.length:=by rw[I.len];exact (I_.mp F).1
 have cne:=I.cne;refine wpAny_nameGoes_keeps O K g λT v Y a=>?_
 have U:HOk X.prog X.w H T:=λb J e=>by
  refine (I.hok b J e).stay (λc B t q=>(a.2 c ?_).trans q) (λ_ q=>q) λ_ _ q=>q;rintro rfl;rcases t with z |t
  .rw[<-z,I.free]at e;cases e
  .rw[I.free]at t;cases t
 refine h _ ⟨I.ok,I.os,I.bare,⟨λb o e n hb l=>?_,λb o e n hb l=>?_,I.base.free,λb o e l=>?_,I.base.tups,I.base.frzs,I.base.tbls⟩,⟨_,Y,λj y v' f r L=>?_⟩,λy c e=>?_,I.free,I.freeC,λp R=>?_,U,by simpa using I.len⟩
 .exact (a.2 b (Jv (IZ (Jc e) I.ok.above))).trans (I.base.keep b o e n hb l)
 .obtain⟨S,f⟩:=I.base.slot b o e n hb l;exact⟨S,(a.2 b (Jv (IZ (Jc e) I.ok.above))).trans f⟩
 .obtain⟨P,f⟩:=I.base.there b o e l;exact⟨P,(a.2 b (Jv (IZ (Jc e) I.ok.above))).trans f⟩
 .by_cases u:j=i
  .subst u;rw[Ob Xz]at r;cases r
  .rw[JA (Ne.symm u)]at r;obtain⟨Z,G,q⟩:=V j y v' f r L;refine⟨Z,G,?_⟩;rcases q with ⟨k,e⟩ |⟨k,c,e,z⟩
   .refine .inl ⟨k,?_⟩;have:y≠x:=λe=>u (l7 hN f (e ▸ F));simp[this,e]
   .exact .inr ⟨k,c,e,z.sameBut a (cne y c e)⟩
 .obtain⟨B,z⟩:=I.cell y c e;exact⟨B,z.sameBut a (cne y c e)⟩
 .obtain⟨e,n,D,W,d⟩:=I.pin p R;exact⟨(a.2 p.1 D).trans e,n,D,W,d⟩
theorem AU{i:List Jt}{j g:Hp}{h k:Ma}{c:Jt}{o:HO}(u:Un i [] j g h k)(r:h.get? c=none)(f:g c=none):Un i [] j (upd g c o) h k where
 keep:=u.keep
 slot:=u.slot
 free:=λb a e n l=>by
  rw[aC λz=>by subst z;rw[r]at e;cases e];exact u.free b a e n l
 there:=u.there
 tups:=λb d e=>by have q:=u.tups b d e;rw[aC (bN q f)];exact q
 frzs:=λb a d e=>by have q:=u.frzs b a d e;rw[aC (bN q f)];exact q
 tbls:=λb p e=>by obtain⟨m,q⟩:=u.tbls b p e;exact⟨m,by rw[aC (bN q f)];exact q⟩
theorem wJ(d:HOk P w H' h)(j:H' ea=none)(I:OfCls ea C h):HOk P w (upd H' ea (.ext (OfCls ea C))) h:=λa o e=>by
 by_cases z:a=ea
 .subst z;rw[aA]at e;cases e;obtain⟨f,b,l⟩:=id I;exact⟨I,⟨f,b⟩,λm n ⟨g,k,i⟩ c=>⟨g,c _ k,i⟩⟩
 .rw[aC z]at e;refine (d a o e).stay (λ_ _ _ q=>q) (λ_ q=>?_) λ_ _ q=>?_
  all_goals (first | (rw[aC (bN q j)];exact q) |trace_state)
end
section
variable {X:Cx}
noncomputable def sV.drop(D:sV)(i:Nat):sV:=⟨λa H=>D.nx (a.set i none) H,D.rt,λa H=>D.bk (a.set i none) H,λa H=>D.ct (a.set i none) H⟩
variable {H0:Hp}{O0:List Jt}{E:XK}{ps:PSt}{D:PD}{a e:Expr}{es:List Expr}{us:List U}{k:Bool}{n:Nat}{fd:LO}{pn:List Str}{Va:List U→Out→Prop}
theorem AJ:cB X (.builtin "isinstance") (λb H Q=>∃a C D k,b=[.ref a,.ref D]∧H a=some (.ext (OfCls a C))∧XcOk X.K C∧kitOne X.K (.ref C) (.ref D)=some k∧Q (.bl k) H):=by
 intro l s i H b us Q I r h;obtain⟨a,C,D,k,rfl,ha,d,e,q⟩:=h;obtain⟨u,g,rfl,f,c⟩:=i_ r;cases f;cases c;exact Ks d.kit I.kIn (I.hok _ _ ha).1 e (λz=>nomatch z) λj=>⟨.bl k,H,I.tok _,rfl,q⟩
theorem vU(h:kitOne X.K (.ref C) (.ref D')=some k)(j:Gl X "isinstance")(m:X.mg "isinstance"=none)(d:KZ "isinstance"=some (.builtin "isinstance"))(i:Ev X H0 O0 ps a (.ty (.xc C)))(b:Gl X nm)(c:X.mg nm=some (.ref D'))
  (hd:autoParam ((nm==("__debug__":Str))=false) x4)
  (he:autoParam (IY [a,.Name nm p2] X.env=(false,K0 a X.env)::IY [.Name nm p2] X.env) z0) (he2:autoParam (IY [.Name nm p2] X.env=(false,K0 (.Name nm p2) X.env)::IY [] X.env) z0) (Vk:autoParam ((Kv U4 (IY [.Name nm p2] X.env)).any (·.1)=false) z0):
  Ev X H0 O0 ps (.Call (.Name "isinstance" p) [a,.Name nm p2] [] U4) (.bl k):=
 PE.mono (jE AJ j m d (a9 i (a9 (je (v:=.ref D') b c rfl hd) cC he2) he) (by decide) (by decide) he Vk) λo H Q ⟨O,R,q⟩=>⟨O,R,λv e f n=>by
  cases n with
  |xc l g=>exact⟨_,_,_,k,rfl,aH _ _ l,g,h,q _ e f (.bl k)⟩⟩
noncomputable def PD.drop(D:PD)(i:Nat):PD:=⟨λp=>D.nx (p.set i none),D.rt,λp=>D.bk (p.set i none),λp=>D.ct (p.set i none)⟩
theorem Lf.drop{K:Frag}(L:Lf K H0 O0 E D D')(i):Lf K H0 O0 E (D.drop i) (D'.drop i):=
 ⟨λps a H O R h=>L.nx _ _ H O R.drop h,λps a H O R h=>L.bk _ _ H O R.drop h,λps a H O R h=>L.ct _ _ H O R.drop h,L.rt⟩
end
end L2
namespace L2
open PySem
theorem aU:IY (.Constant c j U4::es) env=(false,K0 (.Constant c j U4) env)::IY es env:=rfl
theorem Ak:IY (.Tuple l j U4::es) env=(false,K0 (.Tuple l j U4) env)::IY es env:=rfl
theorem Gb:IY (.UnaryOp o a U4::es) env=(false,K0 (.UnaryOp o a U4) env)::IY es env:=rfl
theorem bh:IY (.BinOp a o b U4::es) env=(false,K0 (.BinOp a o b U4) env)::IY es env:=rfl
theorem ai:IY (.Name x U4::es) env=(false,K0 (.Name x U4) env)::IY es env:=rfl
theorem aT:IY (.Subscript a b U4::es) env=(false,K0 (.Subscript a b U4) env)::IY es env:=rfl
theorem aR:IY (.Call f a k U4::es) env=(false,K0 (.Call f a k U4) env)::IY es env:=rfl
theorem qc:IY (.Compare a o c U4::es) env=(false,K0 (.Compare a o c U4) env)::IY es env:=rfl
theorem ce:IY (.ListComp e g sc U4::es) env=(false,K0 (.ListComp e g sc U4) env)::IY es env:=rfl
structure EvS(X:Cx)(H0:Hp)(O0:List Jt)(ps:PSt)(es:List Expr)(us:List U):Prop where
 a:EvA X H0 O0 ps es us
section
variable {X:Cx}{H0:Hp}{O0:List Jt}{ps:PSt}{e:Expr}{es:List Expr}{u:U}{us:List U}{U4:Pos}
theorem a_:EvS X H0 O0 ps [] []:=⟨aj⟩
theorem ao(c:Ev X H0 O0 ps e u)(b:EvS X H0 O0 ps es us)(hs:IY (e::es) X.env=(false,K0 e X.env)::IY es X.env):EvS X H0 O0 ps (e::es) (u::us):=⟨ag c b.a hs⟩
theorem bF{x1}(h:EvS X H0 O0 ps es us)(b:us.length<=sizeLine:=by first |decide | (simp only[Ji,MR];decide)):Ev X H0 O0 ps (.Tuple es x1 U4) (.tup us):=GN h.a b
theorem cn(h:EvS X H0 O0 ps es us)(b:us.length<=sizeLine:=by first |decide | (simp only[Ji,MR];decide)):EvN X H0 O0 ps (.List es U4) us:=GC h.a b
end
end L2
namespace ST
open PySem PySem.SetTable
def Ris(xs:Array Nat):Prop:=∀(i j x y:Nat),i<j->xs[i]?=some x->xs[j]?=some y->x<y
theorem Ris.inj(h:Ris xs){i j x:Nat}(a:xs[i]?=some x)(b:xs[j]?=some x):i=j:=by
 rcases Nv i j with z |z |z
 .exact absurd (h i j x x z a b) (JY _)
 .exact z
 .exact absurd (h j i x x z b a) (JY _)
theorem eV{xs:Array Nat}(h:i<xs.size):xs[i]?=some xs[i]:=by simp[h]
theorem vm{xs:Array Nat}(h:xs[i]?=some x):i<xs.size:=(Kx.mp h).1
theorem B3(R:Ris xs)(j):∀d b a,b<=a->a<=xs.size->a-b<=d->(∀i x,i<b->xs[i]?=some x->x<j)->(∀i x,a<=i->xs[i]?=some x->j<=x)->
  (∀(i x:Nat),i<below.go xs j d b a->xs[i]?=some x->x<j)/\(∀(i x:Nat),below.go xs j d b a<=i->xs[i]?=some x->j<=x)/\below.go xs j d b a<=xs.size:=by
 intro p
 induction p with
 |zero=>
  intro b a r k q h l;have e:b=a:=by lia
  subst e;rw[below.go];exact⟨h,l,k⟩
 |succ d m=>
  intro b a r k q h l;rw[below.go];by_cases o:b<a
  .rw[if_pos o];have g:(b+a)/2<xs.size:=by lia
   have e:xs.getD ((b+a)/2) j=xs[(b+a)/2]:=by simp[Nw,g]
   simp only[e];split
   .rename_i f
    refine m _ a (by lia) k (by lia) (λi x n c=>?_) l;rcases JD (show i<=(b+a)/2 by lia) with z |z
    .exact J6 (R i _ x _ z c (eV g)) f
    .subst z;rw[eV g]at c;cases c;exact f
   .rename_i f
    refine m b _ (by lia) (by lia) (by lia) h (λi x n c=>?_);rcases JD n with z |z
    .exact Jy (Lv f) (Ja (R _ i _ x z (eV g) c))
    .subst z;rw[eV g]at c;cases c;exact Lv f
  .rw[if_neg o];have e:b=a:=by lia
   subst e;exact⟨h,l,k⟩
theorem f9(R:Ris xs)(j):(∀i x,i<below xs j->xs[i]?=some x->x<j)/\(∀i x,below xs j<=i->xs[i]?=some x->j<=x)/\below xs j<=xs.size:=
 B3 R j xs.size 0 xs.size (JZ _) (IV _) (by lia) (λi x h=>absurd h (Mj _)) (λi x h e=>absurd (vm e) (by lia))
theorem z_(R:Ris xs)(h:xs[i]?=some j):below xs j=i:=by
 obtain⟨b,c,d⟩:=f9 R j;rcases Nv (below xs j) i with z |z |z
 .have a:=J6 z (vm h);have:=c _ _ (IV _) (eV a);have:=R _ _ _ _ z (eV a) h;lia
 .exact z
 .have:=b i j z h;lia
theorem oo{t:SetTable}(R:Ris t.place)(h:t.place[i]?=some j):t.slot j=.live i:=by
 unfold SetTable.slot;simp only[z_ R h,h,beq_self_eq_true,if_true]
theorem xo{t:SetTable}(a:t.dummies=#[])(h:∀i:Nat,t.place[i]?≠some j):t.slot j=.empty:=by
 unfold SetTable.slot;have e:(t.place[below t.place j]?==some j)=false:=by simpa using h _
 simp only[e,a];simp[SetTable.has]
theorem ut{t:SetTable}(R:Ris t.place)(b:t.dummies=#[])(j):(t.slot j=.empty/\∀i:Nat,t.place[i]?≠some j)\/∃i,t.slot j=.live i/\t.place[i]?=some j:=by
 by_cases h:∃i:Nat,t.place[i]?=some j
 .obtain⟨i,a⟩:=h;exact .inr ⟨i,oo R a,a⟩
 .exact .inl ⟨xo b λi e=>h ⟨i,e⟩,λi e=>h ⟨i,e⟩⟩
theorem w6(R:Ris xs){mask:Nat}(l:xs.size<=mask):∃s,s<=mask/\∀i:Nat,xs[i]?≠some s:=by
 apply K5;intro f
 have all:∀s,s<=mask->∃i:Nat,xs[i]?=some s:=λs d=>by
  apply K5;intro h;exact f ⟨s,d,λi e=>h ⟨i,e⟩⟩
 have c:∀s,s<=mask->∃i:Nat,xs[i]?=some s/\s<=i:=by
  intro s
  induction s with
  |zero=>intro h;obtain⟨i,a⟩:=all 0 h;exact⟨i,a,JZ _⟩
  |succ s j=>
   intro h;obtain⟨i,a,g⟩:=j (by lia);obtain⟨k,b⟩:=all (s+1) h;refine⟨k,b,?_⟩;rcases Nv i k with z |z |z
   .lia
   .subst z;rw[a]at b;cases b
   .have:=R k i _ _ z b a;lia
 obtain⟨i,a,g⟩:=c mask (IV _);have:=vm a;lia
noncomputable def adv(mask:Nat)(p:Probe):Probe:=
 if p.more >0 then {p with j:=p.j+1,more:=p.more-1 } else
 {p with j:=(leap mask p.i p.perturb).1,more:=runEnd mask (leap mask p.i p.perturb).1-(leap mask p.i p.perturb).1,i:=(leap mask p.i p.perturb).1,perturb:=(leap mask p.i p.perturb).2 }
theorem l8(t:SetTable)(p:Probe):t.advance p=adv t.mask p:=by
 unfold SetTable.advance adv;split
 .rfl
 .rfl
noncomputable def start(mask:Nat)(h:Int):Probe:={j:=bits h%(mask+1),more:=runEnd mask (bits h%(mask+1))-bits h%(mask+1),i:=bits h%(mask+1),perturb:=bits h,dummy:=none }
noncomputable def pth(mask:Nat)(h:Int):Nat->Probe
 |0=>start mask h
 |n+1=>adv mask (pth mask h n)
noncomputable def be(mask:Nat)(h:Int):Nat->Nat×Nat
 |0=>(bits h%(mask+1),bits h)
 |r+1=>leap mask (be mask h r).1 (be mask h r).2
theorem lz{mask:Nat}:∀m (p:Probe) (f:Nat->Probe),f 0=p->(∀n,f (n+1)=adv mask (f n))->m<=p.more->f m={p with j:=p.j+m,more:=p.more-m }
 |0,p,f,a,_,_=>by rw[a];rfl
 |m+1,p,f,a,b,c=>by
  rw[b m,lz m p f a b (by lia)];unfold adv;rw[if_pos (by show p.more-m >0;lia)];simp only[Probe.mk.injEq];exact⟨by lia,by lia,trivial,trivial,trivial⟩
theorem lW(mask)(h):∀n,(pth mask h n).dummy=none
 |0=>rfl
 |n+1=>by
  rw[pth];unfold adv;split
  .exact lW mask h n
  .exact lW mask h n
theorem xY(mask i):runEnd mask i-i<=9:=by unfold runEnd;split <;>lia
theorem vT(mask)(h):∀r,∃n,n<=10*r/\pth mask h n={j:=(be mask h r).1,more:=runEnd mask (be mask h r).1-(be mask h r).1,i:=(be mask h r).1,perturb:=(be mask h r).2,dummy:=none }
 |0=>⟨0,IV _,rfl⟩
 |r+1=>by
  obtain⟨n,b,e⟩:=vT mask h r;have c:=xY mask (be mask h r).1;have step:=lz (runEnd mask (be mask h r).1-(be mask h r).1) (pth mask h n) (λm=>pth mask h (n+m)) rfl (λm=>rfl) (by rw[e];exact IV _);refine⟨n+(runEnd mask (be mask h r).1-(be mask h r).1)+1,by lia,?_⟩;rw[pth];have a:=step;rw[a,e];unfold adv;rw[if_neg (by simp)];rfl
theorem Ci(h):bits h<2 ^ 64:=by
 unfold bits;lia
theorem oE(mask)(h):∀r,(be mask h r).2=bits h/32 ^ r
 |0=>by simp[be]
 |r+1=>by
  rw[be];show (be mask h r).2/32=_;rw[oE mask h r,Qp,LZ]
theorem xI(mask)(h)(r)(a:12<=r):(be mask h r).2/32=0:=by
 rw[oE];have b:=Ci h;rw[Qp];apply Nat.div_eq_of_lt;have:32 ^ 12*32<=32 ^ r*32:=NJ _ (ON (by decide) a);exact IZ (IZ b (by decide)) this
noncomputable def cK:Nat->Nat
 |0=>1
 |k+1=>cK k*(4*cK k+2)
theorem yF:∀k,∃m,cK k=2 ^ k*(2*m+1)
 |0=>⟨0,by simp[cK]⟩
 |k+1=>by
  obtain⟨m,e⟩:=yF k;refine⟨2*(cK k) *m+m+cK k,?_⟩;rw[cK,LZ];have:cK k*(4*cK k+2)=2 ^ k*(2*m+1) *(4*cK k+2):=by rw[<-e]
  rw[this];generalize cK k=c;generalize 2 ^ k=p;grind
noncomputable def iu:Nat->Nat->Nat
 |0,x=>x
 |n+1,x=>5*iu n x+1
theorem nE(m x):∀n,iu (m+n) x=iu n (iu m x)
 |0=>rfl
 |n+1=>by rw[<-Nx,iu,nE m x n,iu]
theorem lK:∀k x,iu (2 ^ k) x=(1+4*cK k) *x+cK k
 |0,x=>by simp[iu,cK]
 |k+1,x=>by
  rw[LZ,Nat.mul_two,nE,lK k,lK k,cK];generalize cK k=c;grind
theorem uO(k x):iu (2 ^ k) x%2 ^ (k+1)=(x+2 ^ k)%2 ^ (k+1):=by
 rw[lK];obtain⟨m,e⟩:=yF k;rw[e]
 have:(1+4*(2 ^ k*(2*m+1))) *x+2 ^ k*(2*m+1)=(x+2 ^ k)+2 ^ (k+1) *(2*(2*m+1) *x+m):=by
  rw[LZ];generalize 2 ^ k=p;grind
 rw[this,Nat.add_mul_mod_self_left]
theorem G3{a p:Nat}(h:a<p+p):a%p=if a<p then a else a-p:=by
 split
 .exact JC (by assumption)
 .rw[RH (by omega),JC (by omega)]
theorem Dl{a b p:Nat}(c:a<p+p)(d:b<p+p)(e:a%p=b%p)(n:a≠b):(a+p)%(p+p)=b:=by
 rw[G3 c,G3 d]at e;by_cases ha:a<p
 .rw[if_pos ha]at e;rw[JC (by omega)]
  split at e <;>omega
 .rw[if_neg ha]at e;rw[RH (by omega),JC (by omega)]
  split at e <;>omega
theorem my(x):∀k y,∃n,n<2 ^ k/\iu n x%2 ^ k=y%2 ^ k:=by
 intro i
 induction i with
 |zero=>
  intro y;exact⟨0,by simp,by simp[Nat.mod_one]⟩
 |succ k d=>
  intro y;obtain⟨n,j,e⟩:=d y;have g:2 ^ (k+1)=2 ^ k+2 ^ k:=by rw[LZ];omega
  have l:0<2 ^ k:=Nat.pow_pos (by decide);by_cases h:iu n x%2 ^ (k+1)=y%2 ^ (k+1)
  .exact⟨n,by omega,h⟩
  .refine⟨n+2 ^ k,by omega,?_⟩;rw[nE,uO];generalize iu n x=z at *;have c:z%2 ^ (k+1)%2 ^ k=z%2 ^ k:=RI _ ⟨2,by rw[LZ]⟩;have f:y%2 ^ (k+1)%2 ^ k=y%2 ^ k:=RI _ ⟨2,by rw[LZ]⟩;have l1:=KC z (show 0<2 ^ (k+1) by omega);have l2:=KC y (show 0<2 ^ (k+1) by omega);rw[<-OZ];rw[<-c,<-f]at e;generalize z%2 ^ (k+1)=a at *;generalize y%2 ^ (k+1)=b at *;rw[g]at *;generalize 2 ^ k=p at *;exact Dl l1 l2 e h
theorem lL{mask k:Nat}(a:mask+1=2 ^ k)(h):∀q,(be mask h (12+q)).1=iu q (be mask h 12).1%2 ^ k
 |0=>by
  rw[iu]
  have:(be mask h 12).1<2 ^ k:=by
   rw[<-a];exact KC _ (by lia)
  exact (JC this).symm
 |q+1=>by
  show (leap mask (be mask h (12+q)).1 (be mask h (12+q)).2).1=_;unfold leap;simp only[xI mask h (12+q) (by lia)];rw[lL a h q,a,iu,Nj,QG 5 _];generalize iu q (be mask h 12).1=z;generalize 2 ^ k=m;rw[UJ,Nat.mod_mul_mod,<-UJ]
theorem cover{mask k:Nat}(b:mask+1=2 ^ k)(h)(s)(hs:s<=mask):∃n,n<10*turns mask/\(pth mask h n).j=s:=by
 obtain⟨q,d,e⟩:=my (be mask h 12).1 k s;obtain⟨n,c,a⟩:=vT mask h (12+q);refine⟨n,?_,?_⟩
 .unfold turns;lia
 .rw[a];rw[lL b h q,e];exact JC (by lia)
def Liv(t:SetTable)(j:Nat):Prop:=∃i:Nat,t.place[i]?=some j
structure TOk(t:SetTable)(hs:List Int):Prop where
 R:Ris t.place
 d:t.dummies=#[]
 k:∃k,3<=k/\t.mask+1=2 ^ k
 n:t.place.size=hs.length
 f:t.place.size<=t.mask
 le:∀(i x:Nat),t.place[i]?=some x->x<=t.mask
 reach:∀(i j:Nat) (h:Int),t.place[i]?=some j->hs[i]?=some h->∃m,(pth t.mask h m).j=j/\∀m',m'<m->Liv t (pth t.mask h m').j
theorem least{P:Nat->Prop}:∀n,P n->∃m,m<=n/\P m/\∀k,k<m->¬ P k:=by
 intro n
 induction n using S9 with
 |_ n d=>
  intro h;by_cases a:∃k,k<n/\P k
  .obtain⟨k,a,c⟩:=a;obtain⟨m,g,e,f⟩:=d k a c;exact⟨m,by lia,e,f⟩
  .exact⟨n,IV _,h,λk b c=>a ⟨k,b,c⟩⟩
theorem tL(T:TOk t hs)(h):∃N,N<10*turns t.mask/\¬ Liv t (pth t.mask h N).j/\∀m,m<N->Liv t (pth t.mask h m).j:=by
 obtain⟨s,c,a⟩:=w6 T.R T.f;obtain⟨k,_,d⟩:=T.k;obtain⟨n,p,e⟩:=cover d h s c;obtain⟨m,q,g,l⟩:=least (P:=λn=>¬ Liv t (pth t.mask h n).j) n (by show ¬ Liv t (pth t.mask h n).j;rw[e];rintro ⟨i,o⟩;exact a i o);exact⟨m,by lia,g,λk b=>K5 λz=>l k b z⟩
theorem y9(T:TOk t hs)(hashAt)(h)(F:¬ Liv t (pth t.mask h N).j)(E:∀m,m<N->Liv t (pth t.mask h m).j):∀o n,n<=N->N-n<o->
  (probe.go t hashAt h o (pth t.mask h n)=some (.empty (pth t.mask h N).j none)/\∀m i,n<=m->m<N->t.place[i]?=some (pth t.mask h m).j->hashAt i≠h)\/
  ∃m i,n<=m/\m<N/\t.place[i]?=some (pth t.mask h m).j/\hashAt i=h/\probe.go t hashAt h o (pth t.mask h n)=some (.candidate (pth t.mask h m).j i (pth t.mask h (m+1)))/\
   ∀(b a:Nat),n<=b->b<m->t.place[a]?=some (pth t.mask h b).j->hashAt a≠h:=by
 intro B
 induction B with
 |zero=>
  intro n _ A;lia
 |succ o p=>
  intro n s A;rw[probe.go];rcases ut T.R T.d (pth t.mask h n).j with ⟨e,v⟩ |⟨i,e,c⟩
  .have r:n=N:=by
    rcases JD s with z |z
    .obtain⟨i,c⟩:=E n z;exact absurd c (v i)
    .exact z
   subst r;refine .inl ⟨by simp only[e,lW],λm i g k=>by lia⟩
  .have r:n<N:=by
    rcases JD s with z |z
    .exact z
    .subst z;exact absurd ⟨i,c⟩ F
   simp only[e];by_cases f:hashAt i=h
   .refine .inr ⟨n,i,IV _,r,c,f,?_,λb a g k=>by lia⟩;simp only[f,beq_self_eq_true,if_true,l8];rfl
   .have hb:(hashAt i==h)=false:=by simpa using f
    simp only[hb,Ju,if_false,l8];have p:=p (n+1) (by lia) (by lia);rcases p with ⟨u,q⟩ |⟨m,C,u,q,x,D,y,w⟩
    .refine .inl ⟨u,λm a g k l=>?_⟩;rcases JD g with z |z
     .exact q m a z k l
     .subst z;rw[T.R.inj l c];exact f
    .refine .inr ⟨m,C,by lia,q,x,D,y,λb a g k l=>?_⟩;rcases JD g with z |z
     .exact w b a z k l
     .subst z;rw[T.R.inj l c];exact f
theorem yI(T:TOk t hs){N i:Nat}(c:¬ Liv t (pth t.mask h N).j)(b:hs[i]?=some h):∃m j,m<N/\t.place[i]?=some j/\(pth t.mask h m).j=j:=by
 have a:i<t.place.size:=by rw[T.n];exact (I_.mp b).1
 obtain⟨m,e,d⟩:=T.reach i _ h (eV a) b;refine⟨m,_,?_,eV a,e⟩;rcases Nv m N with z |z |z
 .exact z
 .subst z;exact absurd ⟨i,by rw[e];exact eV a⟩ c
 .exact absurd (d N z) c
theorem fz{α:Type}(xs)(p)(x:α):(insertAt xs p x).toList=xs.toList.take p++x::xs.toList.drop p:=by
 unfold insertAt;simp[Array.toList_extract];exact Kq (by simp)
theorem cu{α:Type}{xs:Array α}{x:α}(e:p<=xs.size)(i):(insertAt xs p x)[i]?=if i<p then xs[i]? else if i=p then some x else xs[i-1]?:=by
 rw[<-J9,fz];have d:(xs.toList.take p).length=p:=by simp;lia
 by_cases a:i<p
 .rw[if_pos a,Jn (by lia),LP a,J9]
 .rw[if_neg a,Jo (by lia),d];by_cases b:i=p
  .subst b;simp
  .rw[if_neg b];obtain⟨q,c⟩:∃q,i-p=q+1:=⟨i-p-1,by lia⟩
   rw[c,KA,Na,J9];congr 1;lia
theorem iy{α:Type}(xs)(p)(x:α)(a:p<=xs.size):(insertAt xs p x).size=xs.size+1:=by
 rw[<-Jg,fz];simp;lia
noncomputable def iP{α:Type}(xs:List α)(p:Nat)(x:α):List α:=xs.take p++x::xs.drop p
theorem yx{α:Type}{xs:List α}{x:α}(e:p<=xs.length)(i):(iP xs p x)[i]?=if i<p then xs[i]? else if i=p then some x else xs[i-1]?:=by
 unfold iP;have d:(xs.take p).length=p:=by simp;lia
 by_cases a:i<p
 .rw[if_pos a,Jn (by lia),LP a]
 .rw[if_neg a,Jo (by lia),d];by_cases b:i=p
  .subst b;simp
  .rw[if_neg b];obtain⟨q,c⟩:∃q,i-p=q+1:=⟨i-p-1,by lia⟩
   rw[c,KA,Na];congr 1;lia
theorem BL(R:Ris xs)(h:∀i:Nat,xs[i]?≠some j):Ris (insertAt xs (below xs j) j):=by
 obtain⟨n,l,m⟩:=f9 R j
 have gt:∀i x,below xs j<=i->xs[i]?=some x->j<x:=λi x o c=>by
  rcases JD (l i x o c) with z |z
  .exact z
  .subst z;exact absurd c (h i)
 intro a b x y k c hy;rw[cu m]at c hy;by_cases f:a<below xs j
 .rw[if_pos f]at c;by_cases e:b<below xs j
  .rw[if_pos e]at hy;exact R a b x y k c hy
  .rw[if_neg e]at hy;by_cases d:b=below xs j
   .rw[if_pos d]at hy;cases hy;exact n a x f c
   .rw[if_neg d]at hy;exact R a (b-1) x y (by lia) c hy
 .rw[if_neg f]at c;have e:¬ b<below xs j:=by lia
  rw[if_neg e]at hy;have d:¬ b=below xs j:=by lia
  rw[if_neg d]at hy;by_cases g:a=below xs j
  .rw[if_pos g]at c;cases c;exact gt (b-1) y (by lia) hy
  .rw[if_neg g]at c;exact R (a-1) (b-1) x y (by lia) c hy
theorem ve(b:p<=xs.size)(s):(∃i:Nat,(insertAt xs p j)[i]?=some s)↔s=j\/∃i:Nat,xs[i]?=some s:=by
 constructor
 .rintro ⟨i,a⟩;rw[cu b]at a;split at a
  .exact .inr ⟨i,a⟩
  .split at a
   .cases a;exact .inl rfl
   .exact .inr ⟨i-1,a⟩
 .rintro (rfl |⟨i,a⟩)
  .exact⟨p,by rw[cu b,if_neg (JY _),if_pos rfl]⟩
  .by_cases h:i<p
   .exact⟨i,by rw[cu b,if_pos h];exact a⟩
   .exact⟨i+1,by rw[cu b,if_neg (by lia),if_neg (by lia)];simpa using a⟩
theorem TOk.put(T:TOk t hs)(D:¬ Liv t (pth t.mask h N).j)(C:∀m,m<N->Liv t (pth t.mask h m).j)(y:(pth t.mask h N).j<=t.mask)(w:t.place.size+1<=t.mask):
  TOk (t.put (pth t.mask h N).j).1 (iP hs (t.put (pth t.mask h N).j).2 h):=by
 have v:∀i,t.place[i]?≠some (pth t.mask h N).j:=λi e=>D ⟨i,e⟩;obtain⟨_,_,hb⟩:=f9 T.R (pth t.mask h N).j;have o:below t.place (pth t.mask h N).j<=hs.length:=by rw[<-T.n];exact hb
 have B:(if SetTable.has t.dummies (pth t.mask h N).j then eraseAt t.dummies (below t.dummies (pth t.mask h N).j) else t.dummies)=#[]:=by
  rw[T.d];simp[SetTable.has]
 unfold SetTable.put;simp only[B];refine⟨BL T.R v,rfl,T.k,?_,?_,λi x e=>?_,λi j u c a=>?_⟩
 .show (insertAt _ _ _).size=(iP hs _ h).length;rw[iy _ _ _ hb,T.n];unfold iP;simp;lia
 .show (insertAt _ _ _).size<=t.mask;rw[iy _ _ _ hb];exact w
 .rcases (ve hb x).mp ⟨i,e⟩ with z |⟨q,A⟩
  .rw[z];exact y
  .exact T.le q x A
 .have b:∀s,Liv t s->Liv {t with place:=insertAt t.place (below t.place (pth t.mask h N).j) (pth t.mask h N).j,dummies:=#[] } s:=λs z=>(ve hb s).mpr (.inr z);rw[cu hb]at c;rw[yx o]at a;split at c
  .rename_i z
   rw[if_pos z]at a;obtain⟨m,p,l⟩:=T.reach i j u c a;exact⟨m,p,λf g=>b _ (l f g)⟩
  .rename_i z
   rw[if_neg z]at a;split at c
   .rename_i r
    rw[if_pos r]at a;cases c;cases a;exact⟨N,rfl,λf g=>b _ (C f g)⟩
   .rename_i r
    rw[if_neg r]at a;obtain⟨m,p,l⟩:=T.reach (i-1) j u c a;exact⟨m,p,λf g=>b _ (l f g)⟩
theorem zZ{mask:Nat}(h):∀n,(pth mask h n).j+(pth mask h n).more<=mask
 |0=>by
  show bits h%(mask+1)+(runEnd mask (bits h%(mask+1))-bits h%(mask+1))<=mask;have:=KC (bits h) (show 0<mask+1 by lia);unfold runEnd;split <;>lia
 |n+1=>by
  have a:=zZ (mask:=mask) h n;rw[pth];unfold adv;split
  .simp only;lia
  .show (leap mask _ _).1+(runEnd mask (leap mask _ _).1-(leap mask _ _).1)<=mask;have:(leap mask (pth mask h n).i (pth mask h n).perturb).1<mask+1:=KC _ (by lia);unfold runEnd;split <;>lia
def OL(owner:Array (Option Nat))(j:Nat):Prop:=∃k:Nat,owner[j]?=some (some k)
noncomputable def nr(mask:Nat)(h:Int):Nat->Nat
 |0=>0
 |r+1=>nr mask h r+(runEnd mask (be mask h r).1-(be mask h r).1)+1
theorem Ej(mask)(h):∀r,pth mask h (nr mask h r)={j:=(be mask h r).1,more:=runEnd mask (be mask h r).1-(be mask h r).1,i:=(be mask h r).1,perturb:=(be mask h r).2,dummy:=none }
 |0=>rfl
 |r+1=>by
  have e:=Ej mask h r;have step:=lz (runEnd mask (be mask h r).1-(be mask h r).1) (pth mask h (nr mask h r)) (λm=>pth mask h (nr mask h r+m)) rfl (λm=>rfl) (by rw[e];exact IV _);have a:=step;rw[nr,pth,a,e];unfold adv;rw[if_neg (by simp)];rfl
theorem uM(mask)(h)(r k)(a:k<=runEnd mask (be mask h r).1-(be mask h r).1):(pth mask h (nr mask h r+k)).j=(be mask h r).1+k:=by
 have e:=Ej mask h r;have step:=lz k (pth mask h (nr mask h r)) (λm=>pth mask h (nr mask h r+m)) rfl (λm=>rfl) (by rw[e];exact a);have b:=step;rw[b,e]
theorem wP(mask i):i<=runEnd mask i:=by unfold runEnd;split <;>lia
theorem Cr(mask)(h):∀r,(be mask h r).1<=mask
 |0=>J4 (KC _ (by lia))
 |r+1=>J4 (KC _ (by lia))
theorem rN{mask i:Nat}(h:i<=mask):runEnd mask i<=mask:=by unfold runEnd;split <;>lia
theorem vA{mask:Nat}(y:owner.size=mask+1)(h):∀Vi r,(∃c,r<=c/\c<r+Vi/\owner[(be mask h c).1]?=some none)->(∀m,m<nr mask h r->OL owner (pth mask h m).j)->
  ∃N,layClean.free mask owner Vi (be mask h r).1 (be mask h r).2=some (pth mask h N).j/\owner[(pth mask h N).j]?=some none/\∀m,m<N->OL owner (pth mask h m).j
 |0,r,⟨c,t,E,_⟩,_=>by omega
 |Vi+1,r,g,o=>by
  rw[layClean.free];have Xt:=wP mask (be mask h r).1;have F:=rN (Cr mask h r);have i:∀k,k<runEnd mask (be mask h r).1+1-(be mask h r).1->(be mask h r).1+k<owner.size:=λk l=>by omega
  cases hf:(J3 (runEnd mask (be mask h r).1+1-(be mask h r).1)).find? λk=>(owner.getD ((be mask h r).1+k) (some 0)).isNone with
  |some k=>
   obtain⟨n,B,A⟩:=List.find?_range_eq_some.mp hf;have l:=JM.mp B;have s:=i k l
   have C:owner[(be mask h r).1+k]?=some none:=by
    have:owner.getD ((be mask h r).1+k) (some 0)=owner[(be mask h r).1+k]:=by simp[Nw,s]
    rw[this]at n;have:owner[(be mask h r).1+k]=none:=by simpa using n
    simp[s,this]
   have w:=uM mask h r k (by omega);refine⟨nr mask h r+k,by simp only[w],by rw[w];exact C,λm u=>?_⟩;by_cases b:m<nr mask h r
   .exact o m b
   .obtain⟨q,rfl⟩:∃q,m=nr mask h r+q:=⟨m-nr mask h r,by omega⟩
    have d:=A q (by omega);have f:=i q (by omega);rw[uM mask h r q (by omega)];have:owner.getD ((be mask h r).1+q) (some 0)=owner[(be mask h r).1+q]:=by simp[Nw,f]
    rw[this]at d;cases a:owner[(be mask h r).1+q] with
    |none=>rw[a]at d;simp at d
    |some v=>exact⟨v,by simp[f,a]⟩
  |none=>
   have x:∀q,q<runEnd mask (be mask h r).1+1-(be mask h r).1->OL owner ((be mask h r).1+q):=λq d=>by
    have:=List.find?_eq_none.mp hf q (JM.mpr d);have f:=i q d;have e:owner.getD ((be mask h r).1+q) (some 0)=owner[(be mask h r).1+q]:=by simp[Nw,f]
    rw[e]at this;cases a:owner[(be mask h r).1+q] with
    |none=>rw[a]at this;simp at this
    |some v=>exact⟨v,by simp[f,a]⟩
   have next:=vA y h Vi (r+1) (by
    obtain⟨c,t,E,p⟩:=g;refine⟨c,?_,by omega,p⟩;rcases JD t with z |z
    .exact z
    .subst z;obtain⟨v,a⟩:=x 0 (by omega);rw[Nj,p]at a;cases a) (λm u=>by
    by_cases b:m<nr mask h r
    .exact o m b
    .obtain⟨q,rfl⟩:∃q,m=nr mask h r+q:=⟨m-nr mask h r,by omega⟩
     have D:nr mask h r+q<nr mask h r+(runEnd mask (be mask h r).1-(be mask h r).1)+1:=u;rw[uM mask h r q (by omega)];exact x q (by omega))
   exact next
structure OI(mask:Nat)(owner:Array (Option Nat))(hs:List Int):Prop where
 sz:owner.size=mask+1
 lt:∀(j k:Nat),owner[j]?=some (some k)->k<hs.length
 inj:∀(i j k:Nat),owner[i]?=some (some k)->owner[j]?=some (some k)->i=j
 all:∀k:Nat,k<hs.length->∃j:Nat,owner[j]?=some (some k)
 reach:∀(j k:Nat) (h:Int),owner[j]?=some (some k)->hs[k]?=some h->∃m,(pth mask h m).j=j/\∀m',m'<m->OL owner (pth mask h m').j
theorem OI.free{mask:Nat}(O:OI mask owner hs)(r:hs.length<=mask):∃s,s<=mask/\owner[s]?=some none:=by
 apply K5;intro l
 have g:∀s,s<=mask->OL owner s:=λs p=>by
  have j:s<owner.size:=by rw[O.sz];lia
  cases e:owner[s] with
  |none=>exact absurd ⟨s,p,by simp[j,e]⟩ l
  |some k=>exact⟨k,by simp[j,e]⟩
 have nd:((J3 (mask+1)).map λs=>(owner.getD s none).getD 0).Nodup:=by
  rw[O9,Kg];refine NZ ?_ (Qq);intro a b ha hb q e;obtain⟨c,d⟩:=g a (by have:=JM.mp ha;lia);obtain⟨m,i⟩:=g b (by have:=JM.mp hb;lia);have f:(owner.getD a none).getD 0=c:=by simp[KL,d]
  have o:(owner.getD b none).getD 0=m:=by simp[KL,i]
  rw[f,o]at e;subst e;have:=O.inj a b c d i;lia
 have sub:((J3 (mask+1)).map λs=>(owner.getD s none).getD 0) ⊆ J3 hs.length:=by
  intro x n;obtain⟨s,h,rfl⟩:=Jb.mp n;obtain⟨c,d⟩:=g s (by have:=JM.mp h;lia);have f:(owner.getD s none).getD 0=c:=by simp[KL,d]
  rw[f];exact JM.mpr (O.lt s c d)
 have:=Ss nd sub;simp at this;lia
theorem OI.step{mask k:Nat}(x:mask+1=2 ^ k){owner:Array (Option Nat)}{hs:List Int}(O:OI mask owner hs)(u:hs.length<=mask)(h):
  ∃j,layClean.free mask owner (turns mask) (bits h%(mask+1)) (bits h)=some j/\OI mask (owner.setIfInBounds j (some hs.length)) (hs++[h]):=by
 obtain⟨s,F,n⟩:=O.free u;obtain⟨q,G,e⟩:=my (be mask h 12).1 k s;have E:(be mask h (12+q)).1=s:=by rw[lL x h q,e];exact JC (by lia)
 obtain⟨N,C,o,D⟩:=vA O.sz h (turns mask) 0 ⟨12+q,JZ _,by unfold turns;lia,by rw[E];exact n⟩ (λm l=>absurd l (Mj _));refine⟨_,C,?_⟩;generalize hj:(pth mask h N).j=j at *;have p:=(Kx.mp o).1
 have get:∀i,(owner.setIfInBounds j (some hs.length))[i]?=if j=i then some (some hs.length) else owner[i]?:=λi=>by
  rw[Array.getElem?_setIfInBounds];split
  .rename_i z;subst z;simp[p]
  .rfl
 have g:∀i,OL owner i->OL (owner.setIfInBounds j (some hs.length)) i:=λi ⟨v,f⟩=>by
  refine⟨v,?_⟩;rw[get,if_neg (λz=>by subst z;rw[o]at f;cases f)];exact f
 refine⟨by simp[O.sz],λi v e=>?_,λa b v c d=>?_,λv f=>?_,λi v B c d=>?_⟩
 .rw[get]at e;split at e
  .cases e;simp
  .have:=O.lt i v e;simp;lia
 .rw[get]at c d;split at c <;>split at d
  .lia
  .cases c;exact absurd (O.lt b _ d) (JY _)
  .cases d;exact absurd (O.lt a _ c) (JY _)
  .exact O.inj a b v c d
 .simp at f;rcases JD (J4 f) with z |z
  .obtain⟨i,r⟩:=O.all v z;refine⟨i,?_⟩;rw[get,if_neg (λy=>by subst y;rw[o]at r;cases r)];exact r
  .subst z;exact⟨j,by rw[get,if_pos rfl]⟩
 .rw[get]at c;split at c
  .rename_i z
   cases c;simp at d;subst d;exact⟨N,by rw[hj];exact z,λm l=>g _ (D m l)⟩
  .have f:=O.lt i v c;rw[Jn f]at d;obtain⟨m,A,t⟩:=O.reach i v B c d;exact⟨m,A,λw l=>g _ (t w l)⟩
theorem Dr{mask k:Nat}(o:mask+1=2 ^ k):∀more b a,OI mask a b->b.length+more.length<=mask+1->∃d,more.foldl (λc h=>do
  let (a,k) <-c
  let j <-layClean.free mask a (turns mask) (bits h%(mask+1)) (bits h)
  pure (a.setIfInBounds j (some k),k+1)) (some (a,b.length))=some (d,b.length+more.length)/\OI mask d (b++more):=by
 intro m
 induction m with
 |nil=>
  intro b a O _;exact⟨a,by simp,by simpa using O⟩
 |cons h more i=>
  intro b a O g;obtain⟨j,e,n⟩:=O.step o (by simp at g;lia) h;obtain⟨p,f,l⟩:=i (b++[h]) _ n (by simp at g |-;lia);refine⟨p,?_,by simpa using l⟩;rw[LH]
  have:(do
   let (a,k) <-some (a,b.length)
   let j <-layClean.free mask a (turns mask) (bits h%(mask+1)) (bits h)
   pure (a.setIfInBounds j (some k),k+1):Option (Array (Option Nat)×Nat))=some (a.setIfInBounds j (some b.length),b.length+1):=by
   simp[e]
  rw[this];simp only[Jl,QE]at f;rw[f];simp;lia
theorem qG{mask k:Nat}(b:mask+1=2 ^ k)(c:hs.size<=mask+1):∃a,layClean mask hs=some a/\OI mask a hs.toList:=by
 have f:OI mask (Array.replicate (mask+1) none) []:=⟨by simp,λj k e=>by simp[N0]at e,λi j k e=>by simp[N0]at e,λk h=>by simp at h,λj k h e=>by simp[N0]at e⟩
 obtain⟨d,e,O⟩:=Dr b hs.toList [] _ f (by simpa using c);refine⟨d,?_,by simpa using O⟩;unfold layClean;rw[<-Pf];simp only[MR]at e;rw[e];rfl
theorem qE(n):∀Vi k,n<2 ^ (k+Vi)->∃a,k<=a/\sizeAbove.go n Vi (2 ^ k)=2 ^ a/\n<2 ^ a/\(2 ^ a<=2*n\/a=k)
 |0,k,h=>⟨k,IV _,rfl,by simpa using h,.inr rfl⟩
 |Vi+1,k,h=>by
  rw[sizeAbove.go];by_cases WG:2 ^ k<=n
  .rw[if_pos WG,<-LZ];obtain⟨a,e,c,d,b⟩:=qE n Vi (k+1) (by rw[show k+1+Vi=k+(Vi+1) by lia];exact h);refine⟨a,by lia,c,d,.inl ?_⟩;rcases b with z |z
   .exact z
   .subst z;rw[LZ];lia
  .rw[if_neg WG];exact⟨k,IV _,rfl,by lia,.inr rfl⟩
theorem above(n)(h:n<2 ^ 60):∃k,3<=k/\sizeAbove n=2 ^ k/\n<2 ^ k/\2 ^ k<=2*n+8:=by
 obtain⟨k,b,c,d,a⟩:=qE n 64 3 (IZ h (ON (by decide) (by decide)));refine⟨k,b,c,d,?_⟩;rcases a with z |z
 .lia
 .subst z;lia
noncomputable def dD(mask:Nat)(owner:Array (Option Nat)):List (Nat×Nat):=(J3 (mask+1)).filterMap λj=>(owner.getD j none).map (j,·)
theorem rE(owner:Array (Option Nat)):∀l:List Nat,(l.filterMap λj=>(owner.getD j none).map (j,·)).map (·.1)=l.filter λj=>(owner.getD j none).isSome
 |[]=>rfl
 |a::l=>by
  have ih:=rE owner l;rw[Lb,NS];cases owner.getD a none with
  |none=>simpa using ih
  |some v=>simpa using ih
theorem eo{mask:Nat}(c:owner.size=mask+1)(j k):(j,k)∈dD mask owner↔owner[j]?=some (some k):=by
 unfold dD;rw[N5];constructor
 .rintro ⟨a,ha,e⟩;have b:a<owner.size:=by rw[c];exact JM.mp ha
  cases hv:owner.getD a none with
  |none=>rw[hv]at e;cases e
  |some v=>
   rw[hv]at e;cases e;have:owner.getD j none=owner[j]:=by simp[Nw,b]
   rw[this]at hv;simp[b,hv]
 .intro e;have b:=(Kx.mp e).1;refine⟨j,JM.mpr (by lia),?_⟩;rw[KL,e];rfl
theorem xB(mask)(owner):(dD mask owner).Pairwise λa b=>a.1<b.1:=by
 have:=(Qq (n:=mask+1)).filter λj=>(owner.getD j none).isSome;rw[<-rE owner (J3 (mask+1)),Kg]at this;exact this
theorem ED{l:List Nat}(h:l.Pairwise (· < ·)):Ris l.toArray:=by
 intro i j x y b a hy;rw[Nk]at a hy;obtain⟨d,c⟩:=I_.mp a;obtain⟨f,e⟩:=I_.mp hy;have:=Js.mp h i j d f b;rw[c,e]at this;exact this
theorem BP{mask k:Nat}(K:3<=k)(u:mask+1=2 ^ k)(I:hs.size<=mask)(finger moves)(led plain):
  ∃t d,laid mask finger moves led plain hs=some (t,d)/\TOk t (d.toList.map λi=>hs.getD i 0)/\d.toList.Perm (J3 hs.size)/\t.mask=mask/\t.led=led/\t.plain=plain/\t.moves=moves:=by
 obtain⟨c,e,O⟩:=qG u (hs:=hs) (by lia);have s:=xB mask c
 have nd:((dD mask c).map (·.2)).Nodup:=by
  rw[O9,Kg];refine NZ ?_ s;intro a b ha hb M f;have y:=(eo O.sz a.1 a.2).mp ha;have J:=(eo O.sz b.1 b.2).mp hb;rw[f]at y;have:=O.inj a.1 b.1 b.2 y J;lia
 have g:((dD mask c).map (·.2)).Perm (J3 hs.size):=by
  refine (O_ nd List.nodup_range).mpr λx=>?_;rw[Jb,JM];constructor
  .rintro ⟨⟨j,v⟩,r,rfl⟩;have:=O.lt j v ((eo O.sz j v).mp r);simpa using this
  .intro C;obtain⟨j,G⟩:=O.all x (by simpa using C);exact⟨(j,x),(eo O.sz j x).mpr G,rfl⟩
 have len:(dD mask c).length=hs.size:=by have:=g.length_eq;simpa using this
 refine⟨_,_,by unfold laid;rw[e];rfl,⟨?_,rfl,⟨k,K,u⟩,?_,?_,λi x f=>?_,λi j h l o=>?_⟩,?_,rfl,rfl,rfl,rfl⟩
 .show Ris ((dD mask c).map (·.1)).toArray;exact ED (by rw[Kg];exact s)
 .show ((dD mask c).map (·.1)).toArray.size=_;simp[dD]
 .show ((dD mask c).map (·.1)).toArray.size<=mask;simp[len,I]
 .change ((dD mask c).map (·.1)).toArray[i]?=some x at f
  rw[Nk,I0]at f;cases q:(dD mask c)[i]? with
  |none=>rw[q]at f;cases f
  |some p=>
   rw[q]at f;cases f;have:=(eo O.sz p.1 p.2).mp (Jp q);have:=(Kx.mp this).1;show p.1<=mask;have N:=O.sz;lia
 .change ((dD mask c).map (·.1)).toArray[i]?=some j at l
  change (((dD mask c).map (·.2)).toArray.toList.map λi=>hs.getD i 0)[i]?=some h at o
  rw[Nk,I0]at l;rw[I0,I0]at o;cases q:(dD mask c)[i]? with
  |none=>rw[q]at l;cases l
  |some p=>
   rw[q]at l o;cases l;have w:=(eo O.sz p.1 p.2).mp (Jp q);have L:=O.lt _ _ w
   have E:hs.toList[p.2]?=some h:=by
    have B:hs.getD p.2 0=h:=by simpa using o
    have:p.2<hs.size:=by simpa using L
    rw[<-B];simp[Nw,this]
   obtain⟨m,H,z⟩:=O.reach _ _ h w E;refine⟨m,H,λF r=>?_⟩;obtain⟨v,A⟩:=z F r;obtain⟨n,D⟩:=JL.mp ((eo O.sz _ v).mpr A);refine⟨n,?_⟩;show ((dD mask c).map (·.1)).toArray[n]?=_;rw[Nk,I0,D];rfl
 .show ((dD mask c).map (·.2)).toArray.toList.Perm _;simpa using g
variable {prog:Jr}{A:Kb}{E:Je→Jd→Prop}
section
variable {w:J5}{s:Jd}
abbrev TK(prog:Jr)(w:J5)(h:Ma)(k:List Int)(b:Jt):Prop:=IsTupleKey (Rk prog w) h k b
noncomputable abbrev hsh(prog:Jr)(w:J5)(k:List Int):Int:=tupleKeyHash (Rk prog w) k
theorem TK.ints{h:Ma}{k:List Int}{vs:List Je}(x:ItemsAre (Rk prog w) k vs):∀v∈vs,∃n t,v=.int n t:=by
 induction x with
 |nil=>intro v a;simp at a
 |cons b _ c=>
  intro v a;rcases IT.mp a with rfl |a
  .obtain⟨t,rfl⟩:=Of b;exact⟨_,t,rfl⟩
  .exact c v a
theorem oh(c:TK prog w s.heap k a)(h:Q false s):JN (JE prog w) A (On 8 (.ref a)) Q E s:=by
 have g:=c.typeIs;obtain⟨o,items,n,j,_,l,m⟩:=c;unfold On;refine IP (Su g ?_);dsimp only;rw[if_pos (by decide)];refine IP (IX ?_);simp only[LY,Ju,if_false];refine IP (Po j l ?_);refine IP ?_;rw[<-Pg];refine Qg _ (λrest r b=>r.1=none/\b=s/\∀v∈rest,∃n t,v=Oy n t) _ ?_ ?_ _ _ ⟨rfl,rfl,TK.ints (h:=s.heap) m⟩
 .rintro v rest r b ⟨d,rfl,f⟩;obtain⟨n,t,rfl⟩:=f v IW;have e:On 7 (Oy n t)=pure false:=by unfold On;rfl
  rw[e];refine IP (IX ?_);simp only[Ju,if_false];exact IX ⟨rfl,rfl,λu i=>f u (IS _ i)⟩
 .rintro ⟨q,p⟩ b ⟨d,rfl,_⟩;subst d;exact IX h
theorem HG(d:TK prog w s.heap k a)(h:Q true s):JN (JE prog w) A (Rn 8 (.ref a)) Q E s:=by
 have g:=d.typeIs;obtain⟨o,items,n,j,_,l,m⟩:=d;unfold Rn;refine IP (Mi g F.slot_tuple_hash.lookup ?_);show JN _ _ (seqItems? (.ref a) >>=_) _ _ s;refine IP (Po j l ?_);refine IP ?_;show JN _ _ (forIn items _ _) _ _ s;rw[<-Pg];refine Qg _ (λrest r b=>r.1=none/\b=s/\∀v∈rest,∃n t,v=Oy n t) _ ?_ ?_ _ _ ⟨rfl,rfl,TK.ints (h:=s.heap) m⟩
 .rintro v rest r b ⟨c,rfl,f⟩;obtain⟨n,t,rfl⟩:=f v IW;have e:Rn 7 (Oy n t)=pure true:=by unfold Rn;rfl
  rw[e];refine IP (IX ?_);simp only[LY,Ju,if_false];exact IX ⟨rfl,rfl,λu i=>f u (IS _ i)⟩
 .rintro ⟨q,p⟩ b ⟨c,rfl,_⟩;simp only at c;subst c;exact IX h
theorem tU(g:TK prog w s.heap k a)(j:∀v∈l,∃c b,v=.ref b/\TK prog w s.heap c b)(h:Q false s):
  JN (JE prog w) A (searchCouldBeSeen (.ref a) l) Q E s:=by
 refine IP ?_;refine Qg _ (λrest r f=>r.1=none/\f=s/\∀v∈rest,∃c b,v=.ref b/\TK prog w s.heap c b) _ ?_ ?_ _ _ ⟨rfl,rfl,j⟩
 .rintro v rest r f ⟨i,rfl,e⟩;obtain⟨c,b,rfl,hb⟩:=e v IW;dsimp only;split
  .exact IX ⟨rfl,rfl,λu d=>e u (IS _ d)⟩
  .refine IP (QK g ?_);simp only[LY,Ju,if_false];refine IP (QK hb ?_);simp only[LY,Ju,if_false];refine IP (oh g ?_);simp only[Ju,if_false];refine IP (oh hb ?_);simp only[Ju,if_false];exact IX ⟨rfl,rfl,λu d=>e u (IS _ d)⟩
 .rintro ⟨n,m⟩ f ⟨i,rfl,_⟩;subst i;exact IX h
noncomputable def ents(prog:Jr)(w:J5)(a:List (List Int×Jt)):List (Int×Je):=a.map λp=>(hsh prog w p.1,.ref p.2)
theorem vw{i:Nat}:(ents prog w kb)[i]?=(kb[i]?).map λp=>(hsh prog w p.1,.ref p.2):=by unfold ents;rw[I0]
theorem Cn(kb):(ents prog w kb).map (·.1)=kb.map λp=>hsh prog w p.1:=by unfold ents;rw[JP];rfl
theorem TOk.fits(T:TOk t hs){n:Nat}(a:hs.length=n):t.fits n=true:=by
 have b:=T.n;have e:=T.f;have c:t.fill=t.place.size:=by unfold fill;rw[T.d];rfl
 unfold SetTable.fits;rw[c];simp[b,a];lia
theorem TOk.gave(T:TOk t hs):t.gaveWay=false:=by
 obtain⟨k,b,a⟩:=T.k;unfold SetTable.gaveWay;obtain⟨j,rfl⟩:∃j,k=j+1:=⟨k-1,by lia⟩
 have:t.mask%2=1:=by lia
 simp[this]
theorem sJ(hu:A.units<Mu)
  (ho:s.heap.get? S=some o) (hd:o.data=.set es ep t) (he:es.toList=ents prog w kb) (T:TOk t (kb.map λp=>hsh prog w p.1)) (Xu:∀p∈kb,TK prog w s.heap p.1 p.2) (hx:TK prog w s.heap k x)
  (hN:N<10*turns t.mask) (h0:¬ Liv t (pth t.mask (hsh prog w k) N).j) (h1:∀m,m<N->Liv t (pth t.mask (hsh prog w k) m).j) 
  (qf:(∀p∈kb,p.1≠k)->Q (.free (pth t.mask (hsh prog w k) N).j false) s) (qt:(∃p∈kb,p.1=k)->Q (.there none) s):
  ∀r n J,n<=N->N-n<r->J.getD (t.probeStart (hsh prog w k))=pth t.mask (hsh prog w k) n->
   (∀(m i:Nat) p,m<n->t.place[i]?=some (pth t.mask (hsh prog w k) m).j->kb[i]?=some p->p.1≠k)->
   JN (JE prog w) A (RJ S (.ref x) (hsh prog w k) true r J) Q E s:=by
 have K:es.size=kb.length:=by rw[<-Jg,he];simp[ents]
 have VD:t.fits es.size=true:=T.fits (by rw[IM,K]);have H:∀i:Nat,es[i]?=(kb[i]?).map λ(p:List Int×Jt)=>(hsh prog w p.1,JR p.2):=λi=>by rw[<-J9,he,vw]
 intro r
 induction r with
 |zero=>intro n J _ h;lia
 |succ r ih=>
  intro n J hn hf Vp Wq;refine IP (LB ho hd VD ?_);dsimp only;rw[T.gave];simp only[Ju,if_false];rw[Vp];have f:∀(i:Nat) (p:List Int×Jt),kb[i]?=some p->((es[i]?.map (λ(e:Int×Je)=>e.1)).getD 0:Int)=hsh prog w p.1:=λi p B=>by rw[H,B];rfl
  have pg:=y9 T (λ(i:Nat)=>(es[i]?.map (λ(e:Int×Je)=>e.1)).getD 0) (hsh prog w k) h0 h1 (10*turns t.mask) n hn (by lia);split
  .rename_i met d
   rcases pg with ⟨e,Ve⟩ |⟨m,i,V,Y,D,Xf,e,c⟩
   .have q:=d.symm.trans e;cases q;dsimp only;refine IX (qf λp B g=>?_);obtain⟨i,X⟩:=JL.mp B;obtain⟨m,j,hm,D,hj⟩:=yI T (h:=hsh prog w k) h0 (i:=i) (by rw[I0,X,<-g];rfl);rcases LI m n with M |M
    .exact Wq m i p M (by rw[hj];exact D) X g
    .exact Ve m i M hm (by rw[hj];exact D) (by rw[f i p X,g])
   .have q:=d.symm.trans e;cases q;dsimp only;have W:i<kb.length:=by rw[<-K,<-show t.place.size=es.size by rw[T.n,IM,K]];exact vm D
    obtain⟨p,B⟩:∃p,kb[i]?=some p:=⟨_,IQ W⟩;have I:=Jp B;have C:es[i]?=some (hsh prog w p.1,JR p.2):=by rw[H,B];rfl
    have rest:JN (JE prog w) A (do
      let XS <-OX [JR p.2] (eqBool (JR p.2) (.ref x))
      let (es',_,t') <-setState S
      if true && XS then return .there none
      let some same:=t'.sameMemory t.moves t.mask |unsupported "set.changed-during-lookup:is-the-new-block-at-the-old-address"
      let u <-match (if same then t'.slot (pth t.mask (hsh prog w k) m).j else .empty) with
       | .live i'=>match es'[i']? with
        |some (_,y')=>do pure (if <-isSame y' (JR p.2) then some i' else none)
        |none=>pure none
       |_=>pure none
      match u with
      |none=>rule "set.search.anew";RJ S (.ref x) (hsh prog w k) true r none
      |some i'=>if XS then return .there (some i') else RJ S (.ref x) (hsh prog w k) true r (some (pth t.mask (hsh prog w k) (m+1)))) Q E s:=by
     refine IP (Ko (wpAny_eqBool_tuple hu (Xu p I) hx ?_));refine IP (LB ho hd VD ?_);dsimp only;by_cases g:p.1=k
     .rw[decide_eq_true g];simp only[Bool.and_self,if_true];exact IX (qt ⟨p,I,g⟩)
     .rw[decide_eq_false g];simp only[TC,Ju,if_false];have P:t.sameMemory t.moves t.mask=some true:=by unfold SetTable.sameMemory;simp
      rw[P];dsimp only;rw[if_pos rfl,oo T.R D];dsimp only;rw[C];dsimp only;refine IP (wpAny_isSame_ref_self ?_);refine IP (IX ?_);simp only[if_true];refine ih (m+1) (some (pth t.mask (hsh prog w k) (m+1))) (by lia) (by lia) rfl λO i' G b a F=>?_;rcases LI O n with z |z
      .exact Wq O i' G z a F
      .rcases JD (J4 b) with y |y
       .have:=c O i' z y a;intro U;exact this (by rw[f i' G F,U])
       .subst y;have ei:=T.R.inj D a;subst ei;rw[B]at F;cases F;exact g
    by_cases l:t.led=true
    .rw[l];simp only[LY,Ju,if_false];rw[C];exact rest
    .rw[show t.led=false by simpa using l];simp only[Pp,if_true];refine IP (tU hx (λv hv=>?_) ?_)
     .obtain⟨U,L,rfl⟩:=Jb.mp hv
      have b:U∈es.toList:=by
       have:=OM.mp L;exact OM.mpr (Array.mem_filter.mp this).1
      rw[he]at b;obtain⟨G,F,rfl⟩:=Jb.mp b;exact⟨G.1,G.2,rfl,Xu G F⟩
     .simp only[Ju,if_false];rw[C];exact rest
  .rename_i Z
   rcases pg with ⟨e,Ve⟩ |⟨m,i,V,Y,D,Xf,e,c⟩
   .exact absurd e (Z _)
   .exact absurd e (Z _)
structure SP(prog:Jr)(w:J5)(h:Ma)(S:Jt)(kb:List (List Int×Jt)):Prop where
 ex:∃o es ep t,h.get? S=some o∧o.ExactSet∧o.data=.set es ep t∧es.toList=ents prog w kb∧TOk t (kb.map λp=>hsh prog w p.1)∧t.led=(!w.params.followText "set-order")∧t.plain=true∧t.tooFull=false∧t.mask<8*kb.length+8
 keys:∀p∈kb,TK prog w h p.1 p.2
 nd:(kb.map (·.1)).Nodup
theorem TK.keep{es ep t}(x:TK prog w h k b)(j:h.get? S=some o)(f:o.data=.set es ep t)(hs:Ms S h h'):TK prog w h' k b:=by
 obtain⟨c,items,n,d,g,a,e⟩:=x
 have i:b≠S:=by
  rintro rfl;obtain rfl:c=o:=JW (d.symm.trans j);rw[f]at a;exact nomatch a
 exact⟨c,items,n,(hs.2 b i).trans d,g,a,e⟩
theorem tS(x:Jt)(a:Array (Int×Je)):byScan (.ref x) a=false:=rfl
theorem rc{α a:Type}(f:α->a)(xs)(p)(x:α):(iP xs p x).map f=iP (xs.map f) p (f x):=by
 unfold iP;rw[Kt,JF,Um,Uo]
theorem fR{α:Type}(xs)(p)(x:α):(iP xs p x).Perm (xs++[x]):=by
 refine SH.trans ?_;rw[JQ];exact (List.perm_append_singleton x xs).symm
theorem yJ{α b:Type}{a:List α}(f:α->b)(d:b):∀(o:List Nat),(∀i∈o,i<a.length)->o.map (λi=>((a.map f).toArray).getD i d)=(o.filterMap λi=>a[i]?).map f:=by
 intro k
 induction k with
 |nil=>
  intro _;exact rfl
 |cons i o e=>
  intro h;have c:=h i IW;rw[JF,Lb,IQ c,e λj g=>h j (IS _ g)];simp[Nw,c]
theorem xj{α:Type}{b:List α}{o:List Nat}(h:o.Perm (J3 b.length)):(o.filterMap λi=>b[i]?).Perm b:=by
 refine (h.filterMap _).trans ?_
 suffices (J3 b.length).filterMap (λi=>b[i]?)=b by rw[this]
 have:∀(l a:List α),(UK a.length l.length).filterMap (λi=>(a++l)[i]?)=l:=by
  intro l
  induction l with
  |nil=>intro a;rfl
  |cons x l c=>
   intro a;rw[Ji,List.range'_succ,Lb];have e:(a++x::l)[a.length]?=some x:=by rw[Jo (IV _)];simp
   rw[e];have:=c (a++[x]);simpa using this
 have q:=this b [];simpa [List.range_eq_range'] using q
theorem Di(T:TOk t hs)(h:t.tooFull=false):t.place.size+1<=t.mask:=by
 obtain⟨k,b,a⟩:=T.k;have c:t.fill=t.place.size:=by unfold fill;rw[T.d];rfl
 unfold tooFull at h;simp at h;lia
theorem Hc(v:s.heap.get? S=some o)(D:o.ExactSet)(u:o.data=.set es ep t)(F:es.toList=ents prog w kb)
  (T:TOk t (kb.map λp=>hsh prog w p.1)) (hl:t.led=(!w.params.followText "set-order")) (hp:t.plain=true) (Xu:∀p∈kb,TK prog w s.heap p.1 p.2) (Xw:(kb.map (·.1)).Nodup) (h1:0<kb.length) (hn:kb.length≤1000)
  (h:∀C Wd,Ms S s.heap C->SP prog w C S Wd->Wd.Perm kb->Q () {s with heap:=C }):JN (JE prog w) A (setRelay S (grown kb.length)) Q E s:=by
 have g:es.size=kb.length:=by rw[<-Jg,F];simp[ents]
 have O:t.fits es.size=true:=T.fits (by rw[IM,g]);have x:∀i:Nat,es[i]?=(kb[i]?).map λp=>(hsh prog w p.1,JR p.2):=λi=>by rw[<-J9,F,vw]
 have R:grown kb.length=kb.length*4:=by unfold grown;rw[if_neg (by lia)]
 rw[R];obtain⟨k,V,M,X,Y⟩:=above (kb.length*4) (by lia);have L:(sizeAbove (kb.length*4)-1)+1=2 ^ k:=by lia
 obtain⟨b,a,e,T',c,G,el,y,_⟩:=BP V L (hs:=es.map (·.1)) (by rw[TF,g];lia) t.finger (t.movedTo (sizeAbove (kb.length*4)-1)) t.led t.plain;have q:t.relaid (es.map (·.1)) (kb.length*4)=some (b,a):=e;have B:a.toList.Perm (J3 kb.length):=by rw[TF,g]at c;exact c
 have U:∀i∈a.toList,i<kb.length:=λi W=>JM.mp (B.mem_iff.mp W);have m:=xj B
 have l:(a.filterMap (λi=>es[i]?)).toList=ents prog w (a.toList.filterMap λi=>kb[i]?):=by
  rw[Array.toList_filterMap];unfold ents;rw[List.map_filterMap];congr 1
  funext i
  rw[x]
 have f:(a.filterMap (λi=>es[i]?)).size=es.size:=by
  rw[<-Jg,l,g];unfold ents;rw[IM,m.length_eq]
 refine IP (LB v u O ?_);dsimp only;rw[if_neg (by rw[M,Lc];lia),q]
 have j:JN (JE prog w) A (do
   if (a.filterMap (λi=>es[i]?)).size !=es.size then unsupported "internal:set-table-lost-an-element"
   pure (a.filterMap (λi=>es[i]?),b):Sem (Array (Int×Je)×SetTable)) (λr N=>JN (JE prog w) A (storeSet S r.1 r.2) Q E N) E s:=by
  rw[f];simp only[bne_self_eq_false,Ju,if_false];refine IX ?_;refine R_ v u ?_ (by rw[f,g,Lc];lia)
  have z:(s.heap.update S (Oo (a.filterMap (λi=>es[i]?)) b)).get? S=some {o with data:=.set (a.filterMap (λi=>es[i]?)) (ep+1) b }:=by
   have:=KM (Oo (a.filterMap (λi=>es[i]?)) b) v (by rw[S_ _ b u];rfl);rw[S_ _ b u]at this;exact this
  have H:=MV s.heap S (Oo (a.filterMap (λi=>es[i]?)) b);refine h _ (a.toList.filterMap λi=>kb[i]?) H ⟨⟨_,_,_,b,z,D,rfl,l,?_,by rw[el];exact hl,by rw[y];exact hp,?_,?_⟩,λp J=>?_,?_⟩ m
  .have:=yJ (λp=>hsh prog w p.1) 0 a.toList U;rw[<-this]
   have P:(es.map (·.1))=((kb.map λp=>hsh prog w p.1)).toArray:=by
    apply NT.mp;rw[Qh,F,Cn]
   rw[P]at T';exact T'
  .have K:b.fill=b.place.size:=by unfold fill;rw[T'.d];rfl
   have I:=T'.n;rw[IM,B.length_eq,List.length_range]at I;unfold tooFull;rw[K,I,G];simp;lia
  .rw[G,m.length_eq];lia
  .exact (Xu p (m.mem_iff.mp J)).keep v u H
  .exact ((m.map (·.1)).nodup_iff).mpr Xw
 exact IP j
theorem ud(hu:A.units<Mu)(P:SP prog w s.heap S kb)(O:TK prog w s.heap k x)(hn:kb.length<1000)
  (h:∀b H Wd,Ms S s.heap H->SP prog w H S Wd->(if k∈kb.map (·.1) then Wd=kb else Wd.Perm (kb++[(k,x)]))->Q b {s with heap:=H }):
  JN (JE prog w) A (setAddHashed S (.ref x) (hsh prog w k)) Q E s:=by
 obtain⟨⟨o,c,ep,t,n,B,f,L,T,hl,Y,XT,Xg⟩,M,V⟩:=P;have P0:SP prog w s.heap S kb:=⟨⟨o,c,ep,t,n,B,f,L,T,hl,Y,XT,Xg⟩,M,V⟩;have U:c.size=kb.length:=by rw[<-Jg,L];simp[ents]
 have X:t.fits c.size=true:=T.fits (by rw[IM,U]);obtain⟨N,hN,h0,h1⟩:=tL T (hsh prog w k);have hN':N<100000:=by unfold turns at hN;lia
 unfold setAddHashed setAddHashedIn;refine Ko (IP (LB n f X ?_));dsimp only;rw[tS];simp only[Ju,if_false];unfold setSearch;refine IP (sJ hu n f L T M O hN h0 h1 (λVQ=>?_) (λI=>?_) 100000 0 none (JZ _) (by lia) rfl λm i p hm=>by lia)
 .dsimp only;have F:k ∉ kb.map (·.1):=λz=>by obtain⟨p,D,e⟩:=Jb.mp z;exact VQ p D e
  refine IP (LB n f X ?_);dsimp only;generalize hj:(pth t.mask (hsh prog w k) N).j=j at *;have Z:=T.put (h:=hsh prog w k) (N:=N) (by rw[hj];exact h0) h1 (by have:=zZ (mask:=t.mask) (hsh prog w k) N;lia) (Di T XT);rw[hj]at Z;have u:(t.put j).1.plain=true:=Y;have r:(t.put j).1.led=(!w.params.followText "set-order"):=hl;have y:(t.put j).1.mask=t.mask:=rfl;generalize (t.put j).1=d at *;generalize (t.put j).2=q at *;have R:(iP kb q (k,x)).length=kb.length+1:=by rw[(fR kb q (k,x)).length_eq];simp
  have C:(insertAt c q (hsh prog w k,JR x)).toList=ents prog w (iP kb q (k,x)):=by
   rw[fz,L];unfold ents;rw[rc];rfl
  have G:(insertAt c q (hsh prog w k,JR x)).size=kb.length+1:=by
   rw[<-Jg,C];unfold ents;rw[IM,R]
  have W:TOk d ((iP kb q (k,x)).map λp=>hsh prog w p.1):=by rw[rc];exact Z
  rw[if_pos u];refine IP (HG O ?_);rw[if_pos rfl]
  have J:(s.heap.update S (Oo (insertAt c q (hsh prog w k,JR x)) d)).get? S=some {o with data:=.set (insertAt c q (hsh prog w k,JR x)) (ep+1) d }:=by
   have:=KM (Oo (insertAt c q (hsh prog w k,JR x)) d) n (by rw[S_ _ d f];rfl);rw[S_ _ d f]at this;exact this
  have K:=MV s.heap S (Oo (insertAt c q (hsh prog w k,JR x)) d)
  have g:∀p∈iP kb q (k,x),TK prog w (s.heap.update S (Oo (insertAt c q (hsh prog w k,JR x)) d)) p.1 p.2:=λp D=>by
   have:=(fR kb q (k,x)).mem_iff.mp D;rcases JB.mp this with z |z
   .exact (M p z).keep n f K
   .rw[Jq.mp z];exact O.keep n f K
  have l:((iP kb q (k,x)).map (·.1)).Nodup:=by
   rw[((fR kb q (k,x)).map (·.1)).nodup_iff,Kt,Ny];refine⟨V,by simp,λa ha b hb=>?_⟩;simp at hb;subst hb;rintro rfl;exact F ha
  refine IP (R_ n f ?_ (by rw[G,Lc];lia));rw[Pp,Mx];by_cases v:d.tooFull=true
  .rw[if_pos v,U,<-R];refine IP (Hc (s:={s with heap:=s.heap.update S (Oo (insertAt c q (hsh prog w k,JR x)) d) }) J B rfl C W r u g l (by lia) (by lia) λH Wd W9 P' pm=>IX ?_);exact h true H Wd (K.trans W9) P' (by rw[if_neg F];exact pm.trans (fR kb q (k,x)))
  .rw[if_neg v];refine IX (h true _ (iP kb q (k,x)) K ⟨⟨_,_,_,d,J,B,rfl,C,W,r,u,by simpa using v,by rw[y,R];lia⟩,g,l⟩ (by rw[if_neg F];exact fR kb q (k,x)))
 .dsimp only;refine IX ?_;have F:k∈kb.map (·.1):=by obtain⟨p,D,e⟩:=I;exact Jb.mpr ⟨p,D,e⟩
  exact h false s.heap kb (PH S s.heap) P0 (by rw[if_pos F])
end
section
variable {w:J5}
theorem TK.moved(x:TK prog w s.heap k b)(a:b ∉ wr)(m:Moved wr G s s'):TK prog w s'.heap k b:=by
 obtain⟨o,its,n,f,e,c,d⟩:=x;exact⟨o,its,n,m.heap b o a f,e,c,d⟩
theorem SP.moved(x:SP prog w s.heap S kb)(h:S ∉ wr)(b:∀p∈kb,p.2 ∉ wr)(m:Moved wr G s s'):SP prog w s'.heap S kb:=by
 obtain⟨⟨o,f,d,t,g,r⟩,e,c⟩:=x;exact⟨⟨o,f,d,t,m.heap S o h g,r⟩,λp a=>(e p a).moved (b p a) m,c⟩
structure Got(kx:Nat->List Int×Jt)(i:Nat)(kb:List (List Int×Jt)):Prop where
 src:∀p∈kb,∃j,j<i/\p=kx j
 all:∀j,j<i->(kx j).1∈kb.map (·.1)
 len:kb.length<=i
variable {R:UQ→Jd→Prop}{I:Jt}{fp wr:List Jt}{G:Array Pb→Array Pb→Prop}{n:Nat}{P:Nat→Je→Prop}{St:Nat→Jd→Prop}
theorem zJ(W:WalksS prog w A.in1 I fp wr G n P St)(U:A.in1.units<Mu)(B:S ∉ fp)(d:Nat->List Int×Jt)(hP:∀i v,P i v->v=.ref (d i).2)(r:∀i,i<n->(d i).2 ∉ wr)(hn:n<=1000):
  ∀k i s l,n-i=k->i<=n->St i s->SP prog w s.heap S l->Got d i l->(∀j,j<n->TK prog w s.heap (d j).1 (d j).2)->
   (∀x E,Moved (S::wr) G s x->SP prog w x.heap S E->Got d n E->R (.ok (.ret .none)) x)->
   Og (JE prog w) A (.builtin "set.update.loop" ⟨[.ref S,.ref I],[]⟩) R s:=by
 have y:S ∉ wr:=λh=>B (W.sub _ h);have more:∀b∈wr,b∈S::wr:=λb hb=>IS _ hb;intro k
 induction k with
 |zero=>
  intro i s l hk hi J M g V Q;obtain rfl:i=n:=by lia
  refine Nh PyProof.Rows.F.entry_set_update_loop ?_;rw[NK PyProof.Rows.F.plain_set_update_loop _];refine IP (W.done s _ _ J λx m=>?_);exact IX (Q x l (m.mono more) (M.moved y (λp u=>by obtain⟨j,a,rfl⟩:=g.src p u;exact r j a) m) g)
 |succ k Z=>
  intro i s l hk hi J M g V Q;have D:i<n:=by lia
  have Y:∀p∈l,p.2 ∉ wr:=λp u=>by obtain⟨j,a,rfl⟩:=g.src p u;exact r j (by lia)
  refine Nh PyProof.Rows.F.entry_set_update_loop ?_;rw[NK PyProof.Rows.F.plain_set_update_loop _];refine IP (W.item i s _ _ D J λv f pv st1 m=>?_);obtain rfl:=hP i v pv;have C:=M.moved y Y m;have q:∀j,j<n->TK prog w f.heap (d j).1 (d j).2:=λj a=>(V j a).moved (r j a) m;refine IP (Ko ?_);unfold setAdd;refine Ko (IP (wpAny_pyHash_tuple U (q i D) ?_));refine ud (s:={f with toks:=f.toks+((d i).1.length+1) }) U C (q i D) (by have:=g.len;lia) λb h' E L K c=>?_;obtain⟨⟨o,es,ep,t,ho,hex,hd,H⟩,X,Xw⟩:=C;have same:∀b o,b ∉ S::wr->f.heap.get? b=some o->h'.get? b=some o:=λb o hb e=>by rw[L.2 b (λz=>hb (by rw[z];exact IW))];exact e
  refine IX ⟨OU PyProof.Rows.F.plain_set_update_loop _,Z (i+1) _ E (by lia) D (W.frame _ f _ _ st1 (by show f.toks<=f.toks+_;lia) λb hb o e=>?_) K ?_ (λj a=>(q j a).keep ho hd L) λs2 O m2 N g2=>?_⟩
  .rw[L.2 b (λz=>B (by rw[<-z];exact hb))];exact e
  .by_cases T:(d i).1∈l.map (·.1)
   .rw[if_pos T]at c;subst c;refine⟨λp u=>?_,λj a=>?_,by have:=g.len;lia⟩
    .obtain⟨j,a,e⟩:=g.src p u;exact⟨j,by lia,e⟩
    .rcases JD (J4 a) with z |z
     .exact g.all j z
     .rw[z];exact T
   .rw[if_neg T]at c;refine⟨λp u=>?_,λj a=>?_,by rw[c.length_eq];have:=g.len;simp;lia⟩
    .rcases JB.mp (c.mem_iff.mp u) with z |z
     .obtain⟨j,a,e⟩:=g.src p z;exact⟨j,by lia,e⟩
     .exact⟨i,Kh i,by rw[Jq.mp z]⟩
    .rw[(c.map (·.1)).mem_iff,Kt];rcases JD (J4 a) with z |z
     .exact JO _ (g.all j z)
     .rw[z];exact Jf _ (by simp)
  .exact Q s2 O (Moved.trans W.gtrans ((m.mono more).then_heap (by show f.toks<=f.toks+_;lia) same) m2) N g2
end
section
variable {w:J5}{s:Jd}
noncomputable abbrev cp(w:J5):Obj:={cls:=.type "set",dict:=none,data:=.set #[] 0 (.fresh 0 0 (!w.params.followText "set-order")) }
theorem zn:TOk (.fresh 0 0 (!w.params.followText "set-order")) [] where
 R:=by intro i j x y _ h;simp[SetTable.fresh]at h
 d:=rfl
 k:=⟨3,by decide,rfl⟩
 n:=rfl
 f:=by show 0<=7;decide
 le:=by intro i x h;simp[SetTable.fresh]at h
 reach:=by intro i x h a;simp[SetTable.fresh]at a
theorem zF(e:h.get? S=some (cp w)):SP prog w h S []:=by
 refine⟨⟨_,_,_,_,e,⟨rfl,rfl,rfl⟩,rfl,rfl,zn,rfl,rfl,by simp[SetTable.tooFull,SetTable.fresh,SetTable.fill],by show 7<8;decide⟩,λp a=>by simp at a,by simp⟩
theorem Dm(a)(h:Q (.ref s.heap.objs.size) {s with heap:=s.heap.push (cp w) }):
  Og (JE prog w) A (.call (.builtin "set.__new__") ⟨[.type "set",a],[]⟩) (wants Q E) s:=by
 refine Ta ?_;refine IP (wpAny_of_eq (PySem.F.newCall_set_1 a) (IX ⟨OU QL _,Nh PySem.F.entry_set_new ?_⟩));rw[NK QL _];unfold Builtin.«set.__new__» Builtin.Frozenset.newClass;have b:=sub_set_self
 wp_walk
 refine NU (IX ?_);simp only[newObj];exact IP (wpAny_alloc (IX (IX h)))
set_option maxRecDepth 100000 in
theorem call_set_pts(u:Nat->List Int×Jt)(hh:A.handled=none)(hu:A.in1.in1.in1.units<Mu)(hl:s.heap.IsList l items)
  (VZ:∀i (v:Je),items[i]?=some v->v=.ref (u i).2) (Wf:∀i,i<items.size->TK prog w s.heap (u i).1 (u i).2) (hn:items.size<=1000)
  (h:∀a J c,SP prog w a s.heap.objs.size c->Got u items.size c->(∀b o,s.heap.get? b=some o->a.get? b=some o)->Q (.ref s.heap.objs.size) {s with heap:=a,toks:=J }):
  JN (JE prog w) A (call (.type "set") [.ref l]) Q E s:=by
 obtain⟨cc,tl,hmro⟩:=Lp.mro;have L:=Lp.made;have hsub:=Lp.sub;refine Py (Ta ?_);refine IX ⟨Code.quiet_builtin _ (by decide+kernel),Nh PySem.F.entry_type_call ?_⟩;rw[Around.under_plain (weight_type_call_type "set" [.ref l] []) rfl];have g1:=Lp.notType;have g2:=Lp.canCreate;have g3:=PySem.F.typeCall_set_1 (.ref l)
 repeat (any_goals (first |assumption |wp_step))
 refine Nf (Dm (w:=w) (.ref l) (E:=E) (Q:=λC Vc=>C=.ref s.heap.objs.size/\Vc={s with heap:=s.heap.push (cp w) }) ⟨rfl,rfl⟩) λr Vc O=>?_;cases r with
 |error e=>exact O
 |ok fl=>
  cases fl with
  |ret C=>
   obtain⟨rfl,rfl⟩:=O;have Z:(s.heap.push (cp w)).get? s.heap.objs.size=some (cp w):=Jm _ rfl;have hT:Shared.TypeIs {s with heap:=s.heap.push (cp w) } (.ref s.heap.objs.size) "set":=⟨_,Z,rfl⟩
   have hli:=Lp.init.lookup;have hbi:=Lp.init.bind (.ref s.heap.objs.size)
   repeat (any_goals (first |assumption |wp_step))
   refine Nf (OP (R:=wants (λr VN=>r=.none/\∃a J c,VN={s with heap:=a,toks:=J }/\
     SP prog w a s.heap.objs.size c/\Got u items.size c/\(∀b o,s.heap.get? b=some o->a.get? b=some o)) E) Lp.init.plain PySem.F.entry_set_init (check_set_init_1 hT ?_)) λx VN T=>?_
   .obtain⟨ol,H,D,nl,I⟩:=hl;obtain⟨W,q,U,d⟩:=ol;simp only at D I;subst D;subst I;have y:(s.heap.push (cp w)).get? l=some {cls:=.type "list",dict:=q,data:=.seq items nl,slots:=d }:=IU _ H;have k1:=PySem.F.sub_list_set;have k2:=PySem.F.sub_list_frozenset;have k3:(L_ "list"==L_ "dict")=false:=by decide
    have X:(s.heap.push (cp w)).IsList l items:=⟨_,y,rfl,nl,rfl⟩;unfold Builtin.«set.__init__» noKeywords Builtin.Frozenset.updateFrom;generalize hPI:SW=PI
    wp_walk
    subst hPI;refine MP X (IP (wpAny_runValue ?_));have B:l<s.heap.objs.size:=Jc H;have h3:A.in1.in1.in1.handled=none:=by simp[hh]
    have f:(s.heap.push (cp w)).objs.size=s.heap.objs.size+1:=Ll ..;have G:l≠(s.heap.push (cp w)).objs.size:=by rw[f];exact Jv (LA B)
    have N:s.heap.objs.size ∉ [(s.heap.push (cp w)).objs.size,l]:=by
     rw[f];intro z;rcases IT.mp z with z |z
     .exact absurd z (Jv (Kh _))
     .exact absurd (Jq.mp z) (Mt B)
    refine zJ ((Walks.list h3 _ l G items).toS) hu N u VZ (λi hi=>?_) hn (items.size-0) 0 _ [] (by lia) (JZ _)
     ⟨⟨_,Jm _ rfl,rfl,rfl⟩,(X.push _)⟩ ?_ ⟨λp hp=>by simp at hp,λj Y=>by lia,by simp⟩ (λj Y=>?_) λs' c m t g=>?_
    .intro z;have V:=Jq.mp z;obtain⟨o,_,_,S,_⟩:=Wf i hi;have:=Jc S;rw[V,f]at this;exact JY _ (J6 (Kh _) this)
    .exact zF (IU _ Z)
    .obtain⟨o,its,k,S,r⟩:=Wf j Y;exact⟨o,its,k,IU _ (IU _ S),r⟩
    .obtain⟨a,g',d',K,M⟩:=s';obtain rfl:g'=s.gens:=m.gens;obtain rfl:d'=s.drawn:=m.drawn;obtain rfl:M=s.os:=m.os;refine IX ?_;show JN _ _ (ret LN) _ _ _;refine IX ⟨rfl,a,K,c,rfl,t,g,λb o e=>?_⟩;have hb:=Jc e;refine m.heap b o (λz=>?_) (IU _ (IU _ e));rcases IT.mp z with z |z
     .exact absurd z (Jv hb)
     .have V:=Jq.mp z;rw[V,f]at hb;exact JY _ (J6 (Kh _) hb)
   .cases x with
    |error e=>exact T
    |ok n=>
     cases n with
     |ret r=>
      obtain⟨rfl,a,J,c,rfl,t,g,P⟩:=T
      repeat (any_goals (first |assumption |wp_step))
      exact h _ _ c t g P
     |_=>exact T.elim
  |_=>exact O.elim
end
theorem dS:Slot "set_iterator" "__next__" "set_iterator.__next__":=
 .of (owner:="set_iterator") (n:="__next__") (by rw[Nl,LJ];kernel_rfl) (by decide+kernel) (by decide+kernel) (by decide+kernel) (by first |exact .inl (by decide+kernel) |exact .inr (by decide+kernel)) (by rw[Ou];kernel_rfl)
theorem nH:entryFor table "set_iterator.__next__"=some Builtin.«set_iterator.__next__»:=entryFor_of_tree (by kernel_rfl)
theorem oJ(a):UU "set_iterator.__next__" ⟨[a],[]⟩:=by unfold UU;kernel_rfl
theorem uf:entryFor table "set.__iter__"=some Builtin.«frozenset.__iter__»:=TH (id':="frozenset.__iter__") (by kernel_rfl) rfl (by decide+kernel) (by kernel_rfl)
theorem ur{α:Type}{l:List α}(h:i<l.length):(l[i]::l.eraseIdx i).Perm l:=by
 rw[List.eraseIdx_eq_take_drop_succ];refine SH.symm.trans ?_;rw[<-JJ h,JQ]
theorem BU{α:Type}(next):∀c k a (out:Array α),a.length=c->(pickOrder.go next c k a out).toList.Perm (out.toList++a):=by
 intro e
 induction e with
 |zero=>
  intro k a out h;obtain rfl:a=[]:=KY.mp h;rw[pickOrder.go,Km]
 |succ c d=>
  intro k a out h;have b:next k%a.length<a.length:=KC _ (by lia)
  rw[pickOrder.go,IQ b];refine (d (k+1) _ _ (by rw[List.length_eraseIdx_of_lt b];lia)).trans ?_;rw[Mf,Jj];refine Mz _ ?_;rw[List.singleton_append];exact ur b
theorem A0{α:Type}(next)(xs:Array α):(RK next xs).toList.Perm xs.toList:=by
 unfold RK;have:=BU next xs.size 0 xs.toList #[] (by simp)
 simpa using this
section
variable {w:J5}{s:Jd}
noncomputable def cO(w:J5)(S:Jt)(a:Array (Int×Je))(b:Nat):List Je:=(if w.params.followText "set-order"=true then RK (w.params.setOrder S b) a else a).toList.map (·.2)
theorem fF(w)(S)(es)(ep):(cO w S es ep).Perm (es.toList.map (·.2)):=by
 refine List.Perm.map _ ?_;split
 .exact A0 _ es
 .exact Rh _
noncomputable def ic(t:SetTable):Nat->Nat
 |0=>0
 |j+1=>t.place.getD j 0+1
noncomputable def aZ(w:J5)(t:SetTable)(i:Nat):Nat:=if w.params.followText "set-order"=true then 0 else ic t i
def uF(w:J5)(h:Ma)(b S:Jt)(t:SetTable)(i n a:Nat):Prop:=∃o,h.get? b=some o∧o.cls=.type "set_iterator"∧o.data=.fields #[OK (aZ w t i),OK i,.ref S,OK n,OK a]
theorem uF.ty(x:uF w s.heap it S t i n ep):s.TypeIs (.ref it) "set_iterator":=let ⟨o,ho,hc,_⟩:=x;⟨o,ho,hc⟩
structure SO(prog:Jr)(w:J5)(o:Obj)(es:Array (Int×Je))(ep:Nat)(t:SetTable)(hs:List Int):Prop where
 ex:o.ExactSet
 d:o.data=.set es ep t
 T:TOk t hs
 n:hs.length=es.size
 led:t.led=(!w.params.followText "set-order")
 plain:t.plain=true
theorem y6{es ep t hs}(O:SO prog w o es ep t hs)(a:s.heap.get? S=some o)(h:Q false s):JN (JE prog w) A (setDrawn S) Q E s:=by
 refine IP (LB a O.d (O.T.fits O.n) (IP (IP (NU (IX (IX ?_))))));have q:Q (!w.params.followText "set-order" && (!t.plain && decide (es.size >1))) s:=by rw[O.plain];simpa using h
 exact q
theorem Bl{es ep t hs}(O:SO prog w o es ep t hs)(a:s.heap.get? S=some o)
  (hQ:Q (.ref s.heap.objs.size) {s with heap:=s.heap.push {cls:=.type "set_iterator",data:=.fields #[OK 0,OK 0,.ref S,OK es.size,OK ep] } }):JN (JE prog w) A (SW (.ref S)) Q E s:=by
 have b:s.TypeIs (.ref S) "set":=⟨o,a,O.ex.1⟩;refine Sa b QM (LU QM b uf ?_ (PySem.F.args_set_iter_1 _));show JN _ _ (Builtin.Frozenset.sizeOf S >>=_) _ _ s;refine IP (IP (O1 a O.d (O.T.fits O.n) (IX ?_)));refine IP (y6 O a ?_);simp only[Ju,if_false];refine IP (IX ?_);refine IP (wpAny_setEpoch_of a O.d (O.T.fits O.n) ?_);refine IP (MM (IX ⟨_,rfl,"set_iterator",_,⟨_,Jm _ rfl,rfl⟩,dS.lookup,?_⟩));exact hQ
theorem uV(T:TOk t hs)(g:i<=t.place.size):below t.place (ic t i)=i:=by
 obtain⟨a,d,f⟩:=f9 T.R (ic t i);cases i with
 |zero=>
  dsimp only[ic]at *;rcases MA (below t.place 0) with z |z
  .exact z
  .have:=a 0 _ z (eV (by lia));lia
 |succ j=>
  dsimp only[ic]at *;have c:j<t.place.size:=by lia
  have e:t.place.getD j 0=t.place[j]:=by simp[Nw,c]
  rw[e]at a d f |-;generalize hb:below t.place (t.place[j]+1)=b at *;rcases Nv b (j+1) with z |z |z
  .have:=d j t.place[j] (by lia) (eV c);lia
  .exact z
  .have q:=a (j+1) _ z (eV (by lia));have:=T.R j (j+1) _ _ (by lia) (eV c) (eV (show j+1<t.place.size by lia));lia
theorem mC{es ep t hs}(O:SO prog w o es ep t hs)(g:s.heap.get? S=some o)(u:i<=es.size)
  (h:Q (((cO w S es ep)[i]?).map λv=>(v,aZ w t (i+1))) s):JN (JE prog w) A (setNext S (aZ w t i) i ep) Q E s:=by
 have c:=O.T.fits O.n;have r:t.place.size=es.size:=by rw[O.T.n,O.n]
 refine IP (LB g O.d c (IP (IP (NU (IX ?_)))));by_cases a:w.params.followText "set-order"=true
 .dsimp only;rw[show (JE prog w).w.params.followText "set-order"=true from a,if_pos rfl,if_neg (by simp)];refine IP (IP (LB g O.d c (IP (IP (NU (IX ?_))))));rw[show (JE prog w).w.params.followText "set-order"=true from a,if_pos rfl];refine IP (NU (IX (IX ?_)))
  have e:U0 (λe=>(e.2,aZ w t i)) (RK (w.params.setOrder S ep) es)[i]?=((cO w S es ep)[i]?).map λv=>(v,aZ w t (i+1)):=by
   unfold cO aZ;rw[if_pos a,if_pos a,if_pos a,I0,J9,Option.map_map];rfl
  have q:Q (U0 (λe=>(e.2,aZ w t i)) (RK (w.params.setOrder S ep) es)[i]?) s:=by rw[e];exact h
  exact q
 .have f:w.params.followText "set-order"=false:=by simpa using a
  rw[show (JE prog w).w.params.followText "set-order"=false from f,if_neg (by simp)];have k:aZ w t i=ic t i:=by unfold aZ;rw[if_neg a]
  have m:below t.place (aZ w t i)=i:=by rw[k];exact uV O.T (by lia)
  have l:(match es[below t.place (aZ w t i)]?,t.place[below t.place (aZ w t i)]? with
    |some (_,x),some j=>some (x,j+1)
    |_,_=>none)=((cO w S es ep)[i]?).map λv=>(v,aZ w t (i+1)):=by
   rw[m];unfold cO aZ;rw[if_neg a,if_neg a,I0,J9];rcases LI i es.size with z |z
   .have b:i<t.place.size:=by lia
    simp[z,b,Nw,ic]
   .have b:t.place.size<=i:=by lia
    simp[z,b]
  split
  .rename_i p
   exact absurd (show (!t.plain && decide (es.size >1))=true from p) (by rw[O.plain];simp)
  .refine IP ?_;show JN _ _ (if (!t.led && !es.isEmpty)=true then unsupported "set:maker-not-led" else pure ()) _ _ _;rw[O.led,f,if_neg (by simp)];refine IX (IX ?_)
   have q:Q (match es[below t.place (aZ w t i)]?,t.place[below t.place (aZ w t i)]? with
    |some (_,x),some j=>some (x,j+1)
    |_,_=>none) s:=by rw[l];exact h
   exact q
theorem ye{es ep t hs}(O:SO prog w o es ep t hs)(f:s.heap.get? S=some o)(e:uF w s.heap it S t i es.size ep)(g:(cO w S es ep)[i]?=some v)
  (hQ:∀c,uF w c it S t (i+1) es.size ep->Ms it s.heap c->Q (some v) {s with heap:=c }):JN (JE prog w) A (UO (.ref it)) Q E s:=by
 obtain⟨m,a,k,b⟩:=id e;have j:=O.T.fits O.n;refine IP (N7 (N9 e.ty dS (LU dS e.ty nH ?_ (oJ _))));refine IP (IX ?_);refine IP (TJ a b ?_);dsimp only[OK];refine IP (O1 f O.d j ?_);rw[if_neg (by simp)]
 have l:i<es.size:=by
  have q:=(I_.mp g).1;rw[(fF w S es ep).length_eq,IM,Jg]at q;exact q
 rw[show ((aZ w t i:Nat):Int).toNat=aZ w t i from LC _,show (i:Int).toNat=i from LC _,show (ep:Int).toNat=ep from LC _];refine IP (mC O f (Ja l) ?_);rw[g];refine IP (Ov a b (by simp) ?_);have h:=KM (RL (·.setIfInBounds 0 (Oy ((aZ w t (i+1):Nat)) 0))) a (OA (Lq b _));refine IP (Ov h (Lq b _) (by simp) ?_);refine IX ⟨_,rfl,IX (hQ _ ?_ ((MV ..).trans (MV ..)))⟩;refine⟨_,KM _ h (OA (Lq (Lq b _) _)),(Sb ..).trans ((Sb ..).trans k),?_⟩;rw[Lq (Lq b _)];simp[OK]
theorem A9{es ep t hs}(g:A.handled=none)(O:SO prog w o es ep t hs)(f:s.heap.get? S=some o)(b:uF w s.heap it S t es.size es.size ep)
  (hQ:∀c,UI it s.heap c->Q none {s with heap:=c }):JN (JE prog w) A (UO (.ref it)) Q E s:=by
 obtain⟨i,a,j,e⟩:=id b;have h:=O.T.fits O.n;refine IP (N7 (N9 b.ty dS (LU dS b.ty nH ?_ (oJ _))));refine IP (IX ?_);refine IP (TJ a e ?_);dsimp only[OK];refine IP (O1 f O.d h ?_);rw[if_neg (by simp)];rw[show ((aZ w t es.size):Int).toNat=aZ w t es.size from LC _,show (es.size:Int).toNat=es.size from LC _,show (ep:Int).toNat=ep from LC _];refine IP (mC O f (IV _) ?_);rw[show (cO w S es ep)[es.size]?=none from J_ (by rw[(fF w S es ep).length_eq,IM,Jg];exact IV _)];refine IP (Ov a e (by simp) ?_);refine IP ?_;simp only[newExc,newTuple];refine IP (MM ?_ (by size_fits));refine IP (wpAny_of_eq (by first |rfl | (simp only[firstArgMember];rfl)) ?_);refine MM ?_ (by size_fits);simp only[raiseNew];refine IP (wpAny_handled ?_);rw[show A.in1.handled=none from g];refine IP (IX (Tc ?_));refine IP (M5 ⟨_,Jm _ rfl,rfl⟩ Ri ?_);exact IX (hQ _ (((MV ..).extBut.push _).push _))
end
end ST
namespace ST
open PySem PySem.SetTable PySem.W
theorem ou:Slot "set_iterator" "__iter__" "set_iterator.__iter__":=
 .of (owner:="set_iterator") (n:="__iter__") (by rw[Nl,LJ];kernel_rfl) (by decide+kernel) (by decide+kernel) (by decide+kernel) (by first |exact .inl (by decide+kernel) |exact .inr (by decide+kernel)) (by rw[Ou];kernel_rfl)
theorem uI:entryFor table "set_iterator.__iter__"=some Builtin.«dict_keyiterator.__iter__»:=TH (id':="dict_keyiterator.__iter__") (by kernel_rfl) rfl (by decide+kernel) (by kernel_rfl)
theorem xz(a):UU "set_iterator.__iter__" ⟨[a],[]⟩:=by unfold UU;kernel_rfl
section
variable {prog:Jr}{w:J5}{A:Kb}{E:Je→Jd→Prop}{s:Jd}
theorem Dj(a:uF w s.heap it S t i n ep)(h:Q (.ref it) s):JN (JE prog w) A (SW (.ref it)) Q E s:=by
 refine Sa a.ty ou (LU ou a.ty uI ?_ (xz _));exact IX ⟨_,rfl,"set_iterator",_,a.ty,dS.lookup,h⟩
theorem xr(m:A.handled=none){c S:Jt}(n:S≠c){o:Obj}{es ep t hs}(O:SO prog w o es ep t hs):
  Walks prog w A c [c,S] [c] es.size (λi v=>(cO w S es ep)[i]?=some v) (λi h=>uF w h c S t i es.size ep/\h.get? S=some o) where
 sub:=λb hb=>by simp at hb;simp[hb]
 frame:=λ_ _ _ a k=>⟨let ⟨x,hx,r⟩:=a.1;⟨x,k c (by simp) x hx,r⟩,k S (by simp) o a.2⟩
 item:=λi s Q E q a d=>by
  obtain⟨v,j⟩:∃v,(cO w S es ep)[i]?=some v:=⟨_,IQ (by rw[(fF w S es ep).length_eq,IM,Jg];exact q)⟩
  refine ye O a.2 a.1 j λg f l=>?_;exact d v g s.toks j ⟨f,(l.2 S n).trans a.2⟩ λb x hb e=>l.extBut b x (λz=>hb (by simp[z])) e
 done:=λs Q E a d=>A9 m O a.2 a.1 λg p=>d g s.toks λb x hb e=>p b x (λz=>hb (by simp[z])) e
 self:=λ_ _ _ _ a d=>Dj a.1 d
theorem Bv(a:s.TypeIs (.ref r) "set")(h:Q false s):JN (JE prog w) A (Builtin.List.listLengthHint (.ref r)) Q E s:=by
 unfold Builtin.List.listLengthHint;refine IP (Mi a PySem.F.slot_set_len.lookup ?_);generalize hid:("set.__len__":String)=c
 wp_delta
 rw[show splitId c=some ("set","__len__") from by subst hid;decide+kernel];subst hid;refine IP (M5 (T:="set") (b:=true) a (by rw[Ou];kernel_rfl) ?_);refine Nn (λz=>absurd z (by decide)) (λ_=>?_);refine Nn (λ_=>?_) (λz=>absurd (by decide+kernel) z);exact IP (Su a (IX h))
theorem CO{S:Jt}{o:Obj}{es ep t hs}(O:SO prog w o es ep t hs):KdlSrc prog w "set" S S es.size (λi v=>(cO w S es ep)[i]?=some v) (λh=>h.get? S=some o) where
 type:=λ_ a=>⟨o,a,O.ex.1⟩
 there:=λ_ a=>⟨Jc a,Jc a⟩
 keep:=λ_ _ a d=>d S (.inl rfl) o a
 notList:=by decide
 notTuple:=by decide
 hint:=λ_ _ _ _ a b=>Bv ⟨o,a,O.ex.1⟩ b
 iter:=λ_ s c a=>⟨_,_,(λ_ _ b=>Bl O a b),xr c (Jv (Jc a)) O,⟨⟨_,Jm _ rfl,rfl,by simp[aZ,ic]⟩,IU _ a⟩⟩
end
end ST
namespace ST
open PySem PySem.W PyProof.Rows
variable {lt:Nat→Nat→Bool}{n:Nat}
abbrev g(p:Array Nat)(k:Nat):Nat:=p.getD k 0
noncomputable def ltP(a b:Int×Int):Bool:=decide (a.1<b.1\/(a.1=b.1/\a.2<b.2))
theorem BE(e:ltP a b=true)(d:ltP b c=true):ltP a c=true:=by
 unfold ltP at *;simp at *;lia
theorem vh(c:ltP a b=true):ltP b a=false:=by
 unfold ltP at *;simp at *;lia
theorem uZ(h:a≠b)(c:ltP a b=false):ltP b a=true:=by
 unfold ltP at *;have:¬ (a.1=b.1/\a.2=b.2):=λz=>h (MB z.1 z.2);simp at *;lia
section
variable {prog:Jr}{w:J5}{A:Kb}{E:Je→Jd→Prop}{s:Jd}
theorem TK.two(k:TK prog w h [x,y] b):∃o its n t u,h.get? b=some o∧o.cls=.type "tuple"∧o.data=.seq its n∧its.toList=[.int x t,.int y u]:=by
 obtain⟨o,its,n,j,e,f,a⟩:=k;cases Vm:its.toList with
 |nil=>rw[Vm]at a;cases a
 |cons l r=>
  rw[Vm]at a;cases a with
  |cons d i=>
   cases i with
   |cons g c=>
    cases c;obtain⟨t,rfl⟩:=Of d;obtain⟨u,rfl⟩:=Of g;exact⟨o,its,n,t,u,j,e,f,Vm⟩
theorem E_(i:TK prog w s.heap [a.1,a.2] x)(p:TK prog w s.heap [b.1,b.2] y)(h:Q (ltP a b) s):JN (JE prog w) A (keyLt' (UL true) (.ref x) (.ref y)) Q E s:=by
 obtain⟨o,its,n,t,u,m,_,q,g⟩:=i.two;obtain⟨r,c,B,v,C,l,_,j,e⟩:=p.two;refine kat_lt m q l j ?_;rw[g,e];refine kat_cons ((Rk prog w).eqBool (a:=a.1) (b:=b.1) (Nz _ _ _ _) (Nz _ _ _ _) ?_);by_cases d:a.1=b.1
 .rw[decide_eq_true d];refine kat_yes (kat_cons ((Rk prog w).eqBool (a:=a.2) (b:=b.2) (Nz _ _ _ _) (Nz _ _ _ _) ?_));by_cases f:a.2=b.2
  .rw[decide_eq_true f];refine kat_yes (kat_nil ?_);have z:ltP a b=false:=by unfold ltP;simp;lia
   rw[z]at h
   have k:decide (its.size<c.size)=false:=by
    rw[<-Jg,<-Jg,g,e];simp
   rw[k];exact h
  .rw[decide_eq_false f];refine kat_no (kat_one _ _ (lt_int ?_));have z:ltP a b=decide (a.2<b.2):=by unfold ltP;rw[d];simp
   rw[z]at h;exact h
 .rw[decide_eq_false d];refine kat_no (oneLt_int ?_);have z:ltP a b=decide (a.1<b.1):=by unfold ltP;simp[d]
  rw[z]at h;exact h
noncomputable abbrev PB:=List ((Int×Int)×Jt)
noncomputable abbrev refs(a:PB):List Je:=a.map λp=>JR p.2
theorem Bh(e:∀p∈pb,TK prog w s.heap [p.1.1,p.1.2] p.2)(m:0<pb.length)(h:Q (UL true) s):JN (JE prog w) A (keyKind' (refs pb).toArray) Q E s:=by
 obtain⟨fs,b,d,c⟩:∃fs,KatTups s.heap (refs pb) fs/\fs.length=pb.length/\∀v∈fs,∃n t,v=Oy n t:=by
  clear h m
  induction pb with
  |nil=>exact⟨[],.nil,rfl,λv a=>by simp at a⟩
  |cons p r f=>
   obtain⟨fs,b,d,c⟩:=f λq i=>e q (IS _ i);obtain⟨o,its,n,t,u,k,j,l,g⟩:=(e p IW).two;refine⟨.int p.1.1 t::fs,.cons k j l (by rw[<-J9,g];rfl) b,by simp[d],λv a=>?_⟩;rcases IT.mp a with z |z
   .exact⟨_,_,z⟩
   .exact c v z
 refine kat_kind (T:=.type "int") b (by lia) (λv a=>?_) (by decide) h;obtain⟨n,t,rfl⟩:=c v a;exact Looks.of_pure rfl
end
end ST
namespace ST
open PySem PySem.W PyProof.Rows PySem.Calls
theorem Ab{α d:Type}(f:α->d){l m:List d}(h:l.Perm m):∀a,m=a.map f->∃b,RM b a/\l=List.map f b:=by
 induction h with
 |nil=>intro a e;exact⟨a,.refl _,e⟩
 | @cons x l m _ g=>
  intro a e
  match a,e with
  |[],e=>simp at e
  |k::a,e=>
   rw[JF,Td]at e;obtain⟨b,p,q⟩:=g a e.2;exact⟨k::b,p.cons k,by rw[JF,<-q,e.1]⟩
 |swap x y l=>
  intro a e
  match a,e with
  |[],e=>simp at e
  |[_],e=>simp at e
  |k::k'::a,e=>
   simp only[JF,Td]at e;exact⟨k'::k::a,.swap k k' a,by rw[JF,JF,<-e.2.2,e.1,e.2.1]⟩
 |trans _ _ s r=>
  intro a e;obtain⟨c,i,n⟩:=r a e;obtain⟨o,t,j⟩:=s c n;exact⟨o,t.trans i,j⟩
noncomputable def ptsOf(a:List (List Int×Jt)):PB:=a.map λp=>((p.1.getD 0 0,p.1.getD 1 0),p.2)
end ST
namespace ST
open PySem
noncomputable def ins(x:Int×Int):List (Int×Int)->List (Int×Int)
 |[]=>[x]
 |y::r=>if x=y then y::r else if ltP x y=true then x::y::r else y::ins x r
noncomputable def srt(a:List (Int×Int)):List (Int×Int):=a.foldr ins []
theorem ql(x z):∀l,z∈ins x l↔z=x\/z∈l
 |[]=>by simp[ins]
 |y::r=>by
  unfold ins;split
  .rename_i h;subst h;simp
  .split
   .simp
   .rw[IT,ql x z r,IT];constructor
    .rintro (h |h |h)
     .exact .inr (.inl h)
     .exact .inl h
     .exact .inr (.inr h)
    .rintro (h |h |h)
     .exact .inr (.inl h)
     .exact .inl h
     .exact .inr (.inr h)
abbrev Asc(l:List (Int×Int)):Prop:=l.Pairwise (λx y=>ltP x y=true)
theorem v7(x):∀l,Asc l->Asc (ins x l)
 |[],_=>by simp[ins]
 |y::r,h=>by
  unfold ins;split
  .exact h
  .rename_i f
   obtain⟨c,d⟩:=J0.mp h;split
   .rename_i a
    refine J0.mpr ⟨λz b=>?_,h⟩;rcases IT.mp b with e |e
    .rw[e];exact a
    .exact BE a (c z e)
   .rename_i a
    refine J0.mpr ⟨λz b=>?_,v7 x r d⟩;rcases (ql x z r).mp b with e |e
    .rw[e];exact uZ f (by simpa using a)
    .exact c z e
theorem srt_mem(z):∀l,z∈srt l↔z∈l
 |[]=>by simp[srt]
 |y::r=>by
  show z∈ins y (srt r)↔_;rw[ql,srt_mem z r,IT]
theorem srt_asc:∀l,Asc (srt l)
 |[]=>Oj
 |y::r=>v7 y (srt r) (srt_asc r)
theorem wn:ltP x x=false:=by unfold ltP;simp
theorem asc_one:∀{l m},Asc l->Asc m->(∀z,z∈l↔z∈m)->l=m
 |[],[],_,_,_=>rfl
 |[],y::r,_,_,h=>by have:=(h y).mpr IW;simp at this
 |x::l,[],_,_,h=>by have:=(h x).mp IW;simp at this
 |x::l,y::m,hl,hm,h=>by
  obtain⟨c,f⟩:=J0.mp hl;obtain⟨d,g⟩:=J0.mp hm
  have e:x=y:=by
   rcases IT.mp ((h x).mp IW) with z |z
   .exact z
   .rcases IT.mp ((h y).mpr IW) with b |b
    .exact b.symm
    .have:=vh (d x z);rw[c y b]at this;cases this
  subst e;congr 1;refine asc_one f g λz=>⟨λa=>?_,λa=>?_⟩
  .rcases IT.mp ((h z).mp (IS _ a)) with e |e
   .have:=c z a;rw[e,wn]at this;cases this
   .exact e
  .rcases IT.mp ((h z).mpr (IS _ a)) with e |e
   .have:=d z a;rw[e,wn]at this;cases this
   .exact e
theorem asc_srt(h:Asc l):srt l=l:=asc_one (srt_asc l) h λz=>srt_mem z l
theorem wD(x):∀l,(ins x l).length<=l.length+1
 |[]=>by simp[ins]
 |y::r=>by
  have:=wD x r;unfold ins;split
  .simp
  .split
   .simp
   .simp only[Ji];lia
theorem srt_len:∀l,(srt l).length<=l.length
 |[]=>IV _
 |y::r=>by
  have h1:=wD y (srt r);have a:=srt_len r;show (ins y (srt r)).length<=_;simp only[Ji];lia
end ST
namespace L2
open PySem PySem.Spec PyProof.Rows
theorem IL{p:Nat->Jt->Prop}(h:∀i,i<n->∃b,p i b):∃f:Nat->Jt,∀i,i<n->p i (f i):=by
 refine⟨λi=>if k:i<n then SI (h i k) else 0,λi a=>?_⟩;dsimp only;rw[dif_pos a];exact QN (h i a)
theorem zg:KZ "set"=some (.type "set"):=by decide+kernel
end L2
namespace ST
open PySem
variable {G:Array Pb→Array Pb→Prop}{P:Nat→Je→Prop}{T:String}
section
variable {prog:Jr}{w:J5}{A:Kb}{s:Jd}{R:UQ→Jd→Prop}{I:Jt}{fp wr:List Jt}{n:Nat}{St:Nat→Jd→Prop}
def C_(prog:Jr)(w:J5)(T:String):Prop:=∀(A:Kb) (E:Je->Jd->Prop) (s:Jd) (r:Jt) (Q:Bool->Jd->Prop),s.TypeIs (.ref r) T->(∀b,Q b s)->JN (JE prog w) A (Builtin.List.listLengthHint (.ref r)) Q E s
end
section
variable {prog:Jr}{w:J5}{A:Kb}{E:Je→Jd→Prop}{s:Jd}{I:Jt}{Fi:Jd→Prop}
theorem call_list_any(u:s.TypeIs (.ref I) T)(x:(L_ T==L_ "list")=false)(v:(L_ T==L_ "tuple")=false)(j:C_ prog w T)
  (self:∀d Q E,(∀b o,s.heap.get? b=some o->d.get? b=some o)->Q (.ref I) {s with heap:=d }->JN (JE prog w) A.in1.in1 (SW (.ref I)) Q E {s with heap:=d })
  (loop:∀R d c,(∀b o,s.heap.get? b=some o→d.get? b=some o)→d.get? s.heap.objs.size=some {cls:=.type "list",dict:=none,data:=.seq #[] c,slots:=#[] }→(∀a,Fi a→R (.ok (.ret .none)) a)→Og (JE prog w) A.in1 (.builtin "list.extend.loop" ⟨[.ref s.heap.objs.size,.ref I,.none],[]⟩) R {s with heap:=d })
  (hQ:∀a,Fi a→Q (.ref s.heap.objs.size) a):JN (JE prog w) A (call (.type "list") [.ref I]) Q E s:=by
 refine callType_codes (Q₁:=λi p=>i=.ref s.heap.objs.size∧p={s with heap:=s.heap.push {cls:=.type "list",data:=.seq #[] } }) PySem.F.called_list (PySem.F.typeCall_list_1 _) PySem.F.entry_list_init (code_list_new _ ⟨rfl,rfl⟩) λi p h=>?_;obtain⟨rfl,rfl⟩:=h;have k:(s.heap.push {cls:=.type "list",data:=.seq #[] }).get? s.heap.objs.size=some {cls:=.type "list",data:=.seq #[] }:=Jm _ rfl;have B:∀b o,s.heap.get? b=some o→(s.heap.push {cls:=.type "list",data:=.seq #[] }).get? b=some o:=λb o e=>IU _ e;have lt:∀b o,s.heap.get? b=some o->s.heap.objs.size≠b:=λb o e=>Mt (Jc e);generalize s.heap.objs.size=S at *;refine⟨⟨_,k,rfl⟩,PySem.F.args_list_init_2 _ _,?_⟩;refine IP ?_;refine IP (Po k rfl (IX ?_));refine IP (O4 k rfl ?_);have m:=KM (M6 (λ_=>#[])) k rfl;have l:∀b o,s.heap.get? b=some o→((s.heap.push {cls:=.type "list",data:=.seq #[] }).update S (M6 (λ_=>#[]))).get? b=some o:=λb o e=>(KD _ _ (lt b o e)).trans (B b o e);refine IP (wpAny_letGo ?_);generalize (s.heap.push {cls:=.type "list",data:=.seq #[] }).update S (M6 (λ_=>#[]))=y at *
 obtain⟨r,q,t⟩:=u;have g:({s with heap:=y }:Jd).TypeIs (.ref I) T:=⟨r,l _ _ q,t⟩
 refine IP (Su g ?_);have z:Builtin.List.listSameRef (.ref S) (.ref I)=false:=by simp[Builtin.List.listSameRef,lt _ _ q]
 simp only[z,x,v,Uh,Ju,if_false];refine IP (self _ _ _ l (IP (Ko (j _ _ _ _ _ g λb=>?_))));refine Nn (λ_=>?_) (λ_=>IX ⟨OU MG _,loop _ _ _ l m λa f=>⟨rfl,hQ a f⟩⟩);refine IP (Q3 (IP ?_));refine IP (O4 m rfl ?_);have n:=KM (M6 (·.push LN)) m rfl;refine O4 n rfl (IX ⟨OU MG _,loop _ _ _ (λb o e=>?_) (KM (M6 (·.pop)) n rfl) λa f=>⟨rfl,hQ a f⟩⟩);exact (KD _ _ (lt b o e)).trans ((KD _ _ (lt b o e)).trans (l b o e))
end
section
variable {prog:Jr}{w:J5}{A:Kb}{E:Je→Jd→Prop}{s:Jd}{I:Jt}{fp wr:List Jt}{n:Nat}{St:Nat→Jd→Prop}
theorem call_list_it(W:WalksS prog w A.in1.in1 I fp wr G n P St)(t:∀i s,St i s→s.TypeIs (.ref I) T)(x:(L_ T==L_ "list")=false)(u:(L_ T==L_ "tuple")=false)(h:C_ prog w T)(j:St 0 s)(p:∀b∈fp,b<s.heap.objs.size) 
  (hQ:∀a d f,Moved (s.heap.objs.size::wr) G s a->
   a.heap.get? s.heap.objs.size=some {cls:=.type "list",dict:=none,data:=.seq d f,slots:=#[] }→ItemsOf P d n→Q (.ref s.heap.objs.size) a) (hn:n≤sizeLine):
  JN (JE prog w) A (call (.type "list") [.ref I]) Q E s:=
 call_list_any (Fi:=λa=>∃d f,Moved (s.heap.objs.size::wr) G s a∧a.heap.get? s.heap.objs.size=some {cls:=.type "list",dict:=none,data:=.seq d f,slots:=#[] }∧ItemsOf P d n) (t 0 s j) x u h (λr Q E k q=>W.self 0 _ _ _ (W.frame 0 s r s.toks j (IV _) λb _ o e=>k b o e) q)
  (λR r c k g z=>codeAny_extend_loopS W hn _ (λy=>JY _ (p _ y)) _ n 0 _ _ _ rfl (JZ _) (W.frame 0 s r s.toks j (IV _) λb _ o e=>k b o e) g (ItemsOf.nil P) λa d f m v l=>z a ⟨d,f,Moved.trans W.gtrans ((Moved.refl W.grefl).then_heap (IV _) λb o _ e=>k b o e) m,v,l⟩) λa ⟨d,f,m,g,l⟩=>hQ a d f m g l
end
theorem DB:Q5 (.type "list_reverseiterator") "__len__"=pure none:=by rw[Nl,LJ];kernel_rfl
theorem nY:Slot "list_reverseiterator" "__length_hint__" "list_reverseiterator.__length_hint__":=
 .of (owner:="list_reverseiterator") (n:="__length_hint__") (by rw[Nl,LJ];kernel_rfl) (by decide+kernel) (by decide+kernel) (by decide+kernel) (by first |exact .inl (by decide+kernel) |exact .inr (by decide+kernel)) (by rw[Ou];kernel_rfl)
theorem hint_rev(prog)(w):C_ prog w "list_reverseiterator":=λA E s r Q a h=>by
 refine IP (Mi a DB ?_);refine IP (Mi a nY.lookup ?_);generalize hid:"list_reverseiterator.__length_hint__"=c
 wp_delta
 rw[show splitId c=some ("list_reverseiterator","__length_hint__") from by subst hid;decide+kernel];subst hid;refine IP (M5 (b:=true) a (by rw[Ou];kernel_rfl) ?_);refine Nn (λz=>absurd z (by decide)) (λ_=>?_);refine Nn (λ_=>?_) (λz=>absurd (by decide+kernel) z);refine Nn (λz=>absurd z (by decide+kernel)) (λ_=>IX (h _))
end ST
namespace L2
open PySem PySem.Spec PyProof.Rows
theorem n6:KZ "reversed"=some (.type "reversed"):=by decide+kernel
theorem aY.rev:∀{c}{d},aY c d->aY c.reverse d.reverse:=λ{c d} r=>by
 induction r with
 |nil=>exact .nil
 | @cons x u c d h i f=>
  rw[Se,Se]
  have app:∀{a}{b},aY a b->aY (a++[x]) (b++[u]):=λ{a b} q=>by
   induction q with
   |nil=>exact .cons h .nil
   |cons g _ e=>exact .cons g e
  exact app f
theorem Rps.rev{K:IR}(r:Rps K H vs xs):Rps K H vs.reverse xs.reverse:=⟨by simp[r.len],λi v x a b=>by
 have c:i<vs.length:=by have:=aN a;simpa using this
 have d:i<xs.length:=by rw[<-r.len];exact c
 rw[KN c]at a;rw[KN d,<-r.len]at b;exact r.at_ _ v x a b⟩
section
variable {X:Cx}{H0:Hp}{O0:List Jt}{ps:PSt}{e k:Expr}{x:U}{xs:List U}{U4 Vg p p' p2:Pos}
theorem wG{K:IR}(e:Rp K H v x)(g:x=.lst xs\/x=.scr xs):∃a f,v=.ref a/\SqL K H a f/\Rps K H f xs:=by
 rcases g with rfl |rfl
 .cases e with
  |lst c d b=>exact⟨_,_,rfl,SqL.of c,d,b⟩
 .cases e with
  |scr c d b=>exact⟨_,_,rfl,c,d,b⟩
theorem HR(S:Ev X H0 O0 ps e x)(F:Ev X H0 O0 ps k (.int (-1)))(B:x=.lst xs\/x=.scr xs):EvN X H0 O0 ps (.Subscript e (.Slice none none (some k) p2) U4) xs.reverse:=by
 rintro m s l H Q I ⟨O,R,q⟩;refine R7 (thn (S m s l H (λv f=>aP H f/\Rp X.K (hid f O) v x) I ⟨O,R,λv f j o=>⟨j,o⟩⟩) λu j y=>?_);obtain⟨v,f,L,o,n,C⟩:=y;obtain⟨a,M,rfl,N,J⟩:=wG C B;cases o;refine wpAny_Slice ?_;rw[Rz];refine IX (IX ?_);rw[evalPart_some];refine thn (F m j l f (λv d=>aP f d/\v=.int (-1)) L ⟨O,R.go n,λv d g A=>⟨g,by cases A;rfl⟩⟩) λV g hy=>?_;obtain⟨U,d,E,G,c,rfl⟩:=hy;obtain⟨t,rfl⟩:=G;have i:Inv X m l d {g with heap:=g.heap.push {cls:=.type "slice",data:=.fields #[.none,.none,.int (-1) t] } }:=E.kept λb w z=>IU _ z;obtain⟨its,p,r,P⟩:=i.list (c.seq (aH.seq N));have T:=p.length;refine tail_any r.isList.typeIs slot_list_getitem.lookup ?_ (by with_unfolding_all rfl);refine Pz r.isList (RA ..) .none .none (IsPart.int _ _) (by simp) ?_ (by rw[JG];lia);rw[PySem.W.krv_pick];generalize hn:(g.heap.push {cls:=.type "slice",data:=.fields #[.none,.none,.int (-1) t] }).objs.size=D;have h:d D=none:=i.hok.fresh (by rw[<-hn];exact IV _);refine⟨.ref D,upd d D (.lst M.reverse),i.laid (λb w z=>IU _ z) (by rw[<-hn];exact IV _) ⟨by rw[J7];exact P,its.reverse,0,p.rev,?_⟩,rfl,?_⟩
 .rw[<-hn];exact Jm _ rfl
 .refine q D _ _ ((n.trans c).trans (aQ h _)) ((n.trans c).free h) aA ?_;exact (J.rev.same (aJ c)).same (bH (aQ h _) h)
theorem wY(hc:X.calm=true)(hg:Gl X "list")(hm:X.mg "list"=none)(x:Gl X "reversed")(F:X.mg "reversed"=none)(ha:Ev X H0 O0 ps e (.lst xs))
  (he:autoParam (IY [e] X.env=(false,K0 e X.env)::IY [] X.env) z0):EvN X H0 O0 ps (.Call (.Name "list" p) [.Call (.Name "reversed" p') [e] [] Vg] [] U4) xs.reverse:=by
 rintro J s B H Q I ⟨O,R,q⟩;have hh:=I.ok.hd hc;refine Kn (de I hg hm boot_list ?_);refine callWith_type1 (e:=.Call (.Name "reversed" p') [e] [] Vg) (rest:=[]) ?_ aR rfl;rw[aR];refine Ln ?_;refine Kn (de I x F n6 ?_);refine callWith_type1 (thn (a9 ha cC he Vg J s B H (λM f=>∃v,M=[v]/\aP H f/\Rp X.K (hid f O) v (.lst xs)) I ⟨O,R,λv f d r1=>⟨v,rfl,d,r1⟩⟩) λus d hx=>?_) he rfl;obtain⟨M,f,t,Y,v,rfl,U,rp⟩:=hx;obtain⟨u,rfl,ru⟩:=d8 Y;obtain⟨a,S,rfl,hq,rs⟩:=wG rp (.inl rfl);cases ru;obtain⟨its,L,C,hz⟩:=t.list (aH.seq hq);have Vd:=L.length;have l:its.toArray.size=its.length:=by simp
 refine call_reversed_list C.isList ?_;have I2:Inv X J B f {d with heap:=d.heap.push (UV a ((its.toArray.size:Int)-1)) }:=t.kept (t':=d.toks) λb g z=>IU _ z;refine Mc ?_;have P:a<d.heap.objs.size:=by obtain⟨o,ho,_⟩:=C.isList;exact Jc ho
 have W:=(Walks.listRev (prog:=X.prog) (w:=X.w) (A:=X.A.in1.in1) hh d.heap.objs.size a (Jv P) its.toArray).toS;refine ST.call_list_it (T:="list_reverseiterator") (s:={d with heap:=d.heap.push (UV a ((its.toArray.size:Int)-1)) }) W (λi s' st=>st.2.1.typeIs) (by decide) (by decide) (ST.hint_rev _ _) ⟨JZ _,⟨_,Jm _ rfl,rfl,by simp[UV]⟩,C.isList.push _⟩ (λb hb=>?_) (λs3 h c m Z r=>?_) (by rw[l];lia)
 .show b<(d.heap.push _).objs.size;rw[Ll];simp at hb;rcases hb with z |z
  .rw[z];exact Kh _
  .rw[z];exact LA P
 .obtain⟨N,g3,d3,k,E⟩:=s3;obtain rfl:g3=d.gens:=m.gens;obtain rfl:d3=d.drawn:=m.drawn;obtain rfl:E=d.os:=m.os;have j:(d.heap.push (UV a ((its.toArray.size:Int)-1))).objs.size=d.heap.objs.size+1:=Ll ..
  have keep:∀b g,d.heap.get? b=some g->N.get? b=some g:=λb g z=>by
   have hb:=Jc z;refine m.heap b g (λy=>?_) (IU _ z);rcases IT.mp y with y |y
   .rw[y]at hb;have VF:d.heap.objs.size+1<d.heap.objs.size:=by rw[<-j];exact hb
    exact absurd VF (by lia)
   .rw[Jq.mp y]at hb;exact JY _ hb
  have V:h.toList=its.reverse:=by
   apply NA;intro i;rcases LI i h.size with z |z
   .have y:=r.2 i _ (Ke z);have G:i<its.length:=by rw[r.1,l]at z;exact z
    rw[J9,Ke z,KN G,<-y,l];simp
   .have G:its.length<=i:=by rw[r.1,l]at z;exact z
    rw[J_ (by simpa using z),J_ (by simpa using G)]
  generalize hn:(d.heap.push (UV a ((its.toArray.size:Int)-1))).objs.size=D at *;have n:f D=none:=I2.hok.fresh (by rw[<-hn];exact IV _);have I3:Inv X J B (upd f D (.lst S.reverse)) {d with heap:=N,toks:=k }:=t.laid (t':=k) (o:=.lst S.reverse) keep (by rw[j];exact UE _) ⟨by rw[J7];exact hz,its.reverse,c,L.rev,by rw[<-V,Ra];exact Z⟩;refine⟨.ref D,_,I3,rfl,q D _ _ (U.trans (aQ n _)) (U.free n) aA ?_⟩;exact rs.rev.same (bH (aQ n _) n)
end
theorem SubP.trans:∀{p q r},SubP p q->SubP q r->SubP p r
 |[],[],[],_,_=>trivial
 |none::p,none::q,_::r,h1,h2=>SubP.trans (p:=p) (q:=q) h1 h2
 |none::p,some _::q,_::r,h1,h2=>SubP.trans (p:=p) (q:=q) h1 h2.2
 |some _::p,some _::q,_::r,h1,h2=>⟨h2.1.trans h1.1,SubP.trans (p:=p) (q:=q) h1.2 h2.2⟩
 |some _::p,none::q,_::r,h1,h2=>by cases h1.1
 |[],_::_,_,h1,_=>h1.elim
 |none::_,[],_,h1,_=>h1.elim
 |some _::_,[],_,h1,_=>h1.elim
 |[],[],_::_,_,h2=>h2.elim
 |_::_,none::_,[],_,h2=>h2.elim
 |_::_,some _::_,[],_,h2=>h2.elim
section
variable {X:Cx}{H0:Hp}{O0:List Jt}{ps:PSt}{xs:List U}{us:List U}{es:List Expr}{x:Str}{pc p' U4:Pos}
theorem gR(n:Nat)(h:ps[n]?=some (some (.own xs)))(c:Gl X "len")(a:X.mg "len"=none)(d:autoParam (X.N[n]?=some x) z0)(e:autoParam (Vis X.env.scope x) k6)(b:autoParam ((x==("__debug__":Str))=false) x4)
  (Vq:autoParam ((x==("__classdict__":Str))=false) x4) (Vk:autoParam ((Kv U4 (IY [] X.env)).any (·.1)=false) z0):Ev X H0 O0 ps (.Call (.Name "len" pc) [.Name x p'] [] U4) (.int xs.length):=Fj n h c a d e b Vq ai Vk
theorem Rps.pts{K:IR}(w:∀c∈O',c∈O\/c=a)(t:H a=some (.lst ws)):∀{l:List P2},Rps K (hid H O) vs (l.map pu)->Rps K (hid H O') vs (l.map pu):=λ{l} r=>⟨r.len,λi v x k d=>by
 have q:=r.at_ i v x k d;rw[I0]at d;cases hp:l[i]? with
 |none=>rw[hp]at d;cases d
 |some p=>
  rw[hp]at d;cases d;cases q with
  | @tup b B _ h n A=>
   refine .tup ?_ n λj z y u f2=>?_
   .have e:∀{o:HO},(∀us,o≠.lst us)->hid H O b=some o->hid H O' b=some o:=λ{o} m h=>by
     obtain⟨g,s⟩:=cS h;refine bV g λz=>?_;rcases w b z with z |z
     .exact s z
     .rw[z,t]at g;cases g;exact m _ rfl
    rcases h with (h |⟨o,h⟩) |h
    .exact .inl (.inl (e (λ_ z=>(nomatch z)) h))
    .exact .inl (.inr ⟨o,e (λ_ z=>(nomatch z)) h⟩)
    .exact .inr h
   .have f:=A j z y u f2
    match j,f2 with
    |0,f2=>cases f2;cases f;exact .int _
    |1,f2=>cases f2;cases f;exact .int _
    |j+2,f2=>simp at f2⟩
theorem Co{l:List P2}{CX}(n:Nat)(h:ps[n]?=some (some (.own xs)))(F:bL X.prog X.w X.K X.mg X.base CX k f fd pn (spU X.K Va))(M:bQ k X.A)(L:Gl X nm)(S:X.mg nm=some (.ref f))(G:Lk X.K (.ref f)=true)(C:b7 X.K fd pn [])(B:bO CX X E0)
  (ha:EvA X H0 O0 ps es us) (hs:Va (.lst xs::us) (.new (l.map pu))) (hN:autoParam (X.N[n]?=some x) z0) (hv:autoParam (Vis X.env.scope x) k6) (hd:autoParam ((x==("__debug__":Str))=false) x4)
  (Vq:autoParam ((x==("__classdict__":Str))=false) x4) (Vs:autoParam ((nm==("__debug__":Str))=false) x4) (Vk:autoParam ((Kv U4 (IY es X.env)).any (·.1)=false) z0):
  EvN X H0 O0 ps (.Call (.Name nm pc) (.Name x p'::es) [] U4) (l.map pu):=
 PE.mono (ii F M L S G C .nil B (a9 (c0 hN hv hd Vq) ha ai) Vs ai Vk) λσ H Q s=>by
  obtain⟨O,R,q⟩:=s;obtain⟨v,P,a,Y,rfl,Z,W,j,m⟩:=R.at_ n _ h;refine⟨_,P,O,R,λT D b U=>?_⟩;show spU X.K Va (V.ref a::T++[]) D Q _;rw[Km];have sub:∀c∈O.filter (·≠a),c∈O:=λc d=>(JS.mp d).1;refine⟨.lst xs::us,O.filter (·≠a),.new (l.map pu),λc d=>(R.go b).dom c (sub c d),?_,hs,λp g t o r J u=>?_⟩
  .refine Rps.cons (.lst (bV (b _ _ j) (by simp)) m.len λi z y E I=>?_) (U.same (aF sub));exact ((m.at_ i z y E I).same (aJ b)).same (aF sub)
  .refine q p g t (b.trans o) (b.free r) J (Rps.pts (O:=p::O.filter (·≠a)) (a:=a) (λc d=>?_) (o _ _ (b _ _ j)) u);by_cases e:c=a
   .exact .inr e
   .rcases IT.mp d with z |z
    .exact .inl (by rw[z];exact IW)
    .exact .inl (IS _ (JS.mpr ⟨z,by simpa using e⟩))
end
end L2
namespace ST
open PySem
abbrev IsZ2(h:Ma)(z c a T:Jt)(b:Bool):Prop:=h.get? z=some {cls:=.type "zip",dict:=none,data:=.fields #[OK T,.bool b,.bool false,.ref c,.ref a],slots:=#[] }
section
variable {prog:Jr}{w:J5}{A:Kb}{E:Je→Jd→Prop}{s:Jd}
theorem Hl(h:s.heap.get? T=some o)(q:Q (some o) s):JN (JE prog w) A (loadIfAlive T) Q E s:=λb p a=>by
 unfold loadIfAlive;rw[Sem.wp_loadIfAlive,h];simpa using q
theorem se(d:IsZ2 s.heap z TI TO T b)(g:s.heap.get? T=some oT)(h:∀e,IsZ2 e z TI TO T true->Ms z s.heap e->Q false {s with heap:=e }):
  JN (JE prog w) A (Builtin.SmallTypes.ownedTupleIsFree (.ref z)) Q E s:=by
 refine IP (MW d rfl rfl ?_);refine IP (Hl (by rw[LC];exact g) ?_);rw[if_neg (by simp)];refine IP (MW d rfl (x:=.bool b) rfl ?_);cases b with
 |true=>
  rw[if_neg (by decide)];exact IX (h s.heap d (PH _ _))
 |false=>
  rw[if_pos (by decide)];refine IP (wpAny_setField_rec d (by simp) λc a f=>IX (h c a f))
theorem next_zip{Pt:Jt->Prop}(r:A.handled=none)(D:SU z TI TO i1 i2 l1 l2)
  (zz:(IsZip s.heap z TI TO .none/\∃a b,Ub s.heap TO a b)\/∃b T,Pt T/\(∃o,s.heap.get? T=some o)/\IsZ2 s.heap z TI TO T b) (hTI:Ub s.heap TI (.ref i1) (.ref i2))
  (h1:s.heap.IsListIter i1 l1 k) (h2:s.heap.IsListIter i2 l2 k) (W0:s.heap.IsList l1 xs) (hl2:s.heap.IsList l2 ys)
  (hQ:∀x y h',xs[k]?=some x->ys[k]?=some y->(∃b T,(T=s.heap.objs.size\/Pt T)/\IsZ2 h' z TI TO T b)->h'.IsListIter i1 l1 (k+1)->h'.IsListIter i2 l2 (k+1)->Ub h' s.heap.objs.size x y->(∀c o,c≠z->c≠TO->c≠i1->c≠i2->s.heap.get? c=some o->h'.get? c=some o)->Q (some (.ref s.heap.objs.size)) {s with heap:=h' })
  (hE:xs[k]?=none\/ys[k]?=none->∀h',(∀c o,c≠z->c≠TO->c≠i1->c≠i2->s.heap.get? c=some o->h'.get? c=some o)->Q none {s with heap:=h' }):JN (JE prog w) A (UO (.ref z)) Q E s:=by
 rcases zz with ⟨g,a,b,h⟩ |⟨b,T,pt,⟨S,H⟩,g⟩
 .cases hx:xs[k]? with
  |none=>exact OQ r D g hTI h h1 h2 W0 hl2 (.inl hx) (hE (.inl hx))
  |some x=>
   cases hy:ys[k]? with
   |none=>exact OQ r D g hTI h h1 h2 W0 hl2 (.inr hy) (hE (.inr hy))
   |some y=>exact QO D g hTI h h1 h2 W0 hl2 hx hy λh' J t N K I _ M=>hQ x y h' hx hy ⟨false,_,.inl rfl,J⟩ N K I M
 have m:s.TypeIs (.ref z) "zip":=⟨_,g,rfl⟩;refine IP (N7 (N9 m QP (LU QP m PySem.F.entry_zip_next ?_ (PySem.F.args_zip_next_1 _))));show JN _ _ (field (.ref z) 2 >>=_) _ _ _;refine IP (MW g rfl rfl ?_);refine IP (MW g rfl rfl (IP (Po hTI rfl ?_)));refine IP (se g H λha L d=>?_);simp only[Ju,if_false];refine IP ?_;rw[<-Pg];simp only[QH,TL];refine IP (IP (Ko ?_));cases hx:xs[k]? with
 |none=>
  refine IP (QQ r (h1.extBut d.extBut D.i1z) (W0.extBut d.extBut D.l1z) hx λhb e f v=>?_);obtain⟨o,u,n⟩:=v;exact IP (M5 ⟨o,u,n⟩ Ri (IX (hE (.inl hx) hb λc o l _ j p q=>f _ _ j (d.extBut _ _ l q))))
 |some x=>
  refine IP (Qr (h1.extBut d.extBut D.i1z) (W0.extBut d.extBut D.l1z) hx λhb P f=>IX ?_);refine IX ?_;refine IP (IP (Ko ?_));have C:=(h2.extBut d.extBut D.i2z).extBut f.extBut D.i12.symm;have t:=(hl2.extBut d.extBut D.l2z).extBut f.extBut D.l2i1;cases hy:ys[k]? with
  |none=>
   refine IP (QQ r C t hy λn e i v=>?_);obtain⟨o,u,O⟩:=v;exact IP (M5 ⟨o,u,O⟩ Ri (IX (hE (.inr hy) n λc o l _ j p q=>i _ _ p (f.extBut _ _ j (d.extBut _ _ l q)))))
  |some y=>
   refine IP (Qr C t hy λn G i=>IX ?_);refine IX (IX ?_);refine IP (TM ?_ (by show 2<=sizeLine;rw[Lc];lia));have B:n.objs.size=s.heap.objs.size:=by rw[i.1,f.1,d.1]
   have R:=i.extBut _ _ D.i2z.symm (f.extBut _ _ D.i1z.symm L);refine IX ⟨_,rfl,IX ?_⟩;rw[B];refine hQ x y _ hx hy ⟨true,T,.inr pt,IU _ R⟩ (((P.extBut i.extBut D.i12)).at λo e=>IU _ e) (G.at λo e=>IU _ e) ?_ λc o l _ j p e=>IU _ (i.extBut _ _ p (f.extBut _ _ j (d.extBut _ _ l e)));rw[<-B];exact Jm _ rfl
end
theorem BO:Q5 (.type "zip") "__len__"=pure none:=by rw[Nl,LJ];kernel_rfl
theorem yS:Q5 (.type "zip") "__length_hint__"=pure none:=by rw[Nl,LJ];kernel_rfl
theorem hint_zip(prog)(w):C_ prog w "zip":=λA E s r Q a h=>by
 refine IP (Mi a BO ?_);refine IP (Mi a yS ?_);exact IX (h _)
end ST
namespace L2
open PySem PySem.Spec PyProof.Rows
theorem GD{a b:Nat}(h:a<b\/b<a):@Ne Jt a b:=λe=>by
 have c:a=b:=e;lia
theorem tE:KZ "zip"=some (.type "zip"):=by decide+kernel
theorem v5{fp:List Jt}(I:Inv X U_ σ H s)(f:∀b∈fp,jK X U_ H b)
  (k:∀b o,b ∉ fp->s.heap.get? b=some o->h'.get? b=some o) (hp:s.heap.objs.size<=p) (new:cH X.prog X.w (upd H p (.tup xs)) h' p (.tup xs)):
  Inv X U_ σ (upd H p (.tup xs)) {s with heap:=h',toks:=t' }:=by
 have fresh:=I.hok.fresh hp;have j:∀b o,s.heap.get? b=some o->b≠p:=λb o e z=>absurd (IZ (Jc e) hp) (by rw[z];exact JY _);have d:∀b u,H b=some u->b≠p:=λb u e z=>by rw[z,fresh]at e;cases e
 have g:∀b u,H b=some u->b ∉ fp:=λb u e z=>by rw[(f b z).1]at e;cases e
 refine I.step (g':=s.gens) (d':=s.drawn) (ch:=fp) (λb hb=>?_) (λb o _ _ a e _=>k b o a e) (λb o _ _ a e _=>⟨o.slots,k b o a e⟩) (λb o _ e n=>by rw[aC (j b o e)];exact n)
  (λb o a e=>⟨o,k b o a e⟩) (λb xs e=>by rw[aC (d b _ e)];exact e) (λb o u e=>by rw[aC (d b _ e)];exact e) (λb D e=>⟨#[],by rw[aC (d b _ e),e];simp⟩) (λm B=>?_) (λb u e=>?_) I.bare
 .obtain⟨C,l,E,t,i,x⟩:=f b hb;exact⟨t,l,i,x⟩
 .obtain⟨o,h,A,y,r⟩:=B;exact⟨o,h,A,k _ o (λz=>(f _ z).2.1 rfl) y,r⟩
 .by_cases hb:b=p
  .subst hb;rw[aA]at e;cases e;exact new
  .rw[aC hb]at e;refine (I.hok b u e).stay (λc v a q=>k c v ?_ q) (λc q=>by rw[aC (d c _ q)];exact q) λc xs q=>by rw[aC (d c _ q)];exact q
   rcases a with z |z
   .rw[z];exact g b u e
   .exact g c _ z
theorem vv{fp:List Jt}(I:Inv X U_ σ H s)(d:∀b∈fp,jK X U_ H b)
  (k:∀b o,b ∉ fp->s.heap.get? b=some o->h'.get? b=some o):Inv X U_ σ H {s with heap:=h',toks:=t' }:=by
 have f:∀b u,H b=some u->b ∉ fp:=λb u e z=>by rw[(d b z).1]at e;cases e
 refine I.step (λb hb=>?_) (λb o _ _ a e _=>k b o a e) (λb o _ _ a e _=>⟨o.slots,k b o a e⟩) (λ_ _ _ _ n=>n)
  (λb o a e=>⟨o,k b o a e⟩) (λ_ _ e=>e) (λ_ _ _ e=>e) (λb y e=>⟨#[],by rw[e];simp⟩) (λm w=>?_) (λb u e=>?_) I.bare
 .obtain⟨x,i,A,j,h,l⟩:=d b hb;exact⟨j,i,h,l⟩
 .obtain⟨o,g,t,p,r⟩:=w;exact⟨o,g,t,k _ o (λz=>(d _ z).2.1 rfl) p,r⟩
 .refine (I.hok b u e).stay (λc v a q=>k c v ?_ q) (λ_ q=>q) λ_ _ q=>q;rcases a with z |z
  .rw[z];exact f b u e
  .exact f c _ z
section
variable {X:Cx}{U_:List (Jt×Obj)}{σ:St}{O:List Jt}{z TI TO i1 i2 l1 l2 S:Jt}{va vb:List V}{xs ys:List U}{H1:Hp}{A:Kb}{R:UQ→Jd→Prop}{res:Je}
theorem HX{a b c d e f i:Nat}(h:c<=i\/d<=i)(g:a=c)(j:b=d)(l1:a=e)(l2:b=f):min e f<=i:=by omega
theorem yG(hh:A.in1.handled=none)(D:SU z TI TO i1 i2 l1 l2)(W:S ∉ [z,TI,TO,i1,i2])(nS:H1 S=none)(dO:∀b∈O,H1 b≠none)(q1:SqL X.K (hid H1 O) l1 va)(q2:SqL X.K (hid H1 O) l2 vb)(r1:Rps X.K (hid H1 O) va xs)(r2:Rps X.K (hid H1 O) vb ys)
  (hR:∀s' h G,Inv X U_ σ G s'->aP H1 G->G S=some (.lst h)->Rps X.K (hid G (S::O)) h (OB (λa b=>U.tup [a,b]) xs ys)->R (.ok (.ret res)) s'):
  ∀(k i:Nat) (s:Jd) (H:Hp) (h:List V),(OB (λa b=>U.tup [a,b]) xs ys).length-i<k->Inv X U_ σ H s->aP H1 H->H S=some (.lst h)->h.length=i->Rps X.K (hid H (S::O)) h ((OB (λa b=>U.tup [a,b]) xs ys).take i)->(∀b∈[z,TI,TO,i1,i2],jK X U_ H b/\b<s.heap.objs.size)->
   Ub s.heap TI (.ref i1) (.ref i2)->s.heap.IsListIter i1 l1 i->s.heap.IsListIter i2 l2 i->((IsZip s.heap z TI TO .none/\∃a b,Ub s.heap TO a b)\/∃b T,(∃t,H T=some (.tup t))/\ST.IsZ2 s.heap z TI TO T b)->
   Og (JE X.prog X.w) A (.builtin "list.extend.loop" ⟨[.ref S,.ref z,res],[]⟩) R s:=by
 intro k
 induction k with
 |zero=>exact λi s H h L=>absurd L (Mj _)
 |succ k ih=>
  intro i s H h L I p C hl rs M gI j1 j2 zz;obtain⟨ia,ra,p1,z1⟩:=I.list (p.seq (aH.seq q1));obtain⟨ib,rb,p2,_⟩:=I.list (p.seq (aH.seq q2));have la:=ra.length;have lb:=rb.length;have l1:=r1.len;have l2:=r2.len;rw[O5]at L
  have fk:∀{h':Ma},(∀c o,c≠z->c≠TO->c≠i1->c≠i2->s.heap.get? c=some o->h'.get? c=some o)->∀d o,d ∉ [z,TI,TO,i1,i2]->s.heap.get? d=some o->h'.get? d=some o:=λm d o E e=>by
   simp only[IT,KB,or_false,not_or]at E;exact m d o E.1 E.2.2.1 E.2.2.2.1 E.2.2.2.2 e
  refine Nh PySem.F.entry_extend_loop ?_;rw[NK MG _];refine IP (ST.next_zip (Pt:=λT=>∃t,H T=some (.tup t)) hh D (zz.imp_right λ⟨b,T,⟨t,l⟩,g⟩=>⟨b,T,⟨t,l⟩,let ⟨_,_,_,ob,e,_⟩:=I.hok T _ l;⟨ob,e⟩,g⟩) gI j1 j2 p1.isList p2.isList (λx y h' ex N nz n1 n2 np m=>?_) λhe h' m=>?_)
  rotate_left
  .refine IX (hR _ h H (vv (t':=s.toks) I (λb hb=>(M b hb).1) (fk m)) p C ?_)
   rwa [Kq]at rs
   rw[O5];simp at he;exact HX he la lb l1 l2
  .have hia:=aN (show ia[i]?=some x by simpa using ex);have hib:=aN (show ib[i]?=some y by simpa using N);obtain⟨v,e1⟩:∃v,va[i]?=some v:=⟨_,IQ (by omega)⟩
   obtain⟨u,e2⟩:∃u,vb[i]?=some u:=⟨_,IQ (by omega)⟩
   obtain⟨Z,k1,t1⟩:=ra.get e1;obtain⟨y',k2,t2⟩:=rb.get e2;obtain rfl:Z=x:=by simpa [k1] using ex
   obtain rfl:y'=y:=by simpa [k2] using N
   obtain⟨xu,f1⟩:∃v,xs[i]?=some v:=⟨_,IQ (by omega)⟩
   obtain⟨Y,Q⟩:∃u,ys[i]?=some u:=⟨_,IQ (by omega)⟩
   have fresh:H s.heap.objs.size=none:=I.hok.fresh (IV _);have P:=v5 (s:=s) (h':=h') (t':=s.toks) (xs:=[v,u]) I (λb hb=>(M b hb).1) (fk m) (IV _) ⟨by show 2<=sizeLine;decide,[Z,y'],.cons t1 (.cons t2 .nil),⟨_,np,rfl,_,rfl⟩⟩;have Sp:S≠s.heap.objs.size:=λe=>by rw[e,fresh]at C;cases C
   have WJ:upd H s.heap.objs.size (.tup [v,u]) S=some (.lst h):=by rw[aC Sp];exact C
   have J:aP H (upd H s.heap.objs.size (.tup [v,u])):=aQ fresh _;obtain⟨zs,its,n,r,hl2,e⟩:=P.lstM WJ;have B:∀b o,b≠S->h'.get? b=some o->(h'.update S (M6 (·.push (.ref s.heap.objs.size)))).get? b=some o:=λb o hb e=>(KD _ _ (Ne.symm hb)).trans e;have vr:aY [V.ref s.heap.objs.size] [JR s.heap.objs.size]:=.cons rfl .nil;have j:∀b∈[z,TI,TO,i1,i2],b≠S:=λb hb e=>W (e ▸ hb);refine IP (O4 (s:={s with heap:=h' }) e rfl (IX ⟨OU MG _,ih (i+1) _ (upd (upd H s.heap.objs.size (.tup [v,u])) S (.lst (h++[.ref s.heap.objs.size]))) (h++[.ref s.heap.objs.size]) ?_ (P.lset (t':=s.toks) (ys:=h++[.ref s.heap.objs.size]) (its':=its++[.ref s.heap.objs.size]) WJ e (by simp) (r.append vr) ?_) ((p.trans J).put nS _) aA (by simp[hl]) ?_ (λb hb=>?_) ?_ ?_ ?_ (.inr ?_)⟩) (by rw[JG];omega) (by rw[Array.size_push,JG];omega))
   .rw[O5];omega
   .rw[Jl];simp;omega
   .rw[fZ IW,L7,OH.mpr ⟨xu,Y,f1,Q,rfl⟩];refine (rs.same (aJ J)).snoc (.cons ?_ .nil);have sG:=(bH (O:=O) p nS).trans (aJ J);have all:Rps X.K (hid (upd H s.heap.objs.size (.tup [v,u])) (S::O)) [v,u] [xu,Y]:=.cons ((r1.at_ i _ _ e1 f1).same sG) (.cons ((r2.at_ i _ _ e2 Q).same sG) .nil);refine .tup (SqT.of (bV aA λhp=>?_)) all.len all.at_;rcases IT.mp hp with q |q
    .exact Sp q.symm
    .exact dO _ q (p.free fresh)
   .obtain⟨⟨f0,f⟩,VF⟩:=M b hb;refine⟨⟨?_,f⟩,J6 VF (Jc (B _ _ Sp.symm np))⟩;rw[aC (λe=>W (by rw[<-e];exact hb)),aC (Jv VF)];exact f0
   .exact B _ _ (j _ (by simp)) (m TI _ D.TIz D.TITO D.TIi1 D.TIi2 gI)
   .exact n1.at λo e=>B _ o (j _ (by simp)) e
   .exact n2.at λo e=>B _ o (j _ (by simp)) e
   .obtain⟨b,T,l,g⟩:=nz;refine⟨b,T,?_,B _ _ (j _ (by simp)) g⟩;rcases l with rfl |⟨t,l⟩
    .exact⟨_,by rw[aC Sp.symm];exact aA⟩
    .exact⟨t,by rw[aC λe=>by rw[e,C]at l;cases l];exact J _ _ l⟩
end
section
variable {X:Cx}{H0:Hp}{O0:List Jt}{ps:PSt}{e f:Expr}{x y:U}{xs ys:List U}{U4 Vg p p':Pos}
theorem yj(hc:X.calm=true)(hg:Gl X "list")(hm:X.mg "list"=none)(hgz:Gl X "zip")(hmz:X.mg "zip"=none)(ha:Ev X H0 O0 ps e x)(hx:x=.lst xs∨x=.scr xs)(w:Ev X H0 O0 ps f y)(hy:y=.lst ys∨y=.scr ys) 
  (he:autoParam (IY [e,f] X.env=(false,K0 e X.env)::IY [f] X.env) z0) (hf:autoParam (IY [f] X.env=(false,K0 f X.env)::IY [] X.env) z0):
  EvN X H0 O0 ps (.Call (.Name "list" p) [.Call (.Name "zip" p') [e,f] [] Vg] [] U4) (OB (λa b=>U.tup [a,b]) xs ys):=by
 rintro Z s σ H Q I ⟨O,R0,q⟩;have hh:X.A.handled=none:=I.ok.hd hc;refine Kn (de I hg hm boot_list ?_);refine callWith_type1 (e:=.Call (.Name "zip" p') [e,f] [] Vg) (rest:=[]) ?_ aR rfl;rw[aR];show JN _ _ (spliced ((false,K0 (.Call (.Name "zip" p') [e,f] [] Vg) X.env)::Kv U4 (IY [] X.env))) _ _ s;refine Ln ?_;refine Kn (de I hgz hmz tE ?_);refine callWith_type1 (thn (a9 ha (a9 w cC hf) he Vg Z s σ H (λt l=>∃v u,t=[v,u]/\aP H l/\Rp X.K (hid l O) v x/\Rp X.K (hid l O) u y) I ⟨O,R0,λv l h r1=>⟨O,R0.go h,λu H2 s2 r2=>⟨v,u,rfl,h.trans s2,r1.same (aJ s2),r2⟩⟩⟩) λus h WM=>?_) he (by rw[hf];rfl);obtain⟨t,l,F,rv,v,u,rfl,sm,V,W⟩:=WM;obtain⟨w1,w2,rfl,ru1,S⟩:=i_ rv;obtain⟨a,va,rfl,z,P⟩:=wG V hx;obtain⟨b,vb,rfl,B,rs2⟩:=wG W hy;cases ru1;cases S;obtain⟨ia,ra,C,hz1⟩:=F.list (aH.seq z);obtain⟨ib,rb,J,hz2⟩:=F.list (aH.seq B);have al:@LT.lt Nat instLTNat a h.heap.objs.size:=by obtain⟨o,Y,_⟩:=C.isList;exact Jc Y
 have bl:@LT.lt Nat instLTNat b h.heap.objs.size:=by obtain⟨o,Y,_⟩:=J.isList;exact Jc Y
 refine PySem.call_zip_2 C.isList J.isList λj N z2 z3 z4 z5 z6 z7=>?_;refine Mc ?_;have D:SU (h.heap.objs.size+4) (h.heap.objs.size+2) (h.heap.objs.size+3) h.heap.objs.size (h.heap.objs.size+1) a b:=by constructor <;>exact GD (by lia)
 have L:Inv X Z σ l {h with heap:=j }:=F.kept (t':=h.toks) z7;have sz:h.heap.objs.size+4<j.objs.size:=Jc N
 refine ST.call_list_any (T:="zip") (s:={h with heap:=j }) (Fi:=λM=>∃t n,Inv X Z σ n M∧aP l n∧n j.objs.size=some (.lst t)∧Rps X.K (hid n (j.objs.size::O)) t (OB (λa b=>U.tup [a,b]) xs ys)) ⟨_,N,rfl⟩ (by decide) (by decide) (ST.hint_zip _ _) (λh2 Q E k q=>Qi (s:={h with heap:=h2 }) (k _ _ N) q)
  (λR h2 c k g hR=>yG (A:=X.A.in1) hh D (λw=>?_) (L.hok.fresh (IV _)) (R0.go sm).dom z B P rs2 (λM t n a b c d=>hR M ⟨t,n,a,b,c,d⟩) _ 0 _ (upd l j.objs.size (.lst [])) [] (Kh _) (L.laid (t':=h.toks) (o:=.lst []) k (IV _) ⟨JZ _,[],c,.nil,g⟩) (aQ (L.hok.fresh (IV _)) _) aA rfl (by rw[NO];exact .nil) (λb w=>?_) (k _ _ z2) (z4.at λo e=>k _ o e) (z5.at λo e=>k _ o e) (.inl ⟨k _ _ N,_,_,k _ _ z3⟩)) λM ⟨t,n,i,m,e,r⟩=>⟨.ref j.objs.size,n,i,rfl,q _ _ _ (sm.trans m) (sm.free (L.hok.fresh (IV _))) e r⟩
 .simp only[IT,KB,or_false]at w;have G:(j.objs.size:Nat)=_\/(j.objs.size:Nat)=_\/(j.objs.size:Nat)=_\/(j.objs.size:Nat)=_\/(j.objs.size:Nat)=_:=w;lia
 .have G:h.heap.objs.size<=b/\b<=h.heap.objs.size+4:=by
   simp only[IT,KB,or_false]at w;rcases w with e |e |e |e |e <;>rw[e] <;>exact⟨by first |exact JI _ _ |exact IV _,by first |exact IV _ |exact JI _ _ |exact MX (by decide) _⟩
  refine⟨F.fpOk G.1 ?_,Ki G.2 (J6 sz (Jc g))⟩;rw[aC (Jv (Ki G.2 sz))];exact F.hok.fresh G.1
end
theorem kI(ns:List Int):∀j,preSum (λi=>ns.getD i 0) j=(ns.take j).sum
 |0=>by simp[preSum]
 |j+1=>by rw[preSum,kI ns j,PySem.sum_take_succ]
section
variable {X:Cx}{ns:List Int}{M:Int}
theorem qZ{K:IR}(b:aY ws its)(d:Rps K H ws (ns.map U.int))(i)(z:Je)(e:its.toArray[i]?=some z):∃t,z=.int (ns.getD i 0) t:=by
 have j:=d.len;rw[IM]at j;have c:its[i]?=some z:=by simpa using e
 have k:=aN c;have f:i<ws.length:=by rw[b.length];exact k
 have hb:i<ns.length:=by lia
 obtain⟨u,a,g⟩:=b.get (IQ f);have h:=d.at_ i ws[i] (.int ns[i]) (IQ f) (by rw[I0,IQ hb];rfl);rw[c]at a;cases a;generalize ws[i]=l at *;cases h;rw[Jx,IQ hb];obtain⟨t,rfl⟩:=g;exact⟨t,rfl⟩
theorem ue(t:X.calm=true):e9 X (.builtin "sum") [.lst (ns.map U.int)] (.int ns.sum):=by
 intro F s C H B D Q I r c;obtain⟨O,d,n,q⟩:=c;obtain⟨v,rfl,u⟩:=cW n;obtain⟨G,rfl,x⟩:=d8 r;cases u with
 | @lst a E _ c h p=>
  cases x;obtain⟨its,g,f,_⟩:=I.list (SqL.of (aH _ _ c));have k:its.length=ns.length:=by rw[<-g.length,h,IM]
  have m:=qZ (ns:=ns) g ⟨h,p⟩;refine call_sum_walkG (MP f.isList ?_);have j:a<s.heap.objs.size:=by obtain⟨o,e,_⟩:=f.isList;exact Jc e
  refine⟨s.heap.objs.size,_,_,_,_,_,λi=>ns.getD i 0,rfl,Walks.list (A:=X.A.in1) (I.ok.hd t) s.heap.objs.size a (Jv j) its.toArray,⟨⟨_,Jm _ rfl,rfl,rfl⟩,f.isList.push _⟩,λb hb=>?_,m,λy w t' l=>?_⟩
  .show b<(s.heap.push _).objs.size;rw[Ll];rcases IT.mp hb with z |z
   .rw[z];exact Kh _
   .rw[Jq.mp z];exact LA j
  .rw[kI,JG,k,M4];refine⟨.int ns.sum,H,I.kept (t':=w) λb o e=>l b o ?_ (IU _ e),⟨t',rfl⟩,q _ H (.refl H) (.int _)⟩;intro z;have:b=s.heap.objs.size:=by simpa using z
   exact absurd (Jc e) (by rw[this];exact JY _)
variable {H0:Hp}{O0:List Jt}{ps:PSt}{a b c:Expr}{U4:Pos}{x y z:U}{p q:P2}{k m:Bool}
theorem len1{α:Type}{l:List α}:l.length=1->∃a,l=[a]:=List.length_eq_one_iff.mp
theorem len2{α:Type}{l:List α}(h:l.length=2):∃a b,l=[a,b]:=by
 cases l with
 |nil=>cases h
 |cons a t=>
  obtain⟨b,rfl⟩:=len1 (Sv h);exact⟨a,b,rfl⟩
theorem len3{α:Type}{l:List α}(h:l.length=3):∃a b c,l=[a,b,c]:=by
 cases l with
 |nil=>cases h
 |cons a t=>
  obtain⟨b,c,rfl⟩:=len2 (Sv h);exact⟨a,b,c,rfl⟩
theorem Rp.i{K:IR}{H:Hp}{v:V}{n:Int}(r:Rp K H v (.int n)):v=.int n:=by
 cases r;rfl
theorem Rp.two{K:IR}{H:Hp}{v:V}{a b:Int}(r:Rp K H v (.tup [.int a,.int b])):∃p,v=.ref p/\SqT K H p [.int a,.int b]:=by
 cases r with
 | @tup p _ _ d f c=>
  obtain⟨x,y,rfl⟩:=len2 f;have e:=(c 0 x _ rfl rfl).i;have g:=(c 1 y _ rfl rfl).i;exact⟨p,rfl,e ▸ g ▸ d⟩
theorem DR{U_:List (Jt×Obj)}{h:List (Option V)}{H:Hp}{s:Jd}(I:Inv X U_ h H s){v:V}{u:Je}(r:Rp X.K H v (pu p))(e:aS v u):∃b,u=.ref b/\v=.ref b/\∀a w,ST.TK a w s.heap [p.1,p.2] b:=by
 obtain⟨b,rfl,g⟩:=Rp.two r;obtain⟨_,f,⟨o,i,c,n,d⟩,_⟩:=I.tuple g;obtain⟨_,_,rfl,⟨_,rfl⟩,_,rfl⟩:=i_ f;exact⟨b,e,rfl,λ_ _=>⟨o,_,n,i,c,d,.cons (Nz _ _ _ _) (.cons (Nz _ _ _ _) .nil)⟩⟩
theorem DO{U_:List (Jt×Obj)}{a:List (Option V)}{H:Hp}{s:Jd}(I:Inv X U_ a H s){v:V}{u:Je}(r:Rp X.K H v (pu p))(e:aS v u):∃b,u=.ref b/\ST.TK X.prog X.w s.heap [p.1,p.2] b:=
 have ⟨b,h,_,k⟩:=DR I r e
 ⟨b,h,k _ _⟩
end
end L2
namespace ST
open PySem PyProof.Rows
section
variable {prog:Jr}{w:J5}{A:Kb}{E:Je→Jd→Prop}{s:Jd}
theorem wk(h:Q (.bool (decide (x<y))) s):JN (JE prog w) A (richCompare .Lt (.int x t) (.int y u)) Q E s:=
 richCompare_gives (Q6 s _ t) (Q6 s _ u) PySem.F.slot_int_lt PySem.F.entry_int_lt (PySem.F.args_int_lt_2 _ _) (gives_int_lt _ _ t u) (λx=>nomatch x) h
theorem zY(k:TK prog w s.heap [a.1,a.2] x)(i:TK prog w s.heap [b.1,b.2] y)(h:P (.done (.ret (.bool (ltP a b)))) s):
  JN (JE prog w) A (Builtin.«tuple.__lt__» ⟨[.ref x,.ref y],[]⟩) P E s:=by
 have e:=i.typeIs;obtain⟨o,its,n,t,u,p,_,q,j⟩:=k.two;obtain⟨r,c,B,v,C,m,_,l,f⟩:=i.two;show JN _ _ (R9 (.ref y) (.type "tuple") >>=_) _ _ s;refine IP (M5 e isSubtype_tuple_tuple ?_);simp only[LY,Ju,if_false];refine IP (RN p q ?_);refine IP (RN m l ?_);have sz:its.size=c.size:=by rw[<-Jg,<-Jg,j,f];rfl
 rw[j,f];refine IP ?_;simp only[RO,List.zip_nil_left,QH,TL];refine IP (IP ((Rk prog w).eqBool (a:=a.1) (b:=b.1) (Nz _ _ _ _) (Nz _ _ _ _) ?_));by_cases d:a.1=b.1
 .rw[decide_eq_true d];simp only[LY,Ju,if_false];refine IX ?_;refine IP (IP ((Rk prog w).eqBool (a:=a.2) (b:=b.2) (Nz _ _ _ _) (Nz _ _ _ _) ?_));by_cases g:a.2=b.2
  .rw[decide_eq_true g];simp only[LY,Ju,if_false];refine IX (IX ?_);have z:ltP a b=false:=by unfold ltP;simp;omega
   rw[z]at h;refine IX ?_;show P (.done (.ret (.bool (decide (its.size<c.size))))) s;rw[sz,decide_eq_false (JY _)];exact h
  .rw[decide_eq_false g];simp only[Pp,if_true];have z:ltP a b=decide (a.2<b.2):=by unfold ltP;rw[d];simp
   rw[z]at h;exact IP (Q3 (IP (wk (IP (IX (IX (IX (IX h))))))))
 .rw[decide_eq_false d];simp only[Pp,if_true];have z:ltP a b=decide (a.1<b.1):=by unfold ltP;simp[d]
  rw[z]at h;exact IP (Q3 (IP (wk (IP (IX (IX (IX (IX h))))))))
theorem lt_ptsR(f:A.units<Mu)(c:TK prog w s.heap [a.1,a.2] x)(d:TK prog w s.heap [b.1,b.2] y)(h:Q (.bool (ltP a b)) s):
  JN (JE prog w) A (Kc .Lt (.ref x) (.ref y)) Q E s:=
 wpAny_richCompare_same_room (op:=.Lt) c.typeIs d.typeIs QR
  (LU QR c.typeIs PySem.F.entry_tuple_lt (zY c d ⟨_,rfl,(λe=>nomatch e),h⟩) (PySem.F.args_tuple_lt_2 _ _)) f
end
end ST
namespace L2
open PySem PySem.Spec PyProof.Rows
variable {X:Cx}
section
variable {H0:Hp}{O0:List Jt}{ps:PSt}{x:Str}{U4:Pos}{a b:Expr}{i j:Int}
theorem rO(c:Gl X x)(h:∃t,X.mg x=some (.int i t))(b:autoParam ((x==("__debug__":Str))=false) x4):Ev X H0 O0 ps (.Name x U4) (.int i):=by
 obtain⟨t,a⟩:=h;exact PE.mono (je (v:=.int i) c a ⟨t,rfl⟩ b) λ_ H _ ⟨_,_,k⟩=>k _ H (.refl H) (.int i)
end
theorem Rps.rep{K:IR}(r:Rps K H vs xs):∀k,Rps K H (Jw k vs).flatten (Jw k xs).flatten
 |0=>.nil
 |k+1=>by
  rw[KI,KI,Me,Me];exact r.snoc (r.rep k)
section
variable {H0:Hp}{O0:List Jt}{ps:PSt}{a b:Expr}{U4:Pos}{xs:List U}{u:U}{k:Int}
theorem HC(j:Ev X H0 O0 ps a (.lst xs))(f:Ev X H0 O0 ps b (.int k))(m:-(2 ^ 63)<=k)(i:k<2 ^ 63)(l:xs.length*k.toNat<=sizeLine):EvN X H0 O0 ps (.BinOp a .Mult b U4) (Jw k.toNat xs).flatten:=
 PE.mono (o0 Gq j f) λo H Q ⟨O,R,q⟩=>two R (λ_ _ _ z=>z) (λ_ _ _ z=>z) λv w r s _ n e=>by
  cases e;cases n with
  |lst h d g=>
   refine⟨_,_,_,rfl,rfl,aH _ _ h,m,i,by rw[d];exact l,λp c=>q p _ _ (s.trans (aQ c _)) (s.free c) aA ?_⟩;exact (Rps.rep ⟨d,g⟩ _).same (bH (aQ c _) c)
theorem qL{α:Type}(u:α):∀k,(Jw k [u]).flatten=Jw k u
 |0=>rfl
 |k+1=>by rw[KI,Me,qL u k];rfl
theorem FM(g:Ev X H0 O0 ps a (.lst [u]))(c:Ev X H0 O0 ps b (.int k))(e:-(2 ^ 63)<=k)(f:k<2 ^ 63)(d:k.toNat<=sizeLine):EvN X H0 O0 ps (.BinOp a .Mult b U4) (Jw k.toNat u):=by
 rw[<-qL];exact HC g c e f (by simpa using d)
end
theorem Rs.free{K:IR}(n)(h:ps[n]?=some (some (.own xs)))(R:Rs K H0 O0 ps σ H O):∃D,(∀b∈D,b∈O)/\Rs K H0 O0 (ps.set n (some (.val (.lst xs)))) σ H D:=by
 obtain⟨v,B,a,X,rfl,ha,l,y,E⟩:=R.at_ n _ h;have c:∀b∈O.filter (λb=>decide (b≠a)),b∈O:=λb hb=>(JS.mp hb).1;have keep:∀b∈O,b≠a->b∈O.filter (λb=>decide (b≠a)):=λb hb p=>JS.mpr ⟨hb,by simpa using p⟩;have g:aP (hid H O) (hid H (O.filter (λb=>decide (b≠a)))):=aF c;have V:a ∉ O.filter (λb=>decide (b≠a)):=λz=>by have:=(JS.mp z).2;simp at this
 refine⟨O.filter (λb=>decide (b≠a)),c,R.same,λb hb=>keep b (R.old b hb) λe=>l (e ▸ hb),λb hb=>R.new b (c b hb),λb hb=>R.dom b (c b hb),by rw[R.len,Ni],λi s k=>?_,λi j J W b x r S G=>?_⟩
 .rcases bu k with ⟨rfl,e⟩ |⟨p,k⟩
  .cases e;exact⟨.ref a,B,.lst (bV y V) (E.same g).len (E.same g).at_⟩
  .obtain⟨w,F,ok⟩:=R.at_ i s k;refine⟨w,F,?_⟩;cases s with
   |val u=>exact Rp.same g ok
   |own J=>
    obtain⟨b,T,rfl,hb,m,t,o⟩:=ok;refine⟨b,T,rfl,keep b hb λe=>?_,m,t,o.same g⟩;subst e;exact p (R.inj n i _ _ b h k B F)
   |pin z u=>exact⟨ok.1,Rp.same g ok.2⟩
   |dsk w C b d Q=>
    obtain⟨N,A,L,q,M,I,f,U⟩:=ok;exact⟨N,A,L,keep d q (λe=>by rw[e,y]at f;cases f),M,I,f,U.same g⟩
   |raw Y P ds=>exact kX.raw_go ok g λd A q f=>⟨keep d q (λe=>by rw[e,y]at f;cases f),f⟩
 .rcases bu x with ⟨_,e⟩ |⟨_,x⟩
  .cases e
  .rcases bu r with ⟨_,e⟩ |⟨_,r⟩
   .cases e
   .exact R.inj i j _ _ b x r S G
section
variable {H0:Hp}{O0:List Jt}{E:XK}{ps:PSt}{D:PD}{ss:List LS}{e:Expr}{xs:List U}{b:Bool}
theorem EU(n)(h:ps[n]?=some (some (.own xs)))(w:Ws X H0 O0 E ss D (ps.set n (some (.val (.lst xs))))):Ws X H0 O0 E ss D ps:=
 PSs.mono w λd e H b=>by
  obtain⟨L,O,R⟩:=b;obtain⟨c,_,a⟩:=R.free n h;exact⟨L,c,a⟩
end
section
variable {ns:List Int}{M:Int}
theorem zW(G:X.calm=true)(h:M∈ns∧∀a∈ns,a≤M):e9 X (.builtin "max") [.lst (ns.map U.int)] (.int M):=by
 intro Z s T H S W Q I r c;obtain⟨O,d,D,q⟩:=c;obtain⟨v,rfl,K⟩:=cW D;obtain⟨p1,rfl,N⟩:=d8 r;cases K with
 | @lst a Y _ c p E=>
  cases N;obtain⟨its,k,f,_⟩:=I.list (SqL.of (aH _ _ c));have l:its.length=ns.length:=by rw[<-k.length,p,IM]
  have m:=qZ (ns:=ns) k ⟨p,E⟩;have x:0<ns.length:=M8 h.1;refine call_max_walk (MP f.isList ?_);have w:a<s.heap.objs.size:=by obtain⟨o,e,_⟩:=f.isList;exact Jc e
  refine⟨s.heap.objs.size,_,_,_,_,_,_,rfl,Walks.list (A:=X.A.in1) (I.ok.hd G) s.heap.objs.size a (Jv w) its.toArray,⟨⟨_,Jm _ rfl,rfl,rfl⟩,f.isList.push _⟩,λb hb=>?_,by rw[JG,l];exact x,CmpOf.ints_gt (λi=>ns.getD i 0) m,λv R L B y=>?_⟩
  .show b<(s.heap.push _).objs.size;rw[Ll];rcases IT.mp hb with z |z
   .rw[z];exact Kh _
   .rw[Jq.mp z];exact LA w
  .obtain⟨t,rfl⟩:=m _ _ B;obtain⟨J,n⟩:=argBest_gt (λi=>ns.getD i 0) (its.toArray.size-1)
   have e:ns.getD (argBest (λi j=>decide (ns.getD i 0 >ns.getD j 0)) (its.toArray.size-1)) 0=M:=by
    rw[JG,l]at J n |-;generalize argBest (λi j=>decide (ns.getD i 0 >ns.getD j 0)) (ns.length-1)=g at *
    have u:g<ns.length:=by lia
    obtain⟨j,C,V⟩:=KJ h.1;have F:=n j (by lia);have P:=h.2 ns[g] (Ka u);simp only[Jx,IQ u,IQ C,OG]at F |-;lia
   rw[e];refine⟨.int M,H,I.kept (t':=L) λb o e=>y b o ?_ (IU _ e),⟨t,rfl⟩,q _ H (.refl H) (.int _)⟩;intro z;have:b=s.heap.objs.size:=by simpa using z
   exact absurd (Jc e) (by rw[this];exact JY _)
end
end L2
namespace TS
open PySem PyProof.Rows
noncomputable def qB:Bool->Kl->Array Kl->Nat->Nat->Nat->StateT L8 Sem (Option Nat):=sortPriv% PySem.Builtin.gallop
section
variable {prog:Jr}{w:J5}{A:Kb}{E:Je→Jd→Prop}{s:Jd}
noncomputable def gt(a:Array Kl)(i:Nat):Kl:=a.getD i (LN,LN)
theorem gt_eq(h:i<a.toList.length):gt a i=a.toList[i]:=by
 have b:i<a.size:=by simpa using h
 simp[gt,Nw,b]
theorem bW(h:i<a.size):gt a i∈a.toList:=by rw[gt_eq (by simpa using h)];exact Ka _
theorem el{st:L8}(b:i<a.size)(h:Q (gt a i) st):wpS (JE prog w) A E s (elem' a i) Q st:=by
 rw[elem'_eq,Ke b];refine Jz ?_;rw[gt_eq (by simpa using b)]at h
 simpa using h
variable {M:Model}{σ:Type}
theorem wif{α:Type}[Decidable c]{x y:StateT σ Sem α}{Q:α->σ->Prop}{st:σ}(h:c->wpS M A E s x Q st)(k:¬ c->wpS M A E s y Q st):wpS M A E s (if c then x else y) Q st:=by
 by_cases e:c
 .rw[if_pos e];exact h e
 .rw[if_neg e];exact k e
theorem md1(h:¬ p ≥ r):(p+r)/2<r:=by lia
theorem md2(h:¬ p ≥ r):p<=(p+r)/2:=by lia
theorem md3(m:r+x<=k+p)(h:q<r):q+(x+1)<=k+p:=Jy (by rw[<-Nx,Nat.add_right_comm];exact Nat.add_le_add_right h x) m
theorem md4(m:r+x<=k+p)(h:p<=q):r+(x+1)<=k+(q+1):=SJ (Jy m (MX h k))
theorem md5{b a:Nat}(h:¬ b ≥ a):b+(a-b)/2<a:=by lia
theorem md6(h:p<=r)(m:r+max 0 k<=k+p):p=r:=Ml h (by rw[Uv,QF]at m;exact Nat.le_of_add_le_add_left m)
theorem md7{h p n o:Nat}(a:p<=n)(b:h<n)(c:n-h<=o):p<=h+min o (n-h):=by rw[Qj c,J8 (Ja b)];exact a
theorem gal{st:L8}{f:Nat->Bool}(B:hint<n)
  (Ww:∀i,i<n->base+i<arr.size)
  (hT:left=true->∀i (Q:Option Bool->L8->Prop),i<n->Q (some (f i)) st->wpS (JE prog w) A E s (lt' (gt arr (base+i)) key) Q st)
  (hF:left=false->∀i (Q:Option Bool->L8->Prop),i<n->Q (some (!f i)) st->wpS (JE prog w) A E s (lt' key (gt arr (base+i))) Q st)
  (hp:p<=n) (hf:∀i,i<n->(f i=true↔i<p)) (h:Q (some p) st):wpS (JE prog w) A E s (qB left key arr base n hint) Q st:=by
 have hb:∀{i}{Q},i<n->Q (some (f i)) st->wpS (JE prog w) A E s (do
   let x <-elem' arr (base+i)
   if left then lt' x key else return (<-lt' key x).map (!·)) Q st:=λ{i Q} l H=>by
  refine Jk (el (Ww _ l) ?_);cases left with
  |true=>exact hT rfl _ _ l H
  |false=>exact Jk (hF rfl _ _ l (Jz (by simpa using H)))
 refine Jk (hb B ?_)
 extract_lets+onlyGivenNames j
 have G:∀a b k l,k<=p->p<=l->l<=n->wpS (JE prog w) A E s (j () a b k l) Q st:=λ_ _ k l M L J=>by
  refine Jk (Ow (L9 (I:=λx c st2=>st2=st/\∃k l,c=(none,k,l)/\k<=p/\p<=l/\l<=n/\l+x<=n+k) (Q:=λc st2=>st2=st/\∃k,c=(none,k,p)) ?_ ?_ ⟨rfl,_,_,rfl,M,L,J,Jy J (JI _ _)⟩) ?_)
  .rintro x c _ _ F ⟨rfl,k,l,rfl,r,m,g,t⟩;refine wif (λy=>Jz ⟨rfl,k,by rw[Ml (Jy y r) m]⟩) λy=>?_;have K:=md5 y;have o:=IZ K g;refine Jk (hb o (wif (λq=>?_) λq=>?_))
   .have:=(hf _ o).mp q;exact Jz ⟨rfl,_,_,rfl,this,m,g,md4 t (JI _ _)⟩
   .have:¬ k+(l-k)/2<p:=λz=>q ((hf _ o).mpr z);exact Jz ⟨rfl,_,_,rfl,r,Lv this,Ja o,md3 t K⟩
  .rintro c _ ⟨rfl,k,l,rfl,r,m,g,t⟩;exact⟨rfl,k,by rw[Ml (Jy (LG (md6 (Jy r m) t).symm) r) m]⟩
  .rintro c _ ⟨rfl,k,rfl⟩;exact Jz h
 refine wif (λD=>?_) λD=>?_
 .have C:=(hf hint B).mp D;refine Jk (Ow (L9 (I:=λx c v=>v=st/\∃e d,c=(none,e,d)/\x+1<=d/\e<d/\hint+e<p) (Q:=λc v=>v=st/\∃e d,c=(none,e,d)/\e<d/\hint+e<p/\p<=hint+min d (n-hint)) ?_ ?_ ⟨rfl,0,1,rfl,IV _,by lia,by lia⟩) ?_)
  .rintro x c _ _ F ⟨rfl,e,d,rfl,r,m,g⟩;refine wif (λu=>Jz ⟨rfl,e,d,rfl,m,g,md7 hp B u⟩) λu=>?_;have u:¬ d ≥ n-hint:=u;have o:hint+d<n:=by lia
   dsimp only;refine Jk (hb o (wif (λq=>?_) λq=>?_))
   .have:¬ hint+d<p:=λz=>by simp[(hf _ o).mpr z]at q
    exact Jz ⟨rfl,e,d,rfl,m,g,by lia⟩
   .have:=(hf _ o).mp (by simpa using q);exact Jz ⟨rfl,_,_,rfl,by lia,by lia,this⟩
  .rintro c _ ⟨rfl,e,d,rfl,r,m,g⟩;exact⟨rfl,e,d,rfl,m,g,by lia⟩
  rintro c _ ⟨rfl,e,d,rfl,r,m,g⟩;exact G 0 0 (hint+e+1) (hint+min d (n-hint)) (by lia) g (by lia)
 .have C:¬ hint<p:=λz=>D ((hf hint B).mpr z);refine Jk (Ow (L9 (I:=λx c v=>v=st/\∃e d,c=(none,e,d)/\x+1<=d/\e<d/\e<=hint/\p<=hint-e) (Q:=λc v=>v=st/\∃e d,c=(none,e,d)/\e<=hint/\p<=hint-e/\hint+1-min d (hint+1)<=p) ?_ ?_ ⟨rfl,0,1,rfl,IV _,by lia,by lia,by lia⟩) ?_)
  .rintro x c _ _ F ⟨rfl,e,d,rfl,r,m,g,t⟩;refine wif (λ(u:d ≥ hint+1)=>Jz ⟨rfl,e,d,rfl,g,t,by lia⟩) λu=>?_;have u:¬ d ≥ hint+1:=u;have o:hint-d<n:=by lia
   dsimp only;refine Jk (hb o (wif (λq=>?_) λq=>?_))
   .have:=(hf _ o).mp q;exact Jz ⟨rfl,e,d,rfl,g,t,by lia⟩
   .have:¬ hint-d<p:=λz=>q ((hf _ o).mpr z);exact Jz ⟨rfl,_,_,rfl,by lia,by lia,by lia,by lia⟩
  .rintro c _ ⟨rfl,e,d,rfl,r,m,g,t⟩;exact⟨rfl,e,d,rfl,g,t,by lia⟩
  rintro c _ ⟨rfl,e,d,rfl,r,m,g⟩;exact G 0 0 (hint+1-min d (hint+1)) (hint-e) g m (by lia)
end
noncomputable def nZ:Nat->StateT L8 Sem Unit:=sortPriv% PySem.Builtin.setMinGallop
noncomputable abbrev gF(st:L8)(g:Nat):L8:=SortSt.mk' (kindOf st) (JT st) (MC st) g (OV st)
noncomputable def Ax:Array Kl->Array Kl->StateT L8 Sem (Array Kl):=sortPriv% PySem.Builtin.mergeLo
section
variable {α:Type}{R:α→α→Bool}{A B out:List α}{ia ib:Nat}
structure MI(R:α->α->Bool)(A B out:List α)(ia ib:Nat):Prop where
 perm:out.Perm (A.take ia++B.take ib)
 srt:out.Pairwise λx y=>R x y=true
 lA:∀x∈out,∀y∈A.drop ia,R x y=true
 lB:∀x∈out,∀y∈B.drop ib,R x y=true
structure MO(R:α->α->Bool)(A B:List α):Prop where
 tr:∀x y z,R x y=true->R y z=true->R x z=true
 sA:A.Pairwise λx y=>R x y=true
 sB:B.Pairwise λx y=>R x y=true
 tot:∀x∈A,∀y∈B,R y x=false->R x y=true
theorem st1(h:0<n)(k:x+1+y+n+m<=s):x+2+(n-1)+m<=s:=by lia
theorem st2(h:0<n)(k:x+1+y+n+m<=s):x+1+(y+1)+(n-1)+m<=s:=by lia
theorem st3(h:0<m)(k:x+1+y+n+m<=s):x+2+n+(m-1)<=s:=by lia
theorem st4(h:0<m)(k:x+1+y+n+m<=s):x+1+(y+1)+n+(m-1)<=s:=by lia
theorem st5(h:0<n)(b:n<=n')(a:m<m')(k:x+2+y+n'+m'<=s):x+2+(y+1)+(n-1)+m<=s:=by lia
theorem st6(k:x+2+(y+1)+n+m<=s):x+2+n+m<=s:=by lia
theorem bq{n m:Nat}(h:(n==m)=true):n=m:=eq_of_beq h
theorem bn{n m:Nat}(h:¬ (n==m)=true):n≠m:=λe=>h (beq_iff_eq.mpr e)
theorem lt2(h:0<n)(k:n≠1):1<n:=Kj h k.symm
theorem lS1(h:i+1<n):i+(n-i)<=n:=LG (J8 (Ja (JX h)))
theorem lS2(h:i+1<n):0<n-i:=NB (JX h)
theorem lS3{i n k:Nat}(_:i+1<n)(h:k<n-i):i+k<n:=Np h
theorem lS4(h:x+2+y<=i+n)(b:i<=i')(a:n<n'):x+2+(y+1)<=i'+1+n':=by lia
theorem lS5(h:x+2+y<=i+n)(b:i<=i')(a:n<n'):x+2<=i'+1+n':=by lia
theorem lS6(h:i+1<n)(k1:k<=n-(i+1)):i+1+k<=n:=QS (Ja h) k1
theorem lS7(h:i+1<n)(k1:k<=n-i):i+k<=n:=QS (Ja (JX h)) k1
theorem lT1(h:x+1+y<=i+j):x+2<=i+(j+1):=by lia
theorem lT2(h:x+1+y<=i+j):x+1+(y+1)<=i+(j+1):=SJ h
theorem lT3(h:x+1+y<=i+j):x+2<=i+1+j:=by lia
theorem lT4(h:x+1+y<=i+j):x+1+(y+1)<=i+1+j:=by lia
theorem lS8(h:i<=n)(b:i+1≠n)(a:i≠n):i+1<n:=Kj (Kj h a) b
theorem gr(c:∀x y z,R x y=true->R y z=true->R x z=true){L:List α}(b:L.Pairwise λx y=>R x y=true)(a:i<L.length)(h:R x L[i]=true):∀y∈L.drop i,R x y=true:=λy hy=>by
 rw[JJ a]at hy;rcases IT.mp hy with e |e
 .rw[e];exact h
 .have:=(J0.mp (by rw[<-JJ a];exact b.sublist (MS i L))).1 y e;exact c _ _ _ h this
theorem oB{L:List α}(b:L.Pairwise λx y=>R x y=true)(a:i<L.length):∀y∈L.drop (i+1),R L[i] y=true:=λy hy=>
 (J0.mp (by rw[<-JJ a];exact b.sublist (MS i L))).1 y hy
theorem iC{L:List α}(h:y∈L.drop (i+1)):y∈L.drop i:=by
 rw[<-TN]at h;exact LV h
theorem gE{L:List α}(a:i<L.length):L[i]∈L.drop i:=by rw[JJ a];exact IW
theorem MI.pushA(O:MO R A B)(I:MI R A B out ia ib)(b:ia<A.length)(h:∀y∈B.drop ib,R A[ia] y=true):MI R A B (out++[A[ia]]) (ia+1) ib where
 perm:=by
  rw[MK b];refine (I.perm.append_right _).trans ?_;rw[Jj,Jj];exact Mz _ Nq
 srt:=Kk.mpr ⟨I.srt,by simp,λx a y hy=>by rw[Jq.mp hy];exact I.lA x a _ (gE b)⟩
 lA:=λx a y hy=>by
  rcases JB.mp a with e |e
  .exact I.lA x e y (iC hy)
  .rw[Jq.mp e];exact oB O.sA b y hy
 lB:=λx a y hy=>by
  rcases JB.mp a with e |e
  .exact I.lB x e y hy
  .rw[Jq.mp e];exact h y hy
theorem MI.pushB(O:MO R A B)(I:MI R A B out ia ib)(b:ib<B.length)(h:∀y∈A.drop ia,R B[ib] y=true):MI R A B (out++[B[ib]]) ia (ib+1) where
 perm:=by
  rw[MK b,<-Jj];exact I.perm.append_right _
 srt:=Kk.mpr ⟨I.srt,by simp,λx a y hy=>by rw[Jq.mp hy];exact I.lB x a _ (gE b)⟩
 lA:=λx a y hy=>by
  rcases JB.mp a with e |e
  .exact I.lA x e y hy
  .rw[Jq.mp e];exact h y hy
 lB:=λx a y hy=>by
  rcases JB.mp a with e |e
  .exact I.lB x e y (iC hy)
  .rw[Jq.mp e];exact oB O.sB b y hy
theorem MI.runA(O:MO R A B)(a:ib<B.length):∀k {out}{ia},MI R A B out ia ib->ia+k<=A.length->(∀i (h:ia+i<A.length),i<k->R A[ia+i] B[ib]=true)->MI R A B (out++(A.drop ia).take k) (ia+k) ib
 |0,out,ia,I,_,_=>by simpa using I
 |k+1,out,ia,I,d,h=>by
  have hi:ia<A.length:=by lia
  have b:=I.pushA O hi (gr O.tr O.sB a (h 0 (by lia) (by lia)))
  have:=MI.runA O a k b (by lia) (λi f c=>by
   have:=h (i+1) (by lia) (by lia);have e:A[ia+1+i]=A[ia+(i+1)]'(by lia):=by congr 1;lia
   rw[e];exact this)
  rw[JJ hi,Lg];rw[Jj,show ia+1+k=ia+(k+1) by lia]at this
  exact this
theorem MI.runB(O:MO R A B)(a:ia<A.length):∀k {out}{ib},MI R A B out ia ib->ib+k<=B.length->(∀i (h:ib+i<B.length),i<k->R B[ib+i] A[ia]=true)->MI R A B (out++(B.drop ib).take k) ia (ib+k)
 |0,out,ib,I,_,_=>by simpa using I
 |k+1,out,ib,I,d,h=>by
  have hi:ib<B.length:=by lia
  have b:=I.pushB O hi (gr O.tr O.sA a (h 0 (by lia) (by lia)))
  have:=MI.runB O a k b (by lia) (λi f c=>by
   have:=h (i+1) (by lia) (by lia);have e:B[ib+1+i]=B[ib+(i+1)]'(by lia):=by congr 1;lia
   rw[e];exact this)
  rw[JJ hi,Lg];rw[Jj,show ib+1+k=ib+(k+1) by lia]at this
  exact this
def Mgd(R:α->α->Bool)(A B r:List α):Prop:=r.Perm (A++B)/\r.Pairwise λx y=>R x y=true
theorem MI.perm_all(I:MI R A B out ia ib):(out++A.drop ia++B.drop ib).Perm (A++B):=by
 have h:(out++A.drop ia++B.drop ib).Perm ((A.take ia++B.take ib)++A.drop ia++B.drop ib):=(I.perm.append_right _).append_right _;refine h.trans ?_;have e:A++B=(A.take ia++A.drop ia)++(B.take ib++B.drop ib):=by rw[JQ,JQ]
 rw[e,Jj,Jj,Jj];refine Mz _ ?_;rw[<-Jj,<-Jj];exact Qs _ Nq
theorem MI.doneB(O:MO R A B)(I:MI R A B out ia ib)(h:ib=B.length):Mgd R A B (out++A.drop ia++B.drop ib):=by
 refine⟨I.perm_all,?_⟩;rw[h,NV,Km];exact Kk.mpr ⟨I.srt,O.sA.sublist (MS _ _),I.lA⟩
theorem MI.doneA(O:MO R A B)(I:MI R A B out ia ib)(h:ia=A.length):Mgd R A B (out++A.drop ia++B.drop ib):=by
 refine⟨I.perm_all,?_⟩;rw[h,NV,Km];exact Kk.mpr ⟨I.srt,O.sB.sublist (MS _ _),I.lB⟩
theorem MI.last(O:MO R A B)(I:MI R A B out ia ib)(h:ia+1=A.length)(a:∀y∈B,R y (A[ia]'(by lia))=true):Mgd R A B (out++B.drop ib++A.drop ia):=by
 refine⟨?_,?_⟩
 .refine Te ?_ I.perm_all;rw[Jj,Jj];exact Mz _ Nq
 .have e:A.drop ia=[A[ia]'(by lia)]:=by rw[JJ (by lia),List.drop_of_length_le (by lia)]
  rw[e];refine Kk.mpr ⟨Kk.mpr ⟨I.srt,O.sB.sublist (MS _ _),I.lB⟩,by simp,λx b y hy=>?_⟩;rw[Jq.mp hy];rcases JB.mp b with z |z
  .exact I.lA x z _ (by rw[e];simp)
  .exact a x (LV z)
end
section
variable {M:Model}{A:Kb}{E:Je→Jd→Prop}{s:Jd}{σ:Type}
theorem GZ{d:Type}{f:Nat->d->StateT σ Sem (ForInStep d)}(I:Nat->d->σ->Prop){Q:d->σ->Prop}
  (hstep:∀i c a,i<n->I i c a->∀b,(∀c e,Q c e->b (.done c) e)->(∀c e,I (i+1) c e->b (.yield c) e)->wpS M A E s (f i c) b a)
  (hend:∀c a,I n c a->Q c a) {c:d}{a:σ} (h:I 0 c a):wpS M A E s (forIn [0:n] c f) Q a:=
 L9 I (λi c a _ j g=>hstep i c a j g _ (λ_ _ h=>h) (λ_ _ h=>h)) (λc a h=>hend c a (by rwa [Uv]at h)) h
variable {prog:Jr}{w:J5}
theorem ru{st:L8}(h:Q () st):wpS (JE prog w) A E s (liftM (rule x)) Q st:=wpS_lift (Q3 ⟨rfl,h⟩)
def Asks(prog:Jr)(w:J5)(A:Kb)(E:Je->Jd->Prop)(s:Jd)(b:Ox)(P:Kl->Prop)(R:Kl->Kl->Bool):Prop:=
 ∀x y a (Q:Option Bool->L8->Prop),P x->P y->kindOf a=b->Q (some (R x y)) a->wpS (JE prog w) A E s (lt' x y) Q a
theorem wC(q:Nat->Bool)(b:∀i j,i<j->j<n->q j=true->q i=true):∃k,k<=n/\(∀i,i<k->q i=true)/\∀i,k<=i->i<n->q i=false:=by
 have go:∀m,m<=n->(∀i,m<=i->i<n->q i=false)->∃k,k<=n/\(∀i,i<k->q i=true)/\∀i,k<=i->i<n->q i=false:=by
  intro m
  induction m with
  |zero=>intro _ c;exact⟨0,JZ _,λi h=>by lia,c⟩
  |succ m f=>
   intro e c;by_cases d:q m=true
   .refine⟨m+1,e,λi a=>?_,c⟩;rcases JD (J4 a) with z |z
    .exact b i m z (by lia) d
    .subst z;exact d
   .refine f (by lia) λi a g=>?_;rcases JD a with z |z
    .exact c i z g
    .subst z;simpa using d
 exact go n (IV _) λi l o=>by lia
variable {κ:Ox}{P:Kl→Prop}{R:Kl→Kl→Bool} (K:Asks prog w A E s κ P R)
include K
theorem FA{st:L8}(o:kindOf st=κ)(D:ib+n<=b.size)(u:hint<n)(m:P key)(l:∀i,i<n->P (gt b (ib+i)))(t:∀x y z,R x y=true->R y z=true->R x z=true)(r:∀i j,i<j->j<n->R (gt b (ib+i)) (gt b (ib+j))=true)
  (h:∀k,k<=n->(∀i,i<k->R (gt b (ib+i)) key=true)->(∀i,k<=i->i<n->R (gt b (ib+i)) key=false)->Q (some k) st):wpS (JE prog w) A E s (qB true key b ib n hint) Q st:=by
 obtain⟨k,g,d,c⟩:=wC (n:=n) (λi=>R (gt b (ib+i)) key) λi j C B q=>t _ _ _ (r i j C B) q;refine gal (f:=λi=>R (gt b (ib+i)) key) (p:=k) u (λi a=>by lia) (λ_ i F a v=>K _ _ _ _ (l i a) m o v) (λz=>by cases z) g (λi a=>?_) (h k g d c)
 .constructor
  .intro e;rcases LI i k with z |z
   .exact z
   .rw[c i z a]at e;cases e
  .intro z;exact d i z
theorem E1{st:L8}(t:kindOf st=κ)(D:ib+n<=b.size)(B:hint<n)(r:P key)(q:∀i,i<n->P (gt b (ib+i)))(v:∀x y z,R x y=true->R y z=true->R x z=true)(u:∀i j,i<j->j<n->R (gt b (ib+i)) (gt b (ib+j))=true)
  (h:∀k,k<=n->(∀i,i<k->R key (gt b (ib+i))=false)->(∀i,k<=i->i<n->R key (gt b (ib+i))=true)->Q (some k) st):wpS (JE prog w) A E s (qB false key b ib n hint) Q st:=by
 obtain⟨k,o,l,g⟩:=wC (n:=n) (λi=>!R key (gt b (ib+i))) λi j e d c=>by
  rw[Ol]at c |-;cases hc:R key (gt b (ib+i)) with
  |false=>rfl
  |true=>rw[v _ _ _ hc (u i j e d)]at c;cases c
 refine gal (f:=λi=>!R key (gt b (ib+i))) (p:=k) B (λi a=>by lia) (λz=>by cases z) (λ_ i F a C=>K _ _ _ _ r (q i a) t (by simpa using C)) o (λi a=>?_) (h k o (λi a=>by simpa using l i a) λi e d=>by simpa using g i e d)
 .constructor
  .intro m;rcases LI i k with z |z
   .exact z
   .have:=g i z a;rw[this]at m;cases m
  .intro z;exact l i z
omit K in
theorem j3(a:Array Kl)(i:Nat):(a.extract i a.size).toList=a.toList.drop i:=by simp[Kq]
omit K in
theorem iq(a:Array Kl)(i k:Nat):(a.extract i (i+k)).toList=(a.toList.drop i).take k:=by simp
omit K in
theorem sg{g:Nat}{st:L8}{Q:Unit->L8->Prop}(h:Q () (gF st g)):wpS (JE prog w) A E s (nZ g) Q st:=Oq h
omit K in
theorem loop{st:L8}{k y:Type}{f:Nat->k->StateT L8 Sem (ForInStep k)}{Q:k->L8->Prop}(e:Array Kl->Nat->Nat->Nat->Nat->Nat->k)(q:Array Kl->y->k)(G:Array Kl->Prop)(J:Nat->Array Kl->Nat->Nat->Prop)(u:Array Kl->Nat->Nat->Prop)
  (hs:∀x g o i j m a b,J x o i j->∀d,(∀g r t,G r->d (.done (q r t)) (gF st g))->(∀g o i j m a b,u o i j->d (.done (e o i j m a b)) (gF st g))->(∀g o i j m a b,J (x+1) o i j->d (.yield (e o i j m a b)) (gF st g))->wpS (JE prog w) A E s (f x (e o i j m a b)) d (gF st g))
  (he:∀o i j,¬ J n o i j) (h0:J 0 o i j) (hr:∀g r t,G r->Q (q r t) (gF st g)) (hb:∀g o i j m a b,u o i j->Q (e o i j m a b) (gF st g)):wpS (JE prog w) A E s (forIn [0:n] (e o i j m a b) f) Q (gF st g):=by
 refine GZ (I:=λx c l=>∃g o i j m a b,l=gF st g/\c=e o i j m a b/\J x o i j) (λx c l _ h d p v=>?_) (λc l h=>?_) ⟨g,o,i,j,m,a,b,rfl,rfl,h0⟩
 .obtain⟨g,o,i,j,m,a,b,rfl,rfl,h⟩:=h;exact hs x g o i j m a b h d (λg r t z=>p _ _ (hr g r t z)) (λg o i j m a b z=>p _ _ (hb g o i j m a b z)) λg o i j m a b z=>v _ _ ⟨g,o,i,j,m,a,b,rfl,rfl,z⟩
 .obtain⟨g,o,i,j,m,a,b,rfl,rfl,h⟩:=h;exact (he o i j h).elim
theorem mlo{st:L8}(O:MO R a.toList b.toList)(pa:∀x∈a.toList,P x)(pb:∀x∈b.toList,P x)(ha:0<a.size)(X:0<b.size)(h0:R (gt b 0) (gt a 0)=true)(hl:∀y∈b.toList,R y (gt a (a.size-1))=true)(hk:kindOf st=κ)
  (h:∀r g,Mgd R a.toList b.toList r.toList->Q r (gF st g)):wpS (JE prog w) A E s (Ax a b) Q st:=by
 have la:a.toList.length=a.size:=by simp
 have lb:b.toList.length=b.size:=by simp
 have U:∀{out:Array Kl}{d c:Nat},MI R a.toList b.toList out.toList d c->c=b.size->Mgd R a.toList b.toList (out++a.extract d a.size++b.extract c b.size).toList:=λ{out d c} I e=>by
  rw[JU,JU,j3,j3];exact I.doneB O (by lia)
 have ls:∀{out:Array Kl}{d c:Nat},MI R a.toList b.toList out.toList d c->d+1=a.size->Mgd R a.toList b.toList (out++b.extract c b.size++a.extract d a.size).toList:=λ{out d c} I e=>by
  rw[JU,JU,j3,j3];refine I.last O (by lia) λy hy=>?_;have:=hl y hy;rw[show a.size-1=d by lia,gt_eq (by lia)]at this
  exact this
 have V:∀{out:Array Kl}{d c:Nat},MI R a.toList b.toList out.toList d c->d<a.size->c<b.size->R (gt b c) (gt a d)=false->MI R a.toList b.toList (out.push (gt a d)).toList (d+1) c:=λ{out d c} I M J f=>by
  rw[Mf,gt_eq (show d<a.toList.length by lia)];refine I.pushA O (by lia) (gr O.tr O.sB (show c<b.toList.length by lia) ?_);rw[gt_eq (show c<b.toList.length by lia),gt_eq (show d<a.toList.length by lia)]at f
  exact O.tot _ (Ka _) _ (Ka _) f
 have N:∀{out:Array Kl}{d c:Nat},MI R a.toList b.toList out.toList d c->d<a.size->c<b.size->R (gt b c) (gt a d)=true->MI R a.toList b.toList (out.push (gt b c)).toList d (c+1):=λ{out d c} I M J f=>by
  rw[Mf,gt_eq (show c<b.toList.length by lia)];refine I.pushB O (by lia) (gr O.tr O.sA (show d<a.toList.length by lia) ?_);rw[gt_eq (show c<b.toList.length by lia),gt_eq (show d<a.toList.length by lia)]at f
  exact f
 have sa:∀{d n:Nat},d+n<=a.size->∀i j,i<j->j<n->R (gt a (d+i)) (gt a (d+j))=true:=λ{d n} hn i j M J=>by
  rw[gt_eq (show d+i<a.toList.length by lia),gt_eq (show d+j<a.toList.length by lia)];exact Js.mp O.sA _ _ _ _ (by lia)
 have sb:∀{c n:Nat},c+n<=b.size->∀i j,i<j->j<n->R (gt b (c+i)) (gt b (c+j))=true:=λ{c n} hn i j M J=>by
  rw[gt_eq (show c+i<b.toList.length by lia),gt_eq (show c+j<b.toList.length by lia)];exact Js.mp O.sB _ _ _ _ (by lia)
 have dA:∀{out:Array Kl}{d c:Nat},MI R a.toList b.toList out.toList d c->d=a.size->Mgd R a.toList b.toList (out++a.extract d a.size++b.extract c b.size).toList:=λ{out d c} I e=>by
  rw[JU,JU,j3,j3];exact I.doneA O (by lia)
 have rA:∀{out:Array Kl}{d c k:Nat},MI R a.toList b.toList out.toList d c->c<b.size->d+k<=a.size->(∀i,i<k->R (gt b c) (gt a (d+i))=false)->MI R a.toList b.toList (out++a.extract d (d+k)).toList (d+k) c:=λ{out d c k} I J M f=>by
  rw[JU,iq];refine I.runA O (show c<b.toList.length by lia) k (by lia) λi h D=>?_;have:=f i D;rw[gt_eq (show c<b.toList.length by lia),gt_eq h]at this
  exact O.tot _ (Ka _) _ (Ka _) this
 have rB:∀{out:Array Kl}{d c k:Nat},MI R a.toList b.toList out.toList d c->d<a.size->c+k<=b.size->(∀i,i<k->R (gt b (c+i)) (gt a d)=true)->MI R a.toList b.toList (out++b.extract c (c+k)).toList d (c+k):=λ{out d c k} I J M f=>by
  rw[JU,iq];refine I.runB O (show d<a.toList.length by lia) k (by lia) λi h D=>?_;have:=f i D;rw[gt_eq (show d<a.toList.length by lia),gt_eq h]at this
  exact this
 have start:MI R a.toList b.toList (#[gt b 0]:Array Kl).toList 0 1:=by
  have e:(#[gt b 0]:Array Kl)=(#[]:Array Kl).push (gt b 0):=rfl;rw[e];exact N ⟨by simp,by simp,by simp,by simp⟩ ha X h0
 refine Jk (ru (Jk (el X ?_)))
 try dsimp -zeta only
 refine wif (λe1=>Jz (h _ (P8 st) (U start (bq e1)))) λe1=>?_;refine wif (λe2=>Jz (h _ (P8 st) (ls start (bq e2)))) λe2=>Jk (Pq ?_)
 try dsimp -zeta only
 refine Jk (loop (st:=st) (g:=P8 st) (m:=P8 st) (a:=0) (b:=0) (λo i j m _ _=>(none,o,i,j,m)) (λr t=>(some r,t)) (λr=>Mgd R a.toList b.toList r.toList) (λx o i j=>(MI R a.toList b.toList o.toList i j/\i+1<a.size/\j<b.size)/\x+1<=i+j) (λ_ _ _=>False) ?step (λo i j z=>Nat.not_le_of_lt (Nat.add_lt_add (JX z.1.2.1) z.1.2.2) (Nat.le_of_succ_le z.2)) ⟨⟨start,Kj ha (bn e2),Kj X (bn e1)⟩,IV _⟩ (λg r t z=>Jz (h r g z)) λ_ _ _ _ _ _ _ z=>z.elim)
 case step=>
  intro x g out d c mg _ _ z post pd _ py;refine Jk (loop (a:=0) (b:=0) (m:=0) (λo i j _ m k=>(none,o,i,j,m,k)) (λr t=>(some r,t)) (λr=>Mgd R a.toList b.toList r.toList) (λy o i j=>(MI R a.toList b.toList o.toList i j/\i+1<a.size/\j<b.size)/\x+1+y<=i+j) (λo i j=>(MI R a.toList b.toList o.toList i j/\i+1<a.size/\j<b.size)/\x+2<=i+j) ?s2 (λo i j z=>by lia) z (λg r t z=>Jz (pd g r _ z)) ?p2)
  case s2=>
   intro y g out d c _ ac bc z post2 u S T;refine Jk (el z.1.2.2 (Jk (el (JX z.1.2.1) (Jk (K _ _ _ _ (pb _ (bW z.1.2.2)) (pa _ (bW (JX z.1.2.1))) hk ?_)))));refine wif (λH=>Jk (el z.1.2.2 ?_)) λH=>Jk (el (JX z.1.2.1) ?_)
   .refine wif (λv=>Jz (u _ _ _ (U (N z.1.1 (JX z.1.2.1) z.1.2.2 H) (bq v)))) λv=>?_;have L:(MI R a.toList b.toList (out.push (gt b c)).toList d (c+1)/\d+1<a.size/\c+1<b.size):=⟨N z.1.1 (JX z.1.2.1) z.1.2.2 H,z.1.2.1,Kj z.1.2.2 (bn v)⟩;exact wif (λ_=>Jz (S _ _ _ _ 0 _ _ ⟨L,lT1 z.2⟩)) λ_=>Jz (T _ _ _ _ 0 _ _ ⟨L,lT2 z.2⟩)
   .refine wif (λB=>Jz (u _ _ _ (ls (V z.1.1 (JX z.1.2.1) z.1.2.2 (eq_false_of_ne_true H)) (bq B)))) λB=>?_;have L:(MI R a.toList b.toList (out.push (gt a d)).toList (d+1) c/\d+1+1<a.size/\c<b.size):=⟨V z.1.1 (JX z.1.2.1) z.1.2.2 (eq_false_of_ne_true H),Kj z.1.2.1 (bn B),z.1.2.2⟩;exact wif (λ_=>Jz (S _ _ _ _ 0 _ _ ⟨L,lT3 z.2⟩)) λ_=>Jz (T _ _ _ _ 0 _ _ ⟨L,lT4 z.2⟩)
  case p2=>
   intro g out d c _ ac bc z;refine Jk (ru (Jk (loop (λo i j m k l=>(none,o,i,j,m,k,l)) (λr t=>(some r,t)) (λr=>Mgd R a.toList b.toList r.toList) (λy o i j=>(MI R a.toList b.toList o.toList i j/\i+1<a.size/\j<b.size)/\x+2+y<=i+j) (λo i j=>(MI R a.toList b.toList o.toList i j/\i+1<a.size/\j<b.size)/\x+2<=i+j) ?s3 (λo i j z=>by lia) z (λg r t z=>Jz (pd g r _ z)) λg o i j m k l z=>Jk (sg (Jz (py _ _ _ _ _ 0 0 ⟨z.1,z.2⟩))))))
   case s3=>
    intro x3 g out d c mg ac bc z Z u S T;dsimp -zeta only
    extract_lets+onlyGivenNames q1 q2 q3 q4 q5 q6 q7 q8 q9 q10 q11 q12 j
    have p:∀m,wpS (JE prog w) A E s (j () m) Z (gF st g):=λm=>by
     refine Jk (sg ?_);dsimp -zeta only[q1,q2,q3,q4,q5,q6,q7,q8,q9,q10,q11,q12];refine Jk (el z.1.2.2 (Jk (E1 K hk (lS1 z.1.2.1) (lS2 z.1.2.1) (pb _ (bW z.1.2.2)) (λi D=>pa _ (bW (lS3 z.1.2.1 D))) O.tr (sa (lS1 z.1.2.1)) λk kn k1 k2=>?_)));dsimp -zeta only
     extract_lets+onlyGivenNames r1 j'
     have p:∀o i,MI R a.toList b.toList o.toList i c->i+1<a.size->d<=i->R (gt b c) (gt a i)=true->wpS (JE prog w) A E s (j' () o i) Z (gF st m):=λout i I l9 l0 f=>by
      have C:i<a.size:=JX l9;have I3:=N I C z.1.2.2 f;refine Jk (el z.1.2.2 (wif (λv=>Jz (u _ _ _ (U I3 (bq v)))) λv=>?_));have F:c+1<b.size:=Kj z.1.2.2 (bn v);refine Jk (el C (Jk (FA K hk (LG (J8 (Ja F))) (NB F) (pa _ (bW C)) (λi D=>pb _ (bW (Np D))) O.tr (sb (LG (J8 (Ja F)))) λl ln m1 m2=>?_)));dsimp -zeta only
      extract_lets+onlyGivenNames r2 r3 j''
      have p:∀o n,MI R a.toList b.toList o.toList i n->n<b.size->c<n->R (gt b n) (gt a i)=false->wpS (JE prog w) A E s (j'' () o n) Z (gF st m):=λout n I l1 G f=>by
       refine Jk (el C (wif (λB=>Jz (u _ _ _ (ls (V I C l1 f) (bq B)))) λB=>?_));have z6:(MI R a.toList b.toList (out.push (gt a i)).toList (i+1) n/\i+1+1<a.size/\n<b.size):=⟨V I C l1 f,Kj l9 (bn B),l1⟩;exact wif (λ_=>Jz (S _ _ _ _ _ _ _ ⟨z6,lS5 z.2 l0 G⟩)) λ_=>Jz (T _ _ _ _ _ _ _ ⟨z6,lS4 z.2 l0 G⟩)
      refine wif (λhl0=>?_) λhl0=>p _ _ I3 F (Kh _) (m2 0 (by lia) (by lia));have I4:=rB I3 C (lS6 F ln) m1;exact wif (λq=>Jz (u _ _ _ (U I4 (bq q)))) λq=>p _ _ I4 (Kj (lS6 F ln) (bn q)) (IZ (Kh _) (JI _ _)) (m2 l (IV _) (by have:=bn q;lia))
     refine wif (λhk0=>?_) λhk0=>p _ _ z.1.1 z.1.2.1 (IV _) (k2 0 (by lia) (by lia));have Y:=rA z.1.1 z.1.2.2 (lS7 z.1.2.1 kn) k1;exact wif (λq=>Jz (u _ _ _ (ls Y (bq q)))) λq=>wif (λW=>Jz (u _ _ _ (dA Y (bq W)))) λW=>p _ _ Y (lS8 (lS7 z.1.2.1 kn) (bn q) (bn W)) (JI _ _) (k2 k (IV _) (by have:=bn W;lia))
    exact wif (λ_=>p _) λ_=>p _
end
section
variable {α:Type}{R:α→α→Bool}{A B:List α}
theorem vZ(L:List α)(i k)(h:i+k<=L.length):((L.drop i).take k).reverse=(L.reverse.drop (L.length-i-k)).take k:=by
 rw[List.reverse_take,List.reverse_drop,K_,List.drop_take,Qk (OC h)]
theorem sub1(h:0<m)(k:m<=n):n-(m-1)=n-m+1:=by rw[Nat.sub_sub_right n h,Nat.sub_add_comm k]
theorem AL(L:List α)(n)(h:n<=L.length):L.reverse.drop (L.length-n)=(L.take n).reverse:=by
 rw[List.drop_reverse,Qk h]
theorem MO.rev(O:MO R A B):MO (λx y=>R y x) B.reverse A.reverse where
 tr:=λ_ _ _ a b=>O.tr _ _ _ b a
 sA:=LK.mpr O.sB
 sB:=LK.mpr O.sA
 tot:=λx c y hy h=>O.tot y (Jh.mp hy) x (Jh.mp c) h
theorem Mgd.rev(m:Mgd (λx y=>R y x) B.reverse A.reverse r):Mgd R A B r.reverse:=
 ⟨(PM r).trans (m.1.trans ((Nq).trans ((PM A).append (PM B)))),LK.mpr m.2⟩
end
structure MH(R:Kl->Kl->Bool)(a b o:Array Kl)(i j:Nat):Prop where
 mi:MI (λx y=>R y x) b.toList.reverse a.toList.reverse o.toList (b.size-j) (a.size-i)
 i0:0<i
 i1:i<=a.size
 j1:1<j
 j2:j<=b.size
theorem MH.j0(h:MH R a b o i j):0<j:=JX h.j1
theorem MH.ha(h:MH R a b o i j):i-1<a.size:=IZ (LQ h.i0 Lr) h.i1
theorem MH.hb(h:MH R a b o i j):j-1<b.size:=IZ (LQ h.j0 Lr) h.j2
theorem lE(h:x+1+n+i+j<=n):False:=by lia
theorem lE1(h:n+1+i+j<=n):False:=by lia
theorem lE0(h:0<n):0+1+(n-1)+m<=n+m:=by lia
section
variable {prog:Jr}{w:J5}{A:Kb}{E:Je→Jd→Prop}{s:Jd}{κ:Ox}{P:Kl→Prop}{R:Kl→Kl→Bool} (K:Asks prog w A E s κ P R)
theorem gg(b:n<=a.size)(c:i<n)(h:a.size-n+i<a.toList.reverse.length):a.toList.reverse[a.size-n+i]=gt a (n-1-i):=by
 rw[List.getElem_reverse,gt_eq (by simp;omega)];congr 1;simp;omega
noncomputable def Ac:Array Kl->Array Kl->StateT L8 Sem (Array Kl):=sortPriv% PySem.Builtin.mergeHi
include K
theorem mhi{st:L8}(O:MO R a.toList b.toList)(pa:∀x∈a.toList,P x)(pb:∀x∈b.toList,P x)(ha:0<a.size)(hb:0<b.size)(h0:R (gt b (b.size-1)) (gt a (a.size-1))=true)(hl:∀y∈a.toList,R (gt b 0) y=true)(hk:kindOf st=κ)
  (h:∀r g,Mgd R a.toList b.toList r.toList->Q r (gF st g)):wpS (JE prog w) A E s (Ac a b) Q st:=by
 have la:a.toList.reverse.length=a.size:=by simp
 have lb:b.toList.reverse.length=b.size:=by simp
 have B:=O.rev
 have xa:∀n,n<=a.size->(a.extract 0 n).toList=(a.toList.reverse.drop (a.size-n)).reverse:=λn D=>by
  have:=AL a.toList n (by simpa using D);rw[Jg]at this;rw[this,OR];simp
 have xb:∀n,n<=b.size->(b.extract 0 n).toList=(b.toList.reverse.drop (b.size-n)).reverse:=λn D=>by
  have:=AL b.toList n (by simpa using D);rw[Jg]at this;rw[this,OR];simp
 have dn:∀{out:Array Kl}{d c:Nat},MI (λx y=>R y x) b.toList.reverse a.toList.reverse out.toList (b.size-c) (a.size-d)->c<=b.size->d=0->Mgd R a.toList b.toList (a.extract 0 d++b.extract 0 c++out.reverse).toList:=λ{out d c} I D e=>by
  have:=(I.doneB B (by lia)).rev;rw[Mm,Mm,<-Jj,<-xa d (by lia),<-xb c D]at this
  rw[JU,JU,ML];exact this
 have dA:∀{out:Array Kl}{d c:Nat},MI (λx y=>R y x) b.toList.reverse a.toList.reverse out.toList (b.size-c) (a.size-d)->d<=a.size->c=0->Mgd R a.toList b.toList (a.extract 0 d++b.extract 0 c++out.reverse).toList:=λ{out d c} I D e=>by
  have:=(I.doneA B (by lia)).rev;rw[Mm,Mm,<-Jj,<-xa d D,<-xb c (by lia)]at this
  rw[JU,JU,ML];exact this
 have ls:∀{out:Array Kl}{d c:Nat},MI (λx y=>R y x) b.toList.reverse a.toList.reverse out.toList (b.size-c) (a.size-d)->d<=a.size->c=1->Mgd R a.toList b.toList (b.extract 0 c++a.extract 0 d++out.reverse).toList:=λ{out d c} I D e=>by
  have:=(I.last B (by lia) λy hy=>by
   have z:=hl y (Jh.mp hy);have g:=gg (a:=b) (n:=c) (i:=0) (by lia) (by lia) (by lia);simp only[Nj]at g;rw[g,e];exact z).rev
  rw[Mm,Mm,<-Jj,<-xa d D,<-xb c (by lia)]at this
  rw[JU,JU,ML];exact this
 have U:∀{out:Array Kl}{d c:Nat},MI (λx y=>R y x) b.toList.reverse a.toList.reverse out.toList (b.size-c) (a.size-d)->0<d->d<=a.size->0<c->c<=b.size->R (gt b (c-1)) (gt a (d-1))=true->MI (λx y=>R y x) b.toList.reverse a.toList.reverse (out.push (gt a (d-1))).toList (b.size-c) (a.size-(d-1)):=λ{out d c} I f q H M v=>by
  have g:=gg (a:=a) (n:=d) (i:=0) q f (by lia);have u:=gg (a:=b) (n:=c) (i:=0) M H (by lia);simp only[Nj,QT]at g u;rw[Mf,<-g,sub1 f q];refine I.pushB B (by lia) (gr B.tr B.sA (by lia) ?_);rw[g,u];exact v
 have pA:∀{out:Array Kl}{d c:Nat},MI (λx y=>R y x) b.toList.reverse a.toList.reverse out.toList (b.size-c) (a.size-d)->0<d->d<=a.size->0<c->c<=b.size->R (gt b (c-1)) (gt a (d-1))=false->MI (λx y=>R y x) b.toList.reverse a.toList.reverse (out.push (gt b (c-1))).toList (b.size-(c-1)) (a.size-d):=λ{out d c} I f q H M v=>by
  have g:=gg (a:=a) (n:=d) (i:=0) q f (by lia);have u:=gg (a:=b) (n:=c) (i:=0) M H (by lia);simp only[Nj,QT]at g u;rw[Mf,<-u,sub1 H M];refine I.pushA B (by lia) (gr B.tr B.sB (by lia) ?_);rw[g,u];exact O.tot _ (bW (by lia)) _ (bW (by lia)) v
 have rB:∀{out:Array Kl}{d c k:Nat},MI (λx y=>R y x) b.toList.reverse a.toList.reverse out.toList (b.size-c) (a.size-d)->k<=d->d<=a.size->0<c->c<=b.size->(∀i,k<=i->i<d->R (gt b (c-1)) (gt a i)=true)->MI (λx y=>R y x) b.toList.reverse a.toList.reverse (out++(a.extract k d).reverse).toList (b.size-c) (a.size-k):=λ{out d c k} I f q H M v=>by
  have e:(a.extract k d).reverse.toList=(a.toList.reverse.drop (a.size-d)).take (d-k):=by
   have:=vZ a.toList k (d-k) (by rw[J8 f];simpa using q);rw[Jg,UM,J8 f]at this;rw[<-this,ML,<-iq,J8 f]
  rw[JU,e,<-Qt q f];refine I.runB B (by lia) _ (by lia) λi h W=>?_;have u:=gg (a:=b) (n:=c) (i:=0) M H (by lia);simp only[Nj,QT]at u;rw[gg q (by lia),u];exact v _ (by lia) (by lia)
 have rA:∀{out:Array Kl}{d c k:Nat},MI (λx y=>R y x) b.toList.reverse a.toList.reverse out.toList (b.size-c) (a.size-d)->k<=c->c<=b.size->0<d->d<=a.size->(∀i,k<=i->i<c->R (gt b i) (gt a (d-1))=false)->MI (λx y=>R y x) b.toList.reverse a.toList.reverse (out++(b.extract k c).reverse).toList (b.size-k) (a.size-d):=λ{out d c k} I f q H M v=>by
  have e:(b.extract k c).reverse.toList=(b.toList.reverse.drop (b.size-c)).take (c-k):=by
   have:=vZ b.toList k (c-k) (by rw[J8 f];simpa using q);rw[Jg,UM,J8 f]at this;rw[<-this,ML,<-iq,J8 f]
  rw[JU,e,<-Qt q f];refine I.runA B (by lia) _ (by lia) λi h W=>?_;have u:=gg (a:=a) (n:=d) (i:=0) M H (by lia);simp only[Nj,QT]at u;rw[gg q (by lia),u];exact O.tot _ (bW (by lia)) _ (bW (by lia)) (v _ (by lia) (by lia))
 have sa:∀{n:Nat},n<=a.size->∀i j,i<j->j<n->R (gt a (0+i)) (gt a (0+j))=true:=λ{n} D i j f q=>by
  rw[gt_eq (show 0+i<a.toList.length by rw[Jg];lia),gt_eq (show 0+j<a.toList.length by rw[Jg];lia)];exact Js.mp O.sA _ _ _ _ (by lia)
 have sb:∀{n:Nat},n<=b.size->∀i j,i<j->j<n->R (gt b (0+i)) (gt b (0+j))=true:=λ{n} D i j f q=>by
  rw[gt_eq (show 0+i<b.toList.length by rw[Jg];lia),gt_eq (show 0+j<b.toList.length by rw[Jg];lia)];exact Js.mp O.sB _ _ _ _ (by lia)
 have X:∀{n:Nat},0<n->n<=a.size->n-1<a.size:=λh k=>IZ (LQ h Lr) k;have sB:∀{n:Nat},0<n->n<=b.size->n-1<b.size:=λh k=>IZ (LQ h Lr) k
 have start:MI (λx y=>R y x) b.toList.reverse a.toList.reverse (#[gt a (a.size-1)]:Array Kl).toList (b.size-b.size) (a.size-(a.size-1)):=by
  have e:(#[gt a (a.size-1)]:Array Kl)=(#[]:Array Kl).push (gt a (a.size-1)):=rfl;rw[e];exact U ⟨by simp,by simp,by simp,by simp⟩ ha (IV _) hb (IV _) h0
 refine Jk (ru (Jk (el (X ha (IV _)) ?_)))
 try dsimp -zeta only
 refine wif (λe1=>Jz (h _ (P8 st) (dn start (IV _) (bq e1)))) λe1=>?_;refine wif (λe2=>Jz (h _ (P8 st) (ls start (PN _ _) (bq e2)))) λe2=>Jk (Pq ?_)
 try dsimp -zeta only
 refine Jk (loop (st:=st) (g:=P8 st) (m:=P8 st) (a:=0) (b:=0) (λo i j m _ _=>(none,i,j,o,m)) (λr t=>(some r,t)) (λr=>Mgd R a.toList b.toList r.toList) (λx o i j=>MH R a b o i j/\x+1+i+j<=a.size+b.size) (λ_ _ _=>False) ?step (λo i j z=>lE1 z.2) ⟨⟨start,LR (bn e1),PN _ _,lt2 hb (bn e2),IV _⟩,lE0 ha⟩ (λg r t z=>Jz (h r g z)) λ_ _ _ _ _ _ _ z=>z.elim)
 case step=>
  intro x g out d c mg _ _ z post pd _ py;refine Jk (loop (a:=0) (b:=0) (m:=0) (λo i j _ m k=>(none,i,j,o,m,k)) (λr t=>(some r,t)) (λr=>Mgd R a.toList b.toList r.toList) (λy o i j=>MH R a b o i j/\x+1+y+i+j<=a.size+b.size) (λo i j=>MH R a b o i j/\x+2+i+j<=a.size+b.size) ?s2 (λo i j z=>lE z.2) z (λg r t z=>Jz (pd g r _ z)) ?p2)
  case s2=>
   intro y g out d c _ ac bc z post2 L Y Z;refine Jk (el z.1.hb (Jk (el z.1.ha (Jk (K _ _ _ _ (pb _ (bW z.1.hb)) (pa _ (bW z.1.ha)) hk ?_)))));refine wif (λT=>Jk (el z.1.ha ?_)) λT=>Jk (el z.1.hb ?_)
   .refine wif (λN=>Jz (L _ _ _ (dn (U z.1.mi z.1.i0 z.1.i1 z.1.j0 z.1.j2 T) z.1.j2 (bq N)))) λN=>?_;have V:MH R a b (out.push (gt a (d-1))) (d-1) c:=⟨U z.1.mi z.1.i0 z.1.i1 z.1.j0 z.1.j2 T,LR (bn N),Ja z.1.ha,z.1.j1,z.1.j2⟩;exact wif (λ_=>Jz (Y _ _ _ _ 0 _ _ ⟨V,st1 z.1.i0 z.2⟩)) λ_=>Jz (Z _ _ _ _ 0 _ _ ⟨V,st2 z.1.i0 z.2⟩)
   .refine wif (λS=>Jz (L _ _ _ (ls (pA z.1.mi z.1.i0 z.1.i1 z.1.j0 z.1.j2 (eq_false_of_ne_true T)) z.1.i1 (bq S)))) λS=>?_;have V:MH R a b (out.push (gt b (c-1))) d (c-1):=⟨pA z.1.mi z.1.i0 z.1.i1 z.1.j0 z.1.j2 (eq_false_of_ne_true T),z.1.i0,z.1.i1,lt2 (NB z.1.j1) (bn S),Ja z.1.hb⟩;exact wif (λ_=>Jz (Y _ _ _ _ 0 _ _ ⟨V,st3 z.1.j0 z.2⟩)) λ_=>Jz (Z _ _ _ _ 0 _ _ ⟨V,st4 z.1.j0 z.2⟩)
  case p2=>
   intro g out d c _ ac bc z;refine Jk (ru (Jk (loop (λo i j m k l=>(none,i,j,o,m,k,l)) (λr t=>(some r,t)) (λr=>Mgd R a.toList b.toList r.toList) (λy o i j=>MH R a b o i j/\x+2+y+i+j<=a.size+b.size) (λo i j=>MH R a b o i j/\x+2+i+j<=a.size+b.size) ?s3 (λo i j z=>lE z.2) z (λg r t z=>Jz (pd g r _ z)) λg o i j m k l z=>Jk (sg (Jz (py _ _ _ _ _ 0 0 ⟨z.1,z.2⟩))))))
   case s3=>
    intro x3 g out d c mg ac bc z V3 L Y Z;dsimp -zeta only
    extract_lets+onlyGivenNames q1 q2 q3 q4 q5 q6 q7 q8 q9 q10 q11 q12 j
    have G:∀m,wpS (JE prog w) A E s (j () m) V3 (gF st g):=λm=>by
     refine Jk (sg ?_);dsimp -zeta only[q1,q2,q3,q4,q5,q6,q7,q8,q9,q10,q11,q12];refine Jk (el z.1.hb (Jk (E1 K hk (Jy (LG (MD d)) z.1.i1) (LQ z.1.i0 Lr) (pb _ (bW z.1.hb)) (λi W=>pa _ (bW (IZ (Ki (LG (MD i)) W) z.1.i1))) O.tr (sa z.1.i1) λk kn k1 k2=>?_)));simp only[MD]at k1 k2;dsimp -zeta only
     extract_lets+onlyGivenNames r0 r1 j'
     have G:∀n o,MI (λx y=>R y x) b.toList.reverse a.toList.reverse o.toList (b.size-c) (a.size-n)->0<n->n<=d->R (gt b (c-1)) (gt a (n-1))=false->wpS (JE prog w) A E s (j' () n o) V3 (gF st m):=λn out I F n1 v=>by
      have C:n<=a.size:=Jy n1 z.1.i1;have I3:=pA I F C z.1.j0 z.1.j2 v;refine Jk (el z.1.hb (wif (λN=>Jz (L _ _ _ (ls I3 C (bq N)))) λN=>?_));have XG:1<c-1:=lt2 (NB z.1.j1) (bn N);refine Jk (el (X F C) (Jk (FA K hk (Jy (LG (MD _)) (Ja z.1.hb)) (LQ (JX XG) Lr) (pa _ (bW (X F C))) (λi W=>pb _ (bW (J6 (Ki (LG (MD i)) W) z.1.hb))) O.tr (sb (Ja z.1.hb)) λl ln l1 l2=>?_)));simp only[MD]at l1 l2;dsimp -zeta only
      extract_lets+onlyGivenNames r2 r3 r4 j''
      have G:∀p o,MI (λx y=>R y x) b.toList.reverse a.toList.reverse o.toList (b.size-p) (a.size-n)->1<p->p<c->R (gt b (p-1)) (gt a (n-1))=true->wpS (JE prog w) A E s (j'' () p o) V3 (gF st m):=λp out I p0 p1 v=>by
       have p2:p<=b.size:=Ja (IZ p1 z.1.j2);refine Jk (el (X F C) (wif (λS=>Jz (L _ _ _ (dn (U I F C (JX p0) p2 v) p2 (bq S)))) λS=>?_));have z6:MH R a b (out.push (gt a (n-1))) (n-1) p:=⟨U I F C (JX p0) p2 v,LR (bn S),Jy (PN _ _) C,p0,p2⟩;exact wif (λ_=>Jz (Y _ _ _ _ _ _ _ ⟨z6,st6 (st5 F n1 p1 z.2)⟩)) λ_=>Jz (Z _ _ _ _ _ _ _ ⟨z6,st5 F n1 p1 z.2⟩)
      refine wif (λhl0=>?_) λhl0=>G _ _ I3 XG (LQ z.1.j0 Lr) (l1 (c-1-1) (by lia));have I4:=rA I3 ln (Ja z.1.hb) F C l2;refine wif (λJ=>Jz (L _ _ _ (ls I4 C (bq J)))) λJ=>wif (λed=>Jz (L _ _ _ (dA I4 C (bq ed)))) λed=>?_;have f:1<l:=lt2 (LR (bn ed)) (bn J);exact G _ _ I4 f (Ki ln (LQ z.1.j0 Lr)) (l1 (l-1) (LQ (JX f) Lr))
     refine wif (λhk0=>?_) λhk0=>G _ _ z.1.mi z.1.i0 (IV _) (k1 (d-1) (by have:=z.1.i0;lia));have I2:=rB z.1.mi kn z.1.i1 z.1.j0 z.1.j2 k2;exact wif (λJ=>Jz (L _ _ _ (dn I2 z.1.j2 (bq J)))) λJ=>G _ _ I2 (LR (bn J)) kn (k1 (k-1) (LQ (LR (bn J)) Lr))
    exact wif (λ_=>G _) λ_=>G _
end
section
theorem sU{b:Type}:∀m n p X Y (arr:Array b),arr.toList=X++Y->X.length=p+n->m.length<=Y.length->((m.zipIdx n).foldl (λa (x:b×Nat)=>a.setIfInBounds (p+x.2) x.1) arr).toList=X++m++Y.drop m.length
 |[],n,p,X,Y,arr,e,_,_=>by simpa using e
 |x::m,n,p,X,[],arr,e,h1,h2=>by simp at h2
 |x::m,n,p,X,y::Y,arr,e,h1,h2=>by
  rw[List.zipIdx_cons,LH]
  have:=sU m (n+1) p (X++[x]) Y (arr.setIfInBounds (p+n) x) (by
   rw[Pa,e,<-h1,QU _ _ (IV _)];simp) (by simp;lia) (by simpa using h2)
  rw[this];simp
theorem AX{a:Type}{x:a}{Q:PUnit->a->Prop}{st:a}(h:Q ⟨⟩ x):wpS M A E s (set x:StateT a Sem PUnit) Q st:=by
 unfold wpS;rw[StateT.run_set];exact IX ⟨rfl,h⟩
theorem seg{a:Type}(X S Y:List a):((X++S++Y).drop X.length).take S.length=S:=by simp
end
section
variable {prog:Jr}{w:J5}{A:Kb}{E:Je→Jd→Prop}{s:Jd}{κ:Ox}{P:Kl→Prop}{R:Kl→Kl→Bool} (K:Asks prog w A E s κ P R)
theorem uc(h:a.toList=X++(S++Y))(b:j<S.length):gt a (X.length+j)=S[j]:=by
 rw[gt_eq (by rw[h,Jl,Jl];exact KO (IZ b (JI _ _)) _)];simp only[h];rw[List.getElem_append_right (JI _ _)];simp only[MY];rw[List.getElem_append_left b]
include K
theorem mat{st:L8}(L:kindOf st=κ)(hf:OV st=none)(h1:(MC st)[i]?=some (sa,na,pw))(h2:(MC st)[i+1]?=some (sb,nb,pw2))(M:(JT st).toList=X++S1++S2++Y)(T:X.length=sa)(t:S1.length=na)(V:S2.length=nb)(V5:sb=sa+na)(p1:0<na)(q:0<nb)(pp:∀x∈S1++S2,P x)(O:MO R S1 S2)
  (h:∀S W,kindOf W=κ->OV W=none->MC W=((MC st).setIfInBounds i (sa,na+nb,pw)).eraseIdxIfInBounds (i+1)->(JT W).toList=X++S++Y->Mgd R S1 S2 S->Q true W):wpS (JE prog w) A E s (mergeAt' i) Q st:=by
 have sz:(JT st).size=sa+na+nb+Y.length:=by rw[<-Jg,M,Jl,Jl,Jl,T,t,V]
 have n:∀{j},j<na->j<S1.length:=λh=>t.symm ▸ h;have B:∀{j},j<nb->j<S2.length:=λh=>V.symm ▸ h
 have I:∀j (b:j<S1.length),gt (JT st) (sa+j)=S1[j]:=λj b=>by
  rw[<-T];exact uc (Y:=S2++Y) (by rw[M];simp only[Jj]) b
 have H:∀j (b:j<S2.length),gt (JT st) (sb+j)=S2[j]:=λj b=>by
  rw[V5,<-T,<-t,<-Jl];exact uc (by rw[M,Jj]) b
 have q1:∀j,j<na->P (gt (JT st) (sa+j)):=λj b=>by rw[I j (n b)];exact pp _ (JO _ (Ka _))
 have q2:∀j,j<nb->P (gt (JT st) (sb+j)):=λj b=>by rw[H j (B b)];exact pp _ (Jf _ (Ka _))
 have z1:sa+na<=(JT st).size:=by rw[sz,Nx];exact JI _ _
 have C:sb+nb<=(JT st).size:=by rw[sz,V5];exact JI _ _
 obtain⟨m,em⟩:∃m,m+1=na:=⟨na-1,ME p1⟩;have p:m<na:=em ▸ Kh m;refine Jk (Pq ?_);rw[h1,h2];dsimp only;refine Jk (AX ?_);refine Jk (el (IZ (Nat.lt_add_of_pos_right q) C) ?_)
 refine Jk (E1 K L z1 p1 (q2 0 q) q1 O.tr (λx y h3 h4=>by
  rw[I x (n (J6 h3 h4)),I y (n h4)];exact Js.mp O.sA _ _ _ _ h3) λk kn k1 k2=>?_)
 dsimp only;have hb0:gt (JT st) sb=S2[0]'(B q):=H 0 (B q);rw[hb0]at k1 k2
 have hU:∀x∈S1.take k,∀y∈S2,R x y=true:=λx J y hy=>by
  obtain⟨j,b,rfl⟩:=KJ J;have jk:j<k:=IZ b (Ro _ _);have z:=k1 j jk;rw[I j (n (IZ jk kn))]at z;have C:=O.tot _ (Ka _) _ (Ka _) z;rw[NC];exact gr O.tr O.sB (B q) C y hy
 have f1:∀v∈S1.drop k,R (S2[0]'(B q)) v=true:=λv d=>by
  obtain⟨j,b,rfl⟩:=KJ d;rw[K_]at b;have U:=Np b;rw[ND,<-I (k+j) U];exact k2 _ (JI _ _) (t ▸ U)
 by_cases e1:(na-k==0)=true
 .rw[if_pos e1];have o:na-k=0:=bq e1;refine Jz (h (S1++S2) _ L hf rfl (by rw[<-Jj];exact M) ⟨Rh _,Kk.mpr ⟨O.sA,O.sB,λx J y hy=>hU x (by rw[Kq (t ▸ Nat.le_of_sub_eq_zero o)];exact J) y hy⟩⟩)
 rw[if_neg e1];have o:0<na-k:=LR (bn e1);have ei:sa+k+(na-k)-1=sa+m:=by rw[Nx,J8 kn,<-em];rfl
 have Vu:gt (JT st) (sa+k+(na-k)-1)=S1[m]'(n p):=by rw[ei,I m (n p)]
 refine Jk (el (ei ▸ IZ (KO p sa) z1) ?_)
 refine Jk (FA K L C (LQ q Lr) (by rw[Vu,<-I m (n p)];exact q1 m p) q2 O.tr (λx y h3 h4=>by
  rw[H x (B (J6 h3 h4)),H y (B h4)];exact Js.mp O.sB _ _ _ _ h3) λl ln m1 m2=>?_)
 dsimp only;rw[Vu]at m1 m2
 have hZ:∀x∈S1,∀z∈S2.drop l,R x z=true:=λx J z hz=>by
  obtain⟨j,b,rfl⟩:=KJ hz;rw[K_]at b;obtain⟨i,hi,rfl⟩:=KJ J;rw[ND];have U:=Np b;have z:=m2 (l+j) (JI _ _) (V ▸ U);rw[H (l+j) U]at z;have C:=O.tot _ (Ka _) _ (Ka _) z;rcases JD (J4 (show i<m+1 by rw[em,<-t];exact hi)) with c |c
  .exact O.tr _ _ _ (Js.mp O.sA i m hi (n p) c) C
  .subst c;exact C
 have f2:∀v∈S2.take l,R v (S1[m]'(n p))=true:=λv d=>by
  obtain⟨j,b,rfl⟩:=KJ d;have jl:j<l:=IZ b (Ro _ _);rw[NC,<-H j (B (IZ jl ln))];exact m1 _ jl
 have l0:0<l:=by
  rcases MA l with c |c
  .exfalso
   have z:=m2 0 (LG c) q;rw[H 0 (B q)]at z;have C:=f1 (S1[m]'(n p)) (List.drop_subset_drop_left S1 (J4 (show k<m+1 by rw[em];exact Nat.lt_of_sub_pos o)) (gE (n p)))
   rw[C]at z;cases z
  .exact c
 rw[if_neg λz=>Mt l0 (bq z)];have ll:∀{a:Array Kl},a.toList.length=a.size:=by simp
 have eL:(JT st).toList=(X++S1.take k)++S1.drop k++(S2.take l++(S2.drop l++Y)):=by
  rw[M]
  conv=>lhs;rw[←JQ k S1,←JQ l S2]
  simp only[Jj]
 have lXk:(X++S1.take k).length=sa+k:=by rw[Jl,Mq,T,t,MT kn]
 have G:((JT st).extract (sa+k) sb).toList=S1.drop k:=by
  rw[show sb=sa+k+(na-k) by rw[V5,Nx,J8 kn],iq,eL];have:=seg (X++S1.take k) (S1.drop k) (S2.take l++(S2.drop l++Y));rw[lXk,K_,t]at this;exact this
 have F:((JT st).extract sb (sb+l)).toList=S2.take l:=by
  rw[iq,M];have:=seg (X++S1) (S2.take l) (S2.drop l++Y);rw[Jl,Mq,T,t,V,<-V5,MT ln]at this;rw[<-Jj,Jj (X++S1),JQ]at this;exact this
 generalize J:(JT st).extract (sa+k) sb=x at G |-;generalize hy:(JT st).extract sb (sb+l)=y at F |-;have sx:x.size=na-k:=by rw[<-ll,G,K_,t]
 have sy:y.size=l:=by rw[<-ll,F,Mq,V,MT ln]
 have x0:0<x.size:=sx.symm ▸ o;have y0:0<y.size:=sy.symm ▸ l0
 have O2:MO R x.toList y.toList:=by
  rw[G,F];exact⟨O.tr,O.sA.sublist (MS _ _),O.sB.sublist (R5 _ _),λu f v d=>O.tot u (LV f) v (OS d)⟩
 have gx:gt x (x.size-1)=S1[m]'(n p):=by
  rw[gt_eq (by rw[ll];exact LQ x0 Lr)];simp only[G,sx,ND];congr 1;rw[<-LD o,J8 kn,<-em];rfl
 have gy:gt y 0=S2[0]'(B q):=by
  rw[gt_eq (by rw[ll];exact y0)];simp only[F,NC]
 have px:∀u∈x.toList,P u:=λu f=>pp u (JO _ (LV (by rw[G]at f;exact f)));have py:∀u∈y.toList,P u:=λu f=>pp u (Jf _ (OS (by rw[F]at f;exact f)));have Wt:∀v∈y.toList,R v (gt x (x.size-1))=true:=λv d=>by rw[gx];exact f2 v (by rw[F]at d;exact d)
 have Xf:∀v∈x.toList,R (gt y 0) v=true:=λv d=>by rw[gy];exact f1 v (by rw[G]at d;exact d)
 have N:∀r:Array Kl,Mgd R x.toList y.toList r.toList->((r.toList.zipIdx).foldl (λa (x:Kl×Nat)=>a.setIfInBounds (sa+k+x.2) x.1) (JT st)).toList=X++(S1.take k++r.toList++S2.drop l)++Y/\Mgd R S1 S2 (S1.take k++r.toList++S2.drop l):=λr m=>by
  have lr:r.toList.length=(S1.drop k++S2.take l).length:=by rw[<-G,<-F];exact m.1.length_eq
  constructor
  .rw[sU r.toList 0 (sa+k) (X++S1.take k) (S1.drop k++S2.take l++(S2.drop l++Y)) _ (by rw[eL];simp only[Jj]) lXk (by rw[lr,Jl (as:=S1.drop k++S2.take l)];exact JI _ _)];rw[lr,List.drop_left];simp only[Jj]
  .have mp:r.toList.Perm (S1.drop k++S2.take l):=by rw[<-G,<-F];exact m.1
   constructor
   .refine ((mp.append_left _).append_right _).trans ?_
    have e:S1++S2=S1.take k++(S1.drop k++S2.take l)++S2.drop l:=by
     conv=>lhs;rw[←JQ k S1,←JQ l S2]
     simp only[Jj]
    rw[e]
   .have sp1:=O.sA;rw[<-JQ k S1]at sp1;have Z:=O.sB;rw[<-JQ l S2]at Z;have c1:=Kk.mp sp1;have c2:=Kk.mp Z;refine Kk.mpr ⟨Kk.mpr ⟨c1.1,m.2,λu f v d=>?_⟩,c2.2.1,λu f v d=>?_⟩
    .rcases JB.mp (mp.mem_iff.mp d) with z |z
     .exact c1.2.2 u f v z
     .exact hU u f v (OS z)
    .rcases JB.mp f with z |z
     .exact hU u z v (LV d)
     .rcases JB.mp (mp.mem_iff.mp z) with z |z
      .exact hZ u (LV z) v d
      .exact c2.2.2 u z v d
 have D:∀(r:Array Kl) g,Mgd R x.toList y.toList r.toList->Q true (SortSt.mk' (kindOf st) ((r.toList.zipIdx).foldl (λa (x:Kl×Nat)=>a.setIfInBounds (sa+k+x.2) x.1) (JT st)) (((MC st).setIfInBounds i (sa,na+nb,pw)).eraseIdxIfInBounds (i+1)) g (OV st)):=λr g m=>h _ _ L hf rfl (N r m).1 (N r m).2;by_cases hc:na-k<=l
 .rw[if_pos hc];refine Jk (mlo K O2 px py x0 y0 (Xf _ (bW x0)) Wt L λr g m=>?_);refine Jk (Oq ?_);refine Jk (Pq ?_);have:=D r g m;refine Jz ?_;show Q (OV st).isNone _;rw[show (OV st).isNone=true by rw[hf];rfl];exact this
 .rw[if_neg hc];refine Jk (mhi K O2 px py x0 y0 (Wt _ (bW (LQ y0 Lr))) Xf L λr g m=>?_);refine Jk (Oq ?_);refine Jk (Pq ?_);have:=D r g m;refine Jz ?_;show Q (OV st).isNone _;rw[show (OV st).isNone=true by rw[hf];rfl];exact this
end
variable {R:Kl→Kl→Bool}{κ:Ox}{P:Kl→Prop}{l:List Kl}
section
variable {prog:Jr}{w:J5}{A:Kb}{E:Je→Jd→Prop}{s:Jd}
structure Ord(P:Kl->Prop)(R:Kl->Kl->Bool)(l:List Kl):Prop where
 tr:∀x y z,R x y=true->R y z=true->R x z=true
 tot:∀x∈l,∀y∈l,x≠y->R x y=false->R y x=true
 nd:l.Nodup
 hp:∀x∈l,P x
structure Stt(κ:Ox)(l:List Kl)(pd:Array (Nat×Nat×Nat))(st:L8):Prop where
 kind:kindOf st=κ
 failed:OV st=none
 perm:(JT st).toList.Perm l
 pend:MC st=pd
variable {pd:Array (Nat×Nat×Nat)}
theorem Stt.size{st:L8}(S:Stt κ l pd st):(JT st).size=l.length:=by rw[<-Jg,S.perm.length_eq]
theorem Stt.p(O:Ord P R l){st:L8}(S:Stt κ l pd st)(h:i<l.length):P (gt (JT st) i):=O.hp _ (S.perm.mem_iff.mp (bW (by rw[S.size];exact h)))
theorem Stt.tot(O:Ord P R l){st:L8}(S:Stt κ l pd st)(a:i<l.length)(b:j<l.length)(g:i≠j)(d:R (gt (JT st) i) (gt (JT st) j)=false):R (gt (JT st) j) (gt (JT st) i)=true:=by
 refine O.tot _ (S.perm.mem_iff.mp (bW (by rw[S.size];exact a))) _ (S.perm.mem_iff.mp (bW (by rw[S.size];exact b))) (λe=>g ?_) d;have c:i<(JT st).toList.length:=by rw[Jg,S.size];exact a
 have f:j<(JT st).toList.length:=by rw[Jg,S.size];exact b
 rw[gt_eq c,gt_eq f]at e;exact (Qc (S.perm.nodup_iff.mpr O.nd)).mp e
theorem Stt.arr{st:L8}(S:Stt κ l pd st)(h:a.Perm (JT st)):Stt κ l pd (setArr st a):=⟨S.kind,S.failed,(Array.perm_iff_toList_perm.mp h).trans S.perm,S.pend⟩
theorem ltK(K:Asks prog w A E s κ P R)(O:Ord P R l){st:L8}(S:Stt κ l pd st)(a:i<l.length)(b:j<l.length)(h:Q (some (R (gt (JT st) i) (gt (JT st) j))) st):wpS (JE prog w) A E s (ltAt' i j) Q st:=by
 rw[ltAt'_eq];refine Jk (Pq ?_);refine Jk (el (by rw[S.size];exact a) ?_);refine Jk (el (by rw[S.size];exact b) ?_);exact K _ _ _ _ (S.p O a) (S.p O b) S.kind h
theorem sj(h:a[i]?=b[j]?):gt a i=gt b j:=by
 unfold gt;rw[KL,KL,h]
def Up(R:Kl->Kl->Bool)(a:Array Kl)(b m:Nat):Prop:=∀i j,i<j->j<m->R (gt a (b+i)) (gt a (b+j))=true
def Dn(R:Kl->Kl->Bool)(a:Array Kl)(b m:Nat):Prop:=∀i j,i<j->j<m->R (gt a (b+j)) (gt a (b+i))=true
def Kept(a b:Array Kl)(c:Nat):Prop:=∀j,j<c->gt b j=gt a j
theorem EJ(hs:src<a.size)(f:d<=src)(k):gt (Uw a src d) k=if k=src-d then gt a src else if src-d<k/\k<=src then gt a (k-1) else gt a k:=by
 have e:=getElem?_bubble hs d f k;by_cases b:k=src-d
 .rw[if_pos b]at e |-;exact sj e
 .rw[if_neg b]at e |-;by_cases c:src-d<k/\k<=src
  .rw[if_pos c]at e |-;exact sj e
  .rw[if_neg c]at e |-;exact sj e
theorem tM(c:j<=a.size)(k):gt (Uc a i j ((j-i)/2)) k=if i<=k/\k<j then gt a (i+j-1-k) else gt a k:=by
 have e:=getElem?_mirror_all (i:=i) c k;by_cases b:i<=k/\k<j
 .rw[if_pos b]at e |-;exact sj e
 .rw[if_neg b]at e |-;exact sj e
variable (K:Asks prog w A E s κ P R)
include K
theorem HU(O:Ord P R l){a n X:Nat}{st:L8}(hn:a+n<=l.length)(hok:X<=n)(S:Stt κ l pd st)(hs:Up R (JT st) a X)
  (h:∀b,Stt κ l pd b->Kept (JT st) (JT b) a->Up R (JT b) a n->Q true b):wpS (JE prog w) A E s (binarySort' a n X) Q st:=by
 rw[binarySort'_eq]
 refine Jk (Ow (L9 (I:=λk c b=>c=(none,())/\Stt κ l pd b/\Kept (JT st) (JT b) a/\Up R (JT b) a (min k n))
  (Q:=λc b=>c=(none,())/\Stt κ l pd b/\Kept (JT st) (JT b) a/\Up R (JT b) a n) ?step ?fin ?init) ?post)
 case post=>
  rintro c b ⟨rfl,q,F,o⟩;exact Jz (h b q F o)
 case init=>
  refine⟨rfl,S,λ_ _=>rfl,λi j f D=>?_⟩;exact hs i j f (by lia)
 case fin=>
  rintro c b ⟨hc,q,F,o⟩;refine⟨hc,q,F,?_⟩
  rwa [Qj (Qf _ _)]at o
 case step=>
  rintro k c b hak u ⟨rfl,q,F,o⟩;rw[MT (Ja u)]at o;have M:a+k<l.length:=IZ (KO u a) hn
  refine Jk (Ow (L9 (I:=λx c d=>d=b/\∃p r,c=(none,p,r)/\p<=r/\r<=k/\r+x<=k+p/\
    (∀i,i<p->R (gt (JT b) (a+i)) (gt (JT b) (a+k))=true)/\(∀i,r<=i->i<k->R (gt (JT b) (a+k)) (gt (JT b) (a+i))=true))
   (Q:=λc d=>d=b/\∃p r,c=(none,p,r)/\p<=k/\
    (∀i,i<p->R (gt (JT b) (a+i)) (gt (JT b) (a+k))=true)/\(∀i,p<=i->i<k->R (gt (JT b) (a+k)) (gt (JT b) (a+i))=true)) ?istep ?ifin ?iinit) ?ipost)
  case iinit=>exact⟨rfl,0,k,rfl,JZ _,IV _,IV _,λi hi=>absurd hi (Mj _),λi J Z=>absurd Z (Ud.mpr J)⟩
  case ifin=>
   rintro c d ⟨rfl,p,r,rfl,t,g,T,y,v⟩;have:p=r:=md6 t T;subst this;exact⟨rfl,p,p,rfl,g,y,v⟩
  case istep=>
   rintro x c d _ hxk ⟨rfl,p,r,rfl,t,g,T,y,v⟩;dsimp only;by_cases H:p ≥ r
   .rw[if_pos H];have:p=r:=Ml t H;subst this;exact Jz ⟨rfl,p,p,rfl,g,y,v⟩
   .rw[if_neg H];have W:=md1 H;have d2:=md2 H;have U:(p+r)/2<k:=IZ W g;have d4:a+(p+r)/2<l.length:=J6 (KO U a) M;refine Jk (ltK K O q M d4 ?_);dsimp only;by_cases G:R (gt (JT d) (a+k)) (gt (JT d) (a+(p+r)/2))=true
    .rw[if_pos G];refine Jz ⟨rfl,p,(p+r)/2,rfl,d2,Ja U,md3 T W,y,λi J Z=>?_⟩;rcases JD J with z |z
     .exact O.tr _ _ _ G (o _ _ z Z)
     .rw[<-z];exact G
    .rw[if_neg G];have ht:=q.tot O M d4 (λe=>JY _ (Nb U (Nat.add_left_cancel e))) (eq_false_of_ne_true G);refine Jz ⟨rfl,(p+r)/2+1,r,rfl,W,g,md4 T d2,λi J=>?_,v⟩;rcases JD (J4 J) with z |z
     .exact O.tr _ _ _ (o _ _ z U) ht
     .rw[z];exact ht
  case ipost=>
   rintro c d ⟨rfl,p,r,rfl,L,y,v⟩;show wpS _ _ _ _ (do moveDown' (a+k) (a+p);pure (ForInStep.yield (none,()))) _ _;rw[moveDown'_eq];have V:a+k<(JT d).size:=by rw[q.size];exact M
   have at_:∀j,gt (Uw (JT d) (a+k) (a+k-(a+p))) j=if j=a+p then gt (JT d) (a+k) else if a+p<j/\j<=a+k then gt (JT d) (j-1) else gt (JT d) j:=λj=>by
    have:=EJ V (PN _ (a+p)) j
    rwa [Qk (MX L a)]at this
   refine Jk (Oq (Jz ⟨rfl,q.arr (bubble_perm _ _ _),λj D=>?_,?_⟩))
   .show gt (Uw (JT d) (a+k) (a+k-(a+p))) j=_;have m:=IZ D (JI a p);rw[at_,if_neg (Jv m),if_neg λz=>Nat.lt_asymm z.1 m];exact F j D
   .rw[MT u];intro i j f D;show R (gt (Uw (JT d) (a+k) (a+k-(a+p))) (a+i)) (gt (Uw (JT d) (a+k) (a+k-(a+p))) (a+j))=true
    have B:∀j,gt (Uw (JT d) (a+k) (a+k-(a+p))) (a+j)=if j=p then gt (JT d) (a+k) else if p<j/\j<=k then gt (JT d) (a+(j-1)) else gt (JT d) (a+j):=λj=>by
     rw[at_];simp only[Nat.add_left_cancel_iff,Nat.add_lt_add_iff_left,Nat.add_le_add_iff_left];by_cases c:p<j
     .rw[LD (Sf (LF c)) a]
     .rw[if_neg (c:=p<j/\j<=k) λz=>c z.1,if_neg (c:=p<j/\j<=k) λz=>c z.1]
    have m:=J4 D;rw[B,B];by_cases Y:i=p
    .subst Y;rw[if_pos rfl,if_neg (Mt f),if_pos ⟨f,m⟩];exact v _ (LW f) (LX (LF f) m)
    .rw[if_neg Y];by_cases C:p<i
     .have c:=J6 C f;rw[if_pos ⟨C,Jy (Ja f) m⟩,if_neg (Mt c),if_pos ⟨c,m⟩];exact o _ _ (Nat.sub_lt_sub_right (Sf (LF C)) f) (LX (LF f) m)
     .have a3:i<p:=Kj (Lv C) Y;rw[if_neg λz=>C z.1];by_cases b1:j=p
      .subst b1;rw[if_pos rfl];exact y _ a3
      .rw[if_neg b1];by_cases N:p<j
       .rw[if_pos ⟨N,m⟩];exact o _ _ (IZ a3 (LW N)) (LX (LF f) m)
       .rw[if_neg λz=>N z.1];exact o _ _ f (IZ (Kj (Lv N) b1) L)
end
section
variable {prog:Jr}{w:J5}{A:Kb}{E:Je→Jd→Prop}{s:Jd}{pd:Array (Nat×Nat×Nat)}
theorem Up.more(g:∀x y z,R x y=true->R y z=true->R x z=true){b m:Nat}(S:Up R a b m)(d:1<=m)(h:R (gt a (b+m-1)) (gt a (b+m))=true):Up R a b (m+1):=λi j c f=>by
 rcases JD (J4 f) with z |z
 .exact S i j c z
 .subst z;have e:=(LD d b).symm;rcases JD (LW c) with y |y
  .have:=S i (j-1) y (LX d (IV j));rw[e]at this;exact g _ _ _ this h
  .subst y;rw[e];exact h
theorem Dn.more(g:∀x y z,R x y=true->R y z=true->R x z=true){b m:Nat}(S:Dn R a b m)(d:1<=m)(h:R (gt a (b+m)) (gt a (b+m-1))=true):Dn R a b (m+1):=λi j c f=>by
 rcases JD (J4 f) with z |z
 .exact S i j c z
 .subst z;have e:=(LD d b).symm;rcases JD (LW c) with y |y
  .have:=S i (j-1) y (LX d (IV j));rw[e]at this;exact g _ _ _ h this
  .subst y;rw[e];exact h
theorem rvs{st:L8}(h:Q () (setArr st (Uc (JT st) i j ((j-i)/2)))):wpS (JE prog w) A E s (reverseSlice' i j) Q st:=by
 rw[reverseSlice'_eq];exact Oq h
variable (K:Asks prog w A E s κ P R)
include K
theorem cnt(O:Ord P R l){a g:Nat}{st:L8}(M:a+g<=l.length)(G:1<=g)(S:Stt κ l pd st)
  (h:∀m b,Stt κ l pd b->Kept (JT st) (JT b) a->1<=m->m<=g->Up R (JT b) a m->Q (some m) b):wpS (JE prog w) A E s (countRun' a g) Q st:=by
 have L:∀x,x<g->a+x<l.length:=λx h=>IZ (KO h a) M;have p:∀x,x<g->a+x-1<l.length:=λx h=>Ki (PN _ _) (L x h);have NE:∀x,1<=x->a+x-1≠a+x:=λx h=>Jv (LX (IZ h (Tf x a)) (IV _));rw[countRun'_eq];dsimp only;refine Jk (Ow (L9 (I:=λx c b=>b=st/\c=(none,x)/\Up R (JT st) a x) (Q:=λc b=>b=st/\∃n,c=(none,n)/\1<=n/\n<=g/\Up R (JT st) a n/\(n<g->R (gt (JT st) (a+n)) (gt (JT st) (a+n-1))=true)) ?s1 ?f1 ⟨rfl,rfl,λi j Z h3=>absurd (IZ Z (J4 h3)) (Mj _)⟩) ?p1)
 case s1=>
  rintro x c b o f ⟨rfl,rfl,u⟩;dsimp only;refine Jk (ltK K O S (L x f) (p x f) ?_);dsimp only;by_cases k:R (gt (JT b) (a+x)) (gt (JT b) (a+x-1))=true
  .rw[if_pos k];exact Jz ⟨rfl,x,rfl,o,Ja f,u,λ_=>k⟩
  .rw[if_neg k];exact Jz ⟨rfl,rfl,u.more O.tr o (S.tot O (L x f) (p x f) (NE x o).symm (eq_false_of_ne_true k))⟩
 case f1=>
  rintro c b ⟨rfl,rfl,u⟩;rw[Ql G]at u |-;exact⟨rfl,g,rfl,G,IV _,u,λz=>absurd z (JY _)⟩
 case p1=>
  rintro c b ⟨rfl,n,rfl,r,v,u,Y⟩;dsimp only;by_cases e:(n==g)=true
  .rw[if_pos e];exact Jz (h n _ S (λ_ _=>rfl) r v u)
  rw[if_neg e];have C:n<g:=Kj v (bn e);by_cases F:n >1
  .rw[if_pos F];refine Jk (ltK K O S (L 0 G) (p n C) ?_);dsimp only;have z:=u 0 (n-1) (NB F) (LQ r Lr);rw[Nj,<-LD r a]at z;rw[if_pos z];exact Jz (h n _ S (λ_ _=>rfl) r v u)
  rw[if_neg F];obtain rfl:n=1:=Ml (Lv F) r;have V:Dn R (JT b) a 2:=Dn.more O.tr (λi j x y=>absurd (IZ x (J4 y)) (Mj _)) (IV _) (Y C);refine Jk (ru ?_)
  try dsimp only
  refine Jk (Ow (L9 (I:=λx c st2=>st2=b/\c=(none,x,0)/\Dn R (JT b) a x) (Q:=λc st2=>st2=b/\∃n,c=(none,n,0)/\2<=n/\n<=g/\Dn R (JT b) a n) ?s2 ?f2 ⟨rfl,rfl,V⟩) ?p2)
  case s2=>
   rintro x c st2 o f ⟨rfl,rfl,u⟩;dsimp only;refine Jk (ltK K O S (L x f) (p x f) ?_);dsimp only;by_cases k:R (gt (JT st2) (a+x)) (gt (JT st2) (a+x-1))=true
   .rw[if_pos k,if_neg (by lia)];exact Jz ⟨rfl,rfl,u.more O.tr (Ja o) k⟩
   .rw[if_neg k];refine Jk (ltK K O S (p x f) (L x f) ?_);dsimp only;rw[if_pos (S.tot O (L x f) (p x f) (NE x (Ja o)).symm (eq_false_of_ne_true k))];exact Jz ⟨rfl,x,rfl,o,Ja f,u⟩
  case f2=>
   rintro c st2 ⟨rfl,rfl,u⟩;rw[Ql C]at u |-;exact⟨rfl,g,rfl,C,IV _,u⟩
  case p2=>
   rintro c st2 ⟨rfl,n,rfl,r,v,d⟩;dsimp only;rw[if_neg (by lia)];refine Jk (rvs ?_);have sz:=S.size;have D:Stt κ l pd (setArr st2 (Uc (JT st2) a (a+n) ((a+n-a)/2))):=S.arr (mirror_perm _ _ _ _);have H:a+n<=(JT st2).size:=sz.symm ▸ Jy (MX v a) M
   have U:∀i,i<n->a+(a+n)-1-(a+i)=a+(n-1-i):=λi t=>by
    rw[LD (IZ (LF t) (Tf n a)),Nat.add_sub_add_left,LD (LF t),LD (LW t)]
   have T:Kept (JT st2) (Uc (JT st2) a (a+n) ((a+n-a)/2)) a:=λj B=>by
    rw[tM H,if_neg λz=>Ud.mpr z.1 B]
   have N:Up R (Uc (JT st2) a (a+n) ((a+n-a)/2)) a n:=λi j J B=>by
    have t:=J6 J B;rw[tM H,tM H,if_pos ⟨JI _ _,KO t a⟩,if_pos ⟨JI _ _,KO B a⟩,U i t,U j B];exact d _ _ (Nat.sub_lt_sub_left (IZ J (LW B)) J) (Ki (PN _ _) (LQ (LF t) Lr))
   have q:1<=n:=Ja r;generalize Vp:setArr st2 (Uc (JT st2) a (a+n) ((a+n-a)/2))=st3 at D |-;have ha:JT st3=Uc (JT st2) a (a+n) ((a+n-a)/2):=by rw[<-Vp]
   rw[<-ha]at T N;refine Jk (Ow (L9 (I:=λx c b=>b=st3/\c=(none,x)/\Up R (JT st3) a x) (Q:=λc b=>b=st3/\∃m,c=(none,m)/\1<=m/\m<=g/\Up R (JT st3) a m) ?s3 ?f3 ⟨rfl,rfl,N⟩) ?p3)
   case s3=>
    rintro x c b o f ⟨rfl,rfl,u⟩;dsimp only;refine Jk (ltK K O D (L x f) (p x f) ?_);dsimp only;by_cases k:R (gt (JT b) (a+x)) (gt (JT b) (a+x-1))=true
    .rw[if_pos k];exact Jz ⟨rfl,x,rfl,Jy q o,Ja f,u⟩
    .rw[if_neg k];exact Jz ⟨rfl,rfl,u.more O.tr (Jy q o) (D.tot O (L x f) (p x f) (NE x (Jy q o)).symm (eq_false_of_ne_true k))⟩
   case f3=>
    rintro c b ⟨rfl,rfl,u⟩;rw[Ql v]at u |-;exact⟨rfl,g,rfl,G,IV _,u⟩
   case p3=>
    rintro c b ⟨rfl,m,rfl,X,W,u⟩;exact Jz (h m _ D T X W u)
end
section
variable {prog:Jr}{w:J5}{A:Kb}{E:Je→Jd→Prop}{s:Jd}
noncomputable def Ch(R:Kl->Kl->Bool)(a:Array Kl):List (Nat×Nat×Nat)->Nat->Nat->Prop
 |[],x,y=>x=y
 |r::t,x,y=>r.1=x/\0<r.2.1/\Up R a x r.2.1/\Ch R a t (x+r.2.1) y
theorem Ch.len:∀{p}{x y},Ch R a p x y->x+p.length<=y
 |[],x,y,h=>by have:x=y:=h;simp;lia
 |r::t,x,y,h=>by
  have:=Ch.len h.2.2.2;have:=h.2.1;simp;lia
theorem Ch.app:∀{p q}{x y},Ch R a (p++q) x y↔∃z,Ch R a p x z/\Ch R a q z y
 |[],q,x,y=>⟨λh=>⟨x,rfl,h⟩,λ⟨z,b,c⟩=>by have:x=z:=b;subst this;exact c⟩
 |r::t,q,x,y=>by
  constructor
  .rintro ⟨b,c,e,d⟩;obtain⟨z,g,i⟩:=Ch.app.mp d;exact⟨z,⟨b,c,e,g⟩,i⟩
  .rintro ⟨z,⟨b,c,e,d⟩,f⟩;exact⟨b,c,e,Ch.app.mpr ⟨z,d,f⟩⟩
theorem Ch.congr:∀{p}{x y},(∀j,x<=j->j<y->gt b j=gt a j)->Ch R a p x y->Ch R b p x y
 |[],x,y,_,h=>h
 |r::t,x,y,e,h=>by
  have:=Ch.len h.2.2.2;refine⟨h.1,h.2.1,λi j c f=>?_,Ch.congr (λj g d=>e j (by lia) d) h.2.2.2⟩;rw[e _ (by lia) (by lia),e _ (by lia) (by lia)];exact h.2.2.1 i j c f
theorem BI(a)(j):gt a j=a.toList.getD j (LN,LN):=by simp[gt]
theorem Hi{X Y:List Kl}(h:j<X.length):(X++Y).getD j d=X.getD j d:=by
 rw[Jx,Jx,Jn h]
theorem Hx{X Y:List Kl}(h:X.length<=j):(X++Y).getD j d=Y.getD (j-X.length) d:=by
 rw[Jx,Jx,Jo h]
theorem F9{α:Type}(X)(b a v:α)(Y):((X++b::a::Y).set X.length v).eraseIdx (X.length+1)=X++v::Y:=by
 rw[QU _ _ (IV _),Ph,List.eraseIdx_append_of_length_le (by lia),MY];rfl
theorem parts(L:List Kl)(x y z):L=L.take x++(L.drop x).take y++(L.drop (x+y)).take z++L.drop (x+y+z):=by
 have c:=JQ x L;have b:=JQ y (L.drop x);have a:=JQ z (L.drop (x+y));rw[TN]at b a;rw[Jj,a,Jj,b,c]
variable (K:Asks prog w A E s κ P R)
include K
theorem Hf(O:Ord P R l){J i:Nat}{st:L8}(S:Stt κ l p st)(C:Ch R (JT st) p.toList 0 J)(Wt:J<=l.length)(r:i+1<p.size)
  (h:∀p' n,Stt κ l p' n->Ch R (JT n) p'.toList 0 J->p'.size+1=p.size->(∀j,J<=j->gt (JT n) j=gt (JT st) j)->Q true n):wpS (JE prog w) A E s (mergeAt' i) Q st:=by
 have lp:p.toList.length=p.size:=by simp
 have o:i<p.size:=JX r
 have ep:p.toList=p.toList.take i++(p[i]::p[i+1]::p.toList.drop (i+2)):=by
  conv=>lhs;rw[←JQ i p.toList,JJ (lp.symm ▸ o),JJ (lp.symm ▸ r)]
  rfl
 have T:(MC st)[i]?=some (p[i].1,p[i].2.1,p[i].2.2):=by rw[S.pend,Ke o]
 have G:(MC st)[i+1]?=some (p[i+1].1,p[i+1].2.1,p[i+1].2.2):=by rw[S.pend,Ke r]
 rw[ep]at C;obtain⟨sa,C1,e1,n1,u1,e2,n2,u2,C2⟩:=Ch.app.mp C;have Z:=C2.len;generalize hp1:p[i]=r1 at *;generalize hp2:p[i+1]=r2 at *;obtain⟨a,b,v⟩:=r1;obtain⟨sb,c,U⟩:=r2;dsimp only at *;subst e1;subst e2;have sz:=S.size;have la:(JT st).toList.length=l.length:=by rw[Jg,sz]
 have ha:=parts (JT st).toList a b c;have h9:=Jy (JI _ _) Z;have hh:a+b+c<=(JT st).toList.length:=la.symm ▸ Jy h9 Wt;have u:=Jy (JI (a+b) c) hh;have D:((JT st).toList.take a).length=a:=Mo (Jy (JI a b) u);have l1:(((JT st).toList.drop a).take b).length=b:=Mo (by rw[K_];exact OC u);have l2:(((JT st).toList.drop (a+b)).take c).length=c:=Mo (by rw[K_];exact OC hh)
 have c1:∀j (g:j<(((JT st).toList.drop a).take b).length),(((JT st).toList.drop a).take b)[j]=gt (JT st) (a+j):=λj g=>by
  rw[gt_eq (IZ (KO (Nb g l1) a) u),NC,ND]
 have c2:∀j (g:j<(((JT st).toList.drop (a+b)).take c).length),(((JT st).toList.drop (a+b)).take c)[j]=gt (JT st) (a+b+j):=λj g=>by
  rw[gt_eq (IZ (KO (Nb g l2) _) hh),NC,ND]
 generalize hX:(JT st).toList.take a=X at *;generalize hS1:((JT st).toList.drop a).take b=N at *;generalize hS2:((JT st).toList.drop (a+b)).take c=M at *;generalize hY:(JT st).toList.drop (a+b+c)=Y at *
 have t:∀x∈N++M,x∈l:=λx B=>S.perm.mem_iff.mp (by
  rw[ha];rcases JB.mp B with z |z <;>simp[z])
 have nd:(X++N++M++Y).Nodup:=by rw[<-ha];exact S.perm.nodup_iff.mpr O.nd
 have V:MO R N M:=by
  refine⟨O.tr,Js.mpr λi j r g Vt=>?_,Js.mpr λi j r g Vt=>?_,λx B y hy hr=>O.tot y (t y (Jf _ hy)) x (t x (JO _ B)) (λe=>?_) hr⟩
  .rw[c1 i r,c1 j g];exact u1 i j Vt (Nb g l1)
  .rw[c2 i r,c2 j g];exact u2 i j Vt (Nb g l2)
  .have W:=(Ny.mp nd).1;exact (Ny.mp W).2.2 x (Jf _ B) y hy e.symm
 refine mat K S.kind S.failed T G ha D l1 l2 rfl n1 n2 (λx B=>O.hp x (t x B)) V λH n k f pd' L m=>?_;have lS:H.length=b+c:=by rw[m.1.length_eq,Jl,l1,l2]
 have tl:(((MC st).setIfInBounds i (a,b+c,v)).eraseIdxIfInBounds (i+1)).toList=p.toList.take i++((a,b+c,v)::p.toList.drop (i+2)):=by
  rw[S.pend]
  have z:((p.setIfInBounds i (a,b+c,v)).eraseIdxIfInBounds (i+1)).toList=(p.toList.set i (a,b+c,v)).eraseIdx (i+1):=by
   rw[Array.eraseIdxIfInBounds,dif_pos (by simpa using r),Array.toList_eraseIdx,Pa]
  have li:(p.toList.take i).length=i:=Mo (lp.symm ▸ Ja o);have y:=F9 (p.toList.take i) (a,b,v) (a+b,c,U) (a,b+c,v) (p.toList.drop (i+2));rw[<-ep,li]at y;rw[z,y]
 rw[<-pd']at tl;have e3:(X++H).length=a+b+c:=by rw[Jl,D,lS,Nx]
 have e4:(X++N++M).length=a+b+c:=by rw[Jl,Jl,D,l1,l2]
 have I:∀j,a+b+c<=j->gt (JT n) j=gt (JT st) j:=λj g=>by
  rw[BI,BI,L,ha,Hx (e3.symm ▸ g),Hx (e4.symm ▸ g),e3,e4]
 refine h (MC n) n ⟨k,f,?_,rfl⟩ ?_ ?_ λj g=>?_
 .rw[L];refine Te ?_ S.perm;rw[ha];refine Qs _ ?_;rw[Jj];exact Mz _ m.1
 .rw[tl];refine Ch.app.mpr ⟨a,C1.congr λj T G=>?_,rfl,Nat.add_pos_left n1 c,λx y F hy=>?_,?_⟩
  .rw[BI,BI,L,ha];simp only[Jj];rw[Hi (D.symm ▸ G),Hi (D.symm ▸ G)]
  .have q:∀j (g:j<H.length),gt (JT n) (a+j)=H[j]:=λj g=>by
    rw[<-D];exact uc (by rw[L,Jj]) g
   dsimp only at hy;have WO:y<H.length:=lS.symm ▸ hy;rw[q x (J6 F WO),q y WO];exact Js.mp m.2 _ _ _ _ F
  .dsimp only;rw[<-Nx];exact C2.congr λj T G=>I j T
 .have e5:i+2+(p.size-(i+2))=p.size:=J8 r;rw[<-Jg,tl,Jl,Ji,K_,Mo (lp.symm ▸ Ja o),lp];generalize p.size-(i+2)=d at *;lia
 .exact I j (Jy h9 g)
end
section
variable {prog:Jr}{w:J5}{A:Kb}{E:Je→Jd→Prop}{s:Jd}
theorem ilt[Decidable c](e:a+1<n)(d:b+1<n):(if c then a else b)+1<n:=by split <;>assumption
theorem Ch.modL(pw):∀{p} k {x y},Ch R a p x y->Ch R a (p.modify k λr=>(r.1,r.2.1,pw)) x y
 |[],k,x,y,h=>by rw[List.modify_nil];exact h
 |r::t,0,x,y,h=>by rw[List.modify_zero_cons];exact h
 |r::t,k+1,x,y,h=>by rw[List.modify_succ_cons];exact⟨h.1,h.2.1,h.2.2.1,Ch.modL pw k h.2.2.2⟩
theorem Ch.mod{p:Array (Nat×Nat×Nat)}(h:Ch R a p.toList x y)(pw k):Ch R a (p.modify k λr=>(r.1,r.2.1,pw)).toList x y:=by
 rw[Array.toList_modify];exact h.modL pw k
variable (K:Asks prog w A E s κ P R)
include K
theorem sruns(O:Ord P R l){st:L8}(S:Stt κ l #[] st)(h:∀pd U9,Stt κ l pd U9->Up R (JT U9) 0 l.length->Q () U9):wpS (JE prog w) A E s sortRuns' Q st:=by
 rw[sortRuns'_eq];refine Jk (Pq ?_)
 try dsimp -zeta only
 simp -zeta only[S.size];refine Jk (Ow (GZ (I:=λx c U9=>∃lo pd,c=(none,lo)/\Stt κ l pd U9/\Ch R (JT U9) pd.toList 0 lo/\lo<=l.length/\x<=lo) (Q:=λc U9=>∃pd,c=(none,l.length)/\Stt κ l pd U9/\Ch R (JT U9) pd.toList 0 l.length) ?step ?fin ⟨0,#[],rfl,S,rfl,JZ _,JZ _⟩) ?post)
 case fin=>
  rintro c U9 ⟨lo,pd,rfl,S',C,Wt,px⟩;obtain rfl:lo=l.length:=by lia
  exact⟨pd,rfl,S',C⟩
 case step=>
  rintro x c U9 hx ⟨lo,pd,rfl,S',C,Wt,px⟩ post qd qy;dsimp -zeta only;refine wif (λ(Xt:lo ≥ l.length)=>Jz (qd _ _ ⟨pd,by rw[show lo=l.length by lia],S',by rw[show lo=l.length by lia]at C;exact C⟩)) λXt=>?_;have Xt:¬ lo ≥ l.length:=Xt;refine Jk (cnt K O (show lo+(l.length-lo)<=l.length by lia) (by lia) S' λm st2 S2 kp m1 m2 u=>?_);dsimp -zeta only
  extract_lets+onlyGivenNames q1 j
  have hj:∀nn st3,0<nn->nn<=l.length-lo->Stt κ l pd st3->Ch R (JT st3) pd.toList 0 lo->Up R (JT st3) lo nn->wpS (JE prog w) A E s (j () nn) post st3:=λnn st3 f1 f2 S3 C3 u3=>by
   refine Jk (Pq ?_);have hp:MC st3=pd:=S3.pend;rw[hp];dsimp only;cases hb:pd.back? with
   |none=>
    try dsimp only
    refine Jk (Oq (Jz (qy _ _ ⟨lo+nn,pd.push (lo,nn,0),rfl,?_,?_,by lia,by lia⟩)))
    .exact⟨S3.kind,S3.failed,S3.perm,by show (MC st3).push _=_;rw[hp]⟩
    .rw[Mf];exact Ch.app.mpr ⟨lo,C3,rfl,f1,u3,rfl⟩
   |some v=>
    obtain⟨s1,n1,pw0⟩:=v
    try dsimp only
    generalize power' _ _ _ _=pw;refine Jk (Ow (L9 (I:=λ_ c U9=>∃pd,c=(none,())/\Stt κ l pd U9/\Ch R (JT U9) pd.toList 0 lo/\Up R (JT U9) lo (nn)) (Q:=λc U9=>∃pd,c=(none,())/\Stt κ l pd U9/\Ch R (JT U9) pd.toList 0 lo/\Up R (JT U9) lo (nn)) ?_ (λ_ _ z=>z) ⟨pd,rfl,S3,C3,u3⟩) ?_)
    .rintro y c st4 _ hy ⟨pd,rfl,S4,C4,u4⟩
     try dsimp only
     refine Jk (Pq ?_);rw[S4.pend];by_cases hs:pd.size >1
     .rw[if_pos hs,Ke (show pd.size-2<pd.size by lia)];generalize pd[pd.size-2]=q;obtain⟨q1,q2,q3⟩:=q
      try dsimp only
      by_cases ho:q3<=pw
      .rw[if_pos ho];exact Jz ⟨pd,rfl,S4,C4,u4⟩
      .rw[if_neg ho];refine Jk (Hf K O S4 C4 Wt (show pd.size-2+1<pd.size by lia) λp' st5 S5 C5 _ k5=>?_);simp only[LY,Ju,if_false];exact Jz ⟨p',rfl,S5,C5,λi j Vt hj=>by rw[k5 _ (by lia),k5 _ (by lia)];exact u4 i j Vt hj⟩
     .rw[if_neg hs];exact Jz ⟨pd,rfl,S4,C4,u4⟩
    .rintro c st4 ⟨pd,rfl,S4,C4,u4⟩
     try dsimp only
     have hp4:=S4.pend;refine Jk (Oq ?_);refine Jk (Oq (Jz (qy _ _ ⟨lo+nn,(pd.modify (pd.size-1) λr=>(r.1,r.2.1,pw)).push (lo,nn,0),rfl,?_,?_,by lia,by lia⟩)))
     .refine⟨S4.kind,S4.failed,S4.perm,?_⟩;show ((MC st4).modify ((MC st4).size-1) λr=>(r.1,r.2.1,pw)).push _=_;rw[hp4]
     .rw[Mf];exact Ch.app.mpr ⟨lo,C4.mod pw _,rfl,f1,u4,rfl⟩
  have C2:Ch R (JT st2) pd.toList 0 lo:=C.congr λj _ hj=>kp j hj;refine wif (λ(hm:m<minRun' l.length l.length 0)=>?_) λ_=>hj m st2 (by lia) (by lia) S2 C2 u;refine Jk (ru (Jk (HU K O (show lo+min (l.length-lo) (minRun' l.length l.length 0)<=l.length by lia) (show m<=min (l.length-lo) (minRun' l.length l.length 0) by lia) S2 u λst3 S3 k3 u3=>?_)));exact wif (λz=>by simp at z) λ_=>hj _ _ (by lia) (by lia) S3 (C2.congr λj _ hj=>k3 j hj) u3
 case post=>
  rintro c U9 ⟨pd,rfl,S',C⟩
  try dsimp only
  refine Jk (Ow (L9 (I:=λx c U9=>∃pd,c=(none,())/\Stt κ l pd U9/\Ch R (JT U9) pd.toList 0 l.length/\(pd.size<=1\/pd.size<=l.length-x)) (Q:=λc U9=>∃pd,c=(none,())/\Stt κ l pd U9/\Ch R (JT U9) pd.toList 0 l.length/\pd.size<=1) ?s2 ?f2 ⟨pd,rfl,S',C,.inr (by have:=C.len;rw[Jg]at this;lia)⟩) ?p2)
  case s2=>
   rintro y c st4 _ hy ⟨pd,rfl,S4,C4,hs⟩
   try dsimp only
   refine Jk (Pq ?_);rw[S4.pend];by_cases h1:pd.size<=1
   .rw[if_pos h1];exact Jz ⟨pd,rfl,S4,C4,h1⟩
   .rw[if_neg h1];refine Jk (Hf K O S4 C4 (IV _) (ilt (by lia) (by lia)) λp' st5 S5 C5 e5 k5=>?_);simp only[LY,Ju,if_false];exact Jz ⟨p',rfl,S5,C5,by lia⟩
  case f2=>
   rintro c st4 ⟨pd,rfl,S4,C4,hs⟩;exact⟨pd,rfl,S4,C4,by lia⟩
  case p2=>
   rintro c st4 ⟨pd,rfl,S4,C4,h1⟩;refine Jz (h pd st4 S4 ?_);rw[<-Jg]at h1;generalize pd.toList=L at *;cases L with
   |nil=>have:0=l.length:=C4
         intro i j Vt hj;lia
   |cons r t=>
    cases t with
    |nil=>
     obtain⟨_,_,u,e⟩:=C4;have e':0+r.2.1=l.length:=e;rw[MD]at e';rw[<-e'];exact u
    |cons r2 t=>simp at h1
end
end TS
namespace ST
open PySem PySem.W PyProof.Rows
theorem HI{α o:Type}{f:α->o}:∀{l1 l2},l1.Perm l2->∀l,l2=l.map f->∃l':List α,l'.Perm l/\l'.map f=l1:=by
 intro l1 l2 h
 induction h with
 |nil=>intro l e;exact⟨l,.refl _,e.symm⟩
 |cons x _ i=>
  intro l e;cases l with
  |nil=>cases e
  |cons a t=>
   obtain⟨c,g⟩:=N_ e;obtain⟨l',p,q⟩:=i t g;exact⟨a::l',p.cons a,by rw[JF,q,c]⟩
 |swap x y r=>
  intro l e
  match l,e with
  |a::b::t,e=>
   obtain⟨c,g⟩:=N_ e;obtain⟨n,k⟩:=N_ g;exact⟨b::a::t,.swap a b t,by rw[JF,JF,c,n,k]⟩
 |trans _ _ u s=>
  intro l e;obtain⟨l',p,q⟩:=s l e;obtain⟨d,m,j⟩:=u l' q.symm;exact⟨d,m.trans p,j⟩
section
variable {prog:Jr}{w:J5}{A:Kb}{E:Je→Jd→Prop}{s:Jd}
theorem TK.det{p q:(Int×Int)×Jt}(j:TK prog w h [p.1.1,p.1.2] p.2)(l:TK prog w h [q.1.1,q.1.2] q.2)(e:p.2=q.2):p=q:=by
 obtain⟨o,its,n,t,u,f,_,g,c⟩:=j.two;obtain⟨r,d,v,s,x,m,_,k,i⟩:=l.two;rw[e,m]at f;cases f;rw[k]at g;cases g;rw[i]at c;have b:=(N_ c).1;have a:=(N_ (N_ c).2).1;injection b with b _
 injection a with a _;exact MB (MB b.symm a.symm) e
end
end ST
namespace L2
open PySem PySem.Spec PyProof.Rows
theorem HM{p:Nat->Jt->Prop}{n:Nat}(h:∀i,i<n->∃b,p i b):∃f:Nat->Jt,∀i,i<n->p i (f i):=by
 refine⟨λi=>if k:i<n then SI (h i k) else 0,λi a=>?_⟩;dsimp only;rw[dif_pos a];exact QN (h i a)
end L2
namespace L2
open PySem PySem.Spec PySem.W PyProof.Rows
variable {H0:Hp}{O0:List Jt}
section
variable {X:Cx}{ps:PSt}{e:Expr}{xs:List U}{us:List U}{x nm:Str}{pc p' U4:Pos}{u:U}
theorem xk:cB X (.builtin "isinstance") (λxs H Q=>∃a t C b c k,xs=[.ref a,.ref t]∧H a=some (.ext (OfCls a C))∧XcOk X.K C∧H t=some (.tup [.ref b,.ref c])∧kitAny X.K (.ref C) [.ref b,.ref c]=some k∧Q (.bl k) H):=by
 intro L s F H xs us Q I r h;obtain⟨a,t,C,b,c,k,rfl,ha,m,p,e,q⟩:=h;obtain⟨u,B,rfl,y,j⟩:=i_ r;cases y;cases j;obtain⟨its,g,⟨o,x,w,n,l⟩,_⟩:=I.tuple (SqT.of p);obtain⟨A,G,rfl,v,i⟩:=i_ g;cases v;cases i;obtain⟨f,E,d,D⟩:=o;cases w;cases l;exact PySem.W.kia_tup m.kit I.kIn (I.hok _ _ ha).1 x e (λz=>nomatch z) λJ=>⟨.bl k,H,I.tok _,rfl,q⟩
theorem D_{K:IR}(b:kitOne K (.ref C) (.ref D1)=some false)(a:kitOne K (.ref C) (.ref D2)=some false):kitAny K (.ref C) [.ref D1,.ref D2]=some false:=by
 rw[kitAny.eq_def];dsimp only;rw[b];dsimp only;rw[kitAny.eq_def];dsimp only;rw[a];dsimp only;rw[kitAny.eq_def]
theorem zU{p d b c U4:Pos}{x1}(h:kitAny X.K (.ref C) [.ref D1,.ref D2]=some k)(m:Gl X "isinstance")(o:X.mg "isinstance"=none)(f:KZ "isinstance"=some (.builtin "isinstance"))(l:Ev X H0 O0 ps a (.ty (.xc C)))
  (hg1:Gl X n1) (hm1:X.mg n1=some (.ref D1)) (hg2:Gl X n2) (hm2:X.mg n2=some (.ref D2)) (hd1:autoParam ((n1==("__debug__":Str))=false) x4) (hd2:autoParam ((n2==("__debug__":Str))=false) x4)
  (he:autoParam (IY [a,.Tuple [.Name n1 d,.Name n2 b] x1 c] X.env=(false,K0 a X.env)::IY [.Tuple [.Name n1 d,.Name n2 b] x1 c] X.env) z0) (Vk:autoParam ((Kv U4 (IY [.Tuple [.Name n1 d,.Name n2 b] x1 c] X.env)).any (·.1)=false) z0):
  Ev X H0 O0 ps (.Call (.Name "isinstance" p) [a,.Tuple [.Name n1 d,.Name n2 b] x1 c] [] U4) (.bl k):=
 PE.mono (jE xk m o f (a9 l (a9 (AI (a9 (je (v:=.ref D1) hg1 hm1 rfl hd1) (a9 (je (v:=.ref D2) hg2 hm2 rfl hd2) cC ai) ai)) cC Ak) he) (by decide) (by decide) he Vk) λt H Q ⟨O,R,q⟩=>⟨O,R,λv s i r=>by
  cases r with
  | @xc a _ n j=>
   refine⟨by show 2<=sizeLine;decide,λp g=>?_⟩;have e:=aQ g (.tup [.ref D1,.ref D2]);exact⟨a,p,C,D1,D2,k,rfl,e _ _ (aH _ _ n),j,aA,h,q _ _ (i.trans e) (.bl k)⟩⟩
end
section
variable {X:Cx}
def TB(X:Cx)(k:List LS)(t:(St->Hp->Prop)->(St->XK)->St->Hp->Prop):Prop:=
 ∀(b:List (Jt×Obj)) (s:Jd) (j:St) (H:Hp) (N:St->Hp->Prop) (c:St->XK) (Q:Flow->Jd->Prop) (i:Je->Jd->Prop),Inv X b j H s->t N c j H->(∀h d a,Inv X b h d a->N h d->Q .next a)->
  (∀f g e ev a,Inv X b f e g->CXF X.prog X.w X.stack e g (c f) ev a->i ev a)->JN (JE X.prog X.w) X.A (execs k X.env) Q i s
theorem FV:TB X [] (λN _ a H=>N a H):=λ_ s a H _ _ _ _ I h q _=>Nd (q a H s I h)
theorem CT{tb}(Y:TB X Vh tb)(VL:X.stack=X.env::X.outer)(WK:X.env.frame=some X.env.locals)
  (hgx:Gl X x) (Xx:X.mg x=some (.ref B)) (hT:typeIn X.K (.ref B)=some (.type "type")) (hB:mroIn X.K B (.type "BaseException")=some true)
  (hN:X.N.Nodup) (hi:X.N[i]?=some n) (hl:X.env.kindOf n=some .local) (hth:∀a,PSs (gM X a) (XH::suite) th) (hdx:autoParam ((x==("__debug__":Str))=false) x4):
  PS X (.Try Vh [.ExceptHandler (some (.Name x np)) (some n) (XH::suite) XE] [] [] U4)
   (λD σ H=>tb D.nx (λP G _ H2=>∃C,G=.ref C/\mroIn X.K C (.ref B)=some true/\∀a,H2 a=none->th (D.drop i) (P.set i (some (.ref a))) (upd H2 a (.ext (OfCls a C)))) σ H):=by
 intro r s σ H D I h;refine wpAny_Try_except (Y r s σ H _ _ _ _ I h (λy L s' I' n'=>Nd ⟨y,L,I',n'⟩) λP Z H1 ev s' m hq=>?_);obtain⟨a,G,a0,B0,L,rfl,os,e,un,A,Q,k1,k2,U,fl,C,rfl,hmC,hT'⟩:=hq;have d:=m.ok.frames;have J:=fl;rw[VL]at d fl;refine Tg d WK fl λh4 l F=>?_
 refine wpAny_landsW l λh5 k t=>?_;have XC:∀b∈frs X.stack,∀o,Z.heap.get? b=some o->∀vs,o.data≠.fields vs:=jz m.stack
 have W:∀c,B0.StaysIn c->s'.heap.UpToSlots c->Inv X r P L {s' with heap:=c }:=λc w S=>
  m.call' (s':={s' with heap:=c }) (ch:=[]) os (zC un k1 U w S XC m.stkFree) (io A k2 fl.1 w) e (λb z=>absurd z (by simp))
 have n0:Z.heap.get? a=none:=by
  cases z:Z.heap.get? a with
  |none=>rfl
  |some o=>
   exfalso
   by_cases M:a∈frs X.stack
   .obtain⟨sl,e1⟩:=un.slot a o z (m.stkFree a M) M (by simp);obtain⟨_,_,_,oe,vs',T',oT,ts,g1,g2,g3,_⟩:=J;rw[e1]at g1;cases g1;exact XC a M o z _ g3
   .obtain⟨o',e'⟩:=U a o z M;have:=J.2.1;rw[e']at this;cases this
 have E:∀c,B0.StaysIn c->s'.heap.UpToSlots c->OfCls a C c->Inv X r P (upd L a (.ext (OfCls a C))) {s' with heap:=c }:=λc w S oc=>
  m.call' (s':={s' with heap:=c }) (ch:=[]) os (AU (zC un k1 U w S XC m.stkFree) n0 Q) (wJ (io A k2 fl.1 w) Q oc) e (λb z=>absurd z (by simp))
 have I5:=W h5 k.1 (F.trans t);refine wpAny_handleBy_cons (codeAny_handlers_test (gi (X:=gM X a) (I5.hand a) hgx Xx ?_ hdx)) (by intro z;cases z);refine tQ I5.kIn k.there hT (nJ hB) hB hmC ?_;refine codeAny_handlers_suite_as (lands_againW k λc q T=>?_);have I6:=E c q.1 ((F.trans t).trans T) q.there;refine ik (X:=gM X a) (v:=.ref a) (I6.hand a) hN hi (.inl hl) rfl (λs7 I7 _=>?_) (.inr hl);refine K2 (hth a r s7 _ _ (D.drop i) I7 (hT' a Q)) (λf s2 z=>?_) λ_ _ z=>z.elim;have O:SP X r (D.drop i) f s2:=z.unhand I.ok.hd;cases f with
 |next=>obtain⟨y,V,j,g⟩:=O;exact lI j hN hi hl λR p=>⟨_,_,p,g⟩
 |brk=>obtain⟨y,V,j,g⟩:=O;exact lI j hN hi hl λR p=>⟨_,_,p,g⟩
 |cont=>obtain⟨y,V,j,g⟩:=O;exact lI j hN hi hl λR p=>⟨_,_,p,g⟩
 |ret u=>obtain⟨v,y,V,j,r8,g⟩:=O;exact lI j hN hi hl λR p=>⟨v,_,_,p,r8,g⟩
variable {E:XK}{ps:PSt}{D:PD}{e c:Expr}{es:List Expr}{us:List U}{n:Nat}{fd:LO}{pn:List Str}{Va:List U→Out→Prop}{AA rest:List LS}{nx:PSt→Prop}{ex:PSt→Jt→Prop}
def Tb(X:Cx)(H0:Hp)(O0:List Jt)(d:List LS)(nx:PSt->Prop)(ex:PSt->Jt->Prop)(ps:PSt):Prop:=
 TB X d λN c e H=>(∀p b a O,Rs X.K H0 O0 p b a O->nx p->N b a)/\(∀p b a O C,Rs X.K H0 O0 p b a O->ex p C->c b (.ref C) none a)/\∃O,Rs X.K H0 O0 ps e H O
theorem TB.mono{t t'}(h:TB X Vh t)(m:∀N a b H,t' N a b H->t N a b H):TB X Vh t':=λd s b H N a Q c I q=>h d s b H N a Q c I (m N a b H q)
theorem DP(h:nx ps):Tb X H0 O0 [] nx ex ps:=TB.mono FV λN c b H ⟨a,_,O,R⟩=>a ps b H O R h
theorem Es(h:ex ps C)(k:ex ps C->Tb X H0 O0 Vh nx ex ps):Tb X H0 O0 Vh nx ex ps:=k h
theorem pV(h:X.stack=X.env::X.outer)(n:X.env.frame=some X.env.locals)
  (hgx:Gl X x) (Xx:X.mg x=some (.ref B)) (hT:typeIn X.K (.ref B)=some (.type "type")) (hB:mroIn X.K B (.type "BaseException")=some true)
  (hN:X.N.Nodup) (hi:X.N[i]?=some m) (hl:X.env.kindOf m=some .local)
  (hb:Tb X H0 O0 Vh D.nx (λp C=>mroIn X.K C (.ref B)=some true∧XcOk X.K C∧∀a,Ws (gM X a) H0 O0 E (XH::suite) (D.drop i) (p.set i (some (.val (.ty (.xc C)))))) ps) (hdx:autoParam ((x==("__debug__":Str))=false) x4):
  W1 X H0 O0 E (.Try Vh [.ExceptHandler (some (.Name x np)) (some m) (XH::suite) XE] [] [] U4) D ps:=
 PS.mono (CT (th:=λb c H=>∃p,(∀a,Ws (gM X a) H0 O0 E (XH::suite) (D.drop i) p)/\Lf X.K H0 O0 E (D.drop i) b/\∃O,Rs X.K H0 O0 p c H O) hb h n hgx Xx hT hB hN hi hl (λa o s c H b I ⟨p,w,z⟩=>w a o s c H b I z) hdx) λb c H ⟨L,O,R⟩=>
  ⟨λp e f O R k=>L.nx p e f O R k,λp e f O C R ⟨j,g,l⟩=>⟨C,rfl,j,λa d=>⟨_,l,L.drop i,O,(R.go (aQ d _)).set (.xc (R.hidnew d) g)⟩⟩,O,R⟩
end
noncomputable abbrev T'(l:List Nat):Str:=⟨l.toArray⟩
theorem Am(x):x=T' x.cps.toList:=by cases x;simp[T']
theorem bC(l):(T' l).length=l.length:=by simp[Str.length]
theorem cP(l m):T' l++T' m=T' (l++m):=by
 show Str.mk _=Str.mk _;simp
noncomputable def Itx(x:Str):It:=⟨λi _=>i<x.cps.size,λi H v a=>a=H/\∃c,x.cps[i]?=some c/\v=.str ⟨#[c]⟩,λi _=>x.cps.size<=i⟩
theorem oW(h:A.handled=none)(it)(x)(t:Tok):Walks P w A it [it] [it] x.cps.size (SignAt x) (λi hp=>hp.IsStrIter it (P9 x) x t i):=by
 unfold P9;split
 .exact Walks.strAscii h it x t
 .exact Walks.strWide h it x t
theorem Bm{P:Jr}{w:J5}{K:IR}{O:Expr}(f:Jt)(x:Str)(t:Tok):wL P w K O (Itx x) [f] f (λi h=>i<=x.cps.size/\h.IsStrIter f (P9 x) x t i) where
 mem:=by simp
 obj:=λi h a b hb=>by
  have e:b=f:=by simpa using hb
  subst e;obtain⟨_,o,e,c,d⟩:=a;exact⟨o,e,λv z=>by rw[d]at z;cases z⟩
 keep:=λi h y a k=>⟨a.1,by obtain⟨o,e,c,d⟩:=a.2;exact⟨o,k f (by simp) o e,c,d⟩⟩
 item:=by
  intro X p r q F i N s L H E I g a j;subst p r q;obtain⟨n,B,U,C,l,D⟩:=g f (by simp);have W:=oW (P:=X.prog) (w:=X.w) (I.ok.hd F) f x t;refine W.item i s _ _ j a.2 λv y M R J m=>?_;obtain⟨c,u,G,rfl⟩:=R;have V:Inv X N L H {s with heap:=y,toks:=M }:=I.turned (λb o hb e=>m b o (by simpa using hb) e) n B C l D;obtain⟨o,e,T,d⟩:=id J;exact⟨_,rfl,vJ e T d (by unfold P9;split <;>decide) ⟨.str ⟨#[c]⟩,H,V,⟨u,rfl⟩,⟨rfl,c,G,rfl⟩,⟨j,J⟩,λb hb=>(g b hb).1⟩⟩
 done:=by
  intro X p r q F i N s L H E I g a j;subst p r q;obtain⟨n,B,U,C,l,D⟩:=g f (by simp);have W:=oW (P:=X.prog) (w:=X.w) (I.ok.hd F) f x t;have S:=j;have e:=Ml a.1 S;subst e;exact W.done s _ _ a.2 λy M m=>⟨rfl,I.turned (λb o hb e=>m b o (by simpa using hb) e) n B C l D⟩
 self:=λA i s Q E a h=>by
  obtain⟨_,a⟩:=a;unfold P9 at a;split at a
  .exact wpAny_pyIter_striter_ascii a h
  .exact wpAny_pyIter_striter_wide a h
section
variable {X:Cx}{tg:Expr}
theorem F7(j:PE X l tl):PI X tg l (λf H R=>tl f H λx a=>∃z,x=.str z/\R (Itx z) a):=by
 intro k s f H R I h;refine thn (j k s f H _ I h) λv d g=>?_;obtain⟨x,a,c,m,i⟩:=g;obtain⟨z,e,q⟩:=i;subst e;obtain⟨t,rfl⟩:=m;refine wpAny_pyIter_strU ?_;refine⟨d.heap.objs.size,[d.heap.objs.size],_,_,a,rfl,c.kept λb o e=>IU _ e,Bm _ z t,⟨JZ _,_,Jm _ rfl,rfl,rfl⟩,λb hb=>?_,q⟩;have e:b=d.heap.objs.size:=by simpa using hb
 subst e;exact c.fpOk (IV _) (c.hok.fresh (IV _))
end
noncomputable abbrev sg(c:Nat):U:=.str ⟨#[c]⟩
variable {U7:Pos}{U5:Pos}
section
variable {X:Cx}{ps:PSt}{a b e tg:Expr}{es:List Expr}{U4 p p2:Pos}{x y:Str}{i:Int}{lo hi:Option Expr}{l h:Option Int}
theorem DM(f:Ev X H0 O0 ps e (.str x)):EvI X H0 O0 ps tg e (x.cps.toList.map sg):=
 PI.mono (F7 f) λj H Q ⟨O,R,q⟩=>⟨O,R,λv d s r=>by
  cases r;refine⟨x,rfl,q _ d s λg k=>⟨λi hi=>?_,?_⟩⟩
  .have a:i<x.cps.size:=by simpa using hi
   refine⟨a,λz h y=>⟨y.1,sg x.cps[i],by simp[a],?_⟩⟩;obtain⟨_,c,b,rfl⟩:=y;rw[Ke a]at b;cases b;exact .str _
  .show x.cps.size<=_;simp⟩
theorem bv(f:Ev X H0 O0 ps a (.str x))(c:Ev X H0 O0 ps b (.str y))(e:x.length+y.length<=sizeLine):Ev X H0 O0 ps (.BinOp a .Add b U4) (.str (x++y)):=
 PE.mono (o0 tN f c) λi H Q ⟨O,R,k⟩=>two R (λ_ _ _ z=>z) (λ_ _ _ z=>z) λv w d s _ g h=>by
  cases g;cases h;exact⟨x,y,rfl,rfl,e,k _ d s (.str _)⟩
theorem DS(f:Ev X H0 O0 ps a (.str x))(e:Ev X H0 O0 ps b (.int i))(h:x.length<=sizeLine)(hi:atI x.cps.toList i=some c)(hs:jv b:=by intro _ _;rfl):Ev X H0 O0 ps (.Subscript a b U4) (sg c):=
 PE.mono (v9 FY f e hs) λk H Q ⟨O,R,q⟩=>two R (λ_ _ _ z=>z) (λ_ _ _ z=>z) λv w g s _ j d=>by
  cases j;cases d;exact⟨x,i,c,rfl,rfl,h,hi,q _ g s (.str _)⟩
theorem iN(a:x.length≤sizeLine):e9 X (.builtin "len") [.str x] (.int x.length):=cB.mono pK λc H Q b=>by
 obtain⟨O,d,r,q⟩:=b;obtain⟨v,rfl,h⟩:=cW r;cases h;exact⟨x,rfl,a,q _ H (.refl H) (.int _)⟩
theorem F4:SlR X (λx lo hi H Q=>∃z,x=.str z/\z.length<=sizeLine/\Q (.str (StrLaws.sliceText z lo hi)) H):=by
 intro B s p H x v D C lo hi g Q I m b r pu h;obtain⟨z,rfl,y,q⟩:=h;have d:=Txt.slice_le z lo hi;obtain⟨t,rfl⟩:=m;refine⟨"str",_,slot_str_getitem.lookup,rfl,?_⟩
 have a:∀l u,l.map (·.1)=lo->u.map (·.1)=hi->s.heap.IsSlice g l u none->JN (JE X.prog X.w) X.A (R6 (.str z t) (.ref g)) (EP X B p Q) X.xe s:=λl u n o f=>by
  refine wpAny_getItem_str_slice f (by decide) ?_;unfold sliceMade slicePicked;rw[n,o];unfold StrLaws.sliceText at q;split at q
  .rename_i c
   rw[if_pos (by exact c)];exact⟨.str z,H,I,⟨t,rfl⟩,q⟩
  .rename_i c
   rw[if_neg (by exact c)];unfold Txt.slice at d;rw[if_neg (by exact c)]at d
   exact⟨Jy d y,.str _,H,I.tok _,⟨_,rfl⟩,q⟩
 cases r with
 |none=>
  cases pu with
  |none=>exact a none none rfl rfl b
  |int j e=>exact a none (some (j,e)) rfl rfl b
 |int i k=>
  cases pu with
  |none=>exact a (some (i,k)) none rfl rfl b
  |int j e=>exact a (some (i,k)) (some (j,e)) rfl rfl b
theorem yk(d:Ev X H0 O0 ps e (.str x))(i:EvO X H0 O0 ps lo l)(c:EvO X H0 O0 ps hi h)(f:x.length<=sizeLine):Ev X H0 O0 ps (.Subscript e (.Slice lo hi none p2) U4) (.str (StrLaws.sliceText x l h)):=
 PE.mono (su F4 d i c) λn H Q ⟨O,R,q⟩=>⟨O,R,λv m a k=>⟨O,R.go a,λo b=>⟨O,R.go (a.trans b),λj g=>by
  cases k;exact⟨x,rfl,f,q _ j ((a.trans b).trans g) (.str _)⟩⟩⟩⟩
theorem xl:MtR X "str.startswith" (λv a H Q=>∃x y,v=.str x∧a=[.str y]∧Q (.bl (Txt.startswith x y)) H):=by
 intro i s f H v a u g Q I c b h;obtain⟨x,y,rfl,rfl,q⟩:=h;obtain⟨t,rfl⟩:=c;obtain⟨d,rfl,k⟩:=d8 b;obtain⟨e,rfl⟩:=k;exact SC.startswith ⟨.bl _,H,I,rfl,q⟩
theorem Av(g:Ev X H0 O0 ps a (.str x))(d:Ev X H0 O0 ps e (.str y))(c:IY [e] X.env=(false,K0 e X.env)::IY [] X.env)
  (Vn:autoParam (KW a "startswith" X.env (K0 a X.env)=K0 a X.env) z0)
  (VX:autoParam (((Kv U5 (IY [e] X.env)).all (λx=>!x.1) && (MU U5 (Ld [] X.env)).all (λx=>x.1.isSome) && decide ([e].length+([]:List NX).length+(if ([]:List NX).isEmpty then 0 else 1)<30))=true) z0)
  (Vo:autoParam ((U7.endLine==U5.line)=true) z0) (Vr:autoParam ((Kv U5 (IY [] X.env)).any (·.1)=false) z0):
  Ev X H0 O0 ps (.Call (.Attribute a "startswith" U7) [e] [] U5) (.bl (Txt.startswith x y)):=
 PE.mono (v4 M9 PySem.F.slot_str_startswith PySem.F.type_str_startswith xl g (a9 d cC c) Vn VX Vo c Vr) λl H Q ⟨O,R,q⟩=>⟨O,R,λv k b i=>by
  cases i;exact⟨rfl,O,R.go b,λw h f j=>by cases j;exact⟨x,y,rfl,rfl,q _ h (b.trans f) (.bl _)⟩⟩⟩
theorem EV(h:TU x=some n)(c:x.length≤640):e9 X (.type "int") [.str x] (.int n):=by
 intro j s g H f i Q I r b;obtain⟨O,d,a,q⟩:=b;obtain⟨v,rfl,e⟩:=cW a;cases e;obtain⟨u,rfl,⟨t,rfl⟩⟩:=d8 r;exact KIN.call_text h c ⟨.int n,H,I.tok _,⟨_,rfl⟩,q _ H (.refl H) (.int _)⟩
theorem iX(h:i.natAbs.log2<1920):e9 X (.type "str") [.int i] (.str (Str.ofString (Pd i))):=cB.mono qw λb H Q a=>by
 obtain⟨O,d,r,q⟩:=a;obtain⟨v,rfl,k⟩:=cW r;cases k;exact⟨i,rfl,h,q _ H (.refl H) (.str _)⟩
theorem HA:OpS X (Kc .In) (.str x) (.str y) (.bl (!(Builtin.Str.occurrences y x 0 y.length 1).isEmpty)):=by
 intro e s d H v w p q Q I f g h;obtain⟨c,a,b⟩:=h;cases c;cases a;exact xS e s d H _ _ p q Q I f g ⟨x,y,rfl,rfl,b⟩
theorem HP(c:Gl X z)(h:∃t,X.mg z=some (.str v t))(b:autoParam ((z==("__debug__":Str))=false) x4):Ev X H0 O0 ps (.Name z U4) (.str v):=by
 obtain⟨t,a⟩:=h;exact PE.mono (je (v:=.str v) c a ⟨t,rfl⟩ b) λ_ H _ ⟨_,_,k⟩=>k _ H (.refl H) (.str v)
end
theorem wV(i n:Nat):Builtin.Str.strSliceIndices (some (i:Int)) none 1 n=Builtin.Str.strSliceIndices (some ((min i n:Nat):Int)) (some (n:Int)) 1 n:=by
 have b:¬ (i:Int)<0:=by lia
 have a:¬ ((min i n:Nat):Int)<0:=by lia
 unfold Builtin.Str.strSliceIndices;simp[b,a];congr 1 <;>lia
theorem Gh{a b:Nat}(e:Builtin.Str.strSliceIndices l h 1 x.length=Builtin.Str.strSliceIndices (some (a:Int)) (some (b:Int)) 1 x.length)(c:a<=b)(d:b<=x.length):StrLaws.sliceText x l h=T' ((x.cps.toList.drop a).take (b-a)):=by
 have:=StrLaws.sliceText_nat x c d;unfold StrLaws.sliceText at this |-;rw[e];exact this
theorem yV(l)(i:Nat):StrLaws.sliceText (T' l) (some (i:Int)) none=T' (l.drop i):=by
 rw[Gh (wV i _) (Nat.min_le_right _ _) (IV _)];refine congrArg T' ?_;rw[bC];by_cases h:i<=l.length
 .rw[MT h,Kq (by simp)]
 .rw[Qj (by lia),Od (IV _),Od (by lia)];simp
theorem sub1(l)(c i):Builtin.Str.subAt (T' l) ⟨#[c]⟩ i=decide (l[i]?=some c):=by
 unfold Builtin.Str.subAt;rw[N8,beq_iff_eq,decide_eq_true_iff];show (l.toArray.extract i (i+1))=#[c]↔_;constructor
 .intro h;have a:=congrArg Sm h;simp at a;cases e:l[i]? with
  |none=>
   have:l.length<=i:=List.getElem?_eq_none_iff.mp e;rw[Od this]at a;simp at a
  |some d=>
   obtain⟨f,g⟩:=I_.mp e;have b:l.drop i=d::l.drop (i+1):=by rw[JJ f,g]
   rw[b,Lg,NO]at a;injection a with a _
   rw[a]
 .intro h;obtain⟨f,g⟩:=I_.mp h;apply NT.mp;simp;rw[JJ f];simp[g]
theorem CD(l)(c):Txt.startswith (T' l) ⟨#[c]⟩=decide (l.head?=some c):=by
 unfold Txt.startswith;rw[sub1];cases l with
 |nil=>simp[Str.length]
 |cons d r=>simp[Str.length]
theorem at1(l)(c i):StrLaws.At (T' l) ⟨#[c]⟩ (T' l).length i↔l[i]?=some c:=by
 unfold StrLaws.At;rw[sub1,decide_eq_true_iff,bC];exact⟨λh=>h.2,λh=>⟨(I_.mp h).1,h⟩⟩
theorem in1(l)(c):(!(Builtin.Str.occurrences (T' l) ⟨#[c]⟩ 0 (T' l).length 1).isEmpty)=decide (c∈l):=by
 rcases StrLaws.occ_head (T' l) ⟨#[c]⟩ 1 (IV _) with ⟨a,b⟩ |⟨i,r,a,b,_⟩
 .rw[a]
  symm
  refine decide_eq_false λh=>?_;obtain⟨i,d⟩:=JL.mp h;exact b i ((at1 l c i).mpr d)
 .rw[a]
  symm
  exact decide_eq_true (Jp ((at1 l c i).mp b))
theorem kc:∀l,aY ((l.map (·.1)).map V.str) (QV l)
 |[]=>.nil
 | (_,t)::r=>.cons ⟨t,rfl⟩ (kc r)
theorem lY{K:IR}(l:List Str):Rps K H (l.map V.str) (l.map U.str):=by
 refine⟨by simp,λi v x a b=>?_⟩;rw[I0]at a b;cases e:l[i]? with
 |none=>rw[e]at a;cases a
 |some z=>rw[e]at a b;cases a;cases b;exact .str _
theorem Dw{K:IR}:∀{l}{a}{its},aY a its->Rps K H a (l.map U.str)->∃m,its=QV m/\m.map (·.1)=l:=by
 intro l
 induction l with
 |nil=>
  intro a its b c;obtain rfl:=c.nil_inv;cases b;exact⟨[],rfl,rfl⟩
 |cons x l f=>
  intro a its b c;obtain⟨v,j,rfl,d,g⟩:=c.cons_inv;cases b with
  |cons h i=>
   cases d;obtain⟨t,rfl⟩:=h;obtain⟨m,rfl,e⟩:=f i g;exact⟨(x,t)::m,rfl,by rw[JF,e]⟩
section
variable {X:Cx}{ps:PSt}{a b e:Expr}{x y:Str}
theorem Bk:MtR X "str.split" (λv m H Q=>∃x y,v=.str x∧m=[.str y]∧(y.length==0)=false∧x.length+2≤sizeLine∧∀p,H p=none→Q (.ref p) (upd H p (.lst ((Txt.split x y).map V.str)))):=by
 intro B s A H v m u F Q I C n h;obtain⟨x,y,rfl,rfl,hy,E,q⟩:=h;obtain⟨t,rfl⟩:=C;obtain⟨D,rfl,k⟩:=d8 n;obtain⟨g,rfl⟩:=k;have r:=I.hok.fresh (IV s.heap.objs.size);have len:=split_le x y
 have a:∀(l:List (Str×Tok)) (i:Nat),l.map (·.1)=Txt.split x y→EP X B A Q (.ref s.heap.objs.size) {s with heap:=s.heap.push {cls:=.type "list",data:=.seq (QV l).toArray },toks:=i }:=λl i e=>
  ⟨.ref s.heap.objs.size,_,I.laid (t':=i) (λb o z=>IU _ z) (IV _) (show cH X.prog X.w _ _ _ (.lst ((Txt.split x y).map V.str)) from ⟨by rw[IM];lia,QV l,_,by rw[<-e];exact kc l,Jm s.heap rfl⟩),rfl,q _ r⟩
 by_cases d:(decide (x.length<y.length) ||decide (Builtin.Str.strKind x<Builtin.Str.strKind y))=true
 .refine Oi Ly rfl MZ (N1 ..) (meets_str_split_cannot_occur x y t g d) ?_;exact a [(x,t)] s.toks (if_pos d).symm
 .have c:=Om.mpr d;by_cases f:(Builtin.Str.occurrences x y 0 x.length (x.length+1)).isEmpty=true
  .refine Oi Ly rfl MZ (N1 ..) (meets_str_split_not_found x y t g c hy f) ?_;exact a [(x,t)] s.toks ((if_neg d).trans (if_pos f)).symm
  .have j:=Om.mpr f;have e:Txt.split x y=Builtin.Str.partsBetween x (Builtin.Str.occurrences x y 0 x.length (x.length+1)) y.length:=(if_neg d).trans (if_neg f);refine Oi Ly rfl MZ (N1 ..) (meets_str_split_sep x y t g c hy j (by lia) (by rw[<-e];lia)) ?_;rw[<-e,strsFrom_eq];exact a (numbered s.toks (Txt.split x y)) _ (TV _ _)
theorem CV(i:Ev X H0 O0 ps a (.str x))(h:Ev X H0 O0 ps e (.str y))(c:IY [e] X.env=(false,K0 e X.env)::IY [] X.env)(j:x.length+2<=sizeLine)(k:(y.length==0)=false)
  (Vn:autoParam (KW a "split" X.env (K0 a X.env)=K0 a X.env) z0)
  (VX:autoParam (((Kv U5 (IY [e] X.env)).all (λx=>!x.1) && (MU U5 (Ld [] X.env)).all (λx=>x.1.isSome) && decide ([e].length+([]:List NX).length+(if ([]:List NX).isEmpty then 0 else 1)<30))=true) z0)
  (Vo:autoParam ((U7.endLine==U5.line)=true) z0) (Vr:autoParam ((Kv U5 (IY [] X.env)).any (·.1)=false) z0):
  EvN X H0 O0 ps (.Call (.Attribute a "split" U7) [e] [] U5) ((Txt.split x y).map U.str):=
 PE.mono (v4 M9 Ly Qu Bk i (a9 h cC c) Vn VX Vo c Vr) λo H Q ⟨O,R,q⟩=>⟨O,R,λv n b l=>by
  cases l
  exact⟨rfl,O,R.go b,λw m f g=>by
   cases g;exact⟨x,y,rfl,rfl,k,j,λp d=>q p _ _ ((b.trans f).trans (aQ d _)) ((b.trans f).free d) aA (lY _)⟩⟩⟩
theorem B1:MtR X "str.join" (λv b H Q=>∃x c a l,v=.str x∧b=[.ref c]∧SqL X.K H c a∧Rps X.K H a (l.map U.str)∧Sw x l=true∧Q (.str (Txt.join x l)) H):=by
 intro A s w H v b u z Q I o d h;obtain⟨x,c,a,l,rfl,rfl,j,i,f,q⟩:=h;obtain⟨t,rfl⟩:=o;obtain⟨p,rfl,k⟩:=d8 d;cases k;obtain⟨its,g,n,y⟩:=I.list j;obtain⟨m,rfl,e⟩:=Dw g i;exact SC.join n.isList e f λr k=>⟨.str _,H,I.tok _,⟨_,rfl⟩,q⟩
theorem nk(n:Ev X H0 O0 ps a (.str x))(h:Ev X H0 O0 ps e (.lst (l.map U.str)))(b:IY [e] X.env=(false,K0 e X.env)::IY [] X.env)(i:Sw x l=true)
  (Vn:autoParam (KW a "join" X.env (K0 a X.env)=K0 a X.env) z0)
  (VX:autoParam (((Kv U5 (IY [e] X.env)).all (λx=>!x.1) && (MU U5 (Ld [] X.env)).all (λx=>x.1.isSome) && decide ([e].length+([]:List NX).length+(if ([]:List NX).isEmpty then 0 else 1)<30))=true) z0)
  (Vo:autoParam ((U7.endLine==U5.line)=true) z0) (Vr:autoParam ((Kv U5 (IY [] X.env)).any (·.1)=false) z0):
  Ev X H0 O0 ps (.Call (.Attribute a "join" U7) [e] [] U5) (.str (Txt.join x l)):=
 PE.mono (v4 M9 PySem.F.slot_str_join PySem.F.type_str_join B1 n (a9 h cC b) Vn VX Vo b Vr) λt H Q ⟨O,R,q⟩=>⟨O,R,λv s d r=>by
  cases r
  exact⟨rfl,O,R.go d,λw f o g=>by
   cases g with
   | @lst c p _ k m j=>exact⟨x,c,p,l,rfl,rfl,SqL.of (aH _ _ k),Rps.same aH ⟨m,j⟩,i,q _ f (d.trans o) (.str _)⟩⟩⟩
end
noncomputable def spl(c:Nat):List Nat->List (List Nat)
 |[]=>[[]]
 |a::l=>if a=c then []::spl c l else (a::(spl c l).headD [])::(spl c l).drop 1
theorem jF:∀{p},c ∉ p->spl c p=[p]
 |[],_=>rfl
 |a::p,h=>by
  have h1:a≠c:=λe=>h (by rw[e];exact IW);unfold spl;rw[if_neg h1,jF λz=>h (IS _ z)];rfl
theorem lJ(l):∀{p},c ∉ p->spl c (p++c::l)=p::spl c l
 |[],_=>by show spl c (c::l)=_;rw[spl,if_pos rfl]
 |a::p,h=>by
  have h1:a≠c:=λe=>h (by rw[e];exact IW);show spl c (a::(p++c::l))=_;rw[spl,if_neg h1,lJ l λz=>h (IS _ z)];rfl
theorem qH(c):∀a l,a≠[]->(∀t∈a,c ∉ t.cps.toList)->Str.join ⟨#[c]⟩ a=T' l->a=(spl c l).map T'
 |[],l,h,_,_=>absurd rfl h
 |[t],l,_,d,e=>by
  have e1:t=T' l:=e;have b:=d t IW;rw[e1]at b |-;rw[jF (by simpa using b)]
  rfl
 |t::t2::a,l,_,d,e=>by
  have e1:t++⟨#[c]⟩++Str.join ⟨#[c]⟩ (t2::a)=T' l:=e;generalize hm:Str.join ⟨#[c]⟩ (t2::a)=m at e1;have i:=qH c (t2::a) m.cps.toList (by simp) (λz f=>d z (IS _ f)) (hm.trans (Am m))
  have b:l=t.cps.toList++c::m.cps.toList:=by
   have:=congrArg (λx:Str=>x.cps.toList) e1
   have j:(t++⟨#[c]⟩++m).cps.toList=t.cps.toList++[c]++m.cps.toList:=by
    show (t.cps++#[c]++m.cps).toList=_;simp
   rw[j]at this;have g:(T' l).cps.toList=l:=by simp
   rw[g]at this;rw[<-this];simp
  rw[b,lJ _ (d t IW),JF,<-i,<-Am]
theorem Fk(l)(c):Txt.split (T' l) ⟨#[c]⟩=(spl c l).map T':=by
 refine qH c _ l ?_ (StrLaws.split_free (T' l) c) (StrLaws.join_split _ _);intro h;have:=split_pos (T' l) ⟨#[c]⟩;rw[h]at this;simp at this
section
variable {X:Cx}{E:XK}{ps:PSt}{a b e:Expr}{es:List Expr}{y:Str}{l:List Nat}{c:Nat}{U4:Pos}{u:U}{C:Jt}
theorem sM(h:Ev X H0 O0 ps a (.str (T' l)))(b:Ev X H0 O0 ps e (.str y))(g:IY [e] X.env=(false,K0 e X.env)::IY [] X.env)(d:(T' l).length+2<=sizeLine)(f:y=⟨#[c]⟩)
  (Vn:autoParam (KW a "split" X.env (K0 a X.env)=K0 a X.env) z0)
  (VX:autoParam (((Kv U5 (IY [e] X.env)).all (λx=>!x.1) && (MU U5 (Ld [] X.env)).all (λx=>x.1.isSome) && decide ([e].length+([]:List NX).length+(if ([]:List NX).isEmpty then 0 else 1)<30))=true) z0)
  (Vo:autoParam ((U7.endLine==U5.line)=true) z0) (Vr:autoParam ((Kv U5 (IY [] X.env)).any (·.1)=false) z0):
  EvN X H0 O0 ps (.Call (.Attribute a "split" U7) [e] [] U5) ((spl c l).map λp=>U.str (T' p)):=by
 subst f;have:=CV h b g d rfl Vn VX Vo Vr;rw[Fk,JP]at this;exact this
end
section
variable {M:Model}{A:Kb}{E:Je→Jd→Prop}{s:Jd}
theorem iU{cls v y:Je}(f)(k:base.StaysIn s.heap)(w:s.heap.FunFrames base l)(t:s.heap.TracedAtW base e cls v y)
  (h:∀h',base.StaysIn h'->h'.FunFrames base l->h'.TracedAtW base e cls v (f.elim LN λL=>OK L)->s.heap.UpToSlots h'->Q () {s with heap:=h' }):JN M A (setFlight (.ref e) f) Q E s:=by
 obtain⟨C,g,T,D,i,p,B,u,r,j,n,d,c,x⟩:=t;have sz:3<i.size:=(Kx.mp x).1;have a:∀b,b≠T->(s.heap.update T (RL (·.setIfInBounds 3 (f.elim LN λL=>OK L)))).get? b=s.heap.get? b:=λb hb=>KD _ _ (Ne.symm hb)
 have m:∀b o,s.heap.get? b=some o->(∀g,o.data≠.fields g)->b≠T:=λb o hb q z=>by
  rw[z,d]at hb;cases hb;exact q i c
 unfold setFlight;refine IP (MW p u r ?_);rw[if_pos (show (JR T !=LN)=true by simp)];refine Ov d c sz (h _ (λb o q=>?_) (w.of_keeps λb o q z=>⟨o,(a b (m b o q z)).trans q,rfl⟩) ⟨C,g,T,_,_,(a e (Ne.symm n)).trans p,B,u,r,j,n,KM _ d (OA (Lq c _)),Lq c _,by simp[sz]⟩ λb o q z=>⟨o.slots,(a b (m b o q z)).trans q⟩);exact (a b λz=>by rw[z,j]at q;cases q).trans (k b o q)
theorem uD{cls v u:Je}(N:A.frames=some (env::outer))(g:env.frame=some L)(k:base.StaysIn s.heap)(n:base.get? e=none)
  (fr:s.heap.FunFrames base (env::outer)) (t:s.heap.TracedAtW base e cls v u) (hQ:∀a,Sr base outer e cls v a->s.heap.UpToSlots a->Q () {s with heap:=a }):JN M A (UF env (.ref e)) Q E s:=by
 have C:=t;obtain⟨S,r,T,R,x,i,⟨F,O⟩,l,j,y,G,c,f,h⟩:=C;unfold UF;refine IP ?_;by_cases m:(u==OK L)=true
 .unfold Th;simp only[g];refine IP (MW i l j ?_);rw[if_pos (show (JR T !=LN)=true by simp)];refine IP (MW c f h ?_);rw[if_pos m];exact IX (iU none k fr t λa D w I B=>hQ a ⟨D,n,w.2.2,I⟩ B)
 .subst F;have d:∀b,b≠T->(s.heap.update T (RL (·.setIfInBounds 3 LN))).get? b=s.heap.get? b:=λb hb=>KD _ _ (Ne.symm hb)
  have p:∀b o,s.heap.get? b=some o->(∀r,o.data≠.fields r)->b≠T:=λb o hb q z=>by
   rw[z,c]at hb;cases hb;exact q x f
  unfold Th;simp only[g];refine IP (MW i l j ?_);rw[if_pos (show (JR T !=LN)=true by simp)];refine IP (MW c f h ?_);rw[if_neg m];refine IP (Ov c f (Kx.mp h).1 ?_)
  refine wpAny_newEntryW N (fr.of_keeps λb o q z=>⟨o,(d b (p b o q z)).trans q,rfl⟩) g ((d e (Ne.symm G)).trans i) (λb o q=>(d b λz=>by rw[z,y]at q;cases q).trans (k b o q)) n l (Kx.mp j).1 O
   λa ⟨P,K,J,H⟩=>hQ a ⟨P,n,K.2.2,J⟩ λb o q z=>H b o ((d b (p b o q z)).trans q) z
end
theorem vq{h h' B d:Ma}(c:∀b,B.get? b=none->d.get? b=none):∀{l},(∀L∈frs l,∀o,h.get? L=some o->h'.get? L=some o)->h.FunFrames B l->h'.FunFrames d l
 |[],_,_=>trivial
 |env::r,k,⟨h1,⟨L,o,hf,hn,ho,hd⟩,h3⟩=>by
  rw[i9 hf]at k;exact⟨h1,⟨L,o,hf,c L hn,k L IW o ho,hd⟩,vq c (λe a=>k e (IS _ a)) h3⟩
def CXH(P:Jr)(w:J5)(ch:List Jt)(a:List Env)(H:Hp)(s:Jd)(E:XK)(e:Je)(s':Jd):Prop:=
 ∃(f:Jt) (c h fl:Je) (B:Ma) (d:Hp),e=.ref f/\s'.os=s.os/\Pl s'.gens/\Un (frs a) ch H d s.heap s'.heap/\HOk P w d s'.heap/\d f=none/\
  (∀b o,s.heap.get? b=some o->b ∉ frs a->b ∉ ch->H b=none->B.get? b=some o)/\(∀b u,d b=some u->∃o,B.get? b=some o)/\(∀b o,s.heap.get? b=some o->b ∉ frs a->b ∉ ch->∃g,B.get? b=some g)/\
  B.StaysIn s'.heap/\B.get? f=none/\s'.heap.FunFrames B a/\s'.heap.TracedAtW B f c h fl/\E c none d
def jT(X:Cx)(E:XK):Prop:=∀(f:List (Jt×Obj)) (d:St) (H:Hp) (s:Jd) (e:Je) (c:Jd) (a:List Jt),Inv X f d H s->(∀b∈a,X.s₀.heap.objs.size<=b)->CXH X.prog X.w a X.stack H s E e c->X.xe e c
section
variable {P:Jr}{w:J5}{K:Frag}{mg:Str→Option Je}{base:Ma}{N:List Str}{U8:Str}{scope:Rx}{f:Jt}{cd:Je}{A:Kb}{outer:List Env}{s:Jd}{H:Hp}{E:XK}
theorem wH{B h1 p:Ma}(I:Inv (dG (CXF P w) P w K mg base N U8 scope f cd A outer s H E) U_ σ H1 s1)(M:∀b∈ch,s.heap.objs.size<=b)
  (un:Un (frs (NH U8 scope s.heap.objs.size f cd::outer)) ch H1 H' s1.heap h1)
  (k1:∀b o,s1.heap.get? b=some o->b ∉ frs (NH U8 scope s.heap.objs.size f cd::outer)->b ∉ ch->H1 b=none->B.get? b=some o) (k3:∀b o,s1.heap.get? b=some o->b ∉ frs (NH U8 scope s.heap.objs.size f cd::outer)->b ∉ ch->∃a,B.get? b=some a)
  (st:B.StaysIn p) (up:h1.UpToSlots p):
  Un (frs outer) [] H H' s.heap p/\(∀b o,s.heap.get? b=some o->b ∉ frs outer->H b=none->B.get? b=some o)/\(∀b o,s.heap.get? b=some o->b ∉ frs outer->∃a,B.get? b=some a):=by
 have j:∀b o,s.heap.get? b=some o->b ∉ ch:=λb o e z=>absurd (Jc e) (Ud.mpr (M b z));have J:frs (NH U8 scope s.heap.objs.size f cd::outer)=s.heap.objs.size::frs outer:=i9 rfl;rw[J]at un k1 k3
 have v:∀b o,s.heap.get? b=some o->b ∉ frs outer->b ∉ s.heap.objs.size::frs outer:=λb o e hb z=>by
  rcases IT.mp z with y |y
  .exact absurd (Jc e) (by rw[y];exact JY _)
  .exact hb y
 have c:Un (frs outer) [] H H1 s.heap s1.heap:=I.base
 have x:∀b o,s.heap.get? b=some o->b ∉ frs outer->H b=none->B.get? b=some o:=λb o e hb n=>
  k1 b o (c.keep b o e n hb (by simp)) (v b o e hb) (j b o e) (c.free b o e n (by simp))
 have C:∀b o,s.heap.get? b=some o->b ∉ frs outer->∃a,B.get? b=some a:=λb o e hb=>by
  obtain⟨a,m⟩:=c.there b o e (by simp);exact k3 b a m (v b o e hb) (j b o e)
 have r:∀b∈frs outer,∀o,s.heap.get? b=some o->∀O,o.data≠.fields O:=jz I.ok.funs;have k:∀b∈frs outer,H b=none:=I.ok.frf;refine⟨⟨λb o e n hb _=>st b o (x b o e hb n),λb o e n hb d=>?_,λb o e n d=>?_,λb o e d=>?_,λb t e=>un.tups b t (c.tups b t e),λb o u e=>un.frzs b o u (c.frzs b o u e),λb F e=>?_⟩,x,C⟩
 .obtain⟨L,g⟩:=c.slot b o e n hb d;obtain⟨q,i⟩:=un.slot b _ g (c.free b o e n d) (IS _ hb) (j b o e);obtain⟨h,l⟩:=up b _ i (r b hb o e);exact⟨h,l⟩
 .obtain⟨a,g⟩:=c.there b o e d;exact un.free b a g (c.free b o e n d) (j b o e)
 .by_cases hb:b∈frs outer
  .obtain⟨L,g⟩:=c.slot b o e (k b hb) hb d;obtain⟨q,i⟩:=un.slot b _ g (c.free b o e (k b hb) d) (IS _ hb) (j b o e);obtain⟨h,l⟩:=up b _ i (r b hb o e);exact⟨_,l⟩
  .obtain⟨a,m⟩:=C b o e hb;exact⟨a,st b a m⟩
 .obtain⟨G,g⟩:=c.tbls b F e;obtain⟨D,i⟩:=un.tbls b _ g;exact⟨G++D,by rw[i,N3]⟩
theorem Bj:jT (dG (CXF P w) P w K mg base N U8 scope f cd A outer s H E) E:=by
 intro O J D F e m M I p d;obtain⟨j,c,C,fl,B,x,rfl,l,b,un,g,k,q,h,y,i,bn,n,o,v⟩:=d;show JN _ _ (UF (NH U8 scope s.heap.objs.size f cd) (.ref j)) _ _ m;refine uD (L:=s.heap.objs.size) I.ok.frames rfl i bn n o λG a t=>?_;obtain⟨u,r,z⟩:=wH I p un q y a.1 t;exact⟨j,c,C,B,x,rfl,l.trans I.os,b,u,io g h i a.1,k,r,h,z,a,v⟩
end
section
variable {X:Cx}{U_:List (Jt×Obj)}{σ:St}{H:Hp}{s:Jd}{E:XK}
theorem tX(VL:X.stack=X.env::X.outer)(WK:X.env.frame=some X.env.locals)(hx:jT X E)(B:Inv X U_ σ H s)(hfp:∀b∈fp,X.s₀.heap.objs.size<=b):
  bO (CXF X.prog X.w) ((aI X scope cl s.heap.objs.size s H fp).wish (notedBy (JE X.prog X.w) X.A (RB scope cl s.heap.objs.size X.env) (λe S=>SS (JE X.prog X.w) X.A X.xe use Q acc s.heap.objs.size (.error e) S))) E:=by
 intro pp Vb H' S e x I' hcx;have J:=I'.unwish;obtain⟨t,g,Z,c,H6,rfl,os,M,un,hok,XD,k1,k2,k3,fl,hE⟩:=hcx;have un:Un (frs X.stack) [] H' H6 S.heap x.heap:=un;have f:Un (frs X.stack) fp H H' s.heap S.heap:=J.base;have fl':Sr c (X.env::X.outer) t g Z x.heap:=by rw[<-VL];exact fl
 show JN _ _ (Th (.ref t) X.env) _ _ x;refine Tg (B.ok.frames.trans (congrArg some VL)) WK fl' λh7 Y up=>?_;generalize hC:s.heap.objs.size=C at *;have lt:∀b o,s.heap.get? b=some o->b≠C:=λb o q=>by rw[<-hC];exact Jv (Jc q)
 have cF:C ∉ frs X.stack:=λz=>by
  rw[VL,i9 WK]at z;rcases IT.mp z with y |y
  .have:=B.lt;rw[<-hC]at y;exact absurd this (by rw[y];exact JY _)
  .exact B.nofs (LG hC) y
 have cN:H' C=none:=J.free;obtain⟨m,Xq,_⟩:=J.loc;have Xq:S.heap.Ns C m:=Xq;obtain⟨oC,es,ep,N,hdC,rC⟩:=id Xq;have ns6:x.heap.Ns C m:=⟨oC,es,ep,un.keep _ oC N cN cF (by simp),hdC,rC⟩
 have W:=up.ns ns6;refine⟨m,W,λh8 sb k _=>?_⟩;obtain⟨p1,p2,p3,p4⟩:=Y;have R:∀b o,b≠C->h7.get? b=some o->h8.get? b=some o:=λb o hb q=>sb.extBut b o hb q
 have j:∀b o V,h7.get? b=some o->o.data=.fields V->b≠C:=by
  intro b o V q d z;subst z;obtain⟨h,_,_,D,d',_⟩:=W;rw[q]at D;cases D;rw[d]at d';cases d'
 have O:(hideAll c [C]).StaysIn h8:=λb o q=>R b o (λz=>by rw[z,hideAll_none [C] (by simp)]at q;cases q) (p1 b o (of_hideAll _ q))
 have Xm:∀b,c.get? b=none->(hideAll c [C]).get? b=none:=λb hb=>by
  cases q:(hideAll c [C]).get? b with
  |none=>rfl
  |some o=>have:=of_hideAll _ q;rw[hb]at this;cases this
 have K:h8.FunFrames (hideAll c [C]) X.stack:=by
  rw[<-VL]at p3;exact vq Xm (λL hL o q=>R L o (λz=>cF (by rw[<-z];exact hL)) q) p3
 have v:h8.TracedAtW (hideAll c [C]) t g Z (OK X.env.locals):=by
  obtain⟨oe,V,T,oT,ts,he,XN,hd,h1,hn,Ve,hT,W2,h3⟩:=p4;exact⟨oe,V,T,oT,ts,R _ _ (j _ _ _ he hd) he,XN,hd,h1,Xm _ hn,Ve,R _ _ (j _ _ _ hT W2) hT,W2,h3⟩
 obtain⟨oe,V,T,oT,ts,he8,hc8,hd8,h18,_⟩:=id v
 have G:∀h9 p,(hideAll c [C]).StaysIn h9->h9.FunFrames (hideAll c [C]) X.stack->h9.TracedAtW (hideAll c [C]) t g Z p->h8.UpToSlots h9->X.xe (.ref t) {x with heap:=h9 }:=by
  intro h9 p l F P I
  have K1:∀b o,s.heap.get? b=some o->b ∉ frs X.stack->b ∉ fp->H b=none->(hideAll c [C]).get? b=some o:=λb o q hb a n=>
   hideAll_get _ (k1 b o (f.keep b o q n hb a) hb (f.free b o q n a)) (by simpa using lt b o q)
  have WY:∀b u,H6 b=some u->∃o,(hideAll c [C]).get? b=some o:=λb u q=>by
   obtain⟨o,ho⟩:=k2 b u q;refine⟨o,hideAll_get _ ho ?_⟩
   have:b≠C:=λz=>by
    subst z;have:=un.free b oC N cN (by simp);rw[q]at this;cases this
   simpa using this
  have K3:∀b o,s.heap.get? b=some o->b ∉ frs X.stack->b ∉ fp->∃h,(hideAll c [C]).get? b=some h:=λb o q hb a=>by
   obtain⟨h,D⟩:=f.there b o q a;obtain⟨o2,U⟩:=k3 b h D hb;exact⟨o2,hideAll_get _ U (by simpa using lt b o q)⟩
  have i:∀b o,s.heap.get? b=some o->b∈frs X.stack->b ∉ fp->∃sl,h9.get? b=some {o with slots:=sl }:=λb o q hb a=>by
   have hn:H b=none:=B.stkFree b hb;have dn:=jz B.stack b hb o q;obtain⟨sl,r⟩:=f.slot b o q hn hb a;obtain⟨sl2,U⟩:=un.slot b _ r (f.free b o q hn a) hb (by simp);obtain⟨sl3,e3⟩:=up b _ U dn;obtain⟨sl4,e4⟩:=I b _ (R b _ (lt b o q) e3) dn;exact⟨sl4,e4⟩
  refine hx U_ σ H s (.ref t) {x with heap:=h9 } fp B hfp ⟨t,g,Z,p,hideAll c [C],H6,rfl,os.trans J.os,M,⟨λb o q n hb a=>l b o (K1 b o q hb a n),λb o q n hb a=>i b o q hb a,λb o q n a=>?_,λb o q a=>?_,λb xs q=>un.tups b xs (f.tups b xs q),λb o u q=>un.frzs b o u (f.frzs b o u q),λb ps q=>?_⟩,
   io hok WY (λb o q=>fl.1 b o (of_hideAll _ q)) l,XD,K1,WY,K3,l,Xm _ p2,F,P,hE⟩
  .obtain⟨h,r⟩:=f.there b o q a;exact un.free b h r (f.free b o q n a) (by simp)
  .by_cases hb:b∈frs X.stack
   .obtain⟨sl,r⟩:=i b o q hb a;exact⟨_,r⟩
   .obtain⟨h,D⟩:=K3 b o q hb a;exact⟨h,l b h D⟩
  .obtain⟨m1,r⟩:=f.tbls b ps q;obtain⟨m2,U⟩:=un.tbls b _ r;exact⟨m1++m2,by rw[U,N3]⟩
 unfold PySem.passOn;refine IP (MW he8 hd8 h18 ?_);rw[if_neg (show ¬ ((JR T==LN)=true) by simp)]
 first
  |exact IP (iU k.frame O K v λh9 l F P I=>Tc (G h9 _ l F P I))
  |exact IP (IX (IP (iU k.frame O K v λh9 l F P I=>Tc (G h9 _ l F P I))))
theorem xq(hc:X.calm=true)(VL:X.stack=X.env::X.outer)(WK:X.env.frame=some X.env.locals)(hx:jT X E)(hex:X.ex=[])(B:cy X scope cl is)
  (hi:PI X tg iter wi) (hg:∀C s H fp,PG (aI X scope cl C s H fp) tg g) (he:∀C s H fp EE,bO (CXF X.prog X.w) ((aI X scope cl C s H fp).wish EE) E->PE ((aI X scope cl C s H fp).wish EE) Vx te) (hs:∀x,Kf iter X.env x=pure x)
  (I:Inv X U_ σ H s) (h:DW is wi g te σ H Q0)
  (fin:∀l C j D m,Inv X U_ σ j D->D.heap.Ns C m->j C=none->C≠X.env.locals->C ∉ X.fs->X.s₀.heap.objs.size<=C->(∀x c,X.env.cells.lookup x=some c->c≠C)->(∀p∈X.pn++U_,p.1≠C)->Q0 (.ref l) j->
   SS (JE X.prog X.w) X.A X.xe use Q (.ref l) C (.ok .next) D):
  JN (JE X.prog X.w) X.A (RC (.ListComp Vx [⟨tg,iter,[],0⟩] scope U4) scope X.env pos0 (newList []) false (K0 iter X.env) use) Q X.xe s:=by
 refine PL rfl hs B.clos B.kind B.names (thn (hi U_ s σ H _ I h) λxv s1 h1=>thn h1 λitv a h2=>?_);obtain⟨it,fp,tn,J,G,e,I2,T,st2,f2,R⟩:=h2;subst e;refine MM (Q_ B.cell (by intro y hy;simp at hy) (λk Xq V5=>?_) B.kind);have hl:G a.heap.objs.size=none:=I2.hok.fresh (IV _);obtain⟨W,⟨m0,w0⟩,U⟩:=R a.heap.objs.size hl
 have K:Inv X U_ σ (upd G a.heap.objs.size (.lst [])) {a with heap:=a.heap.push {cls:=.type "list",dict:=none,data:=.seq ([]:List Je).toArray } }:=
  I2.laid (t':=a.toks) (o:=.lst []) (λb u e=>IU _ e) (IV _) ⟨JZ _,[],0,.nil,Jm _ rfl⟩
 have V:∀b∈fp,b<a.heap.objs.size:=λb hb=>let ⟨o,e,_⟩:=T.obj 0 _ st2 b hb;Jc e
 have M:∀b∈fp,jK X U_ (upd G a.heap.objs.size (.lst [])) b:=λb hb=>⟨by rw[aC (Jv (V b hb))];exact (f2 b hb).1,(f2 b hb).2⟩
 have kp:∀b o,(a.heap.push {cls:=.type "list",dict:=none,data:=.seq ([]:List Je).toArray }).get? b=some o→k.get? b=some o:=λb o e=>
  V5.extBut b o (Jv (Jc e)) (IU _ e)
 have st4:tn 0 k:=T.keep 0 _ _ st2 λb _ o e=>kp b o (IU _ e)
 have Y:∀b∈fp,b<(a.heap.push {cls:=.type "list",dict:=none,data:=.seq ([]:List Je).toArray }).objs.size:=λb hb=>by
  rw[Ll];exact LA (V b hb)
 have I4:=kU (t':=a.toks+([]:List (Str×Je)).length) K B M Y Xq kp
 have loop:Og (JE X.prog X.w) X.A (.compLoop (.ListComp Vx [⟨tg,iter,[],0⟩] scope U4) 0 (.ref it) (.ref a.heap.objs.size) (RB scope cl (a.heap.push {cls:=.type "list",dict:=none,data:=.seq ([]:List Je).toArray }).objs.size X.env))
   (SS (JE X.prog X.w) X.A X.xe use Q (.ref a.heap.objs.size) (a.heap.push {cls:=.type "list",dict:=none,data:=.seq ([]:List Je).toArray }).objs.size)
   {a with heap:=k,toks:=a.toks+([]:List (Str×Je)).length }:=by
  generalize hs3:({a with heap:=a.heap.push {cls:=.type "list",dict:=none,data:=.seq ([]:List Je).toArray } }:Jd)=f at *
  have hC:(a.heap.push {cls:=.type "list",dict:=none,data:=.seq ([]:List Je).toArray }).objs.size=f.heap.objs.size:=by rw[←hs3]
  rw[hC]
  have S:=tX (scope:=scope) (cl:=cl) (fp:=fp) (use:=use) (Q:=Q) (acc:=.ref a.heap.objs.size) VL WK hx K λb hb=>by
   rcases (M b hb).2.2.2.1 with z |z
   .rw[hex]at z;cases z
   .exact z
  have V2:∀{j:Hp},(∀b∈fp,j b=none)->∀b∈fp,jK (aI X scope cl f.heap.objs.size f (upd G a.heap.objs.size (.lst [])) fp) [] j b:=λhn b hb=>
   ⟨hn b hb,(I4.ok.exf b hb).1,I4.ok.exfs b hb,.inl hb,λx c e=>(I4.ok.exf b hb).2 x c e,λp hp=>absurd (show p∈([]:List (Jt×Obj)) from hp) (by simp)⟩
  have P:∀{Vb:St}{j:Hp}{pp:List (Jt×Obj)}{D:Jd},Inv (aI X scope cl f.heap.objs.size f (upd G a.heap.objs.size (.lst [])) fp) pp Vb j D->Inv X U_ σ j D:=λI'=>
   K.call' (ch:=fp) I'.os I'.base I'.hok I'.bare λb hb=>⟨(M b hb).2.2.2.1,(M b hb).2.1,(M b hb).2.2.2.2.1,(M b hb).2.2.2.2.2⟩
  refine codeAny_loop rfl (λn D=>∃i j,Inv (aI X scope cl f.heap.objs.size f (upd G a.heap.objs.size (.lst [])) fp) [] (mask is σ) j D/\tn i D.heap/\(∀b∈fp,j b=none)/\W i n j) ?_ m0 ⟨0,_,(by subst hs3;exact I4),st4,λb hb=>(M b hb).1,w0⟩;rintro n s5 ⟨i,Z,I5,st5,O,w5⟩;show JN _ _ ((compTurn (.ListComp Vx [⟨tg,iter,[],0⟩] scope U4) 0 (.ref it) (.ref a.heap.objs.size) (RB scope cl f.heap.objs.size X.env)).onRaise (λx=>do Th x (RB scope cl f.heap.objs.size X.env);theTreesLotGoes x)) _ _ s5;refine wpAny_noted ?_;rw[compTurn_list1];refine IP (N4 (IP ?_));rcases U i n Z w5 with ⟨N,q⟩ |⟨go,step⟩
  .refine thn (T.done (aI X scope cl f.heap.objs.size f (upd G a.heap.objs.size (.lst [])) fp) rfl rfl rfl hc i [] s5 _ Z _ I5 (V2 O) st5 N) λr s6 ⟨hr,I6⟩=>?_;subst hr;refine IX ?_;obtain⟨m6,hn6,_⟩:=I6.loc;refine fin _ f.heap.objs.size Z s6 m6 (P I6) hn6 I6.free (Mt K.lt) (K.nofs (IV _)) K.sz (λx c e=>?_) (λp hp=>?_) q
   .obtain⟨v,z⟩:=K.cell x c e;exact Jv z.lt
   .exact Jv (Jc (K.pin p hp).1)
  .refine thn (T.item (aI X scope cl f.heap.objs.size f (upd G a.heap.objs.size (.lst [])) fp) rfl rfl rfl hc i [] s5 _ Z _ I5 (V2 O) st5 go) λr s6 t=>?_;obtain⟨u,hr,h6⟩:=t;subst hr;refine IP (thn h6 λ_ s7 t=>?_);obtain⟨x,H7,I7,r7,y7,L,fr7⟩:=t;have I7':=I7.pinned (V2 fr7) (T.obj _ _ L);refine IP (K2 (hg _ _ _ _ _ s7 (mask is σ) H7 x u _ I7' r7 (step x H7 y7)) (λ_ s8 t=>?_) λ_ _ z=>z.elim);obtain⟨XR,H8,I8,q8⟩:=t;refine IP (IP (K2 (he _ _ _ _ _ S _ s8 XR H8 _ (I8.wish _) q8) (λv s9 t=>?_) λ_ _ z=>z));obtain⟨y,H9,I9',r9,sub,vs,hl9,hz,m',hm,w'⟩:=t;have I9:=I9'.unwish;refine IP (K2 (kf (X:=aI X scope cl f.heap.objs.size f (upd G a.heap.objs.size (.lst [])) fp) _ s9 XR H9 (.ref a.heap.objs.size) [y] (.ref a.heap.objs.size) [v] (λ_ j=>j=upd H9 a.heap.objs.size (.lst (vs++[y]))) I9 rfl (.cons r9 .nil) ⟨_,vs,y,rfl,rfl,hl9,hz,rfl⟩) (λz s10 t=>?_) λ_ _ z=>z.elim);obtain⟨zv,H10,F,_,e10⟩:=t;subst e10;refine IX (IX ⟨rfl,m',hm,i+1,_,(F.unpinned (U_:=[])).weak (by rw[F.len,fI,I.len]) sub,T.keep _ _ _ L λb hb o e=>(F.pin (b,o) (Jf _ (Jf _ (c8 hb e)))).1,λb hb=>?_,w'⟩);obtain⟨o,e,d⟩:=T.obj _ _ L b hb;exact (F.pin (b,o) (Jf _ (Jf _ (c8 hb e)))).2.1
 exact Qo loop (T.self X.A 0 _ _ _ st4 loop)
end
end L2
namespace L2
open PySem PySem.Spec PyProof.Rows
theorem rR{X:Cx}{p q:P2}(k:X.A.units+10<Mu):OpS X (Kc .Lt) (pu p) (pu q) (.bl (ST.ltP p q)):=by
 intro o s m H v w e f Q I j b h;obtain⟨g,a,i⟩:=h;obtain⟨n,rfl,c⟩:=DO I g j;obtain⟨l,rfl,d⟩:=DO I a b;exact ST.lt_ptsR (by lia) c d (ke I i rfl)
theorem jU{n:Nat}(h:n<=9000):n<sizeLine:=by rw[Lc];lia
end L2
namespace ST2
open PySem PySem.SetTable ST
section
variable {prog:Jr}{w:J5}{A:Kb}{E:Je→Jd→Prop}{s:Jd}
noncomputable abbrev K4:=(Int×Int)×(Int×Int)
noncomputable abbrev l1(k:K4):List Int:=[k.1.1,k.1.2]
noncomputable abbrev l2(k:K4):List Int:=[k.2.1,k.2.2]
def TQ(prog:Jr)(w:J5)(h:Ma)(k:K4)(b:Jt):Prop:=∃o items n c a,h.get? b=some o∧o.cls=.type "tuple"∧o.data=.seq items n∧items.toList=[.ref c,.ref a]∧TK prog w h (l1 k) c∧TK prog w h (l2 k) a
variable {hZ:K4→Int}
noncomputable def ents(hZ:K4->Int)(a:List (K4×Jt)):List (Int×Je):=a.map λp=>(hZ p.1,.ref p.2)
structure SP(prog:Jr)(w:J5)(hZ:K4->Int)(h:Ma)(S:Jt)(kb:List (K4×Jt)):Prop where
 ex:∃o es ep t,h.get? S=some o∧o.ExactSet∧o.data=.set es ep t∧es.toList=ents hZ kb∧TOk t (kb.map λp=>hZ p.1)∧t.led=(!w.params.followText "set-order")∧t.plain=true∧t.tooFull=false∧t.mask<8*kb.length+8
 keys:∀p∈kb,TQ prog w h p.1 p.2
 nd:(kb.map (·.1)).Nodup
structure Got(kx:Nat->K4×Jt)(i:Nat)(kb:List (K4×Jt)):Prop where
 src:∀p∈kb,∃j,j<i/\p=kx j
 all:∀j,j<i->(kx j).1∈kb.map (·.1)
 len:kb.length<=i
variable {R:UQ→Jd→Prop}{I:Jt}{fp wr:List Jt}{G:Array Pb→Array Pb→Prop}{n:Nat}{P:Nat→Je→Prop}{St:Nat→Jd→Prop}
end
end ST2
namespace ST3
open PySem PySem.W PySem.Calls PyProof.Rows ST
noncomputable abbrev TR:=(Int×Int)×(Int×Int)×(Int×Int)
noncomputable def ltT(a b:TR):Bool:=if a.1=b.1 then (if a.2.1=b.2.1 then ltP a.2.2 b.2.2 else ltP a.2.1 b.2.1) else ltP a.1 b.1
section
variable {prog:Jr}{w:J5}{A:Kb}{E:Je→Jd→Prop}{s:Jd}
noncomputable abbrev lq(p:Int×Int):List Int:=[p.1,p.2]
noncomputable def TT(prog:Jr)(w:J5)(h:Ma)(t:TR)(b:Jt):Prop:=∃o items n d a c,h.get? b=some o∧o.cls=.type "tuple"∧o.data=.seq items n∧items.toList=[.ref d,.ref a,.ref c]∧TK prog w h (lq t.1) d∧TK prog w h (lq t.2.1) a∧TK prog w h (lq t.2.2) c
end
end ST3
namespace L2
open PySem PySem.Spec PyProof.Rows
noncomputable def t0:ST3.TR:=((0,0),(0,0),(0,0))
section
variable {κ:Type} [DecidableEq κ]
noncomputable def eT(kvs:List (κ×V))(k:κ):Option V:=(kvs.find? λa=>decide (a.1=k)).map (·.2)
noncomputable def j8(kvs:List (κ×V))(k:κ)(v:V):List (κ×V):=
 if (kvs.any λa=>decide (a.1=k))=true then kvs.map (λa=>if a.1=k then (a.1,v) else a) else kvs++[(k,v)]
noncomputable def om(kvs:List (κ×V))(k:κ):List (κ×V):=kvs.filter λa=>decide (a.1≠k)
theorem mS{k:κ}(e:p.1=k):eT (p::r) k=some p.2:=by simp[eT,LL,e]
theorem jp{k:κ}(e:¬ p.1=k):eT (p::r) k=eT r k:=by simp[eT,LL,e]
theorem s_(k:κ):∀a,(a.any λb=>decide (b.1=k))=(eT a k).isSome
 |[]=>rfl
 |p::r=>by
  rw[Nu];by_cases e:p.1=k
  .simp only[mS e,decide_eq_true e,Bool.true_or,Option.isSome_some]
  .rw[jp e,decide_eq_false e,Ul];exact s_ k r
theorem kD(kvs)(k:κ)(v):(j8 kvs k v).length<=kvs.length+1:=by
 unfold j8;split
 .rw[IM];lia
 .rw[Jl,Ji,MR];lia
theorem fV.isSome_eq(r:fV o u):o.isSome=u.isSome:=by
 cases o with
 |none=>cases u with
  |none=>rfl
  |some _=>exact r.elim
 |some _=>cases u with
  |none=>exact r.elim
  |some _=>rfl
theorem fV.getD(r:fV o u)(a:aS d d'):aS (o.getD d) (u.getD d'):=by
 cases o with
 |none=>cases u with
  |none=>exact a
  |some _=>exact r.elim
 |some _=>cases u with
  |none=>exact r.elim
  |some _=>exact r
theorem KV.val(r:KV kvs vs)(k:κ):fV (eT kvs k) (OJ vs k):=by
 induction r with
 |nil=>exact True.intro
 | @cons p q i a h t f=>
  obtain⟨d,g⟩:=h;by_cases e:p.1=k
  .have c:=d.symm.trans e;have b:OJ (q::a) k=some q.2:=by simp[OJ,LL,c]
   rw[mS e,b];exact g
  .have c:¬ q.1=k:=λz=>e (d.trans z);have b:OJ (q::a) k=OJ a k:=by simp[OJ,LL,c]
   rw[jp e,b];exact f
theorem KV.any(r:KV kvs vs)(k:κ):(kvs.any λa=>decide (a.1=k))=vs.any λa=>decide (a.1=k):=by
 induction r with
 |nil=>rfl
 |cons h t b=>rw[Nu,Nu,b,h.1]
theorem KV.repl(r:KV kvs vs)(k:κ)(f:aS y u):
  KV (kvs.map λa=>if a.1=k then (a.1,y) else a) (vs.map λa=>if a.1=k then (a.1,u) else a):=by
 induction r with
 |nil=>exact .nil
 | @cons p q g i h t c=>
  rw[JF,JF];refine .cons ?_ c;obtain⟨b,d⟩:=h;by_cases e:p.1=k
  .rw[if_pos e,if_pos (b.symm.trans e)];exact⟨b,f⟩
  .rw[if_neg e,if_neg (λz=>e (b.trans z))];exact⟨b,d⟩
theorem KV.put(r:KV kvs vs)(k:κ)(a:aS y u):KV (j8 kvs k y) (stored vs k u):=by
 unfold j8 stored;rw[r.any k];by_cases e:(vs.any λb=>decide (b.1=k))=true
 .rw[if_pos e,if_pos e];exact r.repl k a
 .rw[if_neg e,if_neg e];exact Paired.snoc r ⟨rfl,a⟩
theorem KV.drop(r:KV kvs vs)(k:κ):KV (om kvs k) (without vs k):=by
 unfold om without
 induction r with
 |nil=>exact .nil
 | @cons p q i j h t d=>
  obtain⟨c,g⟩:=h;rw[NS,NS];by_cases e:p.1=k
  .have a:¬ decide (p.1≠k)=true:=by simp[e]
   have b:¬ decide (q.1≠k)=true:=by simp[c.symm.trans e]
   rw[if_neg a,if_neg b];exact d
  .have f:¬ q.1=k:=λz=>e (c.trans z);have a:decide (p.1≠k)=true:=by simp[e]
   have b:decide (q.1≠k)=true:=by simp[f]
   rw[if_pos a,if_pos b];exact .cons ⟨c,g⟩ d
theorem KV.keys{vs:List (κ×Je)}(r:KV kvs vs):kvs.map (·.1)=vs.map (·.1):=by
 induction r with
 |nil=>rfl
 |cons h t a=>rw[JF,JF,a,h.1]
theorem KV.length(r:KV kvs vs):kvs.length=vs.length:=Paired.length r
theorem zf(kvs)(k:κ):(om kvs k).length<=kvs.length:=QW _ _
end
theorem mz(r:aS (kV k) u):(bU P w).is k u=true:=by
 cases k with
 |inl i=>obtain⟨t,e⟩:=r;subst e;exact rf P w i t
 |inr x=>obtain⟨t,e⟩:=r;subst e;exact rX P w x t
theorem o5:∀{a}{b},aY (a.map kV) b->ItemsAre (bU P w) a b
 |[],_,r=>by rw[Sx]at r;cases r;exact .nil
 |k::a,_,r=>by
  cases r with
  |cons h t=>exact .cons (mz h) (o5 t)
abbrev KT(H:Hp):List (List Key×V)->List (List Key×Jt×Je)->Prop:=Paired λp q=>p.1=q.1/\H q.2.1=some (.tup (p.1.map kV))/\aS p.2 q.2.2
theorem KT.val(r:KT H kvs xs)(k):fV (eT kvs k) ((UN xs k).map (·.2)):=by
 induction r with
 |nil=>exact True.intro
 | @cons p q i a h t f=>
  obtain⟨d,_,g⟩:=h;by_cases e:p.1=k
  .have c:=d.symm.trans e;have b:UN (q::a) k=some q.2:=by simp[UN,LL,c]
   rw[mS e,b];exact g
  .have c:¬ q.1=k:=λz=>e (d.trans z);have b:UN (q::a) k=UN a k:=by simp[UN,LL,c]
   rw[jp e,b];exact f
theorem KT.repl(r:KT H kvs xs)(k)(d:aS y u):
  KT H (kvs.map λb=>if b.1=k then (b.1,y) else b) (xs.map (putAt k u)):=by
 induction r with
 |nil=>exact .nil
 | @cons p q i j h t f=>
  rw[JF,JF];refine .cons ?_ f;obtain⟨a,c,g⟩:=h;unfold putAt;by_cases e:p.1=k
  .rw[if_pos e,if_pos (a.symm.trans e)];exact⟨a,c,d⟩
  .rw[if_neg e,if_neg (λz=>e (a.trans z))];exact⟨a,c,g⟩
theorem KT.put(r:KT H kvs xs)(k)(c:H b=some (.tup (k.map kV)))(a:aS y u):
  KT H (j8 kvs k y) (storedH xs k b u):=by
 have e:(kvs.any λd=>decide (d.1=k))=(UN xs k).isSome:=by
  rw[s_,(r.val k).isSome_eq,PR]
 unfold j8 storedH;rw[e];by_cases q:(UN xs k).isSome=true
 .rw[if_pos q,if_pos q];exact r.repl k a
 .rw[if_neg q,if_neg q];exact Paired.snoc r ⟨rfl,c,a⟩
theorem KT.keeps(r:KT H kvs xs)(c:∀b a,H b=some (.tup a)->H' b=some (.tup a)):KT H' kvs xs:=
 Paired.mapP r λ_ _ z=>⟨z.1,c _ _ z.2.1,z.2.2⟩
section
variable {P:Jr}{w:J5}{H:Hp}{h:Ma}{a:Jt}
theorem DQ(b:HOk P w H h)(e:Rd H a u):cH P w H h a u:=e.ok b
theorem nq(c:HOk P w H h)(e:Rd H a (.dK kvs)):kvs.length<=sizeLine/\(a==Mb)=false/\∃b,KV kvs b/\h.DictOf (bU P w) a b:=
 show cH P w H h a (.dK kvs) from DQ c e
theorem yY(c:HOk P w H h)(e:H a=some (.dK kvs)):kvs.length<=sizeLine/\(a==Mb)=false/\∃b,KV kvs b/\h.DictOf (bU P w) a b:=nq c (.inl e)
theorem ka(c:HOk P w H h)(e:H a=some (.tup (ks.map kV))):(Qx (bU P w)).is h ks a:=by
 obtain⟨_,its,r,o,b,d,n,f⟩:=(c a _ e);exact⟨o,its.toArray,n,b,d,f,by simpa using o5 r⟩
theorem mH(d:HOk P w H h)(e:Rd H a (.dT kvs)):kvs.length<=sizeLine/\(a==Mb)=false/\
  ∃c,KT H kvs c/\h.DictOfH (Qx (bU P w)) a c:=by
 obtain⟨z,y,c,r,o,j,s,v,k,n,g,u⟩:=(DQ d e);refine⟨z,y,c,r,o,j,s,v,k,n,g,λx b=>?_,u⟩
 have all:∀{l}{m},KT H l m->∀x∈m,(Qx (bU P w)).is h x.1 x.2.1:=by
  intro l m q
  induction q with
  |nil=>intro x b;exact nomatch b
  | @cons p q B A f t i=>
   intro x b;rcases IT.mp b with e |b
   .subst e;exact ka d (by rw[<-f.1];exact f.2.1)
   .exact i x b
 exact all r x b
theorem Ht(c:HOk P w H h)(e:H a=some (.dT kvs)):kvs.length<=sizeLine/\(a==Mb)=false/\
  ∃b,KT H kvs b/\h.DictOfH (Qx (bU P w)) a b:=mH c (.inl e)
end
def gW(H:Hp)(a:Jt)(y:V)(r:Option V):Prop:=
 (∃c k,Rd H a (.dK c)/\y=kV k/\r=eT c k)\/∃c k b,Rd H a (.dT c)/\y=.ref b/\H b=some (.tup (k.map kV))/\r=eT c k
def wM(H:Hp)(a:Jt)(y v:V)(d:Hp):Prop:=
 (∃c k,H a=some (.dK c)/\y=kV k/\c.length<sizeLine/\d=upd H a (.dK (j8 c k v)))\/
 ∃c k b,H a=some (.dT c)/\y=.ref b/\H b=some (.tup (k.map kV))/\c.length<sizeLine/\d=upd H a (.dT (j8 c k v))
theorem gW.k{k:Key}(e:H a=some (.dK kvs)):gW H a (kV k) (eT kvs k):=.inl ⟨kvs,k,.inl e,rfl,rfl⟩
theorem wM.k{k:Key}(e:H a=some (.dK kvs))(b:kvs.length<sizeLine):wM H a (kV k) v (upd H a (.dK (j8 kvs k v))):=.inl ⟨kvs,k,e,rfl,b,rfl⟩
section
variable {X:Cx}{U_:List (Jt×Obj)}{σ:St}{H:Hp}{s:Jd}{a:Jt}{y v:V}{u r:Je}{o:Option V}{A:Kb}{E:Je→Jd→Prop}
theorem Inv.big(I:Inv X U_ σ H s):Mb<s.heap.objs.size:=by
 have h:=(I.mod.glob.keeps I.bk).lt;exact J6 (by decide) h
theorem yd(x:A.units+1<Mu)(I:Inv X U_ σ H s)(g:gW H a y (some v))(q:aS y u)(h:∀c r,Inv X U_ σ H r->aS v c->Q c r):
  JN (JE X.prog X.w) A (R6 (.ref a) u) Q E s:=by
 rcases g with ⟨n,k,e,d,l⟩ |⟨n,k,b,e,d,B,l⟩
 .subst d;obtain⟨z,C,F,m,o⟩:=nq I.hok e;obtain⟨c,j,i⟩:=fV.some_of (by rw[l];exact m.val k);exact SK (mz q) o.mapOf j (h c _ (I.tok _) i)
 .subst d;cases q;obtain⟨z,C,D,m,o⟩:=mH I.hok e;obtain⟨c,j,i⟩:=fV.some_of (by rw[l];exact m.val k);obtain⟨p,t,f⟩:=Oe.mp j;refine wpAny_getItem_heap (Nc x) (ka I.hok B) o t ?_;rw[f];exact h c _ (I.tok _) i
theorem HY(p:A.units+1<Mu)(I:Inv X U_ σ H s)(g:gW H a y o)(m:aS y u)(h:∀n,Inv X U_ σ H n->Q (.bool o.isSome) n):
  JN (JE X.prog X.w) A (Kc .In u (.ref a)) Q E s:=by
 rcases g with ⟨f,k,e,c,l⟩ |⟨f,k,b,e,c,r,l⟩
 .subst c;obtain⟨z,j,v,d,i⟩:=nq I.hok e;refine wpAny_in_of (mz m) j i.mapOf ?_;rw[<-(d.val k).isSome_eq,<-l];exact h _ (I.tok _)
 .subst c;cases m;obtain⟨z,j,t,d,i⟩:=mH I.hok e;refine wpAny_in_heap (Nc p) (ka I.hok r) j i ?_;have q:=(d.val k).isSome_eq;rw[PR]at q;rw[<-q,<-l];exact h _ (I.tok _)
theorem Cq(p:A.units+1<Mu)(I:Inv X U_ σ H s)(g:gW H a y o)(m:aS y u)(h:∀n,Inv X U_ σ H n->Q (.bool (!o.isSome)) n):
  JN (JE X.prog X.w) A (Kc .NotIn u (.ref a)) Q E s:=by
 rcases g with ⟨f,k,e,c,l⟩ |⟨f,k,b,e,c,r,l⟩
 .subst c;obtain⟨z,j,v,d,i⟩:=nq I.hok e;refine TX (mz m) j i.mapOf ?_;rw[<-(d.val k).isSome_eq,<-l];exact h _ (I.tok _)
 .subst c;cases m;obtain⟨z,j,t,d,i⟩:=mH I.hok e;refine wpAny_notIn_heap (Nc p) (ka I.hok r) j i ?_;have q:=(d.val k).isSome_eq;rw[PR]at q;rw[<-q,<-l];exact h _ (I.tok _)
theorem ph(I:Inv X U_ σ H s)(e:Mut (H a))(hs:Ms a s.heap h')(d:∃q,h'.get? a=some q)(c:cH X.prog X.w (upd H a ob) h' a ob):
  Inv X U_ σ (upd H a ob) {s with heap:=h',toks:=t' }:=
 I.write e (.inl rfl) (λb q hb z=>(hs.2 b hb).trans z) d c
theorem yM(z:kvs.length<=sizeLine)(c:(a==Mb)=false)(b:KV kvs vs)(dd:h'.DictOf (bU P w) a vs):
  cH P w H' h' a (.dK kvs):=⟨z,c,vs,b,dd⟩
theorem wK(M:A.units+1<Mu)(I:Inv X U_ σ H s)(g:wM H a y v H')(C:aS y u)(B:aS v r)(h:∀D,Inv X U_ σ H' D->Q () D):
  JN (JE X.prog X.w) A (setItem (.ref a) u r) Q E s:=by
 rcases g with ⟨d,k,e,m,l,n⟩ |⟨d,k,b,e,m,G,l,n⟩
 .subst m n;obtain⟨z,x,O,i,t⟩:=yY I.hok e;have S:O.length<=sizeLine:=by rw[<-i.length];exact z
  have p:(j8 d k v).length<=sizeLine:=by have:=kD d k v;lia
  refine wpAny_setItem_pairs (mz C) t λF f o=>h _ ?_;have U:∃q,F.get? a=some q:=let ⟨q,_,_,j,_⟩:=f;⟨q,j⟩;exact ph I (by rw[e];exact True.intro) o U (yM p x (i.put k B) f)
 .subst m n;cases C;obtain⟨z,x,N,i,t⟩:=Ht I.hok e;have S:N.length<=sizeLine:=by rw[<-Paired.length i];exact z
  have p:(j8 d k v).length<=sizeLine:=by have:=kD d k v;lia
  refine wpAny_setItem_heap (Nc M) (ka I.hok G) t λF f o=>h _ ?_;obtain⟨q,L,T,j,P,R,K,_,V⟩:=f;refine ph I (by rw[e];exact True.intro) o ⟨q,j⟩ ⟨p,x,_,(i.put k G B).keeps λc W J=>?_,q,L,T,j,P,R,K,V⟩;rw[aC (HL J e (λz=>nomatch z))];exact J
end
section
variable {X:Cx}{U_:List (Jt×Obj)}{σ:St}{H:Hp}{s:Jd}{a:Jt}{kvs:List (Key×V)}{k:Key}{u:Je}{A:Kb}{E:Je→Jd→Prop}
theorem GG(I:Inv X U_ σ H s)(e:H a=some (.dK kvs))(d:aS (kV k) u)(l:eT kvs k=some v)(m:more=[]\/∃x,more=[x])
  (h:∀b g,Inv X U_ σ (upd H a (.dK (om kvs k))) g→aS v b→Q b g):JN (JE X.prog X.w) A (call (.builtin "dict.pop") (.ref a::u::more)) Q E s:=by
 obtain⟨z,D,B,f,j⟩:=yY I.hok e;obtain⟨b,p,n⟩:=fV.some_of (by rw[<-l];exact f.val k)
 have o:(keyPart u).isSome=true:=by
  cases k with
  |inl i=>obtain⟨t,q⟩:=d;subst q;rfl
  |inr x=>obtain⟨t,q⟩:=d;subst q;rfl
 have ha:UU "dict.pop" ⟨.ref a::u::more,[]⟩:=by
  rcases m with q |⟨x,q⟩
  .subst q;exact PySem.F.args_dict_pop_2 _ _
  .subst q;exact PySem.F.args_dict_pop_3 _ _ _
 refine Sy QX j.typeIs PySem.F.entry_dict_pop ha (meets_dict_pop_there (bU X.prog X.w) a (mz d) more m o)
  ⟨B,b,j,by rw[<-f.length];exact z,p,λy c r=>h b _ ?_ n⟩
 have C:∃q,y.get? a=some q:=let ⟨q,_,_,hq,_⟩:=c;⟨q,hq⟩;exact ph I (by rw[e];exact True.intro) r C (yM (Jy (zf kvs k) z) D (f.drop k) c)
end
def ux(i:Expr):Prop:=∀b a,Rm i false b a=operate [b,a] (R6 b a)
theorem wg{T j:String} 
  (hl:Q5 (.type T) "__getitem__"=pure (some (.builtin j))) (hs:ux slice)
  (h:JN (JE prog w) A (K0 Vf env) (λo e=>JN (JE prog w) A (K0 slice env) (λi VN=>VN.TypeIs o T/\JN (JE prog w) A (R6 o i) Q E VN) E e) E s):
  JN (JE prog w) A (K0 (.Subscript Vf slice U4) env) Q E s:=by
 refine R7 (K2 h (λo e b=>K2 b (λi VN d=>?_) λ_ _ x=>x) λ_ _ x=>x);obtain⟨f,d⟩:=d;refine IP ?_;rw[getitemInPython_of_ne f.not_modules];refine IP (Mi f hl ?_)
 have a:JN (JE prog w) A (Rm slice false o i) (λr g=>JN (JE prog w) A (letTemporaryGo Vf o r >>=λ_=>pure r) Q E g) E VN:=by
  rw[hs o i];exact wpAny_operating (K2 d (λr g c=>IP (wpAny_letTemporaryGo (IX c))) λ_ _ x=>x)
 first
  |exact IX (IP a)
  |exact IP (IX (IP a))
  |exact IP a
theorem rH(I:Inv X U_ σ H s)(g:gW H a y o):s.TypeIs (.ref a) "dict":=by
 rcases g with ⟨c,k,e,_,_⟩ |⟨c,k,b,e,_,_,_⟩
 .obtain⟨_,_,h,_,d⟩:=nq I.hok e;exact d.typeIs
 .obtain⟨_,_,f,_,d⟩:=mH I.hok e;exact d.typeIs
noncomputable def G4(f e:TE):TE:=λb H Q=>f b H λx d=>e b d λy c=>∃a v,x=.ref a/\gW c a y (some v)/\Q v c
noncomputable def HZ(e f:TE):TE:=λb H Q=>e b H λy d=>f b d λx c=>∃a o,x=.ref a/\gW c a y o/\Q (.bl o.isSome) c
noncomputable def Dd(e f:TE):TE:=λb H Q=>e b H λy d=>f b d λx c=>∃a o,x=.ref a/\gW c a y o/\Q (.bl (!o.isSome)) c
noncomputable def GH(f e i:TE):TS:=λD b H=>i b H λv d=>f b d λx h=>e b h λy g=>∃a c,x=.ref a/\wM g a y v c/\D.nx b c
section
variable {X:Cx}{o i e Vf:Expr}{U4 Vg tpos:Pos}{td ty tv:TE}
theorem v8(r:X.A.units+1<Mu)(B:PE X o td)(C:PE X i ty)(hs:ux i):PE X (.Subscript o i U4) (G4 td ty):=by
 intro d s c H Q I h;refine wg Pr.lookup hs (thn (B d s c H _ I h) λu w ⟨x,m,t,e,q⟩=>thn (C d w c m _ t q) λD G k=>?_);obtain⟨y,l,b,n,a,v,z,g,f⟩:=k;subst z;obtain rfl:u=JR a:=e;exact⟨rH b g,yd r b g n λE F p j=>⟨v,l,p,j,f⟩⟩
theorem FF(q:X.A.units+1<Mu)(B:PE X i ty)(z:PE X o td):PC X .In i o (HZ ty td):=by
 intro c s b H Q I h;refine thn (B c s b H _ I h) λC v ⟨y,k,r,l,p⟩=>thn (z c v b k _ r p) λu E f=>?_;obtain⟨x,j,m,d,a,t,w,g,e⟩:=f;subst w;obtain rfl:u=JR a:=d;exact HY q m g l λD n=>⟨.bl t.isSome,j,n,rfl,e⟩
theorem oK(q:X.A.units+1<Mu)(B:PE X i ty)(z:PE X o td):PC X .NotIn i o (Dd ty td):=by
 intro c s b H Q I h;refine thn (B c s b H _ I h) λC v ⟨y,k,r,l,p⟩=>thn (z c v b k _ r p) λu E f=>?_;obtain⟨x,j,m,d,a,t,w,g,e⟩:=f;subst w;obtain rfl:u=JR a:=d;exact Cq q m g l λD n=>⟨.bl (!t.isSome),j,n,rfl,e⟩
theorem vj(B:X.A.units+1<Mu)(J:PE X o td)(K:PE X i ty)(l:PE X Vf tv)(hs:Kw Vf (some (.Subscript o i Vg)) U4.line X.env=pure false):
  PS X (.Assign [.Subscript o i Vg] Vf U4) (GH td ty tv):=by
 intro c s b H D I h;refine wpAny_Assign_Subscript (thn (l c s b H _ I h) λr F ⟨v,p,C,f,z⟩=>thn (J c F b p _ C z) λu L ⟨x,n,q,j,k⟩=>thn (K c L b n _ q k) λM O m=>?_) hs;obtain⟨y,N,w,t,a,E,G,g,d⟩:=m;subst G;obtain rfl:u=JR a:=j;exact wK B w g t f λP e=>⟨b,E,e,d⟩
end
theorem zm(h:Ma)(a:Mb<h.objs.size):cH P w H (h.push {cls:=.type "dict",data:=.dict #[] }) h.objs.size (.dK []):=
 ⟨JZ _,beq_eq_false_iff_ne.mpr (Ne.symm (Jv a)),[],.nil,U3 h⟩
noncomputable def Gf:TE:=λ_ H Q=>∀p,H p=none->Q (.ref p) (upd H p (.dK []))
section
variable {X:Cx}{U4:Pos}
theorem mw:PE X (.Dict [] [] U4) Gf:=λb s a H Q I h=>
 wpAny_Dict_empty ⟨.ref s.heap.objs.size,_,I.laid (λ_ _ q=>IU _ q) (IV _) (zm s.heap I.big),rfl,h _ (I.hok.fresh (IV _))⟩
end
structure M1(X:Cx)(o:Expr)(m:Str)(U7:Pos)(e:Expr)(U5:Pos):Prop where
 base:KW o m X.env (K0 o X.env)=K0 o X.env
 few:((Kv U5 (IY [e] X.env)).all (λx=>!x.1) && (MU U5 (Ld [] X.env)).all (λx=>x.1.isSome)
  && decide (([e]:List Expr).length+([]:List NX).length+(if ([]:List NX).isEmpty then 0 else 1)<30))=true
 line:(U7.endLine==U5.line)=true
 trees:Kv U5 (IY [e] X.env)=[(false,K0 e X.env)]
structure M2(X:Cx)(o:Expr)(m:Str)(U7:Pos)(e f:Expr)(U5:Pos):Prop where
 base:KW o m X.env (K0 o X.env)=K0 o X.env
 few:((Kv U5 (IY [e,f] X.env)).all (λx=>!x.1) && (MU U5 (Ld [] X.env)).all (λx=>x.1.isSome)
  && decide (([e,f]:List Expr).length+([]:List NX).length+(if ([]:List NX).isEmpty then 0 else 1)<30))=true
 line:(U7.endLine==U5.line)=true
 trees:Kv U5 (IY [e,f] X.env)=[(false,K0 e X.env),(false,K0 f X.env)]
def IsD(H:Hp)(a:Jt):Prop:=(∃b,Rd H a (.dK b))\/∃b,Rd H a (.dT b)
theorem Bd(I:Inv X U_ σ H s)(d:IsD H a):
  s.TypeIs (.ref a) "dict"∧(∀b,JR a=.ref b→∃c,s.heap.get? b=some c∧c.dict=none)∧(a==Mb)=false:=by
 rcases d with ⟨g,e⟩ |⟨g,e⟩
 .obtain⟨_,i,l,_,f⟩:=nq I.hok e;refine⟨f.typeIs,λb q=>?_,i⟩;cases q;obtain⟨c,_,_,h,j,_⟩:=f;exact⟨c,h,j.2.1⟩
 .obtain⟨_,i,k,_,f⟩:=mH I.hok e;refine⟨f.typeIs,λb q=>?_,i⟩;cases q;obtain⟨c,_,_,h,j,_⟩:=f;exact⟨c,h,j.2.1⟩
section
variable {X:Cx}{U_:List (Jt×Obj)}{σ:St}{H:Hp}{s:Jd}{a:Jt}{y d:V}{u r:Je}{o:Option V}{A:Kb}{E:Je→Jd→Prop}
theorem Gk(v:A.units+1<Mu)(I:Inv X U_ σ H s)(g:gW H a y o)(p:aS y u)(t:aS d r)(h:∀n q,Inv X U_ σ H q->aS (o.getD d) n->Q n q):
  JN (JE X.prog X.w) A (call (.builtin "dict.get") [.ref a,u,r]) Q E s:=by
 rcases g with ⟨j,k,e,f,l⟩ |⟨j,k,b,e,f,B,l⟩
 .subst f;obtain⟨z,m,C,i,c⟩:=nq I.hok e;refine Sy OD c.typeIs Qv (P_ _ _ _) (meets_dict_get_default (bU X.prog X.w) a (mz p) m r) ⟨_,c.mapOf,h _ _ (I.tok _) ?_⟩;rw[l];exact (i.val k).getD t
 .subst f;cases p;obtain⟨z,m,x,i,c⟩:=mH I.hok e;refine Sy OD c.typeIs Qv (P_ _ _ _) (meetsH_dict_get_default (Qx (bU X.prog X.w)) a b m r) ⟨Nc v,k,x,ka I.hok B,c,h _ _ (I.tok _) ?_⟩;rw[l];exact (i.val k).getD t
end
noncomputable def FD(f e g:TE):TE:=λb H Q=>f b H λx c=>∃a,x=.ref a/\IsD c a/\e b c λy h=>g b h λz d=>∃o,gW d a y o/\Q (o.getD z) d
noncomputable def FK(g f:TE):TE:=λd H Q=>g d H λx c=>∃a,x=.ref a/\IsD c a/\f d c λy e=>∃b k v,e a=some (.dK b)/\y=kV k/\eT b k=some v/\Q v (upd e a (.dK (om b k)))
section
variable {X:Cx}{o e f:Expr}{U7 U5:Pos}{td ty tx:TE}
theorem By(K:X.A.units+1<Mu)(O:PE X o td)(P:PE X e ty)(t:PE X f tx)(m:M2 X o "get" U7 e f U5):PE X (.Call (.Attribute o "get" U7) [e,f] [] U5) (FD td ty tx):=by
 intro c s b H Q I h;refine Sg m.base m.few m.line Qa OD PySem.F.type_dict_get (thn (O c s b H _ I h) λu L q=>?_);obtain⟨x,v,i,l,a,N,d,J⟩:=q;subst N;obtain rfl:u=JR a:=l;obtain⟨w,D,_⟩:=Bd i d;refine⟨w,D,?_⟩;rw[m.trees]
 refine M7 rfl (NI (Ln (thn (P c L b v _ i J) λT R ⟨y,r,B,C,n⟩=>
  Ln (thn (t c R b r _ B n) λS W ⟨z,E,G,M,V,g,j⟩=>Mc ?_))))
 exact Gk K G g C M λU Y k p=>⟨_,E,k,p,j⟩
theorem rM(J:PE X o td)(K:PE X e ty)(m:M1 X o "pop" U7 e U5):PE X (.Call (.Attribute o "pop" U7) [e] [] U5) (FK td ty):=by
 intro f s c H Q I h;refine Sg m.base m.few m.line Qa QX PySem.F.type_dict_pop (thn (J f s c H _ I h) λu E p=>?_);obtain⟨x,q,b,i,a,G,d,C⟩:=p;subst G;obtain rfl:u=JR a:=i;obtain⟨r,z,_⟩:=Bd b d;refine⟨r,z,?_⟩;rw[m.trees];refine M7 rfl (NI (Ln (thn (K f E c q _ b C) λL P ⟨y,N,t,w,D,k,v,A,g,l,j⟩=>Mc ?_)));subst g;exact GG t A w l (.inl rfl) λM O B n=>⟨v,_,B,n,j⟩
end
noncomputable def valU(kvs:List (Str×U))(x:Str):Option U:=(kvs.find? λa=>decide (a.1=x)).map (·.2)
noncomputable def kY(kvs:List (Str×U))(x:Str)(u:U):List (Str×U):=
 if (kvs.any λa=>decide (a.1=x))=true then kvs.map (λa=>if a.1=x then (a.1,u) else a) else kvs++[(x,u)]
noncomputable def jf(kvs:List (Str×U))(x:Str):List (Str×U):=kvs.filter λa=>decide (a.1≠x)
section
variable {K:IR}{H H':Hp}{kv:List (Key×V)}{kvs:List (Str×U)}{k:Key}{v:V}{x:Str}{u:U}
theorem DkR.nil:DkR K H [] []:=⟨rfl,λi k v x u h=>by simp at h⟩
theorem DkR.cons(e:k=.inr x)(r:Rp K H v u)(h:DkR K H kv kvs):DkR K H ((k,v)::kv) ((x,u)::kvs):=by
 refine⟨by simp[h.len],λi f g c d a b=>?_⟩;cases i with
 |zero=>simp at a b;obtain⟨rfl,rfl⟩:=a;obtain⟨rfl,rfl⟩:=b;exact⟨e,r⟩
 |succ i=>exact h.at_ i f g c d (by simpa using a) (by simpa using b)
theorem DkR.uncons(h:DkR K H ((k,v)::kv) ((x,u)::kvs)):k=.inr x/\Rp K H v u/\DkR K H kv kvs:=
 ⟨(h.at_ 0 k v x u rfl rfl).1,(h.at_ 0 k v x u rfl rfl).2,by have:=h.len;simpa using this,λi e f b d a c=>h.at_ (i+1) e f b d (by simpa using a) (by simpa using c)⟩
theorem DkR.ind{p:List (Key×V)->List (Str×U)->Prop}(b:p [] [])(a:∀v x u kv kvs,Rp K H v u->DkR K H kv kvs->p kv kvs->p ((.inr x,v)::kv) ((x,u)::kvs)):∀{kv}{kvs},DkR K H kv kvs->p kv kvs
 |[],[],_=>b
 |[],_::_,h=>by have:=h.len;simp at this
 |_::_,[],h=>by have:=h.len;simp at this
 | (k,v)::kv,(x,u)::kvs,h=>by
  obtain⟨e,r,t⟩:=h.uncons;subst e;exact a v x u kv kvs r t (DkR.ind b a t)
theorem DkR.val(h:DkR K H kv kvs)(x:Str):(valU kvs x=none/\eT kv (.inr x)=none)\/∃u v,valU kvs x=some u/\eT kv (.inr x)=some v/\Rp K H v u:=by
 refine DkR.ind (p:=λkv kvs=>(valU kvs x=none/\eT kv (.inr x)=none)\/∃u v,valU kvs x=some u/\eT kv (.inr x)=some v/\Rp K H v u) (.inl ⟨rfl,rfl⟩) (λv y u kv kvs r _ b=>?_) h;by_cases e:y=x
 .subst e;exact .inr ⟨u,v,by simp[valU],by simp[eT],r⟩
 .have c:¬ (Sum.inr y:Key)=.inr x:=λz=>e (by injection z);have d:valU ((y,u)::kvs) x=valU kvs x:=by simp[valU,LL,e]
  have a:eT ((Sum.inr y,v)::kv) (Sum.inr x:Key)=eT kv (.inr x):=jp c;rw[d,a];exact b
theorem DkR.some(h:DkR K H kv kvs){x:Str}{u:U}(e:valU kvs x=some u):∃v,eT kv (.inr x)=some v/\Rp K H v u:=by
 rcases h.val x with ⟨z,_⟩ |⟨d,v,a,b,c⟩
 .rw[z]at e;cases e
 .rw[a]at e;cases e;exact⟨v,b,c⟩
theorem DkR.isSome(h:DkR K H kv kvs)(x):(eT kv (.inr x)).isSome=(valU kvs x).isSome:=by
 rcases h.val x with ⟨b,d⟩ |⟨e,v,a,c,f⟩
 .rw[b,d];rfl
 .rw[a,c];rfl
theorem DkR.map(h:DkR K H kv kvs)(r:Rp K H v u):DkR K H (kv.map λp=>if p.1=(.inr x:Key) then (p.1,v) else p) (kvs.map λp=>if p.1=x then (p.1,u) else p):=by
 refine DkR.ind (p:=λkv kvs=>DkR K H (kv.map λp=>if p.1=(.inr x) then (p.1,v) else p) (kvs.map λp=>if p.1=x then (p.1,u) else p)) DkR.nil (λw y z kv kvs b _ a=>?_) h;rw[JF,JF];by_cases e:y=x
 .subst e;rw[if_pos rfl,if_pos rfl];exact .cons rfl r a
 .rw[if_neg λz=>e (by injection z),if_neg e];exact .cons rfl b a
theorem DkR.snoc(h:DkR K H kv kvs)(r:Rp K H v u):DkR K H (kv++[(.inr x,v)]) (kvs++[(x,u)]):=
 DkR.ind (p:=λkv kvs=>DkR K H (kv++[(.inr x,v)]) (kvs++[(x,u)])) (DkR.cons rfl r DkR.nil) (λw y z kv kvs b _ a=>.cons rfl b a) h
theorem DkR.any(h:DkR K H kv kvs)(x):(kv.any λp=>decide (p.1=(.inr x:Key)))=(kvs.any λp=>decide (p.1=x)):=
 DkR.ind (p:=λkv kvs=>(kv.any λp=>decide (p.1=(.inr x)))=(kvs.any λp=>decide (p.1=x))) rfl (λw y z kv kvs _ _ a=>by
  rw[Nu,Nu,a];congr 1;by_cases e:y=x
  .subst e;simp
  .rw[decide_eq_false e,decide_eq_false λz=>e (by injection z)]) h
theorem DkR.put(h:DkR K H kv kvs)(r:Rp K H v u)(x):DkR K H (j8 kv (.inr x) v) (kY kvs x u):=by
 unfold j8 kY;rw[h.any x];split
 .exact h.map r
 .exact h.snoc r
theorem DkR.drop(h:DkR K H kv kvs)(x):DkR K H (om kv (.inr x)) (jf kvs x):=by
 refine DkR.ind (p:=λkv kvs=>DkR K H (kv.filter λp=>decide (p.1≠(.inr x))) (kvs.filter λp=>decide (p.1≠x))) DkR.nil (λw y z kv kvs r _ a=>?_) h;by_cases e:y=x
 .subst e;rw[Qb (by simp),Qb (by simp)];exact a
 .have b:¬ (Sum.inr y:Key)=.inr x:=λz=>e (by injection z);rw[NS,NS,if_pos (decide_eq_true b),if_pos (decide_eq_true e)];exact .cons rfl r a
end
section
variable {X:Cx}{H0:Hp}{O0:List Jt}{E:XK}{ps:PSt}{D:PD}{e:Expr}{U4 p:Pos}{u:U}{x n:Str}{w:Bool}{C a d:Jt}{kvs:List (Str×U)}{i:Nat}
theorem fO(h:ps[i]?=some (some (.dsk w C a d kvs)))(j:Cls X.K C)(f:gm X.K C "lands")(m:autoParam (X.N[i]?=some x) z0)(c:autoParam (Vis X.env.scope x) k6)
  (hd:autoParam ((x==("__debug__":Str))=false) x4) (Vq:autoParam ((x==("__classdict__":Str))=false) x4) (hb:autoParam (KW (.Name x p) "lands" X.env (K0 (.Name x p) X.env)=K0 (.Name x p) X.env) z0):
  PE X (.Attribute (.Name x p) "lands" U4) λb H Q=>∃O,Rs X.K H0 O0 ps b H O∧Q (.ref d) H:=
 PE.mono (FU (c0 m c hd Vq) hb) λb H Q e=>by
  obtain⟨O,R,q⟩:=e;obtain⟨v,l,g,o,rfl,s,n,k,t,r⟩:=R.at_ i _ h;exact⟨_,l,a,C,g,_,_,rfl,k,j,f,by simp,q⟩
abbrev jL(X:Cx)(H0:Hp)(O0:List Jt)(ps:PSt)(o:Expr)(d:Jt):Prop:=PE X o λa H Q=>∃O,Rs X.K H0 O0 ps a H O/\Q (.ref d) H
theorem rG(R:Rs X.K H0 O0 ps σ H O)(f:ps[i]?=some (some (.dsk w C a d kvs))):∃b,H d=some (.dK b)/\DkR X.K (hid H O) b kvs:=by
 obtain⟨v,j,g,b,rfl,l,h,k,c,e⟩:=R.at_ i _ f;exact⟨b,c,e⟩
theorem Fw(c:ps[i]?=some (some (.dsk w C a d kvs)))(j:jL X H0 O0 ps o d)(m:Ev X H0 O0 ps e (.str n))(x:X.A.units+10<Mu)(h:valU kvs n=some u)(hs:ux e:=by intro _ _;rfl):Ev X H0 O0 ps (.Subscript o e U4) u:=
 PE.mono (v8 (by lia) j m hs) λy H Q ⟨O,R,q⟩=>⟨O,R,O,R,λv l s r=>by
  cases r;obtain⟨t,p,f⟩:=rG (R.go s) c;obtain⟨z,g,b⟩:=f.some h;exact⟨d,z,rfl,by have:=gW.k (k:=.inr n) p;rw[g]at this;exact this,q z l s b⟩⟩
theorem AH(c:ps[i]?=some (some (.dsk w C a d kvs)))(j:jL X H0 O0 ps o d)(g:Ev X H0 O0 ps e (.str n))(m:X.A.units+10<Mu)(b:Lm .NotIn o=false:=by first |exact iM _ |with_unfolding_all rfl):Tt X H0 O0 ps (.Compare e [.NotIn] [o] U4) (!(valU kvs n).isSome):=
 PT.mono (pG (oK (by lia) g j) b) λp H Q ⟨O,R,q⟩=>⟨O,R,λv f s r=>by
  cases r;obtain⟨l,b,h⟩:=rG (R.go s) c;exact⟨O,R.go s,d,_,rfl,gW.k (k:=.inr n) b,_,rfl,by rw[h.isSome];exact q f s⟩⟩
theorem Rs.wdsk{K:IR}(R:Rs K H0 O0 ps σ H O)(L:ps[i]?=some (some (.dsk true C a d kvs)))(y:∀j s,ps[j]?=some (some s)->isD s=true->j=i)(r:DkR K (hid H O) kv U6):
  Rs K H0 O0 (ps.set i (some (.dsk true C a d U6))) σ (upd H d (.dK kv)) O:=by
 obtain⟨v,W,I,B,rfl,l,t,m,w,Y⟩:=R.at_ i _ L;have V:=(R.new d l).resolve_left (t rfl);have g:hid (upd H d (.dK kv)) O=hid H O:=fZ l;refine⟨R.same.put V _,R.old,R.new,λb hb z=>?_,by simp[R.len],λj s q=>?_,λj k o n b M E A T=>?_⟩
 .by_cases e:b=d
  .subst e;rw[aA]at z;cases z
  .rw[aC e]at z;exact R.dom b hb z
 .rcases bu q with ⟨Q,c⟩ |⟨x,c⟩
  .subst Q;cases c;exact⟨.ref a,W,I,kv,rfl,l,t,by rw[aC λz=>by rw[z,w]at m;cases m];exact m,aA,by rw[g];exact r⟩
  .obtain⟨p,S,f⟩:=R.at_ j s c;refine⟨p,S,?_⟩;cases s with
   |val u=>exact (show Rp K (hid (upd H d (.dK kv)) O) p u by rw[g];exact f)
   |own o=>
    obtain⟨b,n,F,N,G,h,U⟩:=f;exact⟨b,n,F,N,G,by rw[aC λz=>by rw[z,w]at h;cases h];exact h,by rw[g];exact U⟩
   |pin z u=>exact⟨f.1,by rw[g];exact f.2⟩
   |dsk Z C2 a2 d2 X=>exact absurd (y _ _ c rfl).symm x
   |raw v0 J ds=>exact absurd (y _ _ c rfl).symm x
 .have P:ps[j]?=some (some (.own o)):=by
   rcases bu M with ⟨_,e⟩ |⟨_,z⟩
   .cases e
   .exact z
  have D:ps[k]?=some (some (.own n)):=by
   rcases bu E with ⟨_,e⟩ |⟨_,z⟩
   .cases e
   .exact z
  exact R.inj j k _ _ b P D A T
noncomputable def A8(ps:PSt)(i:Nat):Bool:=(J3 ps.length).all λj=>match ps[j]? with |some (some s)=>!isD s ||j==i |_=>true
theorem lu(h:A8 ps i=true):∀j s,ps[j]?=some (some s)->isD s=true->j=i:=λj s e a=>by
 have b:=(I_.mp e).1;have:=M3.mp h j (JM.mpr b);rw[e]at this;dsimp only at this;rw[a]at this;exact beq_iff_eq.mp this
theorem E9(c:ps[i]?=some (some (.dsk true C a d kvs)))(q:jL X H0 O0 ps o d)(r:Ev X H0 O0 ps e (.str n))(j:Ev X H0 O0 ps Vf u)(y:X.A.units+10<Mu)(m:kvs.length<sizeLine)(h:D.nx (ps.set i (some (.dsk true C a d (kY kvs n u)))))
  (h1:autoParam (A8 ps i=true) z0) (hs:autoParam (Kw Vf (some (.Subscript o e Vg)) U4.line X.env=pure false) z0):W1 X H0 O0 E (.Assign [.Subscript o e Vg] Vf U4) D ps:=
 PS.mono (vj (by lia) q r j hs) λz B H ⟨L,O,R⟩=>⟨O,R,λv x b p=>⟨O,R.go b,O,R.go b,λk w g l=>by
  cases l;have R2:=R.go (b.trans g);obtain⟨t,s,f⟩:=rG R2 c;exact⟨d,_,rfl,wM.k (k:=.inr n) s (by rw[f.len];exact m),L.nx _ _ _ O (R2.wdsk c (lu h1) (f.put (p.same (aJ g)) n)) h⟩⟩⟩
theorem yq(m:ps[i]?=some (some (.dsk w C a d kvs)))(o:Ev X H0 O0 ps e u)(h:D.rt (.dsk d u kvs)):W1 X H0 O0 E (.Return (some e) U4) D ps:=
 PS.mono (iS o) λx A H ⟨L,O,R⟩=>⟨O,R,λv n s r=>by
  have f:=R.go s;obtain⟨z,B,q,g,rfl,k,p,t,l,j⟩:=f.at_ i _ m
  have c:∀b∈d::O0,b∈O:=λb hb=>by
   rcases IT.mp hb with y |y
   .subst y;exact k
   .exact R.old b y
  exact L.rt _ h v g n f.same l (j.same (aF c)) (r.same (aF c))⟩
theorem Gi(c:ps[i]?=some (some (.dsk true C a d kvs)))(q:jL X H0 O0 ps o d)(r:Ev X H0 O0 ps e (.str n))(j:valU kvs n=some u)(h:D.nx (ps.set i (some (.dsk true C a d (jf kvs n)))))
  (m:M1 X o "pop" U7 e U5:=by exact⟨rfl,rfl,rfl,rfl⟩) (h1:autoParam (A8 ps i=true) z0) (hs:autoParam (Kw (.Call (.Attribute o "pop" U7) [e] [] U5) none U4.line X.env=pure false) z0):W1 X H0 O0 E (.Expr (.Call (.Attribute o "pop" U7) [e] [] U5) U4) D ps:=
 PS.mono (ir (rM q r m) hs) λv w H ⟨L,O,R⟩=>⟨O,R,d,rfl,.inl (let ⟨b,f,_⟩:=rG R c;⟨b,.of f⟩),O,R,λk t s l=>by
  cases l;have R2:=R.go s;obtain⟨b,f,g⟩:=rG R2 c;obtain⟨z,p,_⟩:=g.some j;exact⟨b,.inr n,z,f,rfl,p,L.nx _ _ _ O (R2.wdsk c (lu h1) (g.drop n)) h⟩⟩
end
noncomputable def p7(N:List Str)(w:Bool)(C a d:Jt)(kvs:List (Str×U))(b:List U):PSt:=some (.dsk w C a d kvs)::(b.map (λu=>some (.val u))++Jw (N.length-(b.length+1)) none)
noncomputable def spD(K:IR)(w:Bool)(C:Jt)(j:Jt→List (Str×U)→List U→Out→Prop):Sp:=λi H Q E=>∃a h d e c g f O o,i=.ref a::g∧H a=some (.ins C h [("lands",.ref d)])∧H d=some (.dK e)∧(∀b∈O,H b≠none)∧(w=true→d ∉ O)∧
 DkR K (hid H (d::O)) e c/\Rps K (hid H (d::O)) g f/\j d c f o/\lQ K (if w=true then hid H [d] else H) (if w=true then O else d::O) Q E o
variable {f:Jt}{pn:List Str}
section
variable {P:Jr}{w:J5}{K:IR}{mg:Str→Option Je}{base:Ma}{N:List Str}{U8 nm:Str}
theorem eF{st:LS}(F:Fun K nm U8 st f fd)(S:aq N pn (ah st))(u:∀d c l o,Va d c l o->l.length+1=pn.length)
  (VJ:∀m A g s H I E O a d c l o,bQ k (A.deeper (NH U8 (ah st) s.heap.objs.size f m))->Va d c l o->
   Ws (dG (CXF P w) P w K mg base N U8 (ah st) f m A g s H E) I O E (b9 st) ⟨λ_=>o=.val .non,λB=>B=o,λ_=>False,λ_=>False⟩ (p7 N own C a d c l)):bL P w K mg base (CXF P w) (k+1) f fd pn (spD K own C Va):=by
 refine F.okF S (λL H Q E h=>?_) λm A g s H L Q E T h=>?_
 .obtain⟨a,y,d,x,c,W,l,O,o,rfl,_,_,_,_,_,r,t,_⟩:=h;rw[Ji,r.len];exact u d c l o t
 .obtain⟨a,y,d,x,c,W,l,O,o,rfl,ha,D,J,X,G,r,t,q⟩:=h;refine⟨_,VJ m A g s H (if own=true then hid H [d] else H) E (if own=true then O else d::O) a d c l o T t,⟨λps σ U O' R e=>?_,λ_ _ _ _ _ e=>e.elim,λ_ _ _ _ _ e=>e.elim,λB e=>by subst e;exact q⟩,d::O,?_⟩
  .subst e;exact q .non U R.same .non
  .refine⟨?_,λb hb=>?_,λb hb=>?_,λb hb=>?_,?_,λi sl e=>?_,λi j Z Y b p e2 _ _=>?_⟩
   .cases own
    .exact .refl H
    .exact aH
   .cases own
    .exact hb
    .exact IS _ hb
   .cases own
    .exact .inl hb
    .rcases IT.mp hb with z |z
     .subst z;right;show hid H [b] b=none;unfold hid;simp
     .exact .inl z
   .rcases IT.mp hb with z |z
    .subst z;rw[D];simp
    .exact J b z
   .unfold start p7;simp only[Ji,Jl,IM,KH,r.len];lia
   .unfold p7 at e;cases i with
    |zero=>
     cases e;refine⟨.ref a,rfl,y,x,rfl,IW,λe=>?_,ha,D,G⟩;subst e;exact X rfl
    |succ i=>
     rw[KA]at e;by_cases n:i<l.length
     .rw[Jn (by simpa using n),I0,IQ n]at e
      cases e;obtain⟨v,V,M⟩:=r.get (IQ n);refine⟨v,?_,M⟩;unfold start;rw[Jn (by simpa [r.len] using n),I0,KA,V];rfl
     .rw[Jo (by simpa using n),Lo]at e
      split at e <;>cases e
   .exfalso
    cases i with
    |zero=>cases p
    |succ i=>
     unfold p7 at p;rw[KA]at p;by_cases n:i<l.length
     .rw[Jn (by simpa using n),I0,IQ n]at p
      cases p
     .rw[Jo (by simpa using n),Lo]at p
      split at p <;>cases p
end
variable {Va:Jt→List (Str×U)→List U→Out→Prop}
section
variable {X:Cx}{H0:Hp}{O0:List Jt}{E:XK}{ps ps1 XF:PSt}{D:PD}{e b:Expr}{es rest:List Expr}{U4 p U7:Pos}{u z:U}{us:List U}{x n m:Str}{w:Bool}{C Cx' a d:Jt}{kvs U6:List (Str×U)}{i k:Nat}{c c':Bool}{fd:LO}{CX:CXT}
theorem Rs.dsk2{K:IR}(R:Rs K H0 O0 ps σ H O)(P:ps[i]?=some (some (.dsk true C a d kvs)))(B:∀j s,ps[j]?=some (some s)->isD s=true->j=i)(s:aP (hid H [d]) H2)(g:H2 d=some (.dK kv))(r:DkR K (hid H2 O) kv U6):
  Rs K H0 O0 (ps.set i (some (.dsk true C a d U6))) σ H2 O:=by
 obtain⟨v,Y,L,E,rfl,n,x,p,y,g7⟩:=R.at_ i _ P;have X:=(R.new d n).resolve_left (x rfl);have go:∀b o,b≠d->H b=some o->H2 b=some o:=λb o M e=>s b o (bV e (by simpa using M))
 have t:aP (hid H O) (hid H2 O):=λb o e=>by
  obtain⟨m,h⟩:=cS e;exact bV (go b o (λz=>h (z ▸ n)) m) h
 refine⟨λb o e=>go b o (λz=>by rw[z,X]at e;cases e) (R.same b o e),R.old,R.new,λb hb z=>?_,by simp[R.len],λj s q=>?_,λj k w us b Q G D V=>?_⟩
 .by_cases e:b=d
  .subst e;rw[g]at z;cases z
  .cases VF:H b with
   |none=>exact R.dom b hb VF
   |some o=>rw[go b o e VF]at z;cases z
 .rcases bu q with ⟨T,c⟩ |⟨A,c⟩
  .subst T;cases c;exact⟨.ref a,Y,L,kv,rfl,n,x,go _ _ (λz=>by rw[z,y]at p;cases p) p,g,r⟩
  .obtain⟨I,U,f⟩:=R.at_ j s c;refine⟨I,U,?_⟩;cases s with
   |val u=>exact Rp.same t f
   |own w=>
    obtain⟨b,us,m,h,J,l,W⟩:=f;exact⟨b,us,m,h,J,go _ _ (λz=>by rw[z,y]at l;cases l) l,W.same t⟩
   |pin z u=>exact⟨f.1,Rp.same t f.2⟩
   |dsk w2 C2 a2 d2 Z=>exact absurd (B _ _ c rfl).symm A
   |raw v0 N ds=>exact absurd (B _ _ c rfl).symm A
 .have S:ps[j]?=some (some (.own w)):=by
   rcases bu Q with ⟨_,e⟩ |⟨_,z⟩
   .cases e
   .exact z
  have F:ps[k]?=some (some (.own us)):=by
   rcases bu G with ⟨_,e⟩ |⟨_,z⟩
   .cases e
   .exact z
  exact R.inj j k _ _ b S F D V
theorem zo(E:ps[i]?=some (some (.dsk w C a d kvs)))(L:Cls X.K C)(S:pD X.K C m f)(F:bL X.prog X.w X.K X.mg X.base CX k f fd pn (spD X.K false C Va))(J:bQ k X.A)(c:b7 X.K fd pn [])(D:bO CX X E0)(G:EvA X H0 O0 ps (e::es) us)(h:Va d kvs us (.val u))
  (We:autoParam ((m==("lands":Str))=false) x4) (hN:autoParam (X.N[i]?=some x) z0) (hv:autoParam (Vis X.env.scope x) k6) (hd:autoParam ((x==("__debug__":Str))=false) x4) (Vq:autoParam ((x==("__classdict__":Str))=false) x4)
  (Vp:autoParam (IY (e::es) X.env=(false,K0 e X.env)::IY es X.env) z0) (Vk:autoParam ((Kv U4 (IY es X.env)).any (·.1)=false) z0)
  (ht:autoParam (K0 (.Call (.Attribute (.Name x p) m U7) (e::es) [] U4) X.env=(do
   let ov <-K0 (.Name x p) X.env
   PY U7.atName
   let (f,first) <-OX [ov] (N6 ov m pl)
   P4 U4 f first (Kv U4 (IY (e::es) X.env)) (MU U4 (Ld [] X.env)))) z0):
  Ev X H0 O0 ps (.Call (.Attribute (.Name x p) m U7) (e::es) [] U4) u:=
 PE.mono (pW (c0 hN hv hd Vq) L S F J c .nil D G Vp Vk ht) λY H Q t=>by
  obtain⟨O,R,q⟩:=t;obtain⟨v,P,g,n,rfl,I,W,l,T,o⟩:=R.at_ i _ E;refine⟨_,P,a,g,_,rfl,l,by rw[Lw,We];rfl,O,R,λj M s r=>?_⟩
  have sub:∀b∈d::O,b∈O:=λb c=>by
   rcases IT.mp c with y |y
   .subst y;exact I
   .exact y
  show spD X.K false C Va (V.ref a::(j++[])) M Q E0;rw[Km];exact⟨a,g,d,n,kvs,j,us,O,.val u,rfl,s _ _ l,s _ _ T,(R.go s).dom,nofun,(o.same (aJ s)).same (aF sub),r.same (aF sub),h,λv z U B=>q v z (s.trans U) (B.same (aF λb c=>IS _ c))⟩
def EvK(X:Cx)(H0:Hp)(O0:List Jt)(ps:PSt)(e:Expr)(u:U)(d:PSt):Prop:=
 PE X e λb H Q=>∃O,Rs X.K H0 O0 ps b H O/\∀v a c,Rs X.K H0 O0 d b a c->Rp X.K (hid a c) v u->Q v a
theorem Ah(l:ps[i]?=some (some (.dsk true C a d kvs)))(W:Cls X.K C)(hm:pD X.K C m f)(F:bL X.prog X.w X.K X.mg X.base CX k f fd pn (spD X.K true C Va))(U:bQ k X.A)(c:b7 X.K fd pn [])(J:bO CX X E0)(T:EvA X H0 O0 ps (e::es) us)(h:Va d kvs us (.dsk d u U6))
  (h1:autoParam (A8 ps i=true) z0) (We:autoParam ((m==("lands":Str))=false) x4) (hN:autoParam (X.N[i]?=some x) z0) (hv:autoParam (Vis X.env.scope x) k6) (hd:autoParam ((x==("__debug__":Str))=false) x4) (Vq:autoParam ((x==("__classdict__":Str))=false) x4)
  (Vp:autoParam (IY (e::es) X.env=(false,K0 e X.env)::IY es X.env) z0) (Vk:autoParam ((Kv U4 (IY es X.env)).any (·.1)=false) z0)
  (ht:autoParam (K0 (.Call (.Attribute (.Name x p) m U7) (e::es) [] U4) X.env=(do
   let ov <-K0 (.Name x p) X.env
   PY U7.atName
   let (f,first) <-OX [ov] (N6 ov m pl)
   P4 U4 f first (Kv U4 (IY (e::es) X.env)) (MU U4 (Ld [] X.env)))) z0):
  EvK X H0 O0 ps (.Call (.Attribute (.Name x p) m U7) (e::es) [] U4) u (ps.set i (some (.dsk true C a d U6))):=
 PE.mono (pW (c0 hN hv hd Vq) W hm F U c .nil J T Vp Vk ht) λσ H Q E=>by
  obtain⟨O,R,q⟩:=E;obtain⟨v,g1,j,B,rfl,L,g4,o,P,D⟩:=R.at_ i _ l;refine⟨_,g1,a,j,_,rfl,o,by rw[Lw,We];rfl,O,R,λt Y s r=>?_⟩;have S:d ∉ O.filter (λb=>decide (b≠d)):=λz=>by have:=(JS.mp z).2;simp at this
  have sub:∀b∈d::O.filter (λb=>decide (b≠d)),b∈O:=λb c=>by
   rcases IT.mp c with y |y
   .subst y;exact L
   .exact (JS.mp y).1
  have n:∀b∈O,b∈d::O.filter (λb=>decide (b≠d)):=λb c=>by
   by_cases e:b=d
   .subst e;exact IW
   .exact IS _ (JS.mpr ⟨c,decide_eq_true e⟩)
  show spD X.K true C Va (V.ref a::(t++[])) Y Q E0;rw[Km];refine⟨a,j,d,B,kvs,t,us,O.filter (λb=>decide (b≠d)),.dsk d u U6,rfl,s _ _ o,s _ _ P,λb c=>(R.go s).dom b (JS.mp c).1,λ_=>S,(D.same (aJ s)).same (aF sub),r.same (aF sub),h,λv Z G s2 g I M=>?_⟩;exact q v G O ((R.go s).dsk2 l (lu h1) s2 g (I.same (aF n))) (M.same (aF n))
theorem wA(n:ps1[i]?=some (some (.dsk w C a d kvs)))(p:EvK X H0 O0 ps e u ps1)(h:D.rt (.dsk d u kvs)):W1 X H0 O0 E (.Return (some e) U4) D ps:=
 PS.mono (iS p) λx A H ⟨L,O,R⟩=>⟨O,R,λv o k f r=>by
  obtain⟨z,B,s,g,rfl,l,q,t,m,j⟩:=f.at_ i _ n
  have c:∀b∈d::O0,b∈k:=λb hb=>by
   rcases IT.mp hb with y |y
   .subst y;exact l
   .exact f.old b y
  exact L.rt _ h v g o f.same m (j.same (aF c)) (r.same (aF c))⟩
end
noncomputable def spI(C:Jt):Sp:=λc H Q _=>∃a b,c=[.ref a]∧H a=some (.ins C b [])∧∀d,H d=none→Q .non (upd (upd H d (.dK [])) a (.ins C b [("lands",.ref d)]))
section
variable {P:Jr}{w:J5}{K:IR}{mg:Str→Option Je}{base:Ma}{N:List Str}{U8 nm sf:Str}{C:Jt}{p1 p2 p3 p4:Pos}
theorem CP{st:LS}(F:Fun K nm U8 st f fd)(S:aq N pn (ah st))(o:N[0]?=some sf)(e:pn.length=1)(c:b9 st=[.Assign [.Attribute (.Name sf p1) "lands" p2] (.Dict [] [] p3) p4])(n:Cls K C)(j:gm K C "lands")
  (hv:(ah st).names.lookup sf=some .local) (hd:autoParam ((sf==("__debug__":Str))=false) x4) (Vq:autoParam ((sf==("__classdict__":Str))=false) x4):bL P w K mg base (CXF P w) (k+1) f fd pn (spI C):=by
 refine F.okF S (λm H Q E h=>?_) λl A b s H m Q E p h=>?_
 .obtain⟨a,g,rfl,_⟩:=h;rw[e];rfl
 .obtain⟨a,g,rfl,ha,q⟩:=h;rw[c];refine⟨_,Ds (Fs (c0 o (.inl hv) hd Vq) mw rfl),?_⟩;intro d i;refine⟨.ref a,rfl,a,C,g,[],rfl,?_,n,j,by decide,q d i⟩;rw[aC λz=>by rw[z,i]at ha;cases ha];exact ha
end
section
variable {X:Cx}{H0:Hp}{O0:List Jt}{E:XK}{ps:PSt}{D:PD}{e:Expr}{es:List Expr}{U4 p U7:Pos}{u:U}{us:List U}{xs:List U}{x m:Str}{w:Bool}{C C' a d:Jt}{kvs:List (Str×U)}{i k:Nat}{fd:LO}{CX:CXT}
theorem AO(B:ps[i]?=some (some (.dsk w C a d kvs)))(J:Cls X.K C)(P:pD X.K C m f)(F:bL X.prog X.w X.K X.mg X.base CX k f fd pn (spD X.K false C Va))(I:bQ k X.A)(c:b7 X.K fd pn [])(z:bO CX X E)(D:EvA X H0 O0 ps (e::es) us)(h:Va d kvs us (.exc C'))
  (We:autoParam ((m==("lands":Str))=false) x4) (hN:autoParam (X.N[i]?=some x) z0) (hv:autoParam (Vis X.env.scope x) k6) (hd:autoParam ((x==("__debug__":Str))=false) x4) (Vq:autoParam ((x==("__classdict__":Str))=false) x4)
  (Vp:autoParam (IY (e::es) X.env=(false,K0 e X.env)::IY es X.env) z0) (Vk:autoParam ((Kv U4 (IY es X.env)).any (·.1)=false) z0)
  (ht:autoParam (K0 (.Call (.Attribute (.Name x p) m U7) (e::es) [] U4) X.env=(do
   let ov <-K0 (.Name x p) X.env
   PY U7.atName
   let (f,first) <-OX [ov] (N6 ov m pl)
   P4 U4 f first (Kv U4 (IY (e::es) X.env)) (MU U4 (Ld [] X.env)))) z0):
  Xv X H0 O0 E ps (.Call (.Attribute (.Name x p) m U7) (e::es) [] U4) C':=
 PE.mono (pW (pl:=pl) (c0 hN hv hd Vq) J P F I c .nil z D Vp Vk ht) λW H Q t=>by
  obtain⟨O,R,q⟩:=t;obtain⟨v,M,g,n,rfl,G,U,l,S,o⟩:=R.at_ i _ B;refine⟨_,M,a,g,_,rfl,l,by rw[Lw,We];rfl,O,R,λj L s r=>?_⟩
  have sub:∀b∈d::O,b∈O:=λb c=>by
   rcases IT.mp c with y |y
   .subst y;exact G
   .exact y
  show spD X.K false C Va (V.ref a::(j++[])) L Q E;rw[Km];exact⟨a,g,d,n,kvs,j,us,O,.exc C',rfl,s _ _ l,s _ _ S,(R.go s).dom,nofun,(o.same (aJ s)).same (aF sub),r.same (aF sub),h,λu T=>q u (s.trans T)⟩
end
def rY(X:Cx)(d:Jt)(vs:List (Str×Je)):Prop:=(d==Mb)=false/\∀h:Ma,X.K.In h->h.DictOf (strKind X.prog X.w) d vs
section
variable {X:Cx}{H0:Hp}{O0:List Jt}{ps:PSt}{e i:Expr}{U4 p:Pos}{u:U}{n nm t:Str}{d:Jt}{vs:List (Str×Je)}{tk:Tok}{ty:TE}
theorem Em{t:Tok}:(strKind X.prog X.w).is x (.str x t)=true:=by show PX x (.str x t)=true;simp[PX]
theorem DE(f:rY X d vs)(r:Gl X nm)(u:X.mg nm=some (.ref d))(w:PE X i ty)(hs:ux i)(m:autoParam ((nm==("__debug__":Str))=false) x4):PE X (.Subscript (.Name nm p) i U4) λc H Q=>ty c H λy a=>∃n v e,y=.str n∧OJ vs n=some e∧aS v e∧Q v a:=by
 intro x s c H Q I h;refine wg Pr.lookup hs (gi I r u (thn (w x s c H _ I h) λz A o=>?_) m);obtain⟨y,a,b,q,n,v,e,g,l,j,k⟩:=o;subst g;obtain⟨t,rfl⟩:=q;exact⟨(f.2 _ b.kIn).typeIs,SK Em (f.2 _ b.kIn).mapOf l ⟨v,a,b.tok _,j,k⟩⟩
theorem Dx(e:rY X d vs)(l:Gl X nm)(m:X.mg nm=some (.ref d))(o:PE X i ty)(g:autoParam ((nm==("__debug__":Str))=false) x4):PC X .NotIn i (.Name nm p) λc H Q=>ty c H λy a=>∃n,y=.str n∧Q (.bl (!(OJ vs n).isSome)) a:=by
 intro q s c H Q I h;refine thn (o q s c H _ I h) λr u ⟨y,a,b,k,n,f,j⟩=>gi b l m ?_ g;subst f;obtain⟨t,rfl⟩:=k;exact TX Em e.1 (e.2 _ b.kIn).mapOf ⟨.bl _,a,b.tok _,rfl,j⟩
theorem FO(i:rY X d vs)(f:Gl X nm)(c:X.mg nm=some (.ref d))(b:Ev X H0 O0 ps e (.str n))(h:OJ vs n=some (.str t tk))(hs:ux e:=by intro _ _;rfl)(g:autoParam ((nm==("__debug__":Str))=false) x4):Ev X H0 O0 ps (.Subscript (.Name nm p) e U4) (.str t):=
 PE.mono (DE i f c b hs g) λj H Q ⟨O,R,q⟩=>⟨O,R,λv a s r=>by
  cases r;exact⟨n,.str t,_,rfl,h,⟨tk,rfl⟩,q _ a s (.str t)⟩⟩
theorem Gj(i:rY X d vs)(g:Gl X nm)(c:X.mg nm=some (.ref d))(b:Ev X H0 O0 ps e (.str n))(h:autoParam ((nm==("__debug__":Str))=false) x4)(f:Lm .NotIn (.Name nm p)=false:=by first |exact iM _ |with_unfolding_all rfl):Tt X H0 O0 ps (.Compare e [.NotIn] [.Name nm p] U4) (!(OJ vs n).isSome):=
 PT.mono (pG (Dx i g c b h) f) λj H Q ⟨O,R,q⟩=>⟨O,R,λv a s r=>by
  cases r;exact⟨n,rfl,_,rfl,q a s⟩⟩
end
theorem Et:OpS X (Kc .LtE) (.str x) (.str y) (.bl (!decide (y.cps.toList<x.cps.toList))):=by
 intro i s g H v w p q Q I e a h;obtain⟨d,b,c⟩:=h;cases d;cases b;obtain⟨t,rfl⟩:=e;obtain⟨f,rfl⟩:=a;exact PySem.P.le_str ⟨.bl _,H,I,rfl,c⟩
section
variable {X:Cx}{H0:Hp}{O0:List Jt}{ps:PSt}{a:Expr}{x:Str}{U7 U5:Pos}
theorem wZ:MtR X "str.split" (λv f H Q=>∃x,v=.str x∧f=[]∧x.length≤sizeLine∧(Builtin.Str.spaceWords x (x.length+1)).length≤sizeLine∧∀p,H p=none→Q (.ref p) (upd H p (.lst ((Txt.words x).map V.str)))):=by
 intro r s m H v f u A Q I y i h;obtain⟨x,rfl,rfl,n,c,q⟩:=h;obtain⟨t,rfl⟩:=y;cases i;have j:=I.hok.fresh (IV s.heap.objs.size)
 have len:(Txt.words x).length<=sizeLine:=by
  unfold Txt.words;split
  .exact show 1<=sizeLine by decide
  .unfold wordsOf;rw[IM];exact c
 have a:∀l g,l.map (·.1)=Txt.words x→EP X r m Q (.ref s.heap.objs.size) {s with heap:=s.heap.push {cls:=.type "list",data:=.seq (QV l).toArray },toks:=g }:=λl g k=>
  ⟨.ref s.heap.objs.size,_,I.laid (λb o z=>IU _ z) (IV _) (show cH X.prog X.w _ _ _ (.lst ((Txt.words x).map V.str)) from ⟨by rw[IM];exact len,QV l,_,by rw[<-k];exact kc l,Jm s.heap rfl⟩),rfl,q _ j⟩
 refine Oi Ly rfl MZ (PySem.F.args_str_split_1 ..) (meets_str_split_space x t n c) ?_;by_cases d:(Builtin.Str.spaceWords x (x.length+1)==[(0,x.length)])=true
 .rw[if_pos d];exact a [(x,t)] s.toks (if_pos d).symm
 .rw[if_neg d];have e:Txt.words x=wordsOf x:=if_neg d;rw[<-e,strsFrom_eq];exact a (numbered s.toks (Txt.words x)) _ (TV _ _)
theorem sD(h:Ev X H0 O0 ps a (.str x))(e:x.length≤sizeLine)(b:(Builtin.Str.spaceWords x (x.length+1)).length≤sizeLine)(f:autoParam (KW a "split" X.env (K0 a X.env)=K0 a X.env) z0)(g:autoParam ((U7.endLine==U5.line)=true) z0):
  EvN X H0 O0 ps (.Call (.Attribute a "split" U7) [] [] U5) ((Txt.words x).map U.str):=
 PE.mono (Ay M9 Ly Qu wZ h f g) λk H Q ⟨O,R,q⟩=>⟨O,R,λv j d i=>by
  cases i;exact⟨rfl,x,rfl,rfl,e,b,λp c=>q p _ _ (d.trans (aQ c _)) (d.free c) aA (lY _)⟩⟩
end
noncomputable def Ih(K:IR)(d c:Jt):It:=
 ⟨λi H=>∃a b x y,SqL K H d a/\SqL K H c b/\a[i]?=some x/\b[i]?=some y,
  λi H u e=>∃p x y,u=.ref p/\H p=none/\e=upd H p (.tup [x,y])/\(∀a,SqL K H d a->a[i]?=some x)/\(∀b,SqL K H c b->b[i]?=some y),
  λi H=>∃a b,SqL K H d a/\SqL K H c b/\a.length<=i⟩
theorem CB{P:Jr}{w:J5}{K:IR}{es:List Expr}{ctx U4}(z B A u C l1 S:Jt)(D:SU z B A u C l1 S):
  wL P w K (.Tuple es ctx U4) (Ih K l1 S) [z,B,A,u,C] z (λi h=>IsZip h z B A .none/\Ub h B (.ref u) (.ref C)/\(∃a b,Ub h A a b)/\h.IsListIter u l1 i/\h.IsListIter C S i) where
 mem:=by simp
 obj:=λi h j b hb=>by
  obtain⟨g,m,⟨a,c,p⟩,t,r⟩:=j
  have J:∀{G l k},h.IsListIter G l k->∃o,h.get? G=some o/\∀v,o.data≠.cell v:=λq=>by
   obtain⟨o,e,_,d⟩:=q;exact⟨o,e,λv z=>by rw[d]at z;cases z⟩
  simp only[IT,KB,or_false]at hb;rcases hb with e |e |e |e |e <;>subst e
  .exact⟨_,g,λv z=>by cases z⟩
  .exact⟨_,m,λv z=>by cases z⟩
  .exact⟨_,p,λv z=>by cases z⟩
  .exact J t
  .exact J r
 keep:=λi h h' j k=>by
  obtain⟨g,m,⟨a,c,p⟩,t,r⟩:=j;exact⟨k z (by simp) _ g,k B (by simp) _ m,⟨a,c,k A (by simp) _ p⟩,t.at λo e=>k u (by simp) o e,r.at λo e=>k C (by simp) o e⟩
 item:=by
  intro X T V R hc i U_ s σ H E I Q j W;subst T V R;obtain⟨g,m,⟨a,b,p⟩,t,r⟩:=j;obtain⟨xs,ys,x,y,O,L,Z,e2⟩:=W;obtain⟨n1,r1,p1,_⟩:=I.list O;obtain⟨n2,r2,Y,_⟩:=I.list L;obtain⟨u1,k1,t1⟩:=r1.get Z;obtain⟨u2,k2,t2⟩:=r2.get e2;refine QO D g m p t r p1.isList Y.isList (by simpa using k1) (by simpa using k2) λh' a1 a2 a3 a4 a5 a6 N=>?_;refine⟨_,rfl,?_⟩;refine wpAny_letOwnedTupleGo_zip a1 λhN b1 U=>?_;have nz:=Mt (Jc g);have tri:=(U.2 _ nz).trans a5;have fresh:=I.hok.fresh (IV _)
  have nf:s.heap.objs.size ∉ [z,B,A,u,C]:=λhb=>by
   have f:∀{d o},s.heap.get? d=some o->s.heap.objs.size≠d:=λe=>Mt (Jc e);have J:∀{G l k},s.heap.IsListIter G l k->s.heap.objs.size≠G:=λq=>by obtain⟨o,e,_⟩:=q;exact f e
   simp only[IT,KB,or_false]at hb;rcases hb with e |e |e |e |e
   .exact f g e
   .exact f m e
   .exact f p e
   .exact J t e
   .exact J r e
  refine⟨.ref s.heap.objs.size,upd H s.heap.objs.size (.tup [x,y]),v5 (s:=s) I Q (λd o F e=>?_) (IV _) ⟨by show 2<=sizeLine;decide,[u1,u2],.cons t1 (.cons t2 .nil),⟨_,tri,rfl,_,rfl⟩⟩,rfl,
   ⟨_,x,y,rfl,fresh,rfl,λzs q=>by rw[I.list_inj q O];exact Z,λzs q=>by rw[I.list_inj q L];exact e2⟩,?_,λd F=>?_⟩
  .simp only[IT,KB,or_false,not_or]at F;obtain⟨d1,d2,d3,d4,d5⟩:=F;exact (U.2 d d1).trans (N d o d1 d3 d4 d5 e)
  .have M:∀d o,d≠z->h'.get? d=some o->hN.get? d=some o:=λd o n e=>(U.2 d n).trans e;exact⟨b1,M _ _ D.TIz (N _ _ D.TIz D.TITO D.TIi1 D.TIi2 m),⟨_,_,M _ _ D.TOz a2⟩,a3.at λo e=>M _ o D.i1z e,a4.at λo e=>M _ o D.i2z e⟩
  .rw[aC λe=>nf (by rw[<-e];exact F)];exact (Q d F).1
 done:=by
  intro X T V R hc i U_ s σ H E I Q j W;subst T V R;obtain⟨g,m,⟨a,b,p⟩,t,r⟩:=j;obtain⟨xs,ys,O,L,hl⟩:=W;obtain⟨n1,r1,p1,_⟩:=I.list O;obtain⟨n2,r2,Y,_⟩:=I.list L;have Z:=r1.length;refine OQ (I.ok.hd hc) D g m p t r p1.isList Y.isList (.inl (by simp;lia)) λh' N=>⟨rfl,vv I Q λd o F e=>?_⟩
  exact N d o (by simp_all) (by simp_all) (by simp_all) (by simp_all) e
 self:=λ_ _ _ _ _ j h=>Qi j.1 h
section
variable {X:Cx}{H0:Hp}{O0:List Jt}{E:XK}{ps:PSt}{D:PD}{Vh:List LS}{e f g tg iter:Expr}{es:List Expr}{p U4:Pos}{x y z:U}{xs ys zs us:List U}
noncomputable def fK:List U->List U->List U
 |x::xs,y::ys=>.tup [x,y]::fK xs ys
 |_,_=>[]
theorem oN:∀{xs ys},xs.length=ys.length->(fK xs ys).length=xs.length
 |[],_,_=>by simp[fK]
 |_::xs,_::ys,h1=>by simp only[fK,Ji]at *;rw[oN (by lia)]
theorem rJ:∀{xs ys}{i:Nat}{a b},xs[i]?=some a->ys[i]?=some b->(fK xs ys)[i]?=some (.tup [a,b])
 |_::xs,_::ys,0,a,b,h1,h2=>by simp at h1 h2;simp[fK,h1,h2]
 |_::xs,_::ys,i+1,a,b,h1,h2=>by rw[KA]at h1 h2;rw[fK,KA];exact rJ h1 h2
theorem t_{ctx tpos}(hg:Gl X "zip")(hm:X.mg "zip"=none)(ha:Ev X H0 O0 ps e x)(Z:x=.lst xs∨x=.scr xs)(hb:Ev X H0 O0 ps f y)(hy:y=.lst ys∨y=.scr ys)
  (l12:xs.length=ys.length) (he:IY [e,f] X.env=(false,K0 e X.env)::IY [f] X.env) (hf:IY [f] X.env=(false,K0 f X.env)::IY [] X.env):
  EvZ X H0 O0 ps (.Tuple es ctx tpos) (.Call (.Name "zip" p) [e,f] [] U4) (fK xs ys):=by
 rintro U_ s σ H Q I ⟨O,R,q⟩;refine Kn (de I hg hm tE ?_)
 refine callWith_type1 (thn (a9 ha (a9 hb cC hf) he U4 U_ s σ H (λT k=>∃v u,T=[v,u]/\aP H k/\Rp X.K (hid k O) v x/\Rp X.K (hid k O) u y) I
  ⟨O,R,λv k c r1=>⟨O,R.go c,λu A j r2=>⟨v,u,rfl,c.trans j,r1.same (aJ j),r2⟩⟩⟩) λus c WM=>?_) he (by rw[hf];rfl)
 obtain⟨T,k,n,rv,v,u,rfl,sm,E,F⟩:=WM;obtain⟨w1,w2,rfl,J,B⟩:=i_ rv;obtain⟨a,w,rfl,g,l⟩:=wG E Z;obtain⟨b,z,rfl,h,r⟩:=wG F hy;cases J;cases B;obtain⟨ia,ra,m,hz1⟩:=n.list (aH.seq g);obtain⟨ib,rb,t,hz2⟩:=n.list (aH.seq h);have l1:=l.len;have l2:=r.len;have al:@LT.lt Nat instLTNat a c.heap.objs.size:=by obtain⟨o,G,_⟩:=m.isList;exact Jc G
 have bl:@LT.lt Nat instLTNat b c.heap.objs.size:=by obtain⟨o,G,_⟩:=t.isList;exact Jc G
 refine call_zip_2 m.isList t.isList λh' U g2 g3 g4 g5 g7 g8=>?_;have D:SU (c.heap.objs.size+4) (c.heap.objs.size+2) (c.heap.objs.size+3) c.heap.objs.size (c.heap.objs.size+1) a b:=by constructor <;>exact GD (by lia)
 refine Qi U ?_;have I2:=n.kept (t':=c.toks) g8;refine⟨c.heap.objs.size+4,_,_,_,k,rfl,I2,CB _ _ _ _ _ a b D,⟨U,g2,⟨_,_,g3⟩,g4,g5⟩,λd W=>?_,q _ k sm λA j=>?_⟩
 .have V:c.heap.objs.size<=d:=by
   simp only[IT,KB,or_false]at W;rcases W with e |e |e |e |e <;>rw[e] <;>first |exact JI _ _ |exact IV _
  exact n.fpOk V (n.hok.fresh V)
 .rw[oN l12];refine⟨λi hi=>?_,⟨w,z,j.seq g,j.seq h,by lia⟩⟩;have h1:i<w.length:=by lia
  have h2:i<z.length:=by lia
  refine⟨⟨w,z,w[i],z[i],j.seq g,j.seq h,IQ h1,IQ h2⟩,?_⟩;rintro _ H3 ⟨N,L,C,rfl,nn,rfl,e1,e2⟩;have M:aP A (upd A N (.tup [L,C])):=aQ nn _;have P:xs[i]?=some (xs[i]'(by lia)):=IQ (by lia);have S:ys[i]?=some (ys[i]'(by lia)):=IQ (by lia);refine⟨M,_,rJ P S,λO2 hO Y=>?_⟩
  have all:Rps X.K (hid (upd A N (.tup [L,C])) O2) [L,C] [_,_]:=
   .cons ((l.at_ i _ _ (e1 _ (j.seq g)) P).same (Y.trans (aJ M))) (.cons ((r.at_ i _ _ (e2 _ (j.seq h)) S).same (Y.trans (aJ M))) .nil)
  exact .tup (SqT.of (bV aA λhp=>hO N hp nn)) all.len all.at_
end
noncomputable def Gr(a:Params)(e:Str×Tok×Str×Tok):DictEntry:={hash:=PyData.keyHash a e.1,key:=.str e.1 e.2.1,val:=.str e.2.2.1 e.2.2.2 }
def wS(w:J5)(K:IR)(d:Jt)(vs:List (Str×Str)):Prop:=
 (d==Mb)=false∧∃(a:List (Str×Tok×Str×Tok)) (n:Nat),vs=a.map (λe=>(e.1,e.2.2.1))∧(vs.map (·.1)).Nodup∧K.lookup d=some ⟨.type "dict",none,.dict (a.map (Gr w.params)).toArray n,#[]⟩
noncomputable def fT(vs:List (Str×Str))(x:Str):Option Str:=(vs.find? λa=>decide (a.1=x)).map (·.2)
section
variable {X:Cx}{H0:Hp}{O0:List Jt}{ps:PSt}{e:Expr}{U4 p:Pos}{n nm t:Str}{d:Jt}{vs:List (Str×Str)}
theorem nj:∀a:List (Str×Tok×Str×Tok),Pairs (strKind prog w) (a.map (Gr w.params)) (a.map λe=>(e.1,Rw e.2.2.1 e.2.2.2))
 |[]=>Pairs.nil
 |e::r=>Pairs.cons (strKind_is prog w e.1 e.2.1) rfl (nj r)
theorem wS.dict(h:wS X.w X.K d vs):∃c,rY X d c/\∀x,(∀t,fT vs x=some t->∃k,OJ c x=some (.str t k))/\(OJ c x).isSome=(fT vs x).isSome:=by
 obtain⟨j,a,m,rfl,nd,f⟩:=h;refine⟨a.map λe=>(e.1,Rw e.2.2.1 e.2.2.2),⟨j,λh b=>?_⟩,λx=>?_⟩
 .refine Heap.dictOf_iff.mpr ⟨_,b _ _ f,(a.map (Gr X.w.params)).toArray,m,⟨rfl,rfl,rfl⟩,rfl,λe i=>?_,nj a,by rw[JP]at nd |-;exact nd⟩;obtain⟨q,_,rfl⟩:=Jb.mp (List.mem_toArray.mp i);exact⟨q.1,strKind_is _ _ q.1 q.2.1,rfl⟩
 .clear nd f
  induction a with
  |nil=>exact⟨λt h=>(by simp[fT]at h),rfl⟩
  |cons e r g=>
   unfold OJ fT at *;rw[JF,JF,LL,LL];by_cases z:e.1=x
   .simp only[z,decide_true];exact⟨λt h=>⟨e.2.2.2,by simp at h;simp[h]⟩,rfl⟩
   .simp only[z,decide_false];exact g
theorem DT(h:wS X.w X.K d vs)(f:Gl X nm)(c:X.mg nm=some (.ref d))(b:Ev X H0 O0 ps e (.str n))(i:fT vs n=some t)(hs:ux e:=by intro _ _;rfl)(g:autoParam ((nm==("__debug__":Str))=false) x4):Ev X H0 O0 ps (.Subscript (.Name nm p) e U4) (.str t):=by
 obtain⟨k,j,q⟩:=h.dict;obtain⟨l,a⟩:=(q n).1 t i;exact FO j f c b a hs g
theorem AS(h:wS X.w X.K d vs)(f:Gl X nm)(b:X.mg nm=some (.ref d))(a:Ev X H0 O0 ps e (.str n))(g:autoParam ((nm==("__debug__":Str))=false) x4)(c:Lm .NotIn (.Name nm p)=false:=by first |exact iM _ |with_unfolding_all rfl):Tt X H0 O0 ps (.Compare e [.NotIn] [.Name nm p] U4) (!(fT vs n).isSome):=by
 obtain⟨j,i,q⟩:=h.dict;rw[<-(q n).2];exact Gj i f b a g c
end
theorem BH(r:OpS X (Kc op) x y (.bl k))(o:OpS X (Kc op') y z (.bl m))(n:Ev X H0 O0 ps a x)(i:Ev X H0 O0 ps b y)(p:Ev X H0 O0 ps c z)
  (hm:lastMarks [op,op'] [b,c]=false:=by with_unfolding_all rfl):Tt X H0 O0 ps (.Compare a [op,op'] [b,c] U4) (k && m):=
 PT.mono (AM r o n i p hm) λA H Q ⟨O,R,q⟩=>⟨O,R,λv u d s=>⟨O,R.go d,λw h e f=>⟨(s.same (aJ e)).out,f.out,k,rfl,by
  cases k with
  |false=>exact qu ⟨_,rfl,q h (d.trans e)⟩
  |true=>exact pU ⟨O,(R.go d).go e,λt l g j=>⟨(f.same (aJ g)).out,j.out,_,rfl,q l ((d.trans e).trans g)⟩⟩⟩⟩⟩
end L2
namespace L2
open PySem PySem.Spec PySem.W PyProof.Rows
structure Dfn(K:IR)(mg:Str->Option Je)(x:Str)(st:LS)(ps:List Str) where
 a:Jt
 d:LO
 F:Fun K x x st a d
 b:b7 K d ps []
 m:mg x=some (.ref a)
structure MDf(K:IR)(C:Jt)(x q:Str)(st:LS)(ps:List Str) where
 a:Jt
 d:LO
 F:Fun K x q st a d
 b:b7 K d ps []
 m:pD K C x a
structure IDf(K:IR)(C:Jt)(x q:Str)(st:LS)(ps:List Str) where
 a:Jt
 d:LO
 F:Fun K x q st a d
 b:b7 K d ps []
 m:Mk K C a
structure Exn(mg:Str->Option Je)(x:Str) where
 c:Jt
 m:mg x=some (.ref c)
abbrev tZ(x q:Str)(st:LS)(c:List Str):Prop:=∀(kV e g:Je) (f:Option Jt) (b d:Je) (a:List Je),a.length=c.length->Ot (fnOf x q (eW st) (b9 st) (ah st) .none kV e g f b d) ⟨a,[]⟩=pure (c.zip a)
section
variable {K:IR}{h:Ma}{mg:Str→Option Je}{x q:Str}{st:LS}{ps:List Str}{f C D:Jt}{j:Int}{oc:Je}{od an:Option Jt}{kV dc pm cd ct:Je}{sl:Array (Option Je)}{x1 x2 x3 t:_}
noncomputable def dfn(X:K.In h)(G:h.Ns Kz mg)(b:tZ x x st ps)(a:nsIn K Kz x=some (some (.ref f)))(l:K.lookup f=some ⟨oc,od,.func (fnOf x x (eW st) (b9 st) (ah st) .none kV dc pm an cd ct),sl⟩)(c:codeIn K cd x=true)(k:keepIn K (.ref f)=true):Dfn K mg x st ps:=⟨f,_,j6 l c k,(j6 l c k).binds b,mg_of X G a⟩
noncomputable def mdf(b:tZ x q st ps)(a:findIn K (.ref C) x=some (some (.ref f)))(l:K.lookup f=some ⟨oc,od,.func (fnOf x q (eW st) (b9 st) (ah st) .none kV dc pm an cd ct),sl⟩)(c:codeIn K cd q=true)(k:keepIn K (.ref f)=true)(n:isFn K (.ref f)=true):MDf K C x q st ps:=⟨f,_,j6 l c k,(j6 l c k).binds b,⟨a,n,k⟩⟩
noncomputable def idf(b:tZ "__init__" q st ps)(a:findIn K (.ref C) "__init__"=some (some (.ref f)))(l:K.lookup f=some ⟨oc,od,.func (fnOf "__init__" q (eW st) (b9 st) (ah st) .none kV dc pm an cd ct),sl⟩)(c:codeIn K cd q=true)(k:keepIn K (.ref f)=true)(n:isFn K (.ref f)=true)(d:makesIn K C=true)(ch:keepIn K (.ref C)=true):IDf K C "__init__" q st ps:=⟨f,_,j6 l c k,(j6 l c k).binds b,⟨d,a,n,ch⟩⟩
noncomputable def exn(X:K.In h)(G:h.Ns Kz mg)(a:nsIn K Kz x=some (some (.ref f))):Exn mg x:=⟨f,mg_of X G a⟩
theorem c_m(X:K.In h)(G:h.Ns Kz mg)(a:nsIn K Kz x=some (some (.ref f))):mg x=some (.ref f):=mg_of X G a
theorem g_i(X:K.In h)(G:h.Ns Kz mg)(a:nsIn K Kz x=some (some (.int j t))):∃t,mg x=some (.int j t):=⟨t,mg_of X G a⟩
theorem g_s(X:K.In h)(G:h.Ns Kz mg)(a:nsIn K Kz x=some (some (.str q t))):∃t,mg x=some (.str q t):=⟨t,mg_of X G a⟩
end
end L2
namespace SG
open PySem PySem.W PySem.Calls PyProof.Rows ST
noncomputable abbrev rfs{α:Type}(a:List (α×Jt)):List Je:=a.map λp=>JR p.2
structure Ky(α:Type) where
 lt:α->α->Bool
 tr:∀{a b c:α},lt a b=true->lt b c=true->lt a c=true
 tot:∀{a b:α},a≠b->lt a b=false->lt b a=true
 asy:∀{a b:α},lt a b=true->lt b a=false
 is:Jr->J5->Ma->α->Jt->Prop
 kd:Ox
 grow:∀{prog:Jr}{w:J5}{h h':Ma}{a:α}{b:Jt},is prog w h a b→(∀b o,o.cls=.type "tuple"→h.get? b=some o→h'.get? b=some o)→is prog w h' a b
 ask:∀{prog:Jr}{w:J5}{A:Kb}{E:Je->Jd->Prop}{s:Jd}{x y:Jt}{a b:α}{Q:Bool->Jd->Prop},A.units+1<Mu->is prog w s.heap a x->is prog w s.heap b y->Q (lt a b) s->JN (JE prog w) A (keyLt' kd (.ref x) (.ref y)) Q E s
 kind:∀{prog:Jr}{w:J5}{A:Kb}{E:Je->Jd->Prop}{s:Jd}{pb:List (α×Jt)}{Q:Ox->Jd->Prop},(∀p∈pb,is prog w s.heap p.1 p.2)->0<pb.length->Q kd s->JN (JE prog w) A (keyKind' (rfs pb).toArray) Q E s
section
variable {α:Type} [DecidableEq α] (S:Ky α)
noncomputable def ins(x:α):List α->List α
 |[]=>[x]
 |y::r=>if x=y then y::r else if S.lt x y=true then x::y::r else y::ins x r
noncomputable def srt(l:List α):List α:=l.foldr (ins S) []
abbrev Asc(l:List α):Prop:=l.Pairwise (λx y=>S.lt x y=true)
end
end SG
namespace ST3
open PySem PySem.W PySem.Calls PyProof.Rows ST
noncomputable abbrev PQ:=(Int×Int)×Int
section
variable {prog:Jr}{w:J5}{A:Kb}{E:Je→Jd→Prop}{s:Jd}
def TQ(prog:Jr)(w:J5)(h:Ma)(t:PQ)(b:Jt):Prop:=∃o items n a u,h.get? b=some o∧o.cls=.type "tuple"∧o.data=.seq items n∧items.toList=[.ref a,.int t.2 u]∧TK prog w h (lq t.1) a
end
noncomputable def KP:SG.Ky (Int×Int):=⟨ltP,BE,uZ,vh,λa w h p b=>TK a w h (lq p) b,UL true,λt e=>by obtain⟨o,g,n,f,c,d⟩:=t;exact⟨o,g,n,e _ _ c f,c,d⟩,λi h k q=>E_ h k q,λh k q=>Bh h k q⟩
end ST3
namespace SG
open PySem PySem.W PySem.Calls PyProof.Rows ST
noncomputable abbrev kyg{α:Type}(p:α×Jt):Kl:=(JR p.2,JR p.2)
open Classical in
noncomputable def RG {α:Type} (S:Ky α) (a:List (α×Jt)) (x y:Kl):Bool:=decide (∃p∈a,∃q∈a,x=kyg p/\y=kyg q/\S.lt p.1 q.1=true)
theorem lU{α:Type}{S:Ky α}{a:List (α×Jt)}:RG S a x y=true↔∃p∈a,∃q∈a,x=kyg p/\y=kyg q/\S.lt p.1 q.1=true:=by unfold RG;exact decide_eq_true_iff
theorem vp{α:Type}{p q:α×Jt}(h:kyg p=kyg q):p.2=q.2:=by
 have:=(Prod.mk.inj h).1;injection this
section
variable {α:Type} (S:Ky α) {prog:Jr}{w:J5}{A:Kb}{E:Je→Jd→Prop}{s:Jd}
include S
theorem sort_b{a:Jt}{pb:List (α×Jt)}{n:Nat}{P:PySem.Fin→Jd→Prop}(K:s.heap.get? a=some (SA "list" (rfs pb).toArray n))(Wf:∀p∈pb,S.is prog w s.heap p.1 p.2)(hu:A.units+1<Mu)(d0:α×Jt)(Xw:(pb.map (·.1)).Nodup)(U:pb.length≤sizeLine)(G:∀{h:Ma}{a b:α}{x:Jt},S.is prog w h a x→S.is prog w h b x→a=b)
  (h:∀V8:List (α×Jt),V8.Perm pb->(V8.map (·.1)).Pairwise (λx y=>S.lt x y=true)->P (.done (.ret .none)) {s with heap:=sortedHeap s.heap a (rfs pb) (rfs V8).toArray }):
  JN (JE prog w) A (Builtin.«list.sort» ⟨[.ref a],[]⟩) P E s:=by
 have J:(rfs pb).length=pb.length:=by simp
 have f:(rfs pb).toArray.size=pb.length:=by simp
 rw[list_sort_plain];have ha:a<s.heap.objs.size:=Jc K;refine IP (listItems_at K rfl (IP (RQ K rfl ?_ (by rw[f];exact U) (JZ _))));obtain⟨t,M⟩:∃t,(s.heap.update a (M6 λ_=>(#[]:Array Je))).get? a=some (SA "list" #[] t):=⟨_,get?_update_seq K (λ_=>#[])⟩
 refine IP (Ti M rfl (IP (TM ?_ (by show (rfs pb).length<=_;rw[J];exact U))));refine IP (RR ?_ (JZ _));refine Ko ?_;generalize hh6:((s.heap.update a (M6 λ_=>(#[]:Array Je))).push (SA "tuple" (rfs pb).toArray 0)).push (SA "list" #[] 0)=B
 have N:∀b o,b≠a->s.heap.get? b=some o->B.get? b=some o:=λb o hb e=>by
  rw[<-hh6];exact IU _ (IU _ ((KD _ _ (Ne.symm hb)).trans e))
 have m:B.get? a=some (SA "list" #[] t):=by rw[←hh6];exact IU _ (IU _ M)
 have k:∀p∈pb,S.is prog w B p.1 p.2:=λp c=>by
  refine S.grow (Wf p c) λb o hc e=>N b o (λz=>?_) e;rw[z,K]at e;cases e;exact absurd hc (by show ¬ (L_ "list"=L_ "tuple");decide)
 have H:∀V8:List (α×Jt),V8.Perm pb->(V8.map (·.1)).Pairwise (λx y=>S.lt x y=true)->P (.done (.ret .none)) {s with heap:=B.update a (M6 λ_=>(rfs V8).toArray) }:=λV8 v D=>by
  rw[<-hh6];exact h V8 v D
 show JN (JE prog w) A _ P E {s with heap:=B };dsimp only;by_cases g:(rfs pb).toArray.size<2
 .rw[if_pos g,if_pos g];refine IP (IX ?_);rw[StateT.run_pure];refine IP (IX ?_);dsimp only
  have L:(JT (SortSt.mk' general' ((rfs pb).toArray.zip (rfs pb).toArray) #[] 7 none)).map (·.2)=(rfs pb).toArray:=by
   show (((rfs pb).toArray.zip (rfs pb).toArray)).map (·.2)=_;apply NT.mp
   have O:∀l:List Je,(l.zip l).map (·.2)=l:=λl=>by
    induction l with
    |nil=>rfl
    |cons x r ih=>rw[RO,JF,ih]
   rw[Qh,SL];exact O _
  rw[L];refine IP (Ti m rfl (IP (RQ m rfl ?_ (JZ _) (by rw[f];exact Sh U))));show JN _ _ (if (t !=t)=true then _ else _) _ _ _;rw[if_neg (by simp)];refine IX (H pb (Rh _) ?_)
  match pb,f,g with
  |[],_,_=>simp
  |[_],_,_=>simp
  |_::_::r,f,g=>rw[f]at g;exact absurd g (by simp)
 .rw[if_neg g,if_neg g];rw[f]at g;have h2':2<=(rfs pb).length:=by rw[J];lia
  refine IP (S.kind (s:={s with heap:=B }) k (by lia) ?_);have one:∀p∈pb,∀q∈pb,kyg p=kyg q->p=q:=λp c q d e=>MB (G (k p c) (by rw[vp e];exact k q d)) (vp e)
  have val:∀p∈pb,∀q∈pb,RG S pb (kyg p) (kyg q)=S.lt p.1 q.1:=λp c q d=>by
   cases hl:S.lt p.1 q.1 with
   |true=>exact lU.mpr ⟨p,c,q,d,rfl,rfl,hl⟩
   |false=>
    cases F:RG S pb (kyg p) (kyg q) with
    |false=>rfl
    |true=>
     obtain⟨p',VR,q',V4,t,e2,z⟩:=lU.mp F;rw[<-one p c p' VR t,<-one q d q' V4 e2,hl]at z;cases z
  have I:TS.Asks prog w A E {s with heap:=B } (S.kd) (λx=>∃p∈pb,x=kyg p) (RG S pb):=by
   rintro x y st Q ⟨p,c,rfl⟩ ⟨q,d,rfl⟩ hk hQ;rw[lt'_eq];refine Jk (Pq ?_);rw[hk];rw[val p c q d]at hQ;refine Jk (wpS_lift (N7 (S.ask (s:={s with heap:=B }) hu (k p c) (k q d) ⟨rfl,?_⟩)))
   exact Jz hQ
  have Y:TS.Ord (λx=>∃p∈pb,x=kyg p) (RG S pb) (pb.map kyg):=by
   refine⟨λx y z h1 g=>?_,λx W y hy Z F=>?_,?_,λx W=>?_⟩
   .obtain⟨p,c,q,d,rfl,rfl,z1⟩:=lU.mp h1;obtain⟨q',V4,r,F,e,rfl,z2⟩:=lU.mp g;rw[<-one q d q' V4 e]at z2;exact lU.mpr ⟨p,c,r,F,rfl,rfl,S.tr z1 z2⟩
   .obtain⟨p,c,rfl⟩:=Jb.mp W;obtain⟨q,d,rfl⟩:=Jb.mp hy;rw[val p c q d]at F;rw[val q d p c];refine S.tot (λe=>Z ?_) F
    obtain⟨i,V,rfl⟩:=KJ c;obtain⟨j,R,rfl⟩:=KJ d;have:i=j:=(Qc (xs:=pb.map (·.1)) (h₀:=by simpa using V) (h₁:=by simpa using R) Xw).mp (by simpa using e);subst this;rfl
   .have X:pb.Nodup:=(Kg.mp Xw).imp λh e=>h (congrArg _ e);refine Kg.mpr (NZ (λc d Z e=>Z (one _ c _ d e)) X)
   .obtain⟨p,c,rfl⟩:=Jb.mp W;exact⟨p,c,rfl⟩
  have stt:TS.Stt (S.kd) (pb.map kyg) #[] (SortSt.mk' (S.kd) ((rfs pb).toArray.zip (rfs pb).toArray) #[] 7 none):=by
   refine⟨rfl,rfl,?_,rfl⟩
   have e:(JT (SortSt.mk' (S.kd) ((rfs pb).toArray.zip (rfs pb).toArray) #[] 7 none)).toList=pb.map kyg:=by
    show ((rfs pb).toArray.zip (rfs pb).toArray).toList=_;rw[SL];show (pb.map _).zip (pb.map _)=_;rw[List.zip_map']
   rw[e]
  refine IP (K2 (TS.sruns I Y (Q:=λ_ T=>OV T=none/\∃V8:List (α×Jt),V8.Perm pb/\(V8.map (·.1)).Pairwise (λx y=>S.lt x y=true)/\(JT T).map (·.2)=(rfs V8).toArray) stt λpd T S' up=>?_) ?_ λ_ _ e=>e)
  .refine⟨S'.failed,?_⟩;obtain⟨V8,v,D⟩:=HI S'.perm pb rfl;refine⟨V8,v,?_,?_⟩
   .refine Kg.mpr (Js.mpr λi j V R Vt=>?_);have lp:=v.length_eq;have u:=up i j Vt (by rw[IM];lia);rw[MD,MD,TS.gt_eq (by rw[<-D,IM];exact V),TS.gt_eq (by rw[<-D,IM];exact R)]at u
    simp only[<-D,List.getElem_map]at u;rw[val _ (v.mem_iff.mp (Ka V)) _ (v.mem_iff.mp (Ka R))]at u;exact u
   .apply NT.mp;rw[Qh,<-D,JP];rfl
  .rintro ⟨⟨⟩,T⟩ s' ⟨rfl,hf,V8,v,D,C⟩;dsimp only at hf C |-;rw[C];have hs2:(rfs V8).toArray.size=pb.length:=by simp[v.length_eq]
   refine IP (Ti m rfl (IP (RQ m rfl ?_ (JZ _) (by rw[hs2];exact Sh U))));rw[hf];show JN _ _ (if (t !=t)=true then _ else _) _ _ _;rw[if_neg (by simp)];exact IX (H _ v D)
end
end SG
namespace ST3
open PySem PySem.W PySem.Calls PyProof.Rows ST
theorem KP_det(p:KP.is prog w h a x)(q:KP.is prog w h b x):a=b:=congrArg Q7 (TK.det (p:=(a,x)) (q:=(b,x)) p q rfl)
end ST3
namespace ST
open PySem PySem.W PyProof.Rows PySem.Calls
section
variable {prog:Jr}{w:J5}{A:Kb}{E:Je→Jd→Prop}{s:Jd}
theorem call_sorted_setG(hh:A.handled=none)(hu:A.units+5<Mu)(P:SP prog w s.heap S kb)(h64:kb.length<1000)(h2:∀p∈kb,p.1.length=2)
  (h:∀(u d:Ma) v (B:PB) e,RM B (ptsOf kb)→(B.map (·.1)).Pairwise (λx y=>ltP x y=true)→(∀b o,s.heap.get? b=some o→u.get? b=some o)→(∀b o,u.get? b=some o→d.get? b=some o)→d.get? u.objs.size=some (SA "list" (refs B).toArray e)→Q (.ref u.objs.size) {s with heap:=d,toks:=v }):
  JN (JE prog w) A (call (.builtin "sorted") [.ref S]) Q E s:=by
 obtain⟨⟨o,l,n,t,ho,G,hd,Y,T,hl,hp,_,_⟩,hk,Z⟩:=P;have L:l.size=kb.length:=by rw[<-Jg,Y];simp[ents]
 have O:SO prog w o l n t (kb.map λp=>hsh prog w p.1):=⟨G,hd,T,by rw[IM,L],hl,hp⟩
 have two:∀p∈kb,p.1=[p.1.getD 0 0,p.1.getD 1 0]:=λp C=>by
  have:=h2 p C
  match V:p.1,this with
  |[x,y],_=>rfl
 refine call_function_entry kind_sorted plain_sorted entry_sorted (args_sorted1 _) ?_;unfold Builtin.«sorted»;refine IP (m:=checkCount "sorted" 1 1 _) (IX ?_);refine IP (kdu_collect (A:=A.in1) (CO O) hh ho (by rw[L,Lc];lia) λd v c keep M=>?_)
 have WT:c.toList=cO w S l n:=by
  apply NA;intro i;rcases LI i c.size with z |z
  .rw[J9,Ke z];exact (M.2 i _ (Ke z)).symm
  .rw[J_ (by simpa using z),J_];rw[(fF w S l n).length_eq,IM,Jg,<-M.1];exact z
 obtain⟨j,g,ek⟩:=Ab (λ(p:List Int×Jt)=>JR p.2) (fF w S l n) kb (by rw[Y];unfold ents;rw[JP];rfl)
 have U:c.toList=refs (ptsOf j):=by
  rw[WT,ek];unfold refs ptsOf;rw[JP];rfl
 have Wj:(ptsOf j).length=kb.length:=by unfold ptsOf;rw[IM,g.length_eq]
 have f:c.toList.length=kb.length:=by rw[U];simp[Wj]
 refine IP (RR ?_ (by rw[f,Lc];lia))
 have D:(d.push {cls:=.type "list",data:=.seq c.toList.toArray }).get? d.objs.size=some (SA "list" (refs (ptsOf j)).toArray 0):=by
  rw[<-U];exact Jm _ rfl
 have F:∀p∈ptsOf j,TK prog w (d.push {cls:=.type "list",data:=.seq c.toList.toArray }) [p.1.1,p.1.2] p.2:=λp C=>by
  obtain⟨q,V,rfl⟩:=Jb.mp C;have K:=g.mem_iff.mp V;obtain⟨oq,its,k,H,r⟩:=hk q K;have e2:=two q K;refine⟨oq,its,k,IU _ (keep _ _ H),?_⟩;rw[<-e2];exact r
 have J:((ptsOf j).map (·.1)).Nodup:=by
  have n1:(j.map (·.1)).Nodup:=((g.map (·.1)).nodup_iff).mpr Z;unfold ptsOf;rw[JP];refine Kg.mpr ((Kg.mp n1).imp_of_mem λ{a b} ha hb Xs=>?_);intro z;have R:=two a (g.mem_iff.mp ha);have eb:=two b (g.mem_iff.mp hb);have I:(a.1.getD 0 0,a.1.getD 1 0)=(b.1.getD 0 0,b.1.getD 1 0):=z;rw[OW]at I;rw[I.1,I.2]at R;exact Xs (R.trans eb.symm)
 refine IP (Ko (LU TY ⟨_,D,rfl⟩ Tj ?_ (TZ _)));refine SG.sort_b ST3.KP (s:={s with heap:=d.push {cls:=.type "list",data:=.seq c.toList.toArray },toks:=v }) D F (by show A.units+1+1+1<Mu;lia) ((0,0),0) J (by rw[Lc];lia) (λp q=>ST3.KP_det p q) λN pp so=>⟨_,rfl,IX ⟨_,rfl,?_⟩⟩
 obtain⟨e,eD⟩:=sortedHeap_at (out:=(refs N).toArray) D;refine h d _ v N e (pp.trans ?_) so keep (λb x W=>?_) eD
 .unfold ptsOf;exact g.map _
 .have X:=Jc W;rw[T3 (Jv X) (by rw[Ll];exact LA X)];exact IU _ W
end
end ST
namespace L2
open PySem PySem.Spec PyProof.Rows
section
variable {X:Cx}{H0:Hp}{O0:List Jt}{ps:PSt}{e:Expr}{pts:List P2}{U4 Vg p p':Pos}
theorem fW(hc:X.calm=true)(hu:X.A.units+10<Mu)(hg:Gl X "sorted")(hm:X.mg "sorted"=none)(hgs:Gl X "set")(hms:X.mg "set"=none)(ha:Ev X H0 O0 ps e (lp pts))(hl:pts.length<1000)
  (he:autoParam (IY [e] X.env=(false,K0 e X.env)::IY [] X.env) z0):EvN X H0 O0 ps (.Call (.Name "sorted" p) [.Call (.Name "set" p') [e] [] Vg] [] U4) ((ST.srt pts).map pu):=by
 rintro P s σ H Q I ⟨O,R,q⟩;have hh:X.A.handled=none:=I.ok.hd hc;refine Kn (de I hg hm boot_sorted ?_);refine callWith_builtin1 (e:=.Call (.Name "set" p') [e] [] Vg) (rest:=[]) ?_ rfl rfl;show JN _ _ (spliced ((false,K0 (.Call (.Name "set" p') [e] [] Vg) X.env)::Kv U4 (IY [] X.env))) _ _ s;refine Ln ?_;refine Kn (de I hgs hms zg ?_);refine callWith_type1 (thn (a9 ha cC he Vg P s σ H (λvs g=>∃v,vs=[v]/\aP H g/\Rp X.K (hid g O) v (lp pts)) I ⟨O,R,λv g B r1=>⟨v,rfl,B,r1⟩⟩) λus B hx=>?_) he rfl;obtain⟨vs,g,Y,rv,v,rfl,sm,rp⟩:=hx;obtain⟨u,rfl,ru⟩:=d8 rv;cases rp with
 | @lst a ws _ hq W hwi=>
  cases ru;obtain⟨its,VI,pl,k⟩:=Y.list (SqL.of (aH _ _ hq));have T:ws.length=pts.length:=by rw[W,IM]
  have S:its.length=pts.length:=by rw[<-VI.length,T]
  have D:∀i,i<pts.length->∃b,its[i]?=some (.ref b)/\Rp X.K (hid g O) (.ref b) (pu (pts.getD i (0,0)))/\ST.TK X.prog X.w B.heap [(pts.getD i (0,0)).1,(pts.getD i (0,0)).2] b:=λi t=>by
   have hw:ws[i]?=some ws[i]:=IQ (by lia);have hp:(pts.map pu)[i]?=some (pu (pts.getD i (0,0))):=by rw[I0,IQ t];simp[t]
   have r:=hwi i _ _ hw hp;obtain⟨u',n,L⟩:=VI.get hw;obtain⟨b,rfl,J,tb⟩:=DR Y r.out L;exact⟨b,n,J ▸ r,tb _ _⟩
  obtain⟨E,o⟩:=HM D;have Vw:its.toArray.size=pts.length:=by simp[S]
  refine ST.call_set_pts (λi=>([(pts.getD i (0,0)).1,(pts.getD i (0,0)).2],E i)) hh (by show X.A.units+1+1+1<Mu;lia) pl.isList (λi z J=>?_) (λi t=>?_) (by rw[Vw];lia) λh2 tk kb sp d keep=>?_
  .have t:i<pts.length:=by have:=aN (show its[i]?=some z by simpa using J);lia
   have:=(o i t).1;rw[show its.toArray[i]?=its[i]? by simp,this]at J
   cases J;rfl
  .exact (o i (by rw[Vw]at t;exact t)).2.2
  .rw[Vw]at d;have I2:Inv X P σ g {B with heap:=h2,toks:=tk }:=Y.kept (t':=tk) keep
   refine Mc ?_;have U:kb.length<1000:=by have:=d.len;lia
   refine ST.call_sorted_setG (s:={B with heap:=h2,toks:=tk }) hh (by show X.A.units+5<Mu;lia) sp U (λz k=>by obtain⟨j,_,rfl⟩:=d.src z k;rfl) λM h4 m C ep pm so k1 k2 hD=>?_;have I3:Inv X P σ g {B with heap:=M,toks:=m }:=I2.kept (t':=m) k1
   have G:∀z∈C,∃j,j<pts.length/\z=(pts.getD j (0,0),E j):=λz k=>by
    obtain⟨y,hy,rfl⟩:=Jb.mp (pm.mem_iff.mp k);obtain⟨j,h,rfl⟩:=d.src y hy;exact⟨j,h,rfl⟩
   have c:C.map (·.1)=ST.srt pts:=by
    refine ST.asc_one so (ST.srt_asc pts) λz=>?_;rw[ST.srt_mem];constructor
    .intro k;obtain⟨y,hy,rfl⟩:=Jb.mp k;obtain⟨j,h,rfl⟩:=G y hy;simp[h]
    .intro k;obtain⟨j,h⟩:=JL.mp k;have Z:=aN h;have hk:=d.all j Z;obtain⟨y,hy,ey⟩:=Jb.mp hk;have Ww:((y.1.getD 0 0,y.1.getD 1 0),y.2)∈ST.ptsOf kb:=Jb.mpr ⟨y,hy,rfl⟩;have F:=pm.mem_iff.mpr Ww;refine Jb.mpr ⟨_,F,?_⟩;rw[ey];have:pts.getD j (0,0)=z:=by rw[Jx,h];rfl
     show ((pts.getD j (0,0)).1,(pts.getD j (0,0)).2)=z;rw[this]
   have N:g M.objs.size=none:=I3.hok.fresh (IV _);refine⟨.ref M.objs.size,upd g M.objs.size (.lst (C.map λz=>V.ref z.2)),?_,rfl,?_⟩
   .refine I3.laid (t':=m) k2 (IV _) ⟨?_,(ST.refs C),ep,?_,hD⟩
    .rw[IM,<-IM (f:=(·.1)),c,Lc];have:=ST.srt_len pts;lia
    .have all:∀l:ST.PB,aY (l.map λz=>V.ref z.2) (ST.refs l):=λl=>by
      induction l with
      |nil=>exact .nil
      |cons z r ih=>exact .cons rfl ih
     exact all C
   .refine q _ _ _ (sm.trans (aQ N _)) (sm.free N) aA ⟨?_,λi z x n L=>?_⟩
    .rw[IM,<-c,IM,IM]
    .rw[<-c,JP,I0]at L;rw[I0]at n;cases hpi:C[i]? with
     |none=>rw[hpi]at n;cases n
     |some y=>
      rw[hpi]at n L;cases n;cases L;obtain⟨j,h,rfl⟩:=G y (Jp hpi);exact (o j h).2.1.same (bH (aQ N _) N)
theorem yL(h:n<64):n<1000:=IZ h (by decide)
end
end L2
namespace L2
open PySem PySem.Spec PySem.W PyProof.Rows
variable {es:List Expr}{kvs:List (Str×U)}{U6:List (Str×U)}
section
variable {X:Cx}{E:XK}
theorem rZ(S:X.calm=true)(J:X.stack=X.env::X.outer)(WK:X.env.frame=some X.env.locals)(z:jT X E)(i:X.ex=[])(Z:X.N.Nodup)(K:X.N[j]?=some y)(U:Loc X.env.scope y)(B:cy X scope cl is)
  (hi:PI X tg iter wi) (hg:∀C s H c,PG (aI X scope cl C s H c) tg g) (he:∀C s H c p,bO (CXF X.prog X.w) ((aI X scope cl C s H c).wish p) E->PE ((aI X scope cl C s H c).wish p) Vx te) (hs:∀x,Kf iter X.env x=pure x:=by intro _;rfl)
  (Wh:autoParam (Kw (.ListComp Vx [⟨tg,iter,[],0⟩] scope U4) (some (.Name y py)) VS.line X.env=pure true) z0) (hf:autoParam (X.fn y=true\/X.env.scope.names.lookup y=some .local) v3):
  PS X (.Assign [.Name y py] (.ListComp Vx [⟨tg,iter,[],0⟩] scope U4) VS) (Da (DW is wi g te) (oX j)):=by
 intro Y s R H D I h;rw[QJ _ _ _ _ Wh];refine IP (N4 (IP ?_));show JN _ X.A (do let _ <-RC (.ListComp Vx [⟨tg,iter,[],0⟩] scope U4) scope X.env _ (newList []) false (K0 iter X.env) (some (T9 (.Name y py) X.env))) _ _ s;refine IP (K2 (xq (Q0:=λv k=>D.nx (R.set j (some v)) k) (use:=some (T9 (.Name y py) X.env)) (Q:=λ_ d=>SP X Y D .next d) S J WK z i B hi hg he hs I h λl C k d m L F T n h3 t r V q=>?_) (λ_ d P=>IX (IX P)) λ_ _ e=>e);show JN _ X.A (T9 (.Name y py) X.env (.ref l)) _ _ _;refine Pv (ik L Z K U (v:=.ref l) rfl (λW G u=>?_) hf);obtain⟨a,M,ha⟩:=u
 have f:C≠a:=by
  rcases ha with e |e
  .rw[e];exact n
  .exact Ne.symm (r _ _ e)
 refine⟨m,F.sameBut M f,λh' O=>⟨_,k,G.turned (t':=W.toks) (λb o hb e=>O.extBut b o hb e) T n (.inr t) r V,q⟩⟩
variable {H0:Hp}{O0:List Jt}{ps:PSt}{D:PD}{iter tg Vx e e0:Expr}{U4 p U7:Pos}{u:U}{xs ys us:List U}{x m nm:Str}{w:Bool}{C C' C0 a d f:Jt}{i k:Nat}{fd:LO}{pn:List Str}{CX:CXT}{Va:Jt→List (Str×U)→List U→Out→Prop}
theorem uH{j:Nat}{f:PSt->U->PSt}(hc:X.calm=true)(VL:X.stack=X.env::X.outer)(WK:X.env.frame=some X.env.locals)(hx:jT X E)(hex:X.ex=[])(hN:X.N.Nodup)(hj:X.N[j]?=some y)(M:Loc X.env.scope y)(B:cy X scope cl is)
  (hi:EvZ X H0 O0 ps tg iter xs) (hg:∀C s H a,PG (aI X scope cl C s H a) tg g) (gk:GOk g X.K is f dom) (hk:k<xs.length) (Vd:k<=ys.length) (hz:xs.length<=sizeLine) (VO:∀x∈xs,dom x)
  (he:∀C s H a d (i:Nat) (x y:U),i<k->xs[i]?=some x->ys[i]?=some y->Ev ((aI X scope cl C s H a).wish d) H0 O0 (f (c5 is ps) x) Vx y)
  (hv:∀C s H a d (x:U),xs[k]?=some x->bO (CXF X.prog X.w) ((aI X scope cl C s H a).wish d) E->Xv ((aI X scope cl C s H a).wish d) H0 O0 E (f (c5 is ps) x) Vx C0)
  (h:D.rt (.exc C0)) (hs:∀x,Kf iter X.env x=pure x:=by intro _;rfl)
  (Wh:autoParam (Kw (.ListComp Vx [⟨tg,iter,[],0⟩] scope U4) (some (.Name y py)) VS.line X.env=pure true) z0) (hf:autoParam (X.fn y=true\/X.env.scope.names.lookup y=some .local) v3):
  W1 X H0 O0 E (.Assign [.Name y py] (.ListComp Vx [⟨tg,iter,[],0⟩] scope U4) VS) D ps:=by
 have V:∀C s H a d,bO (CXF X.prog X.w) ((aI X scope cl C s H a).wish d) E->PE ((aI X scope cl C s H a).wish d) Vx (λn H Q=>(∃i x y,i<k/\xs[i]?=some x/\ys[i]?=some y/\∃P,Rs X.K H0 O0 (f (c5 is ps) x) n H P/\∀v c,aP H c->Rp X.K (hid c P) v y->Q v c)\/∃x,xs[k]?=some x/\∃P,Rs X.K H0 O0 (f (c5 is ps) x) n H P/\∀c,aP H c->E (.ref C0) none c):=by
  intro C s H a d pa U_ S n c Q I h;rcases h with ⟨i,x,y,h1,t,Z,z⟩ |⟨x,h1,z⟩
  .exact he C s H a d i x y h1 t Z U_ S n c Q I z
  .exact hv C s H a d x h1 pa U_ S n c Q I z
 refine PS.mono (rZ hc VL WK hx hex hN hj M B hi hg V hs Wh hf) λD' n H ⟨L,O,R⟩=>⟨O,R,λJ H1 s1 Y=>?_⟩
 have R1:=R.go s1;intro l G;refine⟨λi m p=>m=xs.length-i/\i<=k/\aP H1 p/\∃o,p l=some (.lst o)/\o.length=i/\Rps X.K (hid p (l::O)) o (ys.take i),⟨_,rfl,JZ _,aQ G _,[],aA,rfl,by rw[NO];exact .nil⟩,?_⟩;rintro i m p ⟨rfl,hi,F,o,t,hv,rs⟩;have seen:aP (hid H1 O) (hid p (l::O)):=bH F G;obtain⟨y1,y2⟩:=Y p (seen.trans aH);obtain⟨g1,g2⟩:=y1 i (by lia);refine .inr ⟨g1,λx H3 y=>?_⟩;obtain⟨q,u,T,r⟩:=g2 x H3 y;have R2:=((R1.mask (is:=is)).hide F G (by rw[t];intro z;cases z)).go q;have Z:=q _ _ t;refine gk H0 O0 _ _ H3 (l::O) x u _ (VO u (Jp T)) R2 (r (l::O) (λb hb z=>by rcases IT.mp hb with k |k;(rw[k,t]at z;cases z);exact R1.dom b k (F.free z)) seen) λXr R4 keep=>?_;by_cases A:i<k
 .have M:ys[i]?=some (ys[i]'(by lia)):=IQ _;refine .inl ⟨i,u,_,A,T,M,l::O,R4,λv H5 W r5=>⟨λj w e=>keep j w (jq is n j w e).2 e,o,W _ _ Z,?_,xs.length-(i+1),by lia,rfl,A,((F.trans q).trans W).put G _,o++[v],aA,by simp[hv],?_⟩⟩
  .rw[hv];lia
  .rw[fZ IW,L7,M];exact ((rs.same (aJ q)).same (aJ W)).snoc (.cons r5 .nil)
 .have e:i=k:=by lia
  subst e;exact .inr ⟨u,T,l::O,R4,λc S=>L.rt _ h c (R.same.trans (((s1.trans F).trans q).trans S))⟩
end
abbrev OkD(P:Jr)(w:J5)(b:Ma){K:IR}{e:Str->Option Je}{x:Str}{st:LS}{c:List Str}(D:Dfn K e x st c)(n:Nat)(f:List U->Out->Prop):Prop:=bL P w K e b (CXF P w) n D.a D.d c (spU K f)
structure Z0 where
 cdv:Je
 A:Kb
 outer:List Env
 s:Jd
 H:Hp
 E:XK
 O:List Jt
section
variable {X:Cx}{H0:Hp}{O0:List Jt}{ps:PSt}{e:Expr}{U4 p:Pos}{u x y:U}{xs us:List U}{n m i:Nat}{st:LS}{pn N:List Str}{Va:List U→Out→Prop}{sd:Jt→List (Str×U)→List U→Out→Prop}{nm q:Str}{P:Jr}{w:J5}{K:IR}{mg:Str→Option Je}{base:Ma}{C a d:Jt}{b:Bool}
theorem bx{D:Dfn X.K X.mg nm st pn}(F:bL X.prog X.w X.K X.mg X.base (CXF X.prog X.w) n D.a D.d pn (spU X.K Va))(g:bQ m X.A)(c:EvA X H0 O0 ps (e::es) us)(h:Va us (.val u))(le:autoParam (n<=m) x4)(f:autoParam (Gl X nm) z0)
  (Vs:autoParam ((nm==("__debug__":Str))=false) x4) (he:autoParam (IY (e::es) X.env=(false,K0 e X.env)::IY es X.env) z0) (Vk:autoParam ((Kv U4 (IY es X.env)).any (·.1)=false) z0):
  Ev X H0 O0 ps (.Call (.Name nm p) (e::es) [] U4) u:=EZ (F.mono le) g f D.m D.F.kp D.b gV c h Vs he Vk
theorem dy{D:Dfn X.K X.mg nm st pn}(F:bL X.prog X.w X.K X.mg X.base (CXF X.prog X.w) n D.a D.d pn (spU X.K Va))(g:bQ m X.A)(c:EvA X H0 O0 ps (e::es) us)(h:Va us (.new xs))(le:autoParam (n<=m) x4)(f:autoParam (Gl X nm) z0)
  (Vs:autoParam ((nm==("__debug__":Str))=false) x4) (he:autoParam (IY (e::es) X.env=(false,K0 e X.env)::IY es X.env) z0) (Vk:autoParam ((Kv U4 (IY es X.env)).any (·.1)=false) z0):
  EvN X H0 O0 ps (.Call (.Name nm p) (e::es) [] U4) xs:=FT (F.mono le) g f D.m D.F.kp D.b gV c h Vs he Vk
theorem aX(a:bQ n X.A)(c:okU 9 x=true:=by walk_at"ok")(b:okU 9 y=true:=by walk_at"ok"):OpS X (Kc .Eq) x y (.bl (eqW x y)):=IJ (cG a) c b
theorem re(a:bQ n X.A)(c:okU 9 x=true:=by walk_at"ok")(b:okU 9 y=true:=by walk_at"ok"):OpS X (Kc .NotEq) x y (.bl (!eqW x y)):=Ic (cG a) c b
theorem aB(i)(c:X.N.Nodup)(a:Ev X H0 O0 ps e u)(h:D.nx (ps.set i (some (.val u))))(b:autoParam (X.N[i]?=some z) z0)(f:Loc X.env.scope z:=by exact Or.inl rfl)(hs:autoParam (Kw e (some (.Name z Vg)) U4.line X.env=pure false) z0)(d:autoParam (X.fn z=true\/X.env.scope.names.lookup z=some .local) v3):
  W1 X H0 O0 E (.Assign [.Name z Vg] e U4) D ps:=qQ c b f a h hs d
theorem HB{D:MDf X.K C nm q st pn}(F:bL X.prog X.w X.K X.mg X.base (CXF X.prog X.w) n D.a D.d pn (spD X.K false C sd))(i:Nat)(k:Cls X.K C)(j:bQ m X.A)(c:ps[i]?=some (some (.dsk b C a d kvs)))(g:EvA X H0 O0 ps (e::es) us)(h:sd d kvs us (.val u))(le:autoParam (n<=m) x4)
  (We:autoParam ((nm==("lands":Str))=false) x4) (hN:autoParam (X.N[i]?=some z) z0) (hv:autoParam (Vis X.env.scope z) k6) (hd:autoParam ((z==("__debug__":Str))=false) x4) (Vq:autoParam ((z==("__classdict__":Str))=false) x4)
  (Vp:autoParam (IY (e::es) X.env=(false,K0 e X.env)::IY es X.env) z0) (Vk:autoParam ((Kv U4 (IY es X.env)).any (·.1)=false) z0)
  (ht:autoParam (K0 (.Call (.Attribute (.Name z p) nm U7) (e::es) [] U4) X.env=(do
   let ov <-K0 (.Name z p) X.env
   PY U7.atName
   let (f,first) <-OX [ov] (N6 ov nm pl)
   P4 U4 f first (Kv U4 (IY (e::es) X.env)) (MU U4 (Ld [] X.env)))) z0):
  Ev X H0 O0 ps (.Call (.Attribute (.Name z p) nm U7) (e::es) [] U4) u:=zo c k D.m (F.mono le) j D.b gV g h We hN hv hd Vq Vp Vk ht
theorem okD{D:Dfn K mg nm st pn}(S:aq N pn (ah st))(c:∀us o,Va us o->us.length=pn.length)
  (hb:∀(Z:Z0) us o,bQ m (Z.A.deeper (NH nm (ah st) Z.s.heap.objs.size D.a Z.cdv))->Va us o->
   Ws (dG (CXF P w) P w K mg base N nm (ah st) D.a Z.cdv Z.A Z.outer Z.s Z.H Z.E).nox Z.H Z.O Z.E (b9 st) ⟨λ_=>o=.val .non,λe=>e=o,λ_=>False,λ_=>False⟩ (ma N us)):OkD P w base D (m+1) Va:=
 Ee D.F S c λd A b s H E O us o f h=>Ws.nox (hb ⟨d,A,b,s,H,E,O⟩ us o f h)
end
end L2
namespace L2
open PySem PySem.Spec PyProof.Rows
section
variable {X:Cx}{H0:Hp}{O0:List Jt}{E:XK}{ps:PSt}{D:PD}{a b tg iter:Expr}{Vh:List LS}{U4:Pos}{C:Jt}{bs:List Bool}
def isT:Je->Bool
 | .bool b=>b
 |_=>false
end
def k8(K:IR)(c:Hp)(f:List Jt)(b:PSt)(d:Jt)(kvs:List (Str×U)):Prop:=∀e H O,Rs K c f b e H O->∃a,H d=some (.dK a)/\DkR K (hid H O) a kvs/\d∈O
def Wr(K:IR)(b:Hp)(h:List Jt)(i:PSt)(d:Jt)(g:List (Str×U)->PSt):Prop:=∀f H O a c e,Rs K b h i f H O->aP (hid H [d]) a->a d=some (.dK c)->DkR K (hid a O) c e->Rs K b h (g e) f a O
def At(X:Cx)(c:Hp)(f:List Jt)(b:PSt)(o:Expr)(d:Jt):Prop:=PE X o λe H Q=>∃O,Rs X.K c f b e H O/\∀a,aP H a->Q (.ref d) a
noncomputable def DN:Sl->Bool
 | .dsk _ _ _ _ _=>true
 | .raw _ _ ds=>!ds.isEmpty
 |_=>false
noncomputable def GR(a:PSt)(i:Nat):Bool:=(J3 a.length).all λj=>match a[j]? with |some (some s)=>!DN s ||j==i |_=>true
theorem vW(h:GR ps i=true):∀j s,ps[j]?=some (some s)->DN s=true->j=i:=λj s e a=>by
 have:=M3.mp h j (JM.mpr (I_.mp e).1);rw[e]at this;dsimp only at this;rw[a]at this;exact beq_iff_eq.mp this
variable {obs:List (Jt×HO)}{kvs:List (Str×U)}
section
variable {K:IR}{H0:Hp}{O0:List Jt}{ps:PSt}{i m:Nat}{v0:V}{ds:List (Jt×List (Str×U))}{w:Bool}{C a d:Jt}
theorem bj(a:ps[i]?=some (some (.raw v0 obs ds)))(c:(d,kvs)∈ds):k8 K H0 O0 ps d kvs:=λj H O R=>by
 obtain⟨v,_,_,_,b⟩:=R.at_ i _ a;obtain⟨g,_,e,f,h⟩:=b d kvs c;exact⟨e,f,h,g⟩
theorem l5(b:ps[i]?=some (some (.dsk w C a d kvs))):k8 K H0 O0 ps d kvs:=λm H O R=>by
 obtain⟨v,k,h,c,rfl,f,j,l,e,g⟩:=R.at_ i _ b;exact⟨c,e,g,f⟩
theorem mh(m)(hp:ps[i]?=some (some (.raw v0 obs ds)))(Q:ds[m]?=some (d,kvs))(nd:(ds.map (·.1)).Nodup)(S:autoParam (GR ps i=true) z0):Wr K H0 O0 ps d λL=>ps.set i (some (.raw v0 obs (ds.set m (d,L)))):=λσ H O G U L R s g r=>by
 obtain⟨v,g1,g2,g3,I⟩:=R.at_ i _ hp;obtain⟨A,E,V,k3,k4⟩:=I d kvs (Jp Q);have h0:=(R.new d A).resolve_left E;have go:∀b o,b≠d->H b=some o->G b=some o:=λb o nb e=>s b o (bV e (by simpa using nb))
 have h:aP (hid H O) (hid G O):=λb o e=>by
  obtain⟨c,a⟩:=cS e;exact bV (go b o (λz=>a (z ▸ A)) c) a
 refine⟨λb o e=>go b o (λz=>by rw[z,h0]at e;cases e) (R.same b o e),R.old,R.new,λb hb z=>?_,by simp[R.len],λj s q=>?_,λj k F C b q1 X T q4=>?_⟩
 .by_cases e:b=d
  .subst e;rw[g]at z;cases z
  .cases VF:H b with
   |none=>exact R.dom b hb VF
   |some o=>rw[go b o e VF]at z;cases z
 .rcases bu q with ⟨e',l⟩ |⟨P,l⟩
  .subst e';cases l;refine⟨v,g1,g2,λb o z=>h _ _ (g3 b o z),λp t z=>?_⟩;obtain⟨n,hn⟩:=List.getElem?_of_mem z;rcases bu hn with ⟨c,a⟩ |⟨c,a⟩
   .cases a;exact⟨A,E,U,g,r⟩
   .obtain⟨l1,l2,B,l3,Y⟩:=I p t (Jp a);refine⟨l1,l2,B,go _ _ (λz=>?_) l3,Y.same h⟩;subst z;have N:(ds.map (·.1))[m]?=some p:=by rw[I0,Q];rfl
    have J:(ds.map (·.1))[n]?=some p:=by rw[I0,a];rfl
    exact c ((NF (aN N) nd).mp (N.trans J.symm))
  .obtain⟨Z,y,f⟩:=R.at_ j s l;refine⟨Z,y,?_⟩;cases s with
   |val u=>exact Rp.same h f
   |own F=>
    obtain⟨b,C,c,a,e3,w,e5⟩:=f;exact⟨b,C,c,a,e3,go _ _ (λz=>by rw[z,k3]at w;cases w) w,e5.same h⟩
   |pin z u=>exact⟨f.1,Rp.same h f.2⟩
   |dsk w2 C2 J d2 t=>exact absurd (vW S _ _ l rfl).symm P
   |raw v1 M D=>
    cases D with
    |nil=>exact⟨f.1,λb o z=>h _ _ (f.2.1 b o z),λp t z=>by cases z⟩
    |cons x xs=>exact absurd (vW S _ _ l rfl).symm P
 .have c1:ps[j]?=some (some (.own F)):=by
   rcases bu q1 with ⟨_,e⟩ |⟨_,z⟩
   .cases e
   .exact z
  have W:ps[k]?=some (some (.own C)):=by
   rcases bu X with ⟨_,e⟩ |⟨_,z⟩
   .cases e
   .exact z
  exact R.inj j k _ _ b c1 W T q4
end
section
variable {X:Cx}{H0:Hp}{O0:List Jt}{E:XK}{ps ps1:PSt}{D:PD}{e f o Vf:Expr}{es:List Expr}{U4 p Vg U7 U5:Pos}{u z:U}{us Vz VC:List U}{x n nm:Str}{v0:V}{ds:List (Jt×List (Str×U))}{w:Bool}{C a d:Jt}{U6:List (Str×U)}{i k:Nat}{g:List (Str×U)→PSt}
 {fd:LO}{pn:List Str}{CX:CXT}{fA:Jt}
theorem cj(i:Nat)(a:ps[i]?=some (some (.raw (.ref d) obs ds)))(c:autoParam (X.N[i]?=some x) z0)(e:autoParam (Vis X.env.scope x) k6)
  (hd:autoParam ((x==("__debug__":Str))=false) x4) (Vq:autoParam ((x==("__classdict__":Str))=false) x4):At X H0 O0 ps (.Name x p) d:=
 PE.mono (c0 c e hd Vq) λg H Q f=>by
  obtain⟨O,R,q⟩:=f;obtain⟨v,b,rfl,_⟩:=R.at_ i _ a;exact⟨_,b,q H (.refl H)⟩
theorem zH(c:ps[i]?=some (some (.dsk w C a d kvs)))(b:jL X H0 O0 ps o d):At X H0 O0 ps o d:=PE.mono b λe H Q ⟨O,R,q⟩=>⟨O,R,q H (.refl H)⟩
theorem oa(i:Nat)(b:ps[i]?=some (some (.raw (.ref l) obs ds)))(h:(l,.lst vs)∈obs)(m:Ev X H0 O0 ps e (.int j))(n:atI vs j=some (.ref d))(o:autoParam (X.N[i]?=some x) z0)(f:autoParam (Vis X.env.scope x) k6)
  (hd:autoParam ((x==("__debug__":Str))=false) x4) (Vq:autoParam ((x==("__classdict__":Str))=false) x4) (hs:jv e:=by intro _ _;rfl):At X H0 O0 ps (.Subscript (.Name x p) e U4) d:=
 PE.mono (v9 qj (cj i b o f hd Vq) m hs) λt H Q ⟨O,R,q⟩=>⟨O,R,λs a=>⟨O,R.go a,λv g c r=>by
  cases r;obtain⟨w,_,_,k,_⟩:=(R.go (a.trans c)).at_ i _ b;exact⟨l,vs,j,_,rfl,rfl,SqL.of (cS (k l _ h)).1,n,q g (a.trans c)⟩⟩⟩
theorem pX(c:k8 X.K H0 O0 ps d kvs)(i:At X H0 O0 ps o d)(l:Ev X H0 O0 ps e (.str n))(w:X.A.units+10<Mu)(h:valU kvs n=some u)(hs:ux e:=by intro _ _;rfl):Ev X H0 O0 ps (.Subscript o e U4) u:=
 PE.mono (v8 (by lia) i l hs) λx H Q ⟨O,R,q⟩=>⟨O,R,λt a=>⟨O,R.go a,λv j s r=>by
  cases r;obtain⟨p,m,f,_⟩:=c _ _ _ (R.go (a.trans s));obtain⟨z,g,b⟩:=f.some h;exact⟨d,z,rfl,by have:=gW.k (k:=.inr n) m;rw[g]at this;exact this,q z j (a.trans s) b⟩⟩⟩
theorem G8(f:k8 X.K H0 O0 ps d kvs)(h:At X H0 O0 ps o d)(i:Ev X H0 O0 ps e (.str n))(l:X.A.units+10<Mu)(a:Lm .In o=false:=by first |exact iM _ |with_unfolding_all rfl):Tt X H0 O0 ps (.Compare e [.In] [o] U4) (valU kvs n).isSome:=
 PT.mono (pG (FF (by lia) i h) a) λm H Q ⟨O,R,q⟩=>⟨O,R,λv p s r=>by
  cases r;refine⟨O,R.go s,λc b=>?_⟩;obtain⟨j,a,g,_⟩:=f _ _ _ (R.go (s.trans b));exact⟨d,_,rfl,gW.k (k:=.inr n) a,_,rfl,by rw[g.isSome];exact q c (s.trans b)⟩⟩
theorem fi(f:k8 X.K H0 O0 ps d kvs)(h:At X H0 O0 ps o d)(i:Ev X H0 O0 ps e (.str n))(l:X.A.units+10<Mu)(a:Lm .NotIn o=false:=by first |exact iM _ |with_unfolding_all rfl):Tt X H0 O0 ps (.Compare e [.NotIn] [o] U4) (!(valU kvs n).isSome):=
 PT.mono (pG (oK (by lia) i h) a) λm H Q ⟨O,R,q⟩=>⟨O,R,λv p s r=>by
  cases r;refine⟨O,R.go s,λc b=>?_⟩;obtain⟨j,a,g,_⟩:=f _ _ _ (R.go (s.trans b));exact⟨d,_,rfl,gW.k (k:=.inr n) a,_,rfl,by rw[g.isSome];exact q c (s.trans b)⟩⟩
theorem yR(h:k8 X.K H0 O0 ps d kvs)(x:At X H0 O0 ps o d)(B:Ev X H0 O0 ps e (.str n))(j:Ev X H0 O0 ps f z)(I:X.A.units+10<Mu)(m:M2 X o "get" U7 e f U5:=by exact⟨rfl,rfl,rfl,rfl⟩):Ev X H0 O0 ps (.Call (.Attribute o "get" U7) [e,f] [] U5) ((valU kvs n).getD z):=
 PE.mono (By (by lia) x B j m) λJ H Q ⟨O,R,q⟩=>⟨O,R,λG b=>⟨d,rfl,.inl (let ⟨g,c,_⟩:=h _ _ _ (R.go b);⟨g,.of c⟩),O,R.go b,λv F i l=>⟨O,R.go (b.trans i),λy r E p=>by
  cases l;have a:=(b.trans i).trans E;obtain⟨g,c,C,_⟩:=h _ _ _ (R.go a);refine⟨_,gW.k (k:=.inr n) c,q _ r a ?_⟩;rcases C.val n with ⟨s,u⟩ |⟨L,v,D,t,w⟩
  .rw[s,u];exact p
  .rw[D,t];exact w⟩⟩⟩
theorem FX(r:k8 X.K H0 O0 ps d kvs)(t:Wr X.K H0 O0 ps d g)(y:At X H0 O0 ps o d)(z:Ev X H0 O0 ps e (.str n))(m:Ev X H0 O0 ps Vf u)(M:X.A.units+10<Mu)(w:kvs.length<sizeLine)(h:D.nx (g (kY kvs n u)))
  (hs:autoParam (Kw Vf (some (.Subscript o e Vg)) U4.line X.env=pure false) z0):W1 X H0 O0 E (.Assign [.Subscript o e Vg] Vf U4) D ps:=
 PS.mono (vj (by lia) y z m hs) λN P H ⟨L,O,R⟩=>⟨O,R,λv I a C=>⟨O,R.go a,λG c=>⟨O,R.go (a.trans c),λk J j p=>by
  cases p;have f:=R.go ((a.trans c).trans j);obtain⟨F,B,i,x⟩:=r _ _ _ f;refine⟨d,_,rfl,wM.k (k:=.inr n) B (by rw[i.len];exact w),L.nx _ _ _ O (t _ _ _ _ _ _ f (λb o q=>?_) aA ?_) h⟩
  .obtain⟨s,l⟩:=cS q;rw[aC (by simpa using l)];exact s
  .rw[fZ x];exact i.put (C.same (aJ (c.trans j))) n⟩⟩⟩
theorem EK(i:k8 X.K H0 O0 ps d kvs)(v:Wr X.K H0 O0 ps d g)(x:At X H0 O0 ps o d)(y:Ev X H0 O0 ps e (.str n))(p:valU kvs n=some u)(h:D.nx (g (jf kvs n)))
  (m:M1 X o "pop" U7 e U5:=by exact⟨rfl,rfl,rfl,rfl⟩) (hs:autoParam (Kw (.Call (.Attribute o "pop" U7) [e] [] U5) none U4.line X.env=pure false) z0):W1 X H0 O0 E (.Expr (.Call (.Attribute o "pop" U7) [e] [] U5) U4) D ps:=
 PS.mono (ir (rM x y m) hs) λF G H ⟨L,O,R⟩=>⟨O,R,λC c=>⟨d,rfl,.inl (let ⟨a,f,_⟩:=i _ _ _ (R.go c);⟨a,.of f⟩),O,R.go c,λk B A r=>by
  cases r;have R2:=R.go (c.trans A);obtain⟨a,f,j,w⟩:=i _ _ _ R2;obtain⟨z,s,_⟩:=j.some p;refine⟨a,.inr n,z,f,rfl,s,L.nx _ _ _ O (v _ _ _ _ _ _ R2 (λb o q=>?_) aA ?_) h⟩
  .obtain⟨t,l⟩:=cS q;rw[aC (by simpa using l)];exact t
  .rw[fZ w];exact j.drop n⟩⟩
theorem d_(k:k8 X.K H0 O0 ps d kvs)(m:Ev X H0 O0 ps e u)(h:D.rt (.dsk d u kvs)):W1 X H0 O0 E (.Return (some e) U4) D ps:=
 PS.mono (iS m) λn o H ⟨L,O,R⟩=>⟨O,R,λv l s r=>by
  have c:=R.go s;obtain⟨f,j,g,i⟩:=k _ _ _ c
  have a:∀b∈d::O0,b∈O:=λb hb=>by
   rcases IT.mp hb with y |y
   .subst y;exact i
   .exact R.old b y
  exact L.rt _ h v f l c.same j (g.same (aF a)) (r.same (aF a))⟩
theorem uP(d:X.N.Nodup)(c:X.N[i]?=some x)(j:Loc X.env.scope x)(b:EvK X H0 O0 ps e u ps1)(h:D.nx (ps1.set i (some (.val u))))(hs:autoParam (Kw e (some (.Name x Vg)) U4.line X.env=pure false) z0)(f:autoParam (X.fn x=true\/X.env.scope.names.lookup x=some .local) v3):
  W1 X H0 O0 E (.Assign [.Name x Vg] e U4) D ps:=PS.mono (lZ d c j b hs f) λl m H ⟨L,O,R⟩=>⟨O,R,λv k g a r=>L.nx _ _ _ g (a.set r) h⟩
def EvL(X:Cx)(H0:Hp)(O0:List Jt)(ps:PSt)(es:List Expr)(Vz:List U)(d:Jt)(VC:List U):Prop:=
 PA X es λe H Q=>∃O,Rs X.K H0 O0 ps e H O/\∀b c a,aP H a->Rps X.K (hid a O) b Vz->Rps X.K (hid a O) c VC->Q (b++.ref d::c) a
theorem uJ(f:At X H0 O0 ps o d)(e:EvA X H0 O0 ps es VC)(hs:autoParam (IY (o::es) X.env=(false,K0 o X.env)::IY es X.env) z0):EvL X H0 O0 ps (o::es) [] d VC:=
 PA.mono (a9 f e hs) λi H Q ⟨O,R,q⟩=>⟨O,R,λh a=>⟨O,R.go a,λb g c r=>q [] b g (a.trans c) .nil r⟩⟩
theorem Bo(j:Ev X H0 O0 ps e u)(i:EvL X H0 O0 ps es Vz d VC)(hs:autoParam (IY (e::es) X.env=(false,K0 e X.env)::IY es X.env) z0):EvL X H0 O0 ps (e::es) (u::Vz) d VC:=
 PA.mono (a9 j i hs) λn H Q ⟨O,R,q⟩=>⟨O,R,λv m a l=>⟨O,R.go a,λk c f b g h=>q (v::k) c f (a.trans b) (.cons (l.same (aJ b)) g) h⟩⟩
noncomputable def spL(K:IR)(g:Jt->List (Str×U)->List U->List U->Out->Prop):Sp:=λf H Q E=>∃d a kvs e c Vz VC O o,f=e++.ref d::c/\H d=some (.dK a)/\(∀b∈O,H b≠none)/\d ∉ O/\
 DkR K (hid H (d::O)) a kvs/\Rps K (hid H (d::O)) e Vz/\Rps K (hid H (d::O)) c VC/\g d kvs Vz VC o/\lQ K (hid H [d]) O Q E o
theorem j9{H:Hp}{O:List Jt}{d:Jt}(h:d∈O):(∀b∈d::O.filter (λb=>decide (b≠d)),b∈O)/\(∀b∈O,b∈d::O.filter (λb=>decide (b≠d)))/\d ∉ O.filter (λb=>decide (b≠d)):=
 ⟨λb hb=>by
  rcases IT.mp hb with y |y
  .subst y;exact h
  .exact (JS.mp y).1,λb hb=>by
  by_cases e:b=d
  .subst e;exact IW
  .exact IS _ (JS.mpr ⟨hb,decide_eq_true e⟩),λz=>by have:=(JS.mp z).2;simp at this⟩
theorem Df(F:bL X.prog X.w X.K X.mg X.base CX k fA fd pn (spL X.K Va))(E:bQ k X.A)(D:Gl X nm)(I:X.mg nm=some (.ref fA))(z:Lk X.K (.ref fA)=true)(c:b7 X.K fd pn [])(t:bO CX X E0)
  (hp:k8 X.K H0 O0 ps d kvs) (hw:Wr X.K H0 O0 ps d g) (ha:EvL X H0 O0 ps (e::es) Vz d VC) (h:Va d kvs Vz VC (.dsk d u U6)) (Vs:autoParam ((nm==("__debug__":Str))=false) x4) (he:autoParam (IY (e::es) X.env=(false,K0 e X.env)::IY es X.env) z0) (Vk:autoParam ((Kv U4 (IY es X.env)).any (·.1)=false) z0):
  EvK X H0 O0 ps (.Call (.Name nm p) (e::es) [] U4) u (g U6):=
 PE.mono (ii F E D I z c .nil t ha Vs he Vk) λM H Q ⟨O,R,q⟩=>⟨O,R,λm i l s L a=>by
  have f:=R.go s;obtain⟨n,B,o,x⟩:=hp _ _ _ f;obtain⟨sub,j,C⟩:=j9 (H:=l) x;show spL X.K Va ((m++V.ref d::i)++[]) l Q E0;rw[Km]
  exact⟨d,n,kvs,m,i,Vz,VC,O.filter (λb=>decide (b≠d)),.dsk d u U6,rfl,B,λb c=>f.dom b (JS.mp c).1,C,o.same (aF sub),L.same (aF sub),a.same (aF sub),h,λv G r J g a y=>
   q v r O (hw _ _ _ _ _ _ f J g (a.same (aF j))) (y.same (aF j))⟩⟩
theorem wE(F:bL X.prog X.w X.K X.mg X.base CX k fA fd pn (spD X.K true C Va))(I:bQ k X.A)(G:Gl X nm)(L:X.mg nm=some (.ref fA))(B:Lk X.K (.ref fA)=true)(j:b7 X.K fd pn [])(x:bO CX X E0)
  (hj:ps[i]?=some (some (.raw v0 obs ds))) (ho:(a,.ins C dx [("lands",.ref d)])∈obs) (hp:k8 X.K H0 O0 ps d kvs) (hw:Wr X.K H0 O0 ps d g) (ha:EvL X H0 O0 ps (e::es) [] a VC) (h:Va d kvs VC (.dsk d u U6)) (Vs:autoParam ((nm==("__debug__":Str))=false) x4) (he:autoParam (IY (e::es) X.env=(false,K0 e X.env)::IY es X.env) z0) (Vk:autoParam ((Kv U4 (IY es X.env)).any (·.1)=false) z0):
  EvK X H0 O0 ps (.Call (.Name nm p) (e::es) [] U4) u (g U6):=
 PE.mono (ii F I G L B j .nil x ha Vs he Vk) λS H Q ⟨O,R,q⟩=>⟨O,R,λT l n s P f=>by
  have c:=R.go s;obtain⟨o,D,r,y⟩:=hp _ _ _ c;obtain⟨v,_,_,M,_⟩:=c.at_ i _ hj;obtain⟨sub,m,E⟩:=j9 (H:=n) y;obtain rfl:=P.nil_inv;show spD X.K true C Va ((V.ref a::l)++[]) n Q E0;rw[Km]
  exact⟨a,dx,d,o,kvs,l,VC,O.filter (λb=>decide (b≠d)),.dsk d u U6,rfl,(cS (M a _ ho)).1,D,λb j=>c.dom b (JS.mp j).1,λ_=>E,r.same (aF sub),f.same (aF sub),h,λv J t N g f z=>
   q v t O (hw _ _ _ _ _ _ c N g (f.same (aF m))) (z.same (aF m))⟩⟩
end
end L2
namespace L2
open PySem PySem.Spec PySem.W PyProof.Rows
noncomputable def qq(N:List Str)(d:Jt)(kvs:List (Str×U))(b a:List U):PSt:=b.map (λu=>some (.val u))++some (.raw (.ref d) [] [(d,kvs)])::(a.map (λu=>some (.val u))++Jw (N.length-(b.length+a.length+1)) none)
theorem CK{b:List U}{n i:Nat}(e:(b.map (λu=>some (Sl.val u))++Jw n none)[i]?=some (some sl)):∃u,b[i]?=some u/\sl=.val u:=by
 by_cases a:i<b.length
 .rw[Jn (by simpa using a),I0,IQ a]at e
  cases e;exact⟨_,IQ a,rfl⟩
 .rw[Jo (by simpa using a),Lo]at e
  split at e <;>cases e
theorem oQ(e:(qq N d kvs Vz VC)[i]?=some (some sl)):(∃u,Vz[i]?=some u/\sl=.val u)\/(i=Vz.length/\sl=.raw (.ref d) [] [(d,kvs)])\/∃j u,i=Vz.length+1+j/\VC[j]?=some u/\sl=.val u:=by
 unfold qq at e;by_cases a:i<Vz.length
 .rw[Jn (by simpa using a),I0,IQ a]at e
  cases e;exact .inl ⟨_,IQ a,rfl⟩
 .rw[Jo (by simpa using a),IM]at e
  obtain⟨j,rfl⟩:∃j,i=Vz.length+j:=⟨i-Vz.length,by lia⟩
  rw[MY]at e;cases j with
  |zero=>cases e;exact .inr (.inl ⟨rfl,rfl⟩)
  |succ j=>
   obtain⟨u,b,c⟩:=CK e;exact .inr (.inr ⟨j,u,by lia,b,c⟩)
variable {pn:List Str}
section
variable {P:Jr}{w:J5}{K:IR}{mg:Str→Option Je}{base:Ma}{N:List Str}{U8 nm:Str}{f:Jt}
theorem Fn{st:LS}(F:Fun K nm U8 st f fd)(S:aq N pn (ah st))(y:∀d a g m o,Va d a g m o->g.length+m.length+1=pn.length)
  (VJ:∀l A c s H T E O d a g m o,bQ k (A.deeper (NH U8 (ah st) s.heap.objs.size f l))->Va d a g m o->
   Ws (dG (CXF P w) P w K mg base N U8 (ah st) f l A c s H E) T O E (b9 st) ⟨λ_=>o=.val .non,λJ=>J=o,λ_=>False,λ_=>False⟩ (qq N d a g m)):bL P w K mg base (CXF P w) (k+1) f fd pn (spL K Va):=by
 refine F.okF S (λX H Q E h=>?_) λl A c s H X Q E Y h=>?_
 .obtain⟨d,I,a,x,B,g,m,O,o,rfl,_,_,_,_,n,p,t,_⟩:=h;rw[<-y d a g m o t,Jl,Ji,n.len,p.len];rfl
 .obtain⟨d,I,a,x,B,g,m,O,o,rfl,L,W,na,M,n,p,t,q⟩:=h
  have C:∀i v,(x++V.ref d::B)[i]?=some v->(start N (x++V.ref d::B))[i]?=some (some v):=λi v e=>by
   unfold start;rw[Jn (by rw[IM];exact aN e),I0,e];rfl
  refine⟨_,VJ l A c s H (hid H [d]) E O d a g m o Y t,⟨λps σ Z O' R e=>?_,λ_ _ _ _ _ e=>e.elim,λ_ _ _ _ _ e=>e.elim,λJ e=>by subst e;exact q⟩,d::O,aH,λb hb=>IS _ hb,λb hb=>?_,λb hb=>?_,?_,λi sl e=>?_,λi j ys zs b U e2 _ _=>?_⟩
  .subst e;exact q .non Z R.same .non
  .rcases IT.mp hb with z |z
   .subst z;right;show hid H [b] b=none;unfold hid;simp
   .exact .inl z
  .rcases IT.mp hb with z |z
   .subst z;rw[L];simp
   .exact W b z
  .unfold start qq;simp only[Ji,Jl,IM,KH,n.len,p.len];lia
  .rcases oQ e with ⟨u,D,rfl⟩ |⟨rfl,rfl⟩ |⟨j,u,rfl,D,rfl⟩
   .obtain⟨v,r,G⟩:=n.get D;exact⟨v,C i v (by rw[Jn (aN r)];exact r),G⟩
   .refine⟨.ref d,C _ _ (by rw[<-n.len,Jo (IV _),Ph];rfl),rfl,λb o z=>(by cases z),λd' U6 z=>?_⟩;rw[Jq]at z;cases z;exact⟨IW,na,I,L,M⟩
   .obtain⟨v,r,G⟩:=p.get D;refine⟨v,C _ v ?_,G⟩;rw[Jo (by rw[n.len];lia),n.len,show g.length+1+j-g.length=j+1 by lia,KA];exact r
  .rcases oQ U with ⟨_,_,z⟩ |⟨_,z⟩ |⟨_,_,_,_,z⟩ <;>cases z
end
variable {H0:Hp}{O0:List Jt}
section
variable {K:IR}{H H':Hp}{O:List Jt}{ps:PSt}{σ:St}{i j:Nat}{v0 v1:V}{obs obs':List (Jt×HO)}{ds ds':List (Jt×List (Str×U))}
theorem Rs.newraw(R:Rs K H0 O0 ps σ H O)(e:aP H H')(B:∀d a,(d,a)∈ds->a=[]/\H d=none/\H' d=some (.dK []))(T:∀b o,(b,o)∈obs->H b=none/\H' b=some o/\∀p,o≠.dK p):
  Rs K H0 O0 (ps.set i (some (.raw v0 obs ds))) (σ.set i (some v0)) H' (ds.map (·.1)++O):=by
 have r:∀b,b∈ds.map (·.1)->H b=none/\H' b=some (.dK []):=λb hb=>by
  obtain⟨⟨d,a⟩,f,rfl⟩:=Jb.mp hb;exact⟨(B d a f).2.1,(B d a f).2.2⟩
 have n:aP (hid H O) (hid H' (ds.map (·.1)++O)):=λb o h=>by
  obtain⟨f,c⟩:=cS h;refine bV (e _ _ f) λz=>?_;rcases JB.mp z with z |z
  .rw[(r b z).1]at f;cases f
  .exact c z
 refine⟨R.same.trans e,λb hb=>Jf _ (R.old b hb),λb hb=>?_,λb hb z=>?_,by simp[R.len],λk s q=>?_,λk m F J b f c G E=>?_⟩
 .rcases JB.mp hb with y |y
  .exact .inr (R.same.free (r b y).1)
  .exact R.new b y
 .rcases JB.mp hb with y |y
  .rw[(r b y).2]at z;cases z
  .exact R.dom b y (e.free z)
 .rcases bu q with ⟨Q,D⟩ |⟨P,D⟩
  .subst Q;cases D;have I:=aN q;rw[Ni]at I;refine⟨v0,fE (by rw[R.len];exact I),rfl,λb o z=>?_,λd a z=>?_⟩
   .obtain⟨l,g,j⟩:=T b o z;refine bV g λy=>?_;rcases JB.mp y with y |y
    .rw[(r b y).2]at g;cases g;exact j _ rfl
    .exact R.dom b y l
   .obtain⟨rfl,g,j⟩:=B d a z;exact⟨JO _ (Jb.mpr ⟨_,z,rfl⟩),λy=>R.dom d (R.old d y) g,[],j,DkR.nil⟩
  .obtain⟨w,f,c⟩:=R.at_ k s D;refine⟨w,by rw[JA P];exact f,?_⟩;cases s with
   |val u=>exact Rp.same n c
   |own F=>
    obtain⟨b,U,l,g,j,v,A⟩:=c;exact⟨b,U,l,Jf _ g,j,e _ _ v,A.same n⟩
   |pin z u=>exact⟨c.1,Rp.same n c.2⟩
   |dsk w C b d a=>obtain⟨M,p,l,g,j,v,A,N⟩:=c;exact⟨M,p,l,Jf _ g,j,e _ _ v,e _ _ A,N.same n⟩
   |raw v0 obs ds=>exact kX.raw_go c n λd p f c=>⟨Jf _ f,e _ _ c⟩
 .rcases bu f with ⟨_,x⟩ |⟨S,x⟩
  .cases x
  .rcases bu c with ⟨_,t⟩ |⟨L,t⟩
   .cases t
   .rw[JA S]at G;rw[JA L]at E;exact R.inj k m F J b x t G E
theorem Rs.moveraw(L:i≠j)(R:Rs K H0 O0 ps σ H O)(G:ps[i]?=some (some (.raw v0 obs ds)))(w:ps[j]?=some (some (.raw v1 obs' ds'))):Rs K H0 O0 ((ps.set i (some (.raw v0 obs []))).set j (some (.raw v1 obs' (ds++ds')))) σ H O:=by
 refine⟨R.same,R.old,R.new,R.dom,by simp[R.len],λk s q=>?_,λk m f r b E B C o=>?_⟩
 .obtain⟨I,x,u,p,t⟩:=R.at_ i _ G;obtain⟨F,D,y,A,v⟩:=R.at_ j _ w;rcases bu q with ⟨l,n⟩ |⟨_,n⟩
  .subst l;cases n;refine⟨F,D,y,A,λd c z=>?_⟩;rcases JB.mp z with z |z
   .exact t d c z
   .exact v d c z
  .rcases bu n with ⟨l,a⟩ |⟨_,a⟩
   .subst l;cases a;exact⟨I,x,u,p,λd c z=>by cases z⟩
   .exact R.at_ k s a
 .have e:∀{k:Nat}{f},((ps.set i (some (.raw v0 obs []))).set j (some (.raw v1 obs' (ds++ds'))))[k]?=some (some (.own f))->ps[k]?=some (some (.own f)):=λh=>by
   rcases bu h with ⟨_,g⟩ |⟨M,g⟩
   .cases g
   .rcases bu g with ⟨_,a⟩ |⟨J,a⟩
    .cases a
    .exact a
  exact R.inj k m f r b (e E) (e B) C o
end
variable {es:List Expr}
section
variable {X:Cx}{E:XK}{ps:PSt}{D:PD}{e:Expr}{U4 p p' U5 V9 q1 q2 lp':Pos}{x nm:Str}{C f:Jt}{i j k:Nat}{fd:LO}{CX:CXT}
theorem vM(M:Mk X.K C f)(F:bL X.prog X.w X.K X.mg X.base CX k f fd pn (spI C))(x:bQ (k+1) X.A)(v:Gl X nm)(y:X.mg nm=some (.ref C))(r:b7 X.K fd pn [])(u:bO CX X E0)(n:autoParam ((nm==("__debug__":Str))=false) x4):
  PE X (.Call (.Name nm p) [] [] U5) λ_ H Q=>∀a c d g,aP H g→H a=none→H d=none→a≠d→g a=some (.ins C c [("lands",.ref d)])→g d=some (.dK [])→Q (.ref a) g:=
 PE.mono (Bw M F x v y r .nil u n) λD H Q q=>by
  intro a c m i B;refine⟨a,c,rfl,aA,λd nd=>⟨rfl,?_⟩⟩;have h:d≠a:=λz=>by rw[z,aA]at nd;cases nd
  rw[aC h]at nd;have j:d≠c:=λz=>by rw[z,aA]at nd;cases nd
  rw[aC j]at nd;refine q a c d _ (λb o e=>?_) m nd h.symm aA (by rw[aC h];exact aA)
  have l:b≠a:=λz=>by rw[z,m]at e;cases e
  have s:b≠d:=λz=>by rw[z,nd]at e;cases e
  have t:b≠c:=λz=>by rw[z,i]at e;cases e
  rw[aC l,aC s,aC l,aC t];exact e
theorem Ct(M:Mk X.K C f)(F:bL X.prog X.w X.K X.mg X.base CX k f fd pn (spI C))(T:bQ (k+1) X.A)(S:Gl X nm)(U:X.mg nm=some (.ref C))(P:b7 X.K fd pn [])(Q:bO CX X E0)(hN:X.N.Nodup)(hi:X.N[i]?=some x)(V:Loc X.env.scope x)
  (h:∀l q c j n a m,j≠m→D.nx (ps.set i (some (.raw (.ref l) [(l,.lst [.ref q,.ref n]),(q,.ins C c [("lands",.ref j)]),(n,.ins C a [("lands",.ref m)])] [(j,[]),(m,[])])))) (Vs:autoParam ((nm==("__debug__":Str))=false) x4)
  (hs:autoParam (Kw (.List [.Call (.Name nm q1) [] [] U5,.Call (.Name nm q2) [] [] V9] lp') (some (.Name x p')) U4.line X.env=pure false) z0)
  (h1:autoParam (IY [.Call (.Name nm q1) [] [] U5,.Call (.Name nm q2) [] [] V9] X.env=(false,K0 (.Call (.Name nm q1) [] [] U5) X.env)::IY [.Call (.Name nm q2) [] [] V9] X.env) z0)
  (h2:autoParam (IY [.Call (.Name nm q2) [] [] V9] X.env=(false,K0 (.Call (.Name nm q2) [] [] V9) X.env)::IY [] X.env) z0)
  (hf:autoParam (X.fn x=true\/X.env.scope.names.lookup x=some .local) v3):W1 X H0 O0 E (.Assign [.Name x p'] (.List [.Call (.Name nm q1) [] [] U5,.Call (.Name nm q2) [] [] V9] lp') U4) D ps:=
 PS.mono (lZ hN hi V (tW (a9 (vM M F T S U P Q Vs) (a9 (vM M F T S U P Q Vs) cC h2) h1)) hs hf) λD' σ H W=>by
  obtain⟨L,O,R⟩:=W;intro q c j H1 s u I Y y p n a m J t B g ne2 v G;refine⟨(by decide:2<=sizeLine),λl nl=>?_⟩;have r:∀{b o},J b=some o->upd J l (.lst [.ref q,.ref n]) b=some o:=λ{b o} e=>by rw[aC λz=>by rw[z,nl]at e;cases e];exact e
  have Z:j≠m:=λz=>by rw[<-z,p]at g;cases g
  refine L.nx _ _ _ _ (R.newraw (λb o e=>r (t _ _ (s _ _ e))) (λd kvs z=>?_) λb o z=>?_) (h l q c j n a m Z)
  .simp only[IT,OW,KB,or_false]at z;rcases z with ⟨rfl,rfl⟩ |⟨rfl,rfl⟩
   .exact⟨rfl,I,r (t _ _ p)⟩
   .exact⟨rfl,s.free g,r G⟩
  .simp only[IT,OW,KB,or_false]at z;rcases z with ⟨rfl,rfl⟩ |⟨rfl,rfl⟩ |⟨rfl,rfl⟩
   .exact⟨s.free (t.free nl),aA,nofun⟩
   .exact⟨u,r (t _ _ y),nofun⟩
   .exact⟨s.free B,r v,nofun⟩
theorem Ga(t:ps[i]?=some (some (.raw v0 obs [(d1,k1),(d2,k2)])))(F:d1≠d2)(u:i≠j)(M:X.N.Nodup)(C:X.N[j]?=some x)(B:Loc X.env.scope x)(I:j<ps.length)
  (h:∀l a c,[d1,d2,a,c].Nodup->D.nx ((ps.set i (some (.raw v0 obs []))).set j (some (.raw (.ref l) [(l,.lst [.ref a,.ref c])] [(d1,k1),(d2,k2),(a,[]),(c,[])]))))
  (hs:autoParam (Kw (.List [.Dict [] [] q1,.Dict [] [] q2] lp') (some (.Name x p')) U4.line X.env=pure false) z0)
  (h1:autoParam (IY [.Dict [] [] q1,.Dict [] [] q2] X.env=(false,K0 (.Dict [] [] q1) X.env)::IY [.Dict [] [] q2] X.env) z0) (h2:autoParam (IY [.Dict [] [] q2] X.env=(false,K0 (.Dict [] [] q2) X.env)::IY [] X.env) z0)
  (hf:autoParam (X.fn x=true\/X.env.scope.names.lookup x=some .local) v3):W1 X H0 O0 E (.Assign [.Name x p'] (.List [.Dict [] [] q1,.Dict [] [] q2] lp') U4) D ps:=
 PS.mono (lZ M C B (tW (a9 mw (a9 mw cC h2) h1)) hs hf) λS T H A=>by
  obtain⟨L,O,R⟩:=A;intro a k c f;refine⟨(by decide:2<=sizeLine),λl nl=>?_⟩;have s:∀{b o},upd H a (.dK []) b=some o->upd (upd H a (.dK [])) c (.dK []) b=some o:=λ{b o} e=>by rw[aC λz=>by rw[z,f]at e;cases e];exact e
  have y:∀{b o},upd (upd H a (.dK [])) c (.dK []) b=some o->upd (upd (upd H a (.dK [])) c (.dK [])) l (.lst [.ref a,.ref c]) b=some o:=λ{b o} e=>by rw[aC λz=>by rw[z,nl]at e;cases e];exact e
  have g:aP H (upd H a (.dK [])):=aQ k _;have K:aP (upd H a (.dK [])) (upd (upd H a (.dK [])) c (.dK [])):=λb o e=>s e;have r:a≠c:=λz=>by rw[<-z,aA]at f;cases f
  obtain⟨Q,m,_⟩:=bj t (.head _) _ _ _ R;obtain⟨J,n,_⟩:=bj t (.tail _ (.head _)) _ _ _ R;have w:d1≠a:=λz=>by rw[z,k]at m;cases m
  have q:d2≠a:=λz=>by rw[z,k]at n;cases n
  have v:d1≠c:=λz=>by rw[z,g.free f]at m;cases m
  have p:d2≠c:=λz=>by rw[z,g.free f]at n;cases n
  have P:=R.newraw (i:=j) (v0:=.ref l) (obs:=[(l,.lst [.ref a,.ref c])]) (ds:=[(a,[]),(c,[])]) (λb o e=>y (s (g _ _ e))) (λd G z=>by
   simp only[IT,OW,KB,or_false]at z;rcases z with ⟨rfl,rfl⟩ |⟨rfl,rfl⟩
   .exact⟨rfl,k,y (s aA)⟩
   .exact⟨rfl,g.free f,y aA⟩) (λb o z=>by
   simp only[IT,OW,KB,or_false]at z;obtain⟨rfl,rfl⟩:=z;exact⟨g.free (K.free nl),aA,nofun⟩)
  have R2:=P.moveraw u (by rw[JA u.symm];exact t) (fE I);have e:=Ue (l:=ps) (some (Sl.raw (.ref l) [(l,.lst [.ref a,.ref c])] [(a,[]),(c,[])])) (some (Sl.raw v0 obs [])) u.symm;rw[e,List.set_set]at R2;exact L.nx _ _ _ _ R2 (h l a c (by simp[F,w,v,q,p,r]))
end
section
variable {X:Cx}{E:XK}{ps:PSt}{D:PD}{e:Expr}{U4 p U7:Pos}{u:U}{us:List U}{x m y:Str}{w:Bool}{C C' a d f:Jt}{kvs U6:List (Str×U)}{i j k:Nat}{fd:LO}{Va:Jt→List (Str×U)→List U→Out→Prop}{nx:PSt→Prop}{ex:PSt→Jt→Prop}{rest:List LS}
theorem vH{t2}(c:Cls X.K C)(W:pD X.K C m f)(F:bL X.prog X.w X.K X.mg X.base (CXF X.prog X.w) k f fd pn sp)(hr:bQ k X.A)(hb:b7 X.K fd pn [])(ha:PA X.nox (e::es) ta)(h2:TB X rest t2)
  (hN:X.N[i]?=some x) (hv:Vis X.env.scope x) (hNd:X.N.Nodup) (hj:X.N[j]?=some y) (hy:Loc X.env.scope y) (hf:X.fn y=true∨X.env.scope.names.lookup y=some .local) (hd:autoParam ((x==("__debug__":Str))=false) x4) (Vq:autoParam ((x==("__classdict__":Str))=false) x4)
  (Vp:autoParam (IY (e::es) X.env=(false,K0 e X.env)::IY es X.env) z0) (Vk:autoParam ((Kv U5 (IY es X.env)).any (·.1)=false) z0)
  (ht:autoParam (K0 (.Call (.Attribute (.Name x p) m U7) (e::es) [] U5) X.env=(do
   let ov <-K0 (.Name x p) X.env
   PY U7.atName
   let (f,first) <-OX [ov] (N6 ov m pl)
   P4 U5 f first (Kv U5 (IY (e::es) X.env)) (MU U5 (Ld [] X.env)))) z0)
  (Wh:autoParam (Kw (.Call (.Attribute (.Name x p) m U7) (e::es) [] U5) (some (.Name y yp)) epos.line X.env=pure false) z0):
  TB X (.Assign [.Name y yp] (.Call (.Attribute (.Name x p) m U7) (e::es) [] U5) epos::rest) (λN t b H=>∃v,b[i]?=some (some v)/\∃a R fs,v=.ref a/\H a=some (.ins C R fs)/\fs.lookup m=none/\ta b H λB d=>sp (.ref a::B) d (λv o=>t2 N t (b.set j (some v)) o) (t b)):=by
 intro M s b H N t Q E' I h q T;refine Qd (RX ?_ Wh);obtain⟨v,G,a,R,fs,rfl,E,l,q0⟩:=h;refine QC (K2 (c0 (X:=X.nox) hN hv hd Vq M s b H (λv d=>v=.ref a/\d=H) (I.wish _) ⟨.ref a,G,rfl,rfl⟩) (λu s1 z9=>?_) λ_ _ z=>z.elim) ht;obtain⟨xv,d,I1,rx,e1,e2⟩:=z9;subst e1 e2;obtain rfl:u=JR a:=rx;have U:=I1.unwish;refine lO U E c W l ?_;refine Pe I.ok.mod.kin W.kp (K2 (ha U5 M s1 b d _ (U.wish _) q0) (λus J ⟨B,o,S,r,P⟩=>⟨S.kIn,?_⟩) λ_ _ z=>z.elim) Vp Vk;have D:=S.unwish;have O:aY (V.ref a::B) (JR a::us):=.cons rfl r;have Vd:(JR a::us).length=pn.length:=by rw[<-O.length];exact F.len _ _ _ _ P
 have g:=hb J (.ref a::us) D.kIn (by rw[Km];exact Vd);rw[Km]at g;refine Py (Nf (F.run X.A X.stack J o ⟨.ref a::us,[]⟩ (.ref a::us) (.ref a::B) _ _ hr D.env0 g O P) λL s' n=>?_)
 cases L with
 |ok fl=>
  cases fl with
  |ret u=>
   obtain⟨v,H3,I3,rv,Y⟩:=D.after n;exact fM I3 hNd hj hy rv (λs4 Z=>h2 M s4 _ H3 N t Q E' Z Y q T) hf
  |next=>exact False.elim n
  |brk=>exact False.elim n
  |cont=>exact False.elim n
 |error ev=>exact T b J o ev s' D n
theorem EL(o:ps[i]?=some (some (.dsk true C a d kvs)))(U:Cls X.K C)(Y:pD X.K C m f)(F:bL X.prog X.w X.K X.mg X.base (CXF X.prog X.w) k f fd pn (spD X.K true C Va))(T:bQ k X.A)(l:b7 X.K fd pn [])(S:EvA X.nox H0 O0 ps (e::es) us)(c:X.N.Nodup)(M:X.N[j]?=some y)(Z:Loc X.env.scope y)
  (VU:Va d kvs us (.dsk d u U6)) (h:Tb X H0 O0 rest nx ex ((ps.set i (some (.dsk true C a d U6))).set j (some (.val u)))) (h1:autoParam (A8 ps i=true) z0) (hf:autoParam (X.fn y=true\/X.env.scope.names.lookup y=some .local) v3)
  (We:autoParam ((m==("lands":Str))=false) x4) (hN:autoParam (X.N[i]?=some x) z0) (hv:autoParam (Vis X.env.scope x) k6) (hd:autoParam ((x==("__debug__":Str))=false) x4) (Vq:autoParam ((x==("__classdict__":Str))=false) x4)
  (Vp:autoParam (IY (e::es) X.env=(false,K0 e X.env)::IY es X.env) z0) (Vk:autoParam ((Kv U5 (IY es X.env)).any (·.1)=false) z0)
  (ht:autoParam (K0 (.Call (.Attribute (.Name x p) m U7) (e::es) [] U5) X.env=(do
   let ov <-K0 (.Name x p) X.env
   PY U7.atName
   let (f,first) <-OX [ov] (N6 ov m pl)
   P4 U5 f first (Kv U5 (IY (e::es) X.env)) (MU U5 (Ld [] X.env)))) z0)
  (Wh:autoParam (Kw (.Call (.Attribute (.Name x p) m U7) (e::es) [] U5) (some (.Name y yp)) epos.line X.env=pure false) z0):
  Tb X H0 O0 (.Assign [.Name y yp] (.Call (.Attribute (.Name x p) m U7) (e::es) [] U5) epos::rest) nx ex ps:=
 TB.mono (vH U Y F T l S h hN hv c M Z hf hd Vq Vp Vk ht Wh) λN EX σ H D=>by
  obtain⟨G,b,O,R⟩:=D;obtain⟨v,g1,n,z,rfl,I,g4,t,L,B⟩:=R.at_ i _ o;refine⟨_,g1,a,n,_,rfl,t,by rw[Lw,We];rfl,O,R,λP W s r=>?_⟩;obtain⟨sub,q,Q⟩:=j9 (H:=W) I
  exact⟨a,n,d,z,kvs,P,us,O.filter (λb=>decide (b≠d)),.dsk d u U6,rfl,s _ _ t,s _ _ L,λb l=>(R.go s).dom b (JS.mp l).1,λ_=>Q,(B.same (aJ s)).same (aF sub),r.same (aF sub),VU,λv V H2 s2 g E J=>
   ⟨G,b,O,((R.go s).dsk2 o (lu h1) s2 g (E.same (aF q))).set (J.same (aF q))⟩⟩
theorem tJ(U:ps[i]?=some (some (.dsk w C a d kvs)))(hc:Cls X.K C)(hm:pD X.K C m f)(F:bL X.prog X.w X.K X.mg X.base (CXF X.prog X.w) k f fd pn (spD X.K false C Va))(hr:bQ k X.A)(g:b7 X.K fd pn [])(Y:EvA X.nox H0 O0 ps (e::es) us)(q:X.N.Nodup)(T:X.N[j]?=some y)(hy:Loc X.env.scope y)
  (VU:Va d kvs us o) (ho:(∃u,o=.val u/\Tb X H0 O0 rest nx ex (ps.set j (some (.val u))))\/∃C',o=.exc C'/\ex ps C') (hf:autoParam (X.fn y=true\/X.env.scope.names.lookup y=some .local) v3)
  (We:autoParam ((m==("lands":Str))=false) x4) (hN:autoParam (X.N[i]?=some x) z0) (hv:autoParam (Vis X.env.scope x) k6) (hd:autoParam ((x==("__debug__":Str))=false) x4) (Vq:autoParam ((x==("__classdict__":Str))=false) x4)
  (Vp:autoParam (IY (e::es) X.env=(false,K0 e X.env)::IY es X.env) z0) (Vk:autoParam ((Kv U5 (IY es X.env)).any (·.1)=false) z0)
  (ht:autoParam (K0 (.Call (.Attribute (.Name x p) m U7) (e::es) [] U5) X.env=(do
   let ov <-K0 (.Name x p) X.env
   PY U7.atName
   let (f,first) <-OX [ov] (N6 ov m pl)
   P4 U5 f first (Kv U5 (IY (e::es) X.env)) (MU U5 (Ld [] X.env)))) z0)
  (Wh:autoParam (Kw (.Call (.Attribute (.Name x p) m U7) (e::es) [] U5) (some (.Name y yp)) epos.line X.env=pure false) z0):
  Tb X H0 O0 (.Assign [.Name y yp] (.Call (.Attribute (.Name x p) m U7) (e::es) [] U5) epos::rest) nx ex ps:=
 TB.mono (vH (t2:=λN l n H=>∃p,Tb X H0 O0 rest nx ex p/\(∀p h c O,Rs X.K H0 O0 p h c O->nx p->N h c)/\(∀p h c O C,Rs X.K H0 O0 p h c O->ex p C->l h (.ref C) none c)/\∃O,Rs X.K H0 O0 p n H O) hc hm F hr g Y (λU_ s n H N l Q G I ⟨p,w,z⟩=>w U_ s n H N l Q G I z) hN hv q T hy hf hd Vq Vp Vk ht Wh) λN l n H L=>by
  obtain⟨na,b,O,R⟩:=L;obtain⟨v,h1,B,E,rfl,Z,h4,D,h6,J⟩:=R.at_ i _ U;refine⟨_,h1,a,B,_,rfl,D,by rw[Lw,We];rfl,O,R,λW c s r=>?_⟩
  have sub:∀b∈d::O,b∈O:=λb g=>by
   rcases IT.mp g with y |y
   .subst y;exact Z
   .exact y
  refine⟨a,B,d,E,kvs,W,us,O,o,rfl,s _ _ D,s _ _ h6,(R.go s).dom,nofun,(J.same (aJ s)).same (aF sub),r.same (aF sub),VU,?_⟩;rcases ho with ⟨u,rfl,V⟩ |⟨C',rfl,P⟩
  .exact λv M t S=>⟨_,V,na,b,O,(R.go (s.trans t)).set (S.same (aF λb g=>IS _ g))⟩
  .exact λM t=>b _ _ _ O C' (R.go (s.trans t)) P
theorem Cj:OpR X (Nt .Mult) (λv w H Q=>∃x n,v=.str x/\w=.int n/\MulOk x n/\Q (.str (Txt.mul x n)) H):=by
 intro j s i H v w a b Q I d e h;obtain⟨x,n,rfl,rfl,c,q⟩:=h;obtain⟨t,rfl⟩:=d;obtain⟨g,rfl⟩:=e;exact SB.mul c λf k=>⟨.str (Txt.mul x n),H,I.tok k,⟨f,rfl⟩,q⟩
theorem BC(f:Ev X H0 O0 ps e (.str x))(c:Ev X H0 O0 ps b (.int n))(a:MulOk x n):Ev X H0 O0 ps (.BinOp e .Mult b U4) (.str (Txt.mul x n)):=
 PE.mono (o0 Cj f c) λi H Q ⟨O,R,k⟩=>two R (λ_ _ _ z=>z) (λ_ _ _ z=>z) λv w d s _ g h=>by
  cases g;cases h;exact⟨x,n,rfl,rfl,a,k _ d s (.str _)⟩
end
noncomputable def srtS (c:List Str):List Str:=c.mergeSort λa b=>decide (a.cps.toList<=b.cps.toList)
theorem j5(ss):(srtS ss).Perm ss:=List.mergeSort_perm ss _
theorem Ca(ss):(srtS ss).Pairwise λa b=>a.cps.toList<=b.cps.toList:=by
 have:=List.pairwise_mergeSort (le:=λa b:Str=>decide (a.cps.toList<=b.cps.toList)) (λa b c d e=>decide_eq_true (Uq (of_decide_eq_true d) (of_decide_eq_true e))) (λa b=>by
  rcases List.le_total a.cps.toList b.cps.toList with z |z
  .simp[z]
  .simp[z]) ss
 exact this.imp λh=>of_decide_eq_true h
theorem oj:∀p l,risingS p l=true->(p::l).Pairwise λa b=>a.cps.toList<=b.cps.toList
 |p,[],_=>List.pairwise_singleton _ _
 |p,x::r,h=>by
  have h':(!ltCps x.cps.toList p.cps.toList && risingS x r)=true:=h;rw[KU,ltCps_eq,Ol,decide_eq_false_iff_not]at h';have d:=oj x r h'.2;refine J0.mpr ⟨λz c=>?_,d⟩
  rcases IT.mp c with rfl |c
  .exact h'.1
  .exact Uq h'.1 ((J0.mp d).1 z c)
theorem rn{α:Type}{r:α->α->Prop}(d:∀a b,r a b->r b a->a=b):∀{l m},RM l m->l.Pairwise r->m.Pairwise r->l=m
 |[],m,p,_,_=>p.nil_eq
 |x::l,[],p,_,_=>by have:=p.length_eq;simp at this
 |x::l,y::m,p,h1,h2=>by
  obtain⟨g,f⟩:=J0.mp h1;obtain⟨h,i⟩:=J0.mp h2
  have e:x=y:=by
   rcases IT.mp (p.mem_iff.mpr (IW)) with e |e
   .exact e.symm
   .rcases IT.mp (p.mem_iff.mp (IW)) with c |c
    .exact c
    .exact d x y (g y e) (h x c)
  subst e;rw[rn d (List.Perm.cons_inv p) f i]
theorem BN{a b:Str}(h:a.cps.toList=b.cps.toList):a=b:=by
 cases a;cases b;congr 1;exact NT.mp h
theorem yZ(p:l.Perm ss)(h:sortedS l=true):l=srtS ss:=by
 refine rn (λa b c d=>BN (List.le_antisymm c d)) (p.trans (j5 ss).symm) ?_ (Ca ss);cases l with
 |nil=>exact .nil
 |cons x r=>exact oj x r h
end L2
namespace L2
open PySem PySem.Spec PySem.W PyProof.Rows PySem.Calls
theorem wF:∀{b}{a},b.length=a.length->(∀(i:Nat) v x,b[i]?=some v->a[i]?=some x->∃t,v=.str x t)->StrsAre b a
 |[],[],_,_=>.nil
 |[],_::_,h,_=>by simp at h
 |_::_,[],h,_=>by simp at h
 |v::b,x::a,h,g=>by
  obtain⟨t,rfl⟩:=g 0 v x rfl rfl;exact .cons x t (wF (by simpa using h) λi v y c d=>g (i+1) v y (by simpa using c) (by simpa using d))
section
variable {prog:Jr}{w:J5}{A:Kb}{E:Je→Jd→Prop}{s:Jd}
theorem m7(L:A.handled=none)(D:(d==Mb)=false)(H:s.heap.DictAt (bU prog w) d kvs ep)(q:kvs.map (·.1)=ss.map Sum.inr)(O:ss.length<64)
  (h:∀(a m:Ma) n e out,StrsAre out (srtS ss)→(∀b o,s.heap.get? b=some o→a.get? b=some o)→(∀b o,a.get? b=some o→m.get? b=some o)→m.get? a.objs.size=some (SA "list" out.toArray e)→Q (.ref a.objs.size) {s with heap:=m,toks:=n }):
  JN (JE prog w) A (call (.builtin "sorted") [.ref d]) Q E s:=by
 have f:kvs.length=ss.length:=by have:=congrArg P5 q;simpa using this
 refine call_function_entry kind_sorted plain_sorted entry_sorted (args_sorted1 _) ?_;refine IP (IX ?_);refine IP (kdu_collect (kdl_dict D) L H (by rw[f,Lc];lia) λa n c keep p=>?_);have r:c.toList.length=ss.length:=by rw[Jg,p.1,f]
 have l:=wF r λi v x F K=>by
  obtain⟨k,y,a,N⟩:=p.2 i v (by rw[<-J9];exact F);have g:(kvs.map (·.1))[i]?=some k:=by rw[I0,a];rfl
  rw[q,I0,K]at g;cases g;exact Rj N
 refine IP (RR ?_ (by rw[r,Lc];lia));have j:(a.push {cls:=.type "list",data:=.seq c.toList.toArray }).get? a.objs.size=some (SA "list" c.toList.toArray 0):=Jm _ rfl;refine IP (Ko (LU TY ⟨_,j,rfl⟩ Tj ?_ (TZ _)));refine list_sort_treeK strKind_oneLt j l.keysOf (λB z rest e=>keyKind_strs (by rw[<-e];exact l)) (by lia) λR g G=>⟨_,rfl,IX ⟨_,rfl,?_⟩⟩
 obtain⟨C,P,I,M⟩:=sorted_out_str l g G;obtain rfl:=yZ I M;obtain⟨e,J⟩:=sortedHeap_at j;refine h a _ n e _ P keep (λb x t=>?_) (by rw[Ra];exact J);have u:=Jc t;rw[T3 (Jv u) (by rw[Ll];exact LA u)];exact IU _ t
end
theorem xy:∀{b}{a},StrsAre b a->aY (a.map V.str) b:=λ{b a} h=>by
 induction h with
 |nil=>exact .nil
 |cons _ _ _ h=>exact .cons ⟨_,rfl⟩ h
section
variable {X:Cx}{H0:Hp}{O0:List Jt}{ps:PSt}{e:Expr}{d:Jt}{kvs:List (Str×U)}{U4 p:Pos}
theorem vG(N:X.calm=true)(G:Gl X "sorted")(T:X.mg "sorted"=none)(D:k8 X.K H0 O0 ps d kvs)(P:At X H0 O0 ps e d)(F:kvs.length<64)
  (he:autoParam (IY [e] X.env=(false,K0 e X.env)::IY [] X.env) z0):EvN X H0 O0 ps (.Call (.Name "sorted" p) [e] [] U4) ((srtS (kvs.map (·.1))).map U.str):=by
 rintro Z s M H Q I ⟨O,R,q⟩;have E:=I.ok.hd N;refine Kn (de I G T boot_sorted ?_);refine callWith_builtin1 (thn (a9 P cC he U4 Z s M H (λl a=>l=[.ref d]/\aP H a) I ⟨O,R,λa k=>⟨rfl,k⟩⟩) λus k w=>?_) he rfl;obtain⟨l,a,i,r,rfl,g⟩:=w;obtain⟨u,rfl,ru⟩:=d8 r;cases ru;obtain⟨b,g1,S,_⟩:=D _ _ _ (R.go g);obtain⟨z1,J,W,L,B⟩:=yY i.hok g1;obtain⟨ep,A⟩:=B.dictAt
 have z:W.map (·.1)=(kvs.map (·.1)).map Sum.inr:=by
  rw[<-L.keys];refine DkR.ind (p:=λb kvs=>b.map (·.1)=(kvs.map (·.1)).map Sum.inr) rfl (λv x u b kvs _ _ o=>?_) S;rw[JF,JF,JF,o]
 have f:(srtS (kvs.map (·.1))).length=kvs.length:=by rw[(j5 _).length_eq,IM]
 refine m7 E J A z (by rw[IM];exact F) λm h' Y c out C y n t=>?_;have h:=i.kept (t':=Y) y;have j:=h.hok.fresh (IV _);refine⟨.ref m.objs.size,upd a m.objs.size (.lst ((srtS (kvs.map (·.1))).map V.str)),h.laid n (IV _) ⟨?_,out,c,xy C,t⟩,rfl,q _ _ _ (g.trans (aQ j _)) (g.free j) aA (lY _)⟩;rw[IM,f,Lc];lia
end
end L2
local macro_rules | `(tactic|walk_at"sz")=>`(tactic|first |with_reducible assumption | ((with_reducible apply L2.Sz.sub') <;>walk_at"sz") | ((with_reducible apply L2.Sz.add') <;>walk_at"sz") | ((with_reducible apply L2.Sz.mul) <;>walk_at"sz") | ((with_reducible apply L2.Sz.neg) <;>walk_at"sz") | ((with_reducible apply L2.Sz.ediv) <;>walk_at"sz") | ((with_reducible apply L2.Sz.abs) <;>walk_at"sz") |exact L2.Sz.lit (m:=8) (by decide) |exact L2.Sz.emod (m:=250) (by decide) (by decide) |exact L2.Sz.lit (m:=250) (by decide))
local macro_rules | `(tactic|walk_at"mul")=>`(tactic|exact L2.Sz.ok (by walk_at"sz") (by walk_at"sz") (by decide))
local macro_rules | `(tactic|walk_at"div")=>`(tactic|first |exact⟨by decide,L2.Sz.mono (m:=250) (by decide) (by decide)⟩ |exact⟨by lia,L2.Sz.mono (by walk_at"sz") (by decide)⟩)
local macro_rules | `(tactic|walk_at"mod")=>`(tactic|first |decide |lia)
local macro_rules | `(tactic|walk_at"szb")=>`(tactic|exact L2.Sz.mono (by walk_at"sz") (by decide))
local macro_rules | `(tactic|walk_at"kit")=>`(tactic|first |exact L2.kit_int_int _ |exact L2.kit_int_bool _ |exact L2.kit_tuple_tuple _ |exact L2.kit_list_list _ |exact L2.kit_bool_int _ |exact L2.kit_list_tuple _ |rfl)
local macro_rules | `(tactic|walk_at"ok")=>`(tactic|first |rfl |decide)
local macro_rules | `(tactic|walk_at"sub")=>`(tactic|first |exact trivial | (refine⟨rfl,?_⟩;walk_at"sub") | (with_reducible apply L2.SubP.skip;walk_at"sub"))
local macro_rules | `(tactic|walk_at"len")=>`(tactic|first |decide | (simp only[List.length_append,List.length_cons,List.length_nil,List.length_map];decide))
local macro_rules | `(tactic|walk_at"ln")=>`(tactic| (intro us o h;(repeat (obtain⟨_,h⟩:=h));subst_vars;rfl))
namespace My
open PySem PySem.Spec PyProof.Rows L2
noncomputable def top(i:Nat):LS:=PySem.Challenge.pw_stakefield_k74_whole_fields_kept.main.body.getD i (.Pass ⟨0,0,0,0⟩)
noncomputable def zG:LS->List LS
 | .ClassDef _ _ _ b _ _ _ _ _ _ _=>b
 |_=>[]
noncomputable abbrev mI:LS:=top 14
noncomputable abbrev ym:LS:=top 15
noncomputable abbrev tH:LS:=top 16
noncomputable abbrev AD:LS:=top 19
noncomputable abbrev jZ:LS:=top 20
noncomputable abbrev ky:LS:=top 21
noncomputable abbrev sX:LS:=top 22
noncomputable abbrev vI:LS:=top 23
noncomputable abbrev uY:LS:=top 26
noncomputable abbrev yU:LS:=top 29
noncomputable abbrev jI:LS:=top 30
noncomputable abbrev vP:LS:=top 31
noncomputable abbrev vi:LS:=top 32
noncomputable abbrev fm:LS:=top 35
noncomputable abbrev zM:LS:=top 36
noncomputable abbrev fu:LS:=top 37
noncomputable abbrev uy:LS:=top 39
noncomputable abbrev zh:LS:=top 40
noncomputable abbrev uB:LS:=top 41
noncomputable abbrev mB:LS:=top 42
noncomputable abbrev o4:LS:=top 43
noncomputable abbrev mG:LS:=top 44
noncomputable abbrev kH:LS:=top 81
noncomputable abbrev cE:LS:=top 82
noncomputable abbrev iA:LS:=top 83
noncomputable abbrev jO:LS:=top 84
noncomputable abbrev iE:LS:=top 85
noncomputable abbrev jD:LS:=top 86
noncomputable abbrev fj:LS:=top 87
noncomputable abbrev kC:LS:=top 101
noncomputable abbrev qP:LS:=top 102
noncomputable abbrev hV:LS:=top 103
noncomputable abbrev dY:LS:=top 104
noncomputable abbrev Be:LS:=top 105
noncomputable abbrev mM:LS:=top 106
noncomputable abbrev sY:LS:=top 111
noncomputable abbrev kQ:LS:=top 114
noncomputable abbrev kT:LS:=top 115
noncomputable abbrev kM:LS:=top 116
noncomputable abbrev gL:LS:=top 117
noncomputable abbrev ko:LS:=top 118
noncomputable abbrev i5:LS:=top 119
noncomputable abbrev iF:LS:=top 120
noncomputable abbrev kL:LS:=top 121
noncomputable abbrev fY:LS:=top 122
noncomputable abbrev gN:LS:=top 123
noncomputable abbrev nK:LS:=top 124
noncomputable abbrev gv:LS:=top 125
noncomputable abbrev gQ:LS:=top 126
noncomputable abbrev eU:LS:=top 127
noncomputable abbrev jW:LS:=top 128
noncomputable abbrev iK:LS:=top 129
noncomputable abbrev iQ:LS:=top 130
noncomputable abbrev nL:LS:=top 131
noncomputable abbrev kG:LS:=top 132
noncomputable abbrev vN:LS:=top 133
noncomputable abbrev kO:LS:=(zG (top 112)).getD 0 (.Pass ⟨0,0,0,0⟩)
noncomputable abbrev kj:LS:=(zG (top 112)).getD 1 (.Pass ⟨0,0,0,0⟩)
noncomputable abbrev kW:LS:=(zG (top 112)).getD 2 (.Pass ⟨0,0,0,0⟩)
noncomputable abbrev ku:LS:=(zG (top 112)).getD 3 (.Pass ⟨0,0,0,0⟩)
noncomputable abbrev eJ:LS:=(zG (top 112)).getD 4 (.Pass ⟨0,0,0,0⟩)
noncomputable def dN:List (Str×Str):=[("field","NEW P"),("move","NEW ONE A B C D E F"),("fold","NEW ONE K"),("sum","NEW ONE OTHER"),("form","NEW ONE"),("facing","NEW ONE"),("drop","ONE"),("names",""),("show","ONE"),("area","ONE"),("rim","ONE"),("count","ONE K"),("inner","ONE K"),("mixed","ONE OTHER"),("share","ONE A B C"),("where","ONE P"),("tell","ONE K P"),("alike","ONE OTHER"),("thin","ONE")]
theorem sH:aq ["thing"] ["thing"] (ah mI):=by walk_at"sC"
theorem Cz:aq ["number"] ["number"] (ah ym):=by walk_at"sC"
theorem bK:aq ["a","b","high","high_times","low","low_times","fits","rest","rest_times","s"] ["a","b"] (ah tH):=by walk_at"sC"
theorem Db:aq ["move"] ["move"] (ah AD):=by walk_at"sC"
theorem l_:aq ["thing","number"] ["thing"] (ah jZ):=by walk_at"sC"
theorem qk:aq ["thing"] ["thing"] (ah ky):=by walk_at"sC"
theorem xK:aq ["P","move"] ["P","move"] (ah sX):=by walk_at"sC"
theorem rl:aq ["P","move","place"] ["P","move"] (ah vI):=by walk_at"sC"
theorem zT:aq ["P","Q"] ["P","Q"] (ah uY):=by walk_at"sC"
theorem Cf:aq ["P","Q","R"] ["P","Q","R"] (ah yU):=by walk_at"sC"
theorem fe:aq ["row","kept","P"] ["row"] (ah jI):=by walk_at"sC"
theorem ig:aq ["points","row","there","back"] ["points"] (ah vP):=by walk_at"sC"
theorem Bi:aq ["land"] ["land"] (ah vi):=by walk_at"sC"
theorem eR:aq ["land","A","B"] ["land"] (ah fm):=by walk_at"sC"
theorem ua:aq ["land","A","B"] ["land"] (ah zM):=by walk_at"sC"
theorem gP:aq ["land","move","P"] ["land","move"] (ah fu):=by walk_at"sC"
theorem wy:aq ["land","k","P"] ["land","k"] (ah uy):=by walk_at"sC"
theorem Cc:aq ["P","Q"] ["P","Q"] (ah zh):=by walk_at"sC"
theorem pZ:aq ["land","A","B"] ["land"] (ah uB):=by walk_at"sC"
theorem r_:aq ["way","other_way"] ["way","other_way"] (ah mB):=by walk_at"sC"
theorem eP:aq ["some","others","row","done","way"] ["some","others"] (ah o4):=by walk_at"sC"
theorem du:aq ["one","other","place","points","way"] ["one","other"] (ah mG):=by walk_at"sC"
theorem p_:aq ["thing"] ["thing"] (ah kH):=by walk_at"sC"
theorem ck:aq ["text","figures","sign"] ["text"] (ah cE):=by walk_at"sC"
theorem mR:aq ["text"] ["text"] (ah iA):=by walk_at"sC"
theorem iI:aq ["text","parts"] ["text"] (ah jO):=by walk_at"sC"
theorem nN:aq ["number"] ["number"] (ah iE):=by walk_at"sC"
theorem nQ:aq ["P"] ["P"] (ah jD):=by walk_at"sC"
theorem hJ:aq ["points","P"] ["points"] (ah fj):=by walk_at"sC"
theorem i8:aq ["row","words"] ["row"] (ah kC):=by walk_at"sC"
theorem c9:aq ["words","kinds","many","more"] ["words"] (ah qP):=by walk_at"sC"
theorem gd:aq ["word","letters","sign"] ["word"] (ah hV):=by walk_at"sC"
theorem dw:aq ["land","numbers","P","number"] ["land"] (ah dY):=by walk_at"sC"
theorem B4:aq ["deed","given"] ["deed","given"] (ah Be):=by walk_at"sC"
theorem rQ:aq ["deed","given"] ["deed","given"] (ah mM):=by walk_at"sC"
theorem wI:aq ["deed","given"] ["deed","given"] (ah sY):=by walk_at"sC"
theorem pC:aq ["script","k"] ["script","k"] (ah kQ):=by walk_at"sC"
theorem pO:aq ["a","b","p"] ["a","b","p"] (ah kT):=by walk_at"sC"
theorem gf:aq ["points","way","p"] ["points"] (ah kM):=by walk_at"sC"
theorem dI:aq ["points","some"] ["points"] (ah gL):=by walk_at"sC"
theorem dL:aq ["cell","size","place","sign_v"] ["cell"] (ah ko):=by walk_at"sC"
theorem n9:aq ["cell","k"] ["cell","k"] (ah i5):=by walk_at"sC"
theorem bM:aq ["number","points","k","x","y"] ["number"] (ah iF):=by walk_at"sC"
theorem gh:aq ["number","m","e"] ["number"] (ah kL):=by walk_at"sC"
theorem e_:aq ["points","x","y"] ["points"] (ah fY):=by walk_at"sC"
theorem cM:aq ["one","other"] ["one","other"] (ah gN):=by walk_at"sC"
theorem eX:aq ["land","total","k"] ["land"] (ah nK):=by walk_at"sC"
theorem iz:aq ["land","k"] ["land"] (ah gv):=by walk_at"sC"
theorem cZ:aq ["one","other","found","q","p"] ["one","other"] (ah gQ):=by walk_at"sC"
theorem ba:aq ["way","number","one","other","a","b","c","d","e","f","x","y","times_v"] ["way","number","one","other"] (ah eU):=by walk_at"sC"
theorem nP:aq ["number"] ["number"] (ah jW):=by walk_at"sC"
theorem dF:aq ["way","number","names","new","one","other","part"] ["way","number","names"] (ah iK):=by walk_at"sC"
theorem bJ:aq ["way","number","lands","names","new","one","other","land","x","y"] ["way","number","lands","names"] (ah iQ):=by walk_at"sC"
theorem bA:aq ["desk","row","found","e"] ["desk","row"] (ah nL):=by walk_at"sC"
theorem qA:aq ["due"] ["due"] (ah kG):=by walk_at"sC"
theorem bZ:aq ["script","names","k","desks","kept","number","which","way","some","sizes","due","found","name"] ["script"] (ah vN):=by walk_at"sC"
theorem qz:aq ["self"] ["self"] (ah kO):=by walk_at"sC"
theorem pT:aq ["self","kind","word"] ["self","kind","word"] (ah kj):=by walk_at"sC"
theorem i6:aq ["self","name","land"] ["self","name","land"] (ah kW):=by walk_at"sC"
theorem qg:aq ["self","name"] ["self","name"] (ah ku):=by walk_at"sC"
theorem aV:aq ["self","row","words","kinds","given","kind","word"] ["self","row"] (ah eJ):=by walk_at"sC"
set_option genSizeOf false in
set_option genSizeOfSpec false in
structure Txt(w:J5)(K:IR)(mg:Str->Option Je) where
 aad:Jt
 abI:mg "Desk"=some (.ref aad)
 aai:Cls K aad
 aaw:gm K aad "lands"
 abC:∃a,mg "ROWS"=some (.ref a)∧wS w K a dN
 abf:Dfn K mg "is_whole" mI ["thing"]
 abJ:Dfn K mg "sign" ym ["number"]
 abt:Dfn K mg "shares" tH ["a","b"]
 abK:Dfn K mg "hand" AD ["move"]
 abn:Dfn K mg "is_move" jZ ["thing"]
 aa3:Dfn K mg "need_move" ky ["thing"]
 abu:Dfn K mg "turned" sX ["P","move"]
 abE:Dfn K mg "moved" vI ["P","move"]
 abF:Dfn K mg "steps" uY ["P","Q"]
 abL:Dfn K mg "turn" yU ["P","Q","R"]
 aaV:Dfn K mg "left_bends" jI ["row"]
 aaL:Dfn K mg "field" vP ["points"]
 abG:Dfn K mg "sides" vi ["land"]
 aaM:Dfn K mg "double_area" fm ["land"]
 abU:Dfn K mg "rim" zM ["land"]
 aaN:Dfn K mg "field_moved" fu ["land","move"]
 abM:Dfn K mg "fold" uy ["land","k"]
 abN:Dfn K mg "plus" zh ["P","Q"]
 abO:Dfn K mg "ways" uB ["land"]
 abg:Dfn K mg "no_later" mB ["way","other_way"]
 abo:Dfn K mg "in_turn" o4 ["some","others"]
 abh:Dfn K mg "together" mG ["one","other"]
 aa4:Dfn K mg "need_text" kH ["thing"]
 aax:Dfn K mg "is_written_number" cE ["text"]
 aaO:Dfn K mg "read_number" iA ["text"]
 aaW:Dfn K mg "read_point" jO ["text"]
 aaP:Dfn K mg "show_number" iE ["number"]
 aaX:Dfn K mg "show_point" jD ["P"]
 aaQ:Dfn K mg "show_points" fj ["points"]
 aa5:Dfn K mg "row_words" kC ["row"]
 abv:Dfn K mg "wanted" qP ["words"]
 aa6:Dfn K mg "need_name" hV ["word"]
 aan:Dfn K mg "need_fit" dY ["land"]
 abP:Dfn K mg "made" Be ["deed","given"]
 abi:Dfn K mg "reckoned" mM ["deed","given"]
 abw:Dfn K mg "answer" sY ["deed","given"]
 aa7:Dfn K mg "_law_cell" kQ ["script","k"]
 aa8:Dfn K mg "_law_side" kT ["a","b","p"]
 aa9:Dfn K mg "_law_half" kM ["points"]
 aaH:Dfn K mg "_law_corners" gL ["points"]
 aa_:Dfn K mg "_law_name" ko ["cell"]
 aaY:Dfn K mg "_law_mixed" i5 ["cell","k"]
 aaR:Dfn K mg "_law_points" iF ["number"]
 aba:Dfn K mg "_law_move" kL ["number"]
 aaZ:Dfn K mg "_law_shown" fY ["points"]
 aaI:Dfn K mg "_law_divisor" gN ["one","other"]
 abj:Dfn K mg "_law_rim" nK ["land"]
 aa0:Dfn K mg "_law_twice" gv ["land"]
 abb:Dfn K mg "_law_sums" gQ ["one","other"]
 abc:Dfn K mg "_law_made" eU ["way","number","one","other"]
 aa1:Dfn K mg "_law_times" jW ["number"]
 abk:Dfn K mg "_law_row" iK ["way","number","names"]
 aao:Dfn K mg "_law_due" iQ ["way","number","lands","names"]
 aaj:Dfn K mg "_law_ask" nL ["desk","row"]
 abd:Dfn K mg "_law_told" kG ["due"]
 abx:Dfn K mg "law" vN ["script"]
 aap:IDf K aad "__init__" "Desk.__init__" kO ["self"]
 aak:MDf K aad "read" "Desk.read" kj ["self","kind","word"]
 aaf:MDf K aad "keep" "Desk.keep" kW ["self","name","land"]
 aaq:MDf K aad "drop" "Desk.drop" ku ["self","name"]
 aac:MDf K aad "say" "Desk.say" eJ ["self","row"]
 aae:Exn mg "NoName"
 aby:RF K aae.c [.type "ValueError",.type "Exception",.type "BaseException",.type "object"] "ValueError.__new__"=true
 aaS:Exn mg "NoRow"
 aaG:Exn mg "NoText"
 aag:Exn mg "StakeError"
 aaa:Exn mg "TooGreat"
 abl:RF K aaa.c [.type "ValueError",.type "Exception",.type "BaseException",.type "object"] "ValueError.__new__"=true
 aa2:mg "abs"=none
 abQ:mg "all"=none
 abR:mg "bool"=none
 abS:mg "int"=none
 aab:mg "isinstance"=none
 aah:mg "len"=none
 abD:mg "list"=none
 abz:mg "max"=none
 abT:mg "min"=none
 aaC:mg "range"=none
 abm:mg "reversed"=none
 abA:mg "set"=none
 aau:mg "sorted"=none
 aaT:mg "str"=none
 abH:mg "sum"=none
 abp:mg "tuple"=none
 abB:mg "zip"=none
 aal:P3 K aag.c (.type "BaseException")=some true
 aaD:KS K (.ref aae.c) (.ref aae.c)=some true
 aaF:KS K (.ref aae.c) (.ref aaS.c)=some false
 aaE:KS K (.ref aae.c) (.ref aaG.c)=some false
 aay:KS K (.ref aae.c) (.ref aaa.c)=some false
 aaz:KS K (.ref aaa.c) (.ref aae.c)=some false
 aaB:KS K (.ref aaa.c) (.ref aaS.c)=some false
 aaA:KS K (.ref aaa.c) (.ref aaG.c)=some false
 aas:KS K (.ref aaa.c) (.ref aaa.c)=some true
 aat:P3 K aae.c (.ref aag.c)=some true
 aar:P3 K aaa.c (.ref aag.c)=some true
 aam:Tu K (.ref aag.c)=some (.type "type")
 abq:PySem.W.XcOk K aae.c
 abe:PySem.W.XcOk K aaa.c
 abr:∃t,mg "FIGURES"=some (.str "0123456789" t)
 aaJ:∃t,mg "MOST_CORNERS"=some (.int 60 t)
 aav:∃t,mg "MOST_FIGURES"=some (.int 60 t)
 aaK:∃t,mg "MOST_LETTERS"=some (.int 8 t)
 aaU:∃t,mg "MOST_POINTS"=some (.int 60 t)
section
variable {P:Jr}{w:J5}{K:IR}{mg:Str→Option Je}{base:Ma} (T:Txt w K mg)
noncomputable def sgn(n:Int):Int:=if 0<n then 1 else if n<0 then -1 else 0
noncomputable def cz(b:Int):Int:=if b<0 then -b else b
theorem e7(b):cz b=(b.natAbs:Int):=by unfold cz;split <;>lia
theorem md(h:b≠0):0<cz b:=by unfold cz;split <;>lia
theorem dC(d b):d ∣ cz b↔d ∣ b:=by
 unfold cz;split
 .exact Tn
 .exact Iff.rfl
theorem Ad(d b):cz b ∣ d↔b ∣ d:=by
 unfold cz;split
 .exact Int.neg_dvd
 .exact Iff.rfl
structure kJ(a b high ht low lt:Int):Prop where
 hp:0<high
 lo0:0<=low
 lolt:low<high
 dv:∀d,(d ∣ high/\d ∣ low)↔(d ∣ a/\d ∣ b)
 ch:b ∣ ht*a-high
 cl:b ∣ lt*a-low
 bd:ht.natAbs*low.natAbs+lt.natAbs*high.natAbs<=b.natAbs
 hi:high.natAbs<=b.natAbs
theorem sE(h:b≠0):kJ a b (cz b) 0 (a%cz b) 1:=by
 have g:=md h;refine⟨g,Ng _ (by lia),Mw _ g,λd=>?_,?_,?_,?_,by rw[e7];simp⟩
 .rw[dC];constructor
  .rintro ⟨c,f⟩;refine⟨?_,c⟩;have e:=MF a (cz b);rw[<-e];exact O6 f (La ((dC d b).mpr c) (Mg _ _))
  .rintro ⟨c,f⟩;refine⟨f,?_⟩;have e:a%cz b=a-cz b*(a/cz b):=by have:=MF a (cz b);lia
   rw[e];exact To c (La ((dC d b).mpr f) (Mg _ _))
 .rw[Ux,Int.zero_sub,Tn];exact (dC b b).mpr (Pi b)
 .have e:1*a-a%cz b=cz b*(a/cz b):=by have:=MF a (cz b);lia
  rw[e];exact La ((dC b b).mpr (Pi b)) (Mg _ _)
 .rw[e7];simp
theorem vL(I:kJ a b high ht low lt)(h:low≠0):kJ a b low lt (high-high/low*low) (ht-high/low*lt)/\high-high/low*low<low:=by
 obtain⟨v,g,k,o,u,m,j,x⟩:=I;have l:0<low:=by lia
 have e:=MF high low;have i:=Ng high h;have n:=Mw high l;have q:0<=high/low:=Int.ediv_nonneg (by lia) (by lia);have s:high-high/low*low=high%low:=by rw[SD];lia
 rw[s];refine⟨⟨l,i,n,λd=>?_,m,?_,?_,by lia⟩,n⟩
 .rw[<-o d];constructor
  .rintro ⟨f,c⟩;refine⟨?_,f⟩;rw[<-e];exact O6 c (La f (Mg _ _))
  .rintro ⟨f,c⟩;refine⟨c,?_⟩;rw[show high%low=high-low*(high/low) by lia];exact To f (La c (Mg _ _))
 .have r:(ht-high/low*lt) *a-high%low=(ht*a-high)-(high/low) *(lt*a-low):=by grind
  rw[r];exact To u (La m (Mr _ _))
 .have t:(ht-high/low*lt).natAbs<=ht.natAbs+(high/low).natAbs*lt.natAbs:=by
   have:=Int.natAbs_sub_le ht (high/low*lt);rw[Pn]at this;exact this
  have p:high.natAbs=(high%low).natAbs+low.natAbs*(high/low).natAbs:=by
   have:(high.natAbs:Int)=((high%low).natAbs+low.natAbs*(high/low).natAbs):=by
    push_cast
    rw[NL i,NL q,NL (by lia:0<=high),NL g];lia
   lia
  have w:(ht-high/low*lt).natAbs*low.natAbs<=(ht.natAbs+(high/low).natAbs*lt.natAbs) *low.natAbs:=NJ _ t;rw[p]at j;refine Jy ?_ j;generalize (ht-high/low*lt).natAbs=A at *;generalize ht.natAbs=B at *;generalize lt.natAbs=C at *;generalize low.natAbs=D at *;generalize (high/low).natAbs=E at *;generalize (high%low).natAbs=F at *;grind
structure mU(a b g s t:Int):Prop where
 g0:0<=g
 eq:s*a+t*b=g
 da:g ∣ a
 db:g ∣ b
 z:b=0->t=0/\s=sgn a/\g=cz a
 nz:b≠0->0<g/\0<=s/\s<cz b/g
theorem ox(a):mU a 0 (cz a) (sgn a) 0:=by
 refine⟨by unfold cz;split <;>lia,?_,(Ad a a).mpr (Pi a),Uy _,λ_=>⟨rfl,rfl,rfl⟩,λh=>absurd rfl h⟩;unfold sgn cz;split
 .split <;>lia
 .split
  .lia
  .lia
theorem Ap(i:b≠0)(I:kJ a b high ht 0 lt):mU a b high (ht%(cz b/high)) ((high-ht%(cz b/high) *a).fdiv b):=by
 obtain⟨s,v,m,q,u,z,x,y⟩:=I;obtain⟨r,l⟩:=(q high).mp ⟨Pi _,Uy _⟩;obtain⟨f,rfl⟩:=r;have j:=(dC _ _).mpr l;obtain⟨d,o⟩:=j;have p:=md i;have n:cz b/high=d:=by rw[o,PU _ (by lia)]
 have g:0<d:=by
  have:0<high*d:=by lia
  exact N2 this (by lia)
 rw[n];have w:=MF ht d
 have k:b ∣ high-ht%d*(high*f):=by
  have e:high-ht%d*(high*f)=-(ht*(high*f)-high)+cz b*(f*(ht/d)):=by
   rw[o,show ht%d=ht-d*(ht/d) by lia];grind
  rw[e];refine O6 (Tn.mpr u) (La ((dC b b).mpr (Pi b)) (Mg _ _))
 refine⟨by lia,?_,Mg _ _,l,λh=>absurd h i,λ_=>⟨s,Ng _ (by lia),?_⟩⟩
 .obtain⟨c,t⟩:=k;rw[t,Int.mul_fdiv_cancel_left _ i,SD c b];lia
 .rw[n];exact Mw _ g
theorem Hd(I:kJ a b high ht low lt):lt.natAbs<=b.natAbs:=by
 have c:1<=high.natAbs:=by have:=I.hp;lia
 have d:lt.natAbs*1<=lt.natAbs*high.natAbs:=Nat.mul_le_mul_left _ c;have:=I.bd;lia
theorem Az(h:mU a b g s t)(h':mU a b g' s' t'):g=g'/\s=s'/\t=t':=by
 have m:g ∣ g':=by rw[<-h'.eq];exact O6 (La h.da (Mr _ _)) (La h.db (Mr _ _))
 have o:g' ∣ g:=by rw[<-h.eq];exact O6 (La h'.da (Mr _ _)) (La h'.db (Mr _ _))
 have w:=SN h.g0 h'.g0 m o;subst w;by_cases hb:b=0
 .obtain⟨E,C,_⟩:=h.z hb;obtain⟨u,k,_⟩:=h'.z hb;exact⟨rfl,by lia,by lia⟩
 .obtain⟨p,D,A⟩:=h.nz hb;obtain⟨_,y,l⟩:=h'.nz hb;obtain⟨e,ha⟩:=h.da;obtain⟨i,j⟩:=(dC g b).mpr h.db;obtain⟨c,d⟩:=h.db;have B:cz b/g=i:=by rw[j,PU _ (by lia)]
  have n:=h.eq;have r:=h'.eq
  have u:s*e+t*c=1:=by
   have:g*(s*e+t*c)=g*1:=by rw[ha,d]at n;grind
   exact NP (by lia) this
  have k:s'*e+t'*c=1:=by
   have:g*(s'*e+t'*c)=g*1:=by rw[ha,d]at r;grind
   exact NP (by lia) this
  have x:c ∣ s-s':=by
   refine⟨s*(t'-t)+t*(s-s'),?_⟩;grind
  have q:i ∣ s-s':=by
   have:i.natAbs=c.natAbs:=by
    have f:(cz b).natAbs=b.natAbs:=by rw[e7];simp
    rw[j,d]at f;rw[Pn,Pn]at f;exact Nat.eq_of_mul_eq_mul_left (by lia) f
   exact QY.mp (by rw[this];exact QY.mpr x)
  have v:s=s':=by
   have:s-s'=0:=Int.eq_zero_of_dvd_of_natAbs_lt_natAbs q (by lia);lia
  subst v;refine⟨rfl,rfl,?_⟩;have:b*t=b*t':=by grind
  exact NP hb this
theorem Ek(i:b≠0):∀n high e low lt,low.toNat<=n->kJ a b high e low lt->∃c d f,kJ a b c d 0 f
 |0,high,e,low,lt,j,I=>by
  have:low=0:=by have:=I.lo0;lia
  subst this;exact⟨_,_,_,I⟩
 |n+1,high,e,low,lt,j,I=>by
  by_cases h:low=0
  .subst h;exact⟨_,_,_,I⟩
  .obtain⟨k,g⟩:=vL I h;exact Ek i n _ _ _ _ (by have:=I.lo0;lia) k
theorem DK(a b):∃g s t,mU a b g s t:=by
 by_cases hb:b=0
 .subst hb;exact⟨_,_,_,ox a⟩
 .obtain⟨h,c,lt,I⟩:=Ek hb _ _ _ _ _ (IV _) (sE hb);exact⟨_,_,_,Ap hb I⟩
def wR:List U->Out->Prop:=λa o=>∃n:Int,a=[.int n]/\o=.val (.int (sgn n))
theorem vd:OkD P w base T.abJ 1 (wR):=by
 refine okD Cz (by walk_at"ln") ?_;rintro _ _ _ d ⟨n,rfl,rfl⟩;refine ae (j_ (am fc (aa 0 rfl) af) (λb=>?_) (λc=>(au ?_)))
 .refine ae (aO af ?_);exact vIO (by unfold sgn;rw[if_pos (dTb b)])
 .refine ae (j_ (am fB (aa 0 rfl) af) (λb=>?_) (λc=>(au ?_)))
  .refine ae (aO (fL af) ?_);exact vIO (by unfold sgn;rw[if_neg (dFb c),if_pos (dTb b)])
  .rename_i a
   refine ae (aO af ?_);exact vIO (by unfold sgn;rw[if_neg (dFb c),if_neg (dFb a)])
def sI:List U->Out->Prop:=λc o=>∃a b g s t:Int,c=[.int a,.int b]/\Sz 4000 a/\Sz 4000 b/\mU a b g s t/\o=.val (.tup [.int g,.int s,.int t])
theorem tw(G:mU a b g s t)(c:mU a b g' s' t'):Out.val (.tup [.int g,.int s,.int t])=Out.val (.tup [.int g',.int s',.int t']):=by
 obtain⟨rfl,rfl,rfl⟩:=Az G c;rfl
theorem xC:OkD P w base T.abt 2 (sI):=by
 refine okD bK (by walk_at"ln") ?_;rintro _ _ _ v ⟨a,b,g,s,t,rfl,x,d,G,rfl⟩;refine ae (j_ (am bw (aa 1 rfl) af) (λl=>?_) (λC=>(au ?_)))
 .have hb:=dTb l;subst hb;refine ae (aO (bF (ao (ay kN rfl T.aa2 PyProof.Rows.boot_abs (ag (aa 0 rfl) aj ai)) (ao (bx (vd T) v (ag (aa 0 rfl) aj ai) ⟨_,rfl,rfl⟩) (ao af a_ aU) aR) aR)) ?_);exact tw (ox a) G
 .have hb:=dFb C;have f:=md hb;refine ae (aB 2 bK.nd (ay kN rfl T.aa2 PyProof.Rows.boot_abs (ag (aa 1 rfl) aj ai)) ?_);refine ae (aB 3 bK.nd af ?_);refine ae (aB 4 bK.nd (b6 (aa 0 rfl) (aa 2 rfl) f) ?_);refine ae (aB 5 bK.nd af ?_);refine ae (gK (λm:Int×Int×Int×Int=>[some (.val (.int a)),some (.val (.int b)),some (.val (.int m.1)),some (.val (.int m.2.1)),some (.val (.int m.2.2.1)),some (.val (.int m.2.2.2)),none,none,none,none]) (λn m=>n=m.2.2.1.toNat/\kJ a b m.1 m.2.1 m.2.2.1 m.2.2.2) PassesOwn.never ?h0 ?hs)
  case h0=>exact⟨_,(_,_,_,_),⟨rfl,sE hb⟩,rfl,rfl,rfl,rfl,rfl,rfl,trivial⟩
  case hs=>
   rintro m ⟨c,p,low,lt⟩ ⟨rfl,I⟩;dsimp only at I |-;have B:=I.lo0;have E:=I.lolt;have k:=d.natle I.hi;have F:Sz 4000 low:=k.natle (by lia);have q:=d.natle (Hd I);refine⟨_,(am tq (aa 4 rfl) af),λh=>?_,λh D r=>?_⟩
   .have e:=nTb h;obtain⟨o,i⟩:=vL I e;have y:(c-c/low*low).toNat<low.toNat:=by clear h;lia
    refine ae (aB 6 bK.nd (cV (aa 2 rfl) (aa 4 rfl) (by walk_at"div")) ?_);refine ae (aB 7 bK.nd (bp (aa 2 rfl) (bo (aa 6 rfl) (aa 4 rfl) (by walk_at"mul"))) ?_);refine ae (aB 8 bK.nd (bp (aa 3 rfl) (bo (aa 6 rfl) (aa 5 rfl) (by walk_at"mul"))) ?_);refine ae (aB 2 bK.nd (aa 4 rfl) ?_);refine ae (aB 3 bK.nd (aa 5 rfl) ?_);refine ae (aB 4 bK.nd (aa 7 rfl) ?_);refine ae (aB 5 bK.nd (aa 8 rfl) (au ?_));exact⟨_,(_,_,_,_),y,⟨rfl,o⟩,rfl,rfl,rfl,rfl,rfl,rfl,trivial⟩
   .have e:=nFb h;subst e;refine c4 ?_ r;have j:=Ap hb I;obtain⟨M,K,H⟩:=j.nz hb;have z:0<cz b/c:=by lia
    have u:=I.hp
    have A:Sz 4000 (p%(cz b/c)):=by
     refine d.natle ?_;have L:cz b/c<=cz b:=Int.ediv_le_self _ (by lia);have J:=e7 b;lia
    refine ae (aB 9 bK.nd (b6 (aa 3 rfl) (cV (ay kN rfl T.aa2 PyProof.Rows.boot_abs (ag (aa 1 rfl) aj ai)) (aa 2 rfl) ⟨u,k.mono (by decide)⟩) z) ?_);refine ae (aO (bF (ao (aa 2 rfl) (ao (aa 9 rfl) (ao (E8 (bp (aa 2 rfl) (bo (aa 9 rfl) (aa 0 rfl) (Sz.ok A x (by decide)))) (aa 1 rfl) ⟨hb,d.mono (by decide)⟩) a_ bh) ai) ai)) ?_);exact tw j G
noncomputable abbrev mv(a b c d e f:Int):U:=.tup [.int a,.int b,.int c,.int d,.int e,.int f]
structure Mv(a b c d e f:Int):Prop where
 u:a*d-b*c=1\/a*d-b*c=-1
 a:Sz 30000 a
 b:Sz 30000 b
 c:Sz 30000 c
 d:Sz 30000 d
 e:Sz 30000 e
 f:Sz 30000 f
def uA:List U->Out->Prop:=λa o=>∃n:Int,a=[.int n]/\o=.val (.bl true)
theorem tI:OkD P w base T.abf 1 (uA):=by
 refine okD sH (by walk_at"ln") ?_;rintro _ _ _ b ⟨n,rfl,rfl⟩;refine ae (aO (GJ (ay (gD (by intro _ h;cases h) (by walk_at"kit")) rfl T.aab K7 (ag (aa 0 rfl) (ag (zS rfl T.abS boot_int) aj ai) ai)) (λa=>(DV (HE (ay (gD (by intro _ h;cases h) (by walk_at"kit")) rfl T.aab K7 (ag (aa 0 rfl) (ag (zS rfl T.abR boot_bool) aj ai) ai)))))) ?_);exact rfl
def xH:List U->Out->Prop:=λg o=>∃a b c d e f,g=[mv a b c d e f]/\Sz 30000 a/\Sz 30000 b/\Sz 30000 c/\Sz 30000 d/\o=.val (.int (a*d-b*c))
theorem DH:OkD P w base T.abK 1 (xH):=by
 refine okD Db (by walk_at"ln") ?_;rintro _ _ _ h ⟨a,b,c,d,e,f,rfl,j,k,i,g,rfl⟩;refine ae (aO (bp (bo (aD (aa 0 rfl) af rfl rfl) (aD (aa 0 rfl) af rfl rfl) (by walk_at"mul")) (bo (aD (aa 0 rfl) af rfl rfl) (aD (aa 0 rfl) af rfl rfl) (by walk_at"mul"))) ?_);exact rfl
def pP:List U->Out->Prop:=λg o=>∃a b c d e f,g=[mv a b c d e f]/\Mv a b c d e f/\o=.val (.bl true)
theorem uC:OkD P w base T.abn 2 (pP):=by
 refine okD l_ (by walk_at"ln") ?_;rintro _ _ _ g ⟨a,b,c,d,e,f,rfl,M,rfl⟩;refine ae (aG (Tw.t (jN (lN (jh (ay (gD (by intro _ h;cases h) rfl) rfl T.aab K7 (ag (aa 0 rfl) (ag (zS rfl T.abp boot_tuple) aj ai) ai)))) (λm=>(fQ (am tq (ay (ci rfl) rfl T.aah JH (ag (aa 0 rfl) aj ai)) af))))) rfl (au ?_));refine ae (aG (lN (jh (ay (Ez rfl (bs:=[true,true,true,true,true,true])) rfl T.abQ boot_all (ag (EvN.ev (bP  rfl (blk (ah jZ) ["thing","number"] [1] rfl rfl rfl rfl (by decide+kernel)) (EvI.z (DZ (aa 0 rfl))) (λ_ _ _ _=>aE (i:=1) l_.nd rfl (Or.inl rfl)) (bR (by decide)) ?clen ?csz (λ_ _=>trivial) ?celt)) aj ce)))) rfl (au ?_))
 case clen=>rfl
 case csz=>show 6<=sizeLine;decide
 case celt=>
  intro C j o l i x y hx hy
  have k:∃n:Int,x=.int n/\y=.bl true:=by
   match i,hx,hy with
   |0,hx,hy=>cases hx;cases hy;exact⟨a,rfl,rfl⟩
   |1,hx,hy=>cases hx;cases hy;exact⟨b,rfl,rfl⟩
   |2,hx,hy=>cases hx;cases hy;exact⟨c,rfl,rfl⟩
   |3,hx,hy=>cases hx;cases hy;exact⟨d,rfl,rfl⟩
   |4,hx,hy=>cases hx;cases hy;exact⟨e,rfl,rfl⟩
   |5,hx,hy=>cases hx;cases hy;exact⟨f,rfl,rfl⟩
   |i+6,hx,hy=>cases hx
  obtain⟨n,rfl,rfl⟩:=k;exact (bx (tI T) g (ag (aa 1 rfl) aj ai) ⟨n,rfl,rfl⟩)
 refine ae (aO (eY (Bn rfl rfl rfl) (bx (DH T) g (ag (aa 0 rfl) aj ai) ⟨a,b,c,d,e,f,rfl,M.a,M.b,M.c,M.d,rfl⟩) (bF (ao af (ao (fL af) a_ Gb) aU))) ?_);refine vB ?_;rcases M.u with h |h <;>rw[h] <;>rfl
def xL:List U->Out->Prop:=λg o=>∃a b c d e f,g=[mv a b c d e f]/\Mv a b c d e f/\o=.val .non
theorem pf:OkD P w base T.aa3 3 (xL):=by
 refine okD qk (by walk_at"ln") ?_;rintro _ _ _ g ⟨a,b,c,d,e,f,rfl,M,rfl⟩;refine ae (aG (lN (jh (bx (uC T) g (ag (aa 0 rfl) aj ai) ⟨a,b,c,d,e,f,rfl,M,rfl⟩))) rfl (au (au ?_)));exact rfl
def ro:List U->Out->Prop:=λg o=>∃x y a b c d e f,g=[pt x y,mv a b c d e f]/\(Sz 30000 x/\Sz 30000 y/\Sz 30000 a/\Sz 30000 b/\Sz 30000 c/\Sz 30000 d)/\o=.val (pt (a*x+b*y) (c*x+d*y))
theorem xE:OkD P w base T.abu 1 (ro):=by
 refine okD xK (by walk_at"ln") ?_;rintro _ _ _ i ⟨x,y,a,b,c,d,e,f,rfl,⟨j,h,l,m,k,g⟩,rfl⟩;refine ae (aO (bF (ao (b_ (bo (aD (aa 1 rfl) af rfl rfl) (aD (aa 0 rfl) af rfl rfl) (by walk_at"mul")) (bo (aD (aa 1 rfl) af rfl rfl) (aD (aa 0 rfl) af rfl rfl) (by walk_at"mul"))) (ao (b_ (bo (aD (aa 1 rfl) af rfl rfl) (aD (aa 0 rfl) af rfl rfl) (by walk_at"mul")) (bo (aD (aa 1 rfl) af rfl rfl) (aD (aa 0 rfl) af rfl rfl) (by walk_at"mul"))) a_ bh) bh)) ?_);exact rfl
def uU:List U->Out->Prop:=λg o=>∃x y a b c d e f,g=[pt x y,mv a b c d e f]/\Mv a b c d e f/\Sz 30000 x/\Sz 30000 y/\o=.val (pt (a*x+b*y+e) (c*x+d*y+f))
theorem zV:OkD P w base T.abE 4 (uU):=by
 refine okD rl (by walk_at"ln") ?_;rintro _ _ _ g ⟨x,y,a,b,c,d,e,f,rfl,M,i,h,rfl⟩;refine ae (nO (bx (pf T) g (ag (aa 1 rfl) aj ai) ⟨a,b,c,d,e,f,rfl,M,rfl⟩) ?_);refine ae (aB 2 rl.nd (bx (xE T) g (ag (aa 0 rfl) (ag (aa 1 rfl) aj ai) ai) ⟨x,y,a,b,c,d,e,f,rfl,⟨i,h,M.a,M.b,M.c,M.d⟩,rfl⟩) ?_);refine ae (aO (bF (ao (b_ (aD (aa 2 rfl) af rfl rfl) (aD (aa 1 rfl) af rfl rfl)) (ao (b_ (aD (aa 2 rfl) af rfl rfl) (aD (aa 1 rfl) af rfl rfl)) a_ bh) bh)) ?_);exact rfl
theorem AF(G:mU a b g s t):g=((Rq a b:Nat):Int):=by
 have d:=Int.dvd_coe_gcd G.da G.db
 have c:((Rq a b):Int) ∣ g:=by
  rw[<-G.eq];exact O6 (La (Int.gcd_dvd_left ..) (Mr _ _)) (La (Int.gcd_dvd_right ..) (Mr _ _))
 exact SN G.g0 (Int.natCast_nonneg _) d c
theorem qU(a b):∃s t,mU a b ((Rq a b:Nat):Int) s t:=by
 obtain⟨g,s,t,G⟩:=DK a b;have e:=AF G;subst e;exact⟨s,t,G⟩
structure Iw(x0 y0 x1 y1:Int):Prop where
 s0:Sz 3000 x0
 t0:Sz 3000 y0
 s1:Sz 3000 x1
 t1:Sz 3000 y1
def tV:List U->Out->Prop:=λe o=>∃b c d a g s t:Int,e=[pt b c,pt d a]/\Iw b c d a/\mU (d-b) (a-c) g s t/\o=.val (.int g)
theorem sO:OkD P w base T.abF 3 (tV):=by
 refine okD zT (by walk_at"ln") ?_;rintro _ _ _ a ⟨e,f,h,i,g,s,t,rfl,⟨b,t0,d,c⟩,G,rfl⟩;refine ae (aO (aD (bx (xC T) a (ag (bp (aD (aa 1 rfl) af rfl rfl) (aD (aa 0 rfl) af rfl rfl)) (ag (bp (aD (aa 1 rfl) af rfl rfl) (aD (aa 0 rfl) af rfl rfl)) aj bh) bh) ⟨_,_,g,s,t,rfl,by walk_at"szb",by walk_at"szb",G,rfl⟩) af rfl rfl) ?_);exact rfl
abbrev Pt:=Int×Int
def plt(p q:Pt):Prop:=p.1<q.1\/(p.1=q.1/\p.2<q.2)
noncomputable def aK(a b p:Pt):Int:=(b.1-a.1) *(p.2-a.2)-(b.2-a.2) *(p.1-a.1)
theorem cx(e:plt a b)(d:plt b c):plt a c:=by unfold plt at *;lia
theorem bB(a):¬ plt a a:=by unfold plt;lia
theorem pe(a b):plt a b\/a=b\/plt b a:=by
 unfold plt;by_cases d:a.1=b.1
 .by_cases c:a.2=b.2
  .exact .inr (.inl (MB d c))
  .lia
 .lia
def fP(x y:Int):Prop:=0<x\/(x=0/\0<y)
theorem bG(h:plt a b):fP (b.1-a.1) (b.2-a.2):=by unfold plt fP at *;lia
theorem dt(j:fP u1 u2)(l:fP v1 v2)(k:fP w1 w2)(f:0<=u1*v2-u2*v1)(g:0<=v1*w2-v2*w1):0<=u1*w2-u2*w1:=by
 unfold fP at *;by_cases b:v1=0
 .subst b;have d:0<v2:=by lia
  have a:w1=0:=by
   by_cases c:0<w1
   .have:=MJ d c;lia
   .lia
  subst a;have:=Kp (show 0<=u1 by lia) (show 0<=w2 by lia);simp;lia
 .have h:0<v1:=by lia
  have e:v1*(u1*w2-u2*w1)=u1*(v1*w2-v2*w1)+w1*(u1*v2-u2*v1):=by grind
  have m:=Kp (show 0<=u1 by lia) g;have i:=Kp (show 0<=w1 by lia) f;have:0<=v1*(u1*w2-u2*w1):=by lia
  exact Int.nonneg_of_mul_nonneg_right this h
theorem eQ(g:fP u1 u2)(p:fP v1 v2)(o:fP w1 w2)(d:0<u1*v2-u2*v1)(l:0<=v1*w2-v2*w1):0<u1*w2-u2*w1:=by
 unfold fP at *;by_cases f:v1=0
 .subst f;have j:0<v2:=by lia
  have a:w1=0:=by
   by_cases i:0<w1
   .have:=MJ j i;lia
   .lia
  subst a;have c:0<w2:=by lia
  have b:0<u1:=by
   rcases g with h |⟨h,_⟩
   .exact h
   .subst h;simp at d
  have:=MJ b c;simp;lia
 .have m:0<v1:=by lia
  have e:v1*(u1*w2-u2*w1)=u1*(v1*w2-v2*w1)+w1*(u1*v2-u2*v1):=by grind
  have q:=Kp (show 0<=u1 by lia) l;by_cases a:w1=0
  .subst a;have c:0<w2:=by lia
   have b:0<u1:=by
    rcases g with h |⟨h,k⟩
    .exact h
    .subst h;have:=MJ k m;simp at d;lia
   have:=MJ b c;simp;lia
  .have n:=MJ (show 0<w1 by lia) d;have:0<v1*(u1*w2-u2*w1):=by lia
   exact N2 this (by lia)
noncomputable def o9:List Pt->Prop
 |b::a::r=>plt a b/\o9 (a::r)
 |_=>True
noncomputable def kB:List Pt->Prop
 |c::b::a::r=>0<aK a b c/\kB (b::a::r)
 |_=>True
noncomputable def iD(c:List Pt):List Pt->Prop
 |b::a::r=>(∀q∈c,0<=aK a b q)/\iD c (a::r)
 |_=>True
theorem kB.tail:∀{b}{a},kB (b::a)->kB a
 |_,[],_=>trivial
 |_,[_],_=>trivial
 |_,_::_::_,h=>h.2
theorem o9.tail:∀{b}{a},o9 (b::a)->o9 a
 |_,[],_=>trivial
 |_,_::_,h=>h.2
theorem iD.tail:∀{b}{a},iD done (b::a)->iD done a
 |_,[],_=>trivial
 |_,_::_,h=>h.2
noncomputable def bg(P:Pt):List Pt->List Pt
 |b::a::r=>if aK a b P<=0 then bg P (a::r) else b::a::r
 |st=>st
noncomputable def ak(a:List Pt):List Pt:=a.foldl (λb P=>P::bg P b) []
structure Kept(done st:List Pt):Prop where
 ne:st≠[]
 desc:o9 st
 turns:kB st
 cover:iD done st
 sub:∀p∈st,p∈done
structure wQ(done st:List Pt)(P:Pt):Prop extends Kept done st where
 pend:∀h r,st=h::r->∀q∈done,plt h q->0<=aK h P q
theorem x6{P b a:Pt}(i:∀q∈done,plt q P)(D:wQ done (b::a::r) P)(h:aK a b P<=0):wQ done (a::r) P:=by
 refine⟨⟨by simp,D.desc.tail,D.turns.tail,D.cover.tail,λp j=>D.sub p (IS _ j)⟩,?_⟩;intro n m e q f k;cases e;have d:=D.desc.1;have g:=D.cover.1 q f;have c:=i b (D.sub b IW);rcases pe q b with z |z |z
 .have l1:=bG k;have l2:=bG d;have l:=bG (cx d c);have:=dt l l2 l1 (by unfold aK at h;grind) (by unfold aK at g;grind);unfold aK;grind
 .subst z;unfold aK at *;grind
 .have p:=D.pend b _ rfl q f z;unfold aK at *;grind
theorem rW{P:Pt}(d:∀q∈done,plt q P):∀c,wQ done c P->wQ done (bg P c) P/\(∀b a r,bg P c=b::a::r->0<aK a b P)/\(c.getLast?=(bg P c).getLast?)
 |[],D=>absurd rfl D.ne
 |[b],D=>⟨D,λ_ _ _ e=>by simp[bg]at e,rfl⟩
 |b::a::r,D=>by
  by_cases h:aK a b P<=0
  .rw[bg,if_pos h];obtain⟨f,g,i⟩:=rW d (a::r) (x6 d D h);exact⟨f,g,by rw[<-i];simp⟩
  .rw[bg,if_neg h];refine⟨D,λl k j e=>?_,rfl⟩;cases e;lia
theorem xm{d st:List Pt}{P:Pt}(B:∀q∈d,plt q P)(D:wQ d st P)(m:∀b a r,st=b::a::r->0<aK a b P)(A:∀x,st=[x]->∀q∈d,q=x\/plt x q):Kept (d++[P]) (P::st):=by
 have E:∀b r,o9 (b::r)->kB (b::r)->iD d (b::r)->plt b P->(∀a f,r=a::f->0<=aK a b P)->iD (d++[P]) (b::r):=by
  intro b r
  induction r generalizing b with
  |nil=>intro _ _ _ _ _;trivial
  |cons a r v=>
   intro l k u j s;refine⟨λq n=>?_,?_⟩
   .rcases JB.mp n with z |z
    .exact u.1 q z
    .rw[Jq.mp z];exact s a r rfl
   .refine v a l.tail k.tail u.tail (cx l.1 j) (λc f e=>?_);subst e;have t:=k.1;have g:=s a _ rfl;have l1:=bG l.2.1;have l2:=bG l.1;have o:=bG (cx l.1 j);have:=dt l1 l2 o (by unfold aK at t;grind) (by unfold aK at g;grind);unfold aK;grind
 obtain⟨h,r,e⟩:∃h r,st=h::r:=by
  cases Vp:st with
  |nil=>exact absurd Vp D.ne
  |cons h r=>exact⟨h,r,rfl⟩
 subst e;have i:=B h (D.sub h IW);refine⟨by simp,⟨i,D.desc⟩,?_,⟨λq n=>?_,?_⟩,λp C=>?_⟩
 .cases r with
  |nil=>trivial
  |cons a f=>exact⟨m h a f rfl,D.turns⟩
 .rcases JB.mp n with z |z
  .rcases pe q h with y |y |y
   .cases r with
    |nil=>
     rcases A h rfl q z with w |w
     .subst w;exact absurd y (bB _)
     .exact absurd (cx y w) (bB _)
    |cons a f=>
     have t:=m h a f rfl;have c:=D.cover.1 q z;have l1:=bG D.desc.1;have l2:=bG y;have o:=bG i;have:=dt l2 l1 o (by unfold aK at c;grind) (by unfold aK at t;grind);unfold aK;grind
   .subst y;unfold aK;grind
   .exact D.pend h r rfl q z y
  .rw[Jq.mp z];unfold aK;grind
 .exact E h r D.desc D.turns D.cover i (λa f e=>Int.le_of_lt (m h a f (by rw[e])))
 .rcases IT.mp C with z |z
  .subst z;exact Jf _ IW
  .exact JO _ (D.sub p z)
theorem mj(row)(P):ak (row++[P])=P::bg P (ak row):=by
 unfold ak;rw[List.foldl_append];rfl
theorem nB{row:List Pt}(hs:row.Pairwise plt):∀n,0<n->n<=row.length->Kept (row.take n) (ak (row.take n))/\(ak (row.take n)).getLast?=row.head?/\(ak (row.take n)).head?=row[n-1]?
 |0,h,_=>absurd h (by decide)
 |1,_,h=>by
  cases row with
  |nil=>simp at h
  |cons a r=>
   simp only[Lg,NO];exact⟨⟨by simp[ak],trivial,trivial,trivial,λp y=>by simpa [ak,bg] using y⟩,rfl,rfl⟩
 |n+2,_,h=>by
  obtain⟨K,o,d⟩:=nB hs (n+1) (by lia) (by lia);have c:n+1<row.length:=by lia
  have w:row.take (n+2)=row.take (n+1)++[row[n+1]]:=by rw[MK c]
  have m:∀q∈row.take (n+1),plt q row[n+1]:=λq b=>by
   obtain⟨i,s,e⟩:=NQ.mp b;subst e;exact Js.mp hs i (n+1) (by lia) c (by lia)
  have D:wQ (row.take (n+1)) (ak (row.take (n+1))) row[n+1]:=⟨K,λB r e q b k=>by
   exfalso
   rw[e]at d;simp only[Tp,RS]at d;have t:n<row.length:=by lia
   rw[IQ t]at d;have g:=JW d;obtain⟨i,s,j⟩:=NQ.mp b;subst j;rw[g]at k;rcases LI i n with z |z
   .exact bB _ (cx k (Js.mp hs i n (by lia) t z))
   .have:i=n:=by lia
    subst this;exact bB _ k⟩
  obtain⟨v,A,f⟩:=rW m _ D;rw[w,mj];refine⟨xm m v A (λx e q b=>?_),?_,?_⟩
  .rw[e,o]at f;obtain⟨i,s,j⟩:=NQ.mp b;have u:0<row.length:=by lia
   have l:row[0]=x:=by
    rw[M_,IQ u]at f;exact JW f
   subst j;rcases MA i with z |z
   .subst z;exact .inl l
   .right;rw[<-l];exact Js.mp hs 0 i u (by lia) z
  .rw[List.getLast?_cons,<-f,o];cases row with
   |nil=>simp at c
   |cons a r=>rfl
  .simp only[Tp,RS];rw[show n+2-1=n+1 by lia,IQ c]
theorem b8(hs:row.Pairwise plt)(h:row≠[]):Kept row (ak row)/\(ak row).getLast?=row.head?/\(ak row).head?=row.getLast?:=by
 have d:=JK.mpr h;obtain⟨a,b,c⟩:=nB hs row.length d (IV _);rw[M4]at a b c;exact⟨a,b,by rw[c,K8]⟩
theorem dH(i:fP u1 u2)(l:fP v1 v2)(k:fP w1 w2)(c:0<=u1*v2-u2*v1)(d:0<v1*w2-v2*w1):0<u1*w2-u2*w1:=by
 unfold fP at *;by_cases b:v1=0
 .subst b;have:=Kp (show 0<=v2 by lia) (show 0<=w1 by lia);simp at d;lia
 .have f:0<v1:=by lia
  have a:0<u1:=by
   rcases i with h |⟨h,g⟩
   .exact h
   .subst h;have:=MJ g f;simp at c;lia
  have e:v1*(u1*w2-u2*w1)=u1*(v1*w2-v2*w1)+w1*(u1*v2-u2*v1):=by grind
  have m:=MJ a d;have j:=Kp (show 0<=w1 by lia) c;have q:0<v1*(u1*w2-u2*w1):=by lia
  exact N2 q f
def low(c:List Pt)(p:Pt):Prop:=∀a∈c,∀b∈c,plt a p->plt p b->0<aK a p b
theorem D0:∀a n,o9 (n::a)->kB (n::a)->iD row (n::a)->p∈a->(∀l,(n::a).getLast?=some l->plt l p)->
  ∃b q,0<aK q p b/\plt q p/\plt p b/\(∀x∈row,0<=aK p b x)/\(∀x∈row,0<=aK q p x)
 |[],n,_,_,_,c,_=>by simp at c
 |h::r,n,D,T,C,c,hl=>by
  by_cases e:h=p
  .subst e;cases r with
   |nil=>exact absurd (hl h (by simp)) (bB h)
   |cons q f=>exact⟨n,q,T.1,D.2.1,D.1,C.1,C.2.1⟩
  .have VR:p∈r:=by
    rcases IT.mp c with z |z
    .exact absurd z.symm e
    .exact z
   exact D0 r h D.tail T.tail C.tail VR (λl d=>hl l (by rw[M0];exact d))
theorem p8(hs:row.Pairwise plt)(u:p∈ak row):low row p:=by
 intro a ha b hb d c;have J:row≠[]:=λz=>by rw[z]at ha;simp at ha
 obtain⟨K,A,o⟩:=b8 hs J
 have D:∀x∈row,∀m,row.head?=some m->x=m\/plt m x:=λx f m e=>by
  cases row with
  |nil=>simp at f
  |cons y r=>
   cases e;rcases IT.mp f with z |z
   .exact .inl z
   .exact .inr ((J0.mp hs).1 x z)
 have E:∀x∈row,∀m,row.getLast?=some m->x=m\/plt x m:=λx f m e=>by
  obtain⟨i,g⟩:=JL.mp f;have j:=(I_.mp g).1;rw[K8]at e;have G:=(I_.mp e).1;rcases JD (show i<=row.length-1 by lia) with z |z
  .right
   have B:=Js.mp hs i (row.length-1) j G z;rw[(I_.mp g).2,(I_.mp e).2]at B;exact B
  .left;rw[z,e]at g;exact (JW g).symm
 cases Vp:ak row with
 |nil=>exact absurd Vp K.ne
 |cons n s=>
  rw[Vp]at K A o u;have F:row.getLast?=some n:=by rw[<-o];rfl
  have k:p∈s:=by
   rcases IT.mp u with z |z
   .rcases E b hb n F with y |y
    .rw[y,<-z]at c;exact absurd c (bB p)
    .rw[z]at c;exact absurd (cx c y) (bB n)
   .exact z
  obtain⟨h,q,t,w,L,O,N⟩:=D0 s n K.desc K.turns K.cover k (λl v=>by
   rw[A]at v;rcases D a ha l v with y |y
   .rw[<-y];exact d
   .exact cx y d)
  unfold aK at *;have I:0<=(p.1-a.1) *(p.2-q.2)-(p.2-a.2) *(p.1-q.1):=by grind
  have C:0<(p.1-q.1) *(h.2-p.2)-(p.2-q.2) *(h.1-p.1):=by grind
  have M:0<=(h.1-p.1) *(b.2-p.2)-(h.2-p.2) *(b.1-p.1):=by grind
  have H:=eQ (bG w) (bG L) (bG c) C M;have P:=dH (bG d) (bG w) (bG c) I H;grind
theorem A4:∀c h,o9 (h::c)->iD row (h::c)->p∈row->p ∉ h::c->plt p h->(∀l,(h::c).getLast?=some l->plt l p)->∃a∈h::c,∃b∈h::c,plt a p/\plt p b/\0<=aK a b p
 |[],h,_,_,_,_,e,d=>absurd (cx e (d h (by simp))) (bB p)
 |a::r,h,D,C,hr,VQ,e,d=>by
  rcases pe p a with z |z |z
  .obtain⟨x,g,y,hy,k⟩:=A4 r a D.tail C.tail hr (λw=>VQ (IS _ w)) z (λl f=>d l (by rw[M0];exact f));exact⟨x,IS _ g,y,IS _ hy,k⟩
  .exact absurd (by rw[z];simp) VQ
  .exact⟨a,by simp,h,by simp,z,e,C.1 p hr⟩
theorem gap(hs:row.Pairwise plt)(c:p∈row)(d:p ∉ ak row):∃a∈ak row,∃b∈ak row,plt a p/\plt p b/\aK a p b<=0:=by
 have w:row≠[]:=λz=>by rw[z]at c;simp at c
 obtain⟨K,k,j⟩:=b8 hs w;cases Vp:ak row with
 |nil=>exact absurd Vp K.ne
 |cons n t=>
  rw[Vp]at K k j d;have e:row.getLast?=some n:=by rw[<-j];rfl
  have v:plt p n:=by
   obtain⟨i,f⟩:=JL.mp c;have g:=(I_.mp f).1;rw[K8]at e;have s:=(I_.mp e).1;rcases JD (show i<=row.length-1 by omega) with z |z
   .have m:=Js.mp hs i (row.length-1) g s z;rw[(I_.mp f).2,(I_.mp e).2]at m;exact m
   .rw[z,e]at f;exact absurd (by rw[<-JW f];simp) d
  obtain⟨a,ha,b,hb,u,o,x⟩:=A4 t n K.desc K.cover c d v (λl h=>by
   have q:=h;rw[k]at h;cases row with
   |nil=>simp at c
   |cons y r=>
    cases h;rcases IT.mp c with z |z
    .exact absurd (by rw[z];exact NM q) d
    .exact (J0.mp hs).1 p z)
  refine⟨a,ha,b,hb,u,o,?_⟩;unfold aK at *;grind
theorem x_(hs:row.Pairwise plt)(i:VP.Pairwise plt)(f:∀p∈VP,p∈row)(g:∀p∈ak row,p∈VP)(sub:∀r q,q∈ak r->q∈r)(p):p∈ak VP↔p∈ak row:=by
 constructor
 .intro c;refine K5 λd=>?_;obtain⟨a,ha,b,hb,h,e,j⟩:=gap hs (f p (sub _ _ c)) d;have:=p8 i c a (g a ha) b (g b hb) h e;lia
 .intro c;refine K5 λd=>?_;obtain⟨a,ha,b,hb,h,e,j⟩:=gap i (g p c) d;have:=p8 hs c a (f a (sub _ _ ha)) b (f b (sub _ _ hb)) h e;lia
abbrev Szp(m:Nat)(p:P2):Prop:=Sz m p.1/\Sz m p.2
theorem DX(b)(r):atI ((b::r).reverse.map pu) (-1)=some (pu b):=by
 have h:ixN ((b::r).reverse.map pu).length (-1)=some r.length:=by
  unfold ixN;simp;lia
 unfold atI;rw[h];simp
theorem DU(b a)(r):atI ((b::a::r).reverse.map pu) (-2)=some (pu a):=by
 have h:ixN ((b::a::r).reverse.map pu).length (-2)=some r.length:=by
  unfold ixN;simp;lia
 unfold atI;rw[h];simp
theorem lf(P):∀c,(bg P c).length<=c.length
 |[]=>IV _
 |[_]=>IV _
 |b::a::r=>by
  unfold bg;split
  .have:=lf P (a::r);simp only[Ji]at *;lia
  .exact IV _
theorem vQ(P):∀c q,q∈bg P c->q∈c
 |[],_,h=>h
 |[_],_,h=>h
 |b::a::r,q,h=>by
  unfold bg at h;split at h
  .exact IS _ (vQ P (a::r) q h)
  .exact h
theorem f7{a:List P2}{P:P2}(h:a[i]?=some P):ak (a.take (i+1))=P::bg P (ak (a.take i)):=by
 rw[L7,h];exact mj _ _
theorem ip(a:List P2):∀i,(ak (a.take i)).length<=i
 |0=>by simp[ak]
 |i+1=>by
  have ih:=ip a i;cases h:a[i]? with
  |none=>rw[L7,h];simp;lia
  |some P=>
   rw[f7 h];have:=lf P (ak (a.take i));simp only[Ji];lia
theorem fD(a:List P2):∀i q,q∈ak (a.take i)->q∈a
 |0,q,h=>by simp[ak]at h
 |i+1,q,h=>by
  cases hi:a[i]? with
  |none=>rw[L7,hi]at h;exact fD a i q (by simpa using h)
  |some P=>
   rw[f7 hi]at h;rcases IT.mp h with e |e
   .rw[e];exact Jp hi
   .exact fD a i q (vQ P _ q e)
theorem yt(n):decide (sgn n<1)=decide (n<=0):=by
 have h:sgn n<1↔n<=0:=by
  unfold sgn;split
  .lia
  .split <;>lia
 exact decide_eq_decide.mpr h
theorem hG(l:List P2):gH (l.map pu) none (some (-1))=l.dropLast.map pu:=by
 unfold gH HT.sIx;rw[PV,List.dropLast_eq_take];simp
 try lia
noncomputable def av(a:List P2):List P2:=if (ST.srt a).length=1 then ST.srt a else (ak (ST.srt a)).reverse.dropLast++(ak (ST.srt a).reverse).reverse.dropLast
theorem pR(a b):plt a b↔ST.ltP a b=true:=by unfold plt ST.ltP;simp
theorem jr:ST.Asc l↔l.Pairwise plt:=⟨λh=>h.imp λ{a b} k=>(pR a b).mpr k,λh=>h.imp λ{a b} k=>(pR a b).mp k⟩
theorem kh:∀{st},o9 st->st.Pairwise (λx y=>plt y x)
 |[],_=>Oj
 |[_],_=>by simp
 |b::a::r,h=>by
  have ih:=kh h.2;refine J0.mpr ⟨λx c=>?_,ih⟩;rcases IT.mp c with z |z
  .rw[z];exact h.1
  .exact cx ((J0.mp ih).1 x z) h.1
theorem cq(row)(q)(h:q∈ak row):q∈row:=by
 have:=fD row row.length q;rw[M4]at this;exact this h
theorem dX(hs:row.Pairwise plt):ST.Asc (ak row).reverse:=by
 by_cases a:row=[]
 .subst a;exact Oj
 .exact jr.mpr (LK.mpr (kh (b8 hs a).1.desc))
theorem m8(hs:row.Pairwise plt)(a:VP.Pairwise plt)(b:∀p∈VP,p∈row)(c:∀p∈ak row,p∈VP):ak VP=ak row:=by
 have e:=ST.asc_one (dX a) (dX hs) λz=>by
  rw[Jh,Jh];exact x_ hs a b c cq z
 exact List.reverse_inj.mp e
noncomputable def ng(p:Pt):Pt:=(-p.1,-p.2)
theorem iH(p):ng (ng p)=p:=by unfold ng;simp
theorem Fh(l:List Pt):(l.map ng).map ng=l:=by
 rw[JP,show ng ∘ ng=id from funext iH,List.map_id]
theorem nC(a b c):aK (ng a) (ng b) (ng c)=aK a b c:=by unfold aK ng;grind
theorem mZ(h:plt a b):plt (ng b) (ng a):=by unfold plt ng at *;simp;lia
theorem A6(P):∀c,bg (ng P) (c.map ng)=(bg P c).map ng
 |[]=>rfl
 |[_]=>rfl
 |b::a::r=>by
  show bg (ng P) (ng b::ng a::r.map ng)=_;unfold bg;rw[nC];split
  .exact A6 P (a::r)
  .rfl
theorem gU:∀row,ak (row.map ng)=(ak row).map ng:=λrow=>by
 have b:∀(l:List Pt) a,(l.map ng).foldl (λa P=>P::bg P a) (a.map ng)=(l.foldl (λa P=>P::bg P a) a).map ng:=by
  intro l
  induction l with
  |nil=>intro a;rfl
  |cons p r c=>
   intro a;rw[JF,LH,LH,A6];exact c (p::bg p a)
 exact b row []
theorem cY{row:List Pt}(hs:row.Pairwise plt):(row.reverse.map ng).Pairwise plt:=by
 rw[Kg,LK];exact hs.imp λ{a b} h=>mZ h
theorem b5(a:List Pt):ak a.reverse=(ak (a.reverse.map ng)).map ng:=by rw[gU,Fh]
theorem jG{row VP:List Pt}(hs:row.Pairwise plt)(d:VP.Pairwise plt)(c:∀p∈VP,p∈row)(e:∀p∈ak row.reverse,p∈VP):ak VP.reverse=ak row.reverse:=by
 rw[b5 row,b5 VP];congr 1;refine m8 (cY hs) (cY d) (λp a=>?_) (λp a=>?_)
 .obtain⟨q,b,rfl⟩:=Jb.mp a;exact Jb.mpr ⟨q,Jh.mpr (c q (Jh.mp b)),rfl⟩
 .rw[gU]at a;obtain⟨q,b,rfl⟩:=Jb.mp a;exact Jb.mpr ⟨q,Jh.mpr (e q b),rfl⟩
theorem xD(hs:row.Pairwise plt)(A:2<=row.length):∃a b d e,ak row=b::d/\ak row.reverse=a::e/\a∈d/\b∈e/\(∀p∈row,p=a\/plt a p)/\(∀p∈row,p=b\/plt p b)/\a∈row/\b∈row:=by
 have B:row≠[]:=λz=>by rw[z]at A;simp at A
 obtain⟨K,c,f⟩:=b8 hs B;have g:row.reverse.map ng≠[]:=by simpa using B
 obtain⟨C,l,s⟩:=b8 (cY hs) g;have m:row.head?=some row[0]:=by rw[M_];exact IQ (by lia)
 have q:row.getLast?=some row[row.length-1]:=by rw[K8];exact IQ (by lia)
 have j:=Js.mp hs 0 (row.length-1) (by lia) (by lia) (by lia)
 have t:∀p∈row,p=row[0]\/plt row[0] p:=λp o=>by
  obtain⟨i,u,rfl⟩:=Rb.mp o;rcases MA i with z |z
  .left;subst z;rfl
  .right;exact Js.mp hs 0 i (by lia) u z
 have mxA:∀p∈row,p=row[row.length-1]\/plt p row[row.length-1]:=λp o=>by
  obtain⟨i,u,rfl⟩:=Rb.mp o;rcases JD (show i<=row.length-1 by lia) with z |z
  .right;exact Js.mp hs i (row.length-1) u (by lia) z
  .left;subst z;rfl
 have w:row[0]≠row[row.length-1]:=λz=>by rw[z]at j;exact bB _ j
 generalize row[0]=a at *;generalize row[row.length-1]=b at *;have v:=List.mem_of_head? m;have n:=NM q;rw[m]at c;rw[q]at f
 have h:(ak row.reverse).getLast?=some b:=by
  rw[b5,Os,l,Pu,RT,q];simp[iH]
 have k:(ak row.reverse).head?=some a:=by
  rw[b5,Pu,s,Os,OE,m];simp[iH]
 cases hb:ak row with
 |nil=>rw[hb]at f;cases f
 |cons x d=>
  rw[hb]at f c;cases f;cases hbR:ak row.reverse with
  |nil=>rw[hbR]at k;cases k
  |cons y e=>
   rw[hbR]at k h;cases k;refine⟨_,_,d,e,rfl,rfl,?_,?_,t,mxA,v,n⟩
   .cases d with
    |nil=>simp at c;exact absurd c.symm w
    |cons z r=>rw[M0]at c;exact NM c
   .cases e with
    |nil=>simp at h;exact absurd h w
    |cons z r=>rw[M0]at h;exact NM h
theorem zk(st:List Pt):st.reverse.dropLast=st.tail.reverse:=by
 cases st with
 |nil=>rfl
 |cons h t=>simp
theorem ij{l:List Pt}:l.reverse.Nodup↔l.Nodup:=by
 unfold List.Nodup;rw[LK];exact⟨λh=>h.imp λk=>Ne.symm k,λh=>h.imp λk=>Ne.symm k⟩
theorem jY:∀{l m:List Pt},l.Nodup->(∀x∈l,x∈m)->l.length<=m.length
 |[],_,_,_=>JZ _
 |x::l,m,h,hs=>by
  obtain⟨b,d⟩:=MQ.mp h;have a:=hs x IW;have c:=jY (m:=m.erase x) d λy hy=>(List.mem_erase_of_ne (λe=>b (by rw[<-e];exact hy))).mpr (hs y (IS _ hy));rw[List.length_erase_of_mem a]at c;have:=M8 a;simp only[Ji];lia
theorem cJ(pts):(ST.srt pts).Pairwise plt:=jr.mp (ST.srt_asc pts)
theorem d7(h:2<=(ST.srt pts).length):av pts=(ak (ST.srt pts)).tail.reverse++(ak (ST.srt pts).reverse).tail.reverse:=by
 unfold av;rw[if_neg (by lia),zk,zk]
theorem fX(h:pts≠[]):av pts≠[]:=by
 have a:ST.srt pts≠[]:=λz=>by
  obtain⟨p,r,rfl⟩:=List.exists_cons_of_ne_nil h;have:=(ST.srt_mem p (p::r)).mpr IW;rw[z]at this;simp at this
 by_cases g:(ST.srt pts).length=1
 .unfold av;rw[if_pos g];exact a
 .have c:2<=(ST.srt pts).length:=by have:=JK.mpr a;lia
  obtain⟨j,l,d,i,e,f,b,k,_⟩:=xD (cJ pts) c;rw[d7 c,e,f];intro z;have:d.reverse=[]:=(List.append_eq_nil_iff.mp z).1;rw[List.reverse_eq_nil_iff.mp this]at b;simp at b
theorem cQ(pts):(av pts).Nodup:=by
 have nd:∀{l:List Pt},l.Pairwise plt->l.Nodup:=λh=>h.imp λ{a b} k e=>by rw[e]at k;exact bB b k
 by_cases s:2<=(ST.srt pts).length
 .have c:=cJ pts;obtain⟨d,f,z,B,g,i,M,L,y,J,j,u⟩:=xD c s;have G:(f::z).Nodup:=by rw[<-g];exact ij.mp (nd (jr.mp (dX c)))
  have v:(d::B).Nodup:=by
   rw[<-i,b5];have:=ij.mp (nd (jr.mp (dX (cY c))));refine Kg.mpr (this.imp λ{a b} w e=>w ?_);rw[<-iH a,e,iH]
  obtain⟨K,x⟩:=MQ.mp G;obtain⟨I,H⟩:=MQ.mp v;rw[d7 s,g,i,K9,K9,Ny];refine⟨ij.mpr x,ij.mpr H,λp C q E=>?_⟩;rintro rfl;have r:=Jh.mp C;have n:=Jh.mp E;have t:p∈ak (ST.srt pts):=by rw[g];exact IS _ r
  have D:p∈ak (ST.srt pts).reverse:=by rw[i];exact IS _ n
  have m:=cq _ _ t;have l1:=(y p m).resolve_left λe=>I (by rw[<-e];exact n);have l2:=(J p m).resolve_left λe=>K (by rw[<-e];exact r);have A:=p8 c t d j f u l1 l2;have F:ng p∈ak ((ST.srt pts).reverse.map ng):=by rw[gU];exact Jb.mpr ⟨p,D,rfl⟩
  have o:=p8 (cY c) F (ng f) (Jb.mpr ⟨f,Jh.mpr u,rfl⟩) (ng d) (Jb.mpr ⟨d,Jh.mpr j,rfl⟩) (mZ l2) (mZ l1);rw[nC]at o;unfold aK at A o;grind
 .unfold av;split
  .exact nd (cJ pts)
  .have e:ST.srt pts=[]:=KY.mp (by lia);rw[e];exact List.nodup_nil
theorem d6(pts):∀p∈av pts,p∈pts:=λp a=>by
 unfold av at a;split at a
 .exact (ST.srt_mem p pts).mp a
 .rcases JB.mp a with h |h
  .exact (ST.srt_mem p pts).mp (cq _ _ (Jh.mp (Rc _ h)))
  .exact (ST.srt_mem p pts).mp (Jh.mp (cq _ _ (Jh.mp (Rc _ h))))
theorem lF(pts):(av pts).length<=pts.length:=jY (cQ pts) (d6 pts)
theorem fN(pts):av (av pts)=av pts:=by
 by_cases n:2<=(ST.srt pts).length
 .have k:=cJ pts;obtain⟨d,f,B,C,b,g,i,m,A,E,y,D⟩:=xD k n;have h:=d7 n
  have j:∀p∈ak (ST.srt pts),p∈av pts:=λp a=>by
   rw[h,b,g,K9,K9];rw[b]at a;rcases IT.mp a with z |z
   .rw[z];exact Jf _ (Jh.mpr m)
   .exact JO _ (Jh.mpr z)
  have c:∀p∈ak (ST.srt pts).reverse,p∈av pts:=λp a=>by
   rw[h,b,g,K9,K9];rw[g]at a;rcases IT.mp a with z |z
   .rw[z];exact JO _ (Jh.mpr i)
   .exact Jf _ (Jh.mpr z)
  have o:=cJ (av pts);have sub:∀p∈ST.srt (av pts),p∈ST.srt pts:=λp a=>(ST.srt_mem p pts).mpr (d6 pts p ((ST.srt_mem p _).mp a));have v:=m8 k o sub λp a=>(ST.srt_mem p _).mpr (j p a);have q:=jG k o sub λp a=>(ST.srt_mem p _).mpr (c p a)
  have len:2<=(ST.srt (av pts)).length:=by
   have u:=(ST.srt_mem _ _).mpr (j d (by rw[b];exact IS _ i));have s:=(ST.srt_mem _ _).mpr (j f (by rw[b];exact IW))
   have w:d≠f:=λz=>by
    have nd:=cQ pts;rw[h,b,g,K9,K9,Ny]at nd;exact nd.2.2 d (Jh.mpr i) f (Jh.mpr m) z
   have:=jY (l:=[d,f]) (by simp[w]) (λx r=>by
    rcases IT.mp r with z |z
    .rw[z];exact u
    .rw[Jq.mp z];exact s)
   exact this
  rw[d7 len,v,q,<-h]
 .have e:av pts=ST.srt pts:=by
   unfold av;split
   .rfl
   .have e:ST.srt pts=[]:=KY.mp (by lia);rw[e];rfl
  rw[e];have t:=ST.asc_srt (ST.srt_asc pts);unfold av;rw[t];split
  .rfl
  .have e:ST.srt pts=[]:=KY.mp (by lia);rw[e];rfl
def wW:List U->Out->Prop:=λa o=>∃P Q R:P2,a=[pu P,pu Q,pu R]/\Szp 5000 P/\Szp 5000 Q/\Szp 5000 R/\o=.val (.int (sgn (aK P Q R)))
theorem uX:OkD P w base T.abL 2 (wW):=by
 refine okD Cf (by walk_at"ln") ?_;rintro _ _ _ a ⟨P,Q,R,rfl,⟨e,b⟩,⟨c,d⟩,⟨f,g⟩,rfl⟩;refine ae (aO (bx (vd T) a (ag (bp (bo (bp (aD (aa 1 rfl) af rfl rfl) (aD (aa 0 rfl) af rfl rfl)) (bp (aD (aa 2 rfl) af rfl rfl) (aD (aa 0 rfl) af rfl rfl)) (by walk_at"mul")) (bo (bp (aD (aa 1 rfl) af rfl rfl) (aD (aa 0 rfl) af rfl rfl)) (bp (aD (aa 2 rfl) af rfl rfl) (aD (aa 0 rfl) af rfl rfl)) (by walk_at"mul"))) aj bh) ⟨_,rfl,rfl⟩) ?_);exact rfl
def mO:List U->Out->Prop:=λa o=>∃row:List P2,a=[lp row]/\(∀p∈row,Szp 5000 p)/\row.length<=900/\o=.new ((ak row).reverse.map pu)
theorem iG:OkD P w base T.aaV 3 (mO):=by
 refine okD fe (by walk_at"ln") ?_;rintro _ _ _ hr ⟨row,rfl,sz,hl,rfl⟩;refine ae (m_ (i:=1) fe.nd rfl (Or.inl rfl) (cn a_) ?_);refine ae (fh (λst:List P2=>[some (.val (lp row)),some (.own (st.reverse.map pu)),none]) (λi st=>st=ak (row.take i)) rfl PassesOwn.never (bY (aa 0 rfl) (.inl rfl)) ?h0 ?hs ?hd)
 case h0=>exact⟨[],rfl,rfl,rfl,trivial⟩
 case hs=>
  rintro H0 i x _ hx rfl;obtain⟨P,hP,mP,rfl⟩:=iZ hx;have hi:=aN hP;have sP:=sz P mP;refine⟨_,(ft (i:=2) fe.nd rfl (Or.inl rfl)),?_⟩;have len0:=ip row i;refine iW (λps=>SubP [some (.val (lp row)),some (.own ((bg P (ak (row.take i))).reverse.map pu)),some (.val (pu P))] ps) (gK (λs2:List P2=>[some (.val (lp row)),some (.own (s2.reverse.map pu)),some (.val (pu P))]) (λm s2=>m=s2.length/\bg P s2=bg P (ak (row.take i))/\(∀p∈s2,p∈row)/\s2.length<=i) PassesOwn.never ?h0 ?hs) ?hj
  case h0=>exact⟨_,_,⟨rfl,rfl,λq hq=>fD row i q hq,len0⟩,rfl,rfl,rfl,trivial⟩
  case hs=>
   rintro m s2 ⟨rfl,e2,sub,len2⟩
   match s2,e2,sub,len2 with
   |[],e2,sub,len2=>
    refine⟨false,?_,λh=>(nomatch h),λh ps Vl=>e2 ▸ Vl⟩;exact (Tw.t (nv (am fc (gR 1 rfl rfl T.aah) af) rfl))
   |[b],e2,sub,len2=>
    refine⟨false,?_,λh=>(nomatch h),λh ps Vl=>e2 ▸ Vl⟩;exact (Tw.t (nv (am fc (gR 1 rfl rfl T.aah) af) rfl))
   |b::a::r,e2,sub,len2=>
    have sa:=sz a (sub a (by simp));have sb:=sz b (sub b (by simp));have e1:decide (1<((((b::a::r).reverse.map pu).length:Nat):Int))=true:=decide_eq_true (by simp;lia);refine⟨decide (1<((((b::a::r).reverse.map pu).length:Nat):Int)) && decide (sgn (aK a b P)<1),?_,λh=>?_,λh ps Vl=>?_⟩
    .exact (Tw.t (eE (am fc (gR 1 rfl rfl T.aah) af) (λhz=>(cU (am fB (bx (uX T) hr (ag (vV 1 rfl (fL af) (DU b a r)) (ag (vV 1 rfl (fL af) (DX b (a::r))) (ag (aa 2 rfl) aj ai) aT) aT) ⟨a,b,P,rfl,sa,sb,sP,rfl⟩) af)))))
    .rw[e1,Mx,yt]at h;have hd:=dTb h;refine ae (Ep 1 rfl (by simp) (au ?_))
     refine⟨_,a::r,?_,⟨rfl,?_,λq hq=>sub q (IS _ hq),?_⟩,rfl,?_,rfl,trivial⟩
     .simp
     .rw[←e2];conv=>rhs;unfold bg
      rw[if_pos hd]
     .simp only[Ji]at *;lia
     .exact congrArg (λl=>some (Sl.own l)) (by simp)
    .rw[e1,Mx,yt]at h;have hd:=dFb h
     have e3:bg P (b::a::r)=b::a::r:=by conv=>lhs;unfold bg
                                        rw[if_neg hd]
     rw[<-e2,e3];exact Vl
  case hj=>
   intro ps Vl;refine c4 ?_ Vl;have e4:=f7 hP;have len3:=lf P (ak (row.take i));refine ae (eN 1 rfl (aa 2 rfl) (by rw[IM,J7];exact ax (by lia)) (au ?_));refine⟨_,rfl,rfl,?_,trivial⟩;exact congrArg (λl=>some (Sl.own l)) (by rw[e4];simp)
 case hd=>
  rintro st ps Vp Vl;refine c4 ?_ Vl;refine ae (lR 1 rfl ?_);rw[Vp];simp
theorem As(h:∀p∈pts,Szp m p):∀p∈ST.srt pts,Szp m p:=λp a=>h p ((ST.srt_mem p pts).mp a)
theorem iY(row):(ak row).length<=row.length:=by
 have:=ip row row.length
 rwa [M4]at this
def tP:List U->Out->Prop:=λa o=>∃pts:List P2,a=[lp pts]/\(∀p∈pts,Szp 5000 p)/\pts.length<64/\pts≠[]/\o=.new ((av pts).map pu)
theorem jc:OkD P w base T.aaL 4 (tP):=by
 refine okD ig (by walk_at"ln") ?_;rintro _ _ _ c ⟨pts,rfl,sz,e,h,rfl⟩;have f:((pts.map pu).length:Int)=(pts.length:Int):=by rw[IM]
 have k:=JK.mpr h;refine ae (aG (am bw (ay (ci rfl) rfl T.aah JH (ag (aa 0 rfl) aj ai)) af) (by rw[f];exact decide_eq_false (by lia)) (au ?_));have m:=ST.srt_len pts;have b:(((ST.srt pts).map pu).length:Int)=((ST.srt pts).length:Int):=by rw[IM]
 have a:=As sz;by_cases d:(ST.srt pts).length=1
 .refine ae (m_ (i:=1) ig.nd rfl (Or.inl rfl) (fW rfl (cG c) rfl T.aau rfl T.abA (aa 0 rfl) (yL e) ai) ?_);refine ae (bz (am bw (gR 1 rfl rfl T.aah) af) (by rw[b];exact decide_eq_true (by lia)) ?_);refine ae (lR 1 rfl ?_);unfold av;rw[if_pos d]
 .refine ae (aB 1 ig.nd (EvN.ev (fW rfl (cG c) rfl T.aau rfl T.abA (aa 0 rfl) (yL e) ai)) ?_);refine ae (aG (am bw (ay (ci rfl) rfl T.aah JH (ag (aa 1 rfl) aj ai)) af) (by rw[b];exact decide_eq_false (by lia)) (au ?_));have l:=iY (ST.srt pts);have j:=iY (ST.srt pts).reverse;rw[J7]at j;refine ae (aB 2 ig.nd (EvN.ev (dy (iG T) c (ag (aa 1 rfl) aj ai) ⟨ST.srt pts,rfl,a,by lia,rfl⟩)) ?_)
  refine ae (aB 3 ig.nd (EvN.ev (dy (iG T) c (ag (EvN.ev (HR (aa 1 rfl) (fL af) (.inl rfl))) aj aT) ⟨(ST.srt pts).reverse,by rw[lp,Lx],λp g=>a p (Jh.mp g),by rw[J7];lia,rfl⟩)) ?_);refine ae (cD (mV (EvN.ev (cA (aa 2 rfl) cT (c3 (fL af)) (.inl rfl))) (EvN.ev (cA (aa 3 rfl) cT (c3 (fL af)) (.inl rfl))) (by rw[hG,hG,IM,IM,Kr,Kr,J7,J7];exact Ja (ax (by lia)))) ?_);unfold av;rw[if_neg d,hG,hG,<-Kt]
noncomputable def ap(a b c d e f:Int)(p:P2):P2:=(a*p.1+b*p.2+e,c*p.1+d*p.2+f)
def uW:List U->Out->Prop:=λg o=>∃(pts:List P2) (a b c d e f:Int),g=[lp pts,mv a b c d e f]/\Mv a b c d e f/\(∀p∈pts,Szp 3000 p)/\(∀p∈pts,Szp 5000 (ap a b c d e f p))/\pts≠[]/\pts.length<64/\o=.new ((av (pts.map (ap a b c d e f))).map pu)
theorem lV:OkD P w base T.aaN 5 (uW):=by
 refine okD gP (by walk_at"ln") ?_;rintro _ _ _ h ⟨pts,a,b,c,d,e,f,rfl,M,sz,l,r,o,rfl⟩;refine ae (cD (dy (jc T) h (ag (EvN.ev (bP (ys:=(pts.map λp=>pu (ap a b c d e f p))) rfl (blk (ah fu) ["land","move","P"] [2] rfl rfl rfl rfl (by decide+kernel)) (EvI.z (bY (aa 0 rfl) (.inl rfl))) (λ_ _ _ _=>aE (i:=2) gP.nd rfl (Or.inl rfl)) (bR (by decide)) ?clen ?csz (λ_ _=>trivial) ?celt)) aj ce) ⟨pts.map (ap a b c d e f),by rw[lp,JP];rfl,λp g=>by obtain⟨q,n,rfl⟩:=Jb.mp g;exact l q n,by rw[IM];exact o,by simpa using r,rfl⟩) ?_)
 case clen=>simp
 case csz=>rw[IM];exact Ja (ax (by lia))
 case celt=>
  intro C s u t j x y m hy;obtain⟨p,g,k,rfl,rfl⟩:=bT m hy;exact (bx (zV T) h (ag (aa 2 rfl) (ag (aa 1 rfl) aj ai) ai) ⟨p.1,p.2,a,b,c,d,e,f,rfl,M,(sz p k).1.mono (by decide),(sz p k).2.mono (by decide),rfl⟩)
 exact rfl
theorem mL(h:ST.srt l=ST.srt m):av l=av m:=by unfold av;rw[h]
theorem oF(h:∀z,z∈l↔z∈m):ST.srt l=ST.srt m:=ST.asc_one (ST.srt_asc l) (ST.srt_asc m) λz=>by rw[ST.srt_mem,ST.srt_mem];exact h z
theorem c_(h:¬ 2<=(ST.srt pts).length):av pts=ST.srt pts:=by
 unfold av;split
 .rfl
 .have e:ST.srt pts=[]:=KY.mp (by lia);rw[e];rfl
section
variable {f:Pt→Pt}
theorem CN(d:∀a b,plt a b->plt (f a) (f b))(l):ST.srt (l.map f)=(ST.srt l).map f:=by
 refine ST.asc_one (ST.srt_asc _) (jr.mpr (Kg.mpr ((cJ l).imp λ{a b} h=>d a b h))) λz=>?_;rw[ST.srt_mem,Jb,Jb];exact⟨λ⟨x,c,e⟩=>⟨x,(ST.srt_mem x l).mpr c,e⟩,λ⟨x,c,e⟩=>⟨x,(ST.srt_mem x l).mp c,e⟩⟩
theorem wv(d:∀a b c,aK (f a) (f b) (f c)<=0↔aK a b c<=0)(P):∀e,bg (f P) (e.map f)=(bg P e).map f
 |[]=>rfl
 |[_]=>rfl
 |b::a::r=>by
  show bg (f P) (f b::f a::r.map f)=_;unfold bg;by_cases h:aK a b P<=0
  .rw[if_pos h,if_pos ((d a b P).mpr h)];exact wv d P (a::r)
  .rw[if_neg h,if_neg λz=>h ((d a b P).mp z)];rfl
theorem oG(h:∀a b c,aK (f a) (f b) (f c)<=0↔aK a b c<=0)(row):ak (row.map f)=(ak row).map f:=by
 have e:∀(l:List Pt) d,(l.map f).foldl (λd P=>P::bg P d) (d.map f)=(l.foldl (λd P=>P::bg P d) d).map f:=by
  intro l
  induction l with
  |nil=>intro d;rfl
  |cons p r g=>
   intro d;rw[JF,LH,LH,wv h];exact g (p::bg p d)
 exact e row []
theorem Bq(e:∀a b,plt a b->plt (f a) (f b))(d:∀a b c,aK (f a) (f b) (f c)<=0↔aK a b c<=0)(l):av (l.map f)=(av l).map f:=by
 unfold av;rw[CN e,IM,<-Lx,oG d,oG d];split
 .rfl
 .rw[Kt,PV,PV,Lx,Lx]
end
noncomputable def scl(k:Int)(p:Pt):Pt:=(k*p.1,k*p.2)
noncomputable abbrev gp(l:List P2)(i:Nat):P2:=l.getD i (0,0)
noncomputable def nxt(l:List P2)(i:Nat):P2:=gp l ((i+1)%l.length)
noncomputable def sdl(l:List P2):List (P2×P2):=(J3 l.length).map λi=>(gp l i,nxt l i)
noncomputable abbrev pq(s:P2×P2):U:=.tup [pu s.1,pu s.2]
theorem e8(h:i<l.length):l[i]?=some (gp l i):=by simp[gp,h]
theorem dJ(h:i<l.length):gp l i∈l:=Jp (e8 h)
theorem vf(l):gH l (some 1) none=l.drop 1:=by
 unfold gH HT.sIx;cases l with
 |nil=>simp
 |cons a l=>simp
theorem Ed(l):gH l none (some 1)=l.take 1:=by
 unfold gH HT.sIx;cases l with
 |nil=>simp
 |cons a l=>simp
theorem zi(l):OB (λa b=>U.tup [a,b]) (l.map pu) (gH (l.map pu) (some 1) none++gH (l.map pu) none (some 1))=(sdl l).map pq:=by
 rw[vf,Ed];apply NA;intro i;unfold sdl;by_cases c:i<l.length
 .have f:(l.map pu)[i]?=some (pu (gp l i)):=by rw[I0,e8 c];rfl
  have g:((l.map pu).drop 1++(l.map pu).take 1)[i]?=some (pu (nxt l i)):=by
   unfold nxt;by_cases d:i+1<l.length
   .rw[Jn (by simp;lia),Na,QF,JC d,I0,e8 d];rfl
   .have e:i+1=l.length:=by lia
    rw[Jo (by simp;lia),e,Nr];rw[show i-((l.map pu).drop 1).length=0 by simp;lia,LP (by lia),I0,e8 (by lia)];rfl
  rw[OH.mpr ⟨_,_,f,g,rfl⟩,JP,I0,Lh c];rfl
 .rw[J_ (by simp;lia),J_ (by simp;lia)]
theorem jm(l):(sdl l).length=l.length:=by simp[sdl]
theorem gl(h:s∈sdl l):s.1∈l/\s.2∈l:=by
 obtain⟨i,a,rfl⟩:=Jb.mp h;have b:=JM.mp a;exact⟨dJ b,dJ (KC _ (by lia))⟩
def tO:List U->Out->Prop:=λa o=>∃l:List P2,a=[lp l]/\l.length<=900/\o=.new ((sdl l).map pq)
theorem nI:OkD P w base T.abG 1 (tO):=by
 refine okD Bi (by walk_at"ln") ?_;rintro _ _ _ c ⟨l,rfl,b,rfl⟩;have a:(gH (l.map pu) (some 1) none++gH (l.map pu) none (some 1)).length=l.length:=by rw[vf,Ed];simp;lia
 refine ae (cD (yj rfl rfl T.abD rfl T.abB (aa 0 rfl) (.inl rfl) (EvN.ev (mV (EvN.ev (cA (aa 0 rfl) (c3 af) cT (.inl rfl))) (EvN.ev (cA (aa 0 rfl) cT (c3 af) (.inl rfl))) (by rw[<-Jl,a];exact Ja (ax (by lia))))) (.inl rfl) ai bh) ?_);rw[zi]
theorem ID(h:0<l.length):atI (l.map pu) 0=some (pu (gp l 0)):=aW rfl (by rw[I0,e8 h];rfl)
theorem wq(h:0<l.length):atI (l.map pu) (-1)=some (pu (gp l (l.length-1))):=by
 have e:ixN (l.map pu).length (-1)=some (l.length-1):=by
  unfold ixN;simp;lia
 unfold atI;rw[e];show (l.map pu)[l.length-1]?=_;rw[I0,e8 (by lia)];rfl
noncomputable def gst(s:P2×P2):Int:=((Rq (s.2.1-s.1.1) (s.2.2-s.1.2):Nat):Int)
noncomputable def crs(s:P2×P2):Int:=s.1.1*s.2.2-s.1.2*s.2.1
noncomputable def area(l:List P2):Int:=((sdl l).map crs).sum
noncomputable def nX(l:List P2):Int:=((sdl l).map gst).sum
noncomputable def pin(l:List P2):Int:=if l.length<3 then 0 else (area l-nX l+2)/2
noncomputable def ev(p:P2):Int:=if p.1%2=0/\p.2%2=0 then 1 else 0
theorem Ck(l):(sdl l).map (·.1)=l:=by
 apply NA;intro i;unfold sdl;rw[JP];by_cases a:i<l.length
 .rw[I0,Lh a,e8 a];rfl
 .rw[J_ (by simp;lia),J_ (by lia)]
theorem g9{l:List P2}(h:m<=n)(k:∀p∈l,Szp m p):∀p∈l,Szp n p:=λp a=>⟨(k p a).1.mono h,(k p a).2.mono h⟩
def xw:List U->Out->Prop:=λa o=>∃l:List P2,a=[lp l]/\l.length<=900/\(∀p∈l,Szp 2500 p)/\o=.val (.int (area l))
theorem mT:OkD P w base T.aaM 2 (xw):=by
 refine okD eR (by walk_at"ln") ?_;rintro _ _ _ f ⟨l,rfl,e,sz,rfl⟩;refine ae (aO (ay (ue rfl ) rfl T.abH boot_sum (ag (EvN.ev (bP (ys:=(((sdl l).map crs).map U.int)) rfl (blk (ah fm) ["land","A","B"] [1,2] rfl rfl rfl rfl (by decide+kernel)) (EvI.z (bY (EvN.ev (dy (nI T) f (ag (aa 0 rfl) aj ai) ⟨l,rfl,e,rfl⟩)) (.inl rfl))) (λ_ _ _ _=>eK rfl (aM (aE (i:=1) eR.nd rfl (Or.inl rfl)) (aM (aE (i:=2) eR.nd rfl (Or.inl rfl)) cw))) (di (js:=[1,2]) (by decide)) ?clen ?csz ?dom ?celt)) aj ce)) ?_)
 case clen=>simp
 case csz=>simp only[jm,IM];exact Ja (ax (by lia))
 case dom=>
  intro x a;obtain⟨s,_,rfl⟩:=Jb.mp a;exact⟨_,rfl,rfl⟩
 case celt=>
  intro C g q h j x y a hy;rw[JP]at hy;obtain⟨s,m,d,rfl,rfl⟩:=bT a hy;obtain⟨c,b⟩:=gl d;have n:=(sz _ c).1;have o:=(sz _ c).2;have p:=(sz _ b).1;have k:=(sz _ b).2;exact (bp (bo (aD (aa 1 rfl) af rfl rfl) (aD (aa 2 rfl) af rfl rfl) (by walk_at"mul")) (bo (aD (aa 1 rfl) af rfl rfl) (aD (aa 2 rfl) af rfl rfl) (by walk_at"mul")))
 exact rfl
theorem tG:∀{c},iD done c->∀k {a b},c[k]?=some b->c[k+1]?=some a->∀q∈done,0<=aK a b q
 |[],_,k,_,_,h,_=>by simp at h
 |[_],_,k,_,_,_,h=>by simp at h
 |x::y::r,C,0,a,b,h1,h2=>by
  simp at h1 h2;subst h1;subst h2;exact C.1
 |x::y::r,C,k+1,a,b,h1,h2=>tG C.2 k (by simpa using h1) (by simpa using h2)
theorem qC:∀{d},kB d->∀k {a b c},d[k]?=some c->d[k+1]?=some b->d[k+2]?=some a->0<aK a b c
 |[],_,k,_,_,_,h,_,_=>by simp at h
 |[_],_,k,_,_,_,_,h,_=>by simp at h
 |[_,_],_,k,_,_,_,_,_,h=>by simp at h
 |x::y::z::r,C,0,a,b,c,h1,h2,h3=>by
  simp at h1 h2 h3;subst h1;subst h2;subst h3;exact C.1
 |x::y::z::r,C,k+1,a,b,c,h1,h2,h3=>qC C.2 k (by simpa using h1) (by simpa using h2) (by simpa using h3)
theorem zp{st:List Pt}(d:st.reverse[i]?=some a)(c:st.reverse[i+1]?=some b):∃k,st[k]?=some b/\st[k+1]?=some a:=by
 have l2:i+1<st.length:=by have:=(I_.mp c).1;simpa using this
 rw[KN (by lia)]at d
 rw[KN l2]at c;exact⟨st.length-1-(i+1),c,by rw[<-d];congr 1;lia⟩
theorem yc{st:List Pt}(e:st.reverse[i]?=some a)(f:st.reverse[i+1]?=some b)(d:st.reverse[i+2]?=some c):∃k,st[k]?=some c/\st[k+1]?=some b/\st[k+2]?=some a:=by
 have g:i+2<st.length:=by have:=(I_.mp d).1;simpa using this
 rw[KN (by lia)]at e
 rw[KN (by lia)]at f
 rw[KN g]at d;exact⟨st.length-1-(i+2),d,by rw[<-f];congr 1;lia,by rw[<-e];congr 1;lia⟩
theorem h_(hs:row.Pairwise plt)(h:row≠[])(e:(ak row).reverse[i]?=some a)(f:(ak row).reverse[i+1]?=some b):∀q∈row,0<=aK a b q:=by
 obtain⟨k,c,d⟩:=zp e f;exact tG (b8 hs h).1.cover k c d
theorem iR(hs:row.Pairwise plt)(h:row≠[])(g:(ak row).reverse[i]?=some a)(j:(ak row).reverse[i+1]?=some b)(l:(ak row).reverse[i+2]?=some c):0<aK a b c:=by
 obtain⟨k,e,d,f⟩:=yc g j l;exact qC (b8 hs h).1.turns k e d f
theorem gu{b:List Pt}{i:Nat}(c:(ak b.reverse).reverse[i]?=some a):(ak (b.reverse.map ng)).reverse[i]?=some (ng a):=by
 rw[b5,<-Lx,I0]at c;cases e:(ak (b.reverse.map ng)).reverse[i]? with
 |none=>rw[e]at c;cases c
 |some z=>rw[e]at c;cases c;rw[iH]
theorem nF{row:List Pt}(hs:row.Pairwise plt)(h:row≠[]){i:Nat}{a b:Pt}(c:(ak row.reverse).reverse[i]?=some a)(e:(ak row.reverse).reverse[i+1]?=some b):∀q∈row,0<=aK a b q:=λq d=>by
 have:=h_ (cY hs) (by simpa using h) (gu c) (gu e) (ng q) (List.mem_map_of_mem (Jh.mpr d))
 rwa [nC]at this
theorem oY(hs:row.Pairwise plt)(h:row≠[])(d:(ak row.reverse).reverse[i]?=some a)(e:(ak row.reverse).reverse[i+1]?=some b)(f:(ak row.reverse).reverse[i+2]?=some c):0<aK a b c:=by
 have:=iR (cY hs) (by simpa using h) (gu d) (gu e) (gu f)
 rwa [nC]at this
theorem yz(b:fP u1 u2)(a:fP v1 v2)(i:u1*v2-u2*v1=0)(h:u1*w2-u2*w1<=0)(g:0<=v1*w2-v2*w1):u1*w2-u2*w1=0/\v1*w2-v2*w1=0:=by
 have j:v1*(u1*w2-u2*w1)=u1*(v1*w2-v2*w1):=by grind
 have k:v2*(u1*w2-u2*w1)=u2*(v1*w2-v2*w1):=by grind
 have c:∀{s t A B:Int},0<s->0<t->s*A=t*B->A<=0->0<=B->A=0/\B=0:=λ{s t A B} p o e ha hb=>by
  have q:s*A<=0:=Int.mul_nonpos_of_nonneg_of_nonpos (by lia) ha;have n:0<=t*B:=Kp (by lia) hb;have l:s*A=0:=by lia
  have m:t*B=0:=by lia
  refine⟨(Lu.mp l).resolve_left (by lia),(Lu.mp m).resolve_left (by lia)⟩
 rcases b with b |⟨b,d⟩
 .rcases a with a |⟨a,f⟩
  .exact c a b j h g
  .rw[a]at i;have:=MJ b f;lia
 .rcases a with a |⟨a,f⟩
  .rw[b]at i;have:=MJ d a;lia
  .exact c f d k h g
theorem xf(e:plt a m)(f:plt c m)(h:aK a m c=0)(b:0<=aK a m q)(d:0<=aK m c q):aK a m q=0/\aK m c q=0:=by
 have k:=yz (w1:=m.1-q.1) (w2:=m.2-q.2) (bG e) (bG f) (by unfold aK at h;grind) (by unfold aK at b;grind) (by unfold aK at d;grind);unfold aK;exact⟨by grind,by grind⟩
theorem B2(a b c):aK a b c=aK b c a:=by unfold aK;grind
theorem Hu(hs:row.Pairwise plt)(g:row≠[])(s:(ak row).reverse[i]?=some a)(r:(ak row).reverse[i+1]?=some m)(x:(ak row).length=i+2)
  (h3:(ak row.reverse).reverse[0]?=some m) (h4:(ak row.reverse).reverse[1]?=some c) (ha:plt a m) (hc:plt c m) (big:2<(ak row).length\/2<(ak row.reverse).length):0<aK a m c:=by
 have k:∀{j}{p},(ak row).reverse[j]?=some p->p∈row:=λh=>cq row _ (Jh.mp (Jp h));have f:∀{j}{p},(ak row.reverse).reverse[j]?=some p->p∈row:=λh=>Jh.mp (cq _ _ (Jh.mp (Jp h)));have n:=h_ hs g s r;have w:=nF hs g h3 h4;have v:=n c (f h4);rcases Pj v with z |z
 .exact z
 .exfalso
  have d:∀q∈row,aK a m q=0/\aK m c q=0:=λq o=>xf ha hc z.symm (n q o) (w q o);rcases big with b |b
  .have u:0<i:=by lia
   have l:i-1<(ak row).reverse.length:=by simp;lia
   have e:=IQ l;have t:=iR hs g e (by rw[ME u];exact s) (by rw[show i-1+2=i+1 by lia];exact r);rw[B2,(d _ (k e)).1]at t;lia
  .have l:2<(ak row.reverse).reverse.length:=by simpa using b
   have e:=IQ l;have t:=oY hs g h3 h4 e;rw[(d _ (f e)).2]at t;lia
structure F_(row T B:List Pt)(mn mx:Pt):Prop where
 t0:T[0]?=some mn
 t1:T[T.length-1]?=some mx
 b0:B[0]?=some mx
 b1:B[B.length-1]?=some mn
 lt:2<=T.length
 lb:2<=B.length
 least:∀p∈row,p=mn\/plt mn p
 most:∀p∈row,p=mx\/plt p mx
theorem D3{l:List Pt}:l.reverse[0]?=l.getLast?:=by rw[List.getLast?_eq_head?_reverse,M_]
theorem Ei{l:List Pt}:l.reverse[l.reverse.length-1]?=l.head?:=by rw[<-K8,OE]
theorem ways(hs:row.Pairwise plt)(h:2<=row.length):∃b c,F_ row (ak row).reverse (ak row.reverse).reverse b c:=by
 have l:row≠[]:=λz=>by rw[z]at h;simp at h
 obtain⟨b,c,r,s,k,f,o,n,least,a,_,_⟩:=xD hs h;obtain⟨K,q,g⟩:=b8 hs l;obtain⟨t,d,i⟩:=b8 (cY hs) (by simpa using l);have l1:2<=(ak row).length:=by rw[k];have:=M8 o;simp;lia
 have l2:2<=(ak row.reverse).length:=by rw[f];have:=M8 n;simp;lia
 have m:row.head?=some row[0]:=by rw[M_];exact IQ (by lia)
 have e:row.getLast?=some row[row.length-1]:=by rw[K8];exact IQ (by lia)
 have p:row[0]=b:=by
  have hb:=i;rw[Os,OE,m]at hb;have:(ak row.reverse).head?=some row[0]:=by rw[b5,Pu,hb];simp[iH]
  rw[f]at this;exact (JW this).symm
 have j:row[row.length-1]=c:=by
  rw[e,k]at g;exact (JW g).symm
 refine⟨b,c,?_,?_,?_,?_,by simpa using l1,by simpa using l2,least,a⟩
 .rw[D3,q,m,p]
 .rw[Ei,g,e,j]
 .rw[D3,b5,Os,d,Pu,RT,e,j];simp[iH]
 .rw[Ei,f];rfl
section
variable {row T B:List Pt}{mn mx:Pt}
theorem qJ(W:F_ row T B mn mx)(b:k<=T.length-1):(T.dropLast++B.dropLast)[k%(T.dropLast++B.dropLast).length]?=T[k]?:=by
 have c:=W.lb;have a:(T.dropLast++B.dropLast).length=T.length-1+(B.length-1):=by simp
 rw[a,JC (by lia)];by_cases h:k<T.length-1
 .rw[Jn (by simpa using h),Mn,if_pos h]
 .obtain rfl:k=T.length-1:=by lia
  rw[Jo (by simp),Kr,Ph,Mn,if_pos (by lia),W.b0,W.t1]
theorem Dq(W:F_ row T B mn mx)(b:T.length-1<=k)(c:k<=T.length-1+(B.length-1)):(T.dropLast++B.dropLast)[k%(T.dropLast++B.dropLast).length]?=B[k-(T.length-1)]?:=by
 have a:(T.dropLast++B.dropLast).length=T.length-1+(B.length-1):=by simp
 by_cases h:k<T.length-1+(B.length-1)
 .rw[a,JC h,Jo (by simpa using b),Kr,Mn,if_pos (by lia)]
 .obtain rfl:k=T.length-1+(B.length-1):=by lia
  have:=qJ W (k:=0) (by lia);rw[QZ]at this;rw[a,Nr,this,W.t0,show T.length-1+(B.length-1)-(T.length-1)=B.length-1 by lia,W.b1]
end
theorem some_of{l:List Pt}(h:i<l.length):∃a,l[i]?=some a:=⟨_,IQ h⟩
theorem dg(Y:2<=(ST.srt pts).length)(L:i<(av pts).length):∃a b,(av pts)[i]?=some a/\(av pts)[(i+1)%(av pts).length]?=some b/\(∀p∈pts,0<=aK a b p)/\(2<(av pts).length->∃c,(av pts)[(i+2)%(av pts).length]?=some c/\0<aK a b c):=by
 have r:=cJ pts;have F:ST.srt pts≠[]:=λz=>by rw[z]at Y;simp at Y
 obtain⟨mn,mx,W⟩:=ways r Y;have s:∀p∈pts,p∈ST.srt pts:=λp K=>(ST.srt_mem p pts).mpr K
 have hc:av pts=(ak (ST.srt pts)).reverse.dropLast++(ak (ST.srt pts).reverse).reverse.dropLast:=by
  unfold av;rw[if_neg (by omega)]
 have tc:∀{j:Nat}{a b:Pt},(ak (ST.srt pts)).reverse[j]?=some a->(ak (ST.srt pts)).reverse[j+1]?=some b->∀q∈ST.srt pts,0<=aK a b q:=λh E=>h_ r F h E;have tt:∀{j:Nat}{a b c:Pt},(ak (ST.srt pts)).reverse[j]?=some a->(ak (ST.srt pts)).reverse[j+1]?=some b->(ak (ST.srt pts)).reverse[j+2]?=some c->0<aK a b c:=λh E D=>iR r F h E D;have bc:∀{j:Nat}{a b:Pt},(ak (ST.srt pts).reverse).reverse[j]?=some a->(ak (ST.srt pts).reverse).reverse[j+1]?=some b->∀q∈ST.srt pts,0<=aK a b q:=λh E=>nF r F h E;have bt:∀{j:Nat}{a b c:Pt},(ak (ST.srt pts).reverse).reverse[j]?=some a->(ak (ST.srt pts).reverse).reverse[j+1]?=some b->(ak (ST.srt pts).reverse).reverse[j+2]?=some c->0<aK a b c:=λh E D=>oY r F h E D;have x:∀{j:Nat}{p:Pt},(ak (ST.srt pts)).reverse[j]?=some p->p∈ST.srt pts:=λh=>cq _ _ (Jh.mp (Jp h));have w:∀{j:Nat}{p:Pt},(ak (ST.srt pts).reverse).reverse[j]?=some p->p∈ST.srt pts:=λh=>Jh.mp (cq _ _ (Jh.mp (Jp h)));have V:(ak (ST.srt pts)).reverse.Nodup:=(dX r).imp λ{a b} h e=>by subst e;exact bB _ ((pR _ _).mpr h)
 have U:(ak (ST.srt pts).reverse).reverse.Nodup:=by
  rw[b5,<-Lx];have ndR:(ak ((ST.srt pts).reverse.map ng)).reverse.Nodup:=(dX (cY r)).imp λ{a b} h e=>by subst e;exact bB _ ((pR _ _).mpr h)
  exact U1 _ (λa b (h:a≠b) e=>h (by have:=congrArg ng e;rwa [iH,iH]at this)) ndR
 have m1:∀{j:Nat}{a m c:Pt},(ak (ST.srt pts)).reverse[j]?=some a->(ak (ST.srt pts)).reverse[j+1]?=some m->(ak (ST.srt pts)).length=j+2->(ak (ST.srt pts).reverse).reverse[0]?=some m->(ak (ST.srt pts).reverse).reverse[1]?=some c->plt a m->plt c m->2<(ak (ST.srt pts)).length\/2<(ak (ST.srt pts).reverse).length->0<aK a m c:=λo C A S a5 Z a7 a8=>Hu r F o C A S a5 Z a7 a8
 have m2:∀{j:Nat}{a m c:Pt},(ak (ST.srt pts).reverse).reverse[j]?=some a->(ak (ST.srt pts).reverse).reverse[j+1]?=some m->(ak (ST.srt pts).reverse).length=j+2->(ak (ST.srt pts)).reverse[0]?=some m->(ak (ST.srt pts)).reverse[1]?=some c->plt m a->plt m c->2<(ak (ST.srt pts)).length\/2<(ak (ST.srt pts).reverse).length->0<aK a m c:=λ{j a m c} o C A S a5 Z a7 a8=>by
  have er:((ST.srt pts).reverse.map ng).reverse=(ST.srt pts).map ng:=by rw[<-Lx,OR]
  have fw:∀{k:Nat}{p:Pt},(ak (ST.srt pts)).reverse[k]?=some p->(ak ((ST.srt pts).reverse.map ng).reverse).reverse[k]?=some (ng p):=λ{k p} h=>by
   rw[er,gU,<-Lx,I0,h];rfl
  have lb:(ak ((ST.srt pts).reverse.map ng)).length=(ak (ST.srt pts).reverse).length:=by rw[b5,IM]
  have lt:(ak ((ST.srt pts).reverse.map ng).reverse).length=(ak (ST.srt pts)).length:=by rw[er,gU,IM]
  have:=Hu (cY r) (by simpa using F) (gu o) (gu C) (by rw[lb];exact A) (fw S) (fw a5) (mZ Z) (mZ a7) (by rw[lb,lt];exact a8.symm)
  rwa [nC]at this
 rw[hc]at L |-;have R:(ak (ST.srt pts)).reverse.length=(ak (ST.srt pts)).length:=J7;have X:(ak (ST.srt pts).reverse).reverse.length=(ak (ST.srt pts).reverse).length:=J7;generalize (ak (ST.srt pts)).reverse=T at *;generalize (ak (ST.srt pts).reverse).reverse=B at *;have h1:=W.lt;have h3:=W.lb;obtain⟨t,n⟩:∃t,T.length=t+1:=⟨T.length-1,by omega⟩
 obtain⟨u,v⟩:∃u,B.length=u+1:=⟨B.length-1,by omega⟩
 have t1:0<t:=by rw[n]at h1;exact Si (Qw h1)
 have u1:0<u:=by rw[v]at h3;exact Si (Qw h3)
 have O:(T.dropLast++B.dropLast).length=t+u:=by simp[n,v]
 have M:∀{k:Nat},k<=t->(T.dropLast++B.dropLast)[k%(T.dropLast++B.dropLast).length]?=T[k]?:=λh=>qJ W (by rw[n];exact h)
 have Q:∀{k:Nat},k<=u->(T.dropLast++B.dropLast)[(t+k)%(T.dropLast++B.dropLast).length]?=B[k]?:=λ{k} h=>by
  rw[Dq W (by rw[n];exact JI t k) (by rw[n,v];exact MX h t),n];exact congrArg (λz=>B[z]?) (MY ..)
 have P:∀{k:Nat},k<=t->∃a,T[k]?=some a:=λh=>some_of (by rw[n];exact Sj h);have N:∀{k:Nat},k<=u->∃a,B[k]?=some a:=λh=>some_of (by rw[v];exact Sj h)
 have l:2<(T.dropLast++B.dropLast).length->2<T.length\/2<B.length:=λh=>by
  rw[O]at h;rw[n,v];clear O n v h1 h3 L R X;omega
 rw[R,X]at l;have own:(T.dropLast++B.dropLast)[i]?=(T.dropLast++B.dropLast)[i%(T.dropLast++B.dropLast).length]?:=by rw[JC L]
 rw[own];have wt:=W.t1;have wb:=W.b1;rw[n]at wt;rw[v]at wb;have J:∀{j k:Nat}{p q:Pt},T[j]?=some p->T[k]?=some q->j≠k->p≠q:=λ{j k p q} o C A e=>A ((NF (aN o) V).mp (by rw[o,C,e]))
 have I:∀{j k:Nat}{p q:Pt},B[j]?=some p->B[k]?=some q->j≠k->p≠q:=λ{j k p q} o C A e=>A ((NF (aN o) U).mp (by rw[o,C,e]));rw[O]at L;by_cases G:i<t
 .obtain⟨a,g⟩:=P (Ja G);obtain⟨b,f⟩:=P G;refine⟨a,b,(M (Ja G)).trans g,(M G).trans f,λp K=>tc g f p (s p K),λbig=>?_⟩;by_cases y:i+2<=t
  .obtain⟨c,d⟩:=P y;exact⟨c,(M y).trans d,tt g f d⟩
  .have e:i+1=t:=Ml G (J4 (SQ y));obtain⟨c,d⟩:=N u1;cases e;cases JW (f.symm.trans wt);exact⟨c,(Q u1).trans d,m1 g f (R.symm.trans n) W.b0 d ((W.most a (x g)).resolve_left (J g f (Jv (Kh i)))) ((W.most c (w d)).resolve_left (I d W.b0 Tq)) (l big)⟩
 .obtain⟨j,rfl⟩:=Nat.exists_eq_add_of_le (Lv G);have H:j<u:=Nat.lt_of_add_lt_add_left L;obtain⟨a,g⟩:=N (Ja H);obtain⟨b,f⟩:=N H;refine⟨a,b,(Q (Ja H)).trans g,(Q H).trans f,λp K=>bc g f p (s p K),λbig=>?_⟩;by_cases y:j+2<=u
  .obtain⟨c,d⟩:=N y;exact⟨c,(Q y).trans d,bt g f d⟩
  .have e:j+1=u:=Ml H (J4 (SQ y));obtain⟨c,d⟩:=P t1;cases e;cases JW (f.symm.trans wb);refine⟨c,?_,m2 g f (X.symm.trans v) W.t0 d ((W.least a (w g)).resolve_left (I g f (Jv (Kh j)))) ((W.least c (x d)).resolve_left (J d W.t0 Tq)) (l big)⟩;have:=M t1;rw[O]at this |-;rw[show t+j+2=1+(t+(j+1)) from QF (t+(j+1)) 1,NG]
   exact this.trans d
noncomputable def cd(n q:Int):Int:=-(-n/q)
noncomputable def tx(a c:Pt)(s t:Int):Int:=s*(c.1-a.1)+t*(c.2-a.2)
def ty(a c:Pt)(u v:Int):Int:=u*(c.2-a.2)-v*(c.1-a.1)
noncomputable def bk(a:Pt)(u v s t x y:Int):Pt:=(u*x-t*y+a.1,v*x+s*y+a.2)
noncomputable def wth(a b:Int)(p:Pt):Int:=a*p.1+b*p.2
theorem E7(l:b<=0)(f:plt u p)(i:plt p v)(h:aK u p v<=0):wth a b p<=wth a b u\/wth a b p<=wth a b v:=by
 rcases LM (wth a b u) (wth a b p) with c |c
 .rcases LM (wth a b v) (wth a b p) with g |g
  .exfalso
   have e:(v.1-p.1) *(wth a b p-wth a b u)+(p.1-u.1) *(wth a b p-wth a b v)=-((-b) *(-(aK u p v))):=by unfold wth aK;grind
   have r:0<=(-b) *(-(aK u p v)):=Kp (by lia) (by lia);have m:0<=p.1-u.1:=by unfold plt at f;lia
   have j:0<=v.1-p.1:=by unfold plt at i;lia
   have n:0<=(v.1-p.1) *(wth a b p-wth a b u):=Kp j (by lia);rcases LM 0 (p.1-u.1) with d |d
   .have:=MJ d (show 0<wth a b p-wth a b v by lia);lia
   .have k:u.1=p.1:=by lia
    have q:u.2<p.2:=by unfold plt at f;lia
    have:0<=(-b) *(p.2-u.2):=Kp (by lia) (by lia);have o:wth a b p-wth a b u=-((-b) *(p.2-u.2)):=by unfold wth;rw[k];grind
    lia
  .exact .inr g
 .exact .inl c
theorem vc(hs:row.Pairwise plt)(d:b<=0)(k:p∈row):∃c∈ak row,wth a b p<=wth a b c:=by
 by_cases h:p∈ak row
 .exact⟨p,h,Rr _⟩
 .obtain⟨u,l,v,j,i,f,g⟩:=gap hs k h;rcases E7 d i f g with e |e
  .exact⟨u,l,e⟩
  .exact⟨v,j,e⟩
theorem EW(a b)(p):wth (-a) (-b) (ng p)=wth a b p:=by unfold wth ng;grind
theorem BQ(a b)(p):wth a b (ng p)=wth (-a) (-b) p:=by unfold wth ng;grind
theorem BD{row:List Pt}(hs:row.Pairwise plt)(f:0<=b)(d:p∈row):∃c∈ak row.reverse,wth a b p<=wth a b c:=by
 obtain⟨c,e,k⟩:=vc (cY hs) (b:=-b) (by lia) (Jb.mpr ⟨p,Jh.mpr d,rfl⟩);refine⟨ng c,by rw[b5];exact Jb.mpr ⟨c,e,rfl⟩,?_⟩;rw[EW]at k;rw[BQ];exact k
theorem qM(a b)(m:p∈pts):∃c∈av pts,wth a b p<=wth a b c:=by
 have e:=(ST.srt_mem p pts).mpr m;by_cases g:2<=(ST.srt pts).length
 .have f:=cJ pts;obtain⟨n,o,q,r,h,i,l,j,_⟩:=xD f g;have big:=d7 g;rw[h,i]at big;rcases Uz b 0 with hb |hb
  .obtain⟨c,d,k⟩:=vc f hb e;refine⟨c,?_,k⟩;rw[big];rw[h]at d;rcases IT.mp d with rfl |d
   .exact Jf _ (Jh.mpr j)
   .exact JO _ (Jh.mpr d)
  .obtain⟨c,d,k⟩:=BD f hb e;refine⟨c,?_,k⟩;rw[big];rw[i]at d;rcases IT.mp d with rfl |d
   .exact JO _ (Jh.mpr l)
   .exact Jf _ (Jh.mpr d)
 .exact⟨p,by rw[c_ g];exact e,Rr _⟩
theorem oZ(a:3<=(av l).length):2<=(ST.srt l).length:=by
 rcases LI (ST.srt l).length 2 with h |h
 .rw[c_ (by lia)]at a;lia
 .exact h
theorem D7(h:i<l.length):(gp l i,gp l ((i+1)%l.length))∈sdl l:=Jb.mpr ⟨i,JM.mpr h,rfl⟩
theorem mK(h:l[i]?=some a):gp l i=a:=by simp[gp,h]
theorem y4:((i+1)%n+1)%n=(i+2)%n:=by rw[OZ]
theorem sS(g:3<=(av l).length)(hs:s∈sdl (av l)):∀q∈l,0<=aK s.1 s.2 q:=by
 obtain⟨i,f,rfl⟩:=Jb.mp hs;obtain⟨a,b,d,e,c,_⟩:=dg (oZ g) (JM.mp f);show ∀q∈l,0<=aK (gp (av l) i) (gp (av l) ((i+1)%(av l).length)) q;rw[mK d,mK e];exact c
theorem Ce(o:3<=(av l).length)(hs:(A,B)∈sdl (av l)):∃C,(B,C)∈sdl (av l)/\0<aK A B C:=by
 obtain⟨i,m,e⟩:=Jb.mp hs;have p:=JM.mp m;obtain⟨a,b,h,d,_,g⟩:=dg (oZ o) p;obtain⟨c,j,k⟩:=g (by lia);have n:A=a:=by rw[<-mK h];exact (congrArg Q7 e).symm
 have f:B=b:=by rw[<-mK d];exact (congrArg RU e).symm
 refine⟨c,?_,by rw[n,f];exact k⟩;have:=D7 (i:=(i+1)%(av l).length) (KC _ (by lia));rw[y4,mK d,mK j]at this;rw[f];exact this
theorem Hv(h:A∈l):∃Z,(Z,A)∈sdl l:=by
 obtain⟨i,a⟩:=JL.mp h;have c:=(I_.mp a).1;have b:(i+l.length-1)%l.length<l.length:=KC _ (by lia);have:=D7 b
 have e:((i+l.length-1)%l.length+1)%l.length=i:=by
  rw[OZ,show i+l.length-1+1=i+l.length by lia,NG,JC c]
 rw[e,mK a]at this;exact⟨_,this⟩
theorem Fv{a c b d w1 w2:Int}(j:0<a*d-c*b)(e:a*w2-c*w1=0)(f:b*w2-d*w1=0):w1=0/\w2=0:=by
 have i:(a*d-c*b) *w1=0:=by
  have:(a*d-c*b) *w1=b*(a*w2-c*w1)-a*(b*w2-d*w1):=by grind
  rw[this,e,f];simp
 have g:(a*d-c*b) *w2=0:=by
  have:(a*d-c*b) *w2=d*(a*w2-c*w1)-c*(b*w2-d*w1):=by grind
  rw[this,e,f];simp
 refine⟨?_,?_⟩
 .rcases Lu.mp i with h |h
  .lia
  .exact h
 .rcases Lu.mp g with h |h
  .lia
  .exact h
def GX(l:List P2)(p:P2):Prop:=p∈l/\∃a b:Int,∀q∈l,q≠p->wth a b q<wth a b p
theorem rS(a:3<=(av l).length)(f:p∈av l):GX l p:=by
 obtain⟨Z,g⟩:=Hv f;obtain⟨B,j,i⟩:=Ce a g;refine⟨d6 _ p f,B.2-Z.2,Z.1-B.1,λq c n=>?_⟩;have b:=sS a g q c;have d:=sS a j q c;dsimp only at b d;have e:wth (B.2-Z.2) (Z.1-B.1) q-wth (B.2-Z.2) (Z.1-B.1) p=-(aK Z p q+aK p B q):=by unfold wth aK;grind
 rcases Pj (Int.add_nonneg b d) with h |h
 .lia
 .exfalso
  have k:aK Z p q=0:=by lia
  have m:aK p B q=0:=by lia
  have:=Fv (w1:=q.1-p.1) (w2:=q.2-p.2) (by rw[<-(show aK Z p B=(p.1-Z.1) *(B.2-p.2)-(p.2-Z.2) *(B.1-p.1) by unfold aK;grind)];exact i) (by rw[<-k];unfold aK;grind) (by rw[<-m];unfold aK;grind);exact n (MB (by lia) (by lia))
theorem F8(c:l.Nodup):(sdl l).Nodup:=by
 have h:((sdl l).map (·.1)).Nodup:=by rw[Ck];exact c
 exact (Kg.mp h).imp λ{a b} k e=>k (by rw[e])
theorem Ao(A B):gst (B,A)=gst (A,B):=by
 unfold gst;rw[show A.1-B.1=-(B.1-A.1) by lia,show A.2-B.2=-(B.2-A.2) by lia,Int.gcd_neg,Int.neg_gcd]
theorem rq{l m:List Int}(h:RM l m):l.sum=m.sum:=by
 induction h with
 |nil=>rfl
 |cons _ _ b=>rw[Oa,Oa,b]
 |swap=>simp only[Oa];lia
 |trans _ _ a c=>exact a.trans c
theorem sr{i:Nat}(e:k=(i:Int))(h:i<l.length):atI (l.map pu) k=some (pu (gp l i)):=aW e (by rw[I0,e8 h];rfl)
theorem Szp.mono(h:Szp m p)(le:m<=n):Szp n p:=⟨h.1.mono le,h.2.mono le⟩
noncomputable def prv(l:List P2)(j:Nat):P2:=gp l ((j+l.length-1)%l.length)
theorem pS{j:Nat}(h:j<l.length):atI (l.map pu) ((0+(j:Int))-1)=some (pu (prv l j)):=by
 unfold prv;by_cases a:j=0
 .subst a;rw[show (0+l.length-1)%l.length=l.length-1 from by rw[JC] <;>lia];exact wq h
 .rw[show (j+l.length-1)%l.length=j-1 from by rw[show j+l.length-1=(j-1)+l.length by lia,NG,JC (by lia)]];exact sr (by lia) (by lia)
theorem wz(h:j<l.length):prv l j∈l:=dJ (KC _ (by lia))
theorem Bf(h:j<l.length):(prv l j,gp l j)∈sdl l:=by
 have a:(j+l.length-1)%l.length<l.length:=KC _ (by lia);refine Jb.mpr ⟨(j+l.length-1)%l.length,JM.mpr a,?_⟩;unfold prv nxt;congr 2;by_cases b:j=0
 .subst b;rw[show (0+l.length-1)%l.length=l.length-1 from by rw[JC] <;>lia,show l.length-1+1=l.length by lia,Nr]
 .rw[show (j+l.length-1)%l.length=j-1 from by rw[show j+l.length-1=(j-1)+l.length by lia,NG,JC (by lia)],show j-1+1=j by lia,JC h]
theorem zt(hs:s∈sdl l):∃j,j<l.length/\s=(prv l j,gp l j):=by
 obtain⟨i,c,rfl⟩:=Jb.mp hs;have a:=JM.mp c;refine⟨(i+1)%l.length,KC _ (by lia),?_⟩;congr 2;by_cases b:i+1<l.length
 .rw[JC b,show i+1+l.length-1=i+l.length by lia,NG,JC a]
 .rw[show i+1=l.length by lia,Nr,show 0+l.length-1=i by lia,JC a]
noncomputable def pvl(l:List P2):List (P2×P2):=(J3 l.length).map λj=>(prv l j,gp l j)
theorem CG(l):(pvl l).length=l.length:=by simp[pvl]
theorem Dc(s):s∈pvl l↔s∈sdl l:=by
 constructor
 .intro h;obtain⟨j,a,rfl⟩:=Jb.mp h;exact Bf (JM.mp a)
 .intro h;obtain⟨j,a,rfl⟩:=zt h;exact Jb.mpr ⟨j,JM.mpr a,rfl⟩
theorem EF(d:l.Nodup):(pvl l).Nodup:=by
 have e:(pvl l).map (·.2)=l:=by
  apply NA;intro i;unfold pvl;rw[JP];by_cases c:i<l.length
  .rw[I0,Lh c,e8 c];rfl
  .rw[J_ (by simp;lia),J_ (by lia)]
 have h:((pvl l).map (·.2)).Nodup:=by rw[e];exact d
 exact (Kg.mp h).imp λ{a b} k e=>k (by rw[e])
theorem sC(a:l.Nodup):RM (pvl l) (sdl l):=(O_ (EF a) (F8 a)).mpr λs=>Dc s
theorem Dt(a:l.Nodup):((pvl l).map gst).sum=nX l:=rq ((sC a).map gst)
theorem AG(l)(x:Int):(l++[x]).sum=l.sum+x:=by
 induction l with
 |nil=>simp
 |cons a l b=>rw[List.cons_append,Oa,b,Oa];lia
noncomputable def nD(l:List P2):Int:=if l.length<3 then gst (gp l 0,gp l (l.length-1))+1 else nX l
theorem sqn(x:Int):0<=x*x:=by
 rcases Uz 0 x with h |h
 .exact Kp h h
 .exact Int.mul_nonneg_of_nonpos_of_nonpos h h
def zq:List U->Out->Prop:=λa o=>∃l:List P2,a=[lp l]/\0<l.length/\l.length<=900/\(∀p∈l,Szp 2500 p)/\o=.val (.int (nD l))
theorem Ft:OkD P w base T.abU 4 (zq):=by
 refine okD ua (by walk_at"ln") ?_;rintro _ _ _ d ⟨l,rfl,e,p,sz,rfl⟩;have n:((l.map pu).length:Int)=(l.length:Int):=by rw[IM]
 unfold nD;by_cases m:l.length<3
 .rw[if_pos m];refine ae (bz (am fB (ay (ci rfl) rfl T.aah JH (ag (aa 0 rfl) aj ai)) af) (by rw[n];exact decide_eq_true (by lia)) ?_);have h:=sz _ (dJ e);have k:=sz _ (dJ (l:=l) (i:=l.length-1) (by lia));obtain⟨b,c,G⟩:=qU ((gp l (l.length-1)).1-(gp l 0).1) ((gp l (l.length-1)).2-(gp l 0).2);refine ae (aO (b_ (bx (sO T) d (ag (aD (aa 0 rfl) af rfl (ID e)) (ag (aD (aa 0 rfl) (fL af) rfl (wq e)) aj aT) aT) ⟨_,_,_,_,_,b,c,rfl,⟨h.1.mono (by decide),h.2.mono (by decide),k.1.mono (by decide),k.2.mono (by decide)⟩,G,rfl⟩) af) ?_);exact rfl
 .rw[if_neg m];refine ae (aG (am fB (ay (ci rfl) rfl T.aah JH (ag (aa 0 rfl) aj ai)) af) (by rw[n];exact decide_eq_false (by lia)) (au ?_));refine ae (aO (ay (ue rfl ) rfl T.abH boot_sum (ag (EvN.ev (bP (ys:=(((sdl l).map gst).map U.int)) rfl (blk (ah zM) ["land","A","B"] [1,2] rfl rfl rfl rfl (by decide+kernel)) (EvI.z (bY (EvN.ev (dy (nI T) d (ag (aa 0 rfl) aj ai) ⟨l,rfl,p,rfl⟩)) (.inl rfl))) (λ_ _ _ _=>eK rfl (aM (aE (i:=1) ua.nd rfl (Or.inl rfl)) (aM (aE (i:=2) ua.nd rfl (Or.inl rfl)) cw))) (di (js:=[1,2]) (by decide)) ?clen ?csz ?dom ?celt)) aj ce)) ?_)
  case clen=>simp
  case csz=>simp only[jm,IM];exact Ja (ax (by lia))
  case dom=>
   intro x a;obtain⟨s,_,rfl⟩:=Jb.mp a;exact⟨_,rfl,rfl⟩
  case celt=>
   intro C q u r j x y a hy;rw[JP]at hy;obtain⟨s,t,o,rfl,rfl⟩:=bT a hy;obtain⟨g,f⟩:=gl o;obtain⟨b,c,G⟩:=qU (s.2.1-s.1.1) (s.2.2-s.1.2);exact (bx (sO T) d (ag (aa 1 rfl) (ag (aa 2 rfl) aj ai) ai) ⟨_,_,_,_,_,b,c,rfl,⟨(sz _ g).1.mono (by decide),(sz _ g).2.mono (by decide),(sz _ f).1.mono (by decide),(sz _ f).2.mono (by decide)⟩,G,rfl⟩)
  exact rfl
theorem yr(a:Sz n k)(s:Szp m p):Szp (n+m) (scl k p):=⟨L2.Sz.mul a s.1,L2.Sz.mul a s.2⟩
def o6:List U->Out->Prop:=λa o=>∃(pts:List P2) (k:Int),a=[lp pts,.int k]/\Sz 1000 k/\(∀p∈pts,Szp 3000 p)/\pts≠[]/\pts.length<64/\o=.new ((av (pts.map (scl k))).map pu)
theorem Cd:OkD P w base T.abM 5 (o6):=by
 refine okD wy (by walk_at"ln") ?_;rintro _ _ _ g ⟨pts,k,rfl,c,sz,h,f,rfl⟩;refine ae (cD (dy (jc T) g (ag (EvN.ev (bP (ys:=(pts.map λp=>pu (scl k p))) rfl (blk (ah uy) ["land","k","P"] [2] rfl rfl rfl rfl (by decide+kernel)) (EvI.z (bY (aa 0 rfl) (.inl rfl))) (λ_ _ _ _=>aE (i:=2) wy.nd rfl (Or.inl rfl)) (bR (by decide)) ?clen ?csz (λ_ _=>trivial) ?celt)) aj ce) ⟨pts.map (scl k),by rw[lp,JP];rfl,λp a=>by obtain⟨q,e,rfl⟩:=Jb.mp a;have z:=yr c (sz q e);exact⟨z.1.mono (by decide),z.2.mono (by decide)⟩,by rw[IM];exact f,by simpa using h,rfl⟩) ?_)
 case clen=>simp
 case csz=>rw[IM];exact Ja (ax (by lia))
 case celt=>
  intro C l o m j x y d hy;obtain⟨p,a,b,rfl,rfl⟩:=bT d hy;have n:=(sz p b).1;have r:=(sz p b).2;exact (bF (ao (bo (aa 1 rfl) (aD (aa 2 rfl) af rfl rfl) (by walk_at"mul")) (ao (bo (aa 1 rfl) (aD (aa 2 rfl) af rfl rfl) (by walk_at"mul")) a_ bh) bh))
 exact rfl
noncomputable def plus(p q:P2):P2:=(p.1+q.1,p.2+q.2)
noncomputable def aL(p q:P2):P2:=(p.1-q.1,p.2-q.2)
noncomputable def cr(u v:P2):Int:=u.1*v.2-u.2*v.1
noncomputable def ngv(w:P2):Bool:=ST.ltP w (0,0)
theorem jd{w:P2}(h:ngv w=true):fP (-w.1) (-w.2):=by unfold ngv ST.ltP at h;simp at h;unfold fP;lia
theorem jg{w:P2}(h:ngv w=false)(c:w≠(0,0)):fP w.1 w.2:=by
 unfold ngv ST.ltP at h;simp at h;unfold fP;by_cases a:w.1=0
 .by_cases b:w.2=0
  .exact absurd (MB a b) c
  .lia
 .lia
noncomputable def nl(w o:P2):Bool:=if (ngv w !=ngv o)=true then ngv o else decide (0<=cr w o)
theorem kq{w o:P2}(a:ngv w=true)(b:ngv o=false):nl w o=false:=by unfold nl;rw[a,b];rfl
theorem jj{w o:P2}(a:ngv w=false)(b:ngv o=true):nl w o=true:=by unfold nl;rw[a,b];rfl
theorem bE{w o:P2}(h:ngv w=ngv o):nl w o=decide (0<=cr w o):=by unfold nl;rw[h];simp
theorem AY(u v):cr (-u.1,-u.2) (-v.1,-v.2)=cr u v:=by unfold cr;grind
theorem f_(u v):cr u v=- cr v u:=by unfold cr;grind
theorem EC(h:nl x y=false):nl y x=true:=by
 cases hx:ngv x <;>cases hy:ngv y
 .rw[bE (by rw[hx,hy])]at h |-
  have:=of_decide_eq_false h;exact decide_eq_true (by rw[f_];lia)
 .rw[jj hx hy]at h;cases h
 .exact jj hy hx
 .rw[bE (by rw[hx,hy])]at h |-
  have:=of_decide_eq_false h;exact decide_eq_true (by rw[f_];lia)
theorem rL(e:x≠(0,0))(c:y≠(0,0))(f:d≠(0,0))(a:nl x y=true)(b:nl y d=true):nl x d=true:=by
 cases hx:ngv x <;>cases hy:ngv y <;>cases hd:ngv d
 .rw[bE (by rw[hx,hy])]at a
  rw[bE (by rw[hy,hd])]at b
  rw[bE (by rw[hx,hd])];exact decide_eq_true (dt (jg hx e) (jg hy c) (jg hd f) (of_decide_eq_true a) (of_decide_eq_true b))
 .exact jj hx hd
 .rw[kq hy hd]at b;cases b
 .exact jj hx hd
 .rw[kq hx hy]at a;cases a
 .rw[kq hx hy]at a;cases a
 .rw[kq hy hd]at b;cases b
 .rw[bE (by rw[hx,hy])]at a
  rw[bE (by rw[hy,hd])]at b
  rw[bE (by rw[hx,hd])];have h:=of_decide_eq_true a;have g:=of_decide_eq_true b;rw[<-AY]at h g;have:=dt (jd hx) (jd hy) (jd hd) h g;refine decide_eq_true ?_;rw[<-AY];exact this
theorem CC(e:u≠(0,0))(i:v≠(0,0))(f:d≠(0,0))(h:0<cr u v)(a:nl u d=true)(c:nl v d=false):0<=cr u d/\0<=cr d v:=by
 cases hu:ngv u <;>cases hd:ngv d <;>cases hv:ngv v
 .rw[bE (by rw[hu,hd])]at a
  rw[bE (by rw[hv,hd])]at c
  have:=of_decide_eq_false c;exact⟨of_decide_eq_true a,by rw[f_];lia⟩
 .rw[bE (by rw[hu,hd])]at a
  have g:=of_decide_eq_true a;refine⟨g,?_⟩;rcases LM (cr d v) 0 with z |z
  .exfalso
   have:=dH (jg hu e) (jg hd f) (jd hv) g (show 0<d.1* -v.2-d.2* -v.1 by unfold cr at z;grind);unfold cr at h;grind
  .exact z
 .rw[jj hv hd]at c;cases c
 .rw[bE (by rw[hv,hd])]at c
  have b:=of_decide_eq_false c;have j:0<cr d v:=by rw[f_];lia
  refine⟨?_,by lia⟩;rcases LM (cr u d) 0 with z |z
  .exfalso
   have:=eQ (jg hu e) (jd hd) (jd hv) (show 0<u.1* -d.2-u.2* -d.1 by unfold cr at z;grind) (by unfold cr at j;grind);unfold cr at h;grind
  .exact z
 .rw[kq hu hd]at a;cases a
 .rw[kq hu hd]at a;cases a
 .rw[jj hv hd]at c;cases c
 .rw[bE (by rw[hu,hd])]at a
  rw[bE (by rw[hv,hd])]at c
  have:=of_decide_eq_false c;exact⟨of_decide_eq_true a,by rw[f_];lia⟩
theorem Gy(j:u≠(0,0))(c:v≠(0,0))(g:d≠(0,0))(f:ngv u=true)(e:ngv v=false)(i:0<cr u v)(h:nl v d=false\/nl u d=true):0<=cr u d/\0<=cr d v:=by
 rcases h with h |h
 .cases hd:ngv d
  .rw[bE (by rw[e,hd])]at h
   have b:=of_decide_eq_false h;have k:0<cr d v:=by rw[f_];lia
   refine⟨?_,by lia⟩;rcases LM (cr u d) 0 with z |z
   .exfalso
    have:=eQ (jd f) (jg hd g) (jg e c) (show 0 < -u.1*d.2 - -u.2*d.1 by unfold cr at z;grind) (by unfold cr at k;grind);unfold cr at i;grind
   .exact z
  .rw[jj e hd]at h;cases h
 .cases hd:ngv d
  .rw[kq f hd]at h;cases h
  .rw[bE (by rw[f,hd])]at h
   have a:=of_decide_eq_true h;refine⟨a,?_⟩;rcases LM (cr d v) 0 with z |z
   .exfalso
    have:=dH (jd f) (jd hd) (jg e c) (by unfold cr at a;grind) (show 0 < -d.1*v.2 - -d.2*v.1 by unfold cr at z;grind);unfold cr at i;grind
   .exact z
theorem IK(g:0<cr u v)(c:0<=cr u d)(f:0<=cr d v)(k1:0<=cr u z)(k2:0<=cr v z):0<=cr d z:=by
 have e:cr u v*cr d z=cr d v*cr u z+cr u d*cr v z:=by unfold cr;grind
 have a:=Kp f k1;have b:=Kp c k2;rcases LM (cr d z) 0 with w |w
 .have:=Int.mul_neg_of_pos_of_neg g w;lia
 .exact w
noncomputable def mrg:List P2->List P2->List P2
 |xs,[]=>xs
 |[],y::ys=>y::ys
 |x::xs,y::ys=>if nl x y=true then x::mrg xs (y::ys) else y::mrg (x::xs) ys
termination_by xs ys=>xs.length+ys.length
noncomputable def pth(p:P2):List P2->List P2
 |[]=>[p]
 |w::ws=>p::pth (plus p w) ws
noncomputable def sms:List P2->P2
 |[]=>(0,0)
 |w::ws=>plus w (sms ws)
noncomputable def dQ(d:P2)(a:List P2):P2:=sms (a.takeWhile (nl · d))
theorem br(p):plus p (0,0)=p:=by unfold plus;simp
theorem bD(p q r):plus (plus p q) r=plus p (plus q r):=by unfold plus;refine MB ?_ ?_ <;>simp <;>lia
theorem dl(p q):plus p q=plus q p:=by unfold plus;refine MB ?_ ?_ <;>simp <;>lia
theorem eO(p)(ws):p∈pth p ws:=by cases ws <;>simp[pth]
theorem gX(h:nl x d=true):dQ d (x::xs)=plus x (dQ d xs):=by unfold dQ;rw[NY,if_pos h];rfl
theorem fC(h:nl x d=false):dQ d (x::xs)=(0,0):=by unfold dQ;rw[NY,if_neg (by rw[h];decide)];rfl
theorem fS(d):∀a p,plus p (dQ d a)∈pth p a
 |[],p=>by rw[show dQ d []=(0,0) from rfl,br];exact eO p _
 |w::a,p=>by
  cases h:nl w d with
  |true=>
   rw[gX h,<-bD];exact IS _ (fS d a _)
  |false=>rw[fC h,br];exact eO p _
theorem lG{Q:List P2->List P2->Prop}(b:∀xs,Q xs [])(c:∀y a,Q [] (y::a))(e:∀x xs y a,Q xs (y::a)->Q (x::xs) a->Q (x::xs) (y::a))(xs:List P2):∀a,Q xs a:=by
 induction xs with
 |nil=>exact λa=>by cases a with |nil=>exact b _ |cons y a=>exact c y a
 |cons x xs d=>
  intro a
  induction a with
  |nil=>exact b _
  |cons y a f=>exact e x xs y a (d _) f
theorem Dy{d:P2}(j:d≠(0,0)):∀(a b:List P2) (p:P2),(∀x∈a,x≠(0,0))->(∀y∈b,y≠(0,0))->plus p (plus (dQ d a) (dQ d b))∈pth p (mrg a b):=by
 refine lG (λa p _ _=>?_) (λy b p _ _=>?_) λx a y b o n p g hy=>?_
 .rw[mrg,show dQ d []=(0,0) from rfl,br];exact fS d a p
 .rw[mrg,show dQ d []=(0,0) from rfl,dl (0,0),br];exact fS d _ p
 .have i:=g x IW;have l:=hy y IW;rw[mrg];cases h:nl x y with
  |true=>
   rw[if_pos rfl];cases k:nl x d with
   |true=>
    have f:=o (plus p x) (λz c=>g z (IS _ c)) hy;rw[gX k,bD x,<-bD p];exact IS _ f
   |false=>
    have:nl y d=false:=by
     cases e:nl y d with
     |false=>rfl
     |true=>rw[rL i l j h e]at k;cases k
    rw[fC k,fC this,br,br];exact eO p _
  |false=>
   rw[if_neg (by decide)];have m:=EC h;cases k:nl y d with
   |true=>
    have f:=n (plus p y) g (λz c=>hy z (IS _ c));rw[gX k,<-bD (dQ d (x::a)),dl (dQ d (x::a)) y,bD y,<-bD p];exact IS _ f
   |false=>
    have:nl x d=false:=by
     cases e:nl x d with
     |false=>rfl
     |true=>rw[rL l i j m e]at k;cases k
    rw[fC k,fC this,br,br];exact eO p _
theorem GM(o):nl (0,0) o=true:=by
 cases h:ngv o with
 |true=>exact jj rfl h
 |false=>rw[bE (by rw[h];rfl)];exact decide_eq_true (by unfold cr;simp)
theorem Fu:∀a p,plus p (dQ d a)∈pth p (mrg [(0,0)] a)
 |[],p=>by rw[show dQ d []=(0,0) from rfl,br];exact eO p _
 |y::a,p=>by
  rw[mrg,if_pos (GM y)];refine IS _ ?_;rw[br];cases a with
  |nil=>rw[mrg];exact fS d _ p
  |cons z b=>rw[mrg];exact fS d _ p
theorem zP:∀a p,plus p (dQ d a)∈pth p (mrg a [(0,0)])
 |[],p=>by rw[show dQ d []=(0,0) from rfl,br];exact eO p _
 |x::a,p=>by
  rw[mrg];cases h:nl x (0,0) with
  |true=>
   rw[if_pos rfl];cases k:nl x d with
   |true=>rw[gX k,<-bD];exact IS _ (zP a _)
   |false=>rw[fC k,br];exact eO p _
  |false=>
   rw[if_neg (by decide)];refine IS _ ?_;rw[br,mrg];exact fS d _ p
theorem yW(t:∀p∈A,p∈B)(d:∀p∈av B,p∈A):av A=av B:=by
 by_cases c:2<=(ST.srt B).length
 .have l:=cJ B;obtain⟨g,i,C,J,b,o,m,v,I,L,H,K⟩:=xD l c;have q:=d7 c
  have n:∀p∈ak (ST.srt B),p∈av B:=λp a=>by
   rw[q,b,o,K9,K9];rw[b]at a;rcases IT.mp a with z |z
   .rw[z];exact Jf _ (Jh.mpr v)
   .exact JO _ (Jh.mpr z)
  have f:∀p∈ak (ST.srt B).reverse,p∈av B:=λp a=>by
   rw[q,b,o,K9,K9];rw[o]at a;rcases IT.mp a with z |z
   .rw[z];exact JO _ (Jh.mpr m)
   .exact Jf _ (Jh.mpr z)
  have s:=cJ A;have sub:∀p∈ST.srt A,p∈ST.srt B:=λp a=>(ST.srt_mem p B).mpr (t p ((ST.srt_mem p _).mp a));have D:=m8 l s sub λp a=>(ST.srt_mem p _).mpr (d p (n p a));have w:=jG l s sub λp a=>(ST.srt_mem p _).mpr (d p (f p a))
  have len:2<=(ST.srt A).length:=by
   have j:g∈ST.srt A:=(ST.srt_mem _ _).mpr (d _ (n g (by rw[b];exact IS _ m)));have r:i∈ST.srt A:=(ST.srt_mem _ _).mpr (d _ (n i (by rw[b];exact IW)))
   have E:g≠i:=λe=>by
    have u:=(b8 l (λz=>by rw[z]at c;simp at c)).1;rw[b]at u;have:=kh (st:=i::C) u.desc;have k:=(J0.mp this).1 g m;rw[e]at k;exact bB _ k
   rcases LI (ST.srt A).length 2 with k |k
   .exfalso
    rcases (by lia:(ST.srt A).length=0\/(ST.srt A).length=1) with h |h
    .rw[KY.mp h]at j;cases j
    .obtain⟨x,F⟩:=len1 h;rw[F]at j r;exact E ((Jq.mp j).trans (Jq.mp r).symm)
   .exact k
  rw[d7 len,q,D,w]
 .have y:=c_ c;refine mL (oF λz=>⟨t z,λG=>d z ?_⟩);rw[y];exact (ST.srt_mem z B).mpr G
theorem uK(c:2<=(ST.srt pts).length):∃a,(av pts)[0]?=some a/\∀p∈pts,p=a\/plt a p:=by
 obtain⟨a,f,W⟩:=ways (cJ pts) c;refine⟨a,?_,λp d=>W.least p ((ST.srt_mem p pts).mpr d)⟩
 have b:av pts=(ak (ST.srt pts)).reverse.dropLast++(ak (ST.srt pts).reverse).reverse.dropLast:=by
  unfold av;rw[if_neg (by lia)]
 have e:=W.lt;rw[b,Jn (by rw[Kr];lia),Mn,if_pos (by lia)];exact W.t0
theorem qR(a:2<=(ST.srt pts).length):2<=(av pts).length:=by
 obtain⟨c,d,W⟩:=ways (cJ pts) a
 have b:av pts=(ak (ST.srt pts)).reverse.dropLast++(ak (ST.srt pts).reverse).reverse.dropLast:=by
  unfold av;rw[if_neg (by lia)]
 have:=W.lt;have:=W.lb;rw[b,Jl,Kr,Kr];lia
theorem Du(h:plt x y):ngv (aL y x)=false:=by
 unfold plt at h;unfold ngv ST.ltP aL;refine decide_eq_false ?_;simp only;lia
theorem BK(h:plt x y):ngv (aL x y)=true:=by
 unfold plt at h;unfold ngv ST.ltP aL;refine decide_eq_true ?_;simp only;lia
theorem C9(i:u≠(0,0))(f:u.1*z.1+u.2*z.2=0)(g:cr u z=0):z=(0,0):=by
 have d:(u.1*u.1+u.2*u.2) *z.1=u.1*(u.1*z.1+u.2*z.2)-u.2*cr u z:=by unfold cr;grind
 have c:(u.1*u.1+u.2*u.2) *z.2=u.2*(u.1*z.1+u.2*z.2)+u.1*cr u z:=by unfold cr;grind
 rw[f,g]at d c
 have e:u.1*u.1+u.2*u.2≠0:=λk=>by
  have a:=sqn u.1;have b:=sqn u.2;have j:u.1*u.1=0:=by omega
  have h:u.2*u.2=0:=by omega
  refine i (MB ?_ ?_)
  .rcases Lu.mp j with z |z <;>exact z
  .rcases Lu.mp h with z |z <;>exact z
 refine MB ?_ ?_
 .rcases Lu.mp (d.trans (by simp)) with k |k
  .exact absurd k e
  .exact k
 .rcases Lu.mp (c.trans (by simp)) with k |k
  .exact absurd k e
  .exact k
theorem Ff{u:P2}(d:u≠(0,0)):0<u.1*u.1+u.2*u.2:=by
 have a:=sqn u.1;have b:=sqn u.2;rcases LM 0 (u.1*u.1+u.2*u.2) with k |k
 .exact k
 .exfalso
  have e:u.1*u.1=0:=by omega
  have c:u.2*u.2=0:=by omega
  refine d (MB ?_ ?_)
  .rcases Lu.mp e with z |z <;>exact z
  .rcases Lu.mp c with z |z <;>exact z
theorem uu(a b q):aK a b q=cr (aL b a) (aL q b):=by unfold aK cr aL;grind
theorem yw(d:p∈av l):GX l p:=by
 refine⟨d6 l p d,?_⟩;by_cases n:2<=(ST.srt l).length
 .rcases LI (av l).length 3 with h |h
  .have L:(av l).length=2:=by have:=qR n;lia
   obtain⟨A,B,f⟩:∃A B,av l=[A,B]:=by
    match j:av l,L with
    |[A,B],_=>exact⟨A,B,rfl⟩
   have nd:=cQ l;rw[f]at nd;have H:A≠B:=by simp at nd;exact nd
   obtain⟨V,T,G,v,F,_⟩:=dg n (i:=0) (by lia);obtain⟨Q,U,w,z,E,_⟩:=dg n (i:=1) (by lia);rw[f]at G v w z;simp at G v w z;subst G v w z
   have t:∀o p,p≠o->(∀c∈av l,c=p\/c=o)->(∀q∈l,aK o p q=0)->∃a b:Int,∀q∈l,q≠p->wth a b q<wth a b p:=by
    intro o p O j s
    have J:aL p o≠(0,0):=λk=>O (by
     have D:=congrArg Q7 k;have u:=congrArg RU k;unfold aL at D u;exact MB (by lia) (by lia))
    have S:=Ff J;refine⟨(aL p o).1,(aL p o).2,λq g m=>?_⟩;have P:wth (aL p o).1 (aL p o).2 p-wth (aL p o).1 (aL p o).2 o=(aL p o).1*(aL p o).1+(aL p o).2*(aL p o).2:=by unfold wth aL;grind
    obtain⟨c,M,R⟩:=qM (aL p o).1 (aL p o).2 g
    have le:wth (aL p o).1 (aL p o).2 q<=wth (aL p o).1 (aL p o).2 p:=by
     rcases j c M with rfl |rfl <;>lia
    rcases Pj le with k |k
    .exact k
    .exfalso
     have N:(aL p o).1*(aL q p).1+(aL p o).2*(aL q p).2=0:=by
      have:wth (aL p o).1 (aL p o).2 q-wth (aL p o).1 (aL p o).2 p=(aL p o).1*(aL q p).1+(aL p o).2*(aL q p).2:=by unfold wth aL;grind
      lia
     have K:=s q g;rw[uu]at K;have:=C9 J N K;have D:=congrArg Q7 this;have u:=congrArg RU this;unfold aL at D u;exact m (MB (by lia) (by lia))
   have I:∀q∈l,aK A B q=0:=λq g=>by
    have a:=F q g;have b:=E q g;have:aK A B q=- aK B A q:=by unfold aK;grind
    lia
   rw[f]at d;rcases IT.mp d with rfl |d
   .exact t B p H (λc j=>by rw[f]at j;simpa using j) λq g=>by
     have:aK p B q=- aK B p q:=by unfold aK;grind
     have:=I q g;lia
   .have e:p=B:=by simpa using d
    subst e;exact t A p H.symm (λc j=>by rw[f]at j;simp at j;exact j.symm) I
  .exact (rS h d).2
 .rw[c_ n]at d;refine⟨0,0,λq g m=>absurd ?_ m⟩
  have C:=(ST.srt_mem q l).mpr g
  match hA:ST.srt l with
  |[]=>rw[hA]at d;simp at d
  |[x]=>rw[hA]at d C;simp at d C;exact C.trans d.symm
  |x::y::r=>rw[hA]at n;simp at n
noncomputable def wys(l:List P2):List P2:=(sdl l).map λs=>aL s.2 s.1
theorem dj(l):(wys l).length=l.length:=by unfold wys sdl;simp
theorem uv(h:i<l.length):(wys l)[i]?=some (aL (gp l ((i+1)%l.length)) (gp l i)):=by
 unfold wys sdl;rw[I0,I0,Lh h];rfl
theorem mD:∀a w,sms (a++[w])=plus (sms a) w
 |[],w=>by show plus w (0,0)=plus (0,0) w;exact dl _ _
 |v::a,w=>by show plus v (sms (a++[w]))=plus (plus v (sms a)) w;rw[mD a w,bD]
theorem uT(p q):plus p (aL q p)=q:=by unfold plus aL;refine MB ?_ ?_ <;>simp <;>lia
theorem i7:∀i,i<=l.length->0<l.length->plus (gp l 0) (sms ((wys l).take i))=gp l (i%l.length)
 |0,_,_=>by rw[NO,QZ];exact br _
 |i+1,h,a=>by
  have ih:=i7 i (by lia) a;rw[L7,uv (show i<l.length by lia),RD,mD,<-bD,ih,JC (show i<l.length by lia),uT]
theorem qO(f):∀b:List P2,∃i,i<=b.length/\b.takeWhile f=b.take i/\(∀j w,j<i->b[j]?=some w->f w=true)/\(∀w,b[i]?=some w->f w=false)
 |[]=>⟨0,IV _,rfl,λj w h=>absurd h (Mj _),λw h=>by simp at h⟩
 |w::b=>by
  cases hf:f w with
  |true=>
   obtain⟨i,g,d,e,c⟩:=qO f b;refine⟨i+1,by simp;lia,by rw[NY,if_pos hf,Lg,d],λj v k a=>?_,λv a=>c v (by simpa using a)⟩;cases j with
   |zero=>simp at a;rw[<-a];exact hf
   |succ j=>exact e j v (by lia) (by simpa using a)
  |false=>
   exact⟨0,JZ _,by rw[NY,if_neg (by rw[hf];decide)];rfl,λj v h=>absurd h (Mj _),λv a=>by simp at a;rw[<-a];exact hf⟩
theorem y8(a b)(q z):cr (-b,a) (aL q z)=wth a b z-wth a b q:=by unfold cr aL wth;grind
theorem yC(h:p≠q):aL p q≠(0,0):=λk=>h (by
 have a:=congrArg Q7 k;have b:=congrArg RU k;unfold aL at a b;exact MB (by lia) (by lia))
theorem vR(Ve:pts≠[])(hd:((-b,a):P2)≠(0,0)):∃Z∈av pts,plus (gp (av pts) 0) (dQ (-b,a) (wys (av pts)))=Z/\∀q∈pts,wth a b q<=wth a b Z:=by
 have cne:=fX Ve;have U4:=JK.mpr cne;obtain⟨i,i1,i2,H,M⟩:=qO (nl · (-b,a)) (wys (av pts));rw[dj]at i1
 have eZ:plus (gp (av pts) 0) (dQ (-b,a) (wys (av pts)))=gp (av pts) (i%(av pts).length):=by
  unfold dQ;rw[i2];exact i7 i i1 U4
 refine⟨_,dJ (KC i U4),eZ,λq I=>?_⟩;generalize hn:(av pts).length=n at *
 have at_:∀j,j<n->(wys (av pts))[j]?=some (aL (gp (av pts) ((j+1)%n)) (gp (av pts) j)):=λj d=>by
  have:=uv (l:=av pts) (i:=j) (by omega)
  rwa [hn]at this
 by_cases s:2<=(ST.srt pts).length
 .obtain⟨mn,f1,f2⟩:=uK s;have g0:gp (av pts) 0=mn:=by simp[gp,f1]
  have nd:=cQ pts;have P:∀j k,j<n->k<n->j≠k->gp (av pts) j≠gp (av pts) k:=λj k d hk hjk e=>hjk ((NF (by omega) nd).mp (by rw[e8 (by omega),e8 (by omega),e]))
  have D:∀j,0<j->j<n->plt (gp (av pts) 0) (gp (av pts) j):=λj N d=>by
   rw[g0];rcases f2 _ (d6 _ _ (dJ (i:=j) (by omega))) with z |z
   .exact absurd (z.trans g0.symm) (P j 0 d (by omega) (by omega))
   .exact z
  have n2:2<=n:=by have:=qR s;omega
  have pn:∀j,0<j->j<n->ngv (aL (gp (av pts) j) (gp (av pts) 0))=false:=λj N d=>Du (D j N d);have nn:∀j,0<j->j<n->ngv (aL (gp (av pts) 0) (gp (av pts) j))=true:=λj N d=>BK (D j N d);by_cases h3:3<=n
  .-- the sides before and behind
   have W8:∀k,k<n->(k+1)%n=i%n->(∀u v,u=aL (gp (av pts) ((k+1)%n)) (gp (av pts) k)->v=aL (gp (av pts) ((k+2)%n)) (gp (av pts) ((k+1)%n))->u≠(0,0)->v≠(0,0)->0<cr u v->0<=cr u (-b,a)/\0<=cr (-b,a) v)->wth a b q<=wth a b (gp (av pts) (i%n)):=by
    intro k hk ek X;obtain⟨A,B,r1,r2,cv,tn⟩:=dg s (i:=k) (by omega);obtain⟨C,r3,f⟩:=tn (by omega);rw[hn]at r2 r3;have k1:(k+1)%n<n:=KC _ (by omega)
    obtain⟨B',C',s1,L,S,_⟩:=dg s (i:=(k+1)%n) (by omega);rw[hn]at L;rw[show ((k+1)%n+1)%n=(k+2)%n by rw[OZ]]at L
    rw[r2]at s1;rw[r3]at L;cases s1;cases L;have O:gp (av pts) k=A:=by simp[gp,r1]
    have o:gp (av pts) ((k+1)%n)=B:=by simp[gp,r2]
    have T:gp (av pts) ((k+2)%n)=C:=by simp[gp,r3]
    rw[uu]at f;have y:aL B A≠(0,0):=λz=>by rw[z]at f;unfold cr at f;simp at f
    have F:aL C B≠(0,0):=λz=>by rw[z]at f;unfold cr at f;simp at f
    obtain⟨c1,c2⟩:=X _ _ rfl rfl (by rw[O,o];exact y) (by rw[o,T];exact F) (by rw[O,o,T];exact f);rw[O,o]at c1;rw[o,T]at c2;have G:=cv q I;rw[uu]at G;have m2:=S q I
    have Y:0<=cr (aL C B) (aL q B):=by
     have:aK B C q=cr (aL C B) (aL q B):=by unfold aK cr aL;grind
     rw[<-this];exact m2
    have:=IK f c1 c2 G Y;rw[y8]at this;rw[<-ek,o];omega
   by_cases r:0<i/\i<n
   .refine W8 (i-1) (by omega) (by rw[ME r.1]) λu v p ev y F t=>?_;rw[ME r.1,JC r.2]at p ev;have K:(i-1+2)%n=(i+1)%n:=by rw[show i-1+2=i+1 by omega]
    rw[K]at ev;have g:=at_ (i-1) (by omega)
    rw[ME r.1,JC r.2,<-p]at g;have w:=at_ i r.2;rw[<-ev]at w;exact CC y F hd t (H (i-1) u (by omega) g) (M v w)
   .have e0:i%n=0:=by
     rcases MA i with z |z
     .rw[z,QZ]
     .rw[show i=n by omega,Nr]
    have J:(n-1+1)%n=0:=by rw[ME (by omega),Nr]
    have G:(n-1+2)%n=1:=by rw[show n-1+2=n+1 by omega,Nat.add_mod_left,JC (by omega)]
    refine W8 (n-1) (by omega) (by rw[J,e0]) λu v p ev y F t=>?_;rw[J]at p;rw[J,G]at ev;have g:=at_ (n-1) (by omega)
    rw[J,<-p]at g;have w:=at_ 0 (by omega)
    rw[show (0+1)%n=1 from JC (by omega),<-ev]at w
    refine Gy y F hd (by rw[p];exact nn (n-1) (by omega) (by omega)) (by rw[ev];exact pn 1 (by omega) (by omega)) t ?_;rcases MA i with z |z
    .left;exact M v (by rw[z];exact w)
    .right;exact H (n-1) u (by omega) g
  .have K:n=2:=by omega
   obtain⟨c,t,hw⟩:=qM a b I;obtain⟨j,d⟩:=JL.mp t;have jl:j<n:=by have:=(I_.mp d).1;omega
   have ec:c=gp (av pts) j:=by simp[gp,d]
   have Q:∀j,j<n->wth a b (gp (av pts) j)<=wth a b (gp (av pts) (i%n)):=by
    have U:=at_ 0 (by omega);have g:=at_ 1 (by omega);rw[show (0+1)%n=1 from JC (by omega)]at U
    rw[show (1+1)%n=0 by rw[K]]at g
    have p1:=pn 1 (by omega) (by omega);have W:=nn 1 (by omega) (by omega);intro j d;have c1:=y8 a b (gp (av pts) 1) (gp (av pts) 0);have V:cr (aL (gp (av pts) 1) (gp (av pts) 0)) (-b,a)=- cr (-b,a) (aL (gp (av pts) 1) (gp (av pts) 0)):=f_ _ _;have anti3:cr (aL (gp (av pts) 0) (gp (av pts) 1)) (-b,a)=cr (-b,a) (aL (gp (av pts) 1) (gp (av pts) 0)):=by unfold cr aL;grind
    have m:j=0\/j=1:=by omega
    rcases (show i=0\/i=1\/i=2 by omega) with z |z |z
    .subst z;have h:=M _ U;rw[QZ];cases hg:ngv ((-b,a)) with
     |true=>
      have E:=h;rw[jj p1 hg]at E;cases E
     |false=>
      have E:=h;rw[bE (by rw[p1,hg])]at E
      have:=of_decide_eq_false E;rcases m with rfl |rfl <;>omega
    .subst z;have h:=H 0 _ (by omega) U;have h2:=M _ g;rw[show 1%n=1 from JC (by omega)];cases hg:ngv ((-b,a)) with
     |true=>
      rw[bE (by rw[W,hg])]at h2
      have:=of_decide_eq_false h2;rcases m with rfl |rfl <;>omega
     |false=>
      rw[bE (by rw[p1,hg])]at h
      have:=of_decide_eq_true h;rcases m with rfl |rfl <;>omega
    .subst z;have h:=H 1 _ (by omega) g;rw[show 2%n=0 by rw[K]];cases hg:ngv ((-b,a)) with
     |true=>
      rw[bE (by rw[W,hg])]at h
      have:=of_decide_eq_true h;rcases m with rfl |rfl <;>omega
     |false=>rw[kq W hg]at h;cases h
   have:=Q j jl;rw[ec]at hw;omega
 .have es:=c_ s;have R:q∈av pts:=by rw[es];exact (ST.srt_mem q pts).mpr I
  have hz:=dJ (by rw[hn];exact KC i (by omega))
  have l1:(av pts).length=1:=by
   have:(av pts).length=(ST.srt pts).length:=by rw[es]
   omega
  match hA:av pts,l1 with
  |[x],_=>
   rw[hA]at R hz;simp at R hz;have:gp [x] (i%n)=x:=hz;rw[this,R];exact Rr _
noncomputable def iO(X Y:List P2):List P2:=X.flatMap λp=>Y.map λq=>plus p q
theorem dz:z∈iO X Y↔∃p∈X,∃q∈Y,plus p q=z:=by
 unfold iO;rw[SR];constructor
 .rintro ⟨p,b,h⟩;obtain⟨q,a,e⟩:=Jb.mp h;exact⟨p,b,q,a,e⟩
 .rintro ⟨p,b,q,a,e⟩;exact⟨p,b,Jb.mpr ⟨q,a,e⟩⟩
noncomputable def wlk(p:P2):List P2->List P2
 |[]=>[]
 |w::ws=>p::wlk (plus p w) ws
theorem wB:∀a p,pth p a=wlk p a++[plus p (sms a)]
 |[],p=>by show [p]=[]++[plus p (0,0)];rw[br];rfl
 |w::a,p=>by show p::pth (plus p w) a=(p::wlk (plus p w) a)++[plus p (plus w (sms a))];rw[wB a,bD];rfl
theorem pJ:∀a p,(wlk p a).length=a.length
 |[],_=>rfl
 |w::a,p=>by show (wlk (plus p w) a).length+1=_;rw[pJ a];rfl
theorem sW:∀a w p,wlk p (a++[w])=wlk p a++[plus p (sms a)]
 |[],w,p=>by show [p]=[]++[plus p (0,0)];rw[br];rfl
 |v::a,w,p=>by show p::wlk (plus p v) (a++[w])=(p::wlk (plus p v) a)++[plus p (plus v (sms a))];rw[sW a,bD];rfl
theorem BY:∀a b:List P2,sms (mrg a b)=plus (sms a) (sms b):=by
 refine lG (λa=>?_) (λy b=>?_) λx a y b d c=>?_
 .rw[mrg];exact (br _).symm
 .rw[mrg];show _=plus (0,0) _;rw[dl,br]
 .rw[mrg];split
  .show plus x (sms (mrg a (y::b)))=plus (plus x (sms a)) _;rw[d,bD]
  .show plus y (sms (mrg (x::a) b))=plus _ (plus y (sms b));rw[c,<-bD,<-bD,dl y]
theorem pM:∀a b:List P2,(mrg a b).length=a.length+b.length:=by
 refine lG (λa=>?_) (λy b=>?_) λx a y b d c=>?_
 .rw[mrg];rfl
 .rw[mrg];simp
 .rw[mrg];split
  .rw[Ji,d];simp;lia
  .rw[Ji,c];simp;lia
theorem nM:∀a p z,z∈pth p a->∃i,i<=a.length/\z=plus p (sms (a.take i))
 |[],p,z,h=>by
  have:z=p:=by simpa [pth] using h
  exact⟨0,IV _,by rw[this];exact (br p).symm⟩
 |w::a,p,z,h=>by
  rcases IT.mp h with e |e
  .exact⟨0,JZ _,by rw[e];exact (br p).symm⟩
  .obtain⟨i,c,b⟩:=nM a _ z e;exact⟨i+1,by simp;lia,by rw[b,bD];rfl⟩
theorem A1:∀(a b:List P2) (p z:P2),z∈pth p (mrg a b)->∃i j,i<=a.length/\j<=b.length/\z=plus p (plus (sms (a.take i)) (sms (b.take j))):=by
 refine lG (λa p z h=>?_) (λy b p z h=>?_) λx a y b k g p z h=>?_
 .rw[mrg]at h;obtain⟨i,c,d⟩:=nM a p z h;exact⟨i,0,c,IV _,by rw[d];show _=plus p (plus _ (0,0));rw[br]⟩
 .rw[mrg]at h;obtain⟨j,c,d⟩:=nM _ p z h;exact⟨0,j,IV _,c,by rw[d];show _=plus p (plus (0,0) _);rw[dl (0,0),br]⟩
 .have start:z=p->∃i j,i<=(x::a).length/\j<=(y::b).length/\z=plus p (plus (sms ((x::a).take i)) (sms ((y::b).take j))):=λe=>
   ⟨0,0,JZ _,JZ _,by rw[e];show p=plus p (plus (0,0) (0,0));rw[br,br]⟩
  rw[mrg]at h;split at h
  .rcases IT.mp (show z∈p::pth (plus p x) (mrg a (y::b)) from h) with e |e
   .exact start e
   .obtain⟨i,j,c,d,f⟩:=k _ z e;refine⟨i+1,j,by simp;lia,d,?_⟩;rw[f,Lg,bD];show plus p (plus x _)=plus p (plus (plus x _) _);rw[bD x]
  .rcases IT.mp (show z∈p::pth (plus p y) (mrg (x::a) b) from h) with e |e
   .exact start e
   .obtain⟨i,j,c,d,f⟩:=g _ z e;refine⟨i,j+1,c,by simp;lia,?_⟩;rw[f,Lg,bD];show plus p (plus y _)=plus p (plus _ (plus y _));rw[<-bD y,dl y,bD]
theorem mf(h:0<l.length):sms (wys l)=(0,0):=by
 have:=i7 l.length (IV _) h;rw[Kq (by rw[dj];exact IV _),Nr]at this
 generalize sms (wys l)=z at *;have a:=congrArg Q7 this;have b:=congrArg RU this;unfold plus at a b;exact MB (by show z.1=0;lia) (by show z.2=0;lia)
noncomputable def tog(l m:List P2):List P2:=wlk (plus (gp l 0) (gp m 0)) (mrg (wys l) (wys m))
theorem qb(l m):(tog l m).length=l.length+m.length:=by unfold tog;rw[pJ,pM,dj,dj]
theorem oS(a b c d):plus (plus a b) (plus c d)=plus (plus a c) (plus b d):=by unfold plus;refine MB ?_ ?_ <;>simp <;>lia
theorem vY(c:0<l.length)(a:0<m.length):z∈tog l m↔z∈pth (plus (gp l 0) (gp m 0)) (mrg (wys l) (wys m)):=by
 unfold tog;rw[wB,BY,mf c,mf a,br,br];constructor
 .exact λh=>JO _ h
 .intro h;rcases JB.mp h with e |e
  .exact e
  .have:=pM (wys l) (wys m);rw[dj,dj]at this;have b:z=plus (gp l 0) (gp m 0):=by simpa using e
   match hw:mrg (wys l) (wys m) with
   |[]=>rw[hw]at this;simp at this;lia
   |w::ws=>rw[b];exact IW
theorem lH(b:0<l.length)(a:0<m.length):∀z∈tog l m,z∈iO l m:=λz f=>by
 obtain⟨i,j,c,d,e⟩:=A1 _ _ _ z ((vY b a).mp f);rw[dj]at c d;rw[oS,i7 i c b,i7 j d a]at e;rw[e];exact dz.mpr ⟨_,dJ (KC _ b),_,dJ (KC _ a),rfl⟩
theorem AN(d:l.Nodup)(g:2<=l.length):∀w∈wys l,w≠(0,0):=λw f=>by
 obtain⟨i,a⟩:=JL.mp f;have b:i<l.length:=by have:=(I_.mp a).1;rwa [dj]at this
 rw[uv b]at a;cases a;refine yC λe=>?_
 have c:(i+1)%l.length<l.length:=KC _ (by lia);have:=(NF (j:=i) c d).mp (by rw[e8 c,e8 b,e]);rcases LI (i+1) l.length with k |k
 .rw[JC k]at this;lia
 .rw[show i+1=l.length by lia,Nr]at this;lia
theorem vo(p):wys [p]=[(0,0)]:=by
 unfold wys sdl nxt gp aL;simp
theorem one_of(a:0<l.length)(h:¬ 2<=l.length):∃p,l=[p]:=by
 match l,a,h with
 |[p],_,_=>exact⟨p,rfl⟩
 |p::q::r,_,h=>simp at h
theorem xi(b:l.Nodup)(nm:m.Nodup)(f:0<l.length)(e:0<m.length)(h:d≠(0,0)):plus (plus (gp l 0) (dQ d (wys l))) (plus (gp m 0) (dQ d (wys m)))∈tog l m:=by
 rw[vY f e,oS];have a:dQ d [(0,0)]=(0,0):=by rw[gX (GM d),show dQ d []=(0,0) from rfl,br]
 by_cases c:2<=l.length
 .by_cases g:2<=m.length
  .exact Dy h _ _ _ (AN b c) (AN nm g)
  .obtain⟨p,rfl⟩:=one_of e g;rw[vo,a,br];exact zP _ _
 .obtain⟨p,rfl⟩:=one_of f c;rw[vo,a,dl (0,0),br];exact Fu _ _
theorem tz(a b)(p q):wth a b (plus p q)=wth a b p+wth a b q:=by unfold wth plus;grind
theorem qK{S T:List P2}(l:S≠[])(k:T≠[]):av (tog (av S) (av T))=av (iO (av S) (av T)):=by
 have g:=JK.mpr (fX l);have h:=JK.mpr (fX k);refine yW (lH g h) λp w=>?_;obtain⟨u,a,b,top⟩:=yw w;by_cases f:((-b,a))=(0,0)
 .have m:=congrArg Q7 f;have j:=congrArg RU f;simp at m j;have s:0<(tog (av S) (av T)).length:=by rw[qb];lia
  obtain⟨z,o⟩:=NR _ (JK.mp s);have i:=lH g h z o;by_cases e:z=p
  .rw[<-e];exact o
  .have:=top z i e;rw[m,j]at this;unfold wth at this;simp at this
 .obtain⟨n,F,v,D⟩:=vR l f;obtain⟨r,E,A,C⟩:=vR k f;have c:=xi (cQ S) (cQ T) g h f;rw[v,A]at c
  have d:∀q∈iO (av S) (av T),wth a b q<=wth a b (plus n r):=λq B=>by
   obtain⟨x,t,y,hy,rfl⟩:=dz.mp B;rw[tz,tz];have:=D x (d6 _ x t);have:=C y (d6 _ y hy);lia
  by_cases e:plus n r=p
  .rw[<-e];exact c
  .have:=top _ (lH g h _ c) e;have:=d p u;lia
theorem ww(h:∀z,z∈A↔z∈B):av A=av B:=mL (oF h)
theorem B9(z):z∈iO X Y↔z∈iO Y X:=by
 rw[dz,dz];constructor
 .rintro ⟨p,b,q,a,rfl⟩;exact⟨q,a,p,b,dl _ _⟩
 .rintro ⟨p,b,q,a,rfl⟩;exact⟨q,a,p,b,dl _ _⟩
theorem EQ(S T):av (iO S T)=av (iO T S):=ww B9
theorem AR(s)(l):av ((av l).map (plus s))=(av l).map (plus s):=by
 rw[Bq (f:=plus s) (λa b h=>by unfold plt plus at *;simp only;lia) (λa b c=>by
  have:aK (plus s a) (plus s b) (plus s c)=aK a b c:=by unfold aK plus;grind
  rw[this]),fN]
theorem vS(s)(l):av (iO [s] (av l))=(av l).map (plus s):=by
 rw[show iO [s] (av l)=(av l).map (plus s) by unfold iO;simp];exact AR s l
theorem Ij(h:0<=k):HT.sIx n m (some k)=min k.toNat n:=by
 unfold HT.sIx;simp;lia
theorem Ar(l:List P2)(a:0<=k)(h:k<=(l.length:Int)):gH (l.map pu) (some k) none=(l.drop k.toNat).map pu:=by
 unfold gH;rw[Ij a,HT.sIx_none,IM,<-Uo,<-Um,MT (by lia),Kq (by simp)]
def wT:List U->Out->Prop:=λa o=>∃p q:P2,a=[pu p,pu q]/\o=.val (pu (plus p q))
theorem wo:OkD P w base T.abN 1 (wT):=by
 refine okD Cc (by walk_at"ln") ?_;rintro _ _ _ a ⟨p,q,rfl,rfl⟩;refine ae (aO (bF (ao (b_ (aD (aa 0 rfl) af rfl rfl) (aD (aa 1 rfl) af rfl rfl)) (ao (b_ (aD (aa 0 rfl) af rfl rfl) (aD (aa 1 rfl) af rfl rfl)) a_ bh) bh)) ?_);exact rfl
def xP:List U->Out->Prop:=λa o=>∃l:List P2,a=[lp l]/\l.length<=900/\o=.new ((wys l).map pu)
theorem wx:OkD P w base T.abO 2 (xP):=by
 refine okD pZ (by walk_at"ln") ?_;rintro _ _ _ c ⟨l,rfl,b,rfl⟩;refine ae (cD (bP (ys:=((sdl l).map λs=>pu (aL s.2 s.1))) rfl (blk (ah uB) ["land","A","B"] [1,2] rfl rfl rfl rfl (by decide+kernel)) (EvI.z (bY (EvN.ev (dy (nI T) c (ag (aa 0 rfl) aj ai) ⟨l,rfl,b,rfl⟩)) (.inl rfl))) (λ_ _ _ _=>eK rfl (aM (aE pZ.nd rfl (Or.inl rfl)) (aM (aE pZ.nd rfl (Or.inl rfl)) cw))) (di (js:=[1,2]) (by decide)) ?clen ?csz ?dom ?celt) ?_)
 case clen=>simp
 case csz=>simp only[jm,IM];exact Ja (ax (by lia))
 case dom=>
  intro x a;obtain⟨s,_,rfl⟩:=Jb.mp a;exact⟨_,rfl,rfl⟩
 case celt=>
  intro C g e h j x y a hy;obtain⟨s,d,f,rfl,rfl⟩:=bT a hy;exact (bF (ao (bp (aD (aa 2 rfl) af rfl rfl) (aD (aa 1 rfl) af rfl rfl)) (ao (bp (aD (aa 2 rfl) af rfl rfl) (aD (aa 1 rfl) af rfl rfl)) a_ bh) bh))
 unfold wys;rw[JP];rfl
theorem yo(a b):eqW (.bl a) (.bl b)=(a==b):=by cases a <;>cases b <;>rfl
theorem ER(x):decide (sgn x >-1)=decide (0<=x):=by
 refine decide_eq_decide.mpr ?_;unfold sgn;split
 .lia
 .split <;>lia
theorem GY(w o):aK (0,0) w o=cr w o:=by unfold aK cr;simp
theorem GL:Szp 5000 ((0,0):P2):=⟨by decide,by decide⟩
def CW:List U->Out->Prop:=λa o=>∃w v:P2,a=[pu w,pu v]/\Szp 4000 w/\Szp 4000 v/\o=.val (.bl (nl w v))
theorem qS:OkD P w base T.abg 3 (CW):=by
 refine okD r_ (by walk_at"ln") ?_;rintro _ _ _ a ⟨w,v,rfl,c,b,rfl⟩;by_cases h:(ngv w !=ngv v)=true
 .refine ae (bz (am (re a rfl rfl) (eY (rR (cG a)) (aa 0 rfl) (bF (ao af (ao af a_ aU) aU))) (eY (rR (cG a)) (aa 1 rfl) (bF (ao af (ao af a_ aU) aU)))) (show (!eqW (.bl (ngv w)) (.bl (ngv v)))=true by rw[yo];exact h) ?_);refine ae (aO (eY (rR (q:=(0,0)) (cG a)) (aa 1 rfl) (bF (ao af (ao af a_ aU) aU))) ?_);refine vB ?_;unfold nl;rw[if_pos h];rfl
 .refine ae (aG (am (re a rfl rfl) (eY (rR (cG a)) (aa 0 rfl) (bF (ao af (ao af a_ aU) aU))) (eY (rR (cG a)) (aa 1 rfl) (bF (ao af (ao af a_ aU) aU)))) (show (!eqW (.bl (ngv w)) (.bl (ngv v)))=false by rw[yo];exact Om.mpr h) (au ?_));refine ae (aO (eY fc (bx (uX T) a (ag (bF (ao af (ao af a_ aU) aU)) (ag (aa 0 rfl) (ag (aa 1 rfl) aj ai) ai) Ak) ⟨(0,0),w,v,rfl,GL,⟨c.1.mono (by decide),c.2.mono (by decide)⟩,⟨b.1.mono (by decide),b.2.mono (by decide)⟩,rfl⟩) (fL af)) ?_);refine vB ?_;rw[ER,GY];unfold nl;rw[if_neg h]
theorem vC(ys):mrg [] ys=ys:=by cases ys <;>rw[mrg]
theorem DC(xs):mrg xs []=xs:=by rw[mrg]
theorem CH(h:nl x y=true):mrg (x::xs) (y::ys)=x::mrg xs (y::ys):=by rw[mrg,if_pos h]
theorem Fq(h:nl x y=false):mrg (x::xs) (y::ys)=y::mrg (x::xs) ys:=by rw[mrg,if_neg (by rw[h];decide)]
theorem p9{l:List P2}(h:l[i]?=some p):l.drop i=p::l.drop (i+1):=by
 obtain⟨a,e⟩:=I_.mp h;rw[JJ a,e]
theorem p5{l:List P2}{k:Nat}(h:l[k]?=some p):atI (l.map pu) (k:Int)=some (pu p):=aW rfl (by rw[I0,h];rfl)
def vy:List U->Out->Prop:=λc o=>∃a b:List P2,c=[lp a,lp b]/\(∀p∈a,Szp 4000 p)/\(∀p∈b,Szp 4000 p)/\a.length<=400/\b.length<=400/\o=.new ((mrg a b).map pu)
theorem uQ:OkD P w base T.abo 4 (vy):=by
 refine okD eP (by walk_at"ln") ?_;rintro _ _ _ I ⟨a,c,rfl,H,D,M,J,rfl⟩;have A:((a.map pu).length)=a.length:=by rw[IM]
 refine ae (m_ (i:=2) eP.nd rfl (Or.inl rfl) (cn a_) ?_);refine ae (aB 3 eP.nd af ?_);refine ae (fh (λq:Nat×List P2=>[some (.val (lp a)),some (.val (lp c)),some (.own (q.2.map pu)),some (.val (.int q.1)),none]) (λi q=>q.1<=a.length/\q.2.length=q.1+i/\q.2++mrg (a.drop q.1) (c.drop i)=mrg a c) rfl PassesOwn.never (bY (aa 1 rfl) (.inl rfl)) ?h0 ?hs ?hd)
 case h0=>exact⟨(0,[]),⟨JZ _,rfl,rfl⟩,rfl,rfl,rfl,rfl,trivial⟩
 case hs=>
  rintro L i x ⟨k,r⟩ E ⟨G,B,y⟩;obtain⟨Y,s,F,rfl⟩:=iZ E;have N:=aN s;rw[p9 s]at y;refine⟨_,(ft (i:=4) eP.nd rfl (Or.inl rfl)),?_⟩;refine iW (λn=>∃(f:Nat) (g:List P2),(f<=a.length/\g.length=f+i/\g++Y::mrg (a.drop f) (c.drop (i+1))=mrg a c)/\SubP [some (.val (lp a)),some (.val (lp c)),some (.own (g.map pu)),some (.val (.int f)),some (.val (pu Y))] n) (gK (λq:Nat×List P2=>[some (.val (lp a)),some (.val (lp c)),some (.own (q.2.map pu)),some (.val (.int q.1)),some (.val (pu Y))]) (λm q=>m=a.length-q.1/\q.1<=a.length/\q.2.length=q.1+i/\q.2++mrg (a.drop q.1) (Y::c.drop (i+1))=mrg a c) PassesOwn.never ?h0 ?hs) ?hj
  case h0=>exact⟨_,(k,r),⟨rfl,G,B,y⟩,rfl,rfl,rfl,rfl,rfl,trivial⟩
  case hs=>
   rintro m ⟨k,r⟩ ⟨rfl,o,d,b⟩;by_cases u:k<a.length
   .obtain⟨x,j⟩:∃x,a[k]?=some x:=⟨_,IQ u⟩;have C:=Jp j;have p:decide (k<((a.map pu).length:Int))=true:=decide_eq_true (by rw[A];lia);rw[p9 j]at b;refine⟨decide (k<((a.map pu).length:Int)) && nl x Y,?_,λh=>?_,λh n e=>?_⟩
    .exact (Tw.t (eE (am fB (aa 3 rfl) (ay (ci rfl) rfl T.aah JH (ag (aa 0 rfl) aj ai))) (λK=>(cU (jh (bx (qS T) I (ag (aD (aa 0 rfl) (aa 3 rfl) rfl (p5 j)) (ag (aa 4 rfl) aj ai) aT) ⟨x,Y,rfl,H x C,D Y F,rfl⟩))))))
    .rw[p,Mx]at h;rw[CH h]at b;refine ae (eN 2 rfl (aD (aa 0 rfl) (aa 3 rfl) rfl (p5 j)) (by rw[IM];exact ax (by lia)) ?_)
     refine ae (Hq (i:=3) Fc eP.nd rfl (Or.inl rfl) rfl af (au ?_));refine⟨_,(k+1,r++[x]),?_,⟨rfl,u,by simp[d];lia,by rw[Jj];exact b⟩,rfl,rfl,?_,?_,rfl,trivial⟩
     .simp;lia
     .exact congrArg (λl=>some (Sl.own l)) (by simp)
     .exact congrArg (λz=>some (Sl.val (.int z))) (by simp)
    .rw[p,Mx]at h;rw[Fq h,<-p9 j]at b;exact⟨k,r,⟨o,d,b⟩,e⟩
   .have v:k=a.length:=by lia
    have p:decide (k<((a.map pu).length:Int))=false:=decide_eq_false (by rw[A];lia);refine⟨false,?_,λh=>(nomatch h),λh n e=>⟨k,r,⟨o,d,?_⟩,e⟩⟩
    .exact (Tw.t (nv (am fB (aa 3 rfl) (ay (ci rfl) rfl T.aah JH (ag (aa 0 rfl) aj ai))) p))
    .rw[v,NV,vC]at b;rw[v,NV,vC];exact b
  case hj=>
   rintro n ⟨f,g,⟨o,d,b⟩,e⟩;refine c4 ?_ e;refine ae (eN 2 rfl (aa 4 rfl) (by rw[IM];exact ax (by lia)) (au ?_));refine⟨(f,g++[Y]),⟨o,by simp[d];lia,by rw[Jj];exact b⟩,rfl,rfl,?_,rfl,trivial⟩;exact congrArg (λl=>some (Sl.own l)) (by simp)
 case hd=>
  rintro ⟨k,r⟩ n ⟨o,d,b⟩ e;refine c4 ?_ e;rw[IM]at d b;rw[NV,DC]at b;refine EU 2 rfl ?_;refine ae (cD (mV (aa 2 rfl) (EvN.ev (cA (aa 0 rfl) (c3 (aa 3 rfl)) cT (.inl rfl))) (by rw[Ar a (by lia) (by lia),IM,IM,K_];exact Ja (jU (by lia)))) ?_)
  rw[Ar a (by lia) (by lia),<-Kt,<-b];rfl
def tm:List U->Out->Prop:=λa o=>∃l m:List P2,a=[lp l,lp m]/\l≠[]/\m≠[]/\l.length+m.length<64/\(∀p∈l,Szp 3000 p)/\(∀p∈m,Szp 3000 p)/\o=.new ((av (tog l m)).map pu)
theorem zN(d:Szp 3000 p)(e:Szp 3000 q):Szp 4000 (aL p q):=by
 have c:∀{x y},Sz 3000 x->Sz 3000 y->Sz 4000 (x-y):=λ{x y} a b=>by
  have hb:Sz 3000 (-y):=by unfold Sz at b |-;lia
  have:=(L2.Sz.add' a hb).mono (show _<=4000 by decide)
  rwa [show x+-y=x-y by lia]at this
 exact⟨c d.1 e.1,c d.2 e.2⟩
theorem Dg(b:Szp 3000 p)(a:Szp 3000 q):Szp 5000 (plus p q):=
 ⟨(L2.Sz.add' b.1 a.1).mono (by decide),(L2.Sz.add' b.2 a.2).mono (by decide)⟩
theorem Aj(h:∀p∈l,Szp 3000 p):∀w∈wys l,Szp 4000 w:=λw d=>by
 obtain⟨s,c,rfl⟩:=Jb.mp d;obtain⟨a,b⟩:=gl c;exact zN (h _ b) (h _ a)
theorem gp0(h:0<l.length):l[0]?=some (gp l 0):=e8 h
theorem qN:OkD P w base T.abh 5 (tm):=by
 refine okD du (by walk_at"ln") ?_;rintro _ _ _ c ⟨l,m,rfl,u,A,E,k,r,rfl⟩;have h:=JK.mpr u;have n:=JK.mpr A
 have d:∀z∈tog l m,Szp 5000 z:=λz y=>by
  obtain⟨p,t,q,f,rfl⟩:=dz.mp (lH h n z y);exact Dg (k p t) (r q f)
 have a:=qb l m;have H:=dj l;have J:=dj m;have I:=pM (wys l) (wys m);refine ae (aB 2 du.nd (bx (wo T) c (ag (aD (aa 0 rfl) af rfl (p5 (gp0 h))) (ag (aD (aa 1 rfl) af rfl (p5 (gp0 n))) aj aT) aT) ⟨_,_,rfl,rfl⟩) ?_);refine ae (m_ (i:=3) du.nd rfl (Or.inl rfl) (cn a_) ?_);have C:vy [lp (wys l),lp (wys m)] (.new ((mrg (wys l) (wys m)).map pu)):=⟨wys l,wys m,rfl,Aj k,Aj r,by lia,by lia,rfl⟩
 have e:tog l m=wlk (plus (gp l 0) (gp m 0)) (mrg (wys l) (wys m)):=rfl;rw[e]at d a |-;generalize plus (gp l 0) (gp m 0)=g at *;refine ae (fh (λi:Nat=>[some (.val (lp l)),some (.val (lp m)),some (.val (pu (plus g (sms ((mrg (wys l) (wys m)).take i))))),some (.own ((wlk g ((mrg (wys l) (wys m)).take i)).map pu)),none]) (λi j=>i=j) rfl PassesOwn.never (bY (EvN.ev (dy (uQ T) c (ag (EvN.ev (dy (wx T) c (ag (aa 0 rfl) aj ai) ⟨l,rfl,by lia,rfl⟩)) (ag (EvN.ev (dy (wx T) c (ag (aa 1 rfl) aj ai) ⟨m,rfl,by lia,rfl⟩)) aj aR) aR) C)) (.inl rfl)) ?h0 ?hs ?hd)
 case h0=>exact⟨0,rfl,rfl,rfl,congrArg (λz=>some (Sl.val (pu z))) (br g).symm,rfl,trivial⟩
 case hs=>
  rintro K i x _ s rfl;obtain⟨W,B,D,rfl⟩:=iZ s;have o:(mrg (wys l) (wys m)).take (i+1)=(mrg (wys l) (wys m)).take i++[W]:=by rw[L7,B];rfl
  refine⟨_,(ft (i:=4) du.nd rfl (Or.inl rfl)),?_⟩;refine ae (eN 3 rfl (aa 2 rfl) (by rw[IM,pJ,Mq];exact ax (by lia)) ?_);refine ae (aB 2 du.nd (bx (wo T) c (ag (aa 2 rfl) (ag (aa 4 rfl) aj ai) ai) ⟨_,_,rfl,rfl⟩) (au ?_));refine⟨i+1,rfl,rfl,rfl,?_,?_,trivial⟩
  .exact congrArg (λz=>some (Sl.val (pu z))) (by rw[o,mD,bD])
  .exact congrArg (λz=>some (Sl.own z)) (by rw[o,sW];simp)
 case hd=>
  rintro q G f v;refine c4 ?_ v;rw[IM]at f;subst f;rw[M4];refine ae (cD (Co 3 rfl ((jc T).mono (by decide)) c rfl T.aaL.m T.aaL.F.kp T.aaL.b gV aj ⟨_,rfl,d,by lia,(λz=>by rw[z]at a;simp at a;lia),rfl⟩) ?_)
  exact rfl
noncomputable def D10:List Nat:=[48,49,50,51,52,53,54,55,56,57]
theorem vD(c):c∈D10↔48<=c/\c<=57:=by rw[show D10=UK 48 10 from rfl,List.mem_range'_1];omega
noncomputable def bI(l:List Nat):List Nat:=if l.head?=some 45 then l.drop 1 else l
theorem qW(h:l.head?=some 45):l=45::bI l:=by
 unfold bI;rw[if_pos h];cases l with
 |nil=>simp at h
 |cons a r=>simp at h;subst h;rfl
theorem gJ(h:¬ l.head?=some 45):bI l=l:=if_neg h
theorem Br(l):(bI l).length<=l.length:=by unfold bI;split <;>simp
noncomputable def tK(l:List Nat):Bool:=l.all λc=>decide (c∈D10)
theorem tD(l):tK l=true↔NumText.AllDigits l:=by
 unfold tK NumText.AllDigits;rw[M3];exact⟨λh c a=>(vD c).mp (of_decide_eq_true (h c a)),λh c a=>decide_eq_true ((vD c).mpr (h c a))⟩
noncomputable def okL(l:List Nat):Bool:=(decide (1<=(bI l).length) && decide ((bI l).length<=60)) && (tK (bI l) && !(decide ((bI l).head?=some 48) && (decide (1<(bI l).length) ||decide (l≠bI l))))
structure Num(l:List Nat):Prop where
 l1:1<=(bI l).length
 l2:(bI l).length<=60
 ad:NumText.AllDigits (bI l)
 h0:(bI l).head?=some 48->(bI l).length=1/\l=bI l
theorem lD(l):okL l=true↔Num l:=by
 unfold okL;simp only[KU,decide_eq_true_eq,Ol,tD];constructor
 .rintro ⟨⟨a,b⟩,c,d⟩;refine⟨a,b,c,λh=>?_⟩;rw[decide_eq_true h,Mx,Re]at d;have g:=of_decide_eq_false d.1;have f:=of_decide_eq_false d.2;exact⟨by lia,Classical.not_not.mp f⟩
 .intro h;refine⟨⟨h.l1,h.l2⟩,h.ad,?_⟩;by_cases z:(bI l).head?=some 48
  .obtain⟨i,e⟩:=h.h0 z;rw[decide_eq_false (show ¬ 1<(bI l).length by lia),decide_eq_false (show ¬ l≠bI l from λk=>k e)];simp
  .rw[decide_eq_false z];rfl
noncomputable def AQ(l:List Nat):Int:=if l.head?=some 45 then -((NumText.digitsVal (bI l):Nat):Int) else ((NumText.digitsVal (bI l):Nat):Int)
theorem vx:∀b a,NumText.AllDigits b->b.foldl (λe c=>e*10+(c-48)) a<(a+1) *10 ^ b.length
 |[],a,_=>by simp
 |c::b,a,h=>by
  have h1:=h c IW;have f:=vx b (a*10+(c-48)) λd g=>h d (IS _ g);rw[LH,Ji,LZ];refine IZ f ?_;rw[QG (10 ^ b.length) 10,<-Nat.mul_assoc];exact NJ _ (by lia)
theorem zr(h:m<10 ^ 62):m.log2<1920:=by
 by_cases z:m=0
 .subst z;decide
 .rw[S0 z];exact J6 h (by decide+kernel)
theorem Num.text(h:Num l):TU (T' l)=some (AQ l):=by
 have c:bI l≠[]:=λe=>by have:=h.l1;rw[e]at this;simp at this
 unfold AQ;by_cases z:l.head?=some 45
 .rw[if_pos z];have e:=qW z;refine intText_neg (by simpa using e) h.ad c ?_;rw[bC];have:=congrArg P5 e;rw[Ji]at this;have:=h.l2;lia
 .rw[if_neg z,gJ z];have a:=h.ad;have b:=h.l2;rw[gJ z]at a b c;have:=intText_digits (x:=T' l) (by simpa using a) (by simpa using c) (by rw[bC];lia)
  simpa using this
noncomputable def ds(n:Int):List Nat:=(Str.ofString (Pd n)).cps.toList
theorem mr(n):Str.ofString (Pd n)=T' (ds n):=Am _
theorem fU(m:Nat):ds (m:Int)=(Q1 10 m).map Char.toNat:=UA m
theorem tR{m:Nat}(h:0<m):ds (-(m:Int))=45::ds (m:Int):=by
 unfold ds;rw[toString_neg (show (-(m:Int))<0 by lia),T4,T4,show 0 - -m=(m:Int) by lia,String.toList_append,Kt];rfl
theorem dh(a:1<=k)(h:n.natAbs<10 ^ k):(ds n).length<=k+1:=by
 rcases LM n 0 with z |z
 .obtain⟨m,rfl⟩:∃m:Nat,n=-m:=⟨n.natAbs,by lia⟩
  rw[tR (by lia),Ji,fU,IM];have:=Tr a (n:=m) (by lia);lia
 .obtain⟨m,rfl⟩:∃m:Nat,n=m:=⟨n.toNat,by lia⟩
  rw[fU,IM];have:=Tr a (n:=m) (by lia);lia
theorem ET:∀d,d<10->48<=(Ur d).toNat/\(Ur d).toNat<=57:=by decide
theorem lP(m:Nat):NumText.AllDigits (ds (m:Int)):=by
 induction m using S9 with
 |_ m b=>
  by_cases h:m<10
  .rw[fU,Nat.toDigits_of_lt_base h];intro c a;simp at a;rw[a];exact ET m h
  .have d:m%10<10:=KC m (by decide);have t:Q1 10 (m/10)++Q1 10 (m%10)=Q1 10 (10*(m/10)+m%10):=Nat.toDigits_append_toDigits (by decide) (by omega) d;rw[Nat.div_add_mod]at t;rw[fU,<-t,Kt];intro c a;rcases JB.mp a with k |k
   .exact b (m/10) (by omega) c (by rw[fU];exact k)
   .exact b (m%10) (by omega) c (by rw[fU];exact k)
theorem zK(m:Nat):NumText.digitsVal (ds (m:Int))=m:=by rw[fU];exact UC m
theorem Eu(m:Nat):ds (m:Int)≠[]:=λe=>by
 have h:=fU m;rw[e]at h;have:=Nat.toDigits_ne_nil (b:=10) (n:=m);exact this (by simpa using h.symm)
theorem we{m k:Nat}(a:1<=k)(h:m<10 ^ k):(ds (m:Int)).length<=k:=by
 rw[fU,IM];exact Tr a h
theorem BX{m:Nat}(h:(ds (m:Int)).head?=some 48):m=0:=by
 cases e:ds m with
 |nil=>rw[e]at h;simp at h
 |cons c r=>
  rw[e]at h;simp at h;subst h;have d:=lP m;have v:=zK m;rw[e]at d v;have b:=v;cases r with
  |nil=>rw[<-b];rfl
  |cons a r=>
   have:=vx (a::r) 0 (λc f=>d c (IS _ f));rw[MD,Rt]at this;have l:=we (m:=m) (k:=(a::r).length) (by simp) (by rw[<-b];exact this)
   rw[e]at l;simp at l;lia
theorem u_(n):bI (ds n)=ds (n.natAbs:Int)/\((ds n).head?=some 45↔n<0):=by
 rcases LM n 0 with z |z
 .obtain⟨m,rfl⟩:∃m:Nat,n=-m:=⟨n.natAbs,by lia⟩
  have e:=tR (m:=m) (by lia);rw[e];refine⟨?_,by simp;lia⟩;unfold bI;rw[if_pos (show (45::ds m).head?=some 45 from rfl)];simp
 .obtain⟨m,rfl⟩:∃m:Nat,n=m:=⟨n.natAbs,by lia⟩
  have a:(ds m).head?≠some 45:=λh=>by
   cases e:ds m with
   |nil=>exact Eu m e
   |cons c r=>
    rw[e]at h;simp at h;have:=lP m c (by rw[e];exact IW)
    lia
  refine⟨?_,by simp[a]⟩;rw[gJ a];simp
theorem qh(n):AQ (ds n)=n:=by
 obtain⟨e,h⟩:=u_ n;unfold AQ;rw[e,zK];by_cases z:n<0
 .rw[if_pos (h.mpr z)];omega
 .rw[if_neg λk=>z (h.mp k)];omega
theorem AC(h:n.natAbs<10 ^ 60):okL (ds n)=true:=by
 refine (lD _).mpr ?_;obtain⟨e,b⟩:=u_ n;refine⟨?_,?_,?_,λk=>?_⟩
 .rw[e];exact JK.mpr (Eu _)
 .rw[e];exact we (by decide) h
 .rw[e];exact lP _
 .rw[e]at k |-;have z:=BX k;have a:n=0:=by lia
  subst a;exact⟨by decide+kernel,by rfl⟩
theorem cX(n)(a:c<45\/57<c\/c=47\/c=46):c ∉ ds n:=λh=>by
 rcases LM n 0 with z |z
 .obtain⟨m,rfl⟩:∃m:Nat,n=-m:=⟨n.natAbs,by lia⟩
  rw[tR (by lia)]at h
  rcases IT.mp h with k |k
  .lia
  .have:=lP m c k;lia
 .obtain⟨m,rfl⟩:∃m:Nat,n=m:=⟨n.natAbs,by lia⟩
  have:=lP m c h;lia
noncomputable def ptD(p:P2):List Nat:=ds p.1++44::ds p.2
def B60(p:P2):Prop:=p.1.natAbs<10 ^ 60/\p.2.natAbs<10 ^ 60
theorem Bz(p):32 ∉ ptD p:=λh=>by
 rcases JB.mp h with k |k
 .exact cX p.1 (by lia) k
 .rcases IT.mp k with k |k
  .lia
  .exact cX p.2 (by lia) k
theorem lC(h:B60 p):(ptD p).length<=123:=by
 have b:=dh (by decide) h.1;have a:=dh (by decide) h.2;unfold ptD;simp;lia
noncomputable def jn:List (List Nat)->List Nat
 |[]=>[]
 |[w]=>w
 |w::r=>w++32::jn r
theorem dM(w)(h:r≠[]):jn (w::r)=w++32::jn r:=by
 cases r with
 |nil=>exact absurd rfl h
 |cons a r=>rfl
theorem z8:∀{b},b≠[]->(∀w∈b,32 ∉ w)->spl 32 (jn b)=b
 |[],h,_=>absurd rfl h
 |[w],_,h=>jF (h w IW)
 |w::a::r,_,h=>by
  rw[dM w (by simp),lJ _ (h w IW),z8 (by simp) λx c=>h x (IS _ c)]
theorem CA:∀b,Txt.join (T' [32]) (b.map T')=T' (jn b):=λb=>by
 show Builtin.Str.glued _ _=_;rw[StrLaws.glued_eq_join]
 induction b with
 |nil=>rfl
 |cons w r c=>
  cases r with
  |nil=>rfl
  |cons a r=>
   rw[dM w (by simp)];show T' w++T' [32]++Str.join (T' [32]) ((a::r).map T')=_;rw[c,cP,cP];refine congrArg T' ?_;simp
theorem AB:∀b,(∀w∈b,w.length<=c)->(jn b).length<=b.length*(c+1)
 |[],_=>by simp[jn]
 |[w],h=>by have:=h w IW;simp[jn];lia
 |w::a::r,h=>by
  have e:=AB (a::r) λx d=>h x (IS _ d);have:=h w IW;rw[dM w (by simp),Jl,Ji,Ji,Ru,Rt];lia
theorem kr(K):KS K (.type "str") (.type "str")=some true:=rfl
def uw:List U->Out->Prop:=λa o=>∃x,a=[.str x]/\o=.val .non
theorem jw:OkD P w base T.aa4 1 (uw):=by
 refine okD p_ (by walk_at"ln") ?_;rintro _ _ _ a ⟨x,rfl,rfl⟩;refine ae (aG (lN (jh (ay (gD (by intro _ h;cases h) (kr _)) rfl T.aab K7 (ag (aa 0 rfl) (ag (zS rfl T.aaT Pk) aj ai) ai)))) rfl (au (au ?_)));exact rfl
theorem sz1(h:l.length<=8200):(T' l).length<=sizeLine:=by rw[bC];exact Ja (jU (by lia))
theorem hy:((Str.ofString "-"):Str)=⟨#[45]⟩:=rfl
theorem fg:((Str.ofString "0123456789"):Str)=T' D10:=rfl
theorem eqS(x y):eqW (.str x) (.str y)=decide (x=y):=by
 show (x==y)=_;by_cases h:x=y
 .subst h;simp
 .rw[decide_eq_false h];simpa using h
theorem pH(h:T' l=T' m):l=m:=by
 have:=congrArg (λx:Str=>x.cps.toList) h;simpa using this
def xF:List U->Out->Prop:=λa o=>∃l:List Nat,a=[.str (T' l)]/\l.length<=8200/\o=.val (.bl (okL l))
theorem gG:OkD P w base T.aax 1 (xF):=by
 refine okD ck (by walk_at"ln") ?_;rintro _ _ _ D ⟨l,rfl,M,rfl⟩;have fl:=Br l;have B:=CD l 45;have b:∀{X}{E}{u}{A}{e} x y,x=y->Ev X E u A e (.str x)->Ev X E u A e (.str y):=λx y h=>by subst h;exact id
 have Q:Txt.startswith (T' l) (Str.ofString "-")=true→StrLaws.sliceText (T' l) (some 1) none=T' (bI l):=λh=>by
  rw[hy,B]at h;rw[show 1=((1:Nat):Int) from rfl,yV]
  unfold bI;rw[if_pos (of_decide_eq_true h)]
 have I:Txt.startswith (T' l) (Str.ofString "-")=false→T' l=T' (bI l):=λh=>by
  rw[hy,B]at h;rw[gJ (of_decide_eq_false h)]
 refine ae (aB 1 ck.nd (GK (jh (Av (aa 0 rfl) aw aU)) (λf=>(b _ _ (Q f) (yk (aa 0 rfl) (c3 af) cT (sz1 M)))) (λf=>(b _ _ (I f) (aa 0 rfl)))) ?_);have F:((T' (bI l)).length)=((bI l).length):=by rw[bC]
 by_cases g:1<=(bI l).length/\(bI l).length<=60
 .refine ae (aG (Tw.t (jN (am fB (ay (iN (sz1 (by lia))) rfl T.aah JH (ag (aa 1 rfl) aj ai)) af) (λf=>(fQ (am fc (ay (iN (sz1 (by lia))) rfl T.aah JH (ag (aa 1 rfl) aj ai)) (rO rfl T.aav)))))) (by rw[F,decide_eq_false (show ¬ ((bI l).length:Int)<1 by lia),decide_eq_false (show ¬ ((bI l).length:Int) >60 by lia)];rfl) (au ?_));have R:∀c,(!(Builtin.Str.occurrences (Str.ofString "0123456789") ⟨#[c]⟩ 0 (Str.ofString "0123456789").length 1).isEmpty)=decide (c∈D10):=λc=>by rw[fg];exact in1 D10 c
  have d:((bI l).map λc=>decide (c∈D10)).all id=tK (bI l):=by unfold tK;rw[Uu];rfl
  refine ae (j_ (lN (jh (ay (Ez rfl (bs:=(bI l).map λc=>decide (c∈D10))) rfl T.abQ boot_all (ag (EvN.ev (bP rfl (blk (ah cE) ["text","figures","sign"] [2] rfl rfl rfl rfl (by decide+kernel)) (EvI.z (DM (aa 1 rfl))) (λ_ _ _ _=>aE (i:=2) ck.nd rfl (Or.inl rfl)) (bR (by decide)) ?clen ?csz (λ_ _=>trivial) ?celt)) aj ce)))) (λs=>?_) (λH=>(au ?_)))
  case clen=>simp
  case csz=>simp;exact Ja (jU (by lia))
  case celt=>
   intro C S Y U j x y K q;have v:(T' (bI l)).cps.toList=bI l:=by simp
   rw[JP]at q;obtain⟨c,W,V,rfl,rfl⟩:=bT K q;show Ev _ _ _ _ _ (.bl (decide (c∈D10)));rw[<-R c];exact (eY HA (aa 2 rfl) (HP rfl T.abr))
  .refine ae (aO zl ?_);refine vB ?_
   symm
   rw[d]at s;unfold okL;have:tK (bI l)=false:=by simpa using s
   rw[this];simp
  .rw[d]at H;have ha:tK (bI l)=true:=by simpa using H
   obtain⟨c,r,a⟩:∃c r,bI l=c::r:=by
    cases e:bI l with
    |nil=>rw[e]at g;simp at g
    |cons c r=>exact⟨c,r,rfl⟩
   have o:atI (T' (bI l)).cps.toList 0=some c:=aW rfl (by simp[a]);refine ae (aO (HV (eY (aX D) (aa 0 rfl) aw) (λf=>(DV (eY (re D) (DS (aa 1 rfl) af (sz1 (by lia)) o) aw)))) ?_);refine vB ?_
   have v:eqW (.str (T' l)) (.str (Str.ofString "0"))=decide (l=[48]):=by
    rw[eqS];refine decide_eq_decide.mpr ⟨λh=>pH h,λh=>by rw[h];rfl⟩
   have L:eqW (sg c) (.str (Str.ofString "0"))=decide (c=48):=by
    rw[eqS];refine decide_eq_decide.mpr ⟨λh=>?_,λh=>by rw[h];rfl⟩;have:=pH (m:=[48]) h;simpa using this
   rw[v,L,N8,lD];have G:(bI l).head?=some c:=by rw[a];rfl
   constructor
   .intro h;refine⟨g.1,g.2,(tD _).mp ha,λk=>?_⟩;rw[G]at k;cases k;have O:l=[48]:=by simpa using h
    subst O;exact⟨rfl,rfl⟩
   .intro N;by_cases z:c=48
    .subst z;obtain⟨p,J⟩:=N.h0 G
     have:l=[48]:=by
      rw[J,a];rw[a]at p;simp at p;rw[p]
     rw[decide_eq_true this];rfl
    .rw[decide_eq_false z];simp
 .have n:(decide (((bI l).length:Int)<1) ||decide (((bI l).length:Int) >60))=true:=by
   by_cases z:((bI l).length:Int)<1
   .rw[decide_eq_true z];rfl
   .rw[decide_eq_true (show ((bI l).length:Int) >60 by lia)];simp
  refine ae (bz (Tw.t (jN (am fB (ay (iN (sz1 (by lia))) rfl T.aah JH (ag (aa 1 rfl) aj ai)) af) (λf=>(fQ (am fc (ay (iN (sz1 (by lia))) rfl T.aah JH (ag (aa 1 rfl) aj ai)) (rO rfl T.aav)))))) (by rw[F];exact n) ?_);refine ae (aO zl ?_);refine vB ?_
  symm
  cases e:okL l with
  |false=>rfl
  |true=>
   have N:=(lD l).mp e;exact absurd ⟨N.l1,N.l2⟩ g
theorem xn(N:Num l):l.length<=61:=by
 have h:=N.l2;by_cases z:l.head?=some 45
 .have e:=congrArg P5 (qW z);rw[Ji]at e;lia
 .rw[gJ z]at h;lia
def x5:List U->Out->Prop:=λa o=>∃l:List Nat,a=[.str (T' l)]/\l.length<=8200/\okL l=true/\o=.val (.int (AQ l))
theorem dZ:OkD P w base T.aaO 2 (x5):=by
 refine okD mR (by walk_at"ln") ?_;rintro _ _ _ a ⟨l,rfl,c,b,rfl⟩;have N:=(lD l).mp b;refine ae (nO (bx (jw T) a (ag (aa 0 rfl) aj ai) ⟨_,rfl,rfl⟩) ?_);refine ae (aG (lN (jh (bx (gG T) a (ag (aa 0 rfl) aj ai) ⟨l,rfl,c,rfl⟩))) (by rw[b];rfl) (au ?_));refine ae (aO (dP (EV N.text (by rw[bC];exact Jy (xn N) (by decide))) rfl T.abS boot_int (ag (aa 0 rfl) aj ai)) ?_);exact rfl
def tY:List U->Out->Prop:=λa o=>∃n:Int,a=[.int n]/\n.natAbs<10 ^ 300/\o=.val (.str (T' (ds n)))
theorem AW(h:m<10 ^ 300):m.log2<1920:=by
 by_cases z:m=0
 .subst z;decide
 .rw[S0 z];exact J6 h (by decide+kernel)
theorem eG:OkD P w base T.aaP 1 (tY):=by
 refine okD nN (by walk_at"ln") ?_;rintro _ _ _ b ⟨n,rfl,a,rfl⟩;refine ae (aO (dP (iX (AW a)) rfl T.aaT Pk (ag (aa 0 rfl) aj ai)) ?_);rw[mr]
theorem lg(x y:Str):(x++y).length=x.length+y.length:=by
 show (x.cps++y.cps).size=_;rw[Array.size_append];rfl
theorem rV(a b):T' a++(Str.ofString ",":Str)++T' b=T' (a++44::b):=by
 rw[show (Str.ofString ",")=T' [44] from rfl,cP,cP];refine congrArg T' ?_;simp
theorem sz2(h:l.length<=8200):(T' l).length+2<=sizeLine:=by rw[bC];exact Ja (jU (by lia))
def yH:List U->Out->Prop:=λa o=>∃p:P2,a=[.str (T' (ptD p))]/\B60 p/\o=.val (pu p)
theorem nR:OkD P w base T.aaW 3 (yH):=by
 refine okD iI (by walk_at"ln") ?_;rintro _ _ _ a ⟨p,rfl,hb,rfl⟩;have b:=lC hb;have e:spl 44 (ptD p)=[ds p.1,ds p.2]:=by unfold ptD;rw[lJ _ (cX p.1 (by lia)),jF (cX p.2 (by lia))]
 have l1:=dh (by decide) hb.1;have l2:=dh (by decide) hb.2;refine ae (nO (bx (jw T) a (ag (aa 0 rfl) aj ai) ⟨_,rfl,rfl⟩) ?_);refine ae (aB 1 iI.nd (EvN.ev (sM (c:=44) (aa 0 rfl) aw aU (sz2 (by lia)) rfl)) ?_);rw[e];refine ae (aG (am tq (ay (ci rfl) rfl T.aah JH (ag (aa 1 rfl) aj ai)) af) rfl (au ?_));refine ae (aO (bF (ao (bx (dZ T) a (ag (aD (aa 1 rfl) af rfl rfl) aj aT) ⟨ds p.1,rfl,by lia,AC hb.1,rfl⟩) (ao (bx (dZ T) a (ag (aD (aa 1 rfl) af rfl rfl) aj aT) ⟨ds p.2,rfl,by lia,AC hb.2,rfl⟩) a_ aR) aR)) ?_);rw[qh,qh]
def xR:List U->Out->Prop:=λa o=>∃p:P2,a=[pu p]/\p.1.natAbs<10 ^ 300/\p.2.natAbs<10 ^ 300/\o=.val (.str (T' (ptD p)))
theorem n5:OkD P w base T.aaX 2 (xR):=by
 refine okD nQ (by walk_at"ln") ?_;rintro _ _ _ d ⟨p,rfl,a,c,rfl⟩;have l1:=dh (by decide) a;have l2:=dh (by decide) c;have b:(Str.ofString ",").length=1:=rfl;refine ae (aO (bv (bv (bx (eG T) d (ag (aD (aa 0 rfl) af rfl rfl) aj aT) ⟨p.1,rfl,a,rfl⟩) aw (by rw[b,bC];exact Ja (ax (by lia)))) (bx (eG T) d (ag (aD (aa 0 rfl) af rfl rfl) aj aT) ⟨p.2,rfl,c,rfl⟩) (by rw[lg,b,bC,bC];exact Ja (ax (by lia)))) ?_);rw[rV];rfl
noncomputable abbrev sT(x:List Nat):U:=.str (T' x)
noncomputable def c7:List Nat:=[102,105,101,108,100]
noncomputable def jS:List Nat:=[102,111,108,100]
noncomputable def gT:List Nat:=[115,104,111,119]
noncomputable def km:List Nat:=[97,114,101,97]
noncomputable def qF:List Nat:=[114,105,109]
noncomputable def jP:List Nat:=[109,111,118,101]
noncomputable def kz:List Nat:=[100,114,111,112]
noncomputable def gC:List Nat:=[110,97,109,101,115]
noncomputable def lM:List Nat:=[115,117,109]
def DD:List U->Out->Prop:=λb o=>∃(w:List Nat) (a:List (List Nat)),b=[sT (jn (w::a))]/\(∀x∈w::a,32 ∉ x)/\(jn (w::a)).length<=8200/\(fT dN (T' w)).isSome=true/\o=.val (.lst ((w::a).map sT))
theorem gj:OkD P w base T.aa5 1 (DD):=by
 refine okD i8 (by walk_at"ln") ?_;rintro _ _ _ i ⟨w,g,rfl,d,b,e,rfl⟩;obtain⟨j,f,a⟩:=T.abC;refine ae (aG (lN (jh (ay (gD (by intro _ h;cases h) (kr _)) rfl T.aab K7 (ag (aa 0 rfl) (ag (zS rfl T.aaT Pk) aj ai) ai)))) rfl (au ?_));refine ae (aB 1 i8.nd (EvN.ev (sM (c:=32) (aa 0 rfl) aw aU (sz2 b) rfl)) ?_);rw[z8 (by simp) d];refine ae (aG (AS a rfl f (aD (aa 1 rfl) af rfl (aW rfl rfl))) (by rw[e];rfl) (au ?_));refine ae (aO (aa 1 rfl) ?_);exact rfl
structure gw(w:List Nat)(ks:List Str):Prop where
 nf:eqW (sT w) (.str "field")=false
 ex:∃x:Str,fT dN (T' w)=some x/\Txt.words x=ks/\x.length<=sizeLine/\(Builtin.Str.spaceWords x (x.length+1)).length<=sizeLine
noncomputable def kP:Str:=Str.ofString "P"
noncomputable def gB:Str:=Str.ofString "NEW"
noncomputable def gq:Str:=Str.ofString "ONE"
noncomputable def kK:Str:=Str.ofString "K"
noncomputable def xQ:Str:=Str.ofString "OTHER"
noncomputable def kA:List Str:=[Str.ofString "A",Str.ofString "B",Str.ofString "C",Str.ofString "D",Str.ofString "E",Str.ofString "F"]
theorem Af:gw jS [gB,gq,kK]:=⟨by decide+kernel,Str.ofString "NEW ONE K",by decide+kernel,by decide+kernel,by decide+kernel,by decide+kernel⟩
theorem AZ:gw gT [gq]:=⟨by decide+kernel,Str.ofString "ONE",by decide+kernel,by decide+kernel,by decide+kernel,by decide+kernel⟩
theorem BA:gw km [gq]:=⟨by decide+kernel,Str.ofString "ONE",by decide+kernel,by decide+kernel,by decide+kernel,by decide+kernel⟩
theorem Eg:gw qF [gq]:=⟨by decide+kernel,Str.ofString "ONE",by decide+kernel,by decide+kernel,by decide+kernel,by decide+kernel⟩
theorem zw:gw jP (gB::gq::kA):=⟨by decide+kernel,Str.ofString "NEW ONE A B C D E F",by decide+kernel,by decide+kernel,by decide+kernel,by decide+kernel⟩
theorem yO:gw kz [gq]:=⟨by decide+kernel,Str.ofString "ONE",by decide+kernel,by decide+kernel,by decide+kernel,by decide+kernel⟩
theorem Do:gw gC []:=⟨by decide+kernel,Str.ofString "",by decide+kernel,by decide+kernel,by decide+kernel,by decide+kernel⟩
theorem Bx:gw lM [gB,gq,xQ]:=⟨by decide+kernel,Str.ofString "NEW ONE OTHER",by decide+kernel,by decide+kernel,by decide+kernel,by decide+kernel⟩
def fJ:List U->Out->Prop:=λc o=>(∃(w:List Nat) (a:List (List Nat)) (b:List Str),c=[.lst ((w::a).map sT)]/\gw w b/\b.length=a.length/\o=.val (.lst (b.map U.str)))\/∃a:List (List Nat),c=[.lst ((c7::a).map sT)]/\2<=a.length/\a.length<=61/\o=.val (.lst (.str gB::Jw (a.length-1) (.str kP)))
theorem j7:OkD P w base T.abv 1 (fJ):=by
 refine okD c9 (by rintro C o (⟨_,_,_,rfl,_⟩ |⟨_,rfl,_⟩) <;>rfl) ?_;intro _ _ _ l h;obtain⟨A,j,m⟩:=T.abC;rcases h with ⟨w,a,p,rfl,⟨u,x,f,g,q,t⟩,r,rfl⟩ |⟨a,rfl,B,n,rfl⟩
 .refine ae (aB 1 c9.nd (EvN.ev (sD (DT m rfl j (aD (aa 0 rfl) af rfl (aW rfl rfl)) f) q t)) ?_);rw[g];have i:(((w::a).map sT).length:Int)=a.length+1:=by simp
  have b:((p.map U.str).length:Int)=a.length:=by rw[IM,r]
  refine ae (aB 2 c9.nd (bp (ay (ci rfl) rfl T.aah JH (ag (aa 0 rfl) aj ai)) af) ?_);refine ae (aG (am (aX l) (aD (aa 0 rfl) af rfl (aW rfl rfl)) aw) u (au ?_));refine ae (aG (am tq (ay (ci rfl) rfl T.aah JH (ag (aa 1 rfl) aj ai)) (aa 2 rfl)) (by rw[i,b];simp) (au ?_));refine ae (aO (aa 1 rfl) ?_);exact rfl
 .have f:fT dN (T' c7)=some (Str.ofString "NEW P"):=by decide+kernel
  have g:Txt.words (Str.ofString "NEW P")=[gB,kP]:=by decide+kernel
  refine ae (aB 1 c9.nd (EvN.ev (sD (DT m rfl j (aD (aa 0 rfl) af rfl (aW rfl rfl)) f) (by decide+kernel) (by decide+kernel))) ?_);rw[g];have i:(((c7::a).map sT).length:Int)=a.length+1:=by simp
  have b:((([gB,kP]).map U.str).length:Int)=2:=rfl;refine ae (aB 2 c9.nd (bp (ay (ci rfl) rfl T.aah JH (ag (aa 0 rfl) aj ai)) af) ?_);rw[i]
  have d:(if 60-1<a.length+1-1-((([gB,kP]).map U.str).length:Int) then 60-1 else a.length+1-1-((([gB,kP]).map U.str).length:Int))=((a.length-2:Nat):Int):=by
   rw[b,if_neg (by lia)];lia
  have c:([gB,kP]).map U.str++Jw (a.length-2) (.str kP)=.str gB::Jw (a.length-1) (.str kP):=by
   rw[show a.length-1=(a.length-2)+1 by lia,KI];rfl
  refine iW (λk=>SubP [some (.val (.lst ((c7::a).map sT))),some (.val (.lst (.str gB::Jw (a.length-1) (.str kP)))),some (.val (.int (a.length+1-1))),none] k) (j_ (am (aX l) (aD (aa 0 rfl) af rfl (aW rfl rfl)) aw) (λy=>?_) (λv=>(au ?_))) ?hj
  .refine ae (aB 3 c9.nd (bp (aa 2 rfl) (ay (ci rfl) rfl T.aah JH (ag (aa 1 rfl) aj ai))) ?_);refine ae (aB 1 c9.nd (EvN.ev (mV (aa 1 rfl) (EvN.ev (FM (EvN.ev (cn (ao aw a_ aU))) (ay (Er rfl) rfl T.abT boot_min (ag (aa 3 rfl) (ag (bp (rO rfl T.aaU) af) aj bh) ai)) (by rw[d];lia) (by rw[d];lia) (by rw[d];exact Ja (ax (by lia))))) (by rw[KH,d];exact Ja (ax (by simp;lia))))) (au ?_));refine⟨rfl,?_,rfl,trivial⟩;refine congrArg (λz=>some (Sl.val (.lst z))) ?_;rw[d,LC];exact c
  .exact absurd v (by decide+kernel)
  case hj=>
   intro k s;refine c4 ?_ s;have e:((U.str gB::Jw (a.length-1) (U.str kP)).length:Int)=(a.length:Int)+1-1:=by simp;lia
   refine ae (aG (am tq (ay (ci rfl) rfl T.aah JH (ag (aa 1 rfl) aj ai)) (aa 2 rfl)) (by rw[e];simp) (au ?_));refine ae (aO (aa 1 rfl) ?_);exact rfl
structure Nm(l:List Nat):Prop where
 h1:1<=l.length
 h8:l.length<=8
 az:∀c∈l,97<=c/\c<=122
theorem Nm.free(h:Nm l):32 ∉ l:=λz=>by have:=h.az 32 z;lia
theorem lt1(c d):decide (([c]:List Nat) < [d])=decide (c<d):=by
 refine decide_eq_decide.mpr ⟨λh=>?_,λh=>?_⟩
 .cases h with
  |rel h=>exact h
  |cons h=>cases h
 .exact .rel h
theorem me{α a:Type}{f:α->a}{l:List α}{j:Nat}{x:a}(h:(l.map f)[j]?=some x):∃c,l[j]?=some c/\c∈l/\x=f c:=by
 rw[I0]at h;obtain⟨c,b,rfl⟩:=Oe.mp h;exact⟨c,b,Jp b,rfl⟩
def CM:List U->Out->Prop:=λa o=>∃l:List Nat,a=[sT l]/\Nm l/\o=.val .non
theorem qm:OkD P w base T.aa6 1 (CM):=by
 refine okD gd (by walk_at"ln") ?_;rintro _ _ _ v ⟨l,rfl,g,rfl⟩;have A:=g.h1;have u:=g.h8;have b:(T' l).cps.toList=l:=by simp
 have d:=bC l;refine ae (uE ((T' l).cps.toList.map λc=>some (sg c)) (j:=1) false rfl gd.nd rfl (Or.inl rfl) (blk (ah hV) ["word","letters","sign"] [2] rfl rfl rfl rfl (by decide+kernel)) (EvI.z (DM (aa 0 rfl))) (λ_ _ _ _=>aE (i:=2) gd.nd rfl (Or.inl rfl)) (bR (by decide)) ?clen ?csz (λ_ _=>trivial) ?ctest ?celt ?_)
 case clen=>simp
 case csz=>simp[b];exact Ja (ax (by lia))
 case ctest=>
  intro C m r n j x o a f;rw[b]at a f;obtain⟨c,e,h,rfl⟩:=me a;rw[I0,e]at f;cases f;have z:=g.az c h
  have p:(!decide ((⟨#[c]⟩:Str).cps.toList<(Str.ofString "a":Str).cps.toList))=true:=by
   show (!decide (([c]:List Nat) < [97]))=true;rw[lt1,decide_eq_false (by lia)];rfl
  have k:(!decide ((Str.ofString "z":Str).cps.toList<(⟨#[c]⟩:Str).cps.toList))=true:=by
   show (!decide (([122]:List Nat) < [c]))=true;rw[lt1,decide_eq_false (by lia)];rfl
  rw[show (some (sg c)).isSome=((!decide ((⟨#[c]⟩:Str).cps.toList<(Str.ofString "a":Str).cps.toList)) && (!decide ((Str.ofString "z":Str).cps.toList<(⟨#[c]⟩:Str).cps.toList))) by rw[p,k];rfl];exact (BH Et Et aw (aa 2 rfl) aw)
 case celt=>
  intro C m r n j x y a hy;rw[b]at a hy;obtain⟨c,e,h,rfl⟩:=me a;rw[I0,e]at hy;cases hy;exact (aa 2 rfl)
 have s:((((T' l).cps.toList.map λc=>some (sg c)).filterMap id).length:Int)=(l.length:Int):=by rw[b];simp[RE]
 refine ae (aG (Tw.t (jN (am fB (ay (iN (by rw[d];exact Ja (ax (by lia)))) rfl T.aah JH (ag (aa 0 rfl) aj ai)) af) (λq=>(jN (am fc (ay (iN (by rw[d];exact Ja (ax (by lia)))) rfl T.aah JH (ag (aa 0 rfl) aj ai)) (rO rfl T.aaK)) (λq=>(fQ (am fB (ay (ci rfl) rfl T.aah JH (ag (aa 1 rfl) aj ai)) (ay (iN (by rw[d];exact Ja (ax (by lia)))) rfl T.aah JH (ag (aa 0 rfl) aj ai))))))))) (by rw[s,d,decide_eq_false (by lia),decide_eq_false (by lia),decide_eq_false (by lia)];rfl) (au (au ?_)));exact rfl
theorem pi:∀{l:List Int},l≠[]->∃M,M∈l/\∀a∈l,a<=M
 |[],h=>absurd rfl h
 |[a],_=>⟨a,IW,λb hb=>by simp at hb;lia⟩
 |a::b::r,_=>by
  obtain⟨M,f,e⟩:=pi (l:=b::r) (by simp);by_cases h:a<=M
  .exact⟨M,IS _ f,λc d=>by
    rcases IT.mp d with k |k
    .rw[k];exact h
    .exact e c k⟩
  .exact⟨a,IW,λc d=>by
    rcases IT.mp d with k |k
    .rw[k];exact Rr _
    .have:=e c k;lia⟩
def BT(C:Jt):List U->Out->Prop:=λa o=>∃l:List P2,a=[lp l]/\l≠[]/\l.length<=60/\(((∀p∈l,B60 p)/\o=.val .non)\/(¬ (∀p∈l,B60 p)/\o=.exc C))
theorem kR  :bL P w K mg base (CXF P w) 1 T.aan.a T.aan.d ["land"] (spU K (BT T.aaa.c)):=by
 refine Ee T.aan.F dw (λus o h=>?_) (λX A v s H E O us o hr h=>?_)
 .obtain⟨l,rfl,N,Y,h⟩:=h;rfl
 obtain⟨l,rfl,N,Y,h⟩:=h;refine ae (qQ (i:=1) dw.nd rfl (Or.inl rfl) (EvN.ev (mV (xs:=l.map λp=>U.int p.1) (ys:=l.map λp=>U.int p.2) ?eA ?eB (by rw[IM,IM];exact Ja (ax (by lia))))) ?_)
 case eA=>
  refine EvN.ev ?_;refine (bP (ys:=(l.map λ(p:P2)=>U.int p.1)) rfl (blk (ah dY) ["land","numbers","P","number"] [2] rfl rfl rfl rfl (by decide+kernel)) (EvI.z (bY (aa 0 rfl) (.inl rfl))) (λ_ _ _ _=>aE (i:=2) dw.nd rfl (Or.inl rfl)) (bR (by decide)) ?clen ?csz (λ_ _=>trivial) ?celt)
  case clen=>simp
  case csz=>rw[IM];exact Ja (ax (by lia))
  case celt=>
   intro C G Q I j x y q hy;obtain⟨p,e,Z,rfl,rfl⟩:=bT q hy;exact (aD (aa 2 rfl) af rfl rfl)
 case eB=>
  refine EvN.ev ?_;refine (bP (ys:=(l.map λ(p:P2)=>U.int p.2)) rfl (blk (ah dY) ["land","numbers","P","number"] [2] rfl rfl rfl rfl (by decide+kernel)) (EvI.z (bY (aa 0 rfl) (.inl rfl))) (λ_ _ _ _=>aE (i:=2) dw.nd rfl (Or.inl rfl)) (bR (by decide)) ?clen ?csz (λ_ _=>trivial) ?celt)
  case clen=>simp
  case csz=>rw[IM];exact Ja (ax (by lia))
  case celt=>
   intro C G Q I j x y q hy;obtain⟨p,e,Z,rfl,rfl⟩:=bT q hy;exact (aD (aa 2 rfl) af rfl rfl)
 have f:(l.map λp=>U.int p.1)++(l.map λp=>U.int p.2)=(l.map (·.1)++l.map (·.2)).map U.int:=by rw[Kt,JP,JP];rfl
 rw[f]
 have W:(∀n∈l.map (·.1)++l.map (·.2),n.natAbs<10 ^ 60)↔∀p∈l,B60 p:=⟨λh p e=>⟨h _ (JO _ (Jb.mpr ⟨p,e,rfl⟩)),h _ (Jf _ (Jb.mpr ⟨p,e,rfl⟩))⟩,λhb n b=>by
  rcases JB.mp b with k |k
  .obtain⟨p,e,rfl⟩:=Jb.mp k;exact (hb p e).1
  .obtain⟨p,e,rfl⟩:=Jb.mp k;exact (hb p e).2⟩
 have hL:(l.map (·.1)++l.map (·.2)).length<=120:=by simp;lia
 have b:l.map (·.1)++l.map (·.2)≠[]:=by simp[N]
 generalize l.map (·.1)++l.map (·.2)=L at *;obtain⟨M,J,g⟩:=pi (l:=L.map λn=>(n.natAbs:Int)) (by simp[b])
 have r:M<10 ^ 60↔∀p∈l,B60 p:=by
  rw[<-W];refine⟨λh n b=>?_,λh=>?_⟩
  .have:=g _ (Jb.mpr ⟨n,b,rfl⟩)
   exact_mod_cast (show (n.natAbs:Int)<10 ^ 60 by lia)
  .obtain⟨n,b,rfl⟩:=Jb.mp J
   exact_mod_cast h n b
 have R:((l.map pu).length:Int)=(l.length:Int):=by rw[IM]
 have u:(10:Int) ^ (60:Int).toNat=10 ^ 60:=rfl;have S:(decide ((l.length:Int) >60) ||decide (M ≥ 10 ^ 60))=decide (M ≥ 10 ^ 60):=by rw[decide_eq_false (show ¬ (l.length:Int) >60 by lia)];rfl
 refine ae (j_ (Tw.t (jN (am fc (ay (ci rfl) rfl T.aah JH (ag (aa 0 rfl) aj ai)) (rO rfl T.aaJ)) (λB=>(fQ (am GE (ay (zW rfl (ns:=L.map λn=>(n.natAbs:Int)) ⟨J,g⟩) rfl T.abz Us (ag (EvN.ev (bP (ys:=((L.map λn=>(n.natAbs:Int)).map U.int)) rfl (blk (ah dY) ["land","numbers","P","number"] [3] rfl rfl rfl rfl (by decide+kernel)) (EvI.z (bY (aa 1 rfl) (.inl rfl))) (λ_ _ _ _=>aE (i:=3) dw.nd rfl (Or.inl rfl)) (bR (by decide)) ?clen ?csz (λ_ _=>trivial) ?celt)) aj ce)) (mQ af af ⟨by decide,by decide,by decide⟩)))))) (λD=>?_) (λV=>(au (au ?_))))
 case clen=>simp
 case csz=>rw[IM];exact Ja (ax (by lia))
 case celt=>
  intro C G Q I j x y q hy;rw[JP]at hy;obtain⟨n,b,mn,rfl,rfl⟩:=bT q hy;show Ev _ _ _ _ _ (.int (n.natAbs:Int));rw[show (n.natAbs:Int)=(if n<0 then -n else n) by split <;>lia]
  exact (ay kN rfl T.aa2 PyProof.Rows.boot_abs (ag (aa 3 rfl) aj ai))
 .rw[R,u,S]at D;have B:=dTb D;rcases h with ⟨hb,rfl⟩ |⟨hb,rfl⟩
  .have:=r.mpr hb;lia
  .refine ae (vg T.abl rfl T.aaa.m aw ?_);exact rfl
 .rw[R,u,S]at V;have B:=dFb V;rcases h with ⟨hb,rfl⟩ |⟨hb,rfl⟩
  .exact rfl
  .exact absurd (r.mp (U2.mp B)) hb
def im:List U->Out->Prop:=λg o=>(∃pts:List P2,g=[sT c7,lp pts]/\(∀p∈pts,Szp 5000 p)/\pts.length<64/\pts≠[]/\o=.new ((av pts).map pu))\/
 (∃(l:List P2) (k:Int),g=[sT jS,.lst [lp l,.int k]]/\o6 [lp l,.int k] (.new ((av (l.map (scl k))).map pu))/\o=.new ((av (l.map (scl k))).map pu))\/
 (∃(l:List P2) (a b c d e f:Int),g=[sT jP,.lst [lp l,.int a,.int b,.int c,.int d,.int e,.int f]]/\uW [lp l,mv a b c d e f] (.new ((av (l.map (ap a b c d e f))).map pu))/\o=.new ((av (l.map (ap a b c d e f))).map pu))\/
 ∃l m:List P2,g=[sT lM,.lst [lp l,lp m]]/\tm [lp l,lp m] o
theorem Iq(a)(r):gH (a::r) (some 1) none=r:=by rw[vf];rfl
theorem vX:OkD P w base T.abP 6 (im):=by
 refine okD B4 (by rintro v o (⟨_,rfl,_⟩ |⟨_,_,rfl,_⟩ |⟨_,_,_,_,_,_,_,rfl,_⟩ |⟨_,_,rfl,_⟩) <;>rfl) ?_;intro _ _ _ g h;rcases h with ⟨pts,rfl,sz,p,s,rfl⟩ |⟨l,k,rfl,h,rfl⟩ |⟨l,a,b,c,d,e,f,rfl,h,rfl⟩ |⟨l,m,rfl,h⟩
 .refine ae (bz (am (aX g) (aa 0 rfl) aw) (by decide+kernel) ?_);refine ae (cD (dy (jc T) g (ag (aa 1 rfl) aj ai) ⟨pts,rfl,sz,p,s,rfl⟩) ?_);exact rfl
 .refine ae (aG (am (aX g) (aa 0 rfl) aw) (by decide+kernel) (au ?_));refine ae (aG (am (aX g) (aa 0 rfl) aw) (by decide+kernel) (au ?_));refine ae (bz (am (aX g) (aa 0 rfl) aw) (by decide+kernel) ?_);refine ae (cD (dy (Cd T) g (ag (aD (aa 1 rfl) af rfl rfl) (ag (aD (aa 1 rfl) af rfl rfl) aj aT) aT) h) ?_);exact rfl
 .refine ae (aG (am (aX g) (aa 0 rfl) aw) (by decide+kernel) (au ?_));refine ae (bz (am (aX g) (aa 0 rfl) aw) (by decide+kernel) ?_);refine ae (cD (dy (lV T) g (ag (aD (aa 1 rfl) af rfl rfl) (ag (dP (DJ (.inl rfl)) rfl T.abp boot_tuple (ag (EvN.ev (cA (aa 1 rfl) (c3 af) cT (.inl rfl))) aj aT)) aj aR) aT) (by rw[Iq];exact h)) ?_);exact rfl
 .obtain⟨j,n,e,u,q,r,i,t,rfl⟩:=h;refine ae (aG (am (aX g) (aa 0 rfl) aw) (by decide+kernel) (au ?_));refine ae (aG (am (aX g) (aa 0 rfl) aw) (by decide+kernel) (au ?_));refine ae (aG (am (aX g) (aa 0 rfl) aw) (by decide+kernel) (au ?_));refine ae (bz (am (aX g) (aa 0 rfl) aw) (by decide+kernel) ?_);refine ae (cD (dy (qN T) g (ag (aD (aa 1 rfl) af rfl rfl) (ag (aD (aa 1 rfl) af rfl rfl) aj aT) aT) ⟨j,n,e,u,q,r,i,t,rfl⟩) ?_);exact rfl
structure Fit(l:List P2):Prop where
 ne:l≠[]
 hl:l.length<=60
 sz:∀p∈l,Szp 200 p
 b:∀p∈l,B60 p
inductive Rck:List U->Int->Prop
 |area (l:List P2):Fit l->Rck [sT km,.lst [lp l]] (area l)
 |rim (l:List P2):Fit l->Rck [sT qF,.lst [lp l]] (nD l)
def A_:List U->Out->Prop:=λa o=>∃n:Int,Rck a n/\o=.val (.int n)
theorem sZ:OkD P w base T.abi 5 (A_):=by
 refine okD rQ (by rintro e o ⟨_,h,_⟩;cases h <;>rfl) ?_;intro _ _ _ b h;obtain⟨n,h,rfl⟩:=h;cases h with
 |area l a=>
  have c:=a.hl;refine ae (bz (am (aX b) (aa 0 rfl) aw) (by decide+kernel) ?_);refine ae (aO (bx (mT T) b (ag (aD (aa 1 rfl) af rfl rfl) aj aT) ⟨l,rfl,by lia,g9 (by decide) a.sz,rfl⟩) ?_);exact rfl
 |rim l a=>
  have c:=a.hl;have d:=JK.mpr a.ne;refine ae (aG (am (aX b) (aa 0 rfl) aw) (by decide+kernel) (au ?_));refine ae (bz (am (aX b) (aa 0 rfl) aw) (by decide+kernel) ?_);refine ae (aO (bx (Ft T) b (ag (aD (aa 1 rfl) af rfl rfl) aj aT) ⟨l,rfl,d,by lia,g9 (by decide) a.sz,rfl⟩) ?_);exact rfl
theorem pI(c):∀(l:List Str) a,(∀x∈l,x.length≤c)→l.foldl (λn x=>n+x.length+(Str.ofString " ":Str).length) a≤a+l.length*(c+1)
 |[],a,_=>by simp
 |x::l,a,h=>by
  have h1:=h x IW;have b:=pI c l (a+x.length+(Str.ofString " ").length) λy hy=>h y (IS _ hy);have d:(Str.ofString " ").length=1:=rfl;rw[LH,Ji,Ru,Rt];generalize l.length*(c+1)=z at *;exact Jy b (by lia)
theorem vt{a:List P2}(h:∀p∈a,B60 p)(c:a.length≤61):Sw (Str.ofString " ") (a.map λp=>T' (ptD p))=true:=by
 have b:∀x∈a.map (λp=>T' (ptD p)),x.length<=123:=λx b=>by
  obtain⟨p,e,rfl⟩:=Jb.mp b;have:=lC (h p e);rw[bC];exact this
 have:=pI 123 (a.map λp=>T' (ptD p)) 0 b;unfold Sw;rw[<-Pf];have f:(a.map λp=>T' (ptD p)).length*(123+1)<=61*124:=Nat.mul_le_mul (by rw[IM];exact c) (IV _)
 have d:Builtin.Str.tooLong ((a.map λp=>T' (ptD p)).foldl (λn x=>n+x.length+(Str.ofString " ").length) 0)=false:=by
  unfold Builtin.Str.tooLong;rw[Lc];exact decide_eq_false (by lia)
 rw[d];rfl
theorem He(a:List P2):(a.map λp=>sT (ptD p))=(a.map λp=>T' (ptD p)).map U.str:=by rw[JP];rfl
theorem GI(h:B60 p):p.1.natAbs<10 ^ 300/\p.2.natAbs<10 ^ 300:=⟨J6 h.1 (by decide+kernel),J6 h.2 (by decide+kernel)⟩
def uh:List U->Out->Prop:=λa o=>∃pts:List P2,a=[lp pts]/\(∀p∈pts,B60 p)/\pts.length<=61/\o=.val (sT (jn (pts.map ptD)))
theorem mJ:OkD P w base T.aaQ 3 (uh):=by
 refine okD hJ (by walk_at"ln") ?_;rintro _ _ _ d ⟨pts,rfl,hb,c,rfl⟩;refine ae (aO (nk aw ?ej ce (vt hb c)) ?_)
 case ej=>
  rw[<-He];refine EvN.ev ?_;refine (bP rfl (blk (ah fj) ["points","P"] [1] rfl rfl rfl rfl (by decide+kernel)) (EvI.z (bY (aa 0 rfl) (.inl rfl))) (λ_ _ _ _=>aE (i:=1) hJ.nd rfl (Or.inl rfl)) (bR (by decide)) ?clen ?csz (λ_ _=>trivial) ?celt)
  case clen=>simp
  case csz=>rw[IM];exact Ja (ax (by lia))
  case celt=>
   intro C e h f j x y b hy;obtain⟨p,g,a,rfl,rfl⟩:=bT b hy;exact (bx (n5 T) d (ag (aa 1 rfl) aj ai) ⟨p,rfl,(GI (hb p a)).1,(GI (hb p a)).2,rfl⟩)
 rw[show (pts.map λp=>T' (ptD p))=(pts.map ptD).map T' by rw[JP];rfl];refine congrArg (λz=>Out.val (.str z)) ?_;exact CA (pts.map ptD)
inductive Ans:List U->List Nat->Prop
 |show_ (l:List P2):Fit l->Ans [sT gT,.lst [lp l]] (jn (l.map ptD))
 |num (w:List Nat) (gs:List U) (n:Int):w≠gT→(eqW (sT w) (.str "show") || (eqW (sT w) (.str "where") || (eqW (sT w) (.str "tell") || (eqW (sT w) (.str "alike") ||eqW (sT w) (.str "thin")))))=false→Rck [sT w,.lst gs] n→n.natAbs<10 ^ 300→Ans [sT w,.lst gs] (ds n)
def y3:List U->Out->Prop:=λa o=>∃t:List Nat,Ans a t/\o=.val (sT t)
theorem xT:OkD P w base T.abw 6 (y3):=by
 refine okD wI (by rintro i o ⟨_,h,_⟩;cases h <;>rfl) ?_;intro _ _ _ a h;obtain⟨t,h,rfl⟩:=h;cases h with
 |show_ l d=>
  have g:=d.hl;refine ae (bz (am (aX a) (aa 0 rfl) aw) (by decide+kernel) ?_);refine ae (aO (bx (mJ T) a (ag (aD (aa 1 rfl) af rfl rfl) aj aT) ⟨l,rfl,d.b,by lia,rfl⟩) ?_);exact rfl
 |num w j n _ c f e=>
  simp only[Re]at c;refine ae (aG (am (aX a) (aa 0 rfl) aw) c.1 (au ?_));refine ae (aG (am (aX a) (aa 0 rfl) aw) c.2.1 (au ?_));refine ae (aG (am (aX a) (aa 0 rfl) aw) c.2.2.1 (au ?_));refine ae (aG (am (aX a) (aa 0 rfl) aw) c.2.2.2.1 (au ?_));refine ae (aG (am (aX a) (aa 0 rfl) aw) c.2.2.2.2 (au ?_));refine ae (aO (bx (eG T) a (ag (bx (sZ T) a (ag (aa 0 rfl) (ag (aa 1 rfl) aj ai) ai) ⟨n,f,rfl⟩) aj aR) ⟨n,rfl,e,rfl⟩) ?_);exact rfl
inductive Rd (C:Jt) (kvs:List (Str×U)):Str->Str->Out->Prop
 |new (l:List Nat):Nm l->Rd C kvs gB (T' l) (.val (sT l))
 |one (k n:Str) (u:U):(k=gq\/k=xQ)->L2.valU kvs n=some u->Rd C kvs k n (.val u)
 |none_ (k n:Str):(k=gq\/k=xQ)->L2.valU kvs n=none->Rd C kvs k n (.exc C)
 |pnt (p:P2):B60 p->Rd C kvs kP (T' (ptD p)) (.val (pu p))
 |num (d:Str) (k:Int):d∈kK::kA->k.natAbs<10 ^ 60->Rd C kvs d (T' (ds k)) (.val (.int k))
def xJ(C:Jt):Jt->List (Str×U)->List U->Out->Prop:=λ_ c d o=>∃a b,d=[.str a,.str b]/\Rd C c a b o
theorem GT:∀kd∈kK::kA,eqW (.str kd) (.str "NEW")=false∧inV (fl (.str kd)) [fl (.str "ONE"),fl (.str "OTHER")]=false∧eqW (.str kd) (.str "P")=false:=by decide+kernel
theorem dq  :bL P w K mg base (CXF P w) 4 T.aak.a T.aak.d ["self","kind","word"] (spD K false T.aad (xJ T.aae.c)):=by
 refine eF T.aak.F pT (λd r C o h=>?_) (λx A q s H G E O a d r C o b h=>?_)
 .obtain⟨e,g,rfl,t⟩:=h;rfl
 obtain⟨e,g,rfl,t⟩:=h;cases t with
 |new l D=>
  refine Ws.nox ?_;refine ae (bz (am (aX b) (aa 1 rfl) aw) (by decide+kernel) ?_);refine ae (nO (bx (qm T) b (ag (aa 2 rfl) aj ai) ⟨l,rfl,D,rfl⟩) ?_);refine ae (aO (aa 2 rfl) ?_);exact rfl
 |one _ n u f j=>
  refine Ws.nox ?_;refine ae (aG (am (aX b) (aa 1 rfl) aw) (by rcases f with rfl |rfl <;>decide+kernel) (au ?_));refine ae (bz (am (Bn rfl rfl rfl) (aa 1 rfl) (bF (ao aw (ao aw a_ aU) aU))) (by rcases f with rfl |rfl <;>decide+kernel) ?_);refine ae (aG (AH (i:=0) rfl (fO (i:=0) rfl T.aai T.aaw) (aa 2 rfl) (cG b)) (by rw[j];rfl) (au ?_));refine ae (aO (Fw (i:=0) rfl (fO (i:=0) rfl T.aai T.aaw) (aa 2 rfl) (cG b) j) ?_);exact rfl
 |none_ _ n f j=>
  refine ae (aG (am (aX b) (aa 1 rfl) aw) (by rcases f with rfl |rfl <;>decide+kernel) (au ?_));refine ae (bz (am (Bn rfl rfl rfl) (aa 1 rfl) (bF (ao aw (ao aw a_ aU) aU))) (by rcases f with rfl |rfl <;>decide+kernel) ?_);refine ae (bz (AH (i:=0) rfl (fO (i:=0) rfl T.aai T.aaw) (aa 2 rfl) (cG b)) (by rw[j];rfl) ?_);refine ae (vg T.aby rfl T.aae.m aw ?_);exact rfl
 |pnt p hb=>
  refine Ws.nox ?_;refine ae (aG (am (aX b) (aa 1 rfl) aw) (by decide+kernel) (au ?_));refine ae (aG (am (Bn rfl rfl rfl) (aa 1 rfl) (bF (ao aw (ao aw a_ aU) aU))) (by decide+kernel) (au ?_));refine ae (bz (am (aX b) (aa 1 rfl) aw) (by decide+kernel) ?_);refine ae (aO (bx (nR T) b (ag (aa 2 rfl) aj ai) ⟨p,rfl,hb,rfl⟩) ?_);exact rfl
 |num _ k B f=>
  refine Ws.nox ?_;obtain⟨z,v,y⟩:=GT e B;have I:=dh (by decide) f;refine ae (aG (am (aX b) (aa 1 rfl) aw) z (au ?_));refine ae (aG (am (Bn rfl rfl rfl) (aa 1 rfl) (bF (ao aw (ao aw a_ aU) aU))) (by exact v) (au ?_));refine ae (aG (am (aX b) (aa 1 rfl) aw) y (au ?_));refine ae (aO (bx (dZ T) b (ag (aa 2 rfl) aj ai) ⟨ds k,rfl,by lia,AC f,rfl⟩) ?_);rw[qh]
def xh:Jt→List (Str×U)→List U→Out→Prop:=λd a b o=>∃(n:Str) (l:List P2),b=[.str n,lp l]∧l≠[]∧l.length≤60∧(∀p∈l,B60 p)∧a.length<1000∧o=.dsk d (.str "ok") (kY a n (lp l))
theorem qi  :bL P w K mg base (CXF P w) 2 T.aaf.a T.aaf.d ["self","name","land"] (spD K true T.aad (xh)):=by
 refine eF T.aaf.F i6 (λd c m o h=>?_) (λk A b s H p E O a d c m o f h=>?_)
 .obtain⟨n,l,rfl,g,e,hb,j,rfl⟩:=h;rfl
 obtain⟨n,l,rfl,g,e,hb,j,rfl⟩:=h;refine Ws.nox ?_;refine ae (nO (bx (kR T) f (ag (aa 2 rfl) aj ai) ⟨l,rfl,g,e,.inl ⟨hb,rfl⟩⟩) ?_);refine ae (E9 (i:=0) rfl (fO (i:=0) rfl T.aai T.aaw) (aa 1 rfl) (aa 2 rfl) (cG f) (ax (by lia)) ?_);refine ae (yq (i:=0) rfl aw ?_);exact rfl
def ug(C:Jt):Jt->List (Str×U)->List U->Out->Prop:=λd a b o=>∃(n:Str) (l:List P2),b=[.str n,lp l]/\l≠[]/\l.length<=60/\¬ (∀p∈l,B60 p)/\o=.exc C
theorem nT  :bL P w K mg base (CXF P w) 2 T.aaf.a T.aaf.d ["self","name","land"] (spD K false T.aad (ug T.aaa.c)):=by
 refine eF T.aaf.F i6 (λd f p o h=>?_) (λj A e s H q E O a d f p o k h=>?_)
 .obtain⟨n,l,rfl,i,g,hb,rfl⟩:=h;rfl
 obtain⟨n,l,rfl,i,g,hb,rfl⟩:=h;refine ae (BR (F2 ((kR T).mono (by decide)) k rfl T.aan.m T.aan.F.kp T.aan.b vz (ag (aa 2 rfl) aj ai) ⟨l,rfl,i,g,.inr ⟨hb,rfl⟩⟩) ?_);exact rfl
def xg:Jt→List (Str×U)→List U→Out→Prop:=λd a b o=>∃(n:Str) (u:U),b=[.str n]∧L2.valU a n=some u∧o=.dsk d (.str "ok") (jf a n)
theorem pz  :bL P w K mg base (CXF P w) 1 T.aaq.a T.aaq.d ["self","name"] (spD K true T.aad (xg)):=by
 refine eF T.aaq.F qg (λd c g o h=>?_) (λf A b s H j E O a d c g o k h=>?_)
 .obtain⟨n,u,rfl,e,rfl⟩:=h;rfl
 obtain⟨n,u,rfl,e,rfl⟩:=h;refine Ws.nox ?_;refine ae (Gi (i:=0) rfl (fO (i:=0) rfl T.aai T.aaw) (aa 1 rfl) e ?_);refine ae (yq (i:=0) rfl aw ?_);exact rfl
theorem rh(h:∀w∈ws,w.length<=123)(a:ws.length<=62):(jn ws).length<=8200:=by
 have:=AB ws h;lia
structure Row(C:Jt)(kvs:List (Str×U))(w:List Nat)(ws:List (List Nat))(ks:List Str)(gs:List U):Prop where
 kn:fJ [.lst ((w::ws).map sT)] (.val (.lst (ks.map U.str)))
 fr:∀x∈w::ws,32 ∉ x
 ln:∀x∈w::ws,x.length<=123
 nw:ws.length<=61
 l1:ks.length=ws.length
 l2:gs.length=ws.length
 rd:∀(i:Nat) (k:Str) (wd:List Nat) (g:U),ks[i]?=some k->ws[i]?=some wd->gs[i]?=some g->Rd C kvs k (T' wd) (.val g)
 tb:(fT dN (T' w)).isSome=true
theorem eS:∀a b,a.length=b.length->(fK a b).length=a.length
 |[],[],_=>rfl
 |_::a,_::b,h=>by rw[fK,Ji,eS a b (by simpa using h),Ji]
theorem dE:∀c d (i:Nat) x,(fK c d)[i]?=some x->∃a b,c[i]?=some a/\d[i]?=some b/\x=.tup [a,b]
 |[],_,i,x,h=>by simp[fK]at h
 |_::_,[],i,x,h=>by simp[fK]at h
 |a::c,b::d,0,x,h=>by cases h;exact⟨a,b,rfl,rfl,rfl⟩
 |a::c,b::d,i+1,x,h=>dE c d i x h
theorem gA(a)(r):gH (a::r) (some 1) none=r:=by rw[vf];rfl
def Pln(w:List Nat):Prop:=eqW (sT w) (.str "names")=false∧eqW (sT w) (.str "drop")=false
structure HD(C:Jt)(kvs:List (Str×U))(w:List Nat)(ws:List (List Nat))(ks:List Str)(k:Nat)(gs:List U):Prop where
 kn:fJ [.lst ((w::ws).map sT)] (.val (.lst (ks.map U.str)))
 fr:∀x∈w::ws,32 ∉ x
 ln:∀x∈w::ws,x.length<=123
 nw:ws.length<=61
 l1:ks.length=ws.length
 hk:k<ws.length
 l2:k<=gs.length
 rd:∀(i:Nat) (kd:Str) (wd:List Nat) (g:U),i<k->ks[i]?=some kd->ws[i]?=some wd->gs[i]?=some g->Rd C kvs kd (T' wd) (.val g)
 rx:∀(kd:Str) (wd:List Nat),ks[k]?=some kd->ws[k]?=some wd->Rd C kvs kd (T' wd) (.exc C)
 tb:(fT dN (T' w)).isSome=true
def dU(h C2:Jt):Jt->List (Str×U)->List U->Out->Prop:=λ_ a j o=>∃(w:List Nat) (d:List (List Nat)),j=[sT (jn (w::d))]/\
 ((∃(c:List Str) (b:List U),Row C2 a w d c b/\
  ((∃(e:Str) (t:List Nat),Pln w∧c.head?=some e∧eqW (.str e) (.str "NEW")=false∧Ans [sT w,.lst b] t∧o=.val (sT t))∨
   (w=gC∧a.length<64∧Sw (Str.ofString " ") (srtS (a.map (·.1)))=true∧o=.val (.str (Txt.join (Str.ofString " ") (srtS (a.map (·.1))))))∨
   (∃(y:List Nat) (g:List Str) (i:List (List Nat)) (f:List U) (l:List P2),Pln w/\c=gB::g/\d=y::i/\b=sT y::f/\im [sT w,.lst f] (.new (l.map pu))/\l≠[]/\l.length<=60/\¬ (∀p∈l,B60 p)/\o=.exc h)))\/
  ∃(c:List Str) (k:Nat) (b:List U),HD C2 a w d c k b/\o=.exc C2)
theorem mF  :bL P w K mg base (CXF P w) 7 T.aac.a T.aac.d ["self","row"] (spD K false T.aad (dU T.aaa.c T.aae.c)):=by
 refine eF T.aac.F aV (λd n us o h=>?_) (λX A I s H H1 E O a d n us o e h=>?_)
 .obtain⟨w,q,rfl,h⟩:=h;rfl
 obtain⟨w,q,rfl,h⟩:=h;rcases h with ⟨v,G,R,h⟩ |⟨v,k,G,R,rfl⟩
 .have Y:=R.nw;have l1:=R.l1;have l2:=R.l2;refine ae (aB 2 aV.nd (bx (gj T) e (ag (aa 1 rfl) aj ai) ⟨w,q,rfl,R.fr,rh R.ln (by simp;lia),R.tb,rfl⟩) ?_);refine ae (aB 3 aV.nd (bx (j7 T) e (ag (aa 2 rfl) aj ai) R.kn) ?_);show Ws _ _ _ _ _ _ [some (.dsk false T.aad a d n),some (.val (sT (jn (w::q)))),some (.val (.lst (sT w::q.map sT))),some (.val (.lst (v.map U.str))),none,none,none];refine ae (f8 (ys:=G) (j:=4) false rfl aV.nd rfl (Or.inl rfl) (blk (ah eJ) ["self","row","words","kinds","given","kind","word"] [5,6] rfl rfl rfl rfl (by decide+kernel)) (t_ rfl T.abB (aa 3 rfl) (.inl rfl) (EvN.ev (cA (aa 2 rfl) (c3 af) cT (.inl rfl))) (.inl rfl) ?l12 ai aT) (λ_ _ _ _=>eK rfl (aM (aE (i:=5) aV.nd rfl (Or.inl rfl)) (aM (aE (i:=6) aV.nd rfl (Or.inl rfl)) cw))) (di (js:=[5,6]) (by decide)) ?clen ?csz ?dom ?celt ?_)
  case l12=>rw[gA,IM,IM,l1]
  case clen=>rw[gA,eS _ _ (by rw[IM,IM,l1]),IM,l1,l2]
  case csz=>rw[gA,eS _ _ (by rw[IM,IM,l1]),IM,l1];exact Ja (ax (by lia))
  case dom=>
   rw[gA];intro x g;obtain⟨i,M⟩:=JL.mp g;obtain⟨_,_,_,_,rfl⟩:=dE _ _ _ _ M;exact⟨_,rfl,rfl⟩
  case celt=>
   rw[gA];intro C Q V S j x N g hy;obtain⟨_,_,ha,hb,rfl⟩:=dE _ _ _ _ g;obtain⟨k,hk,_,rfl⟩:=me ha;obtain⟨p,f,_,rfl⟩:=me hb;exact HB (dq T) 0 T.aai e rfl (ag (aa 5 rfl) (ag (aa 6 rfl) aj ai) ai) ⟨k,T' p,rfl,R.rd j k p N hk f hy⟩
  rcases h with ⟨k0,t,⟨nn,nd⟩,z,B,hA,rfl⟩ |⟨rfl,L,J,rfl⟩ |⟨y,D,WL,WX,l,⟨nn,nd⟩,rfl,rfl,rfl,hM,Ve,Z,hb,rfl⟩
  .obtain⟨D,rfl⟩:∃D,v=k0::D:=by
    cases v with
    |nil=>cases z
    |cons a r=>cases z;exact⟨r,rfl⟩
   refine Ws.nox ?_;refine ae (aG (am (aX e) (aD (aa 2 rfl) af rfl (aW (i:=0) rfl rfl)) aw) nn (au ?_));refine ae (aG (am (aX e) (aD (aa 2 rfl) af rfl (aW (i:=0) rfl rfl)) aw) nd (au ?_));refine ae (aG (am (aX e) (aD (aa 3 rfl) af rfl (aW (i:=0) rfl rfl)) aw) B (au ?_));refine ae (aO (bx (xT T) e (ag (aD (aa 2 rfl) af rfl (aW (i:=0) rfl rfl)) (ag (aa 4 rfl) aj ai) aT) ⟨t,hA,rfl⟩) ?_);exact rfl
  .refine Ws.nox ?_;refine ae (bz (am (aX e) (aD (aa 2 rfl) af rfl (aW (i:=0) rfl rfl)) aw) (by decide+kernel) ?_);refine ae (aO (nk (l:=srtS (n.map (·.1))) aw (EvN.ev (vG (by rfl) (by rfl) T.aau (l5 (i:=0) rfl) (zH (i:=0) rfl (fO (i:=0) rfl T.aai T.aaw)) L)) aR J) ?_);exact rfl
  .refine ae (aG (am (aX e) (aD (aa 2 rfl) af rfl (aW (i:=0) rfl rfl)) aw) nn (au ?_));refine ae (aG (am (aX e) (aD (aa 2 rfl) af rfl (aW (i:=0) rfl rfl)) aw) nd (au ?_));refine ae (bz (am (aX e) (aD (aa 3 rfl) af rfl (aW (i:=0) rfl rfl)) aw) (by decide+kernel) ?_);refine ae (FH (C:=T.aaa.c) (AO (i:=0) rfl T.aai T.aaf.m ((nT T).mono (by decide)) e T.aaf.b vz (ag (aD (aa 2 rfl) af rfl (aW (i:=1) rfl rfl)) (ag (EvN.ev (dy (vX T) e (ag (aD (aa 2 rfl) af rfl (aW (i:=0) rfl rfl)) (ag (EvN.ev (cA (aa 4 rfl) (c3 af) cT (.inl rfl))) aj aT) aT) (by rw[gA];exact hM))) aj aR) aT) ⟨T' y,l,rfl,Ve,Z,hb,rfl⟩) ?_);exact rfl
 .have Y:=R.nw;have l1:=R.l1;have hk:=R.hk;refine ae (aB 2 aV.nd (bx (gj T) e (ag (aa 1 rfl) aj ai) ⟨w,q,rfl,R.fr,rh R.ln (by simp;lia),R.tb,rfl⟩) ?_);refine ae (aB 3 aV.nd (bx (j7 T) e (ag (aa 2 rfl) aj ai) R.kn) ?_);show Ws _ _ _ _ _ _ [some (.dsk false T.aad a d n),some (.val (sT (jn (w::q)))),some (.val (.lst (sT w::q.map sT))),some (.val (.lst (v.map U.str))),none,none,none];refine ae (uH (k:=k) (ys:=G) (j:=4) (C0:=T.aae.c) rfl rfl rfl Bj rfl aV.nd rfl (Or.inl rfl) (blk (ah eJ) ["self","row","words","kinds","given","kind","word"] [5,6] rfl rfl rfl rfl (by decide+kernel)) (t_ rfl T.abB (aa 3 rfl) (.inl rfl) (EvN.ev (cA (aa 2 rfl) (c3 af) cT (.inl rfl))) (.inl rfl) ?l12 ai aT) (λ_ _ _ _=>eK rfl (aM (aE (i:=5) aV.nd rfl (Or.inl rfl)) (aM (aE (i:=6) aV.nd rfl (Or.inl rfl)) cw))) (di (js:=[5,6]) (by decide)) ?hk R.l2 ?csz ?dom ?celt ?hv ?_)
  case l12=>rw[gA,IM,IM,l1]
  case hk=>rw[gA,eS _ _ (by rw[IM,IM,l1]),IM,l1];exact hk
  case csz=>rw[gA,eS _ _ (by rw[IM,IM,l1]),IM,l1];exact Ja (ax (by lia))
  case dom=>
   rw[gA];intro x g;obtain⟨i,M⟩:=JL.mp g;obtain⟨_,_,_,_,rfl⟩:=dE _ _ _ _ M;exact⟨_,rfl,rfl⟩
  case celt=>
   rw[gA];intro C Q V S EE j x N J g hy;obtain⟨_,_,ha,hb,rfl⟩:=dE _ _ _ _ g;obtain⟨kd,u,_,rfl⟩:=me ha;obtain⟨p,f,_,rfl⟩:=me hb;exact zo (i:=0) rfl T.aai T.aak.m ((dq T).mono (by decide)) e T.aak.b gV (ag (aa 5 rfl) (ag (aa 6 rfl) aj ai) ai) ⟨kd,T' p,rfl,R.rd j kd p N J u f hy⟩
  case hv=>
   rw[gA];intro C Q V S EE x g W;obtain⟨_,_,ha,hb,rfl⟩:=dE _ _ _ _ g;obtain⟨kd,u,_,rfl⟩:=me ha;obtain⟨p,f,_,rfl⟩:=me hb;exact AO (i:=0) rfl T.aai T.aak.m ((dq T).mono (by decide)) e T.aak.b W (ag (aa 5 rfl) (ag (aa 6 rfl) aj ai) ai) ⟨kd,T' p,rfl,R.rx kd p u f⟩
  exact rfl
def oz(C:Jt):Jt->List (Str×U)->List U->Out->Prop:=λd a i o=>∃(w:List Nat) (b:List (List Nat)) (c:List Str) (e:List U),i=[sT (jn (w::b))]/\Row C a w b c e/\
 ((∃(y:List Nat) (g:List Str) (h:List (List Nat)) (f:List U) (l:List P2),Pln w∧c=gB::g∧b=y::h∧e=sT y::f∧a.length<1000∧im [sT w,.lst f] (.new (l.map pu))∧l≠[]∧l.length≤60∧(∀p∈l,B60 p)∧o=.dsk d (.str "ok") (kY a (T' y) (lp l)))∨
  ∃(nm:List Nat) (u:U),w=kz∧b=[nm]∧L2.valU a (T' nm)=some u∧o=.dsk d (.str "ok") (jf a (T' nm)))
theorem CI  :bL P w K mg base (CXF P w) 7 T.aac.a T.aac.d ["self","row"] (spD K true T.aad (oz T.aae.c)):=by
 refine eF T.aac.F aV (λd f M o h=>?_) (λD A n s H S E O a d f M o e h=>?_)
 .obtain⟨w,g,v,t,rfl,R,h⟩:=h;rfl
 obtain⟨w,g,v,t,rfl,R,h⟩:=h;refine Ws.nox ?_;have X:=R.nw;have l1:=R.l1;have l2:=R.l2;refine ae (aB 2 aV.nd (bx (gj T) e (ag (aa 1 rfl) aj ai) ⟨w,g,rfl,R.fr,rh R.ln (by simp;lia),R.tb,rfl⟩) ?_);refine ae (aB 3 aV.nd (bx (j7 T) e (ag (aa 2 rfl) aj ai) R.kn) ?_);show Ws _ _ _ _ _ _ [some (.dsk true T.aad a d f),some (.val (sT (jn (w::g)))),some (.val (.lst (sT w::g.map sT))),some (.val (.lst (v.map U.str))),none,none,none];refine ae (f8 (ys:=t) (j:=4) false rfl aV.nd rfl (Or.inl rfl) (blk (ah eJ) ["self","row","words","kinds","given","kind","word"] [5,6] rfl rfl rfl rfl (by decide+kernel)) (t_ rfl T.abB (aa 3 rfl) (.inl rfl) (EvN.ev (cA (aa 2 rfl) (c3 af) cT (.inl rfl))) (.inl rfl) ?l12 ai aT) (λ_ _ _ _=>eK rfl (aM (aE aV.nd rfl (Or.inl rfl)) (aM (aE aV.nd rfl (Or.inl rfl)) cw))) (di (js:=[5,6]) (by decide)) ?clen ?csz ?dom ?celt ?_)
 case l12=>rw[gA,IM,IM,l1]
 case clen=>rw[gA,eS _ _ (by rw[IM,IM,l1]),IM,l1,l2]
 case csz=>rw[gA,eS _ _ (by rw[IM,IM,l1]),IM,l1];exact Ja (ax (by lia))
 case dom=>
  rw[gA];intro x p;obtain⟨i,L⟩:=JL.mp p;obtain⟨_,_,_,_,rfl⟩:=dE _ _ _ _ L;exact⟨_,rfl,rfl⟩
 case celt=>
  rw[gA];intro C V Y W j x N p hy;obtain⟨_,_,ha,hb,rfl⟩:=dE _ _ _ _ p;obtain⟨k,r,_,rfl⟩:=me ha;obtain⟨z,q,_,rfl⟩:=me hb;exact HB (dq T) 0 T.aai e rfl (ag (aa 5 rfl) (ag (aa 6 rfl) aj ai) ai) ⟨k,T' z,rfl,R.rd j k z N r q hy⟩
 rcases h with ⟨y,Q,Z,WX,l,⟨nn,nd⟩,rfl,rfl,rfl,r,I,J,G,hb,rfl⟩ |⟨nm,u,rfl,rfl,B,rfl⟩
 .refine ae (aG (am (aX e) (aD (aa 2 rfl) af rfl (aW rfl rfl)) aw) nn (au ?_));refine ae (aG (am (aX e) (aD (aa 2 rfl) af rfl (aW rfl rfl)) aw) nd (au ?_));refine ae (bz (am (aX e) (aD (aa 3 rfl) af rfl (aW rfl rfl)) aw) (by decide+kernel) ?_);refine ae (wA (i:=0) rfl (Ah (i:=0) rfl T.aai T.aaf.m ((qi T).mono (by decide)) e T.aaf.b gV (ag (aD (aa 2 rfl) af rfl (aW rfl rfl)) (ag (EvN.ev (dy (vX T) e (ag (aD (aa 2 rfl) af rfl (aW rfl rfl)) (ag (EvN.ev (cA (aa 4 rfl) (c3 af) cT (.inl rfl))) aj aT) aT) (by rw[gA];exact I))) aj aR) aT) ⟨T' y,l,rfl,J,G,hb,r,rfl⟩) ?_);exact rfl
 .refine ae (aG (am (aX e) (aD (aa 2 rfl) af rfl (aW rfl rfl)) aw) (by decide+kernel) (au ?_));refine ae (bz (am (aX e) (aD (aa 2 rfl) af rfl (aW rfl rfl)) aw) (by decide+kernel) ?_);refine ae (wA (i:=0) rfl (Ah (i:=0) rfl T.aai T.aaq.m ((pz T).mono (by decide)) e T.aaq.b gV (ag (aD (aa 2 rfl) af rfl (aW rfl rfl)) aj aT) ⟨T' nm,u,rfl,B,rfl⟩) ?_);exact rfl
theorem Dh:bL P w K mg base (CXF P w) 1 T.aap.a T.aap.d ["self"] (spI T.aad):=
 CP T.aap.F qz rfl rfl rfl T.aai T.aaw rfl
noncomputable def cel(ns:List Int)(k:Int):Int:=if k<(ns.length:Int) then ns.getD k.toNat 0 else 7*k*k+3*k+1
theorem zy(h:∀m∈ns,Sz 1048576 m)(a:0<=k)(b:k<1000):Sz 1048576 (cel ns k):=by
 unfold cel;split
 .exact B5 h _
 .refine Sz.mono (m:=100) ?_ (by decide)
  have:7*k*k<=7*1000*1000:=by
   have:k*k<=1000*1000:=Int.mul_le_mul (by lia) (by lia) a (by lia);rw[Int.mul_assoc];lia
  have c:0<=7*k*k:=Kp (by lia) a;unfold Sz;lia
def xG:List U->Out->Prop:=λb o=>∃(a:List Int) (k:Int),b=[.scr (a.map U.int),.int k]/\a.length<=63/\0<=k/\k<1000/\o=.val (.int (cel a k))
theorem jV:OkD P w base T.aa7 1 (xG):=by
 refine okD pC (by walk_at"ln") ?_;rintro _ _ _ j ⟨c,k,rfl,h,f,g,rfl⟩;have i:Sz 64 k:=by unfold Sz;lia
 have b:((c.map U.int).length)=c.length:=by rw[IM]
 refine ae (j_ (am fB (aa 1 rfl) (ay (ci rfl) rfl T.aah JH (ag (aa 0 rfl) aj ai))) (λd=>?_) (λe=>(au ?_)))
 .rw[b]at d;have a:=dTb d;refine ae (aO (aD (aa 0 rfl) (aa 1 rfl) rfl (A3 f a)) ?_);exact vIO (by unfold cel;rw[if_pos a])
 .rw[b]at e;have a:=dFb e;refine ae (aO (b_ (b_ (bo (bo af (aa 1 rfl) (by walk_at"mul")) (aa 1 rfl) (by walk_at"mul")) (bo af (aa 1 rfl) (by walk_at"mul"))) af) ?_)
  exact vIO (by unfold cel;rw[if_neg a])
def xO:List U->Out->Prop:=λa o=>∃P Q R:P2,a=[pu P,pu Q,pu R]/\Szp 5000 P/\Szp 5000 Q/\Szp 5000 R/\o=.val (.int (aK P Q R))
theorem pQ:OkD P w base T.aa8 1 (xO):=by
 refine okD pO (by walk_at"ln") ?_;rintro _ _ _ c ⟨P,Q,R,rfl,⟨e,a⟩,⟨b,d⟩,⟨f,g⟩,rfl⟩;refine ae (aO (bp (bo (bp (aD (aa 1 rfl) af rfl rfl) (aD (aa 0 rfl) af rfl rfl)) (bp (aD (aa 2 rfl) af rfl rfl) (aD (aa 0 rfl) af rfl rfl)) (by walk_at"mul")) (bo (bp (aD (aa 1 rfl) af rfl rfl) (aD (aa 0 rfl) af rfl rfl)) (bp (aD (aa 2 rfl) af rfl rfl) (aD (aa 0 rfl) af rfl rfl)) (by walk_at"mul"))) ?_);exact rfl
theorem jR:OkD P w base T.aa9 2 (mO):=by
 refine okD gf (by walk_at"ln") ?_;rintro _ _ _ hr ⟨row,rfl,sz,hl,rfl⟩;refine ae (m_ (i:=1) gf.nd rfl (Or.inl rfl) (cn a_) ?_);refine ae (fh (λst:List P2=>[some (.val (lp row)),some (.own (st.reverse.map pu)),none]) (λi st=>st=ak (row.take i)) rfl PassesOwn.never (bY (aa 0 rfl) (.inl rfl)) ?h0 ?hs ?hd)
 case h0=>exact⟨[],rfl,rfl,rfl,trivial⟩
 case hs=>
  rintro H0 i x _ hx rfl;obtain⟨P,hP,mP,rfl⟩:=iZ hx;have hi:=aN hP;have sP:=sz P mP;refine⟨_,(ft (i:=2) gf.nd rfl (Or.inl rfl)),?_⟩;have len0:=ip row i;refine iW (λps=>SubP [some (.val (lp row)),some (.own ((bg P (ak (row.take i))).reverse.map pu)),some (.val (pu P))] ps) (gK (λs2:List P2=>[some (.val (lp row)),some (.own (s2.reverse.map pu)),some (.val (pu P))]) (λm s2=>m=s2.length/\bg P s2=bg P (ak (row.take i))/\(∀p∈s2,p∈row)/\s2.length<=i) PassesOwn.never ?h0 ?hs) ?hj
  case h0=>exact⟨_,_,⟨rfl,rfl,λq hq=>fD row i q hq,len0⟩,rfl,rfl,rfl,trivial⟩
  case hs=>
   rintro m s2 ⟨rfl,e2,sub,len2⟩
   match s2,e2,sub,len2 with
   |[],e2,sub,len2=>
    refine⟨false,?_,λh=>(nomatch h),λh ps Vl=>e2 ▸ Vl⟩;exact (Tw.t (nv (am fc (gR 1 rfl rfl T.aah) af) rfl))
   |[b],e2,sub,len2=>
    refine⟨false,?_,λh=>(nomatch h),λh ps Vl=>e2 ▸ Vl⟩;exact (Tw.t (nv (am fc (gR 1 rfl rfl T.aah) af) rfl))
   |b::a::r,e2,sub,len2=>
    have sa:=sz a (sub a (by simp));have sb:=sz b (sub b (by simp));have e1:decide (1<((((b::a::r).reverse.map pu).length:Nat):Int))=true:=decide_eq_true (by simp;lia);refine⟨decide (1<((((b::a::r).reverse.map pu).length:Nat):Int)) && decide (aK a b P<=0),?_,λh=>?_,λh ps Vl=>?_⟩
    .exact (Tw.t (eE (am fc (gR 1 rfl rfl T.aah) af) (λhz=>(cU (am Iy (bx (pQ T) hr (ag (vV 1 rfl (fL af) (DU b a r)) (ag (vV 1 rfl (fL af) (DX b (a::r))) (ag (aa 2 rfl) aj ai) aT) aT) ⟨a,b,P,rfl,sa,sb,sP,rfl⟩) af)))))
    .rw[e1,Mx]at h;have hd:=dTb h;refine ae (Ep 1 rfl (by simp) (au ?_))
     refine⟨_,a::r,?_,⟨rfl,?_,λq hq=>sub q (IS _ hq),?_⟩,rfl,?_,rfl,trivial⟩
     .simp
     .rw[←e2];conv=>rhs;unfold bg
      rw[if_pos hd]
     .simp only[Ji]at *;lia
     .exact congrArg (λl=>some (Sl.own l)) (by simp)
    .rw[e1,Mx]at h;have hd:=dFb h
     have e3:bg P (b::a::r)=b::a::r:=by conv=>lhs;unfold bg
                                        rw[if_neg hd]
     rw[<-e2,e3];exact Vl
  case hj=>
   intro ps Vl;refine c4 ?_ Vl;have e4:=f7 hP;have len3:=lf P (ak (row.take i));refine ae (eN 1 rfl (aa 2 rfl) (by rw[IM,J7];exact ax (by lia)) (au ?_));refine⟨_,rfl,rfl,?_,trivial⟩;exact congrArg (λl=>some (Sl.own l)) (by rw[e4];simp)
 case hd=>
  rintro st ps Vp Vl;refine c4 ?_ Vl;refine ae (lR 1 rfl ?_);rw[Vp];simp
def pF:List U->Out->Prop:=λa o=>∃pts:List P2,a=[lp pts]/\(∀p∈pts,Szp 5000 p)/\pts.length<200/\o=.new ((av pts).map pu)
theorem zB(h:(ST.srt pts).length=2):av pts=ST.srt pts:=by
 obtain⟨a,b,e⟩:=L2.len2 h;unfold av;rw[e];simp[ak,bg]
theorem cL:OkD P w base T.aaH 3 (pF):=by
 refine okD dI (by walk_at"ln") ?_;rintro _ _ _ c ⟨pts,rfl,sz,j,rfl⟩;have l:=ST.srt_len pts;have b:(((ST.srt pts).map pu).length:Int)=((ST.srt pts).length:Int):=by rw[IM]
 have a:=As sz;by_cases h:(ST.srt pts).length<3
 .refine ae (m_ (i:=1) dI.nd rfl (Or.inl rfl) (fW rfl (cG c) rfl T.aau rfl T.abA (aa 0 rfl) (by lia) ai) ?_);refine ae (bz (am fB (gR 1 rfl rfl T.aah) af) (by rw[b];exact decide_eq_true (by lia)) ?_);refine ae (lR 1 rfl ?_)
  have e:av pts=ST.srt pts:=by
   by_cases d:(ST.srt pts).length=2
   .exact zB d
   .exact c_ (by lia)
  rw[e]
 .refine ae (aB 1 dI.nd (EvN.ev (fW rfl (cG c) rfl T.aau rfl T.abA (aa 0 rfl) (by lia) ai)) ?_);refine ae (aG (am fB (ay (ci rfl) rfl T.aah JH (ag (aa 1 rfl) aj ai)) af) (by rw[b];exact decide_eq_false (by lia)) (au ?_));have k:=iY (ST.srt pts);have g:=iY (ST.srt pts).reverse;rw[J7]at g;refine ae (cD (mV (EvN.ev (cA (EvN.ev (dy (jR T) c (ag (aa 1 rfl) aj ai) ⟨ST.srt pts,rfl,a,by lia,rfl⟩)) cT (c3 (fL af)) (.inl rfl))) (EvN.ev (cA (EvN.ev (dy (jR T) c (ag (EvN.ev (wY rfl rfl T.abD rfl T.abm (aa 1 rfl) ai)) aj aR) ⟨(ST.srt pts).reverse,by rw[lp,Lx],λp f=>a p (Jh.mp f),by rw[J7];lia,rfl⟩)) cT (c3 (fL af)) (.inl rfl))) (by rw[hG,hG,IM,IM,Kr,Kr,J7,J7];exact Ja (ax (by lia)))) ?_)
  unfold av;rw[if_neg (by lia),hG,hG,<-Kt]
noncomputable def nmL(c:Int):List Nat:=Jw (c/8%(1+c%8)).toNat 113++(97+(c/64%26).toNat)::Jw ((1+c%8)-c/8%(1+c%8)-1).toNat 113
theorem y_(c:Int):1<=1+c%8/\1+c%8<=8/\0<=c/8%(1+c%8)/\c/8%(1+c%8)<1+c%8/\0<=c/64%26/\c/64%26<26:=
 ⟨by lia,by lia,Ng _ (by lia),Mw _ (by lia),by lia,by lia⟩
theorem vE(c):Nm (nmL c):=by
 obtain⟨e,h,i,b,d,f⟩:=y_ c;unfold nmL;generalize c/8%(1+c%8)=p at *;generalize 1+c%8=z at *;generalize c/64%26=g at *;refine⟨by simp;lia,by simp;lia,λx a=>?_⟩;rcases JB.mp a with k |k
 .have:=(RV.mp k).2;lia
 .rcases IT.mp k with k |k
  .lia
  .have:=(RV.mp k).2;lia
theorem DY(a:0≤n)(b:n≤8):Txt.mul (Str.ofString "q") n=T' (Jw n.toNat 113):=by
 have h:∀k∈J3 9,Txt.mul (Str.ofString "q") k=T' (Jw k 113):=by decide+kernel
 have:=h n.toNat (JM.mpr (by lia))
 rwa [Rv a]at this
theorem HH(a:0≤n)(b:n<26):atI (Str.ofString "abcdefghijklmnopqrstuvwxyz":Str).cps.toList n=some (97+n.toNat):=by
 have h:∀k∈J3 26,atI (Str.ofString "abcdefghijklmnopqrstuvwxyz").cps.toList k=some (97+k):=by decide+kernel
 have:=h n.toNat (JM.mpr (by lia))
 rwa [Rv a]at this
def yi:List U->Out->Prop:=λa o=>∃c:Int,a=[.int c]/\Sz 1048576 c/\o=.val (sT (nmL c))
theorem o_:OkD P w base T.aa_ 1 (yi):=by
 refine okD dL (by walk_at"ln") ?_;rintro _ _ _ k ⟨c,rfl,l,rfl⟩;obtain⟨h,j,f,g,d,e⟩:=y_ c;refine ae (aB 1 dL.nd (b_ af (b6 (aa 0 rfl) af (by walk_at"mod"))) ?_);refine ae (aB 2 dL.nd (b6 (cV (aa 0 rfl) af (by walk_at"div")) (aa 1 rfl) (by lia)) ?_);refine ae (qQ (i:=3) dL.nd rfl (Or.inl rfl) (DS aw (b6 (cV (aa 0 rfl) af (by walk_at"div")) af (by walk_at"mod")) (by decide+kernel) (HH d e)) ?_);have l1:(T' (Jw (c/8%(1+c%8)).toNat 113)).length<=8:=by rw[bC,KH];lia
 have l2:(T' (Jw ((1+c%8)-c/8%(1+c%8)-1).toNat 113)).length<=8:=by rw[bC,KH];lia
 have a:=DY f (by lia:c/8%(1+c%8)<=8);have b:=DY (n:=(1+c%8)-c/8%(1+c%8)-1) (by lia) (by lia);refine ae (aO (bv (bv (BC aw (aa 2 rfl) (mulOk_of 1 8 (by decide) (by lia) (by lia) (by decide) (by decide))) (aa 3 rfl) ?z1) (BC aw (bp (bp (aa 1 rfl) (aa 2 rfl)) af) (mulOk_of 1 8 (by decide) (by lia) (by lia) (by decide) (by decide))) ?z2) ?_)
 case z1=>rw[a];exact Ja (ax (by simp[Str.length]at l1 |-;lia))
 case z2=>rw[a,b,lg];exact Ja (ax (by simp[Str.length]at l1 l2 |-;lia))
 rw[a,b];refine congrArg (λz=>Out.val (.str z)) ?_;rw[cP,cP];rw[Jj];rfl
noncomputable def mxN(c k:Int):Int:=(c*48271+69621*k*k+16807*k+11)%2147483647*39373%2147483629
theorem Ge(c k):0<=mxN c k/\mxN c k<2147483629:=by unfold mxN;lia
def uR:List U->Out->Prop:=λa o=>∃c k:Int,a=[.int c,.int k]/\Sz 1048576 c/\0<=k/\k<1000/\o=.val (.int (mxN c k))
theorem nV:OkD P w base T.aaY 1 (uR):=by
 refine okD n9 (by walk_at"ln") ?_;rintro _ _ _ d ⟨c,k,rfl,e,f,a,rfl⟩;have b:Sz 64 k:=by unfold Sz;lia
 refine ae (aO (b6 (bo (b6 (b_ (b_ (b_ (bo (aa 0 rfl) af (by walk_at"mul")) (bo (bo af (aa 1 rfl) (by walk_at"mul")) (aa 1 rfl) (by walk_at"mul"))) (bo af (aa 1 rfl) (by walk_at"mul"))) af) af (by walk_at"mod")) af (by walk_at"mul")) af (by walk_at"mod")) ?_);exact rfl
noncomputable def itN:Nat->Int->Int
 |0,x=>x
 |i+1,x=>itN i x*16807%2147483647
noncomputable def M60:Int:=10 ^ (60:Int).toNat
noncomputable def ptN(m:Int):P2:=(if m/3%4=1 then m*(37*10 ^ (58:Int).toNat+48271)%(2*10 ^ (60:Int).toNat-1)-10 ^ (60:Int).toNat+1 else m/7%13-6,m/91%13-6)
theorem x9(b:-M60<x)(a:x<M60):x.natAbs<10 ^ 60:=by
 have e:M60=((10 ^ 60:Nat)):=by decide+kernel
 generalize (10 ^ 60)=m at *;lia
theorem pN:(1000000000000:Int)<=M60:=by decide+kernel
theorem Hh(m):B60 (ptN m):=by
 have hb:=pN;refine⟨?_,x9 (by show -M60<m/91%13-6;lia) (by show m/91%13-6<M60;lia)⟩;show (if m/3%4=1 then m*(37*10 ^ (58:Int).toNat+48271)%(2*M60-1)-M60+1 else m/7%13-6).natAbs<10 ^ 60;split
 .have b:=Ng (m*(37*10 ^ (58:Int).toNat+48271)) (show 2*M60-1≠0 by lia);have a:=Mw (m*(37*10 ^ (58:Int).toNat+48271)) (show 0<2*M60-1 by lia);generalize m*(37*10 ^ (58:Int).toNat+48271)%(2*M60-1)=z at *;exact x9 (by lia) (by lia)
 .exact x9 (by lia) (by lia)
theorem v_(n)(a:0<=n)(b:n<2147483647):∀i,0<=itN i n/\itN i n<2147483647
 |0=>⟨a,b⟩
 |i+1=>by unfold itN;lia
noncomputable def Hg(n:Int):Nat:=(1+n%5).toNat
noncomputable def kg(n:Int):List P2:=(J3 (Hg n)).map λi=>ptN (itN (i+1) n)
theorem jy(n):1<=(kg n).length/\(kg n).length<=5:=by unfold kg Hg;simp;lia
theorem mE(n):∀p∈kg n,B60 p:=λp a=>by
 obtain⟨i,_,rfl⟩:=Jb.mp a;exact Hh _
def Bu:List U->Out->Prop:=λa o=>∃n:Int,a=[.int n]/\0<=n/\n<2147483647/\o=.new ((kg n).map pu)
theorem gY:OkD P w base T.aaR 1 (Bu):=by
 refine okD bM (by walk_at"ln") ?_;rintro _ _ _ p ⟨n,rfl,h0,f,rfl⟩;refine ae (m_ (i:=1) bM.nd rfl (Or.inl rfl) (cn a_) ?_);refine ae (fh (λi:Nat=>[some (.val (.int (itN i n))),some (.own (((J3 i).map λj=>ptN (itN (j+1) n)).map pu)),none,none,none]) (λi j=>i=j) rfl PassesOwn.never (ie rfl T.aaC (ag (b_ af (b6 (aa 0 rfl) af (by walk_at"mod"))) aj bh) (by lia) (by lia)) ?h0 ?hs ?hd)
 case h0=>exact⟨0,rfl,rfl,rfl,trivial⟩
 case hs=>
  rintro s i x _ g rfl;obtain⟨t,rfl⟩:=df g;obtain⟨v,m⟩:=v_ n h0 f i;obtain⟨o,u⟩:=v_ n h0 f (i+1);have r:Sz 64 (itN i n):=by unfold Sz;lia
  refine⟨_,(ft (i:=2) bM.nd rfl (Or.inl rfl)),?_⟩;have a:(((J3 i).map λj=>ptN (itN (j+1) n)).map pu).length<=1000:=by simp;lia
  have b:∀{x y},ptN (itN (i+1) n)=(x,y)->((J3 i).map λj=>ptN (itN (j+1) n)).map pu++[pt x y]=((J3 (i+1)).map λj=>ptN (itN (j+1) n)).map pu:=λ{x y} e=>by
   rw[Q2,Kt,Kt];simp only[JF,Sx];rw[e]
  refine ae (aB 0 bM.nd (b6 (bo (aa 0 rfl) af (by walk_at"mul")) af (by walk_at"mod")) ?_);rw[show itN i n*16807%2147483647=itN (i+1) n from rfl];refine ae (aB 3 bM.nd (bp (b6 (cV (aa 0 rfl) af (by walk_at"div")) af (by walk_at"mod")) af) ?_);refine ae (aB 4 bM.nd (bp (b6 (cV (aa 0 rfl) af (by walk_at"div")) af (by walk_at"mod")) af) ?_);by_cases c:itN (i+1) n/3%4=1
  .refine ae (bz (am bw (b6 (cV (aa 0 rfl) af (by walk_at"div")) af (by walk_at"mod")) af) (decide_eq_true c) ?_);refine ae (aB 3 bM.nd (b_ (bp (b6 (bo (aa 0 rfl) (b_ (bo af (mQ af af ⟨by decide,by decide,by decide⟩) (by walk_at"mul")) af) (by walk_at"mul")) (bp (bo af (mQ af af ⟨by decide,by decide,by decide⟩) (by walk_at"mul")) af) (by decide+kernel)) (mQ af af ⟨by decide,by decide,by decide⟩)) af) (au ?_));refine ae (eN 1 rfl (bF (ao (aa 3 rfl) (ao (aa 4 rfl) a_ ai) ai)) (ax a) (au ?_));refine⟨i+1,rfl,rfl,?_,trivial⟩;exact congrArg (λl=>some (Sl.own l)) (b (by unfold ptN;rw[if_pos c]))
  .refine ae (aG (am bw (b6 (cV (aa 0 rfl) af (by walk_at"div")) af (by walk_at"mod")) af) (decide_eq_false c) (au ?_));refine ae (eN 1 rfl (bF (ao (aa 3 rfl) (ao (aa 4 rfl) a_ ai) ai)) (ax a) (au ?_));refine⟨i+1,rfl,rfl,?_,trivial⟩;exact congrArg (λl=>some (Sl.own l)) (b (by unfold ptN;rw[if_neg c]))
 case hd=>
  rintro q k d h;refine c4 ?_ h;rw[cR]at d;subst d;refine ae (lR 1 rfl ?_);exact rfl
noncomputable def mvA(n:Int):Int:=n%7-3
noncomputable def mvE(n:Int):Int:=n/7%3*(5*10 ^ (59:Int).toNat)-n
def vn:List U->Out->Prop:=λa o=>∃n:Int,a=[.int n]/\0<=n/\n<2147483647/\o=.val (if n/21%2=1 then mv (mvA n) 1 1 0 (mvE n) n else mv 1 (mvA n) 0 1 (mvE n) n)
theorem jB:OkD P w base T.aba 1 (vn):=by
 refine okD gh (by walk_at"ln") ?_;rintro _ _ _ c ⟨n,rfl,d,b,rfl⟩;refine ae (aB 1 gh.nd (bp (b6 (aa 0 rfl) af (by walk_at"mod")) af) ?_);refine ae (aB 2 gh.nd (bp (bo (b6 (cV (aa 0 rfl) af (by walk_at"div")) af (by walk_at"mod")) (bo af (mQ af af ⟨by decide,by decide,by decide⟩) (by walk_at"mul")) (by walk_at"mul")) (aa 0 rfl)) ?_);by_cases a:n/21%2=1
 .rw[if_pos a];refine ae (bz (am bw (b6 (cV (aa 0 rfl) af (by walk_at"div")) af (by walk_at"mod")) af) (decide_eq_true a) ?_);refine ae (aO (bF (ao (aa 1 rfl) (ao af (ao af (ao af (ao (aa 2 rfl) (ao (aa 0 rfl) a_ ai) ai) aU) aU) aU) ai)) ?_);exact rfl
 .rw[if_neg a];refine ae (aG (am bw (b6 (cV (aa 0 rfl) af (by walk_at"div")) af (by walk_at"mod")) af) (decide_eq_false a) (au ?_));refine ae (aO (bF (ao af (ao (aa 1 rfl) (ao af (ao af (ao (aa 2 rfl) (ao (aa 0 rfl) a_ ai) ai) aU) aU) ai) aU)) ?_);exact rfl
noncomputable def tmN(n:Int):Int:=if n%4=1 then n*10 ^ (30:Int).toNat/7 else n/4%7-3
def BV:List U->Out->Prop:=λa o=>∃n:Int,a=[.int n]/\0<=n/\n<2147483647/\o=.val (.int (tmN n))
theorem ix:OkD P w base T.aa1 1 (BV):=by
 refine okD nP (by walk_at"ln") ?_;rintro _ _ _ d ⟨n,rfl,e,b,rfl⟩;have c:Sz 64 n:=by unfold Sz;lia
 unfold tmN;by_cases a:n%4=1
 .rw[if_pos a];refine ae (bz (am bw (b6 (aa 0 rfl) af (by walk_at"mod")) af) (decide_eq_true a) ?_);refine ae (aO (cV (bo (aa 0 rfl) (mQ af af ⟨by decide,by decide,by decide⟩) (by walk_at"mul")) af (by walk_at"div")) ?_);exact rfl
 .rw[if_neg a];refine ae (aG (am bw (b6 (aa 0 rfl) af (by walk_at"mod")) af) (decide_eq_false a) (au ?_));refine ae (aO (bp (b6 (cV (aa 0 rfl) af (by walk_at"div")) af (by walk_at"mod")) af) ?_);exact rfl
def ze:List U->Out->Prop:=λa o=>∃l:List P2,a=[lp l]/\(∀p∈l,B60 p)/\l.length<=61/\o=.val (sT (jn (l.map ptD)))
theorem fo:OkD P w base T.aaZ 1 (ze):=by
 refine okD e_ (by walk_at"ln") ?_;rintro _ _ _ n ⟨l,rfl,hb,f,rfl⟩;refine ae (aO (nk (l:=l.map λp=>T' (ptD p)) aw ?ej ce (vt hb f)) ?_)
 case ej=>
  rw[<-He];refine EvN.ev ?_;refine (bP (ys:=(l.map λp=>sT (ptD p))) rfl (blk (ah fY) ["points","x","y"] [1,2] rfl rfl rfl rfl (by decide+kernel)) (EvI.z (bY (aa 0 rfl) (.inl rfl))) (λ_ _ _ _=>eK rfl (aM (aE (i:=1) e_.nd rfl (Or.inl rfl)) (aM (aE (i:=2) e_.nd rfl (Or.inl rfl)) cw))) (di (js:=[1,2]) (by decide)) ?clen ?csz ?dom ?celt)
  case clen=>simp
  case csz=>rw[IM];exact Ja (ax (by lia))
  case dom=>
   intro x a;obtain⟨i,g⟩:=JL.mp a;obtain⟨p,d,c,rfl⟩:=iZ g;exact⟨_,rfl,rfl⟩
  case celt=>
   intro C k o m j x y a hy;obtain⟨p,d,c,rfl,rfl⟩:=bT a hy;have hb:=hb p c;have h:=zr (J6 hb.1 (show 10 ^ 60<10 ^ 62 by decide+kernel));have e:=zr (J6 hb.2 (show 10 ^ 60<10 ^ 62 by decide+kernel));have l1:=dh (by decide) hb.1;have l2:=dh (by decide) hb.2;have b:(Str.ofString ",":Str).length=1:=rfl;show Ev _ _ _ _ _ (.str (T' (ptD p)));rw[show T' (ptD p)=Str.ofString (Pd p.1)++(Str.ofString ",":Str)++Str.ofString (Pd p.2) by rw[mr,mr,rV];rfl];exact (bv (bv (dP (iX h) rfl T.aaT Pk (ag (aa 1 rfl) aj ai)) aw (by rw[b,mr,bC];exact Ja (ax (by lia)))) (dP (iX e) rfl T.aaT Pk (ag (aa 2 rfl) aj ai)) (by rw[lg,b,mr,mr,bC,bC];exact Ja (ax (by lia))))
 rw[show (l.map λp=>T' (ptD p))=(l.map ptD).map T' by rw[JP];rfl];refine congrArg (λz=>Out.val (.str z)) ?_;exact CA (l.map ptD)
def yE:List U->Out->Prop:=λc o=>∃a b:Int,c=[.int a,.int b]/\o=.val (.int (Rq a b))
theorem yD(a):(if a<0 then -a else a)=(a.natAbs:Int):=by split <;>lia
theorem k9:OkD P w base T.aaI 1 (yE):=by
 refine okD cM (by walk_at"ln") ?_;rintro _ _ _ g ⟨a,b,rfl,rfl⟩;refine ae (aB 0 cM.nd (ay kN rfl T.aa2 PyProof.Rows.boot_abs (ag (aa 0 rfl) aj ai)) ?_);refine ae (aB 1 cM.nd (ay kN rfl T.aa2 PyProof.Rows.boot_abs (ag (aa 1 rfl) aj ai)) ?_);rw[yD,yD];refine ae (gK (λq:Nat×Nat=>[some (.val (.int q.1)),some (.val (.int q.2))]) (λm q=>m=q.2/\Nat.gcd q.1 q.2=Rq a b) PassesOwn.never ?h0 ?hs)
 case h0=>exact⟨_,(a.natAbs,b.natAbs),⟨rfl,rfl⟩,rfl,rfl,trivial⟩
 case hs=>
  rintro m ⟨x,y⟩ ⟨d,c⟩;refine⟨decide (0<(y:Int)),(am fc (aa 1 rfl) af),λh=>?_,λh f e=>?_⟩
  .have hy:=dTb h;refine ae (GA (i:=0) (j:=1) rfl cM.nd rfl rfl (by decide) rfl rfl (ag (aa 1 rfl) (ag (b6 (aa 0 rfl) (aa 1 rfl) (by walk_at"mod")) aj bh) ai) rfl (au ?_));refine⟨x%y,(y,x%y),by rw[d];exact KC _ (by lia),⟨rfl,?_⟩,?_,?_,trivial⟩
   .rw[<-c,UB y,<-Nat.gcd_rec,UB]
   .rfl
   .exact congrArg (λz=>some (Sl.val (.int z))) (by simp)
  .have hy:y=0:=by have:=dFb h;lia
   refine c4 ?_ e;refine ae (aO (aa 0 rfl) ?_);subst hy;exact vIO (by rw[<-c];simp)
theorem vF(a:l≠[])(h:l.length<3):nX l/2+1=nD l:=by
 unfold nD;rw[if_pos h];rcases (show l.length=1\/l.length=2 by have:=JK.mpr a;lia) with e |e
 .obtain⟨A,rfl⟩:=L2.len1 e;have:nX [A]=gst (A,A):=by simp[nX,sdl,nxt,gp]
  rw[this];show gst (A,A)/2+1=gst (A,A)+1;unfold gst;simp
 .obtain⟨A,B,rfl⟩:=L2.len2 e;have:nX [A,B]=gst (A,B)+gst (B,A):=by simp[nX,sdl,Q2,nxt,gp]
  rw[this,Ao A B];show (gst (A,B)+gst (A,B))/2+1=gst (A,B)+1;lia
def yf:List U->Out->Prop:=λa o=>∃l:List P2,a=[lp l]/\l.Nodup/\l≠[]/\l.length<64/\o=.val (.int (nD l))
theorem sq:OkD P w base T.abj 2 (yf):=by
 refine okD eX (by walk_at"ln") ?_;rintro _ _ _ h ⟨l,rfl,f,k,m,rfl⟩;have a:((l.map pu).length:Int)=(l.length:Int):=by rw[IM]
 refine ae (aB 1 eX.nd af ?_);refine ae (fh (λi:Nat=>[some (.val (lp l)),some (.val (.int (((J3 i).map λj=>gst (prv l j,gp l j)).sum))),none]) (λi j=>i=j) rfl PassesOwn.never (ie rfl T.aaC (ag (ay (ci rfl) rfl T.aah JH (ag (aa 0 rfl) aj ai)) aj aR) (by rw[a];lia) (by rw[a];lia)) ?h0 ?hs ?hd)
 case h0=>exact⟨0,rfl,rfl,rfl,trivial⟩
 case hs=>
  rintro p i x _ e rfl;obtain⟨n,rfl⟩:=df e;have b:i<l.length:=by rw[a]at n;lia
  refine⟨_,(ft (i:=2) eX.nd rfl (Or.inl rfl)),?_⟩;refine ae (aB 1 eX.nd (b_ (aa 1 rfl) (bx (k9 T) h (ag (bp (aD (aD (aa 0 rfl) (aa 2 rfl) rfl (sr (i:=i) (by lia) b)) af rfl rfl) (aD (aD (aa 0 rfl) (bp (aa 2 rfl) af) rfl (pS b)) af rfl rfl)) (ag (bp (aD (aD (aa 0 rfl) (aa 2 rfl) rfl (sr (i:=i) (by lia) b)) af rfl rfl) (aD (aD (aa 0 rfl) (bp (aa 2 rfl) af) rfl (pS b)) af rfl rfl)) aj bh) bh) ⟨_,_,rfl,rfl⟩)) (au ?_));refine⟨i+1,rfl,rfl,?_,trivial⟩;exact congrArg (λz=>some (Sl.val (.int z))) (by rw[Q2,Kt,JF,Sx,AG];rfl)
 case hd=>
  rintro q o c g;refine c4 ?_ g;rw[cR,a,show ((l.length:Int)).toNat=l.length by lia]at c
  subst c;rw[show ((J3 l.length).map λj=>gst (prv l j,gp l j)).sum=nX l by rw[<-Dt f];unfold pvl;rw[JP];rfl];by_cases d:l.length<3
  .refine ae (bz (am fB (ay (ci rfl) rfl T.aah JH (ag (aa 0 rfl) aj ai)) af) (by rw[a];exact decide_eq_true (by lia)) ?_);refine ae (aO (b_ (cV (aa 1 rfl) af (by walk_at"div")) af) ?_);exact vIO (vF k d)
  .refine ae (aG (am fB (ay (ci rfl) rfl T.aah JH (ag (aa 0 rfl) aj ai)) af) (by rw[a];exact decide_eq_false (by lia)) (au ?_));refine ae (aO (aa 1 rfl) ?_);exact vIO (by unfold nD;rw[if_neg d])
def yN:List U->Out->Prop:=λa o=>∃l:List P2,a=[lp l]/\l.Nodup/\l.length<64/\(∀p∈l,Szp 1000 p)/\o=.val (.int (area l))
theorem nU:OkD P w base T.aa0 1 (yN):=by
 refine okD iz (by walk_at"ln") ?_;rintro _ _ _ p ⟨l,rfl,d,f,sz,rfl⟩;have b:((l.map pu).length:Int)=(l.length:Int):=by rw[IM]
 refine ae (aO (ay (ue rfl (ns:=(pvl l).map crs)) rfl T.abH boot_sum (ag (EvN.ev (bP (ys:=(((pvl l).map crs).map U.int)) rfl (blk (ah gv) ["land","k"] [1] rfl rfl rfl rfl (by decide+kernel)) (EvI.z (ie rfl T.aaC (ag (ay (ci rfl) rfl T.aah JH (ag (aa 0 rfl) aj ai)) aj aR) (by rw[b];lia) (by rw[b];lia))) (λ_ _ _ _=>aE (i:=1) iz.nd rfl (Or.inl rfl)) (bR (by decide)) ?clen ?csz (λ_ _=>trivial) ?celt)) aj ce)) ?_)
 case clen=>rw[cR,b,IM,IM,CG];lia
 case csz=>rw[cR,b];exact Ja (ax (by lia))
 case celt=>
  intro C h r k j x y c hy;obtain⟨g,rfl⟩:=df c;have a:j<l.length:=by rw[b]at g;lia
  have e:(pvl l)[j]?=some (prv l j,gp l j):=by unfold pvl;rw[I0,Lh a];rfl
  rw[I0,I0,e]at hy;cases hy;have n:=(sz _ (dJ a)).1;have o:=(sz _ (dJ a)).2;have q:=(sz _ (wz a)).1;have m:=(sz _ (wz a)).2;exact (bp (bo (aD (aD (aa 0 rfl) (bp (aa 1 rfl) af) rfl (pS a)) af rfl rfl) (aD (aD (aa 0 rfl) (aa 1 rfl) rfl (sr (i:=j) (by lia) a)) af rfl rfl) (by walk_at"mul")) (bo (aD (aD (aa 0 rfl) (bp (aa 1 rfl) af) rfl (pS a)) af rfl rfl) (aD (aD (aa 0 rfl) (aa 1 rfl) rfl (sr (i:=j) (by lia) a)) af rfl rfl) (by walk_at"mul")))
 exact vIO (rq ((sC d).map crs))
noncomputable def jM(l m:List P2):List P2:=m.flatMap λq=>l.map λp=>plus p q
theorem rD:z∈jM l m↔z∈iO l m:=by
 unfold jM;rw[dz,SR];constructor
 .rintro ⟨q,a,c⟩;obtain⟨p,b,rfl⟩:=Jb.mp c;exact⟨p,b,q,a,rfl⟩
 .rintro ⟨p,b,q,a,rfl⟩;exact⟨q,a,Jb.mpr ⟨p,b,rfl⟩⟩
theorem oV(l m):av (jM l m)=av (iO l m):=ww λ_=>rD
theorem ya{l m:List P2}(h:m[i]?=some q):jM l (m.take (i+1))=jM l (m.take i)++l.map λp=>plus p q:=by
 unfold jM;rw[L7,h,List.flatMap_append];simp
theorem nA(l):∀m,(jM l m).length=m.length*l.length
 |[]=>by simp[jM]
 |q::m=>by
  have:=nA l m;unfold jM at *;rw[List.flatMap_cons,Jl,this,IM,Ji,Ru];lia
theorem B6(c:∀p∈l,Szp 200 p)(a:∀p∈m,Szp 200 p):∀z∈jM l m,Szp 210 z:=λz e=>by
 obtain⟨p,d,q,b,rfl⟩:=dz.mp (rD.mp e);exact⟨(L2.Sz.add' (c p d).1 (a q b).1).mono (by decide),(L2.Sz.add' (c p d).2 (a q b).2).mono (by decide)⟩
def w_:List U->Out->Prop:=λa o=>∃l m:List P2,a=[lp l,lp m]/\l.length<=60/\m.length*l.length<=100/\(∀p∈l,Szp 200 p)/\(∀p∈m,Szp 200 p)/\o=.new ((av (jM l m)).map pu)
theorem qo:OkD P w base T.abb 4 (w_):=by
 refine okD cZ (by walk_at"ln") ?_;rintro _ _ _ f ⟨l,m,rfl,s,u,c,g,rfl⟩;refine ae (aB 2 cZ.nd (EvN.ev (cn a_)) ?_);refine ae (fh (λi:Nat=>[some (.val (lp l)),some (.val (lp m)),some (.val (lp (jM l (m.take i)))),none,none]) (λi j=>i=j) rfl PassesOwn.never (bY (aa 1 rfl) (.inl rfl)) ?h0 ?hs ?hd)
 case h0=>exact⟨0,rfl,rfl,rfl,rfl,trivial⟩
 case hs=>
  rintro v i x _ b rfl;obtain⟨q,a,A,rfl⟩:=iZ b;have D:=aN a;have step:=ya (l:=l) a;have d:=nA l (m.take i);have o:(m.take i).length*l.length<=m.length*l.length:=NJ _ (by rw[Mq];lia);refine⟨_,(ft (i:=3) cZ.nd rfl (Or.inr rfl)),?_⟩;refine ae (aB 2 cZ.nd (EvN.ev (mV (aa 2 rfl) (EvN.ev (bP (ys:=(l.map λp=>pu (plus p q))) rfl (blk (ah gQ) ["one","other","found","q","p"] [4] rfl rfl rfl rfl (by decide+kernel)) (EvI.z (bY (aa 0 rfl) (.inl rfl))) (λ_ _ _ _=>aE (i:=4) cZ.nd rfl (Or.inl rfl)) (bR (by decide)) ?clen ?csz (λ_ _=>trivial) ?celt)) (by rw[IM,IM,d];exact Ja (ax (by lia))))) (au ?_))
  case clen=>simp
  case csz=>rw[IM];exact Ja (ax (by lia))
  case celt=>
   intro C k t n j x y b hy;obtain⟨p,r,B,rfl,rfl⟩:=bT b hy;exact (bF (ao (b_ (aD (aa 4 rfl) af rfl rfl) (aD (aa 3 rfl) af rfl rfl)) (ao (b_ (aD (aa 4 rfl) af rfl rfl) (aD (aa 3 rfl) af rfl rfl)) a_ bh) bh))
  refine⟨i+1,rfl,rfl,rfl,?_,trivial⟩;refine congrArg (λz=>some (Sl.val (.lst z))) ?_;rw[step,Kt,JP];rfl
 case hd=>
  rintro q h a e;refine c4 ?_ e;have:q=m.length:=by rw[IM]at a;lia
  subst this;rw[Kq (IV _)];have d:=nA l m;refine ae (cD (dy (cL T) f (ag (aa 2 rfl) aj ai) ⟨jM l m,rfl,g9 (by decide) (B6 c g),by lia,rfl⟩) ?_);exact rfl
structure MvN(n a b c d e f:Int):Prop where
 sp:vn [.int n] (.val (mv a b c d e f))
 u:a*d-b*c=1\/a*d-b*c=-1
 sm:a.natAbs<10 ^ 9/\b.natAbs<10 ^ 9/\c.natAbs<10 ^ 9/\d.natAbs<10 ^ 9
 e6:e.natAbs<10 ^ 60
 f6:f.natAbs<10 ^ 60
theorem Eb(c:0<=n)(b:n<2147483647):(mvE n).natAbs<10 ^ 60:=by
 have e:(5*10 ^ (59:Int).toNat:Int) *2=M60:=by decide+kernel
 have hb:=pN;refine x9 ?_ ?_
 .unfold mvE;have a:0<=n/7%3:=by lia
  have:0<=n/7%3*(5*10 ^ (59:Int).toNat):=Kp a (by decide);lia
 .unfold mvE;have a:n/7%3=0\/n/7%3=1\/n/7%3=2:=by lia
  rcases a with h |h |h
  .rw[h,Ux];lia
  .rw[h,Int.one_mul];lia
  .rw[h,SD,e];have:0<n:=by lia
   lia
theorem Ec(h:0<=n)(g:n<2147483647):∃a b c d e f,MvN n a b c d e f:=by
 have i:n.natAbs<10 ^ 60:=by
  have:(2147483647:Nat)<10 ^ 60:=by decide
  lia
 have ha:(mvA n).natAbs<10 ^ 9:=by unfold mvA;lia
 by_cases j:n/21%2=1
 .exact⟨mvA n,1,1,0,mvE n,n,⟨n,rfl,h,g,by rw[if_pos j]⟩,.inr (by lia),⟨ha,by decide,by decide,by decide⟩,Eb h g,i⟩
 .exact⟨1,mvA n,0,1,mvE n,n,⟨n,rfl,h,g,by rw[if_neg j]⟩,.inl (by lia),⟨by decide,ha,by decide,by decide⟩,Eb h g,i⟩
theorem MvN.one(h:MvN n a b c d e f)(k:MvN n a' b' c' d' e' f'):a=a'/\b=b'/\c=c'/\d=d'/\e=e'/\f=f':=by
 obtain⟨m,i,_,_,g⟩:=h.sp;obtain⟨o,j,_,_,l⟩:=k.sp;cases i;cases j;cases g.trans l.symm;exact⟨rfl,rfl,rfl,rfl,rfl,rfl⟩
theorem tF(h:x.natAbs<10 ^ 60):Sz 200 x:=J6 h (by decide+kernel)
theorem n9s(h:x.natAbs<10 ^ 9):Sz 30 x:=J6 h (by decide+kernel)
theorem yP(h:B60 p):Szp 200 p:=⟨tF h.1,tF h.2⟩
theorem MvN.ap{n a b c d e f:Int}(h:MvN n a b c d e f){p:P2}(i:Szp 200 p):Szp 300 (ap a b c d e f p):=by
 obtain⟨k,o,m,q⟩:=h.sm;have g:∀{x y z:Int},Sz 30 x->Sz 30 y->Sz 200 z->Sz 300 (x*p.1+y*p.2+z):=λl j sz=>(L2.Sz.add' (L2.Sz.add' (L2.Sz.mul l i.1) (L2.Sz.mul j i.2)) sz).mono (by decide);exact⟨g (n9s k) (n9s o) (tF h.e6),g (n9s m) (n9s q) (tF h.f6)⟩
theorem CZ(a:0<=n)(c:n<2147483647):(tmN n).natAbs<10 ^ 60:=by
 have hb:=pN;unfold tmN;split
 .have e:(2147483647:Int) *10 ^ (30:Int).toNat<M60:=by decide+kernel
  have d:(0:Int)<10 ^ (30:Int).toNat:=by decide+kernel
  have f:0<=n*10 ^ (30:Int).toNat:=Kp a (by lia);have b:n*10 ^ (30:Int).toNat<=2147483647*10 ^ (30:Int).toNat:=Int.mul_le_mul_of_nonneg_right (by lia) (by lia);generalize n*10 ^ (30:Int).toNat=z at *;generalize (10:Int) ^ (30:Int).toNat=y at *;exact x9 (by lia) (by lia)
 .exact x9 (by lia) (by lia)
inductive Mde (n:Int):Int->List P2->U->List P2->Prop
 |mov {l:List P2}{u:U}{a b c d e f:Int}:MvN n a b c d e f->Mde n 2 l u (av (l.map (ap a b c d e f)))
 |fld {l:List P2}{u:U}:Mde n 3 l u (av (l.map (scl (tmN n))))
 |sum {l m:List P2}:m.length*l.length<=100->(∀p∈m,B60 p)->Mde n 4 l (lp m) (av (jM l m))
def yK:List U->Out->Prop:=λb o=>∃(a n:Int) (l:List P2) (u:U) (r:List P2),b=[.int a,.int n,lp l,u]/\0<=n/\n<2147483647/\l.length<=60/\(∀p∈l,B60 p)/\Mde n a l u r/\o=.new (r.map pu)
theorem qv:OkD P w base T.abc 5 (yK):=by
 refine okD ba (by walk_at"ln") ?_;rintro _ _ _ t ⟨R,n,l,u,r,rfl,I,E,M,hb,Q,rfl⟩;have o:∀p∈l,Szp 200 p:=λp g=>yP (hb p g);cases Q with
 | @mov _ _ a b c d e f h=>
  refine ae (bz (am bw (aa 0 rfl) af) (decide_eq_true rfl) ?_);refine ae (zD (bx (jB T) t (ag (aa 1 rfl) aj ai) h.sp) (G6 [4,5,6,7,8,9] rfl (aM (aE (i:=4) ba.nd rfl (Or.inr rfl)) (aM (aE (i:=5) ba.nd rfl (Or.inr rfl)) (aM (aE (i:=6) ba.nd rfl (Or.inr rfl)) (aM (aE (i:=7) ba.nd rfl (Or.inr rfl)) (aM (aE (i:=8) ba.nd rfl (Or.inr rfl)) (aM (aE (i:=9) ba.nd rfl (Or.inr rfl)) cw)))))) rfl) ?_);obtain⟨D,G,F,H⟩:=h.sm;have D:=n9s D;have G:=n9s G;have F:=n9s F;have H:=n9s H;refine ae (cD (dy (cL T) t (ag (EvN.ev (bP (ys:=(l.map λp=>pu (ap a b c d e f p))) rfl (blk (ah eU) ["way","number","one","other","a","b","c","d","e","f","x","y","times_v"] [10,11] rfl rfl rfl rfl (by decide+kernel)) (EvI.z (bY (aa 2 rfl) (.inl rfl))) (λ_ _ _ _=>eK rfl (aM (aE (i:=10) ba.nd rfl (Or.inl rfl)) (aM (aE (i:=11) ba.nd rfl (Or.inl rfl)) cw))) (di (js:=[10,11]) (by decide)) ?clen ?csz ?dom ?celt)) aj ce) ⟨l.map (ap a b c d e f),by rw[lp,JP];rfl,λp g=>by obtain⟨q,v,rfl⟩:=Jb.mp g;exact (h.ap (o q v)).mono (by decide),by rw[IM];lia,rfl⟩) ?_)
  case clen=>simp
  case csz=>rw[IM];exact Ja (ax (by lia))
  case dom=>
   intro x k;obtain⟨i,B⟩:=JL.mp k;obtain⟨p,g,s,rfl⟩:=iZ B;exact⟨_,rfl,rfl⟩
  case celt=>
   intro C K S L j x y k hy;obtain⟨p,g,s,rfl,rfl⟩:=bT k hy;have N:=(o p s).1;have O:=(o p s).2;exact (bF (ao (b_ (b_ (bo (aa 4 rfl) (aa 10 rfl) (by walk_at"mul")) (bo (aa 5 rfl) (aa 11 rfl) (by walk_at"mul"))) (aa 8 rfl)) (ao (b_ (b_ (bo (aa 6 rfl) (aa 10 rfl) (by walk_at"mul")) (bo (aa 7 rfl) (aa 11 rfl) (by walk_at"mul"))) (aa 9 rfl)) a_ bh) bh))
  exact rfl
 |fld=>
  refine ae (aG (am bw (aa 0 rfl) af) (by decide) (au ?_));refine ae (bz (am bw (aa 0 rfl) af) (decide_eq_true rfl) ?_);have J:=tF (CZ I E);refine ae (qQ (i:=12) ba.nd rfl (Or.inr rfl) (bx (ix T) t (ag (aa 1 rfl) aj ai) ⟨n,rfl,I,E,rfl⟩) ?_);refine ae (cD (dy (cL T) t (ag (EvN.ev (bP (ys:=(l.map λp=>pu (scl (tmN n) p))) rfl (blk (ah eU) ["way","number","one","other","a","b","c","d","e","f","x","y","times_v"] [10,11] rfl rfl rfl rfl (by decide+kernel)) (EvI.z (bY (aa 2 rfl) (.inl rfl))) (λ_ _ _ _=>eK rfl (aM (aE (i:=10) ba.nd rfl (Or.inl rfl)) (aM (aE (i:=11) ba.nd rfl (Or.inl rfl)) cw))) (di (js:=[10,11]) (by decide)) ?clen ?csz ?dom ?celt)) aj ce) ⟨l.map (scl (tmN n)),by rw[lp,JP];rfl,λp g=>by obtain⟨q,v,rfl⟩:=Jb.mp g;exact (yr J (o q v)).mono (by decide),by rw[IM];lia,rfl⟩) ?_)
  case clen=>simp
  case csz=>rw[IM];exact Ja (ax (by lia))
  case dom=>
   intro x k;obtain⟨i,B⟩:=JL.mp k;obtain⟨p,g,s,rfl⟩:=iZ B;exact⟨_,rfl,rfl⟩
  case celt=>
   intro C K S L j x y k hy;obtain⟨p,g,s,rfl,rfl⟩:=bT k hy;have N:=(o p s).1;have O:=(o p s).2;exact (bF (ao (bo (aa 12 rfl) (aa 10 rfl) (by walk_at"mul")) (ao (bo (aa 12 rfl) (aa 11 rfl) (by walk_at"mul")) a_ bh) bh))
  exact rfl
 | @sum _ m U A=>
  refine ae (aG (am bw (aa 0 rfl) af) (by decide) (au ?_));refine ae (aG (am bw (aa 0 rfl) af) (by decide) (au ?_));refine ae (cD (dy (qo T) t (ag (aa 2 rfl) (ag (aa 3 rfl) aj ai) ai) ⟨l,m,rfl,M,U,o,λp g=>yP (A p g),rfl⟩) ?_);exact rfl
theorem tl0{x y:Str}(b:x.length<=m)(a:y.length<=n)(h:m+n<=9000):x.length+y.length<=sizeLine:=Ja (jU (Jy (T5 b a) h))
theorem sl0{x y:Str}(b:x.length<=m)(a:y.length<=n):(x++y).length<=m+n:=by rw[lg];exact T5 b a
theorem rT(h:∀x∈L,x.length≤c)(b:L.length*(c+1)≤8000):Sw (Str.ofString " ") L=true:=by
 have:=pI c L 0 h;unfold Sw;rw[<-Pf]
 have a:Builtin.Str.tooLong (L.foldl (λ(n:Nat) (x:Str)=>n+x.length+(Str.ofString " ":Str).length) 0)=false:=by
  unfold Builtin.Str.tooLong;rw[Lc];exact decide_eq_false (by lia)
 show (!Builtin.Str.tooLong _)=true;rw[a];rfl
inductive Ls (a:List Nat):Int->List (List Nat)->Prop
 |drop:Ls a 5 [kz,a]
 |show_:Ls a 6 [gT,a]
 |names:Ls a 7 [gC]
 |area:Ls a 8 [km,a]
 |rim:Ls a 9 [qF,a]
inductive kZ (n:Int) (y a b:List Nat):Int->List (List Nat)->Prop
 |fld {w:Int}:0<=w->w<2->kZ n y a b w (c7::y::(kg n).map ptD)
 |mov (p q r s e f:Int):MvN n p q r s e f->kZ n y a b 2 (jP::y::a::[p,q,r,s,e,f].map ds)
 |fold:kZ n y a b 3 [jS,y,a,ds (tmN n)]
 |sum:kZ n y a b 4 [lM,y,a,b]
 |ls {w:Int}{ws:List (List Nat)}:Ls a w ws->kZ n y a b w ws
theorem tx1(x y):T' (x++[32])++T' y=T' (jn [x,y]):=by rw[cP,dM _ (by simp)];simp[jn]
theorem tx2(x y)(a:r≠[]):T' (x++[32])++T' y++T' [32]++T' (jn r)=T' (jn (x::y::r)):=by
 rw[cP,cP,cP,dM _ (by simp),dM _ a];simp
theorem tx3(x y z)(a:r≠[]):T' (x++[32])++T' y++T' [32]++T' z++T' [32]++T' (jn r)=T' (jn (x::y::z::r)):=by
 rw[cP,cP,cP,cP,cP,dM _ (by simp),dM _ (by simp),dM _ a];simp
theorem BZ:(Str.ofString "field ":Str)=T' (c7++[32]):=by decide+kernel
theorem FE:(Str.ofString "move ":Str)=T' (jP++[32]):=by decide+kernel
theorem FL:(Str.ofString "fold ":Str)=T' (jS++[32]):=by decide+kernel
theorem GW:(Str.ofString "sum ":Str)=T' (lM++[32]):=by decide+kernel
theorem Gs:(Str.ofString "drop ":Str)=T' (kz++[32]):=by decide+kernel
theorem zR:(Str.ofString "show ":Str)=T' (gT++[32]):=by decide+kernel
theorem Fx:(Str.ofString "area ":Str)=T' (km++[32]):=by decide+kernel
theorem Gv:(Str.ofString "rim ":Str)=T' (qF++[32]):=by decide+kernel
theorem Cu:(Str.ofString "names":Str)=T' gC:=by decide+kernel
theorem BW:(Str.ofString " ":Str)=T' [32]:=rfl
theorem HN{w:Int}(h:Ls a w ws):atI [U.str (Str.ofString "drop "++T' a),.str (Str.ofString "show "++T' a),.str (Str.ofString "names"),.str (Str.ofString "area "++T' a),.str (Str.ofString "rim "++T' a)] (w-5)=some (sT (jn ws)):=by
 rw[Gs,zR,Fx,Gv,Cu,tx1,tx1,tx1,tx1];cases h
 .exact aW (i:=0) (by decide) rfl
 .exact aW (i:=1) (by decide) rfl
 .exact aW (i:=2) (by decide) rfl
 .exact aW (i:=3) (by decide) rfl
 .exact aW (i:=4) (by decide) rfl
def zX:List U->Out->Prop:=λe o=>∃(c n:Int) (y a b:List Nat) (d:List (List Nat)),e=[.int c,.int n,.lst [sT y,sT a,sT b]]/\0<=n/\n<2147483647/\Nm y/\Nm a/\Nm b/\kZ n y a b c d/\o=.val (sT (jn d))
theorem MvN.l6(h:MvN n p q r s e f):∀k∈[p,q,r,s,e,f],k.natAbs<10 ^ 60:=λk a=>by
 have u:∀{x:Int},x.natAbs<10 ^ 9->x.natAbs<10 ^ 60:=λi=>J6 i (by decide);obtain⟨b,d,c,g⟩:=h.sm;simp only[IT,KB,or_false]at a;rcases a with rfl |rfl |rfl |rfl |rfl |rfl
 .exact u b
 .exact u d
 .exact u c
 .exact u g
 .exact h.e6
 .exact h.f6
theorem rF:OkD P w base T.abk 2 (zX):=by
 refine okD dF (by walk_at"ln") ?_;rintro _ _ _ B ⟨G,n,y,a,b,ws,rfl,J,I,V,Q,R,hR,rfl⟩;have g:(T' y).length<=8:=by rw[bC];exact V.h8
 have m:(T' a).length<=8:=by rw[bC];exact Q.h8
 have S:(T' b).length<=8:=by rw[bC];exact R.h8
 have d:(Str.ofString " ":Str).length≤1:=by decide+kernel
 have F:(Str.ofString "field ":Str).length≤6:=by decide+kernel
 have u:(Str.ofString "move ":Str).length≤6:=by decide+kernel
 have o:(Str.ofString "fold ":Str).length≤6:=by decide+kernel
 have t:(Str.ofString "sum ":Str).length≤6:=by decide+kernel
 have cd:(Str.ofString "drop ":Str).length≤6:=by decide+kernel
 have Z:(Str.ofString "show ":Str).length≤6:=by decide+kernel
 have M:(Str.ofString "area ":Str).length≤6:=by decide+kernel
 have cr:(Str.ofString "rim ":Str).length≤6:=by decide+kernel
 refine ae (zD (aa 2 rfl) (Ex [3,4,5] rfl (aM (aE (i:=3) dF.nd rfl (Or.inl rfl)) (aM (aE (i:=4) dF.nd rfl (Or.inl rfl)) (aM (aE (i:=5) dF.nd rfl (Or.inl rfl)) cw))) (.inl rfl) rfl) ?_);cases hR with
 |fld w0 N=>
  have pl:=jy n;have D:(T' (jn ((kg n).map ptD))).length<=8200:=by rw[bC];exact rh (λw A=>by obtain⟨p,W,rfl⟩:=Jb.mp A;exact lC (mE n p W)) (by simp;lia)
  refine ae (bz (am fB (aa 0 rfl) af) (decide_eq_true N) ?_);refine ae (aO (bv (bv (bv aw (aa 3 rfl) (tl0 F g (by decide))) aw (tl0 (sl0 F g) d (by decide))) (bx (fo T) B (ag (EvN.ev (dy (gY T) B (ag (aa 1 rfl) aj ai) ⟨n,rfl,J,I,rfl⟩)) aj aR) ⟨kg n,rfl,mE n,by lia,rfl⟩) (tl0 (sl0 (sl0 F g) d) D (by decide))) ?_);rw[BZ,BW,tx2 _ _ (λz=>by have e:=congrArg P5 z;rw[IM,MR]at e;lia)]
 |mov p q r s e f h=>
  have l6:=h.l6
  have K:Txt.join (Str.ofString " ") ([p,q,r,s,e,f].map λk=>T' (ds k))=T' (jn ([p,q,r,s,e,f].map ds)):=by
   rw[<-CA,JP];rfl
  have D:(Txt.join (Str.ofString " ") ([p,q,r,s,e,f].map λk=>T' (ds k))).length≤8200:=by
   rw[K,bC];exact rh (λw A=>by obtain⟨k,v,rfl⟩:=Jb.mp A;exact Jy (dh (by decide) (l6 k v)) (by decide)) (by simp)
  have O:Sw (Str.ofString " ") ([p,q,r,s,e,f].map λk=>T' (ds k))=true:=rT (c:=61) (λx E=>by obtain⟨k,v,rfl⟩:=Jb.mp E;rw[bC];exact dh (by decide) (l6 k v)) (by simp);refine ae (aG (am fB (aa 0 rfl) af) (by decide) (au ?_));refine ae (bz (am bw (aa 0 rfl) af) (by decide) ?_);refine ae (aO (bv (bv (bv (bv (bv aw (aa 3 rfl) (tl0 u g (by decide))) aw (tl0 (sl0 u g) d (by decide))) (aa 4 rfl) (tl0 (sl0 (sl0 u g) d) m (by decide))) aw (tl0 (sl0 (sl0 (sl0 u g) d) m) d (by decide))) (nk (l:=[p,q,r,s,e,f].map λk=>T' (ds k)) aw ?ej ce O) (tl0 (sl0 (sl0 (sl0 (sl0 u g) d) m) d) D (by decide))) ?_)
  case ej=>
   refine EvN.ev ?_;refine (bP (ys:=([p,q,r,s,e,f].map λk=>sT (ds k))) rfl (blk (ah iK) ["way","number","names","new","one","other","part"] [6] rfl rfl rfl rfl (by decide+kernel)) (EvI.z (DZ (bx (jB T) B (ag (aa 1 rfl) aj ai) h.sp))) (λ_ _ _ _=>aE (i:=6) dF.nd rfl (Or.inl rfl)) (bR (by decide)) ?clen ?csz (λ_ _=>trivial) ?celt)
   case clen=>rfl
   case csz=>exact (show 6<=sizeLine by decide+kernel)
   case celt=>
    intro C s' H' fp j x y E hy;obtain⟨k,v,Y,rfl,rfl⟩:=bT (l:=[p,q,r,s,e,f]) (f:=U.int) E hy;have H:=AW (J6 (l6 k Y) (by decide+kernel));show Ev _ _ _ _ _ (.str (T' (ds k)));rw[<-mr];exact (dP (iX H) rfl T.aaT Pk (ag (aa 6 rfl) aj ai))
  rw[K,FE,BW,tx3 _ _ _ (by simp)]
 |fold=>
  have L:=CZ J I;have H:=AW (J6 L (by decide+kernel));have X:(Str.ofString (Pd (tmN n))).length<=61:=by rw[mr,bC];exact dh (by decide) L
  refine ae (aG (am fB (aa 0 rfl) af) (by decide) (au ?_));refine ae (aG (am bw (aa 0 rfl) af) (by decide) (au ?_));refine ae (bz (am bw (aa 0 rfl) af) (by decide) ?_);refine ae (aO (bv (bv (bv (bv (bv aw (aa 3 rfl) (tl0 o g (by decide))) aw (tl0 (sl0 o g) d (by decide))) (aa 4 rfl) (tl0 (sl0 (sl0 o g) d) m (by decide))) aw (tl0 (sl0 (sl0 (sl0 o g) d) m) d (by decide))) (dP (iX H) rfl T.aaT Pk (ag (bx (ix T) B (ag (aa 1 rfl) aj ai) ⟨n,rfl,J,I,rfl⟩) aj aR)) (tl0 (sl0 (sl0 (sl0 (sl0 o g) d) m) d) X (by decide))) ?_);rw[mr,FL,BW,show T' (ds (tmN n))=T' (jn [ds (tmN n)]) from rfl,tx3 _ _ _ (by simp)]
 |sum=>
  refine ae (aG (am fB (aa 0 rfl) af) (by decide) (au ?_));refine ae (aG (am bw (aa 0 rfl) af) (by decide) (au ?_));refine ae (aG (am bw (aa 0 rfl) af) (by decide) (au ?_));refine ae (bz (am bw (aa 0 rfl) af) (by decide) ?_);refine ae (aO (bv (bv (bv (bv (bv aw (aa 3 rfl) (tl0 t g (by decide))) aw (tl0 (sl0 t g) d (by decide))) (aa 4 rfl) (tl0 (sl0 (sl0 t g) d) m (by decide))) aw (tl0 (sl0 (sl0 (sl0 t g) d) m) d (by decide))) (aa 5 rfl) (tl0 (sl0 (sl0 (sl0 (sl0 t g) d) m) d) S (by decide))) ?_);rw[GW,BW,show T' b=T' (jn [b]) from rfl,tx3 _ _ _ (by simp)]
 |ls h=>
  have A:5<=G:=by cases h <;>decide
  refine ae (aG (am fB (aa 0 rfl) af) (decide_eq_false (by lia)) (au ?_));refine ae (aG (am bw (aa 0 rfl) af) (decide_eq_false (by lia)) (au ?_));refine ae (aG (am bw (aa 0 rfl) af) (decide_eq_false (by lia)) (au ?_));refine ae (aG (am bw (aa 0 rfl) af) (decide_eq_false (by lia)) (au ?_));refine ae (aO (aD (EvN.ev (cn (ao (bv aw (aa 4 rfl) (tl0 cd m (by decide))) (ao (bv aw (aa 4 rfl) (tl0 Z m (by decide))) (ao aw (ao (bv aw (aa 4 rfl) (tl0 M m (by decide))) (ao (bv aw (aa 4 rfl) (tl0 cr m (by decide))) a_ bh) bh) aU) bh) bh))) (bp (aa 0 rfl) af) rfl (HN h)) ?_);exact rfl
structure Fl(l:List P2):Prop where
 cr:av l=l
 ne:l≠[]
 hl:l.length<=52
 b:∀p∈l,B60 p
theorem Fl.nd(h:Fl l):l.Nodup:=by rw[<-h.cr];exact cQ l
theorem Fl.sz(h:Fl l):∀p∈l,Szp 200 p:=λp a=>yP (h.b p a)
theorem Fl.fit(h:Fl l):Fit l:=⟨h.ne,by have:=h.hl;lia,h.sz,h.b⟩
structure Kpt(kvs:List (Str×U)):Prop where
 nm:∀x∈kvs,∃w,Nm w/\x.1=T' w
 fl:∀x∈kvs,∃l,x.2=lp l/\Fl l
section
variable {kvs U6:List (Str×U)}{n:Str}{u:U}{l m r:List P2}{y a b w:List Nat}{ws:List (List Nat)}
theorem Kpt.nil:Kpt []:=⟨by simp,by simp⟩
theorem Bg(h:L2.valU kvs n=some u):∃x∈kvs,x.2=u:=by
 obtain⟨x,b,a⟩:=Oe.mp h;exact⟨x,List.mem_of_find?_eq_some b,a⟩
theorem Kpt.at_(G:Kpt kvs)(h:L2.valU kvs n=some u):∃l,u=lp l/\Fl l:=by
 obtain⟨x,a,rfl⟩:=Bg h;exact G.fl x a
theorem pE(h:lp l=lp m):l=m:=by
 have:eqW (lp l) (lp m)=true:=by rw[h];exact jA 9 _ (GP m)
 rw[EA]at this;exact of_decide_eq_true this
theorem Kpt.fl_of(G:Kpt kvs)(h:L2.valU kvs n=some (lp l)):Fl l:=by
 obtain⟨m,e,F⟩:=G.at_ h;rw[pE e];exact F
theorem Kpt.put(G:Kpt kvs)(c:Nm y)(F:Fl l):Kpt (kY kvs (T' y) (lp l)):=by
 unfold kY;split
 .refine⟨λx a=>?_,λx a=>?_⟩
  .obtain⟨z,b,rfl⟩:=Jb.mp a;split
   .exact G.nm z b
   .exact G.nm z b
  .obtain⟨z,b,rfl⟩:=Jb.mp a;split
   .exact⟨l,rfl,F⟩
   .exact G.fl z b
 .refine⟨λx a=>?_,λx a=>?_⟩
  .rcases JB.mp a with k |k
   .exact G.nm x k
   .rw[Jq.mp k];exact⟨y,c,rfl⟩
  .rcases JB.mp a with k |k
   .exact G.fl x k
   .rw[Jq.mp k];exact⟨l,rfl,F⟩
theorem Kpt.drop(G:Kpt kvs):Kpt (jf kvs n):=⟨λx a=>G.nm x (JS.mp a).1,λx a=>G.fl x (JS.mp a).1⟩
theorem Cb(kvs)(n)(u):(kY kvs n u).length<=kvs.length+1:=by
 unfold kY;split
 .rw[IM];lia
 .rw[Jl];simp
theorem Bc(kvs)(n):(jf kvs n).length<=kvs.length:=QW _ _
inductive Md (n:Int) (y a b:List Nat) (kvs:List (Str×U)):Int->List (List Nat)->List P2->Prop
 |fld {w:Int}:0<=w->w<2->Md n y a b kvs w (c7::y::(kg n).map ptD) (av (kg n))
 |mde {w:Int}{ws:List (List Nat)}{r:List P2} (l:List P2):kZ n y a b w ws->L2.valU kvs (T' a)=some (lp l)->(w=4->∃m,L2.valU kvs (T' b)=some (lp m))->Mde n w l ((L2.valU kvs (T' b)).getD (.lst [])) r->Md n y a b kvs w ws r
inductive An (a:List Nat) (l:List P2):Int->List (List Nat)->List Nat->Prop
 |show_:An a l 6 [gT,a] (jn (l.map ptD))
 |area:An a l 8 [km,a] (ds (area l))
 |rim:An a l 9 [qF,a] (ds (nD l))
inductive Mrk (y:List Nat) (kvs:List (Str×U)) (r:List P2):Str->List (Str×U)->Prop
 |ok:(∀p∈r,B60 p)→Mrk y kvs r (Str.ofString "ok") (kY kvs (T' y) (lp r))
 |big:¬ (∀p∈r,B60 p)→Mrk y kvs r (Str.ofString "TooGreat") kvs
inductive Trn (n:Int) (y a b:List Nat) (kvs:List (Str×U)):Int->List (List Nat)->Str->List (Str×U)->Prop
 |names:Trn n y a b kvs 7 [gC] (Txt.join (Str.ofString " ") (srtS (kvs.map (·.1)))) kvs
 |nn {w:Int}{ws:List (List Nat)}:kZ n y a b w ws→1<w→w≠7→L2.valU kvs (T' a)=none→Trn n y a b kvs w ws (Str.ofString "NoName") kvs
 |nn4 (l:List P2):L2.valU kvs (T' a)=some (lp l)→L2.valU kvs (T' b)=none→Trn n y a b kvs 4 [lM,y,a,b] (Str.ofString "NoName") kvs
 |drop (l:List P2):L2.valU kvs (T' a)=some (lp l)→Trn n y a b kvs 5 [kz,a] (Str.ofString "ok") (jf kvs (T' a))
 |ans {w:Int}{ws:List (List Nat)} (l:List P2) (t:List Nat):L2.valU kvs (T' a)=some (lp l)->An a l w ws t->Trn n y a b kvs w ws (T' t) kvs
 |made {w:Int}{ws:List (List Nat)}{t:Str}{U6:List (Str×U)} (r:List P2):Md n y a b kvs w ws r->Mrk y kvs r t U6->Trn n y a b kvs w ws t U6
theorem Md.row{n w:Int}(h:Md n y a b kvs w ws r):kZ n y a b w ws/\w<=4/\0<=w:=by
 cases h with
 |fld e c=>exact⟨.fld e c,by lia,e⟩
 |mde _ c f g d=>
  refine⟨c,?_⟩;generalize (L2.valU kvs (T' b)).getD (.lst [])=u at d;cases d
  .exact⟨by decide,by decide⟩
  .exact⟨by decide,by decide⟩
  .exact⟨by decide,by decide⟩
theorem Trn.row{n w:Int}(h:Trn n y a b kvs w ws t U6):kZ n y a b w ws:=by
 cases h with
 |names=>exact .ls .names
 |nn h=>exact h
 |nn4=>exact .sum
 |drop=>exact .ls .drop
 |ans _ _ _ h=>
  cases h
  .exact .ls .show_
  .exact .ls .area
  .exact .ls .rim
 |made _ h=>exact h.row.1
theorem E6{n w:Int}(g:0<=n)(c:n<2147483647)(d:0<=w)(i:w<=9):∃ws,kZ n y a b w ws:=by
 rcases (show (w<2)\/w=2\/w=3\/w=4\/w=5\/w=6\/w=7\/w=8\/w=9 by lia) with h |h |h |h |h |h |h |h |h
 .exact⟨_,.fld d h⟩
 .subst h;obtain⟨p,q,r,s,e,f,M⟩:=Ec g c;exact⟨_,.mov p q r s e f M⟩
 .subst h;exact⟨_,.fold⟩
 .subst h;exact⟨_,.sum⟩
 .subst h;exact⟨_,.ls .drop⟩
 .subst h;exact⟨_,.ls .show_⟩
 .subst h;exact⟨_,.ls .names⟩
 .subst h;exact⟨_,.ls .area⟩
 .subst h;exact⟨_,.ls .rim⟩
theorem F0(d:Fl l)(c:Fl m)(h:m.length*l.length<=100):(av (iO l m)).length<=52:=by
 have g:=JK.mpr d.ne;have f:=JK.mpr c.ne;have a:=d.hl;have b:=c.hl;by_cases l1:l.length=1
 .obtain⟨s,rfl⟩:=L2.len1 l1;have:=vS s m;rw[c.cr]at this;rw[this,IM];exact b
 .by_cases e:m.length=1
  .obtain⟨s,rfl⟩:=L2.len1 e;have:=vS s l;rw[d.cr]at this;rw[EQ,this,IM];exact a
  .have t:=qK d.ne c.ne;rw[d.cr,c.cr]at t;rw[<-t];refine Jy (lF _) ?_;rw[qb];generalize l.length=i at *;generalize m.length=j at *;obtain⟨i,rfl⟩:∃k,i=k+2:=⟨i-2,by lia⟩
   obtain⟨j,rfl⟩:∃k,j=k+2:=⟨j-2,by lia⟩
   have:(j+2) *(i+2)=j*i+2*i+2*j+4:=by grind
   lia
theorem Md.fl{n w:Int}(G:Kpt kvs)(h:Md n y a b kvs w ws r):av r=r/\r≠[]/\r.length<=52:=by
 cases h with
 |fld t k=>
  have:=jy n;exact⟨fN _,fX (λz=>by rw[z]at this;simp at this),Jy (lF _) (by lia)⟩
 |mde l k i j c=>
  have F:=G.fl_of i;have a:=F.hl;generalize hu:(L2.valU kvs (T' b)).getD (.lst [])=u at c;cases c with
  |mov=>exact⟨fN _,fX (by simpa using F.ne),Jy (lF _) (by rw[IM];exact a)⟩
  |fld=>exact⟨fN _,fX (by simpa using F.ne),Jy (lF _) (by rw[IM];exact a)⟩
  | @sum _ m o hb=>
   obtain⟨s,e⟩:=j rfl;rw[e]at hu;have d:Fl m:=by rw[<-pE hu];exact G.fl_of e
   rw[oV];refine⟨fN _,fX (λz=>?_),F0 F d o⟩;obtain⟨p,f⟩:=NR _ F.ne;obtain⟨q,g⟩:=NR _ d.ne;have:=(dz).mpr ⟨p,f,q,g,rfl⟩;rw[z]at this;cases this
theorem Trn.good{n w:Int}(G:Kpt kvs)(f:Nm y)(h:Trn n y a b kvs w ws t U6):Kpt U6/\U6.length<=kvs.length+1:=by
 cases h with
 |drop=>exact⟨G.drop,Jy (Bc _ _) (by lia)⟩
 |made _ h hb=>
  obtain⟨c,d,e⟩:=h.fl G;cases hb with
  |ok hb=>exact⟨G.put f ⟨c,d,e,hb⟩,Cb _ _ _⟩
  |big _=>exact⟨G,by lia⟩
 |_=>exact⟨G,by lia⟩
theorem EH{n w:Int}(G:Kpt kvs)(k:0<=n)(j:n<2147483647)(g:0<=w)(z:w<=9)(o:w=4->∀l m,L2.valU kvs (T' a)=some (lp l)->L2.valU kvs (T' b)=some (lp m)->m.length*l.length<=100):∃ws t U6,Trn n y a b kvs w ws t U6:=by
 obtain⟨ws,d⟩:=E6 k j g z
 have c:∀{ws}{r},Md n y a b kvs w ws r->∃ws t U6,Trn n y a b kvs w ws t U6:=λ{ws r} h=>by
  by_cases hb:∀p∈r,B60 p
  .exact⟨_,_,_,.made r h (.ok hb)⟩
  .exact⟨_,_,_,.made r h (.big hb)⟩
 by_cases v:w<2
 .exact c (.fld g v)
 by_cases i:w=7
 .subst i;exact⟨_,_,_,.names⟩
 cases hv:L2.valU kvs (T' a) with
 |none=>exact⟨_,_,_,.nn d (by lia) i hv⟩
 |some u=>
  obtain⟨l,rfl,F⟩:=G.at_ hv;rcases (show w=2\/w=3\/w=4\/w=5\/w=6\/w=8\/w=9 by lia) with h |h |h |h |h |h |h
  .subst h;obtain⟨p,q,r,s,e,f,M⟩:=Ec k j;exact c (.mde l d hv nofun (.mov M))
  .subst h;exact c (.mde l d hv nofun .fld)
  .subst h;cases hw:L2.valU kvs (T' b) with
   |none=>exact⟨_,_,_,.nn4 l hv hw⟩
   |some u=>
    obtain⟨m,rfl,x⟩:=G.at_ hw;exact c (.mde l d hv (λ_=>⟨m,hw⟩) (by rw[hw];exact .sum (o rfl l m hv hw) x.b))
  .subst h;exact⟨_,_,_,.drop l hv⟩
  .subst h;exact⟨_,_,_,.ans l _ hv .show_⟩
  .subst h;exact⟨_,_,_,.ans l _ hv .area⟩
  .subst h;exact⟨_,_,_,.ans l _ hv .rim⟩
end
theorem Gn(b:Sz m x)(a:Sz m y):Sz (m+1) ((Rq x y:Nat):Int):=by
 refine Sz.le (y:=x.natAbs+y.natAbs) ?_ ?_
 .have:Rq x y<=x.natAbs+y.natAbs:=by
   by_cases h:x=0
   .subst h;simp
   .have:=Nat.le_of_dvd (by lia) (Int.gcd_dvd_natAbs_left x y);lia
  lia
 .refine (L2.Sz.add' (m:=m) (n:=m) ?_ ?_).mono (by lia)
  .unfold Sz at b |-;lia
  .unfold Sz at a |-;lia
theorem FZ(b:Szp m s.1)(a:Szp m s.2):Sz (m+2) (gst s):=by
 exact (Gn (m:=m+1) ((L2.Sz.sub' a.1 b.1).mono (by lia)) ((L2.Sz.sub' a.2 b.2).mono (by lia))).mono (by lia)
theorem FG(b:Szp m s.1)(a:Szp m s.2):Sz (m+m+1) (crs s):=by
 exact (L2.Sz.sub' (L2.Sz.mul b.1 a.2) (L2.Sz.mul b.2 a.1)).mono (by lia)
theorem A5:∀(l:List Int),(∀x∈l,Sz m x)->l.sum.natAbs<=l.length*2 ^ m
 |[],_=>by simp
 |a::l,h=>by
  have ih:=A5 l λx b=>h x (IS _ b);have ha:=h a IW;unfold Sz at ha;rw[Oa,Ji,Ru,Rt];omega
theorem sF{l:List Int}(h:∀x∈l,Sz m x)(a:l.length<64):Sz (m+6) l.sum:=by
 have:=A5 l h;unfold Sz;have e:2 ^ (m+6)=64*2 ^ m:=by rw[UH];lia
 have:l.length*2 ^ m<64*2 ^ m:=Nat.mul_lt_mul_of_pos_right a (Nat.two_pow_pos m);lia
theorem BS(h:∀p∈l,Szp m p)(b:l.length<64):Sz (m+m+7) (area l):=by
 refine (sF (m:=m+m+1) (λx c=>?_) (by rw[IM,jm];exact b)).mono (by lia);obtain⟨s,a,rfl⟩:=Jb.mp c;exact FG (h _ (gl a).1) (h _ (gl a).2)
theorem Fg(h:∀p∈l,Szp m p)(b:l.length<64):Sz (m+8) (nX l):=by
 refine (sF (m:=m+2) (λx c=>?_) (by rw[IM,jm];exact b)).mono (by lia);obtain⟨s,a,rfl⟩:=Jb.mp c;exact FZ (h _ (gl a).1) (h _ (gl a).2)
theorem FS(a:m<=990)(h:Sz m n):n.natAbs<10 ^ 300:=IZ (by have:=h.mono a;unfold Sz at this;omega) (by decide+kernel)
theorem Fl.area{l:List P2}(h:Fl l):(area l).natAbs<10 ^ 300:=FS (by decide) (BS h.sz (by have:=h.hl;lia))
theorem Fl.rim(h:Fl l):(nD l).natAbs<10 ^ 300:=by
 have c:=h.hl;have b:=Fg h.sz (by lia);by_cases a:l.length<3
 .rw[<-vF h.ne a];exact FS (m:=300) (by decide) ((L2.Sz.add' (L2.Sz.ediv b) (show Sz 8 (1:Int) by decide)).mono (by decide))
 .unfold nD;rw[if_neg a];exact FS (by decide) b
noncomputable def mxA(p:P2):Int:=if (if p.2<0 then -p.2 else p.2) >(if p.1<0 then -p.1 else p.1) then (if p.2<0 then -p.2 else p.2) else (if p.1<0 then -p.1 else p.1)
theorem D8(p):mxA p<10 ^ 60↔B60 p:=by
 have e:(10 ^ 60:Int)=((10 ^ 60:Nat):Int):=by decide+kernel
 unfold mxA B60;rw[e];generalize (10 ^ 60:Nat)=m;constructor
 .intro h;split at h <;>lia
 .intro h;split <;>lia
def Aq:Jt->List (Str×U)->List U->List U->Out->Prop:=λd c i g o=>∃(e n:Int) (y a b:List Nat) (h:List (List Nat)) (t:Str) (f:List (Str×U)),i=[.int e,.int n]/\g=[.lst [sT y,sT a,sT b]]/\0<=n/\n<2147483647/\Kpt c/\c.length<64/\Trn n y a b c e h t f/\o=.dsk d (.str t) f
theorem wf:∀{L},(∀x∈L,∃w,Nm w/\x=T' w)->∃a:List (List Nat),L=a.map T'/\∀w∈a,Nm w
 |[],_=>⟨[],rfl,λw f=>by cases f⟩
 |x::L,h=>by
  obtain⟨w,d,rfl⟩:=h x IW;obtain⟨a,e,c⟩:=wf (L:=L) λz b=>h z (IS _ b);refine⟨w::a,by rw[e];rfl,λz b=>?_⟩;rcases IT.mp b with k |k
  .rw[k];exact d
  .exact c z k
theorem Kpt.keys(G:Kpt kvs)(i:kvs.length<64):∃a:List (List Nat),srtS (kvs.map (·.1))=a.map T'∧(∀w∈a,Nm w)∧Sw (Str.ofString " ") (srtS (kvs.map (·.1)))=true:=by
 have f:=j5 (kvs.map (·.1))
 obtain⟨a,e,d⟩:=wf (L:=srtS (kvs.map (·.1))) λx b=>by
  obtain⟨z,g,rfl⟩:=Jb.mp (f.mem_iff.mp b);exact G.nm z g
 refine⟨a,e,d,rT (c:=8) (λx b=>?_) ?_⟩
 .rw[e]at b;obtain⟨w,h,rfl⟩:=Jb.mp b;rw[bC];exact (d w h).h8
 .have:=f.length_eq;rw[IM]at this;lia
theorem q_:bL P w K mg base (CXF P w) 6 T.aao.a T.aao.d ["way","number","lands","names"] (spL K Aq):=by
 refine Fn T.aao.F bJ (λd kvs Vz VC o h=>?_) (λcdv A R s H H1 E O d kvs Vz VC o f h=>?_)
 .obtain⟨c,n,y,a,b,ws,t,U6,rfl,rfl,_⟩:=h;rfl
 obtain⟨c,n,y,a,b,ws,t,U6,rfl,rfl,h0,h1,G,Y,J,rfl⟩:=h;refine Ws.nox ?_;refine ae (zD (aa 3 rfl) (Ex [4,5,6] rfl (aM (aE (i:=4) bJ.nd rfl (Or.inl rfl)) (aM (aE (i:=5) bJ.nd rfl (Or.inl rfl)) (aM (aE (i:=6) bJ.nd rfl (Or.inl rfl)) cw))) (.inl rfl) rfl) ?_);show Ws _ _ _ _ _ _ [some (.val (.int c)),some (.val (.int n)),some (.raw (.ref d) [] [(d,kvs)]),some (.val (.lst [sT y,sT a,sT b])),some (.val (sT y)),some (.val (sT a)),some (.val (sT b)),none,none,none];have L:([(d,kvs)].map (·.1)).Nodup:=by simp
 cases J with
 |names=>
  obtain⟨_,_,_,jo⟩:=G.keys Y;refine ae (bz (am bw (aa 0 rfl) af) (by decide) ?_);refine ae (d_ (bj (i:=2) rfl (.head _)) (nk (l:=srtS (kvs.map (·.1))) aw (EvN.ev (vG (by rfl) (by rfl) T.aau (bj (i:=2) rfl (.head _)) (cj 2 rfl) Y)) aR jo) ?_);exact rfl
 |nn hR V X g=>
  refine ae (aG (am bw (aa 0 rfl) af) (decide_eq_false X) (au ?_));refine ae (bz (Tw.t (jN (Tw.t (eE (am fc (aa 0 rfl) af) (λk=>(cU (fi (bj (i:=2) rfl (.head _)) (cj 2 rfl) (aa 5 rfl) (cG f)))))) (λk=>(fQ (Tw.t (eE (am bw (aa 0 rfl) af) (λk=>(cU (fi (bj (i:=2) rfl (.head _)) (cj 2 rfl) (aa 6 rfl) (cG f)))))))))) (by rw[g,decide_eq_true V];rfl) ?_);refine ae (d_ (bj (i:=2) rfl (.head _)) aw ?_);exact rfl
 |nn4 l g WJ=>
  refine ae (aG (am bw (aa 0 rfl) af) (by decide) (au ?_));refine ae (bz (Tw.t (jN (Tw.t (eE (am fc (aa 0 rfl) af) (λk=>(cU (fi (bj (i:=2) rfl (.head _)) (cj 2 rfl) (aa 5 rfl) (cG f)))))) (λk=>(fQ (Tw.t (eE (am bw (aa 0 rfl) af) (λk=>(cU (fi (bj (i:=2) rfl (.head _)) (cj 2 rfl) (aa 6 rfl) (cG f)))))))))) (by rw[g,WJ];rfl) ?_);refine ae (d_ (bj (i:=2) rfl (.head _)) aw ?_);exact rfl
 |drop l g=>
  refine ae (aG (am bw (aa 0 rfl) af) (by decide) (au ?_));refine ae (aG (Tw.t (jN (Tw.t (eE (am fc (aa 0 rfl) af) (λk=>(cU (fi (bj (i:=2) rfl (.head _)) (cj 2 rfl) (aa 5 rfl) (cG f)))))) (λk=>(fQ (Tw.t (eE (am bw (aa 0 rfl) af) (λk=>(cU (fi (bj (i:=2) rfl (.head _)) (cj 2 rfl) (aa 6 rfl) (cG f)))))))))) (by rw[g];rfl) (au ?_));refine ae (bz (am bw (aa 0 rfl) af) (by decide) ?_);refine ae (EK (bj (i:=2) rfl (.head _)) (mh 0 (i:=2) rfl rfl L) (cj 2 rfl) (aa 5 rfl) g ?_);refine ae (d_ (kvs:=jf kvs (T' a)) (bj (i:=2) rfl (.head _)) aw ?_);exact rfl
 |ans l t g hA=>
  have F:=G.fl_of g;have hl:=F.hl;have hw:5<c/\c≠7:=by cases hA <;>exact⟨by decide,by decide⟩
  refine ae (aG (am bw (aa 0 rfl) af) (decide_eq_false hw.2) (au ?_));refine ae (aG (Tw.t (jN (Tw.t (eE (am fc (aa 0 rfl) af) (λk=>(cU (fi (bj (i:=2) rfl (.head _)) (cj 2 rfl) (aa 5 rfl) (cG f)))))) (λk=>(fQ (Tw.t (eE (am bw (aa 0 rfl) af) (λk=>(cU (fi (bj (i:=2) rfl (.head _)) (cj 2 rfl) (aa 6 rfl) (cG f)))))))))) (by rw[g,decide_eq_false (show ¬ c=4 by lia)];simp) (au ?_));refine ae (aG (am bw (aa 0 rfl) af) (decide_eq_false (by lia)) (au ?_));refine ae (bz (am fc (aa 0 rfl) af) (decide_eq_true hw.1) ?_);refine ae (aB 7 bJ.nd (pX (bj (i:=2) rfl (.head _)) (cj 2 rfl) (aa 5 rfl) (cG f) g) ?_)
  have WZ:atI [sT (jn (l.map ptD)),U.str (Str.ofString ""),.str (Str.ofString (Pd (area l))),.str (Str.ofString (Pd (nD l)))] (c-6)=some (sT t):=by
   rw[mr,mr];cases hA
   .exact aW (i:=0) (by decide) rfl
   .exact aW (i:=2) (by decide) rfl
   .exact aW (i:=3) (by decide) rfl
  refine ae (d_ (bj (i:=2) rfl (.head _)) (aD (EvN.ev (cn (ao (bx (fo T) f (ag (aa 7 rfl) aj ai) ⟨l,rfl,F.b,by lia,rfl⟩) (ao aw (ao (dP (iX (AW F.area)) rfl T.aaT Pk (ag (bx (nU T) f (ag (aa 7 rfl) aj ai) ⟨l,rfl,F.nd,by lia,g9 (by decide) F.sz,rfl⟩) aj aR)) (ao (dP (iX (AW F.rim)) rfl T.aaT Pk (ag (bx (sq T) f (ag (aa 7 rfl) aj ai) ⟨l,rfl,F.nd,F.ne,by lia,rfl⟩) aj aR)) a_ aR) aR) aU) aR))) (bp (aa 0 rfl) af) rfl WZ) ?_);exact rfl
 |made r D Z=>
  obtain⟨hc,Ve,hrl⟩:=D.fl G;obtain⟨_,w4,w0⟩:=D.row
  have ht:((decide (c >1) && !(L2.valU kvs (T' a)).isSome) || (decide (c=4) && !(L2.valU kvs (T' b)).isSome))=false:=by
   cases D with
   |fld _ h2=>rw[decide_eq_false (show ¬ c >1 by lia),decide_eq_false (show ¬ c=4 by lia)];rfl
   |mde l _ g W _=>
    rw[g];by_cases e:c=4
    .obtain⟨m,hm⟩:=W e;rw[hm];simp
    .rw[decide_eq_false e];simp
  refine ae (aG (am bw (aa 0 rfl) af) (decide_eq_false (by lia)) (au ?_));refine ae (aG (Tw.t (jN (Tw.t (eE (am fc (aa 0 rfl) af) (λk=>(cU (fi (bj (i:=2) rfl (.head _)) (cj 2 rfl) (aa 5 rfl) (cG f)))))) (λk=>(fQ (Tw.t (eE (am bw (aa 0 rfl) af) (λk=>(cU (fi (bj (i:=2) rfl (.head _)) (cj 2 rfl) (aa 6 rfl) (cG f)))))))))) ht (au ?_));refine ae (aG (am bw (aa 0 rfl) af) (decide_eq_false (by lia)) (au ?_));refine ae (aG (am fc (aa 0 rfl) af) (decide_eq_false (by lia)) (au ?_));refine ae (aB 7 bJ.nd (EvN.ev (cn a_)) ?_);refine iW (λps=>SubP [some (.val (.int c)),some (.val (.int n)),some (.raw (.ref d) [] [(d,kvs)]),some (.val (.lst [sT y,sT a,sT b])),some (.val (sT y)),some (.val (sT a)),some (.val (sT b)),some (.val (lp r)),none,none] ps) (j_ (am fB (aa 0 rfl) af) (λJ=>?_) (λS=>?_)) ?hj
  .have w2:=dTb J;cases D with
   |fld _ _=>
    refine ae (aB 7 bJ.nd (EvN.ev (dy (cL T) f (ag (EvN.ev (dy (gY T) f (ag (aa 1 rfl) aj ai) ⟨n,rfl,h0,h1,rfl⟩)) aj aR) ⟨kg n,rfl,λp q=>(yP (mE n p q)).mono (by decide),by have:=jy n;lia,rfl⟩)) (au ?_));exact⟨rfl,rfl,rfl,rfl,rfl,rfl,rfl,rfl,trivial⟩
   |mde l _ g W N=>
    generalize (L2.valU kvs (T' b)).getD (.lst [])=u at N;cases N <;>lia
  .have w2:=dFb S;cases D with
   |fld _ _=>lia
   |mde l _ g W N=>
    have F:=G.fl_of g;have hl:=F.hl;refine ae (aB 7 bJ.nd (EvN.ev (dy (qv T) f (ag (aa 0 rfl) (ag (aa 1 rfl) (ag (pX (bj (i:=2) rfl (.head _)) (cj 2 rfl) (aa 5 rfl) (cG f) g) (ag (yR (bj (i:=2) rfl (.head _)) (cj 2 rfl) (aa 6 rfl) (EvN.ev (cn a_)) (cG f)) aj aR) aT) ai) ai) ⟨c,n,l,_,r,rfl,h0,h1,by lia,F.b,N,rfl⟩)) (au ?_));exact⟨rfl,rfl,rfl,rfl,rfl,rfl,rfl,rfl,trivial⟩
  case hj=>
   intro ps Vl;refine c4 ?_ Vl;obtain⟨M,I,v⟩:=pi (l:=r.map mxA) (by simpa using Ve)
   have B:M<10 ^ 60↔∀p∈r,B60 p:=by
    constructor
    .intro h p q;exact (D8 p).mp (Int.lt_of_le_of_lt (v _ (Jb.mpr ⟨p,q,rfl⟩)) h)
    .intro h;obtain⟨p,q,rfl⟩:=Jb.mp I;exact (D8 p).mpr (h p q)
   refine ae (j_ (am GE (ay (zW rfl (ns:=r.map mxA) ⟨I,v⟩) rfl T.abz Us (ag (EvN.ev (bP (ys:=((r.map mxA).map U.int)) rfl (blk (ah iQ) ["way","number","lands","names","new","one","other","land","x","y"] [8,9] rfl rfl rfl rfl (by decide+kernel)) (EvI.z (bY (aa 7 rfl) (.inl rfl))) (λ_ _ _ _=>eK rfl (aM (aE (i:=8) bJ.nd rfl (Or.inl rfl)) (aM (aE (i:=9) bJ.nd rfl (Or.inl rfl)) cw))) (di (js:=[8,9]) (by decide)) ?clen ?csz ?dom ?celt)) aj ce)) (mQ af af ⟨by decide,by decide,by decide⟩)) (λJ=>?_) (λS=>(au ?_)))
   case clen=>simp
   case csz=>rw[IM];exact Ja (ax (by lia))
   case dom=>
    intro x Q;obtain⟨i,hi⟩:=JL.mp Q;obtain⟨p,q,mp,rfl⟩:=iZ hi;exact⟨_,rfl,rfl⟩
   case celt=>
    intro C s' H' fp j x y Q hy;rw[JP]at hy;obtain⟨p,q,mp,rfl,rfl⟩:=bT Q hy;exact (ay (En rfl) rfl T.abz Us (ag (ay kN rfl T.aa2 PyProof.Rows.boot_abs (ag (aa 8 rfl) aj ai)) (ag (ay kN rfl T.aa2 PyProof.Rows.boot_abs (ag (aa 9 rfl) aj ai)) aj aR) aR))
   .cases Z with
    |ok hb=>exact absurd (B.mpr hb) (Int.not_lt.mpr (dTb J))
    |big hb=>
     refine ae (d_ (bj (i:=2) rfl (.head _)) aw ?_);exact rfl
   .cases Z with
    |ok hb=>
     refine ae (FX (bj (i:=2) rfl (.head _)) (mh 0 (i:=2) rfl rfl L) (cj 2 rfl) (aa 4 rfl) (aa 7 rfl) (cG f) (ax (by lia)) ?_);refine ae (d_ (kvs:=kY kvs (T' y) (lp r)) (bj (i:=2) rfl (.head _)) aw ?_);exact rfl
    |big hb=>exact absurd (B.mp (U2.mp (dFb S))) hb
theorem Cs:Pln c7:=⟨by decide+kernel,by decide+kernel⟩
theorem EN:Pln jP:=⟨by decide+kernel,by decide+kernel⟩
theorem Fa:Pln jS:=⟨by decide+kernel,by decide+kernel⟩
theorem Hk:Pln lM:=⟨by decide+kernel,by decide+kernel⟩
theorem EM:Pln gT:=⟨by decide+kernel,by decide+kernel⟩
theorem EB:Pln km:=⟨by decide+kernel,by decide+kernel⟩
theorem Hz:Pln qF:=⟨by decide+kernel,by decide+kernel⟩
structure Fst(w:List Nat):Prop where
 fr:32 ∉ w
 ln:w.length<=123
 tb:(fT dN (T' w)).isSome=true
theorem dB:∀w∈[c7,jP,jS,lM,kz,gT,gC,km,qF],Fst w:=by
 have h:∀w∈[c7,jP,jS,lM,kz,gT,gC,km,qF],32 ∉ w/\w.length<=123/\(fT dN (T' w)).isSome=true:=by decide+kernel
 exact λw a=>⟨(h w a).1,(h w a).2.1,(h w a).2.2⟩
inductive Rds (C:Jt) (kvs:List (Str×U)):List Str->List (List Nat)->List U->Prop
 |nil:Rds C kvs [] [] []
 |cons {k:Str}{w:List Nat}{g:U}{ks:List Str}{ws:List (List Nat)}{gs:List U}:32 ∉ w->w.length<=123->Rd C kvs k (T' w) (.val g)->Rds C kvs ks ws gs->Rds C kvs (k::ks) (w::ws) (g::gs)
section
variable {C:Jt}{kvs:List (Str×U)}{ks ks1 ks2:List Str}{kd:Str}{w nm wd:List Nat}{ws WU WV:List (List Nat)}{gs:List U}{u:U}
theorem Rds.ok(h:Rds C kvs ks ws gs):ks.length=ws.length/\gs.length=ws.length/\(∀x∈ws,32 ∉ x/\x.length<=123)/\∀(i:Nat) k wd g,ks[i]?=some k->ws[i]?=some wd->gs[i]?=some g->Rd C kvs k (T' wd) (.val g):=by
 induction h with
 |nil=>exact⟨rfl,rfl,by simp,λi k wd g f=>by simp at f⟩
 |cons a b c d m=>
  obtain⟨n,r,q,p⟩:=m;refine⟨by simp[n],by simp[r],λx o=>?_,λi k wd g f j l=>?_⟩
  .rcases IT.mp o with e |e
   .rw[e];exact⟨a,b⟩
   .exact q x e
  .cases i with
   |zero=>cases f;cases j;cases l;exact c
   |succ i=>exact p i k wd g f j l
theorem iL(F:Fst w)(k:fJ [.lst ((w::ws).map sT)] (.val (.lst (ks.map U.str))))(n:ws.length<=61)(h:Rds C kvs ks ws gs):Row C kvs w ws ks gs:=by
 obtain⟨d,c,b,f⟩:=h.ok;refine⟨k,λx a=>?_,λx a=>?_,n,d,c,f,F.tb⟩
 .rcases IT.mp a with e |e
  .rw[e];exact F.fr
  .exact (b x e).1
 .rcases IT.mp a with e |e
  .rw[e];exact F.ln
  .exact (b x e).2
theorem jH(F:Fst w)(k:fJ [.lst ((w::(WU++wd::WV)).map sT)] (.val (.lst ((ks1++kd::ks2).map U.str))))(n:(WU++wd::WV).length<=61)(h:Rds C kvs ks1 WU gs)(a:Rd C kvs kd (T' wd) (.exc C))(l:ks2.length=WV.length)(p:∀x∈wd::WV,32 ∉ x/\x.length<=123):HD C kvs w (WU++wd::WV) (ks1++kd::ks2) WU.length gs:=by
 obtain⟨j,r,o,m⟩:=h.ok
 have all:∀x∈WU++wd::WV,32 ∉ x/\x.length<=123:=λx a=>by
  rcases JB.mp a with e |e
  .exact o x e
  .exact p x e
 refine⟨k,λx a=>?_,λx a=>?_,n,by simp[j,l],by simp,by lia,λi c b g s f d q=>?_,λc b f d=>?_,F.tb⟩
 .rcases IT.mp a with e |e
  .rw[e];exact F.fr
  .exact (all x e).1
 .rcases IT.mp a with e |e
  .rw[e];exact F.ln
  .exact (all x e).2
 .rw[Jn (by lia)]at f d
  exact m i c b g f d q
 .rw[Jo (IV _),Ph]at d;rw[<-j,Jo (IV _),Ph]at f;cases f;cases d;exact a
theorem g_(k:gw w ks)(e:ks.length=ws.length):fJ [.lst ((w::ws).map sT)] (.val (.lst (ks.map U.str))):=.inl ⟨w,ws,ks,rfl,k,e,rfl⟩
theorem wN(n:Nm nm):32 ∉ nm/\nm.length<=123:=⟨n.free,by have:=n.h8;lia⟩
theorem rd1(n:Nm nm)(a:L2.valU kvs (T' nm)=some u)(h:Rds C kvs ks ws gs):Rds C kvs (gq::ks) (nm::ws) (u::gs):=.cons n.free (wN n).2 (.one _ _ _ (.inl rfl) a) h
theorem rdO(n:Nm nm)(a:L2.valU kvs (T' nm)=some u)(h:Rds C kvs ks ws gs):Rds C kvs (xQ::ks) (nm::ws) (u::gs):=.cons n.free (wN n).2 (.one _ _ _ (.inr rfl) a) h
theorem rdN(n:Nm nm)(h:Rds C kvs ks ws gs):Rds C kvs (gB::ks) (nm::ws) (sT nm::gs):=.cons n.free (wN n).2 (.new _ n) h
theorem DG(a:n.natAbs<10 ^ 60):32 ∉ ds n/\(ds n).length<=123:=⟨cX n (by lia),by have:=dh (by decide) a;lia⟩
theorem pL:∀{a}{b:List Int},a.length=b.length->(∀d∈a,d∈kK::kA)->(∀n∈b,n.natAbs<10 ^ 60)->Rds C kvs a (b.map ds) (b.map U.int)
 |[],[],_,_,_=>.nil
 |[],_::_,h,_,_=>by simp at h
 |_::_,[],h,_,_=>by simp at h
 |d::r,n::m,h,h1,h2=>.cons (DG (h2 n IW)).1 (DG (h2 n IW)).2 (.num _ _ (h1 d IW) (h2 n IW)) (pL (by simpa using h) (λx c=>h1 x (IS _ c)) λx c=>h2 x (IS _ c))
theorem v6:∀{pts:List P2},(∀p∈pts,B60 p)->Rds C kvs (Jw pts.length kP) (pts.map ptD) (pts.map pu)
 |[],_=>.nil
 |p::r,h=>by
  have hp:=h p IW;exact .cons (Bz p) (lC hp) (.pnt _ hp) (v6 λq a=>h q (IS _ a))
theorem wU(b:Nm nm)(c:pts≠[])(e:pts.length<=60)(a:∀p∈pts,B60 p):Row C kvs c7 (nm::pts.map ptD) (gB::Jw pts.length kP) (sT nm::pts.map pu):=by
 have d:=JK.mpr c;refine iL (dB _ (by decide)) (.inr ⟨nm::pts.map ptD,rfl,by simp;lia,by simp;lia,?_⟩) (by simp;lia) (rdN b (v6 a));rw[JF,List.map_replicate];simp
end
section
variable {C1 C2 d:Jt}{kvs U6:List (Str×U)}{n way:Int}{y a b:List Nat}{ws:List (List Nat)}{r:List P2}{t:Str}
theorem Md.say(G:Kpt kvs)(v:Nm y)(A:Nm a)(R:Nm b)(h0:0<=n)(Z:n<2147483647)(h:Md n y a b kvs way ws r):∃w L J K,ws=w::y::J/\Pln w/\Row C2 kvs w (y::J) (gB::L) (sT y::K)/\im [sT w,.lst K] (.new (r.map pu)):=by
 cases h with
 |fld a0 T=>
  have E:=jy n;have D:kg n≠[]:=λz=>by rw[z]at E;simp at E
  exact⟨c7,_,_,_,rfl,Cs,wU v D (by lia) (mE n),.inl ⟨kg n,rfl,λp V=>(yP (mE n p V)).mono (by decide),by lia,D,rfl⟩⟩
 |mde l B t N H=>
  have F:=G.fl_of t;have hl:=F.hl;generalize hu:(L2.valU kvs (T' b)).getD (.lst [])=u at H;cases H with
  | @mov _ _ p q o s e f M=>
   cases B with
   |mov p' q' P s' e' f' X=>
    obtain⟨rfl,rfl,rfl,rfl,rfl,rfl⟩:=M.one X;obtain⟨Q,O,Y,S⟩:=M.sm;refine⟨jP,gq::kA,a::[p,q,o,s,e,f].map ds,lp l::[p,q,o,s,e,f].map U.int,rfl,EN,iL (dB _ (by decide)) (g_ zw rfl) (by simp) (rdN v (rd1 A t (pL rfl (λx c=>IS _ c) M.l6))),.inr (.inr (.inl ⟨l,p,q,o,s,e,f,rfl,⟨l,p,q,o,s,e,f,rfl,⟨M.u,(n9s Q).mono (by decide),(n9s O).mono (by decide),(n9s Y).mono (by decide),(n9s S).mono (by decide),(tF M.e6).mono (by decide),(tF M.f6).mono (by decide)⟩,g9 (by decide) F.sz,λx c=>(M.ap (F.sz x c)).mono (by decide),F.ne,by lia,rfl⟩,rfl⟩))⟩
   |fld _ h=>exact absurd h (by decide)
   |ls h=>cases h
  |fld=>
   cases B with
   |fold=>
    have I:=CZ h0 Z;refine⟨jS,[gq,kK],[a,ds (tmN n)],[lp l,.int (tmN n)],rfl,Fa,iL (dB _ (by decide)) (g_ Af rfl) (by simp) (rdN v (rd1 A t (pL rfl (λx c=>by rw[Jq.mp c];exact IW) (λx c=>by rw[Jq.mp c];exact I)))),.inr (.inl ⟨l,tmN n,rfl,⟨l,tmN n,rfl,(tF I).mono (by decide),g9 (by decide) F.sz,F.ne,by lia,rfl⟩,rfl⟩)⟩
   |fld _ h=>exact absurd h (by decide)
   |ls h=>cases h
  | @sum _ m hm hb=>
   obtain⟨d,e⟩:=N rfl;rw[e]at hu;obtain rfl:=pE hu;have g:=G.fl_of e;have We:=g.hl;cases B with
   |sum=>
    have C:=qK F.ne g.ne;rw[F.cr,g.cr]at C
    have W:l.length+d.length<64:=by
     have l0:=JK.mpr F.ne;have m0:=JK.mpr g.ne;by_cases T:l.length=1
     .lia
     .by_cases a2:d.length=1
      .lia
      .generalize l.length=i at *;generalize d.length=j at *;obtain⟨i,rfl⟩:∃k,i=k+2:=⟨i-2,by lia⟩
       obtain⟨j,rfl⟩:∃k,j=k+2:=⟨j-2,by lia⟩
       have:(j+2) *(i+2)=j*i+2*i+2*j+4:=by grind
       lia
    refine⟨lM,[gq,xQ],[a,b],[lp l,lp d],rfl,Hk,iL (dB _ (by decide)) (g_ Bx rfl) (by simp) (rdN v (rd1 A t (rdO R e .nil))),.inr (.inr (.inr ⟨l,d,rfl,l,d,rfl,F.ne,g.ne,W,g9 (by decide) F.sz,g9 (by decide) g.sz,?_⟩))⟩;rw[C,oV]
   |fld _ h=>exact absurd h (by decide)
   |ls h=>cases h
theorem EY(i:Nm y)(C:Nm a)(u:Nm b)(B:0<=n)(A:n<2147483647)(t:kZ n y a b way ws)(D:1<way)(m:way≠7)(o:L2.valU kvs (T' a)=none):dU C1 C2 d kvs [sT (jn ws)] (.exc C2):=by
 have c:Rd C2 kvs gq (T' a) (.exc C2):=.none_ _ _ (.inl rfl) o;have j:=wN C;have one:∀x∈[a],32 ∉ x/\x.length<=123:=λx c=>by rw[Jq.mp c];exact j
 have cons:∀{l},(∀x∈l,32 ∉ x/\x.length<=123)->∀x∈a::l,32 ∉ x/\x.length<=123:=λz x c=>by
  rcases IT.mp c with e |e
  .rw[e];exact j
  .exact z x e
 cases t with
 |fld _ h=>lia
 |mov p q r s e f M=>exact⟨jP,_,rfl,.inr ⟨_,_,_,jH (dB _ (by decide)) (g_ zw rfl) (by simp) (rdN i .nil) c rfl (cons λx c=>by obtain⟨k,v,rfl⟩:=Jb.mp c;exact DG (M.l6 k v)),rfl⟩⟩
 |fold=>exact⟨jS,_,rfl,.inr ⟨_,_,_,jH (dB _ (by decide)) (g_ Af rfl) (by simp) (rdN i .nil) c rfl (cons λx c=>by rw[Jq.mp c];exact DG (CZ B A)),rfl⟩⟩
 |sum=>exact⟨lM,_,rfl,.inr ⟨_,_,_,jH (dB _ (by decide)) (g_ Bx rfl) (by simp) (rdN i .nil) c rfl (cons λx c=>by rw[Jq.mp c];exact wN u),rfl⟩⟩
 |ls h=>
  have g:∀{w},Fst w->gw w [gq]->dU C1 C2 d kvs [sT (jn [w,a])] (.exc C2):=λ{w} F K=>⟨w,_,rfl,.inr ⟨_,_,_,jH F (g_ K rfl) (by simp) .nil c rfl one,rfl⟩⟩
  cases h with
  |drop=>exact g (dB _ (by decide)) yO
  |show_=>exact g (dB _ (by decide)) AZ
  |names=>exact absurd rfl m
  |area=>exact g (dB _ (by decide)) BA
  |rim=>exact g (dB _ (by decide)) Eg
inductive Say (C1 C2 d:Jt) (kvs:List (Str×U)) (row:Str):U->List (Str×U)->Prop
 |val (u:U):dU C1 C2 d kvs [.str row] (.val u)->Say C1 C2 d kvs row u kvs
 |nn:dU C1 C2 d kvs [.str row] (.exc C2)->Say C1 C2 d kvs row (.lst [.bl true,.bl false,.bl false]) kvs
 |tg:dU C1 C2 d kvs [.str row] (.exc C1)->Say C1 C2 d kvs row (.lst [.bl false,.bl true,.bl false]) kvs
 |put (u:U) (U6:List (Str×U)):oz C2 d kvs [.str row] (.dsk d u U6)->Say C1 C2 d kvs row u U6
noncomputable def d9(t:Str):U:=if t=Str.ofString "NoName" then .lst [.bl true,.bl false,.bl false] else if t=Str.ofString "TooGreat" then .lst [.bl false,.bl true,.bl false] else .str t
theorem qe:d9 (Str.ofString "NoName")=.lst [.bl true,.bl false,.bl false]:=if_pos rfl
theorem wj:d9 (Str.ofString "TooGreat")=.lst [.bl false,.bl true,.bl false]:=(if_neg (by decide+kernel)).trans (if_pos rfl)
theorem wp:d9 (Str.ofString "ok")=.str (Str.ofString "ok"):=(if_neg (by decide+kernel)).trans (if_neg (by decide+kernel))
theorem sR(b:78 ∉ x)(a:84 ∉ x):d9 (T' x)=sT x:=by
 unfold d9;rw[if_neg,if_neg]
 .intro e;have:T' x=T' [84,111,111,71,114,101,97,116]:=e.trans (by decide+kernel);rw[pH this]at a;exact a (by decide)
 .intro e;have:T' x=T' [78,111,78,97,109,101]:=e.trans (by decide+kernel);rw[pH this]at b;exact b (by decide)
theorem AK(a:c≠32):∀{ws},(∀w∈ws,c ∉ w)->c ∉ jn ws
 |[],_=>by simp[jn]
 |[w],h=>by simpa [jn] using h w IW
 |w::x::r,h=>λz=>by
  rcases JB.mp z with k |k
  .exact h w IW k
  .rcases IT.mp k with k |k
   .exact a k
   .exact AK a (λv b=>h v (IS _ b)) k
theorem D6(b:57<c)(l:List P2):c ∉ jn (l.map ptD):=AK (by lia) λw a z=>by
 obtain⟨p,_,rfl⟩:=Jb.mp a;rcases JB.mp z with k |k
 .exact cX _ (by lia) k
 .rcases IT.mp k with k |k
  .lia
  .exact cX _ (by lia) k
theorem A2{w:List Nat}(h:(eqW (sT w) (.str "show") || (eqW (sT w) (.str "where") || (eqW (sT w) (.str "tell") || (eqW (sT w) (.str "alike") ||eqW (sT w) (.str "thin")))))=false)(hs:w≠gT)(r:Rck [sT w,.lst gs] n)(a:n.natAbs<10 ^ 300):Ans [sT w,.lst gs] (ds n):=.num w gs n hs h r a
theorem AV(G:Kpt kvs)(C:kvs.length<64)(q:Nm y)(j:Nm a)(o:Nm b)(L:0<=n)(A:n<2147483647)(h:Trn n y a b kvs way ws t U6):Say C1 C2 d kvs (T' (jn ws)) (d9 t) U6:=by
 cases h with
 |names=>
  obtain⟨u,e,S,M⟩:=G.keys C;have J:Txt.join (Str.ofString " ") (srtS (kvs.map (·.1)))=T' (jn u):=by rw[e];exact CA u
  have D:∀{c},c<97->c≠32->c ∉ jn u:=λA s=>AK s λw V z=>by have:=(S w V).az _ z;lia
  rw[J,sR (D (by decide) (by decide)) (D (by decide) (by decide))];exact .val _ ⟨gC,[],rfl,.inl ⟨[],[],iL (dB _ (by decide)) (g_ Do rfl) (by simp) .nil,.inr (.inl ⟨rfl,C,M,by rw[J]⟩)⟩⟩
 |nn Y s N g=>rw[qe];exact .nn (EY q j o L A Y s N g)
 |nn4 l g W=>
  rw[qe];exact .nn ⟨lM,_,rfl,.inr ⟨_,_,_,jH (dB _ (by decide)) (g_ Bx rfl) (by simp) (rdN q (rd1 j g .nil)) (.none_ xQ _ (.inr rfl) W) rfl (λx Q=>by rw[Jq.mp Q];exact wN o),rfl⟩⟩
 |drop l g=>
  rw[wp];exact .put _ _ ⟨kz,[a],[gq],[lp l],rfl,iL (dB _ (by decide)) (g_ yO rfl) (by simp) (rd1 j g .nil),.inr ⟨a,lp l,rfl,rfl,g,rfl⟩⟩
 |ans l t g v=>
  have F:=G.fl_of g
  have i:∀{w t},Fst w->gw w [gq]->Pln w->Ans [sT w,.lst [lp l]] t->78 ∉ t->84 ∉ t->Say C1 C2 d kvs (T' (jn [w,a])) (d9 (T' t)) kvs:=λ{w t} f k p v X O=>by
   rw[sR X O];exact .val _ ⟨w,[a],rfl,.inl ⟨[gq],[lp l],iL f (g_ k rfl) (by simp) (rd1 j g .nil),.inl ⟨gq,t,p,rfl,by decide+kernel,v,rfl⟩⟩⟩
  cases v with
  |show_=>exact i (dB _ (by decide)) AZ EM (.show_ l F.fit) (D6 (by decide) l) (D6 (by decide) l)
  |area=>exact i (dB _ (by decide)) BA EB (A2 (by decide+kernel) (by decide) (.area l F.fit) F.area) (cX _ (by lia)) (cX _ (by lia))
  |rim=>exact i (dB _ (by decide)) Eg Hz (A2 (by decide+kernel) (by decide) (.rim l F.fit) F.rim) (cX _ (by lia)) (cX _ (by lia))
 |made r H U=>
  obtain⟨Z,I,T⟩:=H.fl G;obtain⟨w,B,m,K,rfl,P,R,E⟩:=H.say (C2:=C2) G q j o L A;cases U with
  |ok hb=>
   rw[wp];exact .put _ _ ⟨w,y::m,_,_,rfl,R,.inl ⟨y,B,m,K,r,P,rfl,rfl,rfl,by lia,E,I,by lia,hb,rfl⟩⟩
  |big hb=>
   rw[wj];exact .tg ⟨w,y::m,rfl,.inl ⟨_,_,R,.inr (.inr ⟨y,B,m,K,r,P,rfl,rfl,rfl,E,I,by lia,hb,rfl⟩)⟩⟩
end
def zI(e C2:Jt):Jt->List (Str×U)->List U->Out->Prop:=λd a c o=>∃(row:Str) (u:U) (b:List (Str×U)),c=[.str row]/\Say e C2 d a row u b/\o=.dsk d u b
theorem kF:bL P w K mg base (CXF P w) 8 T.aaj.a T.aaj.d ["desk","row"] (spD K true T.aad (zI T.aaa.c T.aae.c)):=by
 refine eF T.aaj.F bA (λd l t o h=>?_) (λq A g s H v E O a d l t o f h=>?_)
 .obtain⟨row,u,n,rfl,_⟩:=h;rfl
 obtain⟨row,u,n,rfl,r,rfl⟩:=h;refine Ws.nox ?_;refine ae (aB 2 bA.nd HF ?_);cases r with
 |val _ e=>
  refine ae (pV rfl rfl rfl T.aag.m T.aam T.aal bA.nd (i:=3) rfl rfl (tJ (i:=0) (j:=2) rfl T.aai T.aac.m ((mF T).mono (by decide)) f T.aac.b (ag (aa 1 rfl) aj ai) bA.nd rfl (Or.inl rfl) e (.inl ⟨_,rfl,DP ?_⟩)));refine ae (d_ (l5 (i:=0) rfl) (aa 2 rfl) ?_);exact rfl
 |nn e=>
  refine ae (pV rfl rfl rfl T.aag.m T.aam T.aal bA.nd (i:=3) rfl rfl (Es ⟨T.aat,T.abq,λp=>?hh⟩ (λk=>?bb)))
  case bb=>exact tJ (i:=0) (j:=2) rfl T.aai T.aac.m ((mF T).mono (by decide)) f T.aac.b (ag (aa 1 rfl) aj ai) bA.nd rfl (Or.inl rfl) e (.inr ⟨_,rfl,k⟩)
  case hh=>
   refine ae (aB 2 bA.nd (EvN.ev (cn (ao (vU T.aaD rfl T.aab K7 (aa 3 rfl) rfl T.aae.m) (ao (vU T.aay rfl T.aab K7 (aa 3 rfl) rfl T.aaa.m) (ao (zU (D_ T.aaF T.aaE) rfl T.aab K7 (aa 3 rfl) rfl T.aaS.m rfl T.aaG.m) a_ aR) aR) aR))) (au ?_));refine ae (d_ (l5 (i:=0) rfl) (aa 2 rfl) ?_);exact rfl
 |tg e=>
  refine ae (pV rfl rfl rfl T.aag.m T.aam T.aal bA.nd (i:=3) rfl rfl (Es ⟨T.aar,T.abe,λp=>?hh⟩ (λk=>?bb)))
  case bb=>exact tJ (i:=0) (j:=2) rfl T.aai T.aac.m ((mF T).mono (by decide)) f T.aac.b (ag (aa 1 rfl) aj ai) bA.nd rfl (Or.inl rfl) e (.inr ⟨_,rfl,k⟩)
  case hh=>
   refine ae (aB 2 bA.nd (EvN.ev (cn (ao (vU T.aaz rfl T.aab K7 (aa 3 rfl) rfl T.aae.m) (ao (vU T.aas rfl T.aab K7 (aa 3 rfl) rfl T.aaa.m) (ao (zU (D_ T.aaB T.aaA) rfl T.aab K7 (aa 3 rfl) rfl T.aaS.m rfl T.aaG.m) a_ aR) aR) aR))) (au ?_));refine ae (d_ (l5 (i:=0) rfl) (aa 2 rfl) ?_);exact rfl
 |put _ _ e=>
  refine ae (pV rfl rfl rfl T.aag.m T.aam T.aal bA.nd (i:=3) rfl rfl (EL (i:=0) (j:=2) rfl T.aai T.aac.m ((CI T).mono (by decide)) f T.aac.b (ag (aa 1 rfl) aj ai) bA.nd rfl (Or.inl rfl) e (DP ?_)));refine ae (d_ (l5 (i:=0) rfl) (aa 2 rfl) ?_);exact rfl
def xt:List U->Out->Prop:=λa o=>∃t:Str,a=[.str t]/\o=.val (d9 t)
theorem jQ:OkD P w base T.abd 1 (xt):=by
 refine okD qA (by walk_at"ln") ?_;rintro _ _ _ a ⟨t,rfl,rfl⟩;by_cases b:t=Str.ofString "NoName"
 .subst b;rw[qe];refine ae (bz (Tw.t (jN (am (aX a) (aa 0 rfl) aw) (λd=>(fQ (am (aX a) (aa 0 rfl) aw))))) (by decide+kernel) ?_);refine ae (aO (EvN.ev (cn (ao (eY (aX a) (aa 0 rfl) aw) (ao (eY (aX a) (aa 0 rfl) aw) (ao zl a_ aU) qc) qc))) ?_);rw[show eqW (.str (Str.ofString "NoName")) (.str (Str.ofString "NoName"))=true by decide+kernel,show eqW (.str (Str.ofString "NoName")) (.str (Str.ofString "TooGreat"))=false by decide+kernel]
 .by_cases c:t=Str.ofString "TooGreat"
  .subst c;rw[wj];refine ae (bz (Tw.t (jN (am (aX a) (aa 0 rfl) aw) (λd=>(fQ (am (aX a) (aa 0 rfl) aw))))) (by decide+kernel) ?_);refine ae (aO (EvN.ev (cn (ao (eY (aX a) (aa 0 rfl) aw) (ao (eY (aX a) (aa 0 rfl) aw) (ao zl a_ aU) qc) qc))) ?_);rw[show eqW (.str (Str.ofString "TooGreat")) (.str (Str.ofString "NoName"))=false by decide+kernel,show eqW (.str (Str.ofString "TooGreat")) (.str (Str.ofString "TooGreat"))=true by decide+kernel]
  .refine ae (aG (Tw.t (jN (am (aX a) (aa 0 rfl) aw) (λd=>(fQ (am (aX a) (aa 0 rfl) aw))))) (by rw[eqS,eqS,decide_eq_false b,decide_eq_false c];rfl) (au ?_));refine ae (aO (aa 0 rfl) ?_);unfold d9;rw[if_neg b,if_neg c]
abbrev KV:=List (Str×U)
noncomputable abbrev D4(d1 d2 d3 d4:Jt)(q:KV×KV):List (Jt×KV):=[(d1,q.1),(d2,q.2),(d3,q.1),(d4,q.2)]
noncomputable abbrev dsS(C l a1 dx1 d1 a2 dx2 d2:Jt):Option Sl:=some (.raw (.ref l) [(l,.lst [.ref a1,.ref a2]),(a1,.ins C dx1 [("lands",.ref d1)]),(a2,.ins C dx2 [("lands",.ref d2)])] [])
noncomputable abbrev kpS(a d3 d4:Jt)(ds:List (Jt×KV)):Option Sl:=some (.raw (.ref a) [(a,.lst [.ref d3,.ref d4])] ds)
structure Sel(C l a1 dx1 d1 a2 dx2 d2 d3 d4:Jt)(q:KV×KV)(wch:Int)(j:Nat)(dk dd da dx:Jt)(kvs:KV):Prop where
 k:atI [V.ref d3,.ref d4] wch=some (.ref dk)
 a:atI [V.ref a1,.ref a2] wch=some (.ref da)
 ins:(da,HO.ins C dx [("lands",.ref dd)])∈[(l,HO.lst [.ref a1,.ref a2]),(a1,.ins C dx1 [("lands",.ref d1)]),(a2,.ins C dx2 [("lands",.ref d2)])]
 fk:(D4 d1 d2 d3 d4 q)[j+2]?=some (dk,kvs)
 fd:(D4 d1 d2 d3 d4 q)[j]?=some (dd,kvs)
 fd2:∀U6,((D4 d1 d2 d3 d4 q).set (j+2) (dk,U6))[j]?=some (dd,kvs)
 nd:∀U6,((D4 d1 d2 d3 d4 q).set (j+2) (dk,U6)).map (·.1)=[d1,d2,d3,d4]
 fq:∀U6,∃q',((D4 d1 d2 d3 d4 q).set (j+2) (dk,U6)).set j (dd,U6)=D4 d1 d2 d3 d4 q'/\(q'=(U6,q.2)\/q'=(q.1,U6))
 same:(D4 d1 d2 d3 d4 q).set j (dd,kvs)=D4 d1 d2 d3 d4 q
 of:kvs=q.1\/kvs=q.2
theorem Al(h:wch=0\/wch=1):∃j c e f d a,Sel C l a1 dx1 d1 a2 dx2 d2 d3 d4 q wch j c e f d a:=by
 rcases h with rfl |rfl
 .exact⟨0,d3,d1,a1,dx1,q.1,rfl,rfl,.tail _ (.head _),rfl,rfl,λ_=>rfl,λ_=>rfl,λb=>⟨(b,q.2),rfl,.inl rfl⟩,rfl,.inl rfl⟩
 .exact⟨1,d4,d2,a2,dx2,q.2,rfl,rfl,.tail _ (.tail _ (.head _)),rfl,rfl,λ_=>rfl,λ_=>rfl,λb=>⟨(q.1,b),rfl,.inr rfl⟩,rfl,.inr rfl⟩
noncomputable def nW(ns:List Int)(i:Nat):List Nat:=nmL (cel ns (0+(i:Int)))
noncomputable def iV(ns:List Int):List U:=(J3 5).map λi=>sT (nW ns i)
theorem ui(ns)(b:0<=k)(a:k<5):atI (iV ns) k=some (sT (nW ns k.toNat)):=by
 refine aW (i:=k.toNat) (by lia) ?_;unfold iV;rw[I0,Lh (by lia)];rfl
noncomputable def szG(kvs:KV)(w:List Nat):Int:=match (L2.valU kvs (T' w)).getD (.lst []) with
 | .lst xs=>(xs.length:Int)
 |_=>0
theorem Kpt.sz(G:Kpt kvs)(w):∃a,(L2.valU kvs (T' w)).getD (.lst [])=.lst a/\szG kvs w=(a.length:Int)/\a.length<=52/\∀l,L2.valU kvs (T' w)=some (lp l)->l.length=a.length:=by
 unfold szG;cases h:L2.valU kvs (T' w) with
 |none=>exact⟨[],rfl,rfl,by decide,nofun⟩
 |some u=>
  obtain⟨l,rfl,F⟩:=G.at_ h;refine⟨l.map pu,rfl,rfl,by rw[IM];exact F.hl,λm b=>?_⟩;rw[IM,pE (JW b)]
theorem fG(t):okU 9 (d9 t)=true:=by
 unfold d9;split
 .rfl
 .split <;>rfl
theorem evC(h:u=v)(k:Ev X H0 O0 ps e u):Ev X H0 O0 ps e v:=h ▸ k
theorem Go:OkD P w base T.abx 9 (jx):=by
 refine okD bZ (by walk_at"ln") ?_;rintro _ _ _ r ⟨d,rfl,H,hB,rfl⟩;have hm:((d.map U.int).length:Int)=(d.length:Int):=by rw[IM]
 have hb:(if (if (60:Int)<((d.map U.int).length:Int) then (60:Int) else ((d.map U.int).length:Int)) >9 then (if (60:Int)<((d.map U.int).length:Int) then (60:Int) else ((d.map U.int).length:Int)) else 9)=((max 9 (min d.length 60):Nat):Int):=by
  rw[hm];split <;>split <;>lia
 refine ae (f8 (ys:=(iV d)) (j:=1) false rfl bZ.nd rfl (Or.inl rfl) (blk (ah vN) ["script","names","k","desks","kept","number","which","way","some","sizes","due","found","name"] [2] rfl rfl rfl rfl (by decide+kernel)) (EvI.z (ie rfl T.aaC (ag af aj aU) (by decide) (by decide))) (λ_ _ _ _=>aE (i:=2) bZ.nd rfl (by first |exact Or.inl rfl |exact Or.inr rfl)) (bR (by decide)) ?clen ?csz (λ_ _=>trivial) ?celt ?_)
 case clen=>rfl
 case csz=>exact (show 5<=sizeLine by decide+kernel)
 case celt=>
  intro C s' H' fp j x y s hy;obtain⟨Q,rfl⟩:=df s;have Z:j<5:=Q;unfold iV at hy;rw[I0,Lh Z]at hy;cases hy;exact (bx (o_ T) r (ag (bx (jV T) r (ag (aa 0 rfl) (ag (aa 2 rfl) aj ai) ai) ⟨d,_,rfl,H,by lia,by lia,rfl⟩) aj aR) ⟨_,rfl,zy hB (by lia) (by lia),rfl⟩)
 refine ae (Ct (i:=3) T.aap.m ((Dh T).mono (by decide)) r rfl T.abI T.aap.b gV bZ.nd rfl (Or.inl rfl) (λl a1 dx1 d1 a2 dx2 d2 ne=>?_));refine ae (Ga (i:=3) (j:=4) rfl ne (by decide) bZ.nd rfl (Or.inr rfl) (show 4<13 by decide) (λA d3 d4 nd=>?_));show Ws _ _ _ _ _ _ [some (.val (.scr (d.map U.int))),some (.val (.lst (iV d))),none,dsS T.aad l a1 dx1 d1 a2 dx2 d2,kpS A d3 d4 (D4 d1 d2 d3 d4 ([],[])),none,none,none,none,none,none,none,none];refine ae (fh (λq:KV×KV=>[some (.val (.scr (d.map U.int))),some (.val (.lst (iV d))),none,dsS T.aad l a1 dx1 d1 a2 dx2 d2,kpS A d3 d4 (D4 d1 d2 d3 d4 q),none,none,none,none,none,none,none,none]) (λi q=>Kpt q.1/\Kpt q.2/\q.1.length<=i/\q.2.length<=i) rfl PassesOwn.never (Bt rfl T.aaC (ag af (ag (ay (En rfl) rfl T.abz Us (ag af (ag (ay (Er rfl) rfl T.abT boot_min (ag (ay (ci rfl) rfl T.aah JH (ag (aa 0 rfl) aj ai)) (ag af aj aU) aR)) aj aR) aU)) aj aR) aU) (by rw[hb];lia)) ?h0 ?hs ?hd)
 case h0=>exact⟨([],[]),⟨Kpt.nil,Kpt.nil,IV _,IV _⟩,rfl,rfl,rfl,rfl,trivial⟩
 case hs=>
  rintro H0 i x q s ⟨G1,G2,l1,l2⟩;rw[hb]at s;obtain⟨Q,rfl⟩:=df s;have Z:i<55:=by lia
  refine⟨_,(ft (i:=2) bZ.nd rfl (Or.inl rfl)),?_⟩;refine ae (aB 5 bZ.nd (bx (nV T) r (ag (bx (jV T) r (ag (aa 0 rfl) (ag (aa 2 rfl) aj ai) ai) ⟨d,_,rfl,H,by lia,by lia,rfl⟩) (ag (aa 2 rfl) aj ai) aR) ⟨_,_,rfl,zy hB (by lia) (by lia),by lia,by lia,rfl⟩) ?_);obtain⟨m0,m1⟩:=Ge (cel d (5+(i:Int))) (5+(i:Int));generalize mxN (cel d (5+(i:Int))) (5+(i:Int))=num at *;refine ae (qQ (i:=6) bZ.nd rfl (Or.inr rfl) (b6 (aa 5 rfl) af (by walk_at"mod")) ?_);refine ae (aB 7 bZ.nd (b6 (cV (aa 5 rfl) af (by walk_at"div")) af (by walk_at"mod")) ?_);refine ae (aB 8 bZ.nd (EvN.ev (cn (ao (aD (aa 1 rfl) (b6 (cV (aa 5 rfl) af (by walk_at"div")) af (by walk_at"mod")) rfl (ui d (by lia) (by lia))) (ao (aD (aa 1 rfl) (b6 (cV (aa 5 rfl) af (by walk_at"div")) af (by walk_at"mod")) rfl (ui d (by lia) (by lia))) (ao (aD (aa 1 rfl) (b6 (cV (aa 5 rfl) af (by walk_at"div")) af (by walk_at"mod")) rfl (ui d (by lia) (by lia))) a_ aT) aT) aT))) ?_);have ny:Nm (nW d (num/20%5).toNat):=vE _;have na:Nm (nW d (num/100%5).toNat):=vE _;have nb:Nm (nW d (num/500%5).toNat):=vE _;generalize nW d (num/20%5).toNat=y at *;generalize nW d (num/100%5).toNat=a at *;generalize nW d (num/500%5).toNat=b at *;refine ae (aB 5 bZ.nd (cV (aa 5 rfl) af (by walk_at"div")) ?_);have K:0<=num/2500:=by lia
  have L:num/2500<2147483647:=by lia
  have V:0<=num/2%10:=by lia
  have hw9:num/2%10<=9:=by lia
  obtain⟨j,R,dd,da,dx,o,S⟩:=Al (C:=T.aad) (l:=l) (a1:=a1) (dx1:=dx1) (d1:=d1) (a2:=a2) (dx2:=dx2) (d2:=d2) (d3:=d3) (d4:=d4) (q:=q) (wch:=num%2) (by lia);generalize num/2500=n at *;generalize num/2%10=J at *;generalize num%2=wch at *;show Ws _ _ _ _ _ _ [some (.val (.scr (d.map U.int))),some (.val (.lst (iV d))),some (.val (.int (5+(i:Int)))),dsS T.aad l a1 dx1 d1 a2 dx2 d2,kpS A d3 d4 (D4 d1 d2 d3 d4 q),some (.val (.int n)),some (.val (.int wch)),some (.val (.int J)),some (.val (.lst [sT y,sT a,sT b])),none,none,none,none];have G:Kpt o:=by rcases S.of with e |e <;>rw[e] <;>assumption
  have kl:o.length<=i:=by rcases S.of with e |e <;>rw[e] <;>assumption
  refine ae (f8 (ys:=([y,a,b].map λw=>U.int (szG o w))) (j:=9) false rfl bZ.nd rfl (Or.inl rfl) (blk (ah vN) ["script","names","k","desks","kept","number","which","way","some","sizes","due","found","name"] [12] rfl rfl rfl rfl (by decide+kernel)) (EvI.z (bY (aa 8 rfl) (.inl rfl))) (λ_ _ _ _=>aE (i:=12) bZ.nd rfl (Or.inl rfl)) (bR (by decide)) ?clen ?csz (λ_ _=>trivial) ?celt ?_)
  case clen=>rfl
  case csz=>exact (show 3<=sizeLine by decide+kernel)
  case celt=>
   intro C s' H' fp j' x y' s hy;obtain⟨p,hw',mw',rfl,rfl⟩:=bT (l:=[y,a,b]) (f:=sT) (g:=λw=>U.int (szG o w)) s hy;obtain⟨xs,e1,e2,_⟩:=G.sz p;rw[e2];exact (ay (ci rfl) rfl T.aah JH (ag (evC e1 (yR (bj (i:=4) rfl (Jp S.fk)) (oa 4 rfl (.head _) (aa 6 rfl) S.k) (aa 12 rfl) (EvN.ev (cn a_)) (cG r))) aj aR))
  obtain⟨xa,_,ea,la,fa⟩:=G.sz a;obtain⟨xb,_,eb,lb,fb⟩:=G.sz b;have za:Sz 8 (szG o a):=by rw[ea];unfold Sz;lia
  have zb:Sz 8 (szG o b):=by rw[eb];unfold Sz;lia
  refine iW (λE=>∃p:Int,(0≤p∧p≤9∧(p=4→szG o a*szG o b≤100))∧SubP [some (.val (.scr (d.map U.int))),some (.val (.lst (iV d))),some (.val (.int (5+(i:Int)))),dsS T.aad l a1 dx1 d1 a2 dx2 d2,kpS A d3 d4 (D4 d1 d2 d3 d4 q),some (.val (.int n)),some (.val (.int wch)),some (.val (.int p)),some (.val (.lst [sT y,sT a,sT b])),none,none,none,none] E) (j_ (Tw.t (eE (am bw (aa 7 rfl) af) (λhz=>(cU (am fc (bo (aD (aa 9 rfl) af rfl (aW (i:=1) rfl rfl)) (aD (aa 9 rfl) af rfl (aW (i:=2) rfl rfl)) (by walk_at"mul")) af))))) (λD=>?_) (λN=>(au ?_))) ?hj
  .refine ae (aB 7 bZ.nd af (au ?_));exact⟨6,⟨by decide,by decide,nofun⟩,rfl,rfl,rfl,rfl,rfl,rfl,rfl,rfl,rfl,trivial⟩
  .refine⟨J,⟨V,hw9,λe=>?_⟩,rfl,rfl,rfl,rfl,rfl,rfl,rfl,rfl,rfl,trivial⟩;rw[decide_eq_true e,Mx]at N;have:=dFb N;lia
  case hj=>
   rintro E ⟨p,⟨w0,w9,w4⟩,B⟩;refine c4 ?_ B
   obtain⟨W,t,v,D⟩:=EH (y:=y) (a:=a) (b:=b) G K L w0 w9 λe M lB hA X=>by
    have h:=w4 e;rw[ea,eb,<-fa M hA,<-fb lB X]at h;rw[QG]
    exact_mod_cast h
   obtain⟨G',Vd⟩:=D.good G ny;refine ae (uP (i:=10) bZ.nd rfl (Or.inl rfl) (Df ((q_ T).mono (by decide)) r rfl T.aao.m T.aao.F.kp T.aao.b gV (bj (i:=4) rfl (Jp S.fk)) (mh (j+2) (i:=4) rfl S.fk nd) (Bo (aa 7 rfl) (Bo (aa 5 rfl) (uJ (oa 4 rfl (.head _) (aa 6 rfl) S.k) (ag (aa 8 rfl) aj ai) aT) ai) ai) ⟨p,n,y,a,b,W,t,v,rfl,rfl,K,L,G,by lia,D,rfl⟩) ?_);show Ws _ _ _ _ _ _ [some (.val (.scr (d.map U.int))),some (.val (.lst (iV d))),some (.val (.int (5+(i:Int)))),dsS T.aad l a1 dx1 d1 a2 dx2 d2,kpS A d3 d4 ((D4 d1 d2 d3 d4 q).set (j+2) (R,v)),some (.val (.int n)),some (.val (.int wch)),some (.val (.int p)),some (.val (.lst [sT y,sT a,sT b])),none,some (.val (.str t)),none,none];refine ae (uP (i:=11) bZ.nd rfl (Or.inl rfl) (wE (i:=3) ((kF T).mono (by decide)) r rfl T.aaj.m T.aaj.F.kp T.aaj.b gV rfl S.ins (bj (i:=4) rfl (Jp (S.fd2 v))) (mh j (i:=4) rfl (S.fd2 v) (by rw[S.nd];exact nd)) (uJ (oa 3 rfl (.head _) (aa 6 rfl) S.a) (ag (bx (rF T) r (ag (aa 7 rfl) (ag (aa 5 rfl) (ag (aa 8 rfl) aj ai) ai) ai) ⟨p,n,y,a,b,W,rfl,K,L,ny,na,nb,D.row,rfl⟩) aj aR) aT) ⟨T' (jn W),d9 t,v,rfl,AV G (by lia) ny na nb K L D,rfl⟩) ?_);obtain⟨q',Y,V4⟩:=S.fq v;show Ws _ _ _ _ _ _ [some (.val (.scr (d.map U.int))),some (.val (.lst (iV d))),some (.val (.int (5+(i:Int)))),dsS T.aad l a1 dx1 d1 a2 dx2 d2,kpS A d3 d4 (((D4 d1 d2 d3 d4 q).set (j+2) (R,v)).set j (dd,v)),some (.val (.int n)),some (.val (.int wch)),some (.val (.int p)),some (.val (.lst [sT y,sT a,sT b])),none,some (.val (.str t)),some (.val (d9 t)),none];rw[Y];refine ae (aG (am (re r (fG t) (fG t)) (aa 11 rfl) (bx (jQ T) r (ag (aa 10 rfl) aj ai) ⟨t,rfl,rfl⟩)) (by rw[jA 9 _ (fG t)];rfl) (au (au ?_)));refine⟨q',?_,rfl,rfl,rfl,rfl,trivial⟩;rcases V4 with rfl |rfl
   .exact⟨G',G2,by show v.length<=_;lia,by show q.2.length<=_;lia⟩
   .exact⟨G1,G',by show q.1.length<=_;lia,by show v.length<=_;lia⟩
 case hd=>
  rintro q E ⟨G1,G2,l1,l2⟩ B;refine c4 ?_ B;rw[hb,cR]at l1 l2;refine ae (fh (λ_:Unit=>[some (.val (.scr (d.map U.int))),some (.val (.lst (iV d))),none,dsS T.aad l a1 dx1 d1 a2 dx2 d2,kpS A d3 d4 (D4 d1 d2 d3 d4 q),none,none,none,none,none,none,none,none]) (λ_ _=>True) rfl PassesOwn.never (ie rfl T.aaC (ag af aj aU) (by decide) (by decide)) ?h0 ?hs ?hd)
  case h0=>exact⟨(),trivial,rfl,rfl,rfl,rfl,trivial⟩
  case hs=>
   rintro H0 i x _ s _;obtain⟨Q,rfl⟩:=df s;have Z:i<2:=Q;refine⟨_,(ft (i:=6) bZ.nd rfl (Or.inr rfl)),?_⟩;obtain⟨j,R,dd,da,dx,o,S⟩:=Al (C:=T.aad) (l:=l) (a1:=a1) (dx1:=dx1) (d1:=d1) (a2:=a2) (dx2:=dx2) (d2:=d2) (d3:=d3) (d4:=d4) (q:=q) (wch:=0+(i:Int)) (by lia);generalize 0+(i:Int)=wch at *;have G:Kpt o:=by rcases S.of with e |e <;>rw[e] <;>assumption
   have kl:o.length<64:=by rcases S.of with e |e <;>rw[e] <;>lia
   refine ae (fh (λ_:Unit=>[some (.val (.scr (d.map U.int))),some (.val (.lst (iV d))),none,dsS T.aad l a1 dx1 d1 a2 dx2 d2,kpS A d3 d4 (D4 d1 d2 d3 d4 q),none,some (.val (.int wch)),none,none,none,none,none,none]) (λ_ _=>True) rfl PassesOwn.never (bY (aa 1 rfl) (.inl rfl)) ?h02 ?hs2 ?hd2)
   case h02=>exact⟨(),trivial,rfl,rfl,rfl,rfl,rfl,trivial⟩
   case hs2=>
    rintro H0 i2 x _ s _;unfold iV at s;obtain⟨c,hc,mc,rfl⟩:=me s;have O:Nm (nW d c):=vE _;generalize nW d c=p at *;refine⟨_,(ft (i:=12) bZ.nd rfl (Or.inl rfl)),?_⟩;refine ae (aB 10 bZ.nd aw ?_);refine iW (λE=>∃t:Str,Trn 0 p p p o 6 [gT,p] t o/\SubP [some (.val (.scr (d.map U.int))),some (.val (.lst (iV d))),none,dsS T.aad l a1 dx1 d1 a2 dx2 d2,kpS A d3 d4 (D4 d1 d2 d3 d4 q),none,some (.val (.int wch)),none,none,none,some (.val (.str t)),none,some (.val (sT p))] E) (j_ (G8 (bj (i:=4) rfl (Jp S.fk)) (oa 4 rfl (.head _) (aa 6 rfl) S.k) (aa 12 rfl) (cG r)) (λD=>?_) (λN=>(au ?_))) ?hj
    .obtain⟨u,I⟩:=KG.mp D;obtain⟨M,rfl,F⟩:=G.at_ I;have hl:=F.hl;refine ae (aB 10 bZ.nd (bx (fo T) r (ag (pX (bj (i:=4) rfl (Jp S.fk)) (oa 4 rfl (.head _) (aa 6 rfl) S.k) (aa 12 rfl) (cG r) I) aj aT) ⟨M,rfl,F.b,by lia,rfl⟩) (au ?_));exact⟨_,.ans M _ I .show_,rfl,rfl,rfl,rfl,rfl,rfl,rfl,trivial⟩
    .have I:L2.valU o (T' p)=none:=Option.isSome_eq_false_iff.mp N |>Option.isNone_iff_eq_none.mp;exact⟨_,.nn (.ls .show_) (by decide) (by decide) I,rfl,rfl,rfl,rfl,rfl,rfl,rfl,trivial⟩
    case hj=>
     rintro E ⟨t,D,B⟩;refine c4 ?_ B;have lw:(T' p).length<=8:=by rw[bC];exact O.h8
     have ch:(Str.ofString "show ":Str).length≤6:=by decide+kernel
     refine ae (uP (i:=11) bZ.nd rfl (Or.inl rfl) (wE (i:=3) ((kF T).mono (by decide)) r rfl T.aaj.m T.aaj.F.kp T.aaj.b gV rfl S.ins (bj (i:=4) rfl (Jp S.fd)) (mh j (i:=4) rfl S.fd nd) (uJ (oa 3 rfl (.head _) (aa 6 rfl) S.a) (ag (bv aw (aa 12 rfl) (tl0 ch lw (by decide))) aj bh) aT) ⟨_,d9 t,o,rfl,by rw[zR,tx1];exact AV G kl O O O (by decide) (by decide) D,rfl⟩) ?_);show Ws _ _ _ _ _ _ [some (.val (.scr (d.map U.int))),some (.val (.lst (iV d))),none,dsS T.aad l a1 dx1 d1 a2 dx2 d2,kpS A d3 d4 ((D4 d1 d2 d3 d4 q).set j (dd,o)),none,some (.val (.int wch)),none,none,none,some (.val (.str t)),some (.val (d9 t)),some (.val (sT p))];rw[S.same];refine ae (aG (am (re r (fG t) (fG t)) (aa 11 rfl) (bx (jQ T) r (ag (aa 10 rfl) aj ai) ⟨t,rfl,rfl⟩)) (by rw[jA 9 _ (fG t)];rfl) (au (au ?_)));exact⟨(),trivial,rfl,rfl,rfl,rfl,rfl,trivial⟩
   case hd2=>
    rintro _ E _ B;refine au ⟨(),trivial,?_⟩;refine SubP.trans ?_ B;exact⟨rfl,rfl,rfl,rfl,trivial⟩
  case hd=>
   rintro _ E _ B;refine c4 ?_ B;refine ae (aO zl ?_);exact vB rfl
end
theorem ar1{d:LO}{b:List Str}{a:List Je}(h:a.length=1)(q:∀c,Ot d ⟨[c],[]⟩=pure (b.zip [c])):Ot d ⟨a,[]⟩=pure (b.zip a):=by obtain⟨_,rfl⟩:=L2.len1 h;exact q _
theorem ar2{e:LO}{b:List Str}{a:List Je}(h:a.length=2)(q:∀d c,Ot e ⟨[d,c],[]⟩=pure (b.zip [d,c])):Ot e ⟨a,[]⟩=pure (b.zip a):=by obtain⟨_,_,rfl⟩:=L2.len2 h;exact q _ _
theorem ar3{f:LO}{b:List Str}{a:List Je}(h:a.length=3)(q:∀e d c,Ot f ⟨[e,d,c],[]⟩=pure (b.zip [e,d,c])):Ot f ⟨a,[]⟩=pure (b.zip a):=by obtain⟨_,_,_,rfl⟩:=L2.len3 h;exact q _ _ _
theorem ar4{i:LO}{c:List Str}{b:List Je}(h:b.length=4)(q:∀g f d e,Ot i ⟨[g,f,d,e],[]⟩=pure (c.zip [g,f,d,e])):Ot i ⟨b,[]⟩=pure (c.zip b):=by
 cases b with
 |nil=>cases h
 |cons a t=>
  obtain⟨_,_,_,rfl⟩:=L2.len3 (Sv h);exact q _ _ _ _
theorem tm_ROWS{w:J5}{K:IR}{h:Ma}{x:Str→Option Je}(X:K.In h)(G:h.Ns Kz x){a:Jt}{n:Nat}{F M A I t2 D N Q z y R L E J H C v O P B r j s i l t d o f c b p g m e k q u:Tok}(ta:PySem.W.nsIn K Kz "ROWS"=some (some (.ref a)))(T:K.lookup a=some ⟨.type "dict",none,.dict #[⟨PyData.keyHash w.params "field",.str "field" F,.str "NEW P" M⟩,⟨PyData.keyHash w.params "move",.str "move" A,.str "NEW ONE A B C D E F" I⟩,⟨PyData.keyHash w.params "fold",.str "fold" t2,.str "NEW ONE K" D⟩,⟨PyData.keyHash w.params "sum",.str "sum" N,.str "NEW ONE OTHER" Q⟩,⟨PyData.keyHash w.params "form",.str "form" z,.str "NEW ONE" y⟩,⟨PyData.keyHash w.params "facing",.str "facing" R,.str "NEW ONE" L⟩,⟨PyData.keyHash w.params "drop",.str "drop" E,.str "ONE" J⟩,⟨PyData.keyHash w.params "names",.str "names" H,.str "" C⟩,⟨PyData.keyHash w.params "show",.str "show" v,.str "ONE" O⟩,⟨PyData.keyHash w.params "area",.str "area" P,.str "ONE" B⟩,⟨PyData.keyHash w.params "rim",.str "rim" r,.str "ONE" j⟩,⟨PyData.keyHash w.params "count",.str "count" s,.str "ONE K" i⟩,⟨PyData.keyHash w.params "inner",.str "inner" l,.str "ONE K" t⟩,⟨PyData.keyHash w.params "mixed",.str "mixed" d,.str "ONE OTHER" o⟩,⟨PyData.keyHash w.params "share",.str "share" f,.str "ONE A B C" c⟩,⟨PyData.keyHash w.params "where",.str "where" b,.str "ONE P" p⟩,⟨PyData.keyHash w.params "tell",.str "tell" g,.str "ONE K P" m⟩,⟨PyData.keyHash w.params "alike",.str "alike" e,.str "ONE OTHER" k⟩,⟨PyData.keyHash w.params "thin",.str "thin" q,.str "ONE" u⟩] n,#[]⟩)(S:(a==Mb)=false):∃a,x "ROWS"=some (.ref a)∧wS w K a dN:=
 ⟨a,Uj X G ta,S,[("field",F,"NEW P",M),("move",A,"NEW ONE A B C D E F",I),("fold",t2,"NEW ONE K",D),("sum",N,"NEW ONE OTHER",Q),("form",z,"NEW ONE",y),("facing",R,"NEW ONE",L),("drop",E,"ONE",J),("names",H,"",C),("show",v,"ONE",O),("area",P,"ONE",B),("rim",r,"ONE",j),("count",s,"ONE K",i),("inner",l,"ONE K",t),("mixed",d,"ONE OTHER",o),("share",f,"ONE A B C",c),("where",b,"ONE P",p),("tell",g,"ONE K P",m),("alike",e,"ONE OTHER",k),("thin",q,"ONE",u)],n,rfl,by decide+kernel,T⟩
noncomputable abbrev spLaw(K:IR):Sp:=spU K jx
theorem law_start(K:IR)(H:Hp)(a:Jt)(ns:List Int)(b:ns.length<=63)(c:∀m∈ns,Sz 1048576 m)(_:Cv H)(d:SqL K H a (ns.map V.int)):spLaw K [.ref a] H (λv _=>v=.bl true) λ_ _ _=>False:=yb b c d
theorem law_ok{P:Jr}{w:J5}{K:IR}{a:Str→Option Je}{c:Jt}(b:a "law"=some (.ref c))(T:Txt w K a):
  ∃e:LO,(∀(s:Jd) (u:Je),Ug s e ⟨[u],[]⟩ [("script",u)])∧∀base:Ma,K.In base→base.Ns Kz a→bL P w K a base CX0 9 c e ["script"] (spLaw K):=by
 cases b.symm.trans T.abx.m;obtain⟨_,_,_,_,_,_,_,_,_,f,_⟩:=T.abx.F.ex;exact⟨T.abx.d,λs v=>by rw[f];exact .of_eq rfl,λbase _ _=>(Go T).calm yB⟩
end My
structure PySem.W.Fast:Prop where(tw1386963208696026446 tw2525235313007617540 tw7695809073999853110 tw383689962270916116 tw981360772255691548 tw18057475519078694424 tw7029188091087982457 tw8943167024282220528 tw16518433829153658885 tw13143994826180220991 tw8331890340143197723 tw13730296883523225529 tw2594461437924632910 tw10293616891423127631 tw1804800948655829598 tw13025113158547519451 tw11081719638986146165 tw6452214214411971180 tw2412787244987324784 tw4232931959202329214 tw10342925226549964181 tw10472929813618027855 tw4744999875232554236 tw464994451833470502 tw235772240601772301 tw1883644143128428866 tw5827369347468533436 tw1604632467470950583 tw10123640616213255094 tw16779105110096026821 tw2600774629502126562 tw2191501815227014702 tw11236839404318678708 tw16409868472491098508 tw8730371008225011897 tw39584289744697767 tw7579000796225946260 tw9513727357540871192 tw15848708378334940454 tw15746517878178942825 tw16861728344490378696 tw15874827977443955967 tw11225278609594574920 tw6885492701681299776 tw11400585044388043530 tw16086392351664922008 tw702949165709959307 tw15718921720460491361 tw1323078272999534204 tw5843997599127717012 tw417544565467656555 tw16780439240856595390 tw9381109667937230265 tw9400352549145317289 tw4820295587374394797 tw9228541739111545429 tw5648066964037147004 tw11292505203801714044 tw4325666181942270839 tw11246511897444456523 tw9252798584447713565 tw16893376912853075574 tw14218464081022204271 tw3341714057495035180 tw2288109074939405551 tw3152798942065784488 tw7470696245425134748 tw6894881194499447227 tw5574663276416408068 tw13491451427254840011 tw4135547971985942516 tw10532166215772406882 tw1566758231194578625 tw13038094323441163925 tw5686232979084510090 tw13308154835771276194 tw16090294840971155478 tw7490536576528136095 tw10447123111191227677 tw14690877628254419379 tw12288066250767434734 tw10927882808268053403 tw10058443340412438631 tw737889109210193326 tw10492596555474243147 tw18433015581997371976 tw11325461774911082659 tw823059688629159987 tw11400369436593006135 tw7424183690141715058 tw12615671930625041242 tw27040035779755750 tw15727144289200205047 tw7391199252882957466 tw4329730568185964938 tw7091947484779352541 tw15146313316094379109 tw9532316176552905619 tw8888173090189440723 tw6688312180500642748 tw10378559058708101857 tw15013287529005103112 tw1550503184891146663 tw5404686190794417705 tw16398083109384659502 tw5779392818585423403 tw15628793956195484545 tw93736548415606211 tw342208009296661032 tw16645091497187689088 tw311745263457718743 tw9289076764445668900 tw5097594886706229549 tw15606812614531819220 tw10151454196827045587 tw1996152817589158987 tw14894334541653530545 tw17235667262938971011 tw11020171087722556283 tw6246497063862430395 tw7516986973408125892 tw4291903465572886422 tw10571731763770295281 tw12316055865245056974 tw10848853944445748738 tw17480116049489491402 tw10068431115810802383 tw13227425543952751190 tw13541420132869321783 tw8906312376333568013 tw13592216605193808374 tw12433688906767052748 tw18069653692017988924 tw361531545166705060 tw911953661705439823 tw11921403619116646428 tw10915738966881984441 tw715922215375455808 tw17249997552605172991 tw209357936001434036 tw6800904775470992111 tw3583871623131488283 tw15112951953790284661 tw3377485286955886766 tw9819083132970130345 tw9901370948330222518 tw8921501815131828156 tw4921158917624635716 tw8859706494637606632 tw10653613922687520267 tw10579271453848511840 tw16373068014449641600 tw11444160903225974624 tw8423276610090860801 tw13883957486953561513 tw14428334128304607705 tw14678625313436381822 tw1371704482195251107 tw12998454234234759106 tw8411736736555494449 tw6329177566717672516 tw7512454254521064922 tw14392836160312919633 tw1013100914572601000 tw11396392645583529656 tw11818959665457183718 tw14252318185741563374 tw14837599330492347072 tw5806370019977071827 tw14226788687871506743 tw17107290461856363204 tw3582501855295772093 tw15442940691884552748 tw1417877046170501544 tw18081240023356462630 tw5247249834381642047 tw8362018902148629832 tw6342904549211790235 tw4160858386146675277 tw2416309483935164695 tw14338999968360411197 tw5564081336301317998 tw10879283146744627220 tw4748035144838427804 tw4889573851876055094 tw2769747346284040378 tw1832619614491363682 tw12208391604960137416 tw7094651981593031272 tw3494363220398396257 tw379777283012918034 tw6404542359584426157 tw7404984436893913846 tw5829666375379929756 tw3050188349318918108 tw15964841621099301226 tw11690243100330027966 tw11822255534234849 tw1109131594312169021 tw14237870439092969165 tw1408054972099595681 tw5248221091386801293 tw5513762193595210590 tw12398804465013661023 tw8808535196729761732 tw4328267014163597247 tw12551233037787010097 tw6555703508879305436 tw16231204374886677958 tw12775227989423476765 tw5603375973837643438 tw6563478977550144331 tw12034310113240236274 tw7156892773042675493 tw10201600105446683926 tw10583011767643306109 tw11454308008277671982 tw16706600558208078171 tw12826712033041526823 tw15864953943289895893 tw12108920516211699114 tw3501589369418759679 tw17485151507755928569 tw9251367664859755132 tw3588752787978589274 tw12541684674680506272 tw13325058371023886129 tw6762497978392055383 tw12048675989904679419 tw4676712367053102572 tw4492160269752481494 tw16722294243512678137 tw497627309325249387 tw13551087929714795220 tw8580764418606465277 tw12257916041436907957 tw9305984123687958262 tw8304293444168985233 tw4295615772816513244 tw7181953194993220065 tw16372807412533559573 tw8371293329425771360 tw17315575027432115472 tw10766095507241517037 tw16998080270302391761 tw7464804291369714950 tw16918926061386668689 tw7017885705868854328 tw12481467082932815389 tw6647325476596954575 tw1980852838800181850 tw12076904975918108256 tw9332973967826815556 tw15249925409378527016 tw13208000354426641701 tw3510548176676121115 tw13190755933585097163 tw17518874946604295326 tw7483137061699106898 tw14353863182733741382 tw14500783985676610483 tw6011924038279772855 tw2455650762563067775 tw2514391869576635325 tw8239292986991212215 tw17887220027017422955 tw11310310955754244815 tw5250017290325134061 tw15772718808868403533 tw1027638163535809750 tw5758281490830539604 tw4030371747508151354 tw12282790606806767147 tw14877074197011799504 tw13190513067033807361 tw17633550130588078856 tw10521028949605654208 tw3724662620419587520 tw7151219627462986929 tw5542549938199361110 tw12887507165081787598 tw13046799644303014706 tw10880076137544378907 tw16881842069309727031 tw5363505739526746470 tw14973220154428539258 tw8560753642019087655 tw14749508862678656048 tw14707100675404846285 tw5335416810889458185 tw4668079993095488435 tw9976800131007441517 tw4241941604746110885 tw12393243866164748898 tw16956941817365137401 tw7499916470196225799 tw5495459133215601912 tw5263612030793556096 tw7231783630926702348 tw9593253656050872419 tw7853953594337275691 tw1019521507271067597 tw6567893004713627688 tw223749404409509331 tw14674347423563034753 tw15901967045038075471 tw11377011306021111356 tw18139038969016792393 tw7775031434946429656 tw15567880597474225983 tw2449771391118300795 tw1311512609229120627 tw3417616768216586321 tw12666844272096753341 tw1298691897377493492 tw7565403390107674106 tw16976522095051383104 tw45041933841692460 tw11831740520492836465 tw4744407975655421652 tw2425817704045474125 tw17597116247378646541 tw13676114419703955020 tw14673448032730339131 tw375272507162986362 tw4249556855589060397 tw10625089145412501373 tw3742550393587332428 tw5272721759092903468 tw10960128109416089387 tw17625879107629395075 tw11592916540948366010 tw4274603516274879110 tw771054168348921436 tw5988033337167711218 tw9092002403209216016 tw18274656609343094212 tw18395955442696184119 tw6911152294702794927 tw17457949174169357401 tw8407803919395655079 tw15236682878078233854 tw16593553702724541287 tw2249963418146965197 tw15768019220844032914 tw1722850547860494215 tw10243873370754528937 tw3246935384452972573 tw17678562317701116806 tw82847194516546140 tw9408108193240613160 tw8655896597565782660 tw8250002077613713339 tw13966222576922571927 tw6502375328470766518 tw245627674575592169 tw4424367640259543342 tw14396998656502002554 tw11395753096867874057 tw1144281492445572007 tw17936658706532262410 tw3645063871385537945 tw12075627280342801852 tw4679861429877676541 tw7924287749888654025 tw462129915701411765 tw15156121590348474612 tw3312145333461145736 tw6182301007872709254 tw17534261093549653995 tw1113762887548325848 tw16995984662582597925 tw17569931454317043800 tw3437401927446282932 tw2240009476271830551 tw13827904671664279808 tw18123633095845257433 tw13763998751916099884 tw5015200675084472009 tw80573203648083491 tw6613695339866173304 tw7224168990641825439 tw3334069264386682830 tw10663344933721226846 tw7980148668508511449 tw5272884005035252467 tw16516005755673668442 tw17470320016536454588 tw11828803233279825020 tw3108312327728285739 tw6371224853943059942 tw18060594077447419376 tw16107029392884641485 tw16551643306139701820 tw2320336872251704918 tw10336187890430771115 tw1269932876726119645 tw879769412976877304 tw5260172721829677976 tw5557468902245663410:0=0)
open PySem PySem.W PyProof.Rows L2
set_option maxRecDepth 100000 in
set_option maxHeartbeats 0 in
set_option maxHeartbeats 0 in
theorem PySem.Challenge.cw_stakefield_k74_whole_fields_kept_holds : PySem.Challenge.rw_stakefield_k74_whole_fields_kept.Holds := by
 w_on;o_law;k_head;(case hw=>w_witness2)
 k_fill
 refine L2.walk_ofB (l:=PySem.Challenge.rw_stakefield_k74_whole_fields_kept) (n:=63) (k:=9) (x:="script") (CX:=CX0) (sp:=My.spLaw) rfl (by decide) rfl ⟨rfl,by decide,by decide⟩ (λw h Y=>by first |exact Tx Y |exact PySem.W.km_in_of Y) ?F My.law_start (λ_ _ _ _ z=>z)
 case F=>
  intro w mg fa h KX G hmg
  refine' My.law_ok hmg ⟨_,L2.c_m KX G ?_,⟨?_,?_,?_,?_⟩,(id (α:=Lj _ _ _=_) ?_),My.tm_ROWS KX G ?_ ?_ ?_,L2.dfn KX G (by walk_at"b1") ?_ ?_ ?_ ?_,L2.dfn KX G (by walk_at"b1") ?_ ?_ ?_ ?_,L2.dfn KX G (by walk_at"b2") ?_ ?_ ?_ ?_,L2.dfn KX G (by walk_at"b1") ?_ ?_ ?_ ?_,L2.dfn KX G (by walk_at"b1") ?_ ?_ ?_ ?_,L2.dfn KX G (by walk_at"b1") ?_ ?_ ?_ ?_,L2.dfn KX G (by walk_at"b2") ?_ ?_ ?_ ?_,L2.dfn KX G (by walk_at"b2") ?_ ?_ ?_ ?_,L2.dfn KX G (by walk_at"b2") ?_ ?_ ?_ ?_,L2.dfn KX G (by walk_at"b3") ?_ ?_ ?_ ?_,L2.dfn KX G (by walk_at"b1") ?_ ?_ ?_ ?_,L2.dfn KX G (by walk_at"b1") ?_ ?_ ?_ ?_,L2.dfn KX G (by walk_at"b1") ?_ ?_ ?_ ?_,L2.dfn KX G (by walk_at"b1") ?_ ?_ ?_ ?_,L2.dfn KX G (by walk_at"b1") ?_ ?_ ?_ ?_,L2.dfn KX G (by walk_at"b2") ?_ ?_ ?_ ?_,L2.dfn KX G (by walk_at"b2") ?_ ?_ ?_ ?_,L2.dfn KX G (by walk_at"b2") ?_ ?_ ?_ ?_,L2.dfn KX G (by walk_at"b1") ?_ ?_ ?_ ?_,L2.dfn KX G (by walk_at"b2") ?_ ?_ ?_ ?_,L2.dfn KX G (by walk_at"b2") ?_ ?_ ?_ ?_,L2.dfn KX G (by walk_at"b2") ?_ ?_ ?_ ?_,L2.dfn KX G (by walk_at"b1") ?_ ?_ ?_ ?_,L2.dfn KX G (by walk_at"b1") ?_ ?_ ?_ ?_,L2.dfn KX G (by walk_at"b1") ?_ ?_ ?_ ?_,L2.dfn KX G (by walk_at"b1") ?_ ?_ ?_ ?_,L2.dfn KX G (by walk_at"b1") ?_ ?_ ?_ ?_,L2.dfn KX G (by walk_at"b1") ?_ ?_ ?_ ?_,L2.dfn KX G (by walk_at"b1") ?_ ?_ ?_ ?_,L2.dfn KX G (by walk_at"b1") ?_ ?_ ?_ ?_,L2.dfn KX G (by walk_at"b1") ?_ ?_ ?_ ?_,L2.dfn KX G (by walk_at"b1") ?_ ?_ ?_ ?_,L2.dfn KX G (by walk_at"b1") ?_ ?_ ?_ ?_,L2.dfn KX G (by walk_at"b2") ?_ ?_ ?_ ?_,L2.dfn KX G (by walk_at"b2") ?_ ?_ ?_ ?_,L2.dfn KX G (by walk_at"b2") ?_ ?_ ?_ ?_,L2.dfn KX G (by walk_at"b2") ?_ ?_ ?_ ?_,L2.dfn KX G (by walk_at"b3") ?_ ?_ ?_ ?_,L2.dfn KX G (by walk_at"b1") ?_ ?_ ?_ ?_,L2.dfn KX G (by walk_at"b1") ?_ ?_ ?_ ?_,L2.dfn KX G (by walk_at"b1") ?_ ?_ ?_ ?_,L2.dfn KX G (by walk_at"b2") ?_ ?_ ?_ ?_,L2.dfn KX G (by walk_at"b1") ?_ ?_ ?_ ?_,L2.dfn KX G (by walk_at"b1") ?_ ?_ ?_ ?_,L2.dfn KX G (by walk_at"b1") ?_ ?_ ?_ ?_,L2.dfn KX G (by walk_at"b2") ?_ ?_ ?_ ?_,L2.dfn KX G (by walk_at"b1") ?_ ?_ ?_ ?_,L2.dfn KX G (by walk_at"b1") ?_ ?_ ?_ ?_,L2.dfn KX G (by walk_at"b2") ?_ ?_ ?_ ?_,L2.dfn KX G (λ_ _ _ _ _ _ _ h=>My.ar4 h λ_ _ _ _=>rfl) ?_ ?_ ?_ ?_,L2.dfn KX G (by walk_at"b1") ?_ ?_ ?_ ?_,L2.dfn KX G (by walk_at"b3") ?_ ?_ ?_ ?_,L2.dfn KX G (λ_ _ _ _ _ _ _ h=>My.ar4 h λ_ _ _ _=>rfl) ?_ ?_ ?_ ?_,L2.dfn KX G (by walk_at"b2") ?_ ?_ ?_ ?_,L2.dfn KX G (by walk_at"b1") ?_ ?_ ?_ ?_,L2.dfn KX G (by walk_at"b1") ?_ ?_ ?_ ?_,L2.idf (by walk_at"b1") ?_ ?_ ?_ ?_ ?_ ?_ ?_,L2.mdf (by walk_at"b3") ?_ ?_ ?_ ?_ ?_,L2.mdf (by walk_at"b3") ?_ ?_ ?_ ?_ ?_,L2.mdf (by walk_at"b2") ?_ ?_ ?_ ?_ ?_,L2.mdf (by walk_at"b2") ?_ ?_ ?_ ?_ ?_,L2.exn KX G ?_,?_,L2.exn KX G ?_,L2.exn KX G ?_,L2.exn KX G ?_,L2.exn KX G ?_,?_,JV KX G ?_,JV KX G ?_,JV KX G ?_,JV KX G ?_,JV KX G ?_,JV KX G ?_,JV KX G ?_,JV KX G ?_,JV KX G ?_,JV KX G ?_,JV KX G ?_,JV KX G ?_,JV KX G ?_,JV KX G ?_,JV KX G ?_,JV KX G ?_,JV KX G ?_,?_,?_,?_,?_,?_,?_,?_,?_,?_,?_,?_,?_,?_,?_,L2.g_s KX G ?_,L2.g_i KX G ?_,L2.g_i KX G ?_,L2.g_i KX G ?_,L2.g_i KX G ?_⟩
  all_goals try first |k_is | (dsimp only[L2.exn];first |k_is |k_exc |kit_is |exact⟨by k_is,by k_is,by k_is,by k_is,by k_is,by k_is,by k_is⟩) |rfl
