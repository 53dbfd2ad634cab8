import PyProof.Rows.All
import Wide.All
import OpenK.AllK
import Wide.FinOn
import Lean
import PyProof.EqAt
import PyProof.EqKinds
import PyProof.NeKinds
import PyProof.TupleCall
import KE.KDictSum
import KE.KSortTup
import KE.KRevIter
import KE.KRevSl
import KE.KLam
import KE.KNestM
import KE.KMinKey
import PySem.Challenge.RW_stakefield_k82_whole_alike_by_text
set_option compiler.extract_closed false
open List renaming getElem?_eq_getElem->JG,length_map->JK,mem_cons_of_mem->JL,mem_cons->JN,mem_cons_self->JP,getElem?_map->JQ,mem_map->JS,getElem?_eq_some_iff->JV,getD_eq_getElem?_getD->JW,length_cons->JX,getElem?_append_left->JZ,mem_append_right->J1,getElem?_append_right->J3,map_cons->J6,mem_reverse->J7,mem_of_getElem?->J8,size_toArray->J9,mem_range->J_,map_map->Ka,getElem?_eq_none->Kg,getElem?_set_ne->Ki,replicate->Kn,length_append->Ko,pairwise_iff_getElem->Kp,mem_singleton->Kq,range->Kr,map_append->Kx,not_mem_nil->Kz,length_reverse->KD,mem_iff_getElem?->KJ,pairwise_cons->KM,mem_filter->KN,lookup_cons->K5,getElem?_replicate->K8,getElem?_cons_succ->K9,length_pos_iff->K_,length_replicate->Lj,mem_append->Lm,pairwise_map->Lq,length_dropLast->Ls,replicate_succ->Lx,getElem?_reverse->Ly,length_eq_zero_iff->LB,mem_append_left->LF,take_of_length_le->LH,nodup_cons->LL,getLast?_eq_getElem?->LQ,getElem?_range->LV,getElem?_take_of_lt->LY,ext_getElem?->L3,append_nil->L5,map_reverse->Mb,length_pos_of_mem->Md,find?_cons->Mp,getElem?_drop->Ms,getElem?_zipWith_eq_some->Mw,flatten_cons->MH,filterMap_cons->MN,foldl_cons->MP,getElem?_dropLast->MU,take_length->MY,drop_eq_getElem_cons->M8,take_succ->M9,tail_cons->M_,forIn_cons->Ng,lookup->Nk,any_cons->Nl,map_congr_left->Np,getLast?_cons_cons->Nq,all_eq_true->Nv,drop_eq_nil_of_le->NA,head?_eq_getElem?->NB,zip_cons_cons->NG,length_set->NL,length_nil->NM,getElem?_toArray->NO,sum_cons->NX,mem_of_getLast?->N0,mem_iff_getElem->N2,forIn_nil->N4,mem_take_iff_getElem->N6,length_erase_of_mem->Oh,range_succ->Oq,nodup_append->OA,getLast?_map->OB,getElem?_inj->OC,take_zero->OJ,take_append_drop->ON,pairwise_reverse->OR,getLast?_reverse->OS,getElem_mem->OX,mem_erase_of_ne->Pa,all_cons->Pb,of_mem_zip->Pk,take_succ_cons->Pm,mem_map_of_mem->Po,nodup_iff_pairwise_ne->Pv,perm_ext_iff_of_nodup->Pw,mem_filterMap->Pz,map_nil->PL,head?_map->P4,getElem?_set->P_,length_range->Qd,map_dropLast->Qh,map_take->Qp,getElem_inj->Qx,length_take->Qy,filter_cons->QA,nodup_range->QB,getElem?_set_self->QH,pairwise_lt_range->QL,length_singleton->QR,filterMap_append->QU,zipWith->Q6,dropLast_subset->Rr,drop_zero->Ru,getElem_of_mem->RD,map_drop->RT,head?_reverse->RY,append_assoc->R_,reverse_cons->Sg,length_drop->SD,perm_middle->SH,zipIdx_cons->SN,length->S6,Perm->Th,zipIdx_nil->Tj,head?_cons->Tr,sum_append->Tu,nodup_nil->TN,foldl->Ua,all_map->Um,toArray->Ut,map_id->UP,sum->UW,drop->U5
open PySem renaming wpAny_bind->JH,wpAny_pure->JM,starEach->JO,Shared->JY,Value->J0,Program->J2,boot_len->J5,Addr->Kb,wpAny->Kj,model->Kk,World->Kt,wpAny_Call_Name_kw->Kw,wpAny_holding->KB,foldedSetIterable->KL,compareOp->KO,mainGlobals->K1,Around->K7,wpAny_seqItems->La,attributeBase->Lc,wpAny_call_entry->Le,sizeLine_eq->Lg,mem_of_lookup->Lk,backTo->Ll,wpAny_mono->Lo,wpAny_pyIter_list->Lp,wpAny_truthy_bool->LA,wpAny_callSpecial?_slot->LC,eval->LD,keywordEach->LG,codeAny_builtin->LN,wpAny_updateSeq->LO,behindInMarks->LR,plainId_quiet->LU,wpAny_field->LW,wpAny_loadPart'->L8,bootBuiltins->L_,wpAny_nextOf_list_item->Mc,Heap->Mf,wpAny_setState_of->Mi,Stmt->Mm,swapsWith->Mn,builtinLookup_eq_fast->Mo,intKind_is->Mt,wpAny_isInstance->Mu,cLine->MA,wpAny_specialOf->MQ,wpAny_ite_split->MS,FuncData->MT,assignEach->MX,wpAny_setField_rec->M4,Keyword->M7,backToKw->Na,sysModules->Nc,wpAny_newObj_type->Nd,wpAny_passesOwn->Nf,wpAny_pyNext_list_item->Nx,rawInt->NC,codeAny_mono->NJ,typeLookup_type->NP,wpAny_letGo->NQ,wpAny_attempt->NW,codeAny->NY,isSubtype_type->N3,wpAny_tryCatch->N5,binaryOp->N7,wpAny_askSetting->N8,ZipApart->N9,intKind->N_,wpAny_standAt->Oj,wpAny_Call_method_late->Os,sliceBounds->Ow,call_meets->Ox,ofAClassStatement->Oy,bindArgs->OG,wpAny_pyNext_list_end->OM,IsPair->OO,wpAny_nextOf_list_end->OP,wpAny_execs_cons->OU,wpAny_pyIter_zip->OY,valueAt->OZ,wpAny_newFunctionEnv->O9,builtinsNs->Pd,wpAny_rule->Pe,holding->Pf,wpAny_execs_nil->Pg,PassesOwn->Ph,getMethod->Pj,wpAny_setEntries_of->Pn,wpAny_newFunctionEnv_cells->Pu,GenState->Px,tupleKind_room_in1->PM,recursionLimit->PU,isSubtype_stop->PY,wpAny_letOwnedTupleGo_zip->P1,wpAny_Name->P5,wpAny_assign_Name->P6,wpAny_getItem_list_slice->P9,wpAny_comprehension_free->Qa,wpAny_pyIter_slot->Qe,swapsWithSole->Qk,swappedStores->Ql,setSearchFrom->Qo,richCompare->Qs,strIterType->Qt,wpAny_onRaise->Qu,wpAny_newList->Qv,wpAny_forIn_list->QC,codeAny_compStart_list->QJ,tupleKind->QM,wpAny_isTrue_Compare1->QN,codeAny_call_function->QQ,exec_Assign_Name_used->QS,wpAny_typeOf->QW,wpAny_eqIsQuiet_tuple->QX,IsZip->Q3,wpAny_pyNext_zip_item->Q4,strValues->Q9,wpAny_call->Rf,NameKind->Rg,typeLookup->Rh,typeIs_int->Ri,closureFor->Rj,wpAny_loadName_local->Rk,codeAny_extend_loopS->Ro,wpAny_pyNext_zip_end->Rq,pyNext->Rt,wpAny_setField->Rw,wpAny_newTuple->Rx,intText?->Ry,wpAny_loadName_cell->Rz,wpAny_loadName_free->RA,standAt->RB,subscripted->RC,callWith->RJ,cellsFrom->RK,evalPart_none->RM,pickOrder->RU,wpAny_tupleItemsOf->RV,Scope->RZ,wpAny_Return_some->R0,wpAny_Assign_Name->R5,getItem->R8,callerA->Sa,wpAny_storeSet_of->Sb,Within->Sm,pyIter->Sq,wpAny_getItem_of->SQ,letOwnedTupleGo->SZ,Result->S1,BindsTo->S4,hashByValue->Td,putSet_of->Te,codeAny_of_tree->Tf,wpAny_of_eq->Tg,codeAmong->Tq,wpAny_bindName->Tz,entryFor_alias->TH,wpAny_fieldsOf->TL,callType_codes->TM,numbered_texts->TU,wpAny_notIn_of->TV,intText_digits->T6,typeIs_str->T9,PlainAttrs->T_,compPost->Ue,argsOk->Ur,updateSeq->Uv,JoinOk->Ux,field->UL,atKey->UO,revObj->UV,bindL->UZ,bindC->U0,call->U1
open PySem.W renaming Frag->JI,mg_none_of->Ks,kia_one->Ln,codeHdIn->Lz,keepIn->LK,findIn->L4,emptyDict->Mg,instObj->MM,cellsFrom_some->Ny,callWith_K->ND,fnOf->NK,kitOne->OF,plainGet->OV,plainGet_of->Pi,lookIn->PR,codeIn->PV,hasDictIn->P7,kitx_list->P8,takerIn->QO,methodCall_KW->QP,kla_obj->Q_,kitx_tuple->RI,codeRec_of->RL,plainOver->R6,kitx_dict->R7,isFn->Sr,handedIn->SB,makesIn->S0,OpenLaw->S9,kla_fn->T4,mg_of->Uc,WalkO->Ud
open PySem.Heap renaming get?_push_of_some->JJ,get?_push_size->JT,lt_size->JU,get?_update_other->Kf,size_push->KU,get?_update_self->KW,SameBut->MD,get?_none_of_le->O5,ExtBut->UJ,IsList->UM
open Nat renaming le_refl->JR,lt_of_lt_of_le->Kc,le_of_lt->Kd,ne_of_lt->Kh,lt_or_eq_of_le->Kl,mod_eq_of_lt->Km,zero_le->Kv,lt_irrefl->KA,le_trans->KH,mod_lt->Lw,lt_succ_self->LS,ne_of_gt->LX,lt_succ_of_lt->LZ,le_of_lt_succ->L0,lt_or_ge->L1,lt_trans->Ma,lt_trichotomy->Mh,lt_of_le_of_lt->Mr,pow_succ->ME,mod_self->Ni,le_add_right->Nw,add_mod_right->OD,le_of_not_lt->OW,pow_le_pow_right->O8,mul_le_mul_right->O_,add_le_add_left->Pp,mod_eq_sub_mod->PF,eq_zero_or_pos->PJ,div_div_eq_div_mul->QK,mod_add_mod->QV,le_antisymm->Q8,toDigits->Re,mul_le_mul_left->RH,mod_mod_of_dvd->RS,add_sub_cancel->RX,le_of_eq->Ss,mul_comm->Sv,le_max_right->SE,min_le_right->SK,min_eq_right->SL,le_succ->S5,le_max_left->S7,log2_lt->S8,not_lt_zero->Ta,strongRecOn->Tc,min_eq_left->Ti,one_mul->Tx,mul_le_mul->T8,digitChar->Uk,add_comm->Ul,min_self->Uo,add_zero->Uq,sub_self->Uu,zero_add->UA,gcd_comm->UE,add_mod->UK,add_mul->UR
open Bool renaming false_eq_true->J4,false_ne_true->KZ,and_eq_true->K3,not_true->MZ,eq_iff_iff->NN,true_and->Ol,not_false->PX,beq_eq_decide_eq->QT,and_eq_true_iff->Rn,and_false->Rv,or_false->RO,and_true->RQ,eq_false_iff->Si,or_eq_true->S_,false_or->Ug
open Array renaming length_toList->Ke,getElem?_toList->KI,getD_eq_getD_getElem?->K0,getElem?_eq_getElem->Lb,getD->MJ,getElem?_eq_some_iff->MW,forIn_toList->NF,getElem?_replicate->Oc,mem_toList_iff->O6,foldl_toList->PH,toList_inj->QD,toList->So,toList_map->SI,size_map->TC
open PySem.Value renaming ref->Ku,type->Lv,isInt_shape->MF,none->MG,int->OK,isStrOf->Qi,str->SY,isInt->UG,bool->UX
open Int renaming dvd_trans->KC,dvd_mul_left->KF,mul_eq_zero->Lh,mul_nonneg->Li,one_mul->Lu,eq_of_mul_eq_mul_left->LP,mul_pos->L9,toNat_natCast->Mj,mul_assoc->Ml,mul_ediv_cancel'->MB,dvd_mul_right->MK,emod_add_mul_ediv->M5,mul_ediv_cancel_left->Nh,lt_or_le->Nj,emod_lt_of_pos->NH,dvd_add->NR,mul_zero->NT,natAbs_of_nonneg->NZ,gcd->Oa,mul_comm->Of,pos_of_mul_pos_right->Og,emod_nonneg->On,lt_or_eq_of_le->Oo,natAbs_mul->OH,natAbs_dvd_natAbs->OQ,mul_le_mul_of_nonneg_right->OT,dvd_refl->PN,gcd_dvd_right->Qg,mul_one->Qm,dvd_sub->Qw,dvd_antisymm->QF,gcd_dvd_left->QG,zero_mul->Rb,dvd_coe_gcd->Rc,dvd_neg->RF,lt_trichotomy->Sk,zero_dvd->Sx,add_zero->Sy,zero_add->SA,ediv_le_self->SR,natCast_emod->SU,le_refl->Ts,mul_le_mul->T5,le_of_dvd->Ui,ofNat_dvd->Uj,dvd_zero->Uy,le_total->Uz,sub_self->UB,le_trans->UC,mul_neg->UQ
open Option.some renaming inj->KG
open PySem.Obj renaming mapSeq->KS,data_mapFields->M3,putSet->Oz,isFreed_of_fields->Q1,cls_mapFields->Se
open PySem.F renaming slot_zip_next->KY,plain_extend_loop->Lr,slot_str_split->LI,plain_min_loop->LJ,called_set->L6,plainAttrs_str->Me,args_zip_next_1->MC,entry_zip_next->MV,entry_str_split->Nn,args_str_split_2->Od,type_str_split->Ot,entry_min_loop->Ov,entry_extend_loop->PZ,slot_dict_getitem->P3,args_list_init_2->Qf,plainAttrs_list->Qn,typeCall_list_1->Qq,entry_list_init->Qr,plain_set_new->QY,slot_set_iter->QZ,slot_zip_iter->Q5,slot_tuple_lt->Q7,called_list->RE
open PySem.Around renaming under_plainId->Ld,frames_deeper->Rm,under->Su,in1->U3
open Classical renaming byContradiction->LM,choose_spec->Q2,choose->SJ
open Prod renaming ext->L7,fst->Nt,snd->NI
open PySem.Calls renaming spliced_cons->Mq,callWith_builtin->Nz,spliced_nil->NU,Constant_str->Oi,evalArgs_plain->O7,Name_function_global->Pq
open PySem.MeetsSeq3 renaming plain_eq_loop->Mx,entry_eq_loop->O4
open List.Pairwise renaming map->ML,nil->NV,imp_of_mem->Qc
open PySem.Heap.SameBut renaming update->MR,refl->Qb
open Option renaming getD_some->Nu,isSome_iff_exists->Ob,map_eq_some_iff->Ou,getD_none->Qz,toList_some->RR,isSome_map->Sj,none->UI,map->U2,any->U4
open PyProof.Rows renaming boot_isinstance->NS,seqObj->Oe,boot_str->Pc,envOfC->Pl,assignInOrder_cons->Py,AllBare->Qj,subscriptTail_builtinR->QI,listUpdate_at->RW,assignInOrder_nil->R3,Subscript_->R9,tuples'->Sf,Keyed->Sh,SortKind->SV,boot_int->SX,get?_update_seq->Tn,seqEpoch_at->To,entry_list_sort->Tp,digits10_le->Tv,slot_list_sort->TX,args_list_sort->TY,sortedHeap_old->TZ,signs_ofString->T7,IntsAre->Ub,bubble->Us,IsTup->UH
open List.cons renaming injEq->Om
open ToString renaming toString->OE
open PySem.Heap.IsList renaming push->QE
open LawfulBEq renaming eq_of_beq->Ra
open PySem.Heap.IsSliceOf renaming new->RN
open List.Nodup renaming length_le_of_subset->Sw
open MonadExcept renaming tryCatch->SW
open List.Perm renaming refl->TJ
open PySem.Shared renaming TypeIs->Uh,heap->UN
open Nat.succ renaming inj->Uw
open PySem.W.KIN renaming signs_num->UD,val_back->UF
open PySem.W.Looks renaming here->US
open PySem.W.Dflts renaming none->UT,noKw->UU
open PySem.Within renaming cons->UY
open PySem.Heap.DictOf renaming new->U6
open PySem.W.Frag renaming In->U7
set_option hygiene false
set_option hygiene true
set_option hygiene false
local macro_rules|`(tactic|walk_at"sC")=>`(tactic|exact⟨rfl,rfl,rfl,by decide+kernel,rfl,by decide+kernel,by decide+kernel⟩)
local macro_rules|`(tactic|walk_at"b1")=>`(tactic|exact λ_ _ _ _ _ _ _ h=>My.ar1 h λ_=>rfl)
local macro_rules|`(tactic|walk_at"b2")=>`(tactic|exact λ_ _ _ _ _ _ _ h=>My.ar2 h λ_ _=>rfl)
local macro_rules|`(tactic|walk_at"b3")=>`(tactic|exact λ_ _ _ _ _ _ _ h=>My.ar3 h λ_ _ _=>rfl)
set_option hygiene true
set_option maxHeartbeats 8000000
set_option Elab.async false
set_option linter.all false
set_option maxRecDepth 100000
namespace L2
open PySem PySem.Spec PyProof.Rows
noncomputable abbrev Key:=Sum Int Str
noncomputable def oo:Key->J0->Bool
 | .inl k,v=>UG k v
 | .inr x,v=>Qi x v
noncomputable def IX(w:Kt):Key->Int
 | .inl k=>hashInt k
 | .inr x=>hashStr w x
theorem bI:∀{k}{v},oo k v=true->(∃i t,k=Sum.inl i/\v=OK i t)\/(∃x t,k=Sum.inr x/\v=SY x t)
 | .inl i,v,h=>by
  obtain⟨t,e⟩:=MF h;exact .inl ⟨i,t,rfl,e⟩
 | .inr x,v,h=>by
  obtain⟨t,e⟩:=Value.isStrOf_shape h;exact .inr ⟨x,t,rfl,e⟩
theorem yL(i)(t:Tok):oo (.inl i) (.int i t)=true:=by simp[oo,UG]
theorem yo(x)(t:Tok):oo (.inr x) (.str x t)=true:=by simp[oo,Qi]
theorem FD(a b):decide ((Sum.inl a:Key)=Sum.inl b)=(a==b):=by
 by_cases e:a=b
 .subst e;simp
 .have h:¬ (Sum.inl a:Key)=Sum.inl b:=λq=>e (Sum.inl.inj q);rw[decide_eq_false h];exact (beq_eq_false_iff_ne.mpr e).symm
theorem GB(a b):decide ((Sum.inr a:Key)=Sum.inr b)=decide (a=b):=by
 by_cases e:a=b
 .subst e;simp
 .have h:¬ (Sum.inr a:Key)=Sum.inr b:=λq=>e (Sum.inr.inj q);rw[decide_eq_false h,decide_eq_false e]
theorem Fw(a)(b):decide ((Sum.inl a:Key)=Sum.inr b)=false:=decide_eq_false (λq=>nomatch q)
theorem FC(a)(b):decide ((Sum.inr a:Key)=Sum.inl b)=false:=decide_eq_false (λq=>nomatch q)
noncomputable def cr(prog:J2)(w:Kt):PySem.KeyKind prog w Key where
 is:=oo
 hash:=IX w
 inj:=λv a b g d=>by
  rcases bI g with ⟨i,t,rfl,rfl⟩ |⟨x,t,rfl,rfl⟩
  .rcases bI d with ⟨j,u,rfl,e⟩ |⟨y,u,rfl,e⟩
   .injection e with e1 _;rw[e1]
   .exact nomatch e
  .rcases bI d with ⟨j,u,rfl,e⟩ |⟨y,u,rfl,e⟩
   .exact nomatch e
   .injection e with e1 _;rw[e1]
 byValue:=λk v h=>by
  rcases bI h with ⟨i,t,rfl,rfl⟩ |⟨x,t,rfl,rfl⟩ <;>rfl
 pyHash:=λc h=>by
  rcases bI c with ⟨i,t,rfl,rfl⟩ |⟨x,t,rfl,rfl⟩
  .exact wpAny_pyHash_int h
  .exact wpAny_pyHash_str h
 eqBool:=λf c h=>by
  rcases bI f with ⟨i,t,rfl,rfl⟩ |⟨x,t,rfl,rfl⟩
  .rcases bI c with ⟨j,u,rfl,rfl⟩ |⟨y,u,rfl,rfl⟩
   .rw[FD]at h;exact wpAny_eqBool_int h
   .rw[Fw]at h;exact SeqAt.EqAt.int_str i t y u _ _ _ _ h
  .rcases bI c with ⟨j,u,rfl,rfl⟩ |⟨y,u,rfl,rfl⟩
   .rw[FC]at h;exact SeqAt.EqAt.str_int x t j u _ _ _ _ h
   .rw[GB]at h;exact wpAny_eqBool_str h
 «strs»:=λk x t v h=>by
  rcases bI h with ⟨i,u,rfl,e⟩ |⟨y,u,rfl,e⟩
  .exact nomatch e
  .injection e with e1 _;subst e1;cases v <;>rfl
theorem rT(prog)(w)(i)(t:Tok):(cr prog w).is (.inl i) (.int i t)=true:=yL i t
theorem rB(prog)(w)(x)(t:Tok):(cr prog w).is (.inr x) (.str x t)=true:=yo x t
inductive V where
 |non |bl (b:Bool) |int (i:Int) |str (x:Str) |byt (b:Array UInt8) |flt (b:UInt64) |ref (a:Kb) |ty (n:String)
 deriving DecidableEq
noncomputable def aM:V->J0->Prop
 | .non,u=>u=MG
 | .bl b,u=>u=UX b
 | .int i,u=>∃t,u=OK i t
 | .str x,u=>∃t,u=SY x t
 | .byt b,u=>∃t,u=Value.bytes b t
 | .flt b,u=>∃t,u=Value.float b t
 | .ref a,u=>u=Ku a
 | .ty n,u=>u=Lv n
abbrev aP:List V->List J0->Prop:=Paired aM
theorem aP.length(r:aP xs us):xs.length=us.length:=Paired.length r
theorem aP.get:∀{b}{a}{i:Nat}{x},aP b a->b[i]?=some x->∃u,a[i]?=some u/\aM x u
 |_,_,_,_,.nil,e=>by simp at e
 |_,_,0,_,.cons r _,e=>by simp at e;subst e;exact⟨_,rfl,r⟩
 |_,_,i+1,x,.cons _ t,e=>by
  obtain⟨u,c,d⟩:=aP.get t (by simpa using e);exact⟨u,by simpa using c,d⟩
theorem aP.append:∀{b c}{a d},aP b a->aP c d->aP (b++c) (a++d)
 |_,_,_,_,.nil,s=>s
 |_,_,_,_,.cons r t,s=>.cons r (aP.append t s)
theorem aP.take:∀{b}{a} n,aP b a->aP (b.take n) (a.take n)
 |_,_,0,_=>.nil
 |_,_,_+1,.nil=>.nil
 |_,_,n+1,.cons r t=>.cons r (aP.take n t)
theorem aP.drop:∀{b}{a} n,aP b a->aP (b.drop n) (a.drop n)
 |_,_,0,r=>r
 |_,_,_+1,.nil=>.nil
 |_,_,n+1,.cons _ t=>aP.drop n t
noncomputable def ig:Option V->Option J0->Prop
 |some v,some u=>aM v u
 |none,none=>True
 |_,_=>False
def KV{a:Type}:List (a×V)->List (a×J0)->Prop:=Paired λ(p:a×V) (q:a×J0)=>p.1=q.1/\aM p.2 q.2
noncomputable def kV:Key->V
 | .inl i=>.int i
 | .inr x=>.str x
inductive HO where
 /-- a list -/
 |lst (xs:List V)
 /-- a tuple (never changes) -/
 |tup (xs:List V)
 /-- a dict whose keys are ints and texts;one whose keys are tuples of ints and texts (the empty one is both) -/
 |dK (Va:List (Key×V)) |dT (Va:List (List Key×V))
 /-- a set of ints:Vb members,Vb size -/
 |set (S:Int->Bool) (n:Nat)
 /-- an instance of the class at C,Vb dict at dx,Vb attributes -/
 |ins (C dx:Kb) (fs:List (Str×V))
 /-- the dict of the instance at x -/
 |own (x:Kb)
 /-- the dict of an exception -/
 |xd (fs:List (Str×V))
 /-- a bound method,f of x -/
 |met (f x:Kb)
 /-- a range object lo,lo+1,.. below hi -/
 |rng (lo hi:Int)
 /-- a thing that is known to the object (the script;a dict while a loop walks it):read,never written while it is so -/
 |frz (o:Obj) (u:HO)
 /-- a code object's table -/
 |tbl (ps:Array J0)
 /-- any other thing,by what is true of Vb one object (a def of one's own:SetO a S n:=HO.ext λh=>..) -/
 |ext (φ:Mf->Prop)
noncomputable abbrev Hp:=Kb->Option HO
noncomputable def upd(H:Hp)(a:Kb)(o:HO):Hp:=λb=>if b=a then some o else H b
theorem aG:upd H a o a=some o:=by unfold upd;rw[if_pos rfl]
theorem aD(h:b≠a):upd H a o b=H b:=by unfold upd;rw[if_neg h]
theorem HW{H:Hp}(h:H a=some o)(h':H b=some u)(d:o≠u):a≠b:=by
 intro e;subst e;rw[h]at h';exact d (KG h')
theorem b9{H:Hp}(h:H a=some o)(h':H b=none):a≠b:=by
 intro e;subst e;rw[h]at h';cases h'
noncomputable def jQ:Str:="to_form.<locals>.<lambda>"
noncomputable def fZ:List (Nat×Nat×Kb)->List J0
 |[]=>[]
 |t::ts=>NC t.1::NC t.2.1::.ref t.2.2::fZ ts
def Hi(H:Hp)(h:Mf)(a:Kb):Prop:=∃d:List (Nat×Nat×Kb),h.get? a=some {cls:=.none,data:=.fields (fZ d).toArray }/\∀t∈d,∃b u c e,H t.2.2=some (.frz b u)/\b.data=.fields c/\c[1]?=some (.str jQ e)
section
variable (P:J2) (w:Kt)
noncomputable def cB(H:Hp)(h:Mf)(a:Kb):HO->Prop
 | .lst xs=>xs.length≤sizeLine∧∃(c:List J0) (n:Nat),aP xs c∧h.get? a=some {cls:=.type "list",data:=.seq c.toArray n }
 | .tup xs=>xs.length<=sizeLine/\∃c:List J0,aP xs c/\UH h a c.toArray
 | .dK Va=>Va.length<=sizeLine/\(a==Nc)=false/\∃e,KV Va e/\h.DictOf (cr P w) a e
 | .dT Va=>Va.length<=sizeLine/\(a==Nc)=false/\∃xs:List (List Key×Kb×J0),
   Paired (λ(p:List Key×V) (q:List Key×Kb×J0)=>p.1=q.1/\H q.2.1=some (.tup (p.1.map kV))/\aM p.2 q.2.2) Va xs/\
   ∃o i l,h.get? a=some o/\o.ExactDict/\o.data=.dict i l/\i.toList=xs.map (entryOfKey (QM (cr P w)))/\(xs.map (·.1)).Nodup
 | .set S n=>h.SetOf (N_ P w) a S n
 | .ins C d fs=>H d=some (.own a)/\fs.length<=1000/\d≠a/\h.get? a=some (MM C d)/\
   ∃b,h.Ns1 d b/\(∀f,ig (fs.lookup f) (b f))/\Sm b (fs.map (·.1))
 | .own _=>∃o,h.get? a=some o
 | .xd fs=>∃b,h.Ns1 a b/\∀f,ig (fs.lookup f) (b f)
 | .rng lo k=>∃t u v,h.get? a=some {cls:=.type "range",data:=.fields #[.int lo t,.int k u,.int 1 v] }
 | .frz o u=>h.get? a=some o/\cB H h a u
 | .tbl _=>Hi H h a
 | .met f x=>h.get? a=some (PySem.W.methodObj (.ref f) (.ref x))
 | .ext φ=>φ h/\(∃o,h.get? a=some o)/\∀g j:Mf,φ g->(∀o,g.get? a=some o->j.get? a=some o)->φ j
def HOk(H:Hp)(h:Mf):Prop:=∀a o,H a=some o->cB P w H h a o
end
section
variable {P:J2}{w:Kt}{H H':Hp}{h h':Mf}{a:Kb}{o:HO}
theorem cB.lt(x:cB P w H h a o):a<h.objs.size:=by
 cases o with
 |lst c=>obtain⟨_,_,_,_,e⟩:=x;exact JU e
 |tup c=>obtain⟨_,_,_,p⟩:=x;exact p.lt
 |dK b=>obtain⟨_,_,_,_,o,_,_,e,_⟩:=x;exact JU e
 |dT b=>obtain⟨_,_,_,_,o,_,_,e,_⟩:=x;exact JU e
 |set S n=>obtain⟨o,_,_,_,e,_⟩:=x;exact JU e
 |ins C i fs=>obtain⟨_,_,_,e,_⟩:=x;exact JU e
 |own y=>obtain⟨_,e⟩:=x;exact JU e
 |xd fs=>obtain⟨_,⟨_,_,_,e,_⟩,_⟩:=x;exact JU e
 |rng l j=>obtain⟨_,_,_,e⟩:=x;exact JU e
 |frz d u=>obtain⟨e,_⟩:=x;exact JU e
 |tbl k=>obtain⟨_,e,_⟩:=x;exact JU e
 |met f y=>exact JU x
 |ext g=>obtain⟨_,⟨_,e⟩,_⟩:=x;exact JU e
theorem Paired.mapP{α e:Type}{F G:α->e->Prop}:∀{c}{d},Paired F c d->(∀a b,F a b->G a b)->Paired G c d
 |_,_,.nil,_=>.nil
 |_,_,.cons r t,f=>.cons (f _ _ r) (Paired.mapP t f)
theorem cB.stay(x:cB P w H h a o)(k:∀b u,(b=a\/H b=some (.own a))->h.get? b=some u->h'.get? b=some u)
  (ho:∀b,H b=some (.own a)->H' b=some (.own a)) (hz:∀b o u,H b=some (.frz o u)->H' b=some (.frz o u)) (ht:∀b l,H b=some (.tup l)->H' b=some (.tup l)):cB P w H' h' a o:=by
 induction o with
 |lst l=>obtain⟨z,A,n,r,e⟩:=x;exact⟨z,A,n,r,k _ _ (.inl rfl) e⟩
 |tup l=>obtain⟨z,A,r,g,e,c⟩:=x;exact⟨z,A,r,g,k _ _ (.inl rfl) e,c⟩
 |dK I=>obtain⟨z,y,m,r,g,i,j,e,c⟩:=x;exact⟨z,y,m,r,g,i,j,k _ _ (.inl rfl) e,c⟩
 |dT I=>
  obtain⟨z,y,l,r,g,i,j,e,c⟩:=x;exact⟨z,y,l,Paired.mapP r λp q z=>⟨z.1,ht _ _ z.2.1,z.2.2⟩,g,i,j,k _ _ (.inl rfl) e,c⟩
 |set S n=>obtain⟨g,i,j,t,e,c⟩:=x;exact⟨g,i,j,t,k _ _ (.inl rfl) e,c⟩
 |ins C Q fs=>
  obtain⟨d,z,G,e,B,⟨s,i,j,K,c⟩,r⟩:=x;exact⟨ho _ d,z,G,k _ _ (.inl rfl) e,B,⟨s,i,j,k _ _ (.inr d) K,c⟩,r⟩
 |own y=>obtain⟨g,e⟩:=x;exact⟨g,k _ _ (.inl rfl) e⟩
 |xd fs=>obtain⟨B,⟨s,i,j,e,c⟩,r⟩:=x;exact⟨B,⟨s,i,j,k _ _ (.inl rfl) e,c⟩,r⟩
 |rng U R=>obtain⟨t,u,v,e⟩:=x;exact⟨t,u,v,k _ _ (.inl rfl) e⟩
 |frz g u J=>obtain⟨e,q⟩:=x;exact⟨k _ _ (.inl rfl) e,J q⟩
 |tbl T=>
  obtain⟨M,e,q⟩:=x;refine⟨M,k a _ (.inl rfl) e,λt ht=>?_⟩;obtain⟨F,u,m,L,E,N⟩:=q t ht;exact⟨F,u,m,L,hz _ _ _ E,N⟩
 |met f y=>
  have e:=x;exact k a _ (.inl rfl) e
 |ext O=>obtain⟨p,⟨o,e⟩,D⟩:=x;exact⟨D _ _ p λo q=>k _ _ (.inl rfl) q,⟨o,k _ _ (.inl rfl) e⟩,D⟩
theorem HOk.lt(x:HOk P w H h)(e:H a=some o):a<h.objs.size:=(x a o e).lt
theorem HOk.fresh(x:HOk P w H h)(e:h.objs.size<=a):H a=none:=by
 cases q:H a with
 |none=>rfl
 |some u=>exact absurd (Kc (x.lt q) e) (KA _)
theorem HOk.kept(x:HOk P w H h)(k:∀b u,h.get? b=some u->h'.get? b=some u):HOk P w H h':=λa o e=>
 (x a o e).stay (λb u _ q=>k b u q) (λ_ q=>q) (λ_ _ _ q=>q) λ_ _ q=>q
theorem HOk.laid(x:HOk P w H h)(k:∀b u,h.get? b=some u->h'.get? b=some u)(i:h.objs.size<=a)(d:cB P w (upd H a o) h' a o):HOk P w (upd H a o) h':=λb u e=>by
 have f:=x.fresh i;by_cases g:b=a
 .subst g;rw[aG]at e;cases e;exact d
 .rw[aD g]at e;exact (x b u e).stay (λc v _ q=>k c v q) (λc q=>by rw[aD (b9 q f)];exact q) (λc m l q=>by rw[aD (b9 q f)];exact q) λc j q=>by rw[aD (b9 q f)];exact q
end
def Rd(H:Hp)(a:Kb)(u:HO):Prop:=H a=some u\/∃o,H a=some (.frz o u)
theorem Rd.ok(r:Rd H a u)(x:HOk P w H h):cB P w H h a u:=by
 rcases r with r |⟨o,r⟩
 .exact x a u r
 .obtain⟨_,q⟩:=x a _ r;exact q
noncomputable def Mut:Option HO->Prop
 |some (.lst _)=>True
 |some (.dK _)=>True
 |some (.dT _)=>True
 |some (.set _ _)=>True
 |some (.ins _ _ _)=>True
 |some (.ext _)=>True
 |_=>False
section
variable {P:J2}{w:Kt}{H:Hp}{h h':Mf}{x e:Kb}{o':HO}
theorem HOk.write(s:HOk P w H h)(f:Mut (H x))(n:e=x\/H e=some (.own x))(k:∀b u,b≠e->h.get? b=some u->h'.get? b=some u)(m:∃u,h'.get? e=some u)
  (new:cB P w (upd H x o') h' x o'):HOk P w (upd H x o') h':=λb u q=>by
 have d:∀c y,H c=some (.own y)->c≠x:=λc y r z=>by subst z;rw[r]at f;exact f
 have g:∀c j,H c=some (.tup j)->c≠x:=λc j r z=>by subst z;rw[r]at f;exact f
 by_cases i:b=x
 .subst i;rw[aG]at q;cases q;exact new
 .rw[aD i]at q;by_cases a:b=e
  .have o:H b=some (.own x):=by
    rcases n with z |z
    .exact absurd (a.trans z) i
    .rw[a];exact z
   rw[q]at o;cases o;obtain⟨v,p⟩:=m;exact⟨v,by rw[a];exact p⟩
  .refine (s b u q).stay (λc v l r=>k c v ?_ r) (λc r=>by rw[aD (d c b r)];exact r) (λc o' t r=>by rw[aD (λz=>by subst z;rw[r]at f;exact f)];exact r) λc j r=>by rw[aD (g c j r)];exact r
   rcases l with rfl |l
   .exact a
   .rintro rfl;rcases n with z |z
    .exact d c b l z
    .rw[l]at z;cases z;exact i rfl
end
structure Un(fs ex:List Kb)(H H':Hp)(h h':Mf):Prop where
 keep:∀b o,h.get? b=some o->H b=none->b ∉ fs->b ∉ ex->h'.get? b=some o
 slot:∀b o,h.get? b=some o->H b=none->b∈fs->b ∉ ex->∃sl,h'.get? b=some {o with slots:=sl }
 free:∀b o,h.get? b=some o->H b=none->b ∉ ex->H' b=none
 there:∀b o,h.get? b=some o->b ∉ ex->∃o',h'.get? b=some o'
 tups:∀b xs,H b=some (.tup xs)->H' b=some (.tup xs)
 frzs:∀b o u,H b=some (.frz o u)->H' b=some (.frz o u)
 tbls:∀b ps,H b=some (.tbl ps)->∃more,H' b=some (.tbl (ps++more))
section
variable {fs fs' ex XG:List Kb}{H H1 H2:Hp}{h h1 h2 h':Mf}{a x e:Kb}{o:HO}
theorem Un.any(u:Un fs ex H H1 h h1)(q:h.get? b=some ob)(n:H b=none)(c:b ∉ ex):∃d,h1.get? b=some {ob with slots:=d }:=by
 by_cases a:b∈fs
 .exact u.slot b ob q n a c
 .exact⟨ob.slots,u.keep b ob q n a c⟩
theorem Un.kept(k:∀b u,h.get? b=some u->h'.get? b=some u):Un fs ex H H h h':=
 ⟨λb a q _ _ _=>k b a q,λb a q _ _ _=>⟨a.slots,k b a q⟩,λ_ _ _ n _=>n,λb a q _=>⟨a,k b a q⟩,λ_ _ q=>q,λ_ _ _ q=>q,λ_ c q=>⟨#[],by rw[q];simp⟩⟩
theorem Un.refl:Un fs ex H H h h:=Un.kept λ_ _ q=>q
theorem Un.laid(k:∀b u,h.get? b=some u->h'.get? b=some u)(e:h.objs.size<=a)(c:H a=none):Un fs ex H (upd H a o) h h' where
 keep:=λb u q _ _ _=>k b u q
 slot:=λb u q _ _ _=>⟨u.slots,k b u q⟩
 free:=λb u q n _=>by rw[aD (Kh (Kc (JU q) e))];exact n
 there:=λb u q _=>⟨u,k b u q⟩
 tups:=λb d q=>by rw[aD (b9 q c)];exact q
 frzs:=λb u d q=>by rw[aD (b9 q c)];exact q
 tbls:=λb f q=>⟨#[],by rw[aD (b9 q c),q];simp⟩
theorem Un.write(c:Mut (H x))(l:e=x\/H e=some (.own x))(k:∀b u,b≠e->h.get? b=some u->h'.get? b=some u)(f:∃u,h'.get? e=some u):Un fs ex H (upd H x o) h h':=by
 have i:∀b,H b=none->b≠x:=λb n z=>by subst z;rw[n]at c;exact c
 have g:∀b,H b=none->b≠e:=λb n z=>by
  subst z;rcases l with r |r
  .exact i b n r
  .rw[n]at r;cases r
 have d:∀b u,H b=some u->¬ Mut (some u)->b≠x:=λb u q nm z=>by subst z;rw[q]at c;exact nm c
 refine⟨λb u q n _ _=>k b u (g b n) q,λb u q n _ _=>⟨u.slots,k b u (g b n) q⟩,λb u q n _=>by rw[aD (i b n)];exact n,λb u q _=>?_,
  λb j q=>by rw[aD (d b _ q λz=>z)];exact q,λb u j q=>by rw[aD (d b _ q λz=>z)];exact q,λb m q=>⟨#[],by rw[aD (d b _ q λz=>z),q];simp⟩⟩
 by_cases a:b=e
 .subst a;exact f
 .exact⟨u,k b u a q⟩
end
noncomputable def trk(h:Mf)(H:Hp):List Kb:=(Kr h.objs.size).filter λa=>(H a).isSome
noncomputable def nG(h:Mf)(H:Hp):Mf:=PySem.W.hideAll h (trk h H)
theorem yl(h)(H):(nG h H).objs.size=h.objs.size:=PySem.W.hideAll_size _ _
theorem B7(e:h.get? b=some o)(n:H b=none):(nG h H).get? b=some o:=
 PySem.W.hideAll_get _ e λa=>by
  have q:=(KN.mp a).2;rw[n]at q;simp at q
theorem wu(e:(nG h H).get? b=some o):h.get? b=some o/\H b=none:=by
 have a:=PySem.W.of_hideAll (trk h H) e;refine⟨a,?_⟩;cases q:H b with
 |none=>rfl
 |some x=>
  have c:b∈trk h H:=KN.mpr ⟨J_.mpr (JU a),by simp[q]⟩;have z:(nG h H).get? b=none:=PySem.W.hideAll_none (trk h H) c;rw[z]at e;cases e
noncomputable def Cz(g h:Mf)(L:Kb):List (Kb×Obj):=(Kr h.objs.size).filterMap λa=>if a=L\/(g.get? a).isSome=true then none else (h.get? a).map λo=>(a,o)
noncomputable def rest(g h:Mf)(L d:Kb):List (Kb×Obj):=(Cz g h L).filter λp=>decide (p.1≠d)
structure Mod(K:JI)(mg:Str->Option J0)(base:Mf):Prop where
 kin:K.In base
 glob:base.Ns K1 mg
 blt:∃mb,base.Ns Pd mb∧∀x:Str,x≠"__name__"→mb x=L_ x
 nolimit:base.NoLimit
structure Cx where
 prog:J2
 w:Kt
 K:JI
 mg:Str->Option J0
 base:Mf
 A:K7
 N:List Str
 s₀:JY
 H₀:Hp
 env:Env
 outer:List Env
 stack:List Env
 ex:List Kb
 fn:Str->Bool
 calm:Bool
 pn:List (Kb×Obj)
 xe:J0->JY->Prop
noncomputable def frs(l:List Env):List Kb:=l.filterMap (·.frame)
noncomputable abbrev Cx.fs(X:Cx):List Kb:=frs X.outer
def Vis(a:RZ)(x:Str):Prop:=a.names.lookup x=some .local\/a.names.lookup x=some .cell\/a.names.lookup x=some .free
def Loc(a:RZ)(x:Str):Prop:=a.names.lookup x=some .local\/a.names.lookup x=some .cell
def Jj(a:Env)(h:Mf)(m:Str->Option J0)(x:Str)(u:J0):Prop:=
 (a.kindOf x=some .local/\m x=some u)\/((a.kindOf x=some .cell\/a.kindOf x=some .free)/\∃c,a.cells.lookup x=some c/\h.IsCell c (some u))
def Amb(h:Str→Option J0)(a:Mf)(H:Hp):Prop:=∀f o e c b d P,h "to_form"=some (.ref f)→a.get? f=some o→o.data=.func e→e.code=.ref c→a.get? c=some b→b.data=.fields d→d.getD 11 .none=.ref P→∃g,H P=some (.tbl g)
structure Frf(mg:Str->Option J0)(base:Mf)(fs:List Kb)(H:Hp):Prop where
 fr:∀b∈fs,H b=none
 amb:Amb mg base H
structure Cx.Ok(X:Cx):Prop where
 mod:Mod X.K X.mg X.base
 kind:X.env.scope.kind=.function
 glob:X.env.globals=K1
 blt:X.env.builtins=Pd
 above:X.s₀.heap.objs.size<=X.env.locals
 inj:∀x y c,X.env.cells.lookup x=some c->X.env.cells.lookup y=some c->x=y
 has:∀x,(X.env.kindOf x=some .cell\/X.env.kindOf x=some .free)->∃c,X.env.cells.lookup x=some c
 cab:∀x c,X.fn x=true->X.env.cells.lookup x=some c->X.s₀.heap.objs.size<=c
 hd:X.calm=true->X.A.handled=none
 frames:X.A.frames=some X.stack
 stk:X.stack=X.outer\/(X.stack=X.env::X.outer/\X.env.frame=some X.env.locals)
 exf:∀b∈X.ex,b≠X.env.locals/\∀x c,X.env.cells.lookup x=some c->c≠b
 bs:∀b o,X.base.get? b=some o->X.s₀.heap.get? b=some o/\X.H₀ b=none
 bsz:X.base.objs.size<=X.s₀.heap.objs.size
 noex:∀b o,X.base.get? b=some o->b ∉ X.ex
 exfs:∀b∈X.ex,b ∉ X.fs
 funs:X.s₀.heap.FunFrames X.base X.outer
 frf:Frf X.mg X.base X.fs X.H₀
structure Inv(X:Cx)(U8:List (Kb×Obj))(σ:List (Option V))(H:Hp)(s:JY):Prop where
 ok:X.Ok
 os:s.os=X.s₀.os
 bare:Qj s.gens
 base:Un X.fs X.ex X.H₀ H X.s₀.heap s.heap
 loc:∃m,s.heap.Ns X.env.locals m/\∀(i:Nat) (x:Str) (v:V),X.N[i]?=some x->σ[i]?=some (some v)->Vis X.env.scope x->∃u,aM v u/\Jj X.env s.heap m x u
 cell:∀x c,X.env.cells.lookup x=some c->∃v,s.heap.IsCell c v
 free:H X.env.locals=none
 freeC:∀x c,X.env.cells.lookup x=some c->H c=none
 pin:∀p∈X.pn++U8,s.heap.get? p.1=some p.2/\H p.1=none/\p.1≠X.env.locals/\p.1 ∉ X.fs/\∀v,p.2.data≠.cell v
 hok:HOk X.prog X.w H s.heap
 len:σ.length=X.N.length
section
variable {X:Cx}{U8:List (Kb×Obj)}{σ:List (Option V)}{H H':Hp}{s:JY}{h':Mf}
theorem Cx.Ok.nofr(a:X.Ok)(e:X.base.get? b=some o):b ∉ X.fs:=λc=>by
 have:=(a.funs.mem c).1;rw[e]at this;cases this
theorem Inv.bs(I:Inv X U8 σ H s):∀b o,X.base.get? b=some o->s.heap.get? b=some o/\H b=none:=λb o e=>
 ⟨I.base.keep b o (I.ok.bs b o e).1 (I.ok.bs b o e).2 (I.ok.nofr e) (I.ok.noex b o e),I.base.free b o (I.ok.bs b o e).1 (I.ok.bs b o e).2 (I.ok.noex b o e)⟩
theorem Inv.bk(I:Inv X U8 σ H s):∀b o,X.base.get? b=some o->s.heap.get? b=some o:=λb o e=>(I.bs b o e).1
theorem Inv.mod(I:Inv X U8 σ H s):Mod X.K X.mg X.base:=I.ok.mod
theorem Inv.kIn(I:Inv X U8 σ H s):X.K.In s.heap:=I.ok.mod.kin.keeps I.bk
theorem Inv.nolimit(I:Inv X U8 σ H s):s.heap.NoLimit:=I.ok.mod.nolimit.keeps I.bk
theorem Inv.lt(I:Inv X U8 σ H s):X.env.locals<s.heap.objs.size:=let ⟨_,hn,_⟩:=I.loc;hn.lt
theorem Inv.sz(I:Inv X U8 σ H s):X.s₀.heap.objs.size<=s.heap.objs.size:=KH I.ok.above (Kd I.lt)
theorem Inv.nofs(I:Inv X U8 σ H s)(h:s.heap.objs.size<=a):a ∉ X.fs:=λc=>by
 obtain⟨_,o,b,_⟩:=I.ok.funs.mem c;exact absurd (Kc (JU b) (KH I.sz h)) (KA _)
theorem Inv.cne(I:Inv X U8 σ H s):∀x c,X.env.cells.lookup x=some c->c≠X.env.locals:=λx c e z=>by
 obtain⟨v,o,a,b⟩:=I.cell x c e;obtain⟨m,⟨i,h,g,d,f,_⟩,_⟩:=I.loc;rw[z,d]at a;cases a;rw[f]at b;cases b
theorem Inv.funs(I:Inv X U8 σ H s):s.heap.FunFrames X.base X.outer:=by
 have all:∀l,(∀b∈frs l,b∈X.fs)->X.s₀.heap.FunFrames X.base l->s.heap.FunFrames X.base l:=by
  intro l
  induction l with
  |nil=>intro _ _;trivial
  |cons m r i=>
   intro f k;obtain⟨n,⟨L,o,d,p,h,g⟩,j⟩:=k;have c:=f L (by unfold frs;rw[MN,d];exact JP);obtain⟨q,e⟩:=I.base.slot L o h (I.ok.frf.fr L c) c λz=>I.ok.exfs L z c;exact⟨n,⟨L,_,d,p,e,g⟩,i (λb a=>f b (by unfold frs;rw[MN,d];exact JL _ a)) j⟩
 exact all X.outer (λ_ a=>a) I.ok.funs
theorem Inv.stack(I:Inv X U8 σ H s):s.heap.FunFrames X.base X.stack:=by
 rcases I.ok.stk with e |⟨e,b⟩
 .rw[e];exact I.funs
 .rw[e];obtain⟨m,a,_⟩:=I.loc;refine .cons (by rw[I.ok.kind];decide) b a ?_ I.funs;exact O5 (KH I.ok.bsz I.ok.above)
theorem Inv.stkSub(I:Inv X U8 σ H s):∀b∈frs X.stack,b∈X.env.locals::X.fs:=λb a=>by
 rcases I.ok.stk with e |⟨e,c⟩
 .rw[e]at a;exact JL _ a
 .rw[e]at a;unfold frs at a;rw[MN,c]at a;exact a
theorem Inv.amb(I:Inv X U8 σ H s):Amb X.mg X.base H:=λf o j c h a P d p b n g i l=>by
 obtain⟨k,e⟩:=I.ok.frf.amb f o j c h a P d p b n g i l;obtain⟨m,q⟩:=I.base.tbls P k e;exact⟨_,q⟩
theorem Inv.stkFree(I:Inv X U8 σ H s):∀b∈frs X.stack,H b=none:=λb a=>by
 rcases JN.mp (I.stkSub b a) with e |a
 .rw[e];exact I.free
 .obtain⟨_,o,c,_⟩:=I.ok.funs.mem a;exact I.base.free b o c (I.ok.frf.fr b a) λz=>I.ok.exfs b z a
theorem Inv.step{M:Array Px}{t':Nat}{T:Drawn}{ch:List Kb}(I:Inv X U8 σ H s)
  (Xz:∀b∈ch,(b∈X.ex\/X.s₀.heap.objs.size<=b)/\b≠X.env.locals/\(∀x c,X.env.cells.lookup x=some c->c≠b)/\∀p∈X.pn++U8,p.1≠b)
  (keep:∀b o,b≠X.env.locals->b ∉ X.fs->b ∉ ch->s.heap.get? b=some o->H b=none->h'.get? b=some o)
  (slot:∀b o,b≠X.env.locals->b∈X.fs->b ∉ ch->s.heap.get? b=some o->H b=none->∃E,h'.get? b=some {o with slots:=E }) (free:∀b o,b ∉ ch->s.heap.get? b=some o->H b=none->H' b=none)
  (there:∀b o,b ∉ ch->s.heap.get? b=some o->∃A,h'.get? b=some A)
  (tups:∀b j,H b=some (.tup j)->H' b=some (.tup j)) (frzs:∀b o u,H b=some (.frz o u)->H' b=some (.frz o u)) (tbls:∀b D,H b=some (.tbl D)->∃more,H' b=some (.tbl (D++more)))
  (ns:∀m,s.heap.Ns X.env.locals m->h'.Ns X.env.locals m) (hok:HOk X.prog X.w H' h') (hg:Qj M):
  Inv X U8 σ H' {s with heap:=h',gens:=M,drawn:=T,toks:=t' }:=by
 have C:∀b o,X.s₀.heap.get? b=some o->b≠X.env.locals:=λb o e=>Kh (Kc (JU e) I.ok.above)
 have g:∀b o,X.s₀.heap.get? b=some o->b ∉ X.ex->b ∉ ch:=λb o e a t=>by
  rcases (Xz b t).1 with z |z
  .exact a z
  .exact absurd (Kc (JU e) z) (KA _)
 have O:∀x c,X.env.cells.lookup x=some c->∀v,s.heap.IsCell c v->h'.IsCell c v:=λx c e v Q=>by
  obtain⟨o,y,G⟩:=Q;have f:c ∉ ch:=λz=>(Xz c z).2.2.1 x c e rfl;by_cases J:c∈X.fs
  .obtain⟨E,q⟩:=slot c o (I.cne x c e) J f y (I.freeC x c e);exact⟨_,q,G⟩
  .exact⟨o,keep c o (I.cne x c e) J f y (I.freeC x c e),G⟩
 refine⟨I.ok,I.os,hg,⟨λb o e n t a=>?_,λb o e n t a=>?_,λb o e n a=>?_,λb o e a=>?_,λb j e=>tups b j (I.base.tups b j e),λb o j e=>frzs b o j (I.base.frzs b o j e),λb D e=>?_⟩,?_,λx c e=>?_,?_,λx c e=>?_,λp K=>?_,hok,I.len⟩
 .exact keep b o (C b o e) t (g b o e a) (I.base.keep b o e n t a) (I.base.free b o e n a)
 .obtain⟨E,h⟩:=I.base.slot b o e n t a;obtain⟨F,B⟩:=slot b _ (C b o e) t (g b o e a) h (I.base.free b o e n a);exact⟨F,B⟩
 .obtain⟨A,h⟩:=I.base.there b o e a;exact free b A (g b o e a) h (I.base.free b o e n a)
 .obtain⟨A,h⟩:=I.base.there b o e a;exact there b A (g b o e a) h
 .obtain⟨P,h⟩:=I.base.tbls b D e;obtain⟨S,B⟩:=tbls b _ h;exact⟨P++S,by rw[B,Array.append_assoc]⟩
 .obtain⟨m,U,R⟩:=I.loc;refine⟨m,ns m U,λi x v h B V=>?_⟩;obtain⟨u,r,l⟩:=R i x v h B V;refine⟨u,r,?_⟩;rcases l with l |⟨k,c,e,z⟩
  .exact .inl l
  .exact .inr ⟨k,c,e,O x c e _ z⟩
 .obtain⟨v,z⟩:=I.cell x c e;exact⟨v,O x c e v z⟩
 .obtain⟨m,⟨o,_,_,y,_⟩,_⟩:=I.loc;exact free _ o (λz=>(Xz _ z).2.1 rfl) y I.free
 .obtain⟨v,o,y,G⟩:=I.cell x c e;exact free c o (λz=>(Xz c z).2.2.1 x c e rfl) y (I.freeC x c e)
 .obtain⟨e,n,N,L,d⟩:=I.pin p K;have f:p.1 ∉ ch:=λz=>(Xz p.1 z).2.2.2 p K rfl;exact⟨keep p.1 p.2 N L f e n,free p.1 p.2 f e n,N,L,d⟩
theorem Inv.un(I:Inv X U8 σ H s)(u:Un X.fs [] H H' s.heap h')(c:HOk X.prog X.w H' h'):Inv X U8 σ H' {s with heap:=h',toks:=t' }:=by
 obtain⟨m,⟨o,p,v,h,r⟩,_⟩:=id I.loc;obtain⟨q,j⟩:=u.any h I.free (by simp)
 exact I.step (ch:=[]) (λ_ z=>nomatch z) (λb o _ a _ e n=>u.keep b o e n a (by simp)) (λb o _ a _ e n=>u.slot b o e n a (by simp)) (λb o _ e n=>u.free b o e n (by simp)) (λb o _ e=>u.there b o e (by simp)) u.tups u.frzs u.tbls (λl i=>by
  obtain⟨t,f,d,g,k⟩:=i;rw[h]at g;cases g;exact⟨_,f,d,j,k⟩) c I.bare
theorem Inv.call(I:Inv X U8 σ H s)(u:Un (frs X.stack) ch H H' s.heap h')(d:HOk X.prog X.w H' h')(t:Qj g')
  (Xz:∀b∈ch,(b∈X.ex\/X.s₀.heap.objs.size<=b)/\b≠X.env.locals/\(∀x c,X.env.cells.lookup x=some c->c≠b)/\∀p∈X.pn++U8,p.1≠b):
  Inv X U8 σ H' {s with heap:=h',gens:=g',drawn:=d',toks:=t' }:=by
 obtain⟨m,⟨o,y,C,j,r⟩,_⟩:=id I.loc;obtain⟨A,f⟩:=u.any j I.free λz=>(Xz _ z).2.1 rfl
 exact I.step Xz (λb o f k a e n=>u.keep b o e n (λz=>(JN.mp (I.stkSub b z)).elim f k) a) (λb o _ _ a e n=>u.any e n a) (λb o a e n=>u.free b o e n a) (λb o a e=>u.there b o e a) u.tups u.frzs u.tbls (λv l=>by
  obtain⟨B,h,g,i,q⟩:=l;rw[j]at i;cases i;exact⟨_,h,g,f,q⟩) d t
theorem Inv.turned(I:Inv X U8 σ H s)(k:∀b o,b≠it->s.heap.get? b=some o->h'.get? b=some o)(t:H it=none)(f:it≠X.env.locals)
  (h1:it∈X.ex\/X.s₀.heap.objs.size<=it) (h2:∀x c,X.env.cells.lookup x=some c->c≠it) (h3:∀p∈X.pn++U8,p.1≠it):Inv X U8 σ H {s with heap:=h',toks:=t' }:=by
 have d:∀b u,H b=some u->b≠it:=λb u e z=>by rw[z,t]at e;cases e
 refine I.step (ch:=[it]) (λb g=>?_) (λb o _ _ a e _=>k b o (λz=>a (by simp[z])) e) (λb o _ _ a e _=>⟨o.slots,k b o (λz=>a (by simp[z])) e⟩) (λ_ _ _ _ n=>n)
  (λb o a e=>⟨o,k b o (λz=>a (by simp[z])) e⟩) (λ_ _ e=>e) (λ_ _ _ e=>e) (λb w e=>⟨#[],by rw[e];simp⟩) (λm j=>?_) (λb u e=>?_) I.bare
 .have e:b=it:=by simpa using g
  subst e;exact⟨h1,f,h2,h3⟩
 .obtain⟨o,h,l,i,r⟩:=j;exact⟨o,h,l,k _ o (Ne.symm f) i,r⟩
 .refine (I.hok b u e).stay (λc v a q=>k c v ?_ q) (λ_ q=>q) (λ_ _ _ q=>q) λ_ _ q=>q;rcases a with z |z
  .rw[z];exact d b u e
  .exact d c _ z
theorem Inv.tok(I:Inv X U8 σ H s)(t):Inv X U8 σ H {s with toks:=t }:=I.un Un.refl I.hok
theorem Inv.kept(I:Inv X U8 σ H s)(k:∀b u,s.heap.get? b=some u->h'.get? b=some u):Inv X U8 σ H {s with heap:=h',toks:=t' }:=I.un (Un.kept k) (I.hok.kept k)
theorem Inv.laid(I:Inv X U8 σ H s)(k:∀b u,s.heap.get? b=some u->h'.get? b=some u)(d:s.heap.objs.size<=a)(c:cB X.prog X.w (upd H a o) h' a o):
  Inv X U8 σ (upd H a o) {s with heap:=h',toks:=t' }:=I.un (Un.laid k d (I.hok.fresh d)) (I.hok.laid k d c)
theorem Inv.write(I:Inv X U8 σ H s)(c:Mut (H x))(d:e=x\/H e=some (.own x))(k:∀b u,b≠e->s.heap.get? b=some u->h'.get? b=some u)(a:∃u,h'.get? e=some u)
  (new:cB X.prog X.w (upd H x o) h' x o):Inv X U8 σ (upd H x o) {s with heap:=h',toks:=t' }:=I.un (Un.write c d k a) (I.hok.write c d k a new)
theorem Inv.weak(I:Inv X U8 σ H s)(b:Vh.length=σ.length)(w:∀(i:Nat) v,Vh[i]?=some (some v)->σ[i]?=some (some v)):Inv X U8 Vh H s:=
 ⟨I.ok,I.os,I.bare,I.base,let ⟨m,hn,VJ⟩:=I.loc;⟨m,hn,λi x v c d a=>VJ i x v c (w i v d) a⟩,I.cell,I.free,I.freeC,I.pin,I.hok,b.trans I.len⟩
theorem Inv.pins_of(I:Inv X U8 σ H s)(h:∀p∈Wj,s.heap.get? p.1=some p.2/\H p.1=none/\p.1≠X.env.locals/\p.1 ∉ X.fs/\∀v,p.2.data≠.cell v):Inv X Wj σ H s:=
 ⟨I.ok,I.os,I.bare,I.base,I.loc,I.cell,I.free,I.freeC,λp a=>(Lm.mp a).elim (λz=>I.pin p (LF _ z)) (h p),I.hok,I.len⟩
theorem sN{N:List Str}(c:N.Nodup){i j:Nat}(a:N[i]?=some x)(b:N[j]?=some x):i=j:=by
 obtain⟨f,d⟩:=JV.mp a;obtain⟨g,e⟩:=JV.mp b;exact (Qx c).mp (d.trans e.symm)
theorem jU(I:Inv X U8 σ H s)(hN:X.N.Nodup)(O:X.N[i]?=some x)(t:Loc X.env.scope x)(r:aM v u)
  (h:∀s',Inv X U8 (σ.set i (some v)) H s'->(∃a,MD a s.heap s'.heap/\(a=X.env.locals\/X.env.cells.lookup x=some a))->Q () s') (hf:X.fn x=true\/X.env.scope.names.lookup x=some .local:=by first |exact .inl rfl |exact .inr rfl |assumption):Kj M A (storeName X.env x u) Q E s:=by
 obtain⟨m,hn,hl⟩:=id I.loc;have P:(X.env.scope.kind==.class || (X.env.scope.kind==.module && X.env.locals !=X.env.globals))=false:=by rw[I.ok.kind];rfl
 have C:i<σ.length:=by rw[I.len];exact (JV.mp O).1
 have cne:=I.cne
 have WW:∀{a}{h'},(∃o,s.heap.get? a=some o/\H a=none)->MD a s.heap h'->HOk X.prog X.w H h':=λ{a h'} ha f b ob e=>by
  obtain⟨_,_,XU⟩:=ha;refine (I.hok b ob e).stay (λc R l q=>(f.2 c ?_).trans q) (λ_ q=>q) (λ_ _ _ q=>q) λ_ _ q=>q;rintro rfl;rcases l with rfl |l
  .rw[XU]at e;cases e
  .rw[XU]at l;cases l
 rcases t with D |D
 .refine wpAny_storeName_local D hn (λh' hn' f=>?_) P;obtain⟨oL,_,_,hoL,_⟩:=id hn;refine h _ ⟨I.ok,I.os,I.bare,⟨λb o e n F t=>?_,λb o e n F t=>?_,I.base.free,λb o e t=>?_,I.base.tups,I.base.frzs,I.base.tbls⟩,⟨_,hn',λj y v' g B U=>?_⟩,λy c e=>?_,I.free,I.freeC,λp Y=>?_,WW ⟨oL,hoL,I.free⟩ f,by simpa using I.len⟩ ⟨_,f,.inl rfl⟩
  .exact (f.2 b (Kh (Kc (JU e) I.ok.above))).trans (I.base.keep b o e n F t)
  .obtain⟨W,g⟩:=I.base.slot b o e n F t;exact⟨W,(f.2 b (Kh (Kc (JU e) I.ok.above))).trans g⟩
  .obtain⟨o',g⟩:=I.base.there b o e t;exact⟨o',(f.2 b (Kh (Kc (JU e) I.ok.above))).trans g⟩
  .by_cases G:j=i
   .subst G;rw[O]at g;cases g;rw[QH C]at B;cases B;exact⟨u,r,.inl ⟨D,by simp⟩⟩
   .rw[Ki (Ne.symm G)]at B;obtain⟨V,r',q⟩:=hl j y v' g B U;refine⟨V,r',?_⟩;rcases q with ⟨k,e⟩ |⟨k,c,e,z⟩
    .refine .inl ⟨k,?_⟩;have:y≠x:=λe=>G (sN hN g (e ▸ O));simp[this,e]
    .exact .inr ⟨k,c,e,z.sameBut f (cne y c e)⟩
  .obtain⟨R,z⟩:=I.cell y c e;exact⟨R,z.sameBut f (cne y c e)⟩
  .obtain⟨e,n,S,Z,d⟩:=I.pin p Y;exact⟨(f.2 p.1 S).trans e,n,S,Z,d⟩
 .have J:X.fn x=true:=by
   rcases hf with z |z
   .exact z
   .rw[z]at D;cases D
  obtain⟨c,l⟩:=I.ok.has x (.inl D);obtain⟨R,z⟩:=I.cell x c l;refine wpAny_storeName_cell I.ok.kind D l z (λh' Wv f=>?_);obtain⟨oc,W7,L⟩:=id z;refine h {s with heap:=h' } ⟨I.ok,I.os,I.bare,⟨λb o e n F t=>?_,λb o e n F t=>?_,I.base.free,λb o e t=>?_,I.base.tups,I.base.frzs,I.base.tbls⟩,⟨m,hn.sameBut f (Ne.symm (cne x c l)),λj y v' g B U=>?_⟩,λy T e=>?_,I.free,I.freeC,λp Y=>?_,WW ⟨oc,W7,I.freeC x c l⟩ f,by simpa using I.len⟩ ⟨c,f,.inr l⟩
  .exact (f.2 b (Kh (Kc (JU e) (I.ok.cab x c J l)))).trans (I.base.keep b o e n F t)
  .obtain⟨W,g⟩:=I.base.slot b o e n F t;exact⟨W,(f.2 b (Kh (Kc (JU e) (I.ok.cab x c J l)))).trans g⟩
  .obtain⟨o',g⟩:=I.base.there b o e t;exact⟨o',(f.2 b (Kh (Kc (JU e) (I.ok.cab x c J l)))).trans g⟩
  .by_cases G:j=i
   .subst G;rw[O]at g;cases g;rw[QH C]at B;cases B;exact⟨u,r,.inr ⟨.inl D,c,l,Wv⟩⟩
   .rw[Ki (Ne.symm G)]at B;obtain⟨V,r',q⟩:=hl j y v' g B U;refine⟨V,r',?_⟩;rcases q with q |⟨k,T,e,z'⟩
    .exact .inl q
    .refine .inr ⟨k,T,e,z'.sameBut f ?_⟩;rintro rfl;exact G (sN hN g (I.ok.inj _ _ _ e l ▸ O))
  .by_cases K:T=c
   .subst K;exact⟨_,Wv⟩
   .obtain⟨w2,z2⟩:=I.cell y T e;exact⟨w2,z2.sameBut f K⟩
  .obtain⟨e,n,S,Z,d⟩:=I.pin p Y;refine⟨(f.2 p.1 ?_).trans e,n,S,Z,d⟩;intro q;rw[q,W7]at e;have q':=KG e;exact d R (by rw[<-q'];exact L)
theorem gW(I:Inv X U8 σ H s)(b:X.N.Nodup)(d:X.N[i]?=some x)(e:Loc X.env.scope x)(r:aM v u)
  (h:∀a,Inv X U8 (σ.set i (some v)) H a->Q () a) (hf:X.fn x=true\/X.env.scope.names.lookup x=some .local:=by first |exact .inl rfl |exact .inr rfl |assumption):Kj M A (storeName X.env x u) Q E s:=
 jU I b d e r (λa c _=>h a c) hf
theorem Inv.call'(I:Inv X U8 σ H s)(d:s'.os=s.os)(u:Un (frs X.stack) ch H H' s.heap s'.heap)(a:HOk X.prog X.w H' s'.heap)(f:Qj s'.gens)
  (Xz:∀b∈ch,(b∈X.ex\/X.s₀.heap.objs.size<=b)/\b≠X.env.locals/\(∀x c,X.env.cells.lookup x=some c->c≠b)/\∀p∈X.pn++U8,p.1≠b):Inv X U8 σ H' s':=by
 obtain⟨h',h,g,j,i⟩:=s';have e:=d;subst e;exact I.call u a f Xz
end
noncomputable abbrev XK:=J0->Option Kb->Hp->Prop
noncomputable abbrev St:=List (Option V)
noncomputable abbrev VK:=V->Hp->Prop
noncomputable abbrev TE:=St->Hp->VK->Prop
noncomputable abbrev TT:=St->Hp->(Bool->Hp->Prop)->Prop
noncomputable abbrev TA:=St->Hp->(List V->Hp->Prop)->Prop
structure nL where
 nx:St->Hp->Prop
 rt:VK
 bk:St->Hp->Prop:=λ_ _=>False
 ct:St->Hp->Prop:=λ_ _=>False
noncomputable abbrev TS:=nL->St->Hp->Prop
def EP(X:Cx)(d:List (Kb×Obj))(b:St)(Q:VK)(u:J0)(c:JY):Prop:=∃v a,Inv X d b a c/\aM v u/\Q v a
def TP(X:Cx)(e:List (Kb×Obj))(c:St)(Q:Bool->Hp->Prop)(b:Bool)(d:JY):Prop:=∃a,Inv X e c a d/\Q b a
def AP(X:Cx)(f:List (Kb×Obj))(d:St)(Q:List V->Hp->Prop)(c:List J0)(e:JY):Prop:=∃a b,Inv X f d b e/\aP a c/\Q a b
def SP(X:Cx)(d:List (Kb×Obj))(D:nL)(f:Flow)(c:JY):Prop:=
 match f with
 | .next=>∃b a,Inv X d b a c/\D.nx b a
 | .brk=>∃b a,Inv X d b a c/\D.bk b a
 | .cont=>∃b a,Inv X d b a c/\D.ct b a
 | .ret u=>∃v b a,Inv X d b a c/\aM v u/\D.rt v a
def PE(X:Cx)(e:Expr)(t:TE):Prop:=
 ∀(b:List (Kb×Obj)) (s:JY) (a:St) (H:Hp) (Q:VK),Inv X b a H s->t a H Q->Kj (Kk X.prog X.w) X.A (LD e X.env) (EP X b a Q) X.xe s
def PT(X:Cx)(e:Expr)(t:TT):Prop:=
 ∀(b:List (Kb×Obj)) (s:JY) (a:St) (H:Hp) (Q:Bool->Hp->Prop),Inv X b a H s->t a H Q->Kj (Kk X.prog X.w) X.A (isTrue e X.env (LD e X.env)) (TP X b a Q) X.xe s
def PW(X:Cx)(e:Expr)(t:TT):Prop:=
 ∀(c:Sem J0) (b:List (Kb×Obj)) (s:JY) (a:St) (H:Hp) (Q:Bool->Hp->Prop),Inv X b a H s->t a H Q->Kj (Kk X.prog X.w) X.A (isTrue e X.env c) (TP X b a Q) X.xe s
theorem PW.pt(h:PW X e t):PT X e t:=h _
def PA(X:Cx)(d:List Expr)(t:TA):Prop:=
 ∀(b:Pos) (c:List (Kb×Obj)) (s:JY) (a:St) (H:Hp) (Q:List V->Hp->Prop),Inv X c a H s->t a H Q->Kj (Kk X.prog X.w) X.A (spliced (Ll b (JO d X.env))) (AP X c a Q) X.xe s
def PS(X:Cx)(st:Mm)(t:TS):Prop:=
 ∀(b:List (Kb×Obj)) (s:JY) (a:St) (H:Hp) (D:nL),Inv X b a H s->t D a H->Kj (Kk X.prog X.w) X.A (exec st X.env) (SP X b D) X.xe s
def PSs(X:Cx)(st:List Mm)(t:TS):Prop:=
 ∀(b:List (Kb×Obj)) (s:JY) (a:St) (H:Hp) (D:nL),Inv X b a H s->t D a H->Kj (Kk X.prog X.w) X.A (execs st X.env) (SP X b D) X.xe s
theorem thn{α:Type}{t:Sem α}{Q b:α->JY->Prop}(h:Kj M A t Q E s)(c:∀a s,Q a s->b a s):Kj M A t b E s:=Lo h c λ_ _ x=>x
section
variable {X:Cx}
noncomputable def JB(i:Nat):TE:=λa H Q=>∃v,a[i]?=some (some v)/\Q v H
noncomputable def tC(v:V):TE:=λ_ H Q=>Q v H
theorem d9(t:X.N[i]?=some x)(k:Vis X.env.scope x)(b:(x==("__debug__":Str))=false:=by decide)(j:(x==("__classdict__":Str))=false:=by decide):PE X (.Name x pos) (JB i):=by
 intro p s o H Q I h;obtain⟨v,e,h⟩:=h;obtain⟨m,w,q⟩:=I.loc;obtain⟨u,r,l⟩:=q i x v t e k;have d:EP X p o Q u s:=⟨v,H,I,r,h⟩;rcases l with ⟨a,n⟩ |⟨a,c,g,f⟩
 .exact P5 (Rk I.ok.kind a w n d) b
 .rcases a with a |a
  .exact P5 (Rz I.ok.kind a g f d) b
  .exact P5 (RA I.ok.kind a g f d j) b
theorem FN{i j pos}:PE X (.Constant (.int i) j pos) (tC (.int i)):=λ_ _ _ H _ I h=>wpAny_Constant_int ⟨.int i,H,I.tok _,⟨_,rfl⟩,h⟩
theorem ID{b j pos}:PE X (.Constant (.bool b) j pos) (tC (.bl b)):=λ_ _ _ H _ I h=>Constant_bool ⟨.bl b,H,I,rfl,h⟩
theorem G9{j pos}:PE X (.Constant .none j pos) (tC .non):=λ_ _ _ H _ I h=>Constant_none ⟨.non,H,I,rfl,h⟩
theorem GV{x j pos}:PE X (.Constant (.str x) j pos) (tC (.str x)):=λ_ _ _ H _ I h=>Oi ⟨.str x,H,I.tok _,⟨_,rfl⟩,h⟩
def Gl(X:Cx)(x:Str):Prop:=X.env.kindOf x=some .globalImplicit
theorem fV(I:Inv X U8 σ H s)(b:Gl X x)(a:X.mg x=some u)(h:Q u s)
  (hd:(x==("__debug__":Str))=false:=by decide):Kj (Kk X.prog X.w) X.A (LD (.Name x pos) X.env) Q E s:=
 Pq I.ok.kind b (Calls.loadGlobal_global (by rw[I.ok.glob];exact I.mod.glob.keeps I.bk) a h) hd
theorem cQ(I:Inv X U8 σ H s)(d:Gl X x)(b:X.mg x=none)(a:L_ x=some u)(h:Q u s)
  (hn:x≠"__name__":=by decide) (hd:(x==("__debug__":Str))=false:=by decide):Kj (Kk X.prog X.w) X.A (LD (.Name x pos) X.env) Q E s:=by
 obtain⟨f,c,e⟩:=I.mod.blt;exact Pq I.ok.kind d (Calls.loadGlobal_builtin (by rw[I.ok.glob];exact I.mod.glob.keeps I.bk) b (by rw[I.ok.blt];exact c.keeps I.bk) ((e x hn).trans a) h) hd
theorem vJ(b:Gl X x)(a:X.mg x=some u)(r:aM v u)(c:(x==("__debug__":Str))=false:=by decide):PE X (.Name x pos) (tC v):=
 λ_ _ _ H _ I h=>fV I b a ⟨v,H,I,r,h⟩ c
theorem Ei(c:Gl X x)(b:X.mg x=none)(a:L_ x=some u)(r:aM v u)(d:x≠"__name__":=by decide)(e:(x==("__debug__":Str))=false:=by decide):PE X (.Name x pos) (tC v):=
 λ_ _ _ H _ I h=>cQ I c b a ⟨v,H,I,r,h⟩ d e
variable {a b:Expr}{ta tb:TE}{pos:Pos}
def PC(X:Cx)(op:CmpOp)(a b:Expr)(t:TE):Prop:=
 ∀(d:List (Kb×Obj)) (s:JY) (c:St) (H:Hp) (Q:VK),Inv X d c H s->t c H Q->
  Kj (Kk X.prog X.w) X.A (LD a X.env) (λv e=>Kj (Kk X.prog X.w) X.A (LD b X.env) (λu f=>Kj (Kk X.prog X.w) X.A (KO op v u) (EP X d c Q) X.xe f) X.xe e) X.xe s
theorem Bh(b)(h:op≠.In)(a:op≠.NotIn):LR op b=false:=by
 have c:(op==CmpOp.In)=false:=by cases op <;>first |rfl |exact absurd rfl h
 have d:(op==CmpOp.NotIn)=false:=by cases op <;>first |rfl |exact absurd rfl a
 cases b <;>simp[LR,c,d]
noncomputable def IZ(ta:TE):TE:=λa H Q=>ta a H λx b=>Q (.bl (decide (x=.non))) b
theorem aM.none_iff(r:aM x v):(v==MG)=decide (x=.non):=by
 cases x with
 |non=>cases r;rfl
 |bl _=>cases r;rfl
 |int _=>obtain⟨t,rfl⟩:=r;rfl
 |str _=>obtain⟨t,rfl⟩:=r;rfl
 |byt _=>obtain⟨t,rfl⟩:=r;rfl
 |flt _=>obtain⟨t,rfl⟩:=r;rfl
 |ref _=>cases r;rfl
 |ty _=>cases r;rfl
theorem GS{j Vq}(g:PE X a ta):PC X .Is a (.Constant .none j Vq) (IZ ta):=by
 intro d s b H Q I h;refine thn (g d s b H _ I h) λv l f=>?_;obtain⟨x,i,k,c,e⟩:=f;exact Constant_none (is_none_gen ⟨.bl _,i,k,by rw[c.none_iff];rfl,e⟩)
noncomputable def tB(t:TE):TT:=λa H Q=>t a H λx b=>∃c,x=.bl c/\Q c b
theorem tP(h:PC X op a b t)(e:LR op b=false:=by first |exact Bh _ (by decide) (by decide) |rfl):PT X (.Compare a [op] [b] pos) (tB t):=by
 intro k s j H Q I i;refine QN (thn (h k s j H _ I i) λv w e=>thn e λu p o=>thn o λc r g=>?_) e;obtain⟨x,n,m,f,l⟩:=g;obtain⟨d,rfl,q⟩:=l;cases f;exact LA ⟨n,m,q⟩
theorem Gj(h:PE X e t)(b:∀a,isTrue e X.env a=(do let v <-a;RB e.pos;Pf [v] (truthy v)):=by intro _;rfl):PT X e (tB t):=by
 intro j s i H Q I g;refine isTrue_plain (thn (h j s i H _ I g) λv n f=>?_) (b _);obtain⟨x,m,l,c,k⟩:=f;obtain⟨d,rfl,q⟩:=k;cases c;exact LA ⟨m,l,q⟩
variable {tA tB':TT}{rest:List Expr}
noncomputable def Jp(t u:TT):TT:=λa H Q=>t a H λc b=>if c=true then u a b Q else Q false b
noncomputable def tOr(t u:TT):TT:=λa H Q=>t a H λc b=>if c=true then Q true b else u a b Q
noncomputable def IW(t:TT):TT:=λa H Q=>t a H λc b=>Q (!c) b
theorem Ew(f:PT X a tA):PW X (.BoolOp .And [a] pos) tA:=by
 intro i d s b H Q I h;refine isTrue_and (thn (f d s b H Q I h) λc g e=>?_);cases c with
 |true=>exact isTrue_and_nil e
 |false=>exact e
theorem BB(f:PT X a tA):PW X (.BoolOp .Or [a] pos) tA:=by
 intro i d s b H Q I h;refine isTrue_or (thn (f d s b H Q I h) λc g e=>?_);cases c with
 |false=>exact isTrue_or_nil e
 |true=>exact e
theorem y8(m:PT X a tA)(j:PW X (.BoolOp .And (b::rest) pos) tB'):PW X (.BoolOp .And (a::b::rest) pos) (Jp tA tB'):=by
 intro n e s d H Q I h;refine isTrue_and (thn (m e s d H _ I h) λc k l=>?_);obtain⟨g,i,f⟩:=l;cases c with
 |true=>exact j n e k d g Q i f
 |false=>exact⟨g,i,f⟩
theorem Ch(m:PT X a tA)(j:PW X (.BoolOp .Or (b::rest) pos) tB'):PW X (.BoolOp .Or (a::b::rest) pos) (tOr tA tB'):=by
 intro n e s d H Q I h;refine isTrue_or (thn (m e s d H _ I h) λc k l=>?_);obtain⟨g,i,f⟩:=l;cases c with
 |true=>exact⟨g,i,f⟩
 |false=>exact j n e k d g Q i f
theorem F6(e:PT X a tA):PT X (.UnaryOp .Not a pos) (IW tA):=by
 intro d s b H Q I h;exact isTrue_not (e d s b H (λc f=>Q (!c) f) I h)
noncomputable def Hg(ta tb:TE):TE:=λa H Q=>ta a H λx b=>∃c,x=.bl c/\if c=true then tb a b Q else Q (.bl false) b
noncomputable def IT(ta tb:TE):TE:=λa H Q=>ta a H λx b=>∃c,x=.bl c/\if c=true then Q (.bl true) b else tb a b Q
noncomputable def Hz(ta:TE):TE:=λa H Q=>ta a H λx b=>∃c,x=.bl c/\Q (.bl (!c)) b
theorem GZ{op}(h:PE X a t):PE X (.BoolOp op [a] pos) t:=λd s c H Q I b=>BoolOp_one (h d s c H Q I b)
theorem BF(n:PE X a ta)(j:PE X (.BoolOp .And (b::rest) pos) tb):PE X (.BoolOp .And (a::b::rest) pos) (Hg ta tb):=by
 intro f s e H Q I h;refine BoolOp_and (thn (n f s e H _ I h) λv m l=>?_);obtain⟨x,i,g,k,d⟩:=l;obtain⟨c,rfl,d⟩:=d;cases k;refine LA ?_;cases c with
 |true=>exact j f m e i Q g d
 |false=>exact⟨.bl false,i,g,rfl,d⟩
theorem Fg(n:PE X a ta)(j:PE X (.BoolOp .Or (b::rest) pos) tb):PE X (.BoolOp .Or (a::b::rest) pos) (IT ta tb):=by
 intro f s e H Q I h;refine BoolOp_or (thn (n f s e H _ I h) λv m l=>?_);obtain⟨x,i,g,k,d⟩:=l;obtain⟨c,rfl,d⟩:=d;cases k;refine LA ?_;cases c with
 |false=>exact j f m e i Q g d
 |true=>exact⟨.bl true,i,g,rfl,d⟩
theorem GW(i:PE X a ta):PE X (.UnaryOp .Not a pos) (Hz ta):=by
 intro f s d H Q I h;refine UnaryOp_ (thn (i f s d H _ I h) λv l g=>?_);obtain⟨x,j,k,e,b⟩:=g;obtain⟨c,rfl,b⟩:=b;cases e;exact not_of (LA ⟨.bl (!c),j,k,rfl,b⟩)
noncomputable def tIf(t:TT)(ta tb:TE):TE:=λa H Q=>t a H λc b=>if c=true then ta a b Q else tb a b Q
theorem ro(o:PT X c tA)(n:PE X a ta)(l:PE X b tb):PE X (.IfExp c a b pos) (tIf tA ta tb):=by
 intro f s e H Q I h;refine wpAny_IfExp (thn (o f s e H _ I h) λd i m=>?_);obtain⟨j,k,g⟩:=m;cases d with
 |true=>exact n f i e j Q k g
 |false=>exact l f i e j Q k g
end
def SqL(K:JI)(H:Hp)(a:Kb)(xs:List V):Prop:=
 Rd H a (.lst xs)\/
  ∃(o:Obj) (b:Array J0) (n:Nat),K.lookup a=some o∧o.cls=.type "list"∧o.dict=none∧o.data=.seq b n∧b.size≤sizeLine∧aP xs b.toList
def SqT(K:JI)(H:Hp)(a:Kb)(xs:List V):Prop:=
 Rd H a (.tup xs)\/
  ∃(o:Obj) (b:Array J0) (n:Nat),K.lookup a=some o∧o.cls=.type "tuple"∧o.data=.seq b n∧b.size≤sizeLine∧aP xs b.toList
noncomputable def Jw:J0->Option V
 | .none=>some .non
 | .bool b=>some (.bl b)
 | .int i _=>some (.int i)
 | .str x _=>some (.str x)
 | .bytes b _=>some (.byt b)
 | .float b _=>some (.flt b)
 | .ref a=>some (.ref a)
 | .type n=>some (.ty n)
 |_=>none
theorem aM.abs(r:aM x u):Jw u=some x:=by
 cases x with
 |non=>cases r;rfl
 |bl _=>cases r;rfl
 |int _=>obtain⟨t,rfl⟩:=r;rfl
 |str _=>obtain⟨t,rfl⟩:=r;rfl
 |byt _=>obtain⟨t,rfl⟩:=r;rfl
 |flt _=>obtain⟨t,rfl⟩:=r;rfl
 |ref _=>cases r;rfl
 |ty _=>cases r;rfl
theorem aM.inj(r:aM x u)(q:aM y u):x=y:=KG (r.abs.symm.trans q.abs)
theorem aP.inj:∀{b c}{a},aP b a->aP c a->b=c
 |_,_,_,.nil,.nil=>rfl
 |_,_,_,.cons r t,.cons d e=>by rw[r.inj d,aP.inj t e]
section
variable {X:Cx}{U8:List (Kb×Obj)}{σ:St}{H:Hp}{s:JY}{a:Kb}{xs ys:List V}
theorem SqL.of{K:JI}(h:H a=some (.lst xs)):SqL K H a xs:=.inl (.inl h)
theorem SqT.of{K:JI}(h:H a=some (.tup xs)):SqT K H a xs:=.inl (.inl h)
theorem Inv.list(I:Inv X U8 σ H s)(h:SqL X.K H a xs):∃b,aP xs b/\PlainL s.heap a b.toArray/\xs.length<=sizeLine:=by
 rcases h with h |⟨o,b,n,d,c,f,g,i,r⟩
 .obtain⟨z,b,n,r,e⟩:=h.ok I.hok;exact⟨b,r,⟨_,n,e,rfl,rfl,rfl⟩,z⟩
 .refine⟨b.toList,r,⟨o,n,I.kIn a o d,c,f,by simpa using g⟩,?_⟩;have e:=r.length;simp only[Ke]at e;lia
theorem Inv.tuple(I:Inv X U8 σ H s)(h:SqT X.K H a xs):∃b,aP xs b/\UH s.heap a b.toArray/\xs.length<=sizeLine:=by
 rcases h with h |⟨o,b,n,d,c,f,g,r⟩
 .obtain⟨z,b,r,p⟩:=h.ok I.hok;exact⟨b,r,p,z⟩
 .refine⟨b.toList,r,⟨o,I.kIn a o d,c,n,by simpa using f⟩,?_⟩;have e:=r.length;simp only[Ke]at e;lia
theorem Inv.list_inj(I:Inv X U8 σ H s)(h:SqL X.K H a xs)(h':SqL X.K H a ys):xs=ys:=by
 obtain⟨i,r,⟨o,n,e,_,_,d⟩,_⟩:=I.list h;obtain⟨f,g,⟨k,j,b,_,_,c⟩,_⟩:=I.list h';rw[e]at b;cases b;rw[d]at c;injection c with d1 _
 have:i=f:=by simpa using congrArg So d1
 subst this;exact r.inj g
theorem Inv.tuple_inj(I:Inv X U8 σ H s)(h:SqT X.K H a xs)(h':SqT X.K H a ys):xs=ys:=by
 obtain⟨i,r,⟨o,e,_,n,d⟩,_⟩:=I.tuple h;obtain⟨f,g,⟨k,b,_,j,c⟩,_⟩:=I.tuple h';rw[e]at b;cases b;rw[d]at c;injection c with d1 _
 have:i=f:=by simpa using congrArg So d1
 subst this;exact r.inj g
end
noncomputable abbrev Cx.wish(X:Cx)(E:J0->JY->Prop):Cx:={X with xe:=E }
noncomputable abbrev Cx.nox(X:Cx):Cx:=X.wish λ_ _=>False
theorem Cx.Ok.wish{X:Cx}(a:X.Ok)(E):(X.wish E).Ok:=
 ⟨a.mod,a.kind,a.glob,a.blt,a.above,a.inj,a.has,a.cab,a.hd,a.frames,a.stk,a.exf,a.bs,a.bsz,a.noex,a.exfs,a.funs,a.frf⟩
theorem Cx.Ok.unwish{X:Cx}(a:(X.wish E).Ok):X.Ok:=
 ⟨a.mod,a.kind,a.glob,a.blt,a.above,a.inj,a.has,a.cab,a.hd,a.frames,a.stk,a.exf,a.bs,a.bsz,a.noex,a.exfs,a.funs,a.frf⟩
section
variable {X:Cx}{U8:List (Kb×Obj)}{σ:St}{H:Hp}{s:JY}{E:J0→JY→Prop}
theorem Inv.wish(I:Inv X U8 σ H s)(E):Inv (X.wish E) U8 σ H s:=⟨I.ok.wish E,I.os,I.bare,I.base,I.loc,I.cell,I.free,I.freeC,I.pin,I.hok,I.len⟩
theorem Inv.unwish(I:Inv (X.wish E) U8 σ H s):Inv X U8 σ H s:=⟨I.ok.unwish,I.os,I.bare,I.base,I.loc,I.cell,I.free,I.freeC,I.pin,I.hok,I.len⟩
theorem SP.unwish(h:SP (X.wish E) U8 D f s'):SP X U8 D f s':=by
 cases f with
 |next=>obtain⟨b,a,I,q⟩:=h;exact⟨b,a,I.unwish,q⟩
 |brk=>obtain⟨b,a,I,q⟩:=h;exact⟨b,a,I.unwish,q⟩
 |cont=>obtain⟨b,a,I,q⟩:=h;exact⟨b,a,I.unwish,q⟩
 |ret u=>obtain⟨v,b,a,I,r,q⟩:=h;exact⟨v,b,a,I.unwish,r,q⟩
theorem PSs.nox{st:List Mm}(h:PSs X.nox st t):PSs X st t:=λU8 s σ H D I a=>
 Lo (h U8 s σ H D (I.wish _) a) (λ_ _ q=>q.unwish) λ_ _ z=>False.elim z
end
section
variable {X:Cx}{st:Mm}{rest:List Mm}{t u:TS}{e:Expr}{te:TE}{pos:Pos}
noncomputable def HV:TS:=λD a H=>D.nx a H
noncomputable def GX(t u:TS):TS:=λD a H=>t {D with nx:=u D } a H
theorem D5:PSs X [] HV:=λ_ _ a H _ I h=>Pg ⟨a,H,I,h⟩
theorem Cl(e:PS X st t)(j:PSs X rest u):PSs X (st::rest) (GX t u):=by
 intro a s b H D I h;refine OU (thn (e a s b H {D with nx:=u D } I h) λf d q=>?_);cases f with
 |next=>
  obtain⟨g,i,c,q⟩:=q;exact j a d g i D c q
 |ret v=>exact q
 |brk=>exact q
 |cont=>exact q
theorem Eu(c:PS X st t):PSs X [st] t:=by
 intro b s a H D I h;refine OU (thn (c b s a H D I h) λf d q=>?_);cases f with
 |next=>exact Pg q
 |ret v=>exact q
 |brk=>exact q
 |cont=>exact q
theorem Inv.quiet(I:Inv X U8 σ H s):interactive X.env=false:=by simp[interactive,I.ok.kind]
noncomputable def Hv(te:TE):TS:=λD a H=>te a H λ_ b=>D.nx a b
theorem pw(d:PE X e te)(hs:Mn e none pos.line X.env=pure false:=by rfl):PS X (.Expr e pos) (Hv te):=by
 intro b s a H D I h;exact wpAny_Expr_any (thn (d b s a H _ I h) λv j ⟨x,f,g,i,c⟩=>⟨a,f,g,c⟩) I.quiet hs
noncomputable def Hx(te:TE):TS:=λD a H=>te a H D.rt
theorem l0(f:PE X e te):PS X (.Return (some e) pos) (Hx te):=by
 intro c s a H D I h;exact R0 (thn (f c s a H _ I h) λv j ⟨x,g,i,b,d⟩=>⟨x,a,g,i,b,d⟩)
noncomputable def JE(c:TT)(t u:TS):TS:=λD a H=>c a H λb d=>if b=true then t D a d else u D a d
theorem B9(o:PT X c tc)(n:PSs X a t)(l:PSs X b u):PS X (.If c a b pos) (JE tc t u):=by
 intro f s e H D I h;refine wpAny_If (thn (o f s e H _ I h) λd i m=>?_);obtain⟨j,k,g⟩:=m;cases d with
 |true=>exact n f i e j D k g
 |false=>exact l f i e j D k g
end
noncomputable abbrev TG:=V->St->Hp->(St->Hp->Prop)->Prop
noncomputable abbrev TGs:=List V->St->Hp->(St->Hp->Prop)->Prop
def PG(X:Cx)(a:Expr)(t:TG):Prop:=
 ∀(c:List (Kb×Obj)) (s:JY) (b:St) (H:Hp) (v:V) (u:J0) (Q:St->Hp->Prop),Inv X c b H s->aM v u->t v b H Q->
  Kj (Kk X.prog X.w) X.A (assign a X.env u) (λ_ f=>∃d e,Inv X c d e f/\Q d e) X.xe s
def PGs(X:Cx)(h:List Expr)(t:TGs):Prop:=
 ∀(d:List (Kb×Obj)) (s:JY) (b:St) (H:Hp) (c:List V) (a:List J0) (Q:St->Hp->Prop),Inv X d b H s->aP c a->t c b H Q->
  Kj (Kk X.prog X.w) X.A (assignInOrder ((MX h X.env).map (·.2)) a) (λ_ g=>∃e f,Inv X d e f g/\Q e f) X.xe s
section
variable {X:Cx}{pos:Pos}
noncomputable def lZ(i:Nat):TG:=λv a H Q=>Q (a.set i (some v)) H
theorem aR(a:X.N.Nodup)(c:X.N[i]?=some x)(d:Loc X.env.scope x)(e:X.fn x=true\/X.env.scope.names.lookup x=some .local:=by first |exact .inl rfl |exact .inr rfl |assumption):PG X (.Name x pos) (lZ i):=by
 intro j s f H v u Q I r h;exact P6 (gW I a c d r (λg b=>⟨_,H,b,h⟩) e)
noncomputable def Hc:TGs:=λb a H Q=>b=[]/\Q a H
noncomputable def EE(t:TG)(u:TGs):TGs:=λb a H Q=>∃v r,b=v::r/\t v a H λc d=>u r c d Q
theorem fH:PGs X [] Hc:=by
 intro d s a H c b Q I r h;obtain⟨e,h⟩:=h;subst e;cases r;exact R3 ⟨a,H,I,h⟩
theorem be(b:PG X e t)(f:PGs X es u)
  (hs:(MX (e::es) X.env).map (·.2)=assign e X.env::(MX es X.env).map (·.2):=by rfl):PGs X (e::es) (EE t u):=by
 intro a s g H o p Q I r h;obtain⟨v,q,n,h⟩:=h;subst n;cases r with
 |cons r m=>
  rw[hs];refine Py (thn (b a s g H _ _ _ I r h) λ_ k c=>?_);obtain⟨d,l,j,i⟩:=c;exact f a k d l _ _ Q j m i
noncomputable def Iu(K:JI)(n:Nat)(t:TGs):TG:=λv c H Q=>∃a b,v=.ref a/\SqT K H a b/\b.length=n/\t b c H Q
theorem jO(f:X.calm=true)(h:PGs X es t)
  (hn:(MX es X.env).length=n:=by rfl) (VE:(MX es X.env).findIdx? (·.1)=none:=by rfl):PG X (.Tuple es k pos) (Iu X.K n t):=by
 intro j s i H v u Q I r c;obtain⟨a,q,p,g,l,c⟩:=c;subst p;cases r;obtain⟨z,d,x,y⟩:=I.tuple g;refine assign_Tuple_tuple (I.ok.hd f) x (by simp[hn,<-l,d.length]) VE λA w=>?_;have m:=I.kept (t':=s.toks) λb o e=>w b o (Kh (JU e)) e;exact h j _ i H q _ Q m (by simpa using d) c
noncomputable def Cp(b:TE)(g:TG):TS:=λD a H=>b a H λx c=>g x a c D.nx
theorem Fl(c:PE X e te)(k:PG X tg g)(hs:Qk [tg] e pos.line X.env=pure false:=by rfl)(i:Ql [tg] e X.env=pure none:=by rfl)
  (h1:(MX [tg] X.env).map (·.2)=[assign tg X.env]:=by rfl):PS X (.Assign [tg] e pos) (Cp te g):=by
 intro b s a H D I h;refine wpAny_Assign_stores (thn (c b s a H _ I h) λv m f=>?_) hs i;obtain⟨x,n,l,d,j⟩:=f;rw[h1];exact thn (k b m a n x v _ l d j) λ_ o q=>q
theorem uP(l:X.N.Nodup)(d:X.N[i]?=some x)(o:Loc X.env.scope x)(a:PE X e te)(hs:Mn e (some (.Name x Vq)) pos.line X.env=pure false:=by rfl)(p:X.fn x=true\/X.env.scope.names.lookup x=some .local:=by first |exact .inl rfl |exact .inr rfl |assumption):
  PS X (.Assign [.Name x Vq] e pos) (Cp te (lZ i)):=by
 intro g s f H D I h;refine R5 (thn (a g s f H _ I h) λv r c=>?_) hs;obtain⟨y,n,k,b,j⟩:=c;exact gW k l d o b (λq m=>⟨_,n,m,j⟩) p
noncomputable def Ju(i j:Nat)(ta:TA):TS:=λD a H=>ta a H λb c=>∃v w,b=[v,w]/\D.nx ((a.set i (some v)).set j (some w)) c
theorem F4{kt k2 pt2}(z:X.calm=true)(n:X.N.Nodup)(G:X.N[i]?=some x)(A:X.N[j]?=some y)(u:i≠j)
  (hx:X.env.scope.names.lookup x=some .local) (hy:X.env.scope.names.lookup y=some .local) (ha:PA X [a,b] ta)
  (hw:Ql [.Tuple [.Name x px,.Name y py] kt pt] (.Tuple [a,b] k2 pt2) X.env=pure (some [x,y]))
  (hs:Qk [.Tuple [.Name x px,.Name y py] kt pt] (.Tuple [a,b] k2 pt2) pos.line X.env=pure false:=by rfl):
  PS X (.Assign [.Tuple [.Name x px,.Name y py] kt pt] (.Tuple [a,b] k2 pt2) pos) (Ju i j ta):=by
 intro m s l H D I h;rw[exec_Assign_arm];refine JH (Oj ?_);rw[hs];refine JH (JM ?_);rw[if_neg (by decide)];refine JH (Tuple_ (thn (ha _ m s l H _ I h) λP f C=>?_));obtain⟨S,r,O,B,g⟩:=C;obtain⟨v,w,R,g⟩:=g;subst R
 obtain⟨d,c,rfl,L,t⟩:∃d c,P=[d,c]/\aM v d/\aM w c:=by
  cases B with
  |cons p q=>
   cases q with
   |cons E J=>
    cases J;exact⟨_,_,rfl,p,E⟩
 refine Nd ?_ (by show 2<=sizeLine;decide);have Q:Inv X m l r {f with heap:=f.heap.push {cls:=.type "tuple",data:=.seq [d,c].toArray } }:=O.kept λb o e=>JJ _ e;rw[hw];refine JH (JM ?_);refine JH (Pe (JH (unpackItems_tuple (items:=#[d,c]) (I.ok.hd z) (IsTup.new f.heap _) λV M=>?_)));have K:=Q.kept (t':=f.toks) λb o e=>M b o (Kh (JU e)) e;refine JH (Py (Tz (gW K n A (.inl hy) t (λT F=>?_) (.inr hy))));refine Py (Tz (gW F n G (.inl hx) L (λU k=>R3 (JM ?_)) (.inr hx)));rw[List.set_comm _ _ (Ne.symm u)]at k;exact⟨_,r,k,g⟩
noncomputable def Fv(c:TT)(tb:TS):TS:=λD a H=>∃W:Nat->St->Hp->Prop,(∃m,W m a H)/\∀m a H,W m a H->
 c a H λb g=>if b=true then ∃N:St->Hp->Prop,(∀e f,N e f->∃d,d<m/\W d e f)/\tb {D with nx:=N,ct:=N,bk:=D.nx } a g else D.nx a g
theorem AN(t:Ph (Kk X.prog X.w) X.A X.env X.xe)(P:PT X c tc)(E:PSs X Vk tb):PS X (.While c Vk [] pos) (Fv tc tb):=by
 intro q s J H D I h;obtain⟨W,⟨O,F⟩,e⟩:=h;refine wpAny_While (codeAny_whileLoop (λn K=>∃r y,Inv X q r y K/\W n r y) ?_ O ⟨J,H,I,F⟩);rintro n M ⟨i,B,L,Q⟩;refine Nf t (thn (P q M i B _ L (e n i B Q)) λb C G=>?_);obtain⟨u,z,j⟩:=G;cases b with
 |true=>
  obtain⟨N,x,j⟩:=j;rw[if_pos rfl];refine Nf t (thn (E q C i u _ z j) λf R g=>?_);cases f with
  |next=>
   obtain⟨a,d,o,p⟩:=g;obtain⟨k,m,l⟩:=x a d p;exact⟨k,m,a,d,o,l⟩
  |cont=>
   obtain⟨a,d,o,p⟩:=g;obtain⟨k,m,l⟩:=x a d p;exact⟨k,m,a,d,o,l⟩
  |brk=>exact g
  |ret v=>exact g
 |false=>
  rw[if_neg KZ];exact Pg ⟨i,u,z,j⟩
end
structure It where
 go:Nat->Hp->Prop
 yld:Nat->Hp->V->Hp->Prop
 stop:Nat->Hp->Prop
def eU(X:Cx)(a:List (Kb×Obj))(H:Hp)(b:Kb):Prop:=
 H b=none/\b≠X.env.locals/\b ∉ X.fs/\(b∈X.ex\/X.s₀.heap.objs.size<=b)/\(∀x c,X.env.cells.lookup x=some c->c≠b)/\∀p∈X.pn++a,p.1≠b
theorem Inv.fpOk(I:Inv X U8 σ H s)(a:s.heap.objs.size<=b)(d:H' b=none):eU X U8 H' b:=by
 refine⟨d,LX (Kc I.lt a),I.nofs a,.inr (KH I.sz a),λx c e z=>?_,λp f z=>?_⟩
 .obtain⟨v,q⟩:=I.cell x c e;exact absurd (Kc q.lt (by rw[z];exact a)) (KA _)
 .exact absurd (Kc (JU (I.pin p f).1) (by rw[z];exact a)) (KA _)
structure uD(P:J2)(w:Kt)(K:JI)(tg:Expr)(J:It)(fp:List Kb)(it:Kb)(tn:Nat->Mf->Prop):Prop where
 mem:it∈fp
 obj:∀i h,tn i h->∀b∈fp,∃o,h.get? b=some o/\∀v,o.data≠.cell v
 keep:∀i h h',tn i h->(∀b∈fp,∀o,h.get? b=some o->h'.get? b=some o)->tn i h'
 item:∀(X:Cx),X.prog=P->X.w=w->X.K=K->X.calm=true->∀(i:Nat) (U8:List (Kb×Obj)) (s:JY) (σ:St) (H:Hp) (E:J0->JY->Prop),Inv X U8 σ H s->(∀b∈fp,eU X U8 H b)->tn i s.heap->J.go i H->
  Kj (Kk P w) X.A (Rt (.ref it)) (λr s1=>∃u,r=some u/\
   Kj (Kk P w) X.A (SZ tg (.ref it) u) (λ_ s2=>∃x H',Inv X U8 σ H' s2/\aM x u/\J.yld i H x H'/\tn (i+1) s2.heap/\∀b∈fp,H' b=none) E s1) E s
 done:∀(X:Cx),X.prog=P->X.w=w->X.K=K->X.calm=true->∀(i:Nat) (U8:List (Kb×Obj)) (s:JY) (σ:St) (H:Hp) (E:J0->JY->Prop),Inv X U8 σ H s->(∀b∈fp,eU X U8 H b)->tn i s.heap->J.stop i H->
  Kj (Kk P w) X.A (Rt (.ref it)) (λr s1=>r=none/\Inv X U8 σ H s1) E s
 self:∀(A:K7) (i:Nat) (s:JY) (Q:J0->JY->Prop) (E:J0->JY->Prop),tn i s.heap->Q (.ref it) s->Kj (Kk P w) A (Sq (.ref it)) Q E s
noncomputable abbrev TI:=St->Hp->(It->Hp->Prop)->Prop
def PIE(X:Cx)(f:List (Kb×Obj))(h:St)(i:Expr)(R:It->Hp->Prop)(a:J0)(e:JY):Prop:=
 ∃(g:Kb) (fp:List Kb) (d:Nat->Mf->Prop) (J:It) (c:Hp),a=.ref g/\Inv X f h c e/\uD X.prog X.w X.K i J fp g d/\d 0 e.heap/\(∀b∈fp,eU X f c b)/\R J c
def PI(X:Cx)(d a:Expr)(e:TI):Prop:=
 ∀(c:List (Kb×Obj)) (s:JY) (b:St) (H:Hp) (R:It->Hp->Prop),Inv X c b H s->e b H R->
  Kj (Kk X.prog X.w) X.A (LD a X.env) (λv f=>Kj (Kk X.prog X.w) X.A (Sq v) (PIE X c b d R) X.xe f) X.xe s
theorem wE(b:s.heap.get? it=some o)(a:o.cls=.type n)(c:o.data=.fields vs)
  (hn:["enumerate","zip","dict_itemiterator","dict_reverseitemiterator","odict_iterator","itertools.zip_longest","itertools.pairwise"].contains n=false) (hQ:Q () s):Kj M A (SZ tg (.ref it) u) Q E s:=by
 cases tg <;>first
  |exact JM hQ
  | (cases u <;>first
    |exact JM hQ
    | (refine JH (wpAny_load b ?_)
       rw[a,c];show Kj M A (if (["enumerate","zip","dict_itemiterator","dict_reverseitemiterator","odict_iterator","itertools.zip_longest","itertools.pairwise"].contains n && vs[0]?==some (NC _))=true then _ else _) Q E s;rw[if_neg (by intro h;rw[hn,Bool.false_and]at h;cases h)];exact JM hQ))
noncomputable def Itl(K:JI)(a:Kb):It:=
 ⟨λi H=>∃b x,SqL K H a b/\b[i]?=some x,λi H x c=>c=H/\∀b,SqL K H a b->b[i]?=some x,λi H=>∃b,SqL K H a b/\b.length<=i⟩
noncomputable def Itt(K:JI)(a:Kb):It:=
 ⟨λi H=>∃b x,SqT K H a b/\b[i]?=some x,λi H x c=>c=H/\∀b,SqT K H a b->b[i]?=some x,λi H=>∃b,SqT K H a b/\b.length<=i⟩
noncomputable def Itr(b:Int)(n:Nat):It:=⟨λi _=>i<n,λi H x a=>a=H/\x=.int (b+i),λi _=>n<=i⟩
theorem oA{P:J2}{w:Kt}{K:JI}{Z:Expr}(a j:Kb):uD P w K Z (Itl K a) [j] j (λi h=>h.IsListIter j a i) where
 mem:=by simp
 obj:=λi h f b g=>by
  have e:b=j:=by simpa using g
  subst e;obtain⟨o,e,c,d⟩:=f;exact⟨o,e,λv z=>by rw[d]at z;cases z⟩
 keep:=λi h m f k=>f.at λo e=>k j (by simp) o e
 item:=by
  intro X A B t O i N s M H E I n f F;subst A B t;obtain⟨xs,x,l,J⟩:=F;obtain⟨V,C,p,T⟩:=I.list l;obtain⟨u,S,W⟩:=C.get J;obtain⟨D,G,U,q,r,y⟩:=n j (by simp);refine Nx f p.isList (x:=u) (by simpa using S) λm L R=>?_;have Y:Inv X N M H {s with heap:=m }:=I.turned (t':=s.toks) (λb o g e=>(R.2 b g).trans e) D G q r y;obtain⟨o,e,c,d⟩:=id L;exact⟨u,rfl,wE (s:={s with heap:=m }) e c d (by decide) ⟨x,H,Y,W,⟨rfl,λys hy=>by rw[I.list_inj hy l];exact J⟩,L,λb g=>(n b g).1⟩⟩
 done:=by
  intro X A B t O i N s M H E I n f F;subst A B t;obtain⟨xs,l,J⟩:=F;obtain⟨V,C,p,T⟩:=I.list l;obtain⟨D,G,U,q,r,y⟩:=n j (by simp);have hl:=C.length;exact OM (I.ok.hd O) f p.isList (by simp;lia) λm Q=>⟨rfl,I.turned (t':=s.toks) (λb o g e=>Q b o g e) D G q r y⟩
 self:=λ_ _ _ _ _ f h=>wpAny_pyIter_listiter f h
theorem tT{P:J2}{w:Kt}{K:JI}{Z:Expr}(a j:Kb):uD P w K Z (Itt K a) [j] j (λi h=>h.IsTupleIter j a i) where
 mem:=by simp
 obj:=λi h f b g=>by
  have e:b=j:=by simpa using g
  subst e;obtain⟨o,e,c,d⟩:=f;exact⟨o,e,λv z=>by rw[d]at z;cases z⟩
 keep:=λi h m f k=>f.at λo e=>k j (by simp) o e
 item:=by
  intro X A C t Q i O s N H E I n f G;subst A C t;obtain⟨xs,x,l,L⟩:=G;obtain⟨B,D,p,U⟩:=I.tuple l;obtain⟨u,T,W⟩:=D.get L;obtain⟨F,J,V,q,r,y⟩:=n j (by simp);refine wpAny_pyNext_tuple_item f (show s.heap.IsTuple a B.toArray from p) (x:=u) (by simpa using T) λm M S=>?_;have Y:Inv X O N H {s with heap:=m }:=I.turned (t':=s.toks) (λb o g e=>(S.2 b g).trans e) F J q r y;obtain⟨o,e,c,d⟩:=id M;exact⟨u,rfl,wE (s:={s with heap:=m }) e c d (by decide) ⟨x,H,Y,W,⟨rfl,λys hy=>by rw[I.tuple_inj hy l];exact L⟩,M,λb g=>(n b g).1⟩⟩
 done:=by
  intro X A C t Q i O s N H E I n f G;subst A C t;obtain⟨xs,l,L⟩:=G;obtain⟨B,D,p,U⟩:=I.tuple l;obtain⟨F,J,V,q,r,y⟩:=n j (by simp);have hl:=D.length;exact wpAny_pyNext_tuple_end (I.ok.hd Q) f (show s.heap.IsTuple a B.toArray from p) (by simp;lia) λm R=>⟨rfl,I.turned (t':=s.toks) (λb o g e=>R b o g e) F J q r y⟩
 self:=λ_ _ _ _ _ f h=>wpAny_pyIter_tupleiter f h
theorem uW{P:J2}{w:Kt}{K:JI}{R:Expr}(c:Kb)(g:Int)(n:Nat):uD P w K R (Itr g n) [c] c (λi h=>IsRangeIter h c (g+(i:Nat) *1) ((n:Int)-(i:Nat)) 1) where
 mem:=by simp
 obj:=λi h a b d=>by
  have e:b=c:=by simpa using d
  subst e
  exact⟨_,a,λv z=>by
   have L:Data.fields _=Data.cell v:=z;cases L⟩
 keep:=λi h f a k=>k c (by simp) _ a
 item:=by
  intro X r u p B i G s F H E I j a y;subst r u p;obtain⟨x,A,N,l,m,q⟩:=j c (by simp);have W:=Walks.range (prog:=X.prog) (w:=X.w) (I.ok.hd B) c g 1 n;refine W.item i s _ _ y a λv f C M D O=>?_;obtain⟨t,rfl⟩:=M;have Q:Inv X G F H {s with heap:=f,toks:=C }:=I.turned (λb o d e=>O b o (by simpa using d) e) x A l m q;refine⟨_,rfl,wE (s:={s with heap:=f,toks:=C }) (n:="range_iterator") D rfl rfl (by decide) ⟨.int (g+i),H,Q,⟨t,?_⟩,⟨rfl,rfl⟩,D,λb d=>(j b d).1⟩⟩;rw[Qm]
 done:=by
  intro X r u p B i G s F H E I j a y;subst r u p;obtain⟨x,A,N,l,m,q⟩:=j c (by simp);exact wpAny_pyNext_range_end (I.ok.hd B) a (by have:n<=i:=y;lia) λf J=>⟨rfl,I.turned (t':=s.toks) (λb o d e=>J b o d e) x A l m q⟩
 self:=λ_ _ _ _ _ a h=>wpAny_pyIter_rangeiter a h
section
variable {X:Cx}{tg:Expr}
noncomputable def EW(K:JI)(d:TE):TI:=λc H R=>d c H λx b=>∃a,x=.ref a/\(∃e,SqL K b a e)/\R (Itl K a) b
noncomputable def Jf(K:JI)(d:TE):TI:=λc H R=>d c H λx b=>∃a,x=.ref a/\(∃e,SqT K b a e)/\R (Itt K a) b
theorem Du(r:PE X l tl):PI X tg l (EW X.K tl):=by
 intro m s k H R I h;refine thn (r m s k H _ I h) λv d j=>?_;obtain⟨x,t,c,g,n⟩:=j;obtain⟨a,e,⟨z,i⟩,q⟩:=n;subst e;cases g;obtain⟨w,y,p,u⟩:=c.list i;refine Lp p.isList ?_;refine⟨d.heap.objs.size,[d.heap.objs.size],_,_,t,rfl,c.kept λb o e=>JJ _ e,oA a _,⟨_,JT _ rfl,rfl,rfl⟩,λb f=>?_,q⟩;have e:b=d.heap.objs.size:=by simpa using f
 subst e;exact c.fpOk (JR _) (c.hok.fresh (JR _))
theorem Fn(r:PE X l tl):PI X tg l (Jf X.K tl):=by
 intro m s k H R I h;refine thn (r m s k H _ I h) λv d j=>?_;obtain⟨x,t,c,g,n⟩:=j;obtain⟨a,e,⟨z,i⟩,q⟩:=n;subst e;cases g;obtain⟨w,y,p,u⟩:=c.tuple i;refine wpAny_pyIter_tuple p ?_;refine⟨d.heap.objs.size,[d.heap.objs.size],_,_,t,rfl,c.kept λb o e=>JJ _ e,tT a _,⟨_,JT _ rfl,rfl,rfl⟩,λb f=>?_,q⟩;have e:b=d.heap.objs.size:=by simpa using f
 subst e;exact c.fpOk (JR _) (c.hok.fresh (JR _))
theorem qE{a c:Int}(I:Inv X U8 σ H s)(h:-(2 ^ 62)<=a)(j:a<2 ^ 62)(g:-(2 ^ 62)<=c)(i:c<2 ^ 62)
  (q:R (Itr a (c-a).toNat) H):Kj (Kk X.prog X.w) X.A (Sq (.ref s.heap.objs.size)) (PIE X U8 σ tg R) E {s with heap:=s.heap.push {cls:=.type "range",data:=.fields #[.int a t,.int c u,.int 1 v] },toks:=tk }:=by
 refine wpAny_pyIter_range (IsRange.new ..) (small_one h j g i) ?_;have d:Inv X U8 σ H {s with heap:=s.heap.push {cls:=.type "range",data:=.fields #[.int a t,.int c u,.int 1 v] },toks:=tk }:=I.kept λb o e=>JJ _ e
 refine⟨(s.heap.push {cls:=.type "range",data:=.fields #[.int a t,.int c u,.int 1 v] }).objs.size,[(s.heap.push {cls:=.type "range",data:=.fields #[.int a t,.int c u,.int 1 v] }).objs.size],_,_,H,rfl,
  d.kept (t':=tk) λb o e=>JJ _ e,uW _ a (c-a).toNat,?_,λb f=>?_,q⟩
 .have k:a+((0:Nat):Int) *1=a:=by simp
  have l:(((c-a).toNat:Nat):Int)-((0:Nat):Int)=Builtin.Range.rangeSize a c 1:=by rw[rangeSize_one];split <;>lia
  show IsRangeIter _ _ (a+((0:Nat):Int) *1) ((((c-a).toNat:Nat):Int)-((0:Nat):Int)) 1;rw[k,l];exact JT _ rfl
 .have e:b=(s.heap.push {cls:=.type "range",data:=.fields #[.int a t,.int c u,.int 1 v] }).objs.size:=by simpa using f
  subst e;exact d.fpOk (JR _) (d.hok.fresh (JR _))
noncomputable def IE(ta:TA):TI:=λa H R=>ta a H λb c=>∃j:Int,b=[.int j]/\-(2 ^ 62)<=j/\j<2 ^ 62/\R (Itr 0 j.toNat) c
noncomputable def HG(ta:TA):TI:=λa H R=>ta a H λb c=>∃i j:Int,b=[.int i,.int j]/\(-(2 ^ 62)<=i/\i<2 ^ 62/\-(2 ^ 62)<=j/\j<2 ^ 62)/\R (Itr i (j-i).toNat) c
theorem yP(k:Gl X "range")(d:X.mg "range"=none)(n:PA X [a] ta)(hs:JO [a] X.env=[(false,LD a X.env)]:=by rfl):PI X tg (.Call (.Name "range" p) [a] [] pos) (IE ta):=by
 intro i s g H R I h;refine Call_ (cQ I k d boot_range (PyProof.Rows.callWith_type1 (thn (n pos i s g H _ I h) λv w f=>?_) hs rfl));obtain⟨u,x,m,c,b⟩:=f;obtain⟨j,e,b,l,q⟩:=b;subst e;cases c with
 |cons r o=>
  cases o;obtain⟨t,rfl⟩:=r;exact call_range_1 (qE m (by lia) (by lia) b l (by simpa using q))
theorem yC(v:Gl X "range")(k:X.mg "range"=none)(y:PA X [a,b] ta)(hs:JO [a,b] X.env=[(false,LD a X.env),(false,LD b X.env)]:=by rfl)(f:JO [b] X.env=[(false,LD b X.env)]:=by rfl):
  PI X tg (.Call (.Name "range" p) [a,b] [] pos) (HG ta):=by
 intro o s n H R I h;refine Call_ (cQ I v k boot_range (PyProof.Rows.callWith_type1 (thn (y pos o s n H _ I h) λB C ⟨z,D,x,g,c⟩=>?_) (by rw[hs,f]) (by rw[f];rfl)));obtain⟨i,j,e,⟨c,w,l,m⟩,q⟩:=c;subst e;cases g with
 |cons r d=>
  cases d with
  |cons u d=>
   cases d;obtain⟨t,rfl⟩:=r;obtain⟨A,rfl⟩:=u;exact call_range_2 (qE x c w l m q)
noncomputable def Jx(f:TI)(g:TG)(tb:TS):TS:=λD a H=>f a H λJ j=>∃W:Nat->Nat->St->Hp->Prop,(∃m,W 0 m a j)/\∀i m a H,W i m a H->
 (J.stop i H/\D.nx a H)\/(J.go i H/\∃N:St->Hp->Prop,(∀e b,N e b->∃d,d<m/\W (i+1) d e b)/\∀x b,J.yld i H x b->g x a b λc h=>tb {D with nx:=N,ct:=N,bk:=D.nx } c h)
noncomputable def mS(a:List Kb)(h:Mf):List (Kb×Obj):=a.filterMap λb=>(h.get? b).map λo=>(b,o)
theorem bJ(a:b∈fp)(e:h.get? b=some o):(b,o)∈mS fp h:=Pz.mpr ⟨b,a,by rw[e];rfl⟩
theorem ym(d:p∈mS fp h):p.1∈fp/\h.get? p.1=some p.2:=by
 obtain⟨b,a,e⟩:=Pz.mp d;cases q:h.get? b with
 |none=>rw[q]at e;cases e
 |some o=>
  rw[q]at e;have c:=KG e;subst c;exact⟨a,q⟩
theorem Inv.pinned(I:Inv X U8 σ H s)(k:∀b∈fp,eU X U8 H b)(f:∀b∈fp,∃o,s.heap.get? b=some o/\∀v,o.data≠.cell v):Inv X (U8++mS fp s.heap) σ H s:=
 I.pins_of λp j=>(Lm.mp j).elim (λz=>I.pin p (J1 _ z)) λz=>by
  obtain⟨a,e⟩:=ym z;obtain⟨i,g,h,_⟩:=k p.1 a;obtain⟨o,c,d⟩:=f p.1 a;rw[e]at c;cases c;exact⟨e,i,g,h,d⟩
theorem Inv.unpinned(I:Inv X (U8++pl) σ H s):Inv X U8 σ H s:=I.pins_of λp a=>I.pin p (J1 _ (LF _ a))
theorem AH(K:Ph (Kk X.prog X.w) X.A X.env X.xe)(hc:X.calm=true)(hi:PI X tg iter wi)(hg:PG X tg g)(l:PSs X Vk tb)
  (hs:∀x,KL iter X.env x=pure x:=by intro _;rfl):PS X (.For tg iter Vk [] pos) (Jx wi g tb):=by
 intro y s σ H D I h;refine wpAny_For (thn (hi y s σ H _ I h) λv s1 h1=>thn h1 λitv s2 h2=>?_) hs;obtain⟨it,fp,tn,J,H2,e,I2,T,U,Z,W,⟨m0,w0⟩,M⟩:=h2;subst e;have k:∀{q},(∀b∈fp,q b=none)->∀b∈fp,eU X y q b:=λhn b l=>⟨hn b l,(Z b l).2⟩
 refine codeAny_forLoop_any (λn s'=>∃i F q,Inv X y F q s'/\tn i s'.heap/\(∀b∈fp,q b=none)/\W i n F q) ?_ m0 ⟨0,σ,H2,I2,U,λb l=>(Z b l).1,w0⟩;rintro n s3 ⟨i,G,O,I3,z,E,w3⟩;rcases M i n G O w3 with ⟨B,qn⟩ |⟨go,N,hN,step⟩
 .refine Nf K (thn (T.done X rfl rfl rfl hc i y s3 G O X.xe I3 (k E) z B) λr s4 ⟨Q,I4⟩=>?_);subst Q;exact Pg ⟨G,O,I4,qn⟩
 .refine Nf K (thn (T.item X rfl rfl rfl hc i y s3 G O X.xe I3 (k E) z go) λr s4 C=>?_);obtain⟨u,Q,h4⟩:=C;subst Q;refine Nf K (thn h4 λ_ s5 C=>?_);obtain⟨x,H5,I5,r5,y5,P,R⟩:=C;have Y:=I5.pinned (k R) (T.obj _ _ P);refine Nf K (thn (hg _ s5 G H5 x u _ Y r5 (step x H5 y5)) λ_ s6 C=>?_);obtain⟨V,H6,I6,q6⟩:=C;refine Nf K (thn (l _ s6 V H6 _ I6 q6) λf S t=>?_)
  have p:∀{j}{c},Inv X (y++mS fp s5.heap) j c S->N j c->∃m,m<n/\∃i F q,Inv X y F q S/\tn i S.heap/\(∀b∈fp,q b=none)/\W i m F q:=λ{j c} a L=>by
   obtain⟨m',hm,w7⟩:=hN j c L;refine⟨m',hm,i+1,j,c,a.unpinned,T.keep _ _ _ P λb l o e=>(a.pin (b,o) (J1 _ (J1 _ (bJ l e)))).1,λb l=>?_,w7⟩;obtain⟨o,e,d⟩:=T.obj _ _ P b l;exact (a.pin (b,o) (J1 _ (J1 _ (bJ l e)))).2.1
  cases f with
  |next=>obtain⟨j,c,a,L⟩:=t;exact p a L
  |cont=>obtain⟨j,c,a,L⟩:=t;exact p a L
  |brk=>obtain⟨j,c,a,t⟩:=t;exact⟨j,c,a.unpinned,t⟩
  |ret v=>obtain⟨x7,j,c,a,r7,t⟩:=t;exact⟨x7,j,c,a.unpinned,r7,t⟩
end
noncomputable abbrev R2:=V->V->Hp->VK->Prop
def OpR(X:Cx)(f:J0->J0->Sem J0)(r:R2):Prop:=
 ∀(b:List (Kb×Obj)) (s:JY) (a:St) (H:Hp) (x y:V) (v u:J0) (Q:VK),Inv X b a H s->aM x v->aM y u->r x y H Q->
  Kj (Kk X.prog X.w) X.A (f v u) (EP X b a Q) X.xe s
def UnR(X:Cx)(f:J0->Sem J0)(r:V->Hp->VK->Prop):Prop:=
 ∀(b:List (Kb×Obj)) (s:JY) (a:St) (H:Hp) (x:V) (v:J0) (Q:VK),Inv X b a H s->aM x v->r x H Q->
  Kj (Kk X.prog X.w) X.A (f v) (EP X b a Q) X.xe s
def ce(X:Cx)(f:J0)(r:List V->Hp->VK->Prop):Prop:=
 ∀(c:List (Kb×Obj)) (s:JY) (b:St) (H:Hp) (d:List V) (a:List J0) (Q:VK),Inv X c b H s->aP d a->r d H Q->
  Kj (Kk X.prog X.w) X.A (call f a) (EP X c b Q) X.xe s
noncomputable def tOp(r:R2)(ta tb:TE):TE:=λa H Q=>ta a H λx c=>tb a c λy b=>r x y b Q
noncomputable def tUn(r:V->Hp->VK->Prop)(ta:TE):TE:=λa H Q=>ta a H λx b=>r x b Q
noncomputable def rI(C:Int->Int->Prop)(g:Int->Int->V):R2:=λx y H Q=>∃i j,x=.int i/\y=.int j/\C i j/\Q (g i j) H
noncomputable def rI0(g:Int->Int->V):R2:=λx y H Q=>∃i j,x=.int i/\y=.int j/\Q (g i j) H
def rU(g:Int->V):V->Hp->VK->Prop:=λx H Q=>∃i,x=.int i/\Q (g i) H
section
variable {X:Cx}{a b c:Expr}{ta tb tc:TE}{pos:Pos}
theorem FF(t:PE X a ta)(i:PE X b tb){R:V->V->Hp->Prop}(I:Inv X U8 σ H s)
  (h:ta σ H λx g=>tb σ g λy c=>R x y c) {f:J0->J0->Sem J0}
  (hf:∀v u d x y c,Inv X U8 σ c d->aM x v->aM y u->R x y c->Kj (Kk X.prog X.w) X.A (f v u) Q X.xe d):
  Kj (Kk X.prog X.w) X.A (LD a X.env) (λv m=>Kj (Kk X.prog X.w) X.A (LD b X.env) (λu j=>Kj (Kk X.prog X.w) X.A (f v u) Q X.xe j) X.xe m) X.xe s:=by
 refine thn (t U8 s σ H _ I h) λv q e=>?_;obtain⟨x,g,p,k,n⟩:=e;refine thn (i U8 q σ g _ p n) λu d e=>?_;obtain⟨y,c,r,l,o⟩:=e;exact hf v u d x y c r k l o
theorem si(f:OpR X (N7 op) r)(m:PE X a ta)(d:PE X b tb):PE X (.BinOp a op b pos) (tOp r ta tb):=by
 intro j s i H Q I h;exact wpAny_BinOp (FF m d I h λv u c x y k l g e q=>f j c i k x y v u Q l g e q)
theorem HY(e:UnR X (unaryOp op) r)(i:PE X a ta):PE X (.UnaryOp op a pos) (tUn r ta):=by
 intro c s b H Q I h;exact UnaryOp_ (thn (i c s b H _ I h) λv g ⟨x,j,k,d,f⟩=>e c g b j x v Q k d f)
theorem opI{g:Int->Int->Int}
  (rule:∀i j (t u:Tok) s Q E,C i j->Q (.int (g i j) s.toks) {s with toks:=s.toks+1 }->Kj (Kk X.prog X.w) X.A (f (.int i t) (.int j u)) Q E s):
  OpR X f (rI C λi j=>.int (g i j)):=by
 intro k s e H x y v u Q I b a h;obtain⟨i,j,rfl,rfl,d,q⟩:=h;obtain⟨t,rfl⟩:=b;obtain⟨c,rfl⟩:=a;exact rule i j t c s _ _ d ⟨.int (g i j),H,I.tok _,⟨_,rfl⟩,q⟩
theorem Ip{g:Int->Int->Int}
  (rule:∀i j (t u:Tok) s Q E,Q (.int (g i j) s.toks) {s with toks:=s.toks+1 }->Kj (Kk X.prog X.w) X.A (f (.int i t) (.int j u)) Q E s):
  OpR X f (rI0 λi j=>.int (g i j)):=by
 intro e s d H x y v u Q I b a h;obtain⟨i,j,rfl,rfl,q⟩:=h;obtain⟨t,rfl⟩:=b;obtain⟨c,rfl⟩:=a;exact rule i j t c s _ _ ⟨.int (g i j),H,I.tok _,⟨_,rfl⟩,q⟩
theorem D8{g:Int->Int->Bool}
  (rule:∀i j (t u:Tok) s Q E,Q (.bool (g i j)) s->Kj (Kk X.prog X.w) X.A (f (.int i t) (.int j u)) Q E s):
  OpR X f (rI0 λi j=>.bl (g i j)):=by
 intro e s d H x y v u Q I b a h;obtain⟨i,j,rfl,rfl,q⟩:=h;obtain⟨t,rfl⟩:=b;obtain⟨c,rfl⟩:=a;exact rule i j t c s _ _ ⟨.bl (g i j),H,I,rfl,q⟩
def HE(i j:Int):Prop:=0<=j/\j<=1000000/\i.natAbs<2 ^ 64
theorem Fx:OpR X (N7 .Add) (rI0 λi j=>.int (i+j)):=Ip λ_ _ _ _ _ _ _ q=>add_int q
theorem Ge:OpR X (N7 .Sub) (rI0 λi j=>.int (i-j)):=Ip λ_ _ _ _ _ _ _ q=>sub_int q
theorem FE:OpR X (N7 .Mod) (rI (λ_ j=>0<j) λi j=>.int (i%j)):=opI λi j _ _ _ _ _ a q=>by
 exact mod_int' (by lia) (by rw[Int.fmod_eq_emod_of_nonneg i (by lia)];exact q)
theorem GM:OpR X (N7 .Pow) (rI HE λi j=>.int (i ^ j.toNat)):=opI λ_ _ _ _ _ _ _ a q=>pow_int_small a.1 a.2.1 a.2.2 q
theorem unI{g:Int->Int}
  (rule:∀i (t:Tok) s Q E,Q (.int (g i) s.toks) {s with toks:=s.toks+1 }->Kj (Kk X.prog X.w) X.A (f (.int i t)) Q E s):
  UnR X f (rU λi=>.int (g i)):=by
 intro c s b H x v Q I a h;obtain⟨i,rfl,q⟩:=h;obtain⟨t,rfl⟩:=a;exact rule i t s _ _ ⟨.int (g i),H,I.tok _,⟨_,rfl⟩,q⟩
theorem FI:UnR X (unaryOp .USub) (rU λi=>.int (-i)):=unI λ_ _ _ _ _ q=>neg_int q
theorem mq(I:Inv X U8 σ H s)(q:Q (.bl k) H)(e:k=k'):EP X U8 σ Q (.bool k') s:=by
 subst e;exact⟨.bl k,H,I,rfl,q⟩
theorem Il:OpR X (KO .Lt) (rI0 λi j=>.bl (decide (i<j))):=D8 λ_ _ _ _ _ _ _ q=>lt_int q
theorem HS:OpR X (KO .LtE) (rI0 λi j=>.bl (decide (i<=j))):=D8 λ_ _ _ _ _ _ _ q=>le_int q
theorem IL:OpR X (KO .Gt) (rI0 λi j=>.bl (decide (j<i))):=D8 λ_ _ _ _ _ _ _ q=>gt_int q
theorem He:OpR X (KO .GtE) (rI0 λi j=>.bl (decide (j<=i))):=D8 λ_ _ _ _ _ _ _ q=>ge_int q
theorem xy:OpR X (KO .In) (λx y H Q=>∃i j,x=.str i/\y=.str j/\Q (.bl (!(Builtin.Str.occurrences j i 0 j.length 1).isEmpty)) H):=by
 intro d s c H x y v u Q I b a h;obtain⟨i,j,rfl,rfl,q⟩:=h;obtain⟨t,rfl⟩:=b;obtain⟨e,rfl⟩:=a;exact in_str (mq I q rfl)
theorem j5(b)(h:op≠.In:=by decide)(a:op≠.NotIn:=by decide):LR op b=false:=by
 have c:(op==CmpOp.In)=false:=by cases op <;>first |rfl |exact absurd rfl h
 have d:(op==CmpOp.NotIn)=false:=by cases op <;>first |rfl |exact absurd rfl a
 cases b <;>simp[LR,c,d]
theorem CK(f:OpR X (KO op) r)(n:PE X a ta)(d:PE X b tb)(g:LR op b=false):PE X (.Compare a [op] [b] pos) (tOp r ta tb):=by
 intro k s j H Q I h;exact wpAny_Compare1 (FF n d I h λv u c x y l m i e q=>f k c j l x y v u Q m i e q) g
noncomputable def E7(t:TE):TT:=λa H Q=>t a H λx b=>∃k,x=.bl k/\Q k b
theorem wa(m:OpR X (KO op) r)(F:PE X a ta)(i:PE X b tb)(o:LR op b=false):PT X (.Compare a [op] [b] pos) (E7 (tOp r ta tb)):=by
 intro f s d H Q I h
 refine QN (thn (F f s d H _ I h) λv D ⟨x,G,B,l,w⟩=>thn (i f D d G _ B w) λu g ⟨y,A,E,n,C⟩=>
  thn (m f g d A x y v u _ E l n C) λc J z9=>?_) o
 obtain⟨z,j,t,p,k,e,q⟩:=z9
 subst e;cases p;exact LA ⟨j,t,q⟩
noncomputable def FZ(r d:R2)(ta tb tc:TE):TE:=λa H Q=>ta a H λx g=>tb a g λy e=>r x y e λz b=>∃k,z=.bl k/\
 (if k=true then tc a b λf c=>d y f c Q else Q (.bl false) b)
theorem zr(C:OpR X (KO op) r)(A:OpR X (KO op') r')(ha:PE X a ta)(o:PE X b tb)(hc:PE X c tc)
  (hm:lastMarks [op,op'] [b,c]=false:=by with_unfolding_all rfl):PT X (.Compare a [op,op'] [b,c] pos) (E7 (FZ r r' ta tb tc)):=by
 intro g s f H Q I h
 refine isTrue_chain (thn (ha g s f H _ I h) λv W ⟨x,H1,T,B,R⟩=>test_link (thn (o g W f H1 _ T R) λu n ⟨y,S,Z,j,U⟩=>
  thn (C g n f S x y v u _ Z B j U) λd O z9=>?_)) hm
 obtain⟨z,i,m,D,k,e,l⟩:=z9
 subst e;cases D;refine LA ?_;cases k with
 |false=>
  obtain⟨k',P,L⟩:=l;cases P;exact ite_ff ⟨i,m,L⟩
 |true=>
  refine ite_tt (test_last (thn (hc g O f i _ m l) λF M ⟨p,Y,K,V,G⟩=>thn (A g M f Y y p u F _ K j V G) λd' s5 E=>?_));obtain⟨z2,q,t,w,k2,N,J⟩:=E;subst N;cases w;exact LA ⟨q,t,J⟩
theorem l4:(sizeLine:Nat)<2 ^ 63:=by rw[Lg];decide
theorem uS:OpR X (N7 .Add) (λx y H Q=>∃i j,x=.str i/\y=.str j/\i.length+j.length<=sizeLine/\Q (.str (i++j)) H):=by
 intro g s f H x y v u Q I b a h;obtain⟨i,j,rfl,rfl,c,q⟩:=h;obtain⟨t,rfl⟩:=b;obtain⟨d,rfl⟩:=a;exact add_str (λd e=>⟨.str (i++j),H,I.tok _,⟨_,rfl⟩,q⟩) c
theorem c8(r:aP [x] us):∃u,us=[u]/\aM x u:=by
 cases r with
 |cons a b=>cases b;exact⟨_,rfl,a⟩
theorem kH(r:aP [x,y] us):∃u a,us=[u,a]/\aM x u/\aM y a:=by
 cases r with
 |cons c d=>
  cases d with
  |cons e b=>cases b;exact⟨_,_,rfl,c,e⟩
theorem A_:ce X (.builtin "abs") (λa H Q=>∃i,a=[.int i]∧Q (.int (if i<0 then -i else i)) H):=by
 intro d s c H a b Q I r h;obtain⟨i,rfl,q⟩:=h;obtain⟨u,rfl,t,rfl⟩:=c8 r;exact call_abs_int λu e=>⟨.int (if i<0 then -i else i),H,I.tok _,⟨_,rfl⟩,q⟩
theorem yA(c:X.calm=true):ce X (.builtin "max") (λb H Q=>∃i j,b=[.int i,.int j]∧Q (.int (if j >i then j else i)) H):=by
 intro g s f H b n Q I r h;obtain⟨i,j,rfl,q⟩:=h;obtain⟨u,e,rfl,⟨t,rfl⟩,⟨l,rfl⟩⟩:=kH r;refine max_two_ints (I.ok.hd c) λm d k=>⟨_,H,I.kept k,?_,q⟩
 by_cases a:j >i
 .rw[if_pos a,if_pos a];exact⟨_,rfl⟩
 .rw[if_neg a,if_neg a];exact⟨_,rfl⟩
theorem yj(c:X.calm=true):ce X (.builtin "min") (λb H Q=>∃i j,b=[.int i,.int j]∧Q (.int (if j<i then j else i)) H):=by
 intro g s f H b n Q I r h;obtain⟨i,j,rfl,q⟩:=h;obtain⟨u,e,rfl,⟨t,rfl⟩,⟨l,rfl⟩⟩:=kH r;refine min_two_ints (I.ok.hd c) λm d k=>⟨_,H,I.kept k,?_,q⟩
 by_cases a:j<i
 .rw[if_pos a,if_pos a];exact⟨_,rfl⟩
 .rw[if_neg a,if_neg a];exact⟨_,rfl⟩
theorem yX:ce X (.type "int") (λa H Q=>(∃i,a=[.int i]∧Q (.int i) H)∨∃k,a=[.bl k]∧Q (.int (if k then 1 else 0)) H):=by
 intro e s d H a c Q I r h;rcases h with ⟨i,rfl,q⟩ |⟨k,rfl,q⟩
 .obtain⟨u,rfl,t,rfl⟩:=c8 r;exact call_int_int ⟨.int i,H,I,⟨_,rfl⟩,q⟩
 .obtain⟨u,rfl,b⟩:=c8 r;cases b;exact call_int_bool ⟨.int (if k then 1 else 0),H,I.tok _,⟨_,rfl⟩,q⟩
theorem pH:ce X (.type "str") (λa H Q=>∃i,a=[.int i]∧i.natAbs.log2<1920∧Q (.str (OE i)) H):=by
 intro e s d H a c Q I r h;obtain⟨i,rfl,b,q⟩:=h;obtain⟨u,rfl,t,rfl⟩:=c8 r;exact PySem.P.str_of_int b ⟨.str _,H,I.tok _,⟨_,rfl⟩,q⟩
end
structure tK(h:Mf)(x dx C:Kb)(mA:Str->Option J0):Prop where
 obj:h.get? x=some (MM C dx)
 ns:h.Ns1 dx mA
 ne:dx≠x
theorem yx{h:Mf}(n:h.Ns1 dx mA):∃f,h.get? dx=some f/\∀b,PR b f=some (mA b):=by
 obtain⟨o,d,m,i,g,l,_,j⟩:=n;refine⟨o,i,λb=>?_⟩;have e:=j b;unfold nsFind findBy at e;rw[<-Array.find?_toList]at e;unfold PR;rw[g];dsimp only;split
 .rename_i y q
  rw[q]at e;exact congrArg some e
 .rename_i q
  rw[q]at e
  have a:d.toList.any (·.refKey)=false:=by
   rw[List.any_eq_false];intro y hy;obtain⟨z,t,c⟩:=l y (O6.mp hy);simp[DictEntry.refKey,c]
  have k:¬ d.toList.any (·.refKey)=true:=by rw[a];exact KZ
  rw[if_neg k];exact congrArg some e
theorem tK.look(I:tK h x dx C mA):∃b,PySem.W.InstAt h x (MM C dx) C (some b)/\∀a,PR a b=some (mA a):=
 let ⟨b,ho,hl⟩:=yx I.ns
 ⟨b,⟨I.obj,rfl,rfl,ho⟩,hl⟩
section
variable {prog:J2}{w:Kt}{A:K7}{E:J0→JY→Prop}{s:JY}{K:JI}{x dx C f:Kb}{mA:Str→Option J0}{name:Str}{v:J0}
theorem Ek(X:K.In s.heap)(I:tK s.heap x dx C mA)(b:OV K C name=true)(a:P7 K C=true)
  (ha:L4 K (.ref C) name=some none) (hv:mA name=some v) (XW:SB v=true) (h:Q v {s with toks:=s.toks+1 }):
  Kj (Kk prog w) A (getAttr (.ref x) name expr) Q E s:=by
 obtain⟨d,J,c⟩:=I.look;exact PySem.W.get_value X J (Pi b).1 (PySem.W.findObj_own a ha rfl (by rw[c,hv])) XW h
theorem A3(X:K.In s.heap)(I:tK s.heap x dx C mA)(a:OV K C name=true)
  (hf:L4 K (.ref C) name=some (some (.ref f))) (ht:Sr K (.ref f)=true) (hv:mA name=none) (h:Q (.ref f,[.ref x]) s):
  Kj (Kk prog w) A (Pj (.ref x) name pl) Q E s:=by
 obtain⟨b,J,c⟩:=I.look;exact PySem.W.method_fn X J (Pi a).1 (Pi a).2 hf (beq_iff_eq.mp ht) (by show (PR name b).map (·.isSome)=some false;rw[c,hv];rfl) h
theorem El(X:K.In s.heap)(I:tK s.heap x dx C mA)
  (hs:L4 K (.ref C) "__setattr__"=some (some (.builtin "object.__setattr__"))) (hp:R6 K C=true) (ht:QO K C name=some none) (hh:P7 K C=true)
  (hw:Sm mA ns) (VI:ns.length<=sizeLine)
  (h:∀c,tK c x dx C (λy=>if y=name then some v else mA y)->MD dx s.heap c->Q () {s with heap:=c,toks:=s.toks+2 }):
  Kj (Kk prog w) A (setAttr (.ref x) name v) Q E s:=by
 obtain⟨n,J,q⟩:=I.look;refine PySem.W.set_plain X J hs (PySem.W.osa_open X J hp ht λb=>?_);obtain⟨o,l,j⟩:=PySem.W.any_some hh;have m:=I.obj;refine JH (JM (JH (JH (wpAny_loadPart m (JH (US (PySem.W.looks_clsIn X l) ?_))))));rw[j];refine JM (JH (JM (JH ?_)));refine wpAny_nsSet1 I.ns λc a g=>?_;obtain⟨p,i,k,f,e,d⟩:=a.count (UY name v hw);refine JH (wpAny_lookBehind f (by rw[e];exact pastItsLine_dict (KH d (by rw[JX];lia))) ?_);exact JM (h _ ⟨(g.2 _ (Ne.symm I.ne)).trans I.obj,a,I.ne⟩ g)
theorem Aj(X:K.In s.heap)(b:S0 K C=true)
  (hi:L4 K (.ref C) "__init__"=some (some (.ref f))) (hf:PySem.W.typeIn K (.ref f)=some (.type "function"))
  (h:NY (Kk prog w) (A.under (.builtin "type.__call__" ⟨.ref C::vs,kw⟩)) (.call (.ref f) ⟨.ref (s.heap.objs.size+1)::vs,kw⟩) (PySem.W.InitBack (s.heap.objs.size+1) R)
   {s with heap:=(s.heap.push Mg).push (MM C s.heap.objs.size) }):
  NY (Kk prog w) A (.call (.ref C) ⟨vs,kw⟩) R s:=by
 exact PySem.W.make_core (PySem.W.makes_of X b) (PySem.W.looks_findIn X hi) (λa=>PySem.W.bind_fn X a hf) (.inl rfl) h
end
noncomputable def hX(f:Str)(v:V):List (Str×V)->List (Str×V)
 |[]=>[(f,v)]
 | (g,x)::r=>if g=f then (g,v)::r else (g,x)::hX f v r
theorem ke(f g)(v):∀fs,(hX f v fs).lookup g=if g=f then some v else fs.lookup g
 |[]=>by
  show Nk g [(f,v)]=_;by_cases h:g=f
  .have hb:=beq_iff_eq.mpr h;simp only[Nk,hb,if_pos h]
  .have hb:=beq_eq_false_iff_ne.mpr h;simp only[Nk,hb,if_neg h]
 | (k,x)::r=>by
  have b:=ke f g v r;rw[show hX f v ((k,x)::r)=(if k=f then (k,v)::r else (k,x)::hX f v r) from rfl];by_cases a:k=f
  .rw[if_pos a];by_cases h:g=k
   .have hb:=beq_iff_eq.mpr h;simp only[Nk,hb,if_pos (h.trans a)]
   .have hb:=beq_eq_false_iff_ne.mpr h;simp only[Nk,hb,if_neg (λe:g=f=>h (e.trans a.symm))]
  .rw[if_neg a];by_cases h:g=k
   .have hb:=beq_iff_eq.mpr h;simp only[Nk,hb,if_neg (λe:g=f=>a (h.symm.trans e))]
   .have hb:=beq_eq_false_iff_ne.mpr h;simp only[Nk,hb];exact b
theorem jS(f)(v):∀fs,f∈(hX f v fs).map (·.1)/\∀g,g∈fs.map (·.1)->g∈(hX f v fs).map (·.1)
 |[]=>⟨by simp[hX],λg h=>by simp at h⟩
 | (k,x)::r=>by
  obtain⟨b,c⟩:=jS f v r;rw[show hX f v ((k,x)::r)=(if k=f then (k,v)::r else (k,x)::hX f v r) from rfl];by_cases a:k=f
  .rw[if_pos a];subst a;exact⟨by simp,λg h=>by simpa using h⟩
  .rw[if_neg a];refine⟨?_,λg h=>?_⟩
   .rw[J6];exact JL _ b
   .rw[J6]at h |-;rcases JN.mp h with e |e
    .exact JN.mpr (.inl e)
    .exact JL _ (c g e)
theorem ko(f)(v):∀fs,(hX f v fs).length<=fs.length+1
 |[]=>by simp[hX]
 | (k,x)::r=>by
  have ih:=ko f v r;rw[show hX f v ((k,x)::r)=(if k=f then (k,v)::r else (k,x)::hX f v r) from rfl];by_cases a:k=f
  .rw[if_pos a,JX,JX];lia
  .rw[if_neg a,JX,JX];lia
theorem ig.some_of(r:ig (some v) o):∃u,o=some u/\aM v u:=by
 cases o with
 |none=>exact r.elim
 |some u=>exact⟨u,rfl,r⟩
theorem ig.none_of(r:ig none o):o=none:=by
 cases o with
 |none=>rfl
 |some u=>exact r.elim
theorem xQ(r:aM v u):SB u=true:=by
 cases v with
 |non=>cases r;rfl
 |bl b=>cases r;rfl
 |int i=>obtain⟨t,e⟩:=r;cases e;rfl
 |str x=>obtain⟨t,e⟩:=r;cases e;rfl
 |byt b=>obtain⟨t,e⟩:=r;cases e;rfl
 |flt b=>obtain⟨t,e⟩:=r;cases e;rfl
 |ref a=>cases r;rfl
 |ty n=>cases r;rfl
section
variable {P:J2}{w:Kt}{H H':Hp}{h h':Mf}{a C dx:Kb}{fs fs':List (Str×V)}
theorem kY(c:HOk P w H h)(e:H a=some (.ins C dx fs)):∃b,tK h a dx C b/\(∀f,ig (fs.lookup f) (b f))/\Sm b (fs.map (·.1))/\fs.length<=1000/\H dx=some (.own a):=by
 obtain⟨d,z,g,i,b,n,r,q⟩:=(c a _ e);exact⟨b,⟨i,n,g⟩,r,q,z,d⟩
end
structure Cls(K:JI)(C:Kb):Prop where
 pg:OV K C Str.empty=true
 hd:P7 K C=true
 po:R6 K C=true
 sa:L4 K (.ref C) "__setattr__"=some (some (.builtin "object.__setattr__"))
theorem Cls.get{K:JI}(c:Cls K C)(f):OV K C f=true:=c.pg
def fR(K:JI)(C:Kb)(f:Str):Prop:=L4 K (.ref C) f=some none
theorem fR.taker{K:JI}(n:fR K C f):QO K C f=some none:=by
 unfold QO;rw[show L4 K (.ref C) f=some none from n];rfl
structure tY(K:JI)(C:Kb)(m:Str)(f:Kb):Prop where
 at_:L4 K (.ref C) m=some (some (.ref f))
 fn:Sr K (.ref f)=true
 kp:LK K (.ref f)=true
section
variable {X:Cx}{U8:List (Kb×Obj)}{σ:St}{H:Hp}{s:JY}{a C dx:Kb}{fs:List (Str×V)}{f:Str}{v:V}{A:K7}{E:J0→JY→Prop}
theorem uN(I:Inv X U8 σ H s)(e:H a=some (.ins C dx fs))(c:Cls X.K C)(n:fR X.K C f)(l:fs.lookup f=some v)
  (h:∀u g,Inv X U8 σ H g->aM v u->Q u g):Kj (Kk X.prog X.w) A (getAttr (.ref a) f b) Q E s:=by
 obtain⟨j,O,r,_,_,_⟩:=kY I.hok e;obtain⟨u,i,d⟩:=ig.some_of (by rw[<-l];exact r f);exact Ek I.kIn O (c.get f) c.hd n i (xQ d) (h u _ (I.tok _) d)
theorem lK(I:Inv X U8 σ H s)(e:H a=some (.ins C dx fs))(c:Cls X.K C)(k:tY X.K C m g)(l:fs.lookup m=none)
  (h:Q (.ref g,[.ref a]) s):Kj (Kk X.prog X.w) A (Pj (.ref a) m pl) Q E s:=by
 obtain⟨d,O,r,_,_,_⟩:=kY I.hok e;have b:=ig.none_of (by rw[<-l];exact r m);exact A3 I.kIn O (c.get m) k.at_ k.fn b h
theorem uX(I:Inv X U8 σ H s)(e:H a=some (.ins C dx fs))(c:Cls X.K C)(n:fR X.K C f)(F:fs.length<1000)(v:aM y u)
  (h:∀k,Inv X U8 σ (upd H a (.ins C dx (hX f y fs))) k->Q () k):Kj (Kk X.prog X.w) A (setAttr (.ref a) f u) Q E s:=by
 obtain⟨j,O,r,l,_,i⟩:=kY I.hok e;have x:(fs.map (·.1)).length<=sizeLine:=by rw[JK,Lg];lia
 refine El I.kIn O c.sa c.po n.taker c.hd l x λD d p=>h _ ?_;have t:∃o,D.get? dx=some o:=let ⟨o,_,_,e',_⟩:=d.ns;⟨o,e'⟩;refine I.write (by rw[e];exact True.intro) (.inr i) (λb q m z=>(p.2 b m).trans z) t ?_
 refine⟨by rw[aD O.ne];exact i,?_,O.ne,d.obj,_,d.ns,λg=>?_,λg B=>?_⟩
 .have:=ko f y fs;lia
 .show ig ((hX f y fs).lookup g) (if g=f then some u else j g);rw[ke];by_cases q:g=f
  .rw[if_pos q,if_pos q];exact v
  .rw[if_neg q,if_neg q];exact r g
 .by_cases q:g=f
  .rw[q];exact (jS f y fs).1
  .refine (jS f y fs).2 g (l g λz=>B ?_);show (if g=f then some u else j g)=none;rw[if_neg q];exact z
theorem Inv.made(I:Inv X U8 σ H s):Inv X U8 σ (upd (upd H s.heap.objs.size (.own (s.heap.objs.size+1))) (s.heap.objs.size+1) (.ins C s.heap.objs.size []))
  {s with heap:=(s.heap.push Mg).push (MM C s.heap.objs.size) }:=by
 have c:(s.heap.push Mg).get? s.heap.objs.size=some Mg:=JT s.heap rfl
 have h:((s.heap.push Mg).push (MM C s.heap.objs.size)).get? (s.heap.objs.size+1)=some (MM C s.heap.objs.size):=by
  have:=JT (s.heap.push Mg) (o:=MM C s.heap.objs.size) rfl
  rwa [KU]at this
 have d:(s.heap.push Mg).Ns s.heap.objs.size (λ_=>none):=⟨Mg,#[],_,c,rfl,(λe f=>absurd f (by simp)),λ_=>rfl⟩
 have g:=I.laid (o:=.own (s.heap.objs.size+1)) (t':=s.toks) (λb u q=>JJ _ q) (JR _) ⟨_,c⟩;refine g.laid (λb u q=>JJ _ q) (Ss (KU _ _)) ?_;have a:s.heap.objs.size≠s.heap.objs.size+1:=Kh (LS _);refine⟨by rw[aD a,aG],Kv _,a,h,λ_=>none,(Heap.Ns1.of_empty d).at λo q=>JJ _ q,λ_=>True.intro,λy hy=>absurd rfl hy⟩
theorem DY(b:Lc e f env (LD e env)=LD e env)
  (h:Kj (Kk prog w) A (LD e env) (λo a=>Kj (Kk prog w) A (getAttr o f true) Q E a) E s):Kj (Kk prog w) A (LD (.Attribute e f pos) env) Q E s:=
 Attribute_any_ h (by rw[arm_eval_Attribute,b])
end
noncomputable def Jr(K:JI)(ta:TE)(f:Str):TE:=λc H Q=>ta c H λx b=>∃a C d fs v,x=.ref a/\b a=some (.ins C d fs)/\Cls K C/\fR K C f/\fs.lookup f=some v/\Q v b
noncomputable def Ji(K:JI)(ta e:TE)(f:Str):TS:=λD b H=>e b H λy g=>ta b g λx c=>∃a C d fs,x=.ref a/\c a=some (.ins C d fs)/\Cls K C/\fR K C f/\fs.length<1000/\
 D.nx b (upd c a (.ins C d (hX f y fs)))
section
variable {X:Cx}{o e Vt:Expr}{f:Str}{pos Vq Xl:Pos}{ta tv:TE}
theorem FX(d:PE X e ta)(b:Lc e f X.env (LD e X.env)=LD e X.env):PE X (.Attribute e f pos) (Jr X.K ta f):=by
 intro o s m H Q I h;refine DY b (thn (d o s m H _ I h) λu A g=>?_);obtain⟨x,t,p,i,a,C,z,fs,v,ex,j,c,n,l,q⟩:=g;subst ex;obtain rfl:u=Ku a:=i;exact uN p j c n l λy w r k=>⟨v,t,r,k,q⟩
theorem GG(z:PE X o ta)(g:PE X Vt tv)(hs:Mn Vt (some (.Attribute o f Vq)) pos.line X.env=pure false):PS X (.Assign [.Attribute o f Vq] Vt pos) (Ji X.K ta tv f):=by
 intro d s b H D I h;refine plainObj_wpAny_Assign_Attribute (thn (g d s b H _ I h) λu v ⟨y,A,p,e,q⟩=>thn (z d v b A _ p q) λt B i=>?_) hs;obtain⟨x,G,w,j,a,C,E,fs,ex,k,c,n,l,r⟩:=i;subst ex;obtain rfl:t=Ku a:=j;exact uX w k c n l e λF m=>⟨b,_,m,r⟩
end
section
variable {X:Cx}{U8:List (Kb×Obj)}{σ:St}{H:Hp}{s:JY}{A:K7}{E:J0→JY→Prop}{Q:J0→JY→Prop}{c:J0}{b:Bool}
inductive kM (K:JI) (H:Hp):V->J0->Prop where
 |non:kM K H .non (.type "NoneType")
 |bl (x:Bool):kM K H (.bl x) (.type "bool")
 |int (i:Int):kM K H (.int i) (.type "int")
 |str (x:Str):kM K H (.str x) (.type "str")
 |flt (x:UInt64):kM K H (.flt x) (.type "float")
 |lst {a:Kb}{xs:List V} (e:H a=some (.lst xs)):kM K H (.ref a) (.type "list")
 |frz {a:Kb}{o:Obj}{xs:List V} (e:H a=some (.frz o (.lst xs))):kM K H (.ref a) (.type "list")
 |tup {a:Kb}{xs:List V} (e:H a=some (.tup xs)):kM K H (.ref a) (.type "tuple")
 |dK {a:Kb}{Va:List (Key×V)} (e:H a=some (.dK Va)):kM K H (.ref a) (.type "dict")
 |dT {a:Kb}{Va:List (List Key×V)} (e:H a=some (.dT Va)):kM K H (.ref a) (.type "dict")
 |ins {a C dx:Kb}{fs:List (Str×V)} (e:H a=some (.ins C dx fs)) (cl:Cls K C) (ha:L4 K (.ref C) "__class__"=some (some (.builtin "object.__class__")))
   (hn:PySem.W.specialIn K (.builtin "object.__class__") "__get__"=some (some (.builtin "getset_descriptor.__get__"))) (Wx:PySem.W.takesIn K (.builtin "object.__class__")=some true)
   (hm:PySem.W.mroIn K C (.type "object")=some true):kM K H (.ref a) (.ref C)
theorem dG(I:Inv X U8 σ H s)(d:aM x u)(m:kM X.K H x t)(e:OF X.K t c=some b)(h:∀v,Q (.bool b) {s with toks:=v }):
  Kj (Kk X.prog X.w) A (call (.builtin "isinstance") [u,c]) Q E s:=by
 cases m with
 |non=>cases d;exact Ln PySem.W.kitx_none I.kIn True.intro e (λz=>nomatch z) h
 |bl y=>cases d;exact Ln PySem.W.kitx_bool I.kIn True.intro e (λz=>nomatch z) h
 |int i=>obtain⟨t,q⟩:=d;cases q;exact Ln PySem.W.kitx_int I.kIn True.intro e (λz=>nomatch z) h
 |str y=>obtain⟨t,q⟩:=d;cases q;exact Ln PySem.W.kitx_str I.kIn True.intro e (λz=>nomatch z) h
 |flt y=>obtain⟨t,q⟩:=d;cases q;exact Ln PySem.W.kitx_float I.kIn True.intro e (λz=>nomatch z) h
 | @lst a k f=>
  cases d;obtain⟨_,_,n,_,g⟩:=(I.hok a _ f);exact Ln P8 I.kIn ⟨_,g,rfl⟩ e (λz=>nomatch z) h
 | @frz a P k f=>
  cases d;obtain⟨_,_,_,n,_,g⟩:=(I.hok a _ f);exact Ln P8 I.kIn ⟨_,g,rfl⟩ e (λz=>nomatch z) h
 | @tup a k f=>
  cases d;obtain⟨_,_,_,p⟩:=(I.hok a _ f);obtain⟨o,g,j,_⟩:=p;exact Ln RI I.kIn ⟨o,g,j⟩ e (λz=>nomatch z) h
 | @dK a F f=>
  cases d;obtain⟨_,_,N,_,p⟩:=(I.hok a _ f);obtain⟨o,r,G,g,j,_⟩:=p;exact Ln R7 I.kIn ⟨o,g,j.1⟩ e (λz=>nomatch z) h
 | @dT a F f=>
  cases d;obtain⟨_,_,k,_,o,r,G,g,j,_⟩:=(I.hok a _ f);exact Ln R7 I.kIn ⟨o,g,j.1⟩ e (λz=>nomatch z) h
 | @ins a C S fs f l L M B D=>
  cases d;obtain⟨T,O,_⟩:=kY I.hok f;obtain⟨R,J,_⟩:=O.look;exact Ln (PySem.W.kitx_own (l.get _) l.hd L M B D) I.kIn J e (λz=>nomatch z) h
end
structure bu(k:Nat)(A:K7):Prop where
 hd:A.handled=none
 dp:A.depth+3*k+5<PU
 un:A.units+16*k+200<MA
theorem bu.mono(r:bu k A)(h:j<=k):bu j A:=⟨r.hd,by have:=r.dp;lia,by have:=r.un;lia⟩
theorem bu.deeper(r:bu (k+1) A)(env):bu k (A.deeper env):=
 ⟨r.hd,by have:=r.dp;show A.depth+1+3*k+5<_;lia,by have:=r.un;show A.units+3+16*k+200<_;lia⟩
theorem bu.in1(r:bu (k+1) A):bu k A.in1:=
 ⟨r.hd,by have:=r.dp;show A.depth+3*k+5<_;lia,by have:=r.un;show A.units+1+16*k+200<_;lia⟩
theorem uq{A:K7}:(A.under (.builtin "type.__call__" ⟨.ref C::us,kw⟩)).depth=A.depth+1:=by
 first |rfl |simp[Su,Code.weight,Code.isCreation,Code.isGuard,Code.isCaller,Code.frames,Code.isFrame,guardIds]
theorem uh{A:K7}:(A.under (.builtin "type.__call__" ⟨.ref C::us,kw⟩)).units=A.units+1:=by
 first |rfl |simp[Su,Code.cUnits,Code.frames,Code.isFrame]
theorem bu.make(r:bu (k+1) A)(C)(us)(kw):bu k (A.under (.builtin "type.__call__" ⟨.ref C::us,kw⟩)):=
 ⟨r.hd,by have:=r.dp;rw[uq];lia,by have:=r.un;rw[uh];lia⟩
theorem bu.depth(r:bu k A):A.depth<PU:=by have:=r.dp;lia
noncomputable def IA:TA:=λ_ H Q=>Q [] H
noncomputable def EJ(ta:TE)(d:TA):TA:=λa H Q=>ta a H λx e=>d a e λb c=>Q (x::b) c
variable {es:List Expr}
section
variable {X:Cx}{e:Expr}{te:TE}{t:TA}{pos:Pos}
theorem cU:PA X [] IA:=λ_ _ _ _ H Q I h=>NU ⟨[],H,I,.nil,h⟩
theorem bH(p:PE X e te)(j:PA X es t)(hs:JO (e::es) X.env=(false,LD e X.env)::JO es X.env:=by rfl):PA X (e::es) (EJ te t):=by
 intro pos b s a H Q I h;rw[hs];refine Mq (thn (p b s a H _ I h) λu n f=>?_);obtain⟨x,q,k,c,g⟩:=f;exact thn (j pos b n a q _ k g) λv r ⟨m,i,o,d,l⟩=>⟨x::m,i,o,.cons c d,l⟩
noncomputable def IR(t:TA):TE:=λc H Q=>t c H λa b=>a.length<=sizeLine/\∀p,b p=none->Q (.ref p) (upd b p (.tup a))
noncomputable def JD(t:TA):TE:=λc H Q=>t c H λa b=>a.length<=sizeLine/\∀p,b p=none->Q (.ref p) (upd b p (.lst a))
theorem Gd{x1}(h:PA X es t):PE X (.Tuple es x1 pos) (IR t):=by
 intro g s f H Q I d;refine wpAny_Tuple_spliced (thn (h pos g s f H _ I d) λi c ⟨j,k,a,r,z,q⟩=>⟨by rw[<-r.length];exact z,?_⟩);have l:=a.hok.fresh (JR _);refine⟨.ref c.heap.objs.size,upd k c.heap.objs.size (.tup j),a.laid (λb u e=>JJ _ e) (JR _) ?_,rfl,q _ l⟩;exact⟨z,i,r,⟨_,JT _ rfl,rfl,_,rfl⟩⟩
theorem GY(h:PA X es t):PE X (.List es pos) (JD t):=by
 intro g s f H Q I d;refine wpAny_List_spliced (thn (h pos g s f H _ I d) λi c ⟨j,k,a,r,z,q⟩=>⟨by rw[<-r.length];exact z,?_⟩);have l:=a.hok.fresh (JR _);refine⟨.ref c.heap.objs.size,upd k c.heap.objs.size (.lst j),a.laid (λb u e=>JJ _ e) (JR _) ?_,rfl,q _ l⟩;exact⟨z,i,0,r,JT _ rfl⟩
end
noncomputable abbrev Sp:=List V->Hp->VK->XK->Prop
noncomputable abbrev CXT:=List Env->Hp->JY->XK->J0->JY->Prop
structure mJ(P:J2)(w:Kt)(K:JI)(mg:Str->Option J0)(base:Mf)(A:K7)(outer:List Env)(s:JY)(H:Hp):Prop where
 frames:A.frames=some outer
 mod:Mod K mg base
 bs:∀b o,base.get? b=some o->s.heap.get? b=some o/\H b=none
 bsz:base.objs.size<=s.heap.objs.size
 funs:s.heap.FunFrames base outer
 frf:Frf mg base (frs outer) H
 hok:HOk P w H s.heap
 bare:Qj s.gens
def CE(a:List Env)(P:J2)(w:Kt)(H:Hp)(s:JY)(Q:VK)(u:J0)(b:JY):Prop:=
 ∃v c,b.os=s.os/\Qj b.gens/\Un (frs a) [] H c s.heap b.heap/\HOk P w c b.heap/\aM v u/\Q v c
def CR(CX:CXT)(a:List Env)(P:J2)(w:Kt)(H:Hp)(s:JY)(Q:VK)(E:XK)(r:S1)(b:JY):Prop:=
 match r with
 | .ok (.ret u)=>CE a P w H s Q u b
 | .ok _=>False
 | .error e=>CX a H s E e b
structure bV(P:J2)(w:Kt)(K:JI)(mg:Str->Option J0)(base:Mf)(CX:CXT)(k:Nat)(f:Kb)(fd:MT)(ps:List Str)(sp:Sp):Prop where
 len:∀vs H Q E,sp vs H Q E->vs.length=ps.length
 run:∀(A:K7) (outer:List Env) (s:JY) (H:Hp) (args:Args) (us:List J0) (vs:List V) (Q:VK) (E:XK),bu k A->mJ P w K mg base A outer s H->S4 s fd args (ps.zip us)->aP vs us->sp vs H Q E->
  NY (Kk P w) A (.call (.ref f) args) (CR CX outer P w H s Q E) s
theorem bV.mono{K:JI}(F:bV P w K mg base CX j f fd ps sp)(h:j<=k):
  bV P w K mg base CX k f fd ps sp:=⟨F.len,λA a s H b c d Q E e=>F.run A a s H b c d Q E (e.mono h)⟩
theorem mJ.make{K:JI}(e:mJ P w K mg base A outer s H)(C)(us)(kw):
  mJ P w K mg base (A.under (.builtin "type.__call__" ⟨.ref C::us,kw⟩)) outer s H:=⟨by first |exact e.frames | (simpa [Su,Code.envs,Code.isFrame,pushEnvs] using e.frames),e.mod,e.bs,e.bsz,e.funs,e.frf,e.hok,e.bare⟩
theorem mJ.in1{K:JI}(e:mJ P w K mg base A outer s H):
  mJ P w K mg base A.in1 outer s H:=⟨e.frames,e.mod,e.bs,e.bsz,e.funs,e.frf,e.hok,e.bare⟩
section
variable {X:Cx}{U8:List (Kb×Obj)}{σ:St}{H:Hp}{s s':JY}
theorem Inv.env0(I:Inv X U8 σ H s):mJ X.prog X.w X.K X.mg X.base X.A X.stack s H:=
 ⟨I.ok.frames,I.ok.mod,I.bs,KH I.ok.bsz I.sz,I.stack,⟨I.stkFree,I.amb⟩,I.hok,I.bare⟩
theorem Inv.after(I:Inv X U8 σ H s)(h:CE X.stack X.prog X.w H s Q u s'):EP X U8 σ Q u s':=by
 obtain⟨v,f,i,a,un,c,r,q⟩:=h;obtain⟨j,g,d,t,e⟩:=s';obtain rfl:e=s.os:=i;exact⟨v,f,I.call un c a (λb z=>absurd z (by simp)),r,q⟩
end
noncomputable def Bu(sp:Sp)(c:List V)(E:XK)(t:TA):TE:=λa H Q=>t a H λb d=>sp (b++c) d Q E
noncomputable def Fj(C:Kb)(m:Str)(sp:Sp)(f:List V)(E:XK)(ta:TE)(t:TA):TE:=λb H Q=>ta b H λx c=>∃a g fs,x=.ref a/\c a=some (.ins C g fs)/\fs.lookup m=none/\
 t b c λd e=>sp (x::(d++f)) e Q E
noncomputable def HB(C:Kb)(sp:Sp)(f:List V)(E:XK)(t:TA):TE:=λc H Q=>t c H λd b=>∀x a,b x=none->b a=none->a≠x->
 sp (.ref x::(d++f)) (upd (upd b a (.own x)) x (.ins C a [])) (λv e=>v=.non/\Q (.ref x) e) E
def bX(K:JI)(d:MT)(b:List Str)(c:List J0):Prop:=
 ∀(s:JY) (a:List J0),K.In s.heap->(a++c).length=b.length->S4 s d ⟨a,[]⟩ (b.zip (a++c))
theorem bX.all{K:JI}(h:∀a,a.length=ps.length->OG fd ⟨a,[]⟩=pure (ps.zip a)):bX K fd ps []:=λs a _ b=>by
 rw[L5]at b |-;exact .of_eq (h a b)
def bR(CX:CXT)(X:Cx)(E:XK):Prop:=∀(c:List (Kb×Obj)) (b:St) (H:Hp) (s:JY) (e:J0) (a:JY),Inv X c b H s->CX X.stack H s E e a->X.xe e a
section
variable {X:Cx}{CX:CXT}{k:Nat}{f C:Kb}{fd:MT}{ps:List Str}{sp:Sp}{VY:List V}{ds:List J0}{E:XK}{x m:Str}{p pos Vg:Pos}{e o:Expr}{ta:TE}{t:TA}
theorem vf(F:bV X.prog X.w X.K X.mg X.base CX k f fd ps sp)(g:bu k X.A)(d:bX X.K fd ps ds)(l:aP VY ds)(j:bR CX X E)
  (I:Inv X U8 σ H s) (r:aP vs us) (h:sp (vs++VY) H Q E):Kj (Kk X.prog X.w) X.A (call (.ref f) us) (EP X U8 σ Q) X.xe s:=by
 have b:=r.append l;have i:(us++ds).length=ps.length:=by rw[<-b.length];exact F.len _ _ _ _ h
 refine Rf (NJ (F.run X.A X.stack s H ⟨us,[]⟩ (us++ds) (vs++VY) Q E g I.env0 (d s us I.kIn i) b h) λr c a=>?_);cases r with
 |error e=>exact j U8 σ H s e c I a
 |ok fl=>
  cases fl with
  |ret u=>exact I.after a
  |next=>exact False.elim a
  |brk=>exact False.elim a
  |cont=>exact False.elim a
theorem wH(F:bV X.prog X.w X.K X.mg X.base CX k f fd ps sp)(l:bu k X.A)(j:Gl X x)(d:X.mg x=some (.ref f))(m:LK X.K (.ref f)=true)(b:bX X.K fd ps ds)(c:aP VY ds)(n:bR CX X E)
  (ha:PA X (e::es) t) (VF:(x==("__debug__":Str))=false:=by decide) (he:JO (e::es) X.env=(false,LD e X.env)::JO es X.env:=by rfl) (VA:(Ll pos (JO es X.env)).any (·.1)=false:=by rfl):
  PE X (.Call (.Name x p) (e::es) [] pos) (Bu sp VY E t):=by
 intro i s g H Q I h;refine Kw (fV I j d ?_ VF);refine ND I.ok.mod.kin m (thn (ha pos i s g H _ I h) λu v ⟨o,y,a,r,q⟩=>⟨a.kIn,?_⟩) he VA;exact vf F l b c n a r q
theorem v6(p:PE X o ta)(c:Cls X.K C)(b:tY X.K C m f)(F:bV X.prog X.w X.K X.mg X.base CX k f fd ps sp)(D:bu k X.A)(n:bX X.K fd ps ds)(v:aP VY ds)(N:bR CX X E)(L:PA X (e::es) t)
  (VE:JO (e::es) X.env=(false,LD e X.env)::JO es X.env:=by rfl) (VA:(Ll pos (JO es X.env)).any (·.1)=false:=by rfl)
  (ht:LD (.Call (.Attribute o m Vg) (e::es) [] pos) X.env=(do
   let ov <-LD o X.env
   RB Vg.atName
   let (f,first) <-Pf [ov] (Pj ov m pl)
   RJ pos f first (Ll pos (JO (e::es) X.env)) (Na pos (LG [] X.env))):=by rfl):
  PE X (.Call (.Attribute o m Vg) (e::es) [] pos) (Fj C m sp VY E ta t):=by
 intro g s d H Q I h;refine QP (thn (p g s d H _ I h) λu J y=>?_) ht;obtain⟨x,M,i,z,a,P,fs,ex,B,l,q⟩:=y;subst ex;obtain rfl:u=Ku a:=z;refine lK i B c b l ?_;refine ND I.ok.mod.kin b.kp (thn (L pos g J d M _ i q) λS O ⟨vs,R,j,r,G⟩=>⟨j.kIn,?_⟩) VE VA;exact vf (vs:=.ref a::vs) F D n v N j (.cons rfl r) G
structure Mk(K:JI)(C f:Kb):Prop where
 makes:S0 K C=true
 init:L4 K (.ref C) "__init__"=some (some (.ref f))
 fn:Sr K (.ref f)=true
 kp:LK K (.ref C)=true
theorem AA(M:Mk X.K C f)(F:bV X.prog X.w X.K X.mg X.base CX k f fd ps sp)(t:bu (k+1) X.A)(i:bX X.K fd ps ds)(j:aP VY ds)
  (hx:bR CX X E) (I:Inv X U8 σ H s) (r:aP vs us)
  (h:∀x b,H x=none->H b=none->b≠x->sp (.ref x::(vs++VY)) (upd (upd H b (.own x)) x (.ins C b [])) (λv p=>v=.non/\Q (.ref x) p) E):
  Kj (Kk X.prog X.w) X.A (call (.ref C) us) (EP X U8 σ Q) X.xe s:=by
 have d:=h (s.heap.objs.size+1) s.heap.objs.size (I.hok.fresh (S5 _)) (I.hok.fresh (JR _)) (Kh (LS _));have c:=Inv.made (C:=C) I;have g:aP (V.ref (s.heap.objs.size+1)::(vs++VY)) (Ku (s.heap.objs.size+1)::(us++ds)):=.cons rfl (r.append j)
 have q:(Ku (s.heap.objs.size+1)::us++ds).length=ps.length:=by
  have e:=g.length;rw[F.len _ _ _ _ d]at e;exact e.symm
 refine Rf (Aj I.kIn M.makes M.init (beq_iff_eq.mp M.fn) (NJ (F.run _ X.stack _ _ ⟨Ku (s.heap.objs.size+1)::us,[]⟩ (Ku (s.heap.objs.size+1)::(us++ds)) _ _ E (t.make C us [])
  (c.env0.make C us []) (i _ (Ku (s.heap.objs.size+1)::us) c.kIn q) g d) λr n a=>?_))
 cases r with
 |error e=>exact hx U8 σ _ _ e n c a
 |ok fl=>
  cases fl with
  |ret u=>
   obtain⟨v,y,m,o,ev,l⟩:=c.after a;subst ev;exact⟨o,⟨V.ref (s.heap.objs.size+1),y,m,rfl,l⟩⟩
  |next=>exact False.elim a
  |brk=>exact False.elim a
  |cont=>exact False.elim a
theorem yY(M:Mk X.K C f)(F:bV X.prog X.w X.K X.mg X.base CX k f fd ps sp)(d:bu (k+1) X.A)(c:Gl X x)(b:X.mg x=some (.ref C))(a:bX X.K fd ps ds)(g:aP VY ds)(e:bR CX X E)
  (VF:(x==("__debug__":Str))=false:=by decide):PE X (.Call (.Name x p) [] [] pos) (HB C sp VY E IA):=by
 intro j s i H Q I h;refine Kw (fV I c b ?_ VF);exact PySem.W.callWith_K0 I.kIn M.kp (AA M F d a g e I .nil h)
end
structure au(N P:List Str)(sc:RZ):Prop where
 kind:sc.kind=.function
 co:sc.isCoroutine=false
 gen:sc.isGenerator=false
 nd:N.Nodup
 pre:N.take P.length=P
 par:∀x∈P,sc.names.lookup x=some .local\/sc.names.lookup x=some .cell
 nofree:∀y∈sc.names,y.2≠.free
theorem oR{a:Str->Option Rg}:∀{binds}{m},(∀v,(x,v) ∉ binds)->UZ a binds m x=m x
 |[],_,_=>rfl
 | (n,v)::r,m,h=>by
  unfold UZ;rw[oR λw b=>h w (JL _ b)];split
  .have:x≠n:=by rintro rfl;exact h v JP
   simp[this]
  .rfl
theorem oj{a:Str->Option Rg}:∀{binds}{m},(∀v,(x,v) ∉ binds)->U0 a binds m x=m x
 |[],_,_=>rfl
 | (n,v)::r,m,h=>by
  unfold U0;rw[oj λw b=>h w (JL _ b)];split
  .rfl
  .have:x≠n:=by rintro rfl;exact h v JP
   simp[this]
theorem nU{a:Str->Option Rg}:∀{P:List Str}{b}{i:Nat}{m},P.Nodup->P[i]?=some x->b[i]?=some v->a x=some .local->
  UZ a (P.zip b) m x=some v
 |[],_,_,_,_,h,_,_=>by simp at h
 |_::_,[],_,_,_,_,h,_=>by simp at h
 |p::P,w::b,0,m,nd,h1,h2,hk=>by
  simp at h1 h2;subst h1;subst h2;show UZ a ((p,w)::P.zip b) m p=_;unfold UZ;rw[oR λv c=>(LL.mp nd).1 (Pk c).1,if_pos hk];simp
 |p::P,w::b,i+1,m,nd,h1,h2,hk=>by
  unfold UZ;exact nU (LL.mp nd).2 (by simpa using h1) (by simpa using h2) hk
theorem oz{a:Str->Option Rg}:∀{P:List Str}{b}{i:Nat}{m},P.Nodup->P[i]?=some x->b[i]?=some v->a x≠some .local->
  U0 a (P.zip b) m x=some v
 |[],_,_,_,_,h,_,_=>by simp at h
 |_::_,[],_,_,_,_,h,_=>by simp at h
 |p::P,w::b,0,m,nd,h1,h2,hk=>by
  simp at h1 h2;subst h1;subst h2;show U0 a ((p,w)::P.zip b) m p=_;unfold U0;rw[oj λv c=>(LL.mp nd).1 (Pk c).1,if_neg hk];simp
 |p::P,w::b,i+1,m,nd,h1,h2,hk=>by
  unfold U0;exact oz (LL.mp nd).2 (by simpa using h1) (by simpa using h2) hk
noncomputable def start(N:List Str)(vs:List V):St:=vs.map some++Kn (N.length-vs.length) none
noncomputable def iP(CX:CXT)(P:J2)(w:Kt)(K:JI)(mg:Str->Option J0)(base:Mf)(N:List Str)(b:Str)(d:RZ)(f:Kb)(c:J0)(A:K7)(outer:List Env)(s:JY)(H:Hp)(E:XK):Cx where
 prog:=P
 w:=w
 K:=K
 mg:=mg
 base:=base
 A:=A.deeper (Pl b d s.heap.objs.size f c)
 N:=N
 s₀:=s
 H₀:=H
 env:=Pl b d s.heap.objs.size f c
 outer:=outer
 stack:=Pl b d s.heap.objs.size f c::outer
 ex:=[]
 calm:=true
 fn:=λ_=>true
 pn:=[]
 xe:=λe g=>Kj (Kk P w) (A.deeper (Pl b d s.heap.objs.size f c)) (leaving (Pl b d s.heap.objs.size f c) e) (λ_ a=>CX outer H s E e a) (λh a=>CX outer H s E h a) g
theorem qR{a:RZ}(h:a.names.lookup x=some .cell):∃c,(RK n a.names []).lookup x=some c:=by
 have q:=Ny a.names n [] (.inl h);exact Ob.mp q
theorem oB{K:JI} 
  (S:au N ps U9) (hd:A.handled=none) (e0:mJ P w K mg base A outer s H) (hl:vs.length=ps.length) (r:aP vs us)
  (x:InCallC s s.heap.objs.size (UZ (Pl Vd U9 s.heap.objs.size f cd).kindOf (ps.zip us) λ_=>none) (RK (s.heap.objs.size+1) U9.names []) (U0 (Pl Vd U9 s.heap.objs.size f cd).kindOf (ps.zip us) λ_=>none) s1):
  Inv (iP CX P w K mg base N Vd U9 f cd A outer s H E) [] (start N vs) H s1:=by
 have G:ps.length<=N.length:=by have:=congrArg S6 S.pre;rw[Qy]at this;lia
 obtain⟨m,F,rfl,t⟩:=x.done;have g:∀b,b ∉ (iP CX P w K mg base N Vd U9 f cd A outer s H E).ex:=λb z=>absurd (show b∈[] from z) (by simp)
 refine⟨⟨e0.mod,S.kind,rfl,rfl,JR _,λy z c m d=>?_,λy hy=>?_,λy c _ h=>?_,λ_=>hd,Rm e0.frames,.inr ⟨rfl,rfl⟩,λb z=>absurd z (g b),e0.bs,e0.bsz,λb _ _=>g b,λb z=>absurd z (g b),e0.funs,e0.frf⟩,
  rfl,e0.bare,Un.kept t,⟨_,x.toInCall.ns,λi y v m d D=>?_⟩,λy c h=>⟨_,x.cell y c h⟩,e0.hok.fresh (JR _),λy c h=>?_,λp j=>absurd (show p∈[] from j) (by simp),e0.hok.kept t,?_⟩
 .exact name_of_addr x.apart (Lk m) (Lk d)
 .have hy:=hy;rcases hy with hy |hy
  .exact qR hy
  .exact absurd rfl (S.nofree _ (Lk hy))
 .exact Kd (x.above y c (Lk h))
 .have n:i<vs.length:=by
   unfold start at d;by_cases n:i<vs.length
   .exact n
   .rw[J3 (by simpa using n)]at d
    rw[K8]at d;split at d <;>cases d
  have C:vs[i]?=some v:=by
   unfold start at d;rw[JZ (by simpa using n),JQ]at d
   cases e:vs[i]? with
   |none=>rw[e]at d;cases d
   |some a=>rw[e]at d;cases d;rfl
  obtain⟨u,o,B⟩:=r.get C
  have j:ps[i]?=some y:=by
   rw[<-S.pre,LY (by lia)];exact m
  have l:ps.Nodup:=by rw[<-S.pre];exact S.nd.sublist (List.take_sublist _ _)
  refine⟨u,B,?_⟩;rcases S.par y (J8 j) with k |k
  .exact .inl ⟨k,nU l j o k⟩
  .obtain⟨c,e⟩:=qR k;refine .inr ⟨.inl k,c,e,?_⟩;have q:=x.cell y c e;rw[oz l j o (by show U9.names.lookup y≠_;rw[k];decide)]at q
   exact q
 .exact e0.hok.fresh (Kd (x.above y c (Lk h)))
 .unfold start;show _=N.length;rw[Ko,JK,Lj];lia
theorem E6{K:JI}{G O D B c F X:J0} 
  (lk:K.lookup f=some ⟨X,od,.func (NK name Vd params Vk U9 G O D B an c F),XJ⟩) (VD:PV K c Vd=true) (S:au N ps U9)
  (len:∀d H Q E,sp d H Q E->d.length=ps.length)
  (VC:∀A a s H d Q E,bu k (A.deeper (Pl Vd U9 s.heap.objs.size f c))->sp d H Q E->
   ∃t,PSs (iP CX P w K mg base N Vd U9 f c A a s H E) Vk t/\t {nx:=λ_ g=>Q .non g,rt:=Q } (start N d) H):
  bV P w K mg base CX (k+1) f (NK name Vd params Vk U9 G O D B an c F) ps sp:=by
 refine⟨len,λA a s H T us d Q E z i U r C=>?_⟩;have Z:=len _ _ _ _ C;have M:=i.mod.kin.keeps λb o e=>(i.bs b o e).1;have l:=i.mod.nolimit.keeps λb o e=>(i.bs b o e).1
 have Xm:∀y∈ps.zip us,U9.names.lookup y.1=some .local\/(U9.names.lookup y.1=some .cell/\((RK (s.heap.objs.size+1) U9.names []).lookup y.1).isSome=true):=λ⟨n,v⟩ hy=>by
  rcases S.par n (Pk hy).1 with q |q
  .exact .inl q
  .exact .inr ⟨q,Ny _ _ _ (.inl q)⟩
 refine QQ z.depth (M _ _ lk) rfl S.co S.gen rfl (RL M VD) (U _ _ _ _ ?_);refine Pu S.kind Xm λenv W R x=>?_;subst W;refine⟨l.keeps x.toInCall.keep,codeAny_func ?_⟩;obtain⟨t,ht,Y⟩:=VC A a s H d Q E (z.deeper _) C;have I:Inv (iP CX P w K mg base N Vd U9 f c A a s H E) [] (start N d) H R:=oB S z.hd i Z r x;refine Lo (ht [] R (start N d) H _ I Y) (λfl m h=>?_) λe m h=>h
 have L:∀{j}{g}{v}{u},Inv (iP CX P w K mg base N Vd U9 f c A a s H E) [] j g m->aM v u->Q v g->CE a P w H s Q u m:=
  λ{j g v u} J p q=>⟨v,g,J.os,J.bare,J.base,J.hok,p,q⟩
 cases fl with
 |ret u=>
  obtain⟨v,j,g,J,p,q⟩:=h;exact L J p q
 |next=>
  obtain⟨j,g,J,q⟩:=h;exact L (v:=V.non) J rfl q
 |brk=>
  obtain⟨_,_,_,q⟩:=h;exact False.elim q
 |cont=>
  obtain⟨_,_,_,q⟩:=h;exact False.elim q
section
variable {X:Cx}{x:Str}{p pos:Pos}{e:Expr}{t:TA}{id T:String}{r:List V→Hp→VK→Prop}
noncomputable def tCB(r:List V->Hp->VK->Prop)(t:TA):TE:=λa H Q=>t a H λb c=>r b c Q
theorem sK(u:ce X (.builtin id) r)(j:Gl X x)(g:X.mg x=none)(f:L_ x=some (.builtin id))(o:PA X (e::es) t)(q:x≠"__name__":=by decide)(n:(x==("__debug__":Str))=false:=by decide)
  (he:JO (e::es) X.env=(false,LD e X.env)::JO es X.env:=by rfl) (VA:(Ll pos (JO es X.env)).any (·.1)=false:=by rfl):PE X (.Call (.Name x p) (e::es) [] pos) (tCB r t):=by
 intro b s a H Q I h;refine Kw (cQ I j g f ?_ q n);exact PyProof.Rows.callWith_builtin1 (thn (o pos b s a H _ I h) λl m ⟨c,v,k,d,i⟩=>u b m a v c l Q k d i) he VA
theorem yR(u:ce X (.type T) r)(j:Gl X x)(g:X.mg x=none)(f:L_ x=some (.type T))(o:PA X (e::es) t)(q:x≠"__name__":=by decide)(n:(x==("__debug__":Str))=false:=by decide)
  (he:JO (e::es) X.env=(false,LD e X.env)::JO es X.env:=by rfl) (VA:(Ll pos (JO es X.env)).any (·.1)=false:=by rfl):PE X (.Call (.Name x p) (e::es) [] pos) (tCB r t):=by
 intro b s a H Q I h;refine Kw (cQ I j g f ?_ q n);exact PyProof.Rows.callWith_type1 (thn (o pos b s a H _ I h) λl m ⟨c,v,k,d,i⟩=>u b m a v c l Q k d i) he VA
end
end L2
namespace HT
open PySem PyProof.Rows
section
variable {prog:J2}{w:Kt}{A:K7}{E:J0→JY→Prop}{s:JY}
noncomputable def sIx(n d:Nat):Option Int->Nat
 |none=>d
 |some v=>if v<0 then (v+(n:Int)).toNat else min v.toNat n
end
end HT
namespace L2
open PySem PySem.Spec PyProof.Rows
noncomputable abbrev TO:=St->Hp->(Option Int->Hp->Prop)->Prop
def PO(X:Cx)(e:Option Expr)(t:TO):Prop:=
 ∀(b:List (Kb×Obj)) (s:JY) (a:St) (H:Hp) (Q:Option Int->Hp->Prop),Inv X b a H s->t a H Q->
  Kj (Kk X.prog X.w) X.A (evalPart e X.env) (λu d=>∃o c,Inv X b a c d/\IsPart u o/\Q o c) X.xe s
noncomputable def DM:TO:=λ_ H Q=>Q none H
noncomputable def H_(t:TE):TO:=λa H Q=>t a H λx b=>∃i,x=.int i/\Q (some i) b
section
variable {X:Cx}{e:Expr}{te:TE}{lo hi:Option Expr}{tl th:TO}{pos p2:Pos}
theorem CB:PO X none DM:=by
 intro b s a H Q I h;rw[RM];exact JM ⟨none,H,I,.none,h⟩
theorem Dr(h:PE X e te):PO X (some e) (H_ te):=by
 intro f s d H Q I c;rw[evalPart_some];refine thn (h f s d H _ I c) λu l b=>?_;obtain⟨x,k,j,a,g⟩:=b;obtain⟨i,rfl,q⟩:=g;obtain⟨t,rfl⟩:=a;exact⟨some i,k,j,.int i t,q⟩
def SlR(X:Cx)(r:V->Option Int->Option Int->Hp->VK->Prop):Prop:=
 ∀(b:List (Kb×Obj)) (s:JY) (a:St) (H:Hp) (x:V) (v c d:J0) (lo hi:Option Int) (e:Kb) (Q:VK),Inv X b a H s->aM x v->s.heap.IsSliceOf e c d .none->IsPart c lo->IsPart d hi->r x lo hi H Q->
  ∃T f,Rh (.type T) "__getitem__"=pure (some (.builtin f))∧s.TypeIs v T∧Kj (Kk X.prog X.w) X.A (R8 v (.ref e)) (EP X b a Q) X.xe s
noncomputable def tSl(r:V->Option Int->Option Int->Hp->VK->Prop)(te:TE)(tl th:TO):TE:=λa H Q=>te a H λx d=>tl a d λl b=>th a b λu c=>r x l u c Q
theorem qC(C:SlR X r)(n:PE X e te)(F:PO X lo tl)(m:PO X hi th):PE X (.Subscript e (.Slice lo hi none p2) pos) (tSl r te tl th):=by
 intro d s a H Q I h;refine R9 (thn (n d s a H _ I h) λv G f=>?_);obtain⟨x,L,D,o,y⟩:=f;refine wpAny_Slice (thn (F d G a L _ D y) λi k ⟨l,A,K,z,E⟩=>thn (m d k a A _ K E) λg c f=>?_);obtain⟨u,j,w,pu,p⟩:=f;rw[RM];refine JM ?_;have t:Inv X d a j {c with heap:=c.heap.push {cls:=.type "slice",data:=.fields #[i,g,.none] } }:=w.kept λb N q=>JJ _ q;obtain⟨T,O,J,M,B⟩:=C d {c with heap:=c.heap.push {cls:=.type "slice",data:=.fields #[i,g,.none] } } a j x v i g l u c.heap.objs.size Q t o (RN ..) z pu p;exact tail_any M J B (by with_unfolding_all rfl)
noncomputable def Aq(xs:List V)(lo hi:Option Int):List V:=(xs.drop (HT.sIx xs.length 0 lo)).take (HT.sIx xs.length xs.length hi-HT.sIx xs.length 0 lo)
theorem qG(xs)(lo hi):(Aq xs lo hi).length<=xs.length:=by
 unfold Aq;rw[Qy,SD];lia
end
noncomputable def ixN(n:Nat)(i:Int):Option Nat:=if 0<=i then (if i<n then some i.toNat else none) else if -(n:Int)<=i then some (i+n).toNat else none
noncomputable def atI{α:Type}(xs:List α)(i:Int):Option α:=(ixN xs.length i).bind λj=>xs[j]?
theorem Dg(h:ixN n i=some j):seqIndex? i n=some j/\j<n/\-(n:Int)<=i/\i<n:=by
 unfold ixN at h;by_cases b:0<=i
 .rw[if_pos b]at h;by_cases a:i<n
  .rw[if_pos a]at h;have e:=KG h;exact⟨by rw[seqIndex_of b a,e],by lia,by lia,a⟩
  .rw[if_neg a]at h;cases h
 .rw[if_neg b]at h;by_cases a:-n<=i
  .rw[if_pos a]at h;have e:=KG h;exact⟨by rw[seqIndex_neg (by lia) a,e],by lia,a,by lia⟩
  .rw[if_neg a]at h;cases h
theorem pi{α:Type}{xs:List α}{v:α}(h:atI xs i=some v):∃j,seqIndex? i xs.length=some j/\xs[j]?=some v/\j<xs.length/\-(xs.length:Int)<=i/\i<xs.length:=by
 unfold atI at h;cases e:ixN xs.length i with
 |none=>rw[e]at h;cases h
 |some j=>
  rw[e]at h;obtain⟨b,d,a,c⟩:=Dg e;exact⟨j,b,h,d,a,c⟩
theorem wv{α:Type}{xs:List α}{j:Nat}{v:α}(h:xs[j]?=some v):atI xs (j:Int)=some v:=by
 have a:=(JV.mp h).1
 have e:ixN xs.length j=some j:=by
  unfold ixN;rw[if_pos (by lia),if_pos (by lia)];simp
 unfold atI;rw[e];exact h
def kT(b:Expr):Prop:=∀o i,RC b false o i=operate [o,i] (R8 o i)
def IxR(X:Cx)(r:R2):Prop:=
 ∀(d a:Expr) (c:List (Kb×Obj)) (s:JY) (b:St) (H:Hp) (x y:V) (v u:J0) (Q:VK),Inv X c b H s->aM x v->aM y u->r x y H Q->
  RC a false v u=operate [v,u] (R8 v u)->Kj (Kk X.prog X.w) X.A (subscriptTail d a v u) (EP X c b Q) X.xe s
def MtR(X:Cx)(e:String)(r:V->List V->Hp->VK->Prop):Prop:=
 ∀(c:List (Kb×Obj)) (s:JY) (a:St) (H:Hp) (x:V) (d:List V) (v:J0) (b:List J0) (Q:VK),Inv X c a H s->aM x v->aP d b->r x d H Q->
  Kj (Kk X.prog X.w) X.A (call (.builtin e) (v::b)) (EP X c a Q) X.xe s
section
variable {X:Cx}{a b:Expr}{ta tb:TE}{pos:Pos}
theorem IxR.or(h:IxR X r)(h':IxR X r'):IxR X (λx y H Q=>r x y H Q\/r' x y H Q):=by
 intro e a d s c H x y v u Q I f b q g;rcases q with q |q
 .exact h e a d s c H x y v u Q I f b q g
 .exact h' e a d s c H x y v u Q I f b q g
theorem zH(k:IxR X r)(m:PE X a ta)(d:PE X b tb)(hs:kT b):PE X (.Subscript a b pos) (tOp r ta tb):=by
 intro i s g H Q I h;exact R9 (FF m d I h λv u c x y j l f e q=>k a b i c g j x y v u Q l f e q (hs _ _))
noncomputable def Jl(K:JI):R2:=λx y H Q=>∃p a i v,x=.ref p/\y=.int i/\SqL K H p a/\atI a i=some v/\Q v H
noncomputable def Jk(K:JI):R2:=λx y H Q=>∃p a i v,x=.ref p/\y=.int i/\SqT K H p a/\atI a i=some v/\Q v H
noncomputable def Jt:R2:=λx y H Q=>∃z i c,x=.str z/\y=.int i/\z.length<=sizeLine/\atI z.cps.toList i=some c/\Q (.str ⟨#[c]⟩) H
theorem wk:IxR X (Jl X.K):=by
 intro O d g s f H x y v u Q I D B h m;obtain⟨p,P,i,z,rfl,rfl,C,o,q⟩:=h;cases D;obtain⟨t,rfl⟩:=B;obtain⟨E,r,c,N⟩:=I.list C;obtain⟨j,a,L,M,J,A⟩:=pi o;obtain⟨w,l,n⟩:=r.get L;have G:=r.length;have R:=l4;have k:EP X g f Q w s:=⟨z,H,I,n,q⟩;by_cases e:0<=i
 .have b:i.toNat=j:=by
   rw[seqIndex_of e A]at a;exact KG a
  exact item_listR c.isList e (by lia) (by rw[b];simpa using l) k m
 .have b:(i+(E.toArray.size:Int)).toNat=j:=by
   rw[seqIndex_neg (by lia) J]at a
   rw[J9,<-G];exact KG a
  exact QI (x:=w) c.isList.typeIs slot_list_getitem.lookup
   (wpAny_getItem_list_neg (Q:=λr F=>r=w/\EP X g f Q r F) c.isList (by lia) (by rw[J9] <;>lia) (by lia) (by rw[b];simpa using l) ⟨rfl,k⟩) m
theorem FY:IxR X (Jk X.K):=by
 intro L a c s b H x y v u Q I m k h B;obtain⟨p,M,i,z,rfl,rfl,l,g,q⟩:=h;cases m;obtain⟨t,rfl⟩:=k;obtain⟨J,r,d,G⟩:=I.tuple l;obtain⟨j,f,D,E,O,F⟩:=pi g;obtain⟨w,A,e⟩:=r.get D;have C:=r.length;have N:=l4;have o:EP X c b Q w s:=⟨z,H,I,e,q⟩
 exact QI (x:=w) d.typeIs slot_tuple_getitem.lookup
  (getItem_tuple (j:=j) (Q:=λr n=>r=w/\EP X c b Q r n) d (by lia) (by lia) (by rw[J9,<-C];exact f) (by simpa using A) ⟨rfl,o⟩) B
theorem GE:IxR X Jt:=by
 intro C a B s A H x y v u Q I g f h l;obtain⟨z,i,c,rfl,rfl,w,d,q⟩:=h;obtain⟨t,rfl⟩:=g;obtain⟨D,rfl⟩:=f;obtain⟨j,b,o,r,n,e⟩:=pi d;have m:z.cps.toList.length=z.length:=by simp[Str.length]
 rw[m]at b n e;have E:=l4
 exact tail_any (T9 s z t) slot_str_getitem.lookup (getItem_str (c:=c) (by
  have p:decide (i < -(2 ^ 63:Int))=false:=decide_eq_false (by lia);have k:decide (i ≥ 2 ^ 63)=false:=decide_eq_false (by lia);rw[p,k,RO]) (by rw[b];simpa using o) ⟨.str ⟨#[c]⟩,H,I.tok _,⟨_,rfl⟩,q⟩) l
theorem p0(lo hi)(n):(Ow lo hi none n).1=((HT.sIx n 0 lo:Nat):Int)/\(Ow lo hi none n).2.1=((HT.sIx n n hi:Nat):Int)/\(Ow lo hi none n).2.2=1:=by
 refine⟨?_,?_,rfl⟩
 .cases lo with
  |none=>simp[Ow,HT.sIx]
  |some i=>
   simp only[Ow,HT.sIx,Qz,show 1 >0 by decide,if_true];by_cases h:i<0
   .simp only[h,if_true] <;>lia
   .simp only[h,if_false] <;>lia
 .cases hi with
  |none=>simp[Ow,HT.sIx]
  |some i=>
   simp only[Ow,HT.sIx,Qz,show 1 >0 by decide,if_true];by_cases h:i<0
   .simp only[h,if_true] <;>lia
   .simp only[h,if_false] <;>lia
theorem nB(a:List J0)(lo hi):slicePick a.toArray lo hi none=((a.drop (HT.sIx a.length 0 lo)).take (HT.sIx a.length a.length hi-HT.sIx a.length 0 lo)).toArray:=by
 obtain⟨c,d,b⟩:=p0 lo hi a.toArray.size;unfold slicePick;rw[c,d,b];simp only[sliceRange_one,pick_run,J9] <;>rfl
def Ja(K:JI):V->Option Int->Option Int->Hp->VK->Prop:=λx d c H Q=>∃a b,x=.ref a/\SqL K H a b/\∀p,H p=none->Q (.ref p) (upd H p (.lst (Aq b d c)))
theorem CP:SlR X (Ja X.K):=by
 intro w s u H x v y p d e n Q I i l k pu h;obtain⟨a,c,rfl,m,q⟩:=h;cases i;obtain⟨t,r,f,j⟩:=I.list m;have g:=r.length;refine⟨"list",_,slot_list_getitem.lookup,f.isList.typeIs,?_⟩;refine P9 f.isList l k pu .none (by simp) ?_ (by rw[J9] <;>lia);rw[nB,<-g];refine⟨.ref s.heap.objs.size,_,I.laid (λb o q=>JJ _ q) (JR _) ?_,rfl,q _ (I.hok.fresh (JR _))⟩;exact⟨KH (qG c d e) j,_,0,(r.drop (HT.sIx c.length 0 d)).take (HT.sIx c.length c.length e-HT.sIx c.length 0 d),JT _ rfl⟩
noncomputable def iw:V->Bool
 | .non=>true
 | .bl _=>true
 | .int _=>true
 | .str _=>true
 |_=>false
noncomputable def eqV:V->V->Bool
 | .non,.non=>true
 | .bl a,.bl b=>a==b
 | .bl a,.int b=>(if a then 1 else 0)==b
 | .int a,.bl b=>a==(if b then 1 else 0)
 | .int a,.int b=>a==b
 | .str a,.str b=>a==b
 |_,_=>false
theorem FL(e:aM y u)(c:aM x v)(g:iw y=true)(f:iw x=true):SeqAt.EqAt A s u v (eqV y x):=by
 cases y with
 |non=>
  cases e;cases x with
  |non=>cases c;exact SeqAt.EqAt.same _
  |bl b=>cases c;exact SeqAt.EqAt.none_bool b
  |int b=>obtain⟨t,rfl⟩:=c;exact SeqAt.EqAt.none_int b t
  |str b=>obtain⟨t,rfl⟩:=c;exact SeqAt.EqAt.none_str b t
  |_=>exact absurd f KZ
 |bl a=>
  cases e;cases x with
  |non=>cases c;exact SeqAt.EqAt.bool_none a
  |bl b=>cases c;exact SeqAt.EqAt.bool_bool a b
  |int b=>obtain⟨t,rfl⟩:=c;exact SeqAt.EqAt.bool_int a b t
  |str b=>obtain⟨t,rfl⟩:=c;exact SeqAt.EqAt.bool_str a b t
  |_=>exact absurd f KZ
 |int a=>
  obtain⟨d,rfl⟩:=e;cases x with
  |non=>cases c;exact SeqAt.EqAt.int_none a d
  |bl b=>cases c;exact SeqAt.EqAt.int_bool a d b
  |int b=>obtain⟨t,rfl⟩:=c;exact SeqAt.EqAt.int_int a d b t
  |str b=>obtain⟨t,rfl⟩:=c;exact SeqAt.EqAt.int_str a d b t
  |_=>exact absurd f KZ
 |str a=>
  obtain⟨d,rfl⟩:=e;cases x with
  |non=>cases c;exact SeqAt.EqAt.str_none a d
  |bl b=>cases c;exact SeqAt.EqAt.str_bool a d b
  |int b=>obtain⟨t,rfl⟩:=c;exact SeqAt.EqAt.str_int a d b t
  |str b=>obtain⟨t,rfl⟩:=c;exact SeqAt.EqAt.str_str a d b t
  |_=>exact absurd f KZ
 |_=>exact absurd g KZ
noncomputable def eqU(x:V)(u:J0):Bool:=match u with
 | .none=>eqV .non x
 | .bool b=>eqV (.bl b) x
 | .int i _=>eqV (.int i) x
 | .str z _=>eqV (.str z) x
 |_=>false
theorem BD(r:aM y u)(f:iw y=true):eqU x u=eqV y x:=by
 cases y with
 |non=>cases r;rfl
 |bl b=>cases r;rfl
 |int i=>obtain⟨t,rfl⟩:=r;rfl
 |str z=>obtain⟨t,rfl⟩:=r;rfl
 |_=>exact absurd f KZ
theorem qx:∀{a}{b},aP a b->a.all iw=true->b.any (eqU x)=a.any λy=>eqV y x
 |_,_,.nil,_=>rfl
 |y::a,u::b,.cons r t,f=>by
  rw[Pb,K3]at f;rw[Nl,Nl,BD r f.1,qx t f.2]
theorem lw(e:aM x v)(d:iw x=true):∀{c}{b},aP c b->c.all iw=true->∀u∈b,SeqAt.EqAt A s u v (eqU x u)
 |_,_,.nil,_=>λu a=>by cases a
 |y::c,u::b,.cons r t,f=>λg a=>by
  rw[Pb,K3]at f;rcases JN.mp a with rfl |a
  .rw[BD r f.1];exact FL r e f.1 d
  .exact lw e d t f.2 g a
noncomputable def inV(x:V)(xs:List V):Bool:=xs.any λy=>eqV y x
noncomputable def rIn(K:JI)(b:Bool):R2:=λx y H Q=>∃p a,y=.ref p/\(SqL K H p a\/SqT K H p a)/\iw x=true/\a.all iw=true/\Q (.bl (if b then !inV x a else inV x a)) H
theorem yQ:OpR X (KO .In) (rIn X.K false):=by
 intro k s j H x y v u Q I f g h;obtain⟨p,l,rfl,a,e,fs,q⟩:=h;cases g;rcases a with a |a
 .obtain⟨b,r,d,i⟩:=I.list a;refine SeqAt.in_listAt (eqU x) d.isList (λw c=>lw f e r fs w (by simpa using c)) ⟨.bl _,H,I,rfl,?_⟩;rw[show b.toArray.any (eqU x)=b.any (eqU x) by simp,qx r fs];exact q
 .obtain⟨b,r,d,i⟩:=I.tuple a;refine SeqAt.in_tupleAt (eqU x) d (λw c=>lw f e r fs w (by simpa using c)) ⟨.bl _,H,I,rfl,?_⟩;rw[show b.toArray.any (eqU x)=b.any (eqU x) by simp,qx r fs];exact q
theorem iR:ce X (.builtin "len") (λf H Q=>∃p a,f=[.ref p]∧(SqL X.K H p a∨SqT X.K H p a)∧Q (.int a.length) H):=by
 intro l s k H f m Q I r h;obtain⟨p,a,rfl,b,q⟩:=h;obtain⟨u,rfl,g⟩:=c8 r;cases g;have n:=l4;rcases b with b |b
 .obtain⟨j,d,e,i⟩:=I.list b;have c:=d.length;exact Calls.call_len_list e.isList (by simp only[J9] <;>lia) ⟨.int a.length,H,I.tok _,⟨s.toks+1,by rw[J9,c]⟩,q⟩
 .obtain⟨j,d,e,i⟩:=I.tuple b;have c:=d.length;exact len_tuple e (by simp only[J9] <;>lia) ⟨.int a.length,H,I.tok _,⟨s.toks+1,by rw[J9,c]⟩,q⟩
theorem qr:ce X (.builtin "len") (λa H Q=>∃z,a=[.str z]∧z.length≤sizeLine∧Q (.int z.length) H):=by
 intro d s c H a b Q I r h;obtain⟨z,rfl,e,q⟩:=h;obtain⟨u,rfl,t,rfl⟩:=c8 r;have f:=l4;exact len_str (by lia) ⟨.int z.length,H,I.tok _,⟨_,rfl⟩,q⟩
theorem nv:ce X (.type "tuple") (λm H Q=>∃p a,m=[.ref p]∧((SqL X.K H p a∧∀l,H l=none→Q (.ref l) (upd H l (.tup a)))∨(SqT X.K H p a∧Q (.ref p) H))):=by
 intro w s v H m z Q I r h;obtain⟨p,a,rfl,h⟩:=h;obtain⟨u,rfl,n⟩:=c8 r;cases n;rcases h with ⟨c,q⟩ |⟨c,q⟩
 .obtain⟨d,f,g,j⟩:=I.list c;have y:=f.length;refine call_tuple_list g.isList (λi t=>?_) (by simp only[J9] <;>lia);have k:=I.kept (t':=s.toks) t
  have x:Inv X w v (upd H i.objs.size (.tup a)) {s with heap:=i.push {cls:=.type "tuple",data:=.seq d.toArray } }:=
   k.laid (λb o e=>JJ _ e) (JR _) (⟨j,d,f,IsTup.new _ _⟩)
  exact⟨.ref i.objs.size,_,x,rfl,q _ (k.hok.fresh (JR _))⟩
 .obtain⟨d,f,g,j⟩:=I.tuple c;exact call_tuple_same g ⟨.ref p,H,I,rfl,q⟩
def tyV(K:JI)(T:String)(x:V)(H:Hp):Prop:=match x with
 | .str _=>T="str"
 | .int _=>T="int"
 | .ref p=>(T="list"∧∃b,SqL K H p b)∨(T="tuple"∧∃o,K.lookup p=some o∧o.cls=.type "tuple"∧o.dict=none)∨
   (T="dict"∧((∃a,H p=some (.dK a))∨∃a,H p=some (.dT a)))∨(T="set"∧∃S n,H p=some (.set S n))
 |_=>False
theorem uZ(I:Inv X U8 σ H s)(r:aM x v)(d:tyV X.K T x H):
  s.TypeIs v T/\∀a,v=.ref a->∃h,s.heap.get? a=some h/\h.dict=none:=by
 cases x with
 |str z=>
  obtain⟨t,rfl⟩:=r;cases d;exact⟨T9 s z t,λ_ e=>nomatch e⟩
 |int i=>
  obtain⟨t,rfl⟩:=r;cases d;exact⟨Ri s i t,λ_ e=>nomatch e⟩
 |ref p=>
  cases r;rcases d with ⟨rfl,u,k⟩ |⟨rfl,o,b,m,f⟩ |⟨rfl,b⟩ |⟨rfl,S,n,b⟩
  .obtain⟨q,_,j,_⟩:=I.list k;refine⟨j.isList.typeIs,λa e=>?_⟩;cases e;obtain⟨o,n,e,c,f,_⟩:=j;exact⟨o,e,f⟩
  .refine⟨⟨o,I.kIn p o b,m⟩,λa e=>?_⟩;cases e;exact⟨o,I.kIn _ o b,f⟩
  .have z:∃o,s.heap.get? p=some o/\o.ExactDict:=by
    rcases b with ⟨l,b⟩ |⟨l,b⟩
    .obtain⟨_,_,_,_,o,_,_,e,ex,_⟩:=I.hok p _ b;exact⟨o,e,ex⟩
    .obtain⟨_,_,_,_,o,_,_,e,ex,_⟩:=I.hok p _ b;exact⟨o,e,ex⟩
   obtain⟨o,e,ex⟩:=z;refine⟨⟨o,e,ex.1⟩,λa g=>?_⟩;cases g;exact⟨o,e,ex.2.1⟩
  .obtain⟨o,_,_,_,e,ex,_⟩:=I.hok p _ b;refine⟨⟨o,e,ex.1⟩,λa g=>?_⟩;cases g;exact⟨o,e,ex.2.1⟩
 |_=>exact False.elim d
noncomputable def Jv(K:JI)(T:String)(r:V->List V->Hp->VK->Prop)(c:TE):TE:=λb H Q=>c b H λx a=>tyV K T x a/\r x [] a Q
noncomputable def tBM(K:JI)(T:String)(r:V->List V->Hp->VK->Prop)(e:TE)(t:TA):TE:=λa H Q=>e a H λx b=>tyV K T x b/\t a b λc d=>r x c d Q
variable {o e:Expr}{es:List Expr}{to:TE}{t:TA}{name:Str}{Vg Vc:Pos}{T id:String}{r:V→List V→Hp→VK→Prop}
theorem y9(n:T_ T)(a:Slot T name id)(k:typeOf (.builtin id)=pure (.type "method_descriptor"))(i:MtR X id r)(g:PE X o to)
  (Vr:Lc o name X.env (LD o X.env)=LD o X.env:=by rfl) (Vs:(Vg.endLine==Vc.line)=true:=by rfl):PE X (.Call (.Attribute o name Vg) [] [] Vc) (Jv X.K T r to):=by
 intro d s c H Q I h;refine wpAny_Call_method0_late Vr Vs (thn (g d s c H _ I h) λv m j=>?_);obtain⟨x,p,e,b,ty,l⟩:=j;obtain⟨f,q⟩:=uZ e b ty;exact⟨T,id,n,a,k,f,q,Nz rfl (PySem.evalArgs_none (i d m c p x [] v [] Q e b .nil l))⟩
theorem wG(C:T_ T)(a:Slot T name id)(q:typeOf (.builtin id)=pure (.type "method_descriptor"))(n:MtR X id r)(l:PE X o to)(D:PA X (e::es) t)
  (Vr:Lc o name X.env (LD o X.env)=LD o X.env:=by rfl)
  (VL:((Ll Vc (JO (e::es) X.env)).all (λx=>!x.1) && (Na Vc (LG [] X.env)).all (λx=>x.1.isSome)
   && decide ((e::es).length+([]:List M7).length+(if ([]:List M7).isEmpty then 0 else 1)<30))=true:=by rfl)
  (Vs:(Vg.endLine==Vc.line)=true:=by rfl) (hs:JO (e::es) X.env=(false,LD e X.env)::JO es X.env:=by rfl) (Vv:(Ll Vc (JO es X.env)).any (·.1)=false:=by rfl):
  PE X (.Call (.Attribute o name Vg) (e::es) [] Vc) (tBM X.K T r to t):=by
 intro c s b H Q I h;refine Os Vr VL Vs rfl (thn (l c s b H _ I h) λv A p=>?_);obtain⟨x,E,g,f,ty,u⟩:=p;obtain⟨k,F⟩:=uZ g f ty;refine⟨T,id,C,a,q,k,F,?_⟩;have d:=D Vc c A b E _ g u;rw[hs]at d |-;refine Nz (by show (false || (Ll Vc (JO es X.env)).any (·.1))=false;rw[Vv] <;>rfl) (O7 ?_)
 exact thn d λz j ⟨i,w,B,m,y⟩=>n c j b w x i v z Q B f m y
end
def MtM(X:Cx)(e:String)(r:V->List V->Hp->VK->Prop):Prop:=
 ∀(c:List (Kb×Obj)) (s:JY) (a:St) (H:Hp) (x:V) (d:List V) (v:J0) (b:List J0) (Q:VK),Inv X c a H s->aM x v->aP d b->r x d H Q->
  Kj (Kk X.prog X.w) X.A (call (.builtin e) (v::b)) (EP X c a Q) X.xe s
theorem aP.one:∀{x}{a},aP [x] a->∃u,a=[u]/\aM x u
 |_,_,.cons r .nil=>⟨_,rfl,r⟩
theorem aP.zero:∀{a},aP [] a->a=[]
 |_,.nil=>rfl
theorem aP.dropLast(h:aP xs us):aP xs.dropLast us.dropLast:=by
 induction h with
 |nil=>exact .nil
 |cons r t a=>
  cases t with
  |nil=>exact .nil
  |cons q b=>exact .cons r a
theorem aP.rep(h:aP xs us):∀k,aP (Kn k xs).flatten (Kn k us).flatten
 |0=>.nil
 |k+1=>by
  rw[Lx,Lx,MH,MH];exact aP.append h (aP.rep h k)
theorem tN{α:Type}(l:List α):l.eraseIdx (l.length-1)=l.dropLast:=by
 induction l with
 |nil=>rfl
 |cons a r c=>
  cases r with
  |nil=>rfl
  |cons b r=>
   have e:(a::b::r).length-1=((b::r).length-1)+1:=by
    have d:(a::b::r).length=r.length+2:=rfl;have f:(b::r).length=r.length+1:=rfl;lia
   rw[e,List.eraseIdx_cons_succ,c]
   all_goals rfl
theorem oU(Vb):∀k (acc:List J0),
  Ua (λb a=>b++a) acc.toArray (Kn k Vb.toArray)=(acc++(Kn k Vb).flatten).toArray
 |0,acc=>by simp
 |k+1,acc=>by
  have e:acc.toArray++Vb.toArray=(acc++Vb).toArray:=by simp
  have c:(acc++Vb)++(Kn k Vb).flatten=acc++(Kn (k+1) Vb).flatten:=by
   rw[Lx,MH,R_]
  rw[<-c,<-oU Vb k (acc++Vb),<-e,Lx,MP]
section
variable {X:Cx}{U8:List (Kb×Obj)}{σ:St}{H:Hp}{s:JY}{l b:Kb}{xs ys zs:List V}
theorem Inv.lset{b a:List J0}(I:Inv X U8 σ H s)(g:H l=some (.lst xs))
  (e:s.heap.get? l=some {cls:=.type "list",data:=.seq b.toArray n }) (hf:f b.toArray=a.toArray) (hv:aP ys a) (hz:ys.length≤sizeLine):
  Inv X U8 σ (upd H l (.lst ys)) {s with heap:=s.heap.update l (KS f),toks:=t' }:=by
 have q:=PySem.IsL.update e f;rw[hf]at q;refine I.write (by rw[g];exact trivial) (.inl rfl) (λh u c d=>(Kf s.heap (KS f) (Ne.symm c)).trans d) ⟨_,q⟩ ?_
 exact⟨hz,a,_,hv,q⟩
theorem Inv.lnew(I:Inv X U8 σ H s)(a:aP ys Vb)(b:ys.length<=sizeLine):
  Inv X U8 σ (upd H s.heap.objs.size (.lst ys)) {s with heap:=s.heap.push {cls:=.type "list",data:=.seq Vb.toArray },toks:=t' }:=
 I.laid (λ_ _ q=>JJ _ q) (JR _) ⟨b,Vb,0,a,JT _ rfl⟩
theorem Inv.fresh(I:Inv X U8 σ H s):H s.heap.objs.size=none:=I.hok.fresh (JR _)
theorem Inv.lstM(I:Inv X U8 σ H s)(b:H l=some (.lst xs)):xs.length≤sizeLine∧∃a n,aP xs a∧xs.length=a.length∧s.heap.get? l=some {cls:=.type "list",data:=.seq a.toArray n }:=by
 obtain⟨z,a,n,r,e⟩:=I.hok l _ b;exact⟨z,a,n,r,r.length,e⟩
theorem Aw(h:n<=sizeLine):Builtin.List.listTooLong n=false:=by
 exact decide_eq_false (by lia)
end
section
variable {X:Cx}
def Dn:V->List V->Hp->VK->Prop:=λx b H Q=>∃l a y,x=.ref l/\b=[y]/\H l=some (.lst a)/\a.length<sizeLine/\Q .non (upd H l (.lst (a++[y])))
theorem jM:MtM X "list.append" Dn:=by
 intro k s j H x g v o Q I b f h;obtain⟨l,p,y,rfl,rfl,a,i,q⟩:=h;cases b;obtain⟨u,rfl,d⟩:=f.one;obtain⟨z,c,n,r,m,e⟩:=I.lstM a;refine Ox F.slot_list_append ⟨_,e,rfl⟩ F.entry_list_append (F.args_list_append_2 _ _) (PySem.list_append l c.toArray n u (by rw[J9];lia)) ⟨e,?_⟩;refine⟨.non,_,I.lset a e (by simp) (r.append (.cons d .nil)) ?_,rfl,q⟩;rw[Ko,QR];lia
def Jq:V->List V->Hp->VK->Prop:=λx b H Q=>∃l a y,x=.ref l/\b=[]/\H l=some (.lst a)/\a[a.length-1]?=some y/\Q y (upd H l (.lst a.dropLast))
theorem Fq:MtM X "list.pop" Jq:=by
 intro p s o H x m v t Q I f i h;obtain⟨l,w,y,rfl,rfl,c,hy,q⟩:=h;cases f;have b:=i.zero;subst b;obtain⟨z,a,n,r,j,e⟩:=I.lstM c;obtain⟨u,d,g⟩:=r.get hy
 have k:a.toArray[a.toArray.size-1]?=some u:=by
  show a.toArray[a.length-1]?=some u;rw[<-KI,<-j];exact d
 refine Ox F.slot_list_pop ⟨_,e,rfl⟩ F.entry_list_pop (F.args_list_pop_1 _) (MeetsSeq.list_pop_last l a.toArray n u k (by rw[J9];lia)) ⟨e,?_⟩;refine⟨y,_,I.lset c e ?_ r.dropLast ?_,g,q⟩
 .show a.toArray.eraseIdxIfInBounds (a.toArray.size-1)=a.dropLast.toArray;rw[J9,List.eraseIdxIfInBounds_toArray,tN]
 .rw[Ls];lia
noncomputable def JC:R2:=λx y H Q=>∃l b a c,x=.ref l/\y=.ref b/\H l=some (.lst a)/\H b=some (.lst c)/\a.length+c.length<=sizeLine/\∀p,H p=none->Q (.ref p) (upd H p (.lst (a++c)))
theorem G6:OpR X (N7 .Add) JC:=by
 intro B s A H x y v u Q I g d h;obtain⟨l,b,E,o,rfl,rfl,i,m,w,q⟩:=h;cases g;cases d;obtain⟨z,a,n,r,C,e⟩:=I.lstM i;obtain⟨p,c,D,f,t,k⟩:=I.lstM m;refine PySem.P.add_list e k ?_ (by rw[J9,J9];lia);have j:a.toArray++c.toArray=(a++c).toArray:=by simp
 rw[j];exact⟨.ref _,_,I.lnew (t':=s.toks) (r.append f) (by rw[Ko];lia),rfl,q _ I.fresh⟩
noncomputable def Jg:R2:=λx y H Q=>∃l k a,x=.ref l/\y=.int k/\H l=some (.lst a)/\-(2 ^ 63)<=k/\k<2 ^ 63/\a.length*k.toNat<=sizeLine/\
 ∀p,H p=none->Q (.ref p) (upd H p (.lst (Kn k.toNat a).flatten))
theorem DW{α:Type}(xs:List α)(k):(Kn k xs).flatten.length=k*xs.length:=by
 induction k with
 |zero=>simp
 |succ k a=>rw[Lx,MH,Ko,a,Nat.succ_mul,Ul]
theorem GF:OpR X (N7 .Mult) Jg:=by
 intro L s K H x y v u Q I A p h;obtain⟨l,k,N,rfl,rfl,B,o,J,j,q⟩:=h;cases A;obtain⟨t,rfl⟩:=p;obtain⟨z,b,n,r,G,e⟩:=I.lstM B;have w:b.toArray.size*k.toNat<=sizeLine:=by rw[J9,<-G];exact j
 have d:¬ b.toArray.size*k.toNat >(2 ^ 63-1)/8:=by
  have:sizeLine<=(2 ^ 63-1)/8:=by decide
  lia
 have D:¬ (!Builtin.List.listFitsIndex k)=true:=by
  rw[fitsIndex_both o J];exact KZ
 have c:¬ Builtin.List.listTooLong (b.toArray.size*k.toNat)=true:=by
  rw[Aw w];exact KZ
 have f:Ua (λg i=>g++i) #[] (Kn (if b.toArray.isEmpty=true then 0 else k.toNat) b.toArray)=(Kn k.toNat b).flatten.toArray:=by
  have E:∀m,Ua (λg i=>g++i) #[] (Kn m b.toArray)=(Kn m b).flatten.toArray:=λm=>by
   have:=oU b m [];exact this
  rw[E];cases b with
  |nil=>simp
  |cons a M=>rw[if_neg (by simp)]
 refine wpAny_binaryOp_repeat_ref (by decide) ⟨_,e,rfl⟩ (λC=>Ri C k t) noFill_list_mul F.fills_int_mul F.slot_int_rmul repeat_list F.slot_int_index.lookup
  (Ox F.slot_int_rmul (Ri s k t) F.entry_int_rmul (F.args_int_rmul_2 _ _) (int___rmul___int_list k t l b.toArray n)
   ⟨e,rfl,⟨_,e,rfl⟩,Ox F.slot_list_mul ⟨_,e,rfl⟩ F.entry_list_mul (F.args_list_mul_2 _ _) (AutoListH.list___mul___list_int_3 l b.toArray n k t D d c) ⟨e,?_⟩⟩)
 rw[f];exact⟨.ref _,_,I.lnew (r.rep k.toNat) (by rw[DW,Sv];exact j),rfl,q _ I.fresh⟩
end
end L2
namespace Att
open PySem PySem.W PySem.Calls PyProof.Rows
theorem kN:∀ns c,WellAll P h c (ns.map WData.int)->Ub c ns:=by
 intro ns
 induction ns with
 |nil=>
  intro c w;cases w;exact .nil
 |cons n ns d=>
  intro c w;cases w with
  |cons a b=>
   cases a;exact .cons _ _ (d _ b)
theorem script_of{l:OpenLaw}(o:l.most=some n) 
  (WM:l.row.toRowW.claim.pre args=true) (Xg:WellAll P h vals args):
  ∃a e ns,vals=[Ku a]∧args=[WData.list (ns.map WData.int)]∧h.get? a=some {cls:=.type "list",data:=.seq e.toArray }∧Ub e ns∧ns.length≤n:=by
 have hsh:=(pre_splitW WM).1;have p:l.pre.holds [] {args:=args }=true:=(pre_splitW WM).2;obtain⟨d,r,rfl,g,t⟩:=hasAllW_cons hsh;obtain rfl:=hasAllW_nil t;obtain⟨u,rfl,f⟩:=hasW_list g;obtain⟨ns,rfl⟩:=items_int f
 have j:ns.length<=n:=by
  have b:(WTm.not (.lt (.lit (.int n)) (.len (.arg 0)))).holds [] {args:=[.list (ns.map .int)] }=true:=by
   have b:=(holds_andW p).1;rw[o]at b;exact b
  have c:=condW_of b (w_not (w_lt w_lit (w_len_list (w_arg rfl))));refine OW λq=>?_
  first
   | (rw[decide_eq_true q']at c;exact absurd c (by decide))
   | (simp at c;lia)
 cases Xg with
 |cons s m=>
  cases m;cases s with
  |list i k=>exact⟨_,_,ns,rfl,rfl,i,kN ns _ k,j⟩
theorem post_true(l:OpenLaw)(args):l.row.toRowW.claim.post args (.bool true) args=true:=
 postW_of
  (show WShape.has [] (.bool true) .bool=true by first |rfl |decide |simp[WShape.has,WShape.arms,WShape.armsAll])
  (w_eq_bool (w_res rfl) w_lit) rfl
end Att
namespace L2
open PySem PySem.Spec PyProof.Rows
theorem n8:∀{a}{ns},Ub a ns->aP (ns.map V.int) a
 |_,_,.nil=>.nil
 |_,_,.cons n t h=>.cons ⟨t,rfl⟩ (n8 h)
end L2
namespace L2
open PySem PySem.Spec PyProof.Rows
noncomputable def cV(s:Mm):Arguments:=match s with
 | .FunctionDef _ a _ _ _ _ _ _ _ _=>a
 |_=>{posonlyargs:=[],args:=[],vararg:=none,kwonlyargs:=[],kw_defaults:=[],kwarg:=none,defaults:=[] }
noncomputable def bA(s:Mm):List Mm:=match s with
 | .FunctionDef _ _ b _ _ _ _ _ _ _=>b
 |_=>[]
noncomputable def ai(s:Mm):RZ:=match s with
 | .FunctionDef _ _ _ _ _ _ a _ _ _=>a
 |_=>{kind:=.function,names:=[],isGenerator:=false,isCoroutine:=false }
noncomputable abbrev CX0:CXT:=λ_ _ _ _ _ _=>False
noncomputable abbrev E0:XK:=λ_ _ _=>False
structure Fun(K:JI)(x Vd:Str)(st:Mm)(f:Kb)(fd:MT):Prop where
 ex:∃(oc:J0) (od:Option Kb) (kV V1 pm:J0) (an:Option Kb) (cdv ct:J0) (XJ:Array (Option J0)),
  fd=NK x Vd (cV st) (bA st) (ai st) .none kV V1 pm an cdv ct/\K.lookup f=some ⟨oc,od,.func fd,XJ⟩/\PV K cdv Vd=true
 kp:LK K (.ref f)=true
section
variable {P:J2}{w:Kt}{K:JI}{mg:Str→Option J0}{base:Mf}
theorem Fun.binds{st:Mm}(F:Fun K x Vd st f fd)
  (h:∀kV b e d a g c,c.length=ps.length->OG (NK x Vd (cV st) (bA st) (ai st) .none kV b e d a g) ⟨c,[]⟩=pure (ps.zip c)):bX K fd ps []:=by
 obtain⟨i,l,kV,b,e,d,a,g,j,rfl,k,m⟩:=F.ex;exact .all (h kV b e d a g)
theorem jG{st:Mm}{d b e a g:J0}(l:K.lookup f=some ⟨oc,od,.func (NK x Vd (cV st) (bA st) (ai st) .none d b e an a g),XJ⟩)
  (c:PV K a Vd=true) (k:LK K (.ref f)=true):Fun K x Vd st f (NK x Vd (cV st) (bA st) (ai st) .none d b e an a g):=⟨⟨oc,od,d,b,e,an,a,g,XJ,rfl,l,c⟩,k⟩
end
theorem aB(h:n<=1000):n<sizeLine:=Mr h (by decide)
theorem mY{A B:Prop}(h:B):if false=true then A else B:=by
 rw[if_neg KZ];exact h
theorem oW{A B:Prop}(h:A):if true=true then A else B:=by
 rw[if_pos rfl];exact h
def aI(H a:Hp):Prop:=∀b o,H b=some o->a b=some o
theorem aI.refl(H):aI H H:=λ_ _ h=>h
theorem aI.trans(a:aI H H1)(b:aI H1 H2):aI H H2:=λc o h=>b c o (a c o h)
theorem aI.free(e:aI H H')(h:H' l=UI):H l=UI:=by
 cases q:H l with
 |none=>rfl
 |some o=>
  rw[e l o q]at h;cases h
theorem aI.seq{K:JI}(e:aI H H')(h:SqL K H a xs):SqL K H' a xs:=by
 rcases h with (h |⟨o,h⟩) |h
 .exact .inl (.inl (e _ _ h))
 .exact .inl (.inr ⟨o,e _ _ h⟩)
 .exact .inr h
noncomputable def b5(tb:Kb)(K:JI):JI:=K.filter λp=>!(p.1==tb)
theorem fc(tb):∀K b,(b5 tb K).lookup b=if b=tb then none else K.lookup b
 |[],b=>by unfold b5;simp
 | (c,o)::K,b=>by
  have ih:=fc tb K b;unfold b5 at *;by_cases d:c=tb
  .rw[QA,if_neg (by simp[d]),ih];by_cases a:b=tb
   .rw[if_pos a,if_pos a]
   .rw[if_neg a,if_neg a,K5,beq_eq_false_iff_ne.mpr (λz=>a (z.trans d))]
  .rw[QA,if_pos (by simp[d]),K5,K5,ih];by_cases a:b=c
   .subst a;simp[d]
   .rw[beq_eq_false_iff_ne.mpr a]
theorem tM(tb)(K):(b5 tb K).lookup tb=none:=by rw[fc,if_pos rfl]
theorem Bq{K:JI}(h:(b5 tb K).lookup b=some o):K.lookup b=some o:=by
 rw[fc]at h;split at h
 .cases h
 .exact h
theorem iF{K:JI}(n:b≠tb)(h:K.lookup b=some o):(b5 tb K).lookup b=some o:=by rw[fc,if_neg n];exact h
noncomputable abbrev sQ:Obj:={cls:=.none,data:=.fields #[] }
structure tZ(K:JI)(mg:Str->Option J0)(f c tb:Kb):Prop where
 m:mg "to_form"=some (.ref f)
 lf:∃o fd,K.lookup f=some o/\o.data=.func fd/\fd.code=.ref c
 hd:Lz K c tb=true
 t0:K.lookup tb=some sQ
theorem jN{K:JI}(h:Lz K c tb=true):∃o a,K.lookup c=some o∧o.cls=.type "code"∧o.data=.fields a∧a[11]?=some (.ref tb):=by
 unfold Lz at h;split at h
 .rename_i a _ e
  simp only[K3]at h;obtain⟨⟨⟨⟨⟨d,_⟩,_⟩,_⟩,_⟩,_⟩:=h;split at d
  .rename_i f b
   exact⟨_,a,e,rfl,rfl,by rw[b,beq_iff_eq.mp d]⟩
  .cases d
 .cases h
theorem tZ.amb{K:JI}(T:tZ K mg f c tb)(X:K.In h)(a:∀b o,base.get? b=some o->h.get? b=some o)(s:∃u,H tb=some (.tbl u)):Amb mg base H:=by
 intro z o D E A y P e w d l q g k;obtain⟨B,t,l1,l2,v⟩:=T.lf;obtain⟨C,x,r,_,n,p⟩:=jN T.hd;rw[T.m]at e;cases e;have j:=a _ _ w;rw[X _ _ l1]at j;cases j;rw[l2]at d;cases d;rw[v]at l;cases l;have i:=a _ _ q;rw[X _ _ r]at i;cases i;rw[n]at g;cases g;rw[K0,p]at k;cases k;exact s
theorem xK{K:JI} 
  (KX:K.In s1.heap) (TB:tZ K mg f c tb) (XX:s1.heap.Ns K1 mg) (hb:s1.heap.Ns Pd mb) (hbb:∀x:Str,x≠"__name__"→mb x=L_ x) (hlim:s1.heap.NoLimit) (hg:s1.gens=#[])
  (ha:s1.heap.get? a=some {cls:=.type "list",data:=.seq vs.toArray }) (hi:Ub vs ns) (hl:ns.length≤sizeLine) (hr:bu k Sa)
  (F:∀base,(b5 tb K).In base->base.Ns K1 mg->bV P w (b5 tb K) mg base CX k fa fd [x] sp) (hbind:∀s u,S4 s fd ⟨[u],[]⟩ [(x,u)])
  (VW:∀H,SqL (b5 tb K) H a (ns.map V.int)->sp [.ref a] H (λv _=>v=.bl true) λ_ _ _=>False)
  (hCX:∀H e i,CX [] H s1 (λ_ _ _=>False) e i->False):
  NY (Kk P w) Sa (.call (.ref fa) ⟨[.ref a],[]⟩) (λr i=>r=.ok (.ret (.bool true))/\OldK s1.heap i.heap/\i.os=s1.os/\Qj i.gens) s1:=by
 have X:=n8 hi;have E:=hi.length;have N:=KX _ _ TB.t0
 have g:a≠tb:=λz=>by
  rw[z,N]at ha;cases ha
 have S:isCodeTable s1.heap tb:=by
  obtain⟨o2,U,m1,m2,m3,m4⟩:=jN TB.hd;exact⟨c,o2,U,KX _ _ m1,m2,m3,m4⟩
 have l:∀H,SqL (b5 tb K) H a (ns.map V.int)→HOk P w H s1.heap→(∀b,H b≠none→b=a∨b=tb)→(H a≠none→K.lookup a=none)→(∀u,H a=some u→∃xs,u=.frz {cls:=.type "list",data:=.seq vs.toArray } (.lst xs))→H tb=some (.tbl #[])→
   NY (Kk P w) Sa (.call (.ref fa) ⟨[.ref a],[]⟩) (λr i=>r=.ok (.ret (.bool true))/\OldK s1.heap i.heap/\i.os=s1.os/\Qj i.gens) s1:=by
  intro H hS B Q hK hF Z;have W:∀{b}{o},s1.heap.get? b=some o->H b=none->(nG s1.heap H).get? b=some o:=λe n=>B7 e n
  have O:∀{b}{o}{L}{M},s1.heap.get? b=some o->o.data=.dict L M->H b=none:=λ{b o L M} e d=>by
   cases q:H b with
   |none=>rfl
   |some u=>
    rcases Q b (by rw[q];simp) with z |z
    .rw[z,ha]at e;cases e;cases d
    .rw[z,N]at e;cases e;cases d
  have j:∀{b}{m},s1.heap.Ns b m->(nG s1.heap H).Ns b m:=λ{b m} ⟨o,L,M,e,d,r⟩=>⟨o,L,M,W e (O e d),d,r⟩
  have D:(b5 tb K).In (nG s1.heap H):=λb o e=>W (KX b o (Bq e)) (by
   cases q:H b with
   |none=>rfl
   |some u=>
    rcases Q b (by rw[q];simp) with z |z
    .rw[z,fc,if_neg g,hK (by rw[<-z,q];simp)]at e;cases e
    .rw[z,tM]at e;cases e)
  have hM:Mod (b5 tb K) mg (nG s1.heap H):=⟨D,j XX,⟨mb,j hb,hbb⟩,let ⟨mc,h1,h2⟩:=hlim;⟨mc,j h1,h2⟩⟩;have am:Amb mg (nG s1.heap H) H:=TB.amb KX (λb o e=>(wu e).1) ⟨_,Z⟩;have e0:mJ P w (b5 tb K) mg (nG s1.heap H) Sa [] s1 H:=⟨rfl,hM,λb o e=>wu e,Ss (yl _ _),trivial,⟨λb hb=>absurd (show b∈[] from hb) (by simp),am⟩,B,.of_eq hg⟩
  refine NJ ((F _ D (j XX)).run Sa [] s1 H ⟨[.ref a],[]⟩ [.ref a] [.ref a] _ _ hr e0 (hbind s1 (.ref a)) (.cons rfl .nil) (VW H hS)) λr i h=>?_;cases r with
  |error e=>exact (hCX H e i h).elim
  |ok fl=>
   cases fl with
   |next=>exact False.elim h
   |brk=>exact False.elim h
   |cont=>exact False.elim h
   |ret u=>
    obtain⟨v,H',os,G,un,y,r',q⟩:=h;have q':=q;subst q';obtain rfl:u=UX true:=r';refine⟨rfl,⟨λb o e=>?_,λb o e=>un.there b o e (by simp)⟩,os,G⟩;cases q:H b with
    |none=>exact .inl (un.keep b o e q (by intro z;exact absurd (show b∈[] from z) (by simp)) (by simp))
    |some u=>
     rcases Q b (by rw[q];simp) with z |z
     .subst z;obtain⟨xs,rfl⟩:=hF u q;have R:=un.frzs b _ _ q;obtain⟨Y,_⟩:=B b _ q;obtain⟨T,_⟩:=y b _ R;rw[e]at Y;cases Y;exact .inl T
     .subst z;obtain⟨m,R⟩:=un.tbls b _ Z;obtain⟨ts,T,_⟩:=(y b _ R);rw[N]at e;cases e;exact .inr (.inl ⟨S,rfl,#[],(fZ ts).toArray,rfl,by rw[T];simp⟩)
 have p:∀H,Hi H s1.heap tb:=λH=>⟨[],N,λt ht=>by cases ht⟩
 cases hk:K.lookup a with
 |some o=>
  have e:=KX a o hk;rw[ha]at e;cases e;refine l (λb=>if b=tb then some (.tbl #[]) else none) (.inr ⟨_,vs.toArray,_,iF g hk,rfl,rfl,rfl,by rw[J9,E];exact hl,by simpa using X⟩) (λb u z=>?_) (λb z=>?_) (λz=>absurd (if_neg g) z) (λu z=>?_) (if_pos rfl)
  .by_cases hb:b=tb
   .have C:=(if_pos hb).symm.trans z;cases C;rw[hb];exact p _
   .have C:=(if_neg hb).symm.trans z;cases C
  .by_cases hb:b=tb
   .exact .inr hb
   .exact absurd (if_neg hb) z
  .have C:=(if_neg g).symm.trans z;cases C
 |none=>
  have at_:∀{b},b=a→(λb=>if b=a then some (HO.frz {cls:=.type "list",data:=.seq vs.toArray } (.lst (ns.map V.int))) else if b=tb then some (.tbl #[]) else none:Hp) b=some (HO.frz {cls:=.type "list",data:=.seq vs.toArray } (.lst (ns.map V.int))):=λe=>if_pos e
  have J:∀{b},b=tb→(λb=>if b=a then some (HO.frz {cls:=.type "list",data:=.seq vs.toArray } (.lst (ns.map V.int))) else if b=tb then some (.tbl #[]) else none:Hp) b=some (.tbl #[]):=λe=>by
   dsimp only;rw[if_neg (λz=>g (z.symm.trans e)),if_pos e]
  have I:∀{b},b≠a→b≠tb→(λb=>if b=a then some (HO.frz {cls:=.type "list",data:=.seq vs.toArray } (.lst (ns.map V.int))) else if b=tb then some (.tbl #[]) else none:Hp) b=none:=λn1 n2=>by
   dsimp only;rw[if_neg n1,if_neg n2]
  generalize (λb=>if b=a then some (HO.frz {cls:=.type "list",data:=.seq vs.toArray } (.lst (ns.map V.int))) else if b=tb then some (.tbl #[]) else none:Hp)=H at *
  refine l H (.inl (.inr ⟨{cls:=.type "list",data:=.seq vs.toArray },at_ rfl⟩)) (λb u z=>?_) (λb z=>?_) (λ_=>hk) (λu z=>?_) (J rfl)
  .by_cases hb:b=a
   .rw[at_ hb]at z;cases z;subst hb;exact⟨ha,by rw[JK];exact hl,vs,_,X,ha⟩
   .by_cases A:b=tb
    .rw[J A]at z;cases z;rw[A];exact p _
    .rw[I hb A]at z;cases z
  .by_cases hb:b=a
   .exact .inl hb
   .by_cases A:b=tb
    .exact .inr A
    .exact absurd (I hb A) z
  .rw[at_ rfl]at z;cases z;exact⟨_,rfl⟩
def Sz(m:Nat)(x:Int):Prop:=x.natAbs<2 ^ m
theorem Sz.mono(h:Sz m x)(a:m<=n):Sz n x:=Kc h (O8 (by decide) a)
theorem Sz.neg(h:Sz m x):Sz m (-x):=by unfold Sz at *;rw[Int.natAbs_neg];exact h
theorem Sz.add(b:Sz m x)(a:Sz m y):Sz (m+1) (x+y):=by
 unfold Sz at *;rw[ME];lia
theorem Sz.sub(b:Sz m x)(a:Sz m y):Sz (m+1) (x-y):=by
 rw[Int.sub_eq_add_neg];exact b.add a.neg
theorem Sz.mul(b:Sz m x)(a:Sz n y):Sz (m+n) (x*y):=by
 unfold Sz at *;rw[OH,Nat.pow_add];exact Nat.mul_lt_mul'' b a
theorem Sz.le(h:x.natAbs<=y.natAbs)(a:Sz m y):Sz m x:=Mr h a
theorem Sz.ediv(a:Sz m x):Sz m (x/y):=Sz.le (Int.natAbs_ediv_le_natAbs x y) a
theorem Sz.abs(a:Sz m x):Sz m (if x<0 then -x else x):=by split;exact a.neg;exact a
instance (m:Nat) (x:Int):Decidable (Sz m x):=inferInstanceAs (Decidable (x.natAbs<2 ^ m))
theorem Sz.add'(b:Sz m x)(a:Sz n y):Sz (max m n+1) (x+y):=(b.mono (S7 m n)).add (a.mono (SE m n))
theorem Sz.sub'(b:Sz m x)(a:Sz n y):Sz (max m n+1) (x-y):=(b.mono (S7 m n)).sub (a.mono (SE m n))
theorem Sz.lit(h:Sz m x):Sz m x:=h
theorem Sz.ok(b:Sz m x)(a:Sz n y)(h:m+n<=134217728):IntMulOk x y:=
 PyProof.Rows.mulOk_of_bits (intBits_le_iff.mpr b) (intBits_le_iff.mpr a) h
theorem Sz.log(h:Sz m x)(a:m<=9000)(b:x≠0):x.natAbs.log2<9000:=by
 have q:=(S8 (by lia)).mpr (show x.natAbs<2 ^ m from h);lia
def E_(_ j:Int):Prop:=0<j/\Sz 9000 j
def E3(_ j:Int):Prop:=j≠0/\Sz 9000 j
section
variable {X:Cx}{a b c:Expr}{ta tb tc:TE}{pos:Pos}
theorem Dp:OpR X (N7 .Mult) (rI IntMulOk λi j=>.int (i*j)):=opI λ_ _ _ _ _ _ _ a q=>mul_int q a
theorem Bg:OpR X (N7 .FloorDiv) (rI E_ λi j=>.int (i/j)):=opI λi j _ _ _ _ _ a q=>by
 have b:=a.1;exact floordiv_int (by lia) (by rw[Int.fdiv_eq_ediv_of_nonneg i (by lia)];exact q) (.inl (PyProof.noPylong_of_log2 (a.2.log (by decide) (by lia))))
theorem BU:OpR X (N7 .FloorDiv) (rI E3 λi j=>.int (i.fdiv j)):=opI λi j _ _ _ _ _ a q=>
 floordiv_int a.1 q (.inl (PyProof.noPylong_of_log2 (a.2.log (by decide) a.1)))
theorem HF(d:Gl X x)(b:X.mg x=none)(a:L_ x=some (.type n))(c:x≠"__name__":=by decide)(e:(x==("__debug__":Str))=false:=by decide):PE X (.Name x pos) (tC (.ty n)):=
 Ei d b a rfl c e
theorem ut:ce X (.type "int") (λa H Q=>∃k,a=[.bl k]∧Q (.int (if k then 1 else 0)) H):=by
 intro d s c H a b Q I r h;obtain⟨k,rfl,q⟩:=h;exact yX d s c H _ b Q I r (.inr ⟨k,rfl,q⟩)
end
theorem kit_int_int(K):OF K (.type "int") (.type "int")=some true:=rfl
theorem kit_int_bool(K):OF K (.type "int") (.type "bool")=some false:=rfl
theorem aO(h:H p=none)(o):aI H (upd H p o):=λb u q=>by rw[aD (b9 q h)];exact q
theorem aI.put(e:aI H H')(h:H l=none)(o):aI H (upd H' l o):=λb u q=>by rw[aD (b9 q h)];exact e b u q
theorem aI.tup{K:JI}{H b:Hp}{a:Kb}{xs:List V}(e:aI H b)(h:SqT K H a xs):SqT K b a xs:=by
 rcases h with (h |⟨o,h⟩) |h
 .exact .inl (.inl (e _ _ h))
 .exact .inl (.inr ⟨o,e _ _ h⟩)
 .exact .inr h
end L2
namespace L2
open PySem PySem.W PySem.Calls PySem.Spec PyProof.Rows
theorem qV{ns:List Int}(h:WData.layableAll [WData.list (ns.map WData.int)]=true):∀n∈ns,Sz 1048576 n:=by
 intro n c;have b:=(PySem.W.layableW_arg h) _ (Kq.mpr rfl);have e:=PySem.W.layableW_item b (WData.int n) (JS.mpr ⟨n,c,rfl⟩);have a:=(PySem.W.layableW_iff.mp e).2.2;have d:Builtin.Int.intBits n<=1048576:=by simpa only[WData.weight,Builtin.Int.intBits] using a
 exact intBits_le_iff.mp d
theorem qc{l:S9} 
  (hn:l.most=some n) (hdf:d.params.defaults=[])
  (call:∀w b c p v g o s j t a e ns,
   PySem.W.Ground q loose [] XP w b p v c.heap->YP w c.heap->
   c.heap.get? g=some o->o.data=.func (docDef d.name d.params d.body d.scope s j t)->c.heap.CodeRec j d.name->p d.name=some (.ref g)->
   c.heap.get? a=some {cls:=.type "list",data:=.seq e.toArray }→Ub e ns→ns.length≤n→(∀m∈ns,Sz 1048576 m)→c.gens=#[]→
   NY (Kk l.prog w) Sa (.call (.ref g) ⟨[.ref a],[]⟩) (λr k=>r=.ok (.ret (.bool true))/\OldK c.heap k.heap/\k.os=c.os/\Qj k.gens) c):
  Ud q loose XP YP l.row.toRowW d [] (λf e=>U1 f e):=by
 intro w b c p v G Y g o s j t J kV D C B z u K y x as O h M Q N;obtain rfl:J=.none:=UT z hdf;obtain rfl:kV=.none:=UU z;obtain⟨a,e,ns,rfl,rfl,i,L,F⟩:=Att.script_of hn O Q;refine PySem.W.enter_call (NJ (call w b c p v g o s j t a e ns G Y D (PySem.W.fd_plain C) B u i L F (qV h) K) λr k E=>?_);obtain⟨rfl,I,A,P⟩:=E;exact⟨.inl ⟨.bool true,.bool true,[],rfl,λ_=>rfl,.bool true,Att.post_true l _,λ_=>⟨NV,λ_ H=>(nomatch H)⟩⟩,I,A,P⟩
end L2
namespace L2
theorem cf{α:Type}{xs:List α}{i:Nat}{v:α}(e:k=(i:Int))(h:xs[i]?=some v):atI xs k=some v:=by subst e;exact wv h
theorem Sz.natle(a:Sz m y)(h:x.natAbs<=y.natAbs):Sz m x:=Sz.le h a
end L2
namespace L2
open PySem PySem.Spec PyProof.Rows
noncomputable abbrev aK(X:Cx)(b:RZ)(a:List (Str×Kb))(C:Kb)(s:JY)(H:Hp)(c:List Kb):Cx:=
 {X with s₀:=s,H₀:=H,env:=compEnvC b a C X.env,outer:=X.stack,ex:=c,fn:=λ_=>false,pn:=[],xe:=λ_ _=>False }
noncomputable def mask:List Nat->St->St
 |[],σ=>σ
 |i::is,σ=>mask is (σ.set i none)
theorem e9:∀is a,(mask is a).length=a.length
 |[],_=>rfl
 |i::is,a=>by rw[mask,e9 is];simp
theorem gP:∀is σ j v,(mask is σ)[j]?=some (some v)->σ[j]?=some (some v)/\j ∉ is
 |[],σ,j,v,h=>⟨h,by simp⟩
 |i::is,σ,j,v,h=>by
  obtain⟨a,b⟩:=gP is _ j v h;by_cases e:i=j
  .subst e;rw[P_]at a;simp at a
  .rw[Ki e]at a;exact⟨a,by simp[Ne.symm e,b]⟩
structure cL(X:Cx)(U9:RZ)(cl:List (Str×Kb))(is:List Nat):Prop where
 clos:Rj U9 X.env=pure cl
 cell:∀y∈U9.names,y.2≠.cell
 kind:U9.kind=.function
 names:∀y∈U9.names,y.2=.local->U9.names.lookup y.1=some .local
 cls:∀x c,cl.lookup x=some c->X.env.cells.lookup x=some c
 free:∀x,((relabel U9 X.env).names.lookup x=some .cell\/(relabel U9 X.env).names.lookup x=some .free)->Vis X.env.scope x/\X.env.scope.names.lookup x≠some .local/\∃c,cl.lookup x=some c
 own:∀i x,X.N[i]?=some x->(relabel U9 X.env).names.lookup x=some .local->i∈is
def A6(J:It)(is:List Nat)(g:TG)(o:TE)(f:St)(k:Hp)(l:Kb)(Q:VK):Prop:=
 ∃W:Nat->Nat->Hp->Prop,(∃m,W 0 m (upd k l (.lst [])))/\∀i m a,W i m a->
  (J.stop i a/\Q (.ref l) a)\/(J.go i a/\∀x e,J.yld i a x e->g x (mask is f) e λh n=>o h n λy d=>
   (∀(j:Nat) (v:V),(mask is f)[j]?=some (some v)->h[j]?=some (some v))/\∃b,d l=some (.lst b)/\b.length<sizeLine/\∃c,c<m/\W (i+1) c (upd d l (.lst (b++[y]))))
def wo(is:List Nat)(g:TG)(c:TE)(b:St)(Q:VK)(J:It)(a:Hp):Prop:=∀l,a l=none->A6 J is g c b a l Q
noncomputable def AK(is:List Nat)(b:TI)(g:TG)(c:TE):TE:=λa H Q=>b a H (wo is g c a Q)
section
variable {X:Cx}{U8:List (Kb×Obj)}{σ:St}{H:Hp}{s:JY}
theorem ka(I:Inv X U8 σ H s)(B:cL X U9 cl is)(f:∀b∈fp,eU X U8 H b)(g:∀b∈fp,b<s.heap.objs.size)
  (hn:h₁.Ns s.heap.objs.size m) (hk:∀b o,s.heap.get? b=some o->h₁.get? b=some o):
  Inv (aK X U9 cl s.heap.objs.size s H fp) [] (mask is σ) H {s with heap:=h₁,toks:=t' }:=by
 refine⟨⟨I.ok.mod,B.kind,I.ok.glob,I.ok.blt,JR _,λx y c d t=>I.ok.inj x y c (B.cls x c d) (B.cls y c t),λx L=>(B.free x L).2.2,λx c h=>(by cases h),I.ok.hd,I.ok.frames,.inl rfl,λb a=>⟨Kh (g b a),λx c e=>(f b a).2.2.2.2.1 x c (B.cls x c e)⟩,
  I.bs,KH I.ok.bsz I.sz,λb o e a=>?_,λb a z=>?_,I.stack,⟨I.stkFree,I.amb⟩⟩,rfl,I.bare,Un.kept hk,⟨m,hn,λi x v d t C=>?_⟩,λx c e=>?_,I.hok.fresh (JR _),λx c e=>I.freeC x c (B.cls x c e),λp D=>absurd D (by simp),I.hok.kept hk,?_⟩
 .rcases (f b a).2.2.2.1 with z |z
  .exact I.ok.noex b o e z
  .exact absurd (Kc (JU e) (KH I.ok.bsz z)) (KA _)
 .rcases JN.mp (I.stkSub b z) with e |e
  .exact (f b a).2.1 e
  .exact (f b a).2.2.1 e
 .obtain⟨F,J⟩:=gP is σ i v t;have G:=C;rcases G with z |z
  .exact absurd (B.own i x d z) J
  .obtain⟨E,j,c,w⟩:=B.free x z;obtain⟨P,_,K⟩:=I.loc;obtain⟨u,r,l⟩:=K i x v d F E;refine⟨u,r,.inr ⟨z,c,w,?_⟩⟩;rcases l with ⟨k,_⟩ |⟨_,O,M,o,q,n⟩
   .exact absurd k j
   .have A:=B.cls x c w;rw[M]at A;cases A;exact⟨o,hk _ _ q,n⟩
 .obtain⟨v,o,q,n⟩:=I.cell x c (B.cls x c e);exact⟨v,o,hk _ _ q,n⟩
 .show (mask is σ).length=X.N.length;rw[e9];exact I.len
theorem my(hc:X.calm=true)(B:cL X U9 cl is)
  (hg:∀C s H fp,PG (aK X U9 cl C s H fp) tg g) (he:∀C s H fp,PE (aK X U9 cl C s H fp) elt te) (hs:∀x,KL iter X.env x=pure x)
  (I:Inv X U8 σ H s) (hi:Kj (Kk X.prog X.w) X.A (LD iter X.env) (λv s1=>Kj (Kk X.prog X.w) X.A (Sq v) (PIE X U8 σ tg (wo is g te σ Q0)) X.xe s1) X.xe s)
  (Vn:∀l C h D m,Inv X U8 σ h D->D.heap.Ns C m->h C=none->C≠X.env.locals->C ∉ X.fs->X.s₀.heap.objs.size<=C->(∀x c,X.env.cells.lookup x=some c->c≠C)->(∀p∈X.pn++U8,p.1≠C)->Q0 (.ref l) h->
   Ue (Kk X.prog X.w) X.A X.xe use Q (.ref l) C (.ok .next) D):
  Kj (Kk X.prog X.w) X.A (comprehension (.ListComp elt [⟨tg,iter,[],0⟩] U9 pos) U9 X.env pos0 (newList []) false (LD iter X.env) use) Q X.xe s:=by
 refine Qa rfl hs B.clos B.kind B.names (thn hi λxv s1 h1=>thn h1 λitv a h2=>?_);obtain⟨it,fp,tn,J,G,e,I2,T,V,f2,R⟩:=h2;subst e;refine Nd (O9 B.cell (by intro y hy;simp at hy) (λE XX Wc=>?_) B.kind);have hl:=I2.hok.fresh (JR _);obtain⟨W,⟨m0,w0⟩,turn⟩:=R a.heap.objs.size hl
 have L:Inv X U8 σ (upd G a.heap.objs.size (.lst [])) {a with heap:=a.heap.push {cls:=.type "list",dict:=none,data:=.seq [].toArray } }:=
  I2.laid (λb u e=>JJ _ e) (JR _) ⟨Kv _,[],0,.nil,JT _ rfl⟩
 have P:∀b∈fp,b<a.heap.objs.size:=λb f=>let ⟨o,e,_⟩:=T.obj 0 _ V b f;JU e
 have M:∀b∈fp,eU X U8 (upd G a.heap.objs.size (.lst [])) b:=λb f=>⟨by rw[aD (Kh (P b f))];exact (f2 b f).1,(f2 b f).2⟩
 have kp:∀b o,(a.heap.push {cls:=.type "list",dict:=none,data:=.seq [].toArray }).get? b=some o→E.get? b=some o:=λb o e=>
  Wc.extBut b o (Kh (JU e)) (JJ _ e)
 have Y:=T.keep 0 _ _ V λb _ o e=>kp b o (JJ _ e)
 have Z:∀b∈fp,b<(a.heap.push {cls:=.type "list",dict:=none,data:=.seq [].toArray }).objs.size:=λb f=>by
  rw[KU];exact LZ (P b f)
 have I4:=ka (t':=a.toks+([]:List (Str×J0)).length) L B M Z XX kp
 have F:NY (Kk X.prog X.w) X.A (.compLoop (.ListComp elt [⟨tg,iter,[],0⟩] U9 pos) 0 (.ref it) (.ref a.heap.objs.size) (compEnvC U9 cl (a.heap.push {cls:=.type "list",dict:=none,data:=.seq [].toArray }).objs.size X.env))
   (Ue (Kk X.prog X.w) X.A X.xe use Q (.ref a.heap.objs.size) (a.heap.push {cls:=.type "list",dict:=none,data:=.seq [].toArray }).objs.size)
   {a with heap:=E,toks:=a.toks+([]:List (Str×J0)).length }:=by
  generalize Wy:({a with heap:=a.heap.push {cls:=.type "list",dict:=none,data:=.seq [].toArray } }:JY)=j at *
  have hC:(a.heap.push {cls:=.type "list",dict:=none,data:=.seq [].toArray }).objs.size=j.heap.objs.size:=by rw[←Wy]
  rw[hC]
  have V8:∀{h},(∀b∈fp,h b=none)->∀b∈fp,eU (aK X U9 cl j.heap.objs.size j (upd G a.heap.objs.size (.lst [])) fp) [] h b:=λhn b f=>
   ⟨hn b f,(I4.ok.exf b f).1,I4.ok.exfs b f,.inl f,λx c e=>(I4.ok.exf b f).2 x c e,λp hp=>absurd hp (by simp)⟩
  have S:∀{Vh}{h}{pp}{D},Inv (aK X U9 cl j.heap.objs.size j (upd G a.heap.objs.size (.lst [])) fp) pp Vh h D->Inv X U8 σ h D:=λI'=>
   L.call' I'.os I'.base I'.hok I'.bare λb f=>⟨(M b f).2.2.2.1,(M b f).2.1,(M b f).2.2.2.2.1,(M b f).2.2.2.2.2⟩
  refine codeAny_loop rfl (λn D=>∃i h,Inv (aK X U9 cl j.heap.objs.size j (upd G a.heap.objs.size (.lst [])) fp) [] (mask is σ) h D/\tn i D.heap/\(∀b∈fp,h b=none)/\W i n h) ?_ m0 ⟨0,_,(by subst Wy;exact I4),Y,λb f=>(M b f).1,w0⟩;rintro n s5 ⟨i,H5,I5,XI,U,w5⟩;refine wpAny_noted ?_;rw[compTurn_list1];refine JH (Oj (JH ?_));rcases turn i n H5 w5 with ⟨O,q⟩ |⟨go,step⟩
  .refine thn (T.done (aK X U9 cl j.heap.objs.size j (upd G a.heap.objs.size (.lst [])) fp) rfl rfl rfl hc i [] s5 _ H5 _ I5 (V8 U) XI O) λr s6 ⟨hr,I6⟩=>?_;subst hr;refine JM ?_;obtain⟨m6,hn6,_⟩:=I6.loc;refine Vn _ j.heap.objs.size H5 s6 m6 (S I6) hn6 I6.free (LX L.lt) (L.nofs (JR _)) L.sz (λx c e=>?_) (λp hp=>?_) q
   .obtain⟨v,z⟩:=L.cell x c e;exact Kh z.lt
   .exact Kh (JU (L.pin p hp).1)
  .refine thn (T.item (aK X U9 cl j.heap.objs.size j (upd G a.heap.objs.size (.lst [])) fp) rfl rfl rfl hc i [] s5 _ H5 _ I5 (V8 U) XI go) λr s6 t=>?_;obtain⟨u,hr,h6⟩:=t;subst hr;refine JH (thn h6 λ_ s7 t=>?_);obtain⟨x,H7,I7,r7,y7,K,fr7⟩:=t;have I7':=I7.pinned (V8 fr7) (T.obj _ _ K);refine JH (Lo (hg _ _ _ _ _ s7 (mask is σ) H7 x u _ I7' r7 (step x H7 y7)) (λ_ s8 t=>?_) λ_ _ z=>z.elim);obtain⟨N,H8,I8,q8⟩:=t;refine JH (JH (Lo (he _ _ _ _ _ s8 N H8 _ I8 q8) (λv s9 t=>?_) λ_ _ z=>z.elim));obtain⟨y,H9,I9,r9,sub,vs,hl9,hz,m',hm,w'⟩:=t;refine JH (Lo (jM (X:=aK X U9 cl j.heap.objs.size j (upd G a.heap.objs.size (.lst [])) fp) _ s9 N H9 (.ref a.heap.objs.size) [y] (.ref a.heap.objs.size) [v] (λ_ h=>h=upd H9 a.heap.objs.size (.lst (vs++[y]))) I9 rfl (.cons r9 .nil) ⟨_,vs,y,rfl,rfl,hl9,hz,rfl⟩) (λz s10 t=>?_) λ_ _ z=>z.elim);obtain⟨zv,H10,k,_,e10⟩:=t;subst e10;refine JM (JM ⟨rfl,m',hm,i+1,_,(k.unpinned).weak (by rw[k.len,e9,I.len]) sub,T.keep _ _ _ K λb f o e=>(k.pin (b,o) (J1 _ (J1 _ (bJ f e)))).1,λb f=>?_,w'⟩);obtain⟨o,e,d⟩:=T.obj _ _ K b f;exact (k.pin (b,o) (J1 _ (J1 _ (bJ f e)))).2.1
 exact QJ F (T.self X.A 0 _ _ _ Y F)
theorem CV(f:X.calm=true)(B:cL X U9 cl is)
  (hi:PI X tg iter wi) (hg:∀C s H fp,PG (aK X U9 cl C s H fp) tg g) (he:∀C s H fp,PE (aK X U9 cl C s H fp) elt te) (hs:∀x,KL iter X.env x=pure x:=by intro _;rfl):
  PE X (.ListComp elt [⟨tg,iter,[],0⟩] U9 pos) (AK is wi g te):=by
 intro U8 s σ H Q I h;rw[eval_ListComp];refine my f B hg he hs I (hi U8 s σ H _ I h) λl C n v m a p d t u r i k q=>⟨m,p,λw j=>?_⟩
 exact⟨.ref l,n,a.turned (λb o c e=>j.extBut b o c e) d (Ne.symm t.symm) (.inr r) i k,rfl,q⟩
end
section
variable {X:Cx}
theorem tX(p:X.calm=true)(K:X.N.Nodup)(t:X.N[j]?=some y)(w:Loc X.env.scope y)(B:cL X U9 cl is)
  (hi:PI X tg iter wi) (hg:∀C s H fp,PG (aK X U9 cl C s H fp) tg g) (he:∀C s H fp,PE (aK X U9 cl C s H fp) elt te) (hs:∀x,KL iter X.env x=pure x:=by intro _;rfl)
  (hsw:Mn (.ListComp elt [⟨tg,iter,[],0⟩] U9 pos) (some (.Name y py)) Wz.line X.env=pure true:=by rfl) (hf:X.fn y=true\/X.env.scope.names.lookup y=some .local:=by first |exact .inl rfl |exact .inr rfl |assumption):
  PS X (.Assign [.Name y py] (.ListComp elt [⟨tg,iter,[],0⟩] U9 pos) Wz) (Cp (AK is wi g te) (lZ j)):=by
 intro J s F H D I h;rw[QS _ _ _ _ hsw];refine JH (Oj (JH ?_));refine JH (Lo (my p B hg he hs I (hi J s F H _ I h) λl C L G m i M n f S Q d E q=>?_) (λ_ G u=>JM (JM u)) λ_ _ e=>e);refine P6 (jU i K t w (v:=.ref l) rfl (λR O z=>?_) hf);obtain⟨a,A,P⟩:=z
 have c:C≠a:=by
  rcases P with e |e
  .rw[e];exact f
  .exact Ne.symm (d _ _ e)
 refine⟨m,M.sameBut A c,λT r=>⟨_,L,O.turned (λb o k e=>r.extBut b o k e) n f (.inr Q) d E,q⟩⟩
variable {prog:J2}{w:Kt}{A:K7}{E:J0→JY→Prop}
theorem nZ(e:t≠it):∀n i s Q,s.heap.IsListIter it t i->s.heap.IsList t items->i+n<=items.size->
  (∀h',h'.IsListIter it t (i+n)->MD it s.heap h'->Q ((items.toList.drop i).take n) {s with heap:=h' })->Kj (Kk prog w) A (draw (.ref it) n) Q E s
 |0,i,s,Q,c,_,_,d=>by
  exact JM (by simpa using d s.heap c (Qb ..))
 |n+1,i,s,Q,c,h,m,d=>by
  have Ve:i<items.size:=by lia
  refine JH (Nx c h (x:=items[i]) (by simp[Ve]) λg j f=>?_);refine JH (KB (nZ e n (i+1) _ _ j (h.extBut f.extBut e) (by lia) λk a b=>JM ?_));have l:items.toList.drop i=items[i]::items.toList.drop (i+1):=by simp[M8,Ve]
  have:=d k (by rw[show i+(n+1)=i+1+n by lia];exact a) (f.trans b);rw[l,Pm]at this;exact this
theorem jF(l:A.handled=none)(d:s.heap.IsList t items)
  (hQ:∀f,UJ s.heap.objs.size s.heap f->Q items.toList {s with heap:=f }):Kj (Kk prog w) A (unpackItems (.ref t) items.size none) Q E s:=by
 have g:t≠s.heap.objs.size:=by obtain⟨o,k,_⟩:=d;exact Kh (JU k)
 refine JH ?_
 .unfold notIterableAtAll;refine JH (MQ d.typeIs PySem.slot_list_iter.lookup ?_);refine JM ?_;simp only[J4,if_false];refine JH (KB (Lp d ?_));refine JH (KB (nZ g items.size 0 _ _ ⟨_,JT _ rfl,rfl,rfl⟩ (d.push _) (by lia) λj m i=>?_))
  have p:List.take items.size (U5 0 items.toList)=items.toList:=by
   rw[Ru];exact LH (by simp)
  rw[p];rw[if_neg (by simp)];have a:=(d.push _).extBut i.extBut g;refine JH (KB (OM l m a (by simp) λn c=>?_));simp only[Option.isSome_none,J4,if_false];refine JM (hQ n λb o h e=>c b o h (i.extBut b o h (JJ _ e)))
variable {pos:Pos}
noncomputable def Jm(K:JI)(n:Nat)(t:TGs):TG:=λv c H Q=>∃a b,v=.ref a/\SqL K H a b/\b.length=n/\t b c H Q
theorem Gy(f:X.calm=true)(h:PGs X es t)
  (hn:(MX es X.env).length=n:=by rfl) (VE:(MX es X.env).findIdx? (·.1)=none:=by rfl):PG X (.Tuple es k pos) (Jm X.K n t):=by
 intro j s i H v u Q I r c;obtain⟨a,q,p,g,l,c⟩:=c;subst p;cases r;obtain⟨z,d,x,y⟩:=I.list g;rw[assign_Tuple];refine JH (Oj ?_);unfold unpack;rw[VE,hn,<-l,d.length,<-J9];refine JH (KB (jF (I.ok.hd f) x.isList λA w=>?_));have m:=I.kept (t':=s.toks) λb o e=>w b o (Kh (JU e)) e;exact h j _ i H q _ Q m (by simpa using d) c
end
noncomputable def goC(a:List (Str×Kb)):List (Str×Rg)->List (Str×Kb)->List (Str×Kb)
 |[],acc=>acc
 | (n,k)::r,acc=>goC a r (if (k==.free)=true then (n,(a.lookup n).getD 0)::acc else acc)
theorem uV(h:∀y∈U9.names,y.2=.free->(env.cells.lookup y.1).isSome=true):Rj U9 env=pure (goC env.cells U9.names []):=by
 have all:∀a b,(∀y∈a,y.2=.free->(env.cells.lookup y.1).isSome=true)->
   (forIn a b (λx i=>match x with | (name,d)=>if (d==.free)=true then (do let c <-cellOf env name;pure (ForInStep.yield ((name,c)::i))) else pure (ForInStep.yield i)):Sem (List (Str×Kb)))=pure (goC env.cells a b):=by
  intro a
  induction a with
  |nil=>intro b _;rfl
  |cons y r l=>
   intro b hy;obtain⟨n,k⟩:=y;rw[Ng];by_cases m:k=.free
   .subst m;have:=hy (n,.free) JP rfl;obtain⟨c,j⟩:=Ob.mp this;have e:cellOf env n=pure c:=by unfold cellOf;rw[j]
    simp only[beq_self_eq_true,if_true,e,pure_bind];rw[l _ λy f=>hy y (JL _ f)];simp only[goC,beq_self_eq_true,if_true,j,Nu]
   .have g:(k==NameKind.free)=false:=by simpa using m
    simp only[g,J4,if_false,pure_bind];rw[l _ λy f=>hy y (JL _ f)];simp only[goC,g,J4,if_false]
 simp only[Rj];have:=all U9.names [] h;simpa using this
theorem xf:∀a b,(∀y∈a,y.2=.free->(Wa.lookup y.1).isSome=true)->(∀x c,b.lookup x=some c->Wa.lookup x=some c)->
  ∀x c,(goC Wa a b).lookup x=some c->Wa.lookup x=some c
 |[],_,_,f,x,c,h=>f x c h
 | (n,k)::r,b,hy,f,x,c,h=>by
  refine xf r _ (λy j=>hy y (JL _ j)) (λd g e=>?_) x c h;by_cases hk:k=.free
  .subst hk;simp only[beq_self_eq_true,if_true]at e;rw[K5]at e;by_cases hx:(d==n)=true
   .rw[hx]at e;have XA:d=n:=by simpa using hx
    obtain⟨m,i⟩:=Ob.mp (hy (n,.free) JP rfl);simp only[i,Nu]at e;rw[XA,i];exact e
   .have:(d==n)=false:=by simpa using hx
    rw[this]at e;exact f d g e
  .have l:(k==NameKind.free)=false:=by simpa using hk
   rw[l]at e;exact f d g e
theorem vH:∀a b,((x,NameKind.free)∈a\/∃c,b.lookup x=some c)->∃c,(goC Wa a b).lookup x=some c
 |[],_,h=>by
  rcases h with h |h
  .cases h
  .exact h
 | (n,k)::r,b,h=>by
  rw[goC];refine vH r _ ?_;rcases h with h |⟨c,h⟩
  .rcases JN.mp h with e |h
   .cases e
    right
    simp
   .exact .inl h
  .right
   by_cases hk:k=.free
   .subst hk;simp only[beq_self_eq_true,if_true];rw[K5];cases hx:x==n with
    |true=>exact⟨_,rfl⟩
    |false=>exact⟨c,h⟩
   .have hb:(k==NameKind.free)=false:=by simpa using hk
    rw[hb];exact⟨c,h⟩
theorem cX{a:Env}{x:Str}{c:Rg}:∀{b:List (Str×Rg)},
  (b.map λ(n,k)=>if (k==NameKind.free && a.scope.kind==.function && a.kindOf n==some .cell) then (n,NameKind.cell) else (n,k)).lookup x=some c->b.lookup x=some c\/(c=.cell/\b.lookup x=some .free)
 |[],h=>by simp at h
 | (n,k)::r,h=>by
  have ih:=@cX a x c r
  change Nk x ((if (k==NameKind.free && a.scope.kind==.function && a.kindOf n==some .cell)=true then (n,NameKind.cell) else (n,k))::_)=_ at h
  by_cases d:(k==NameKind.free && a.scope.kind==.function && a.kindOf n==some .cell)=true
  .rw[if_pos d]at h;rw[K5]at h |-;cases hx:x==n with
   |true=>
    rw[hx]at h
    have f:k=.free:=by
     have:=(Rn.mp (Rn.mp d).1).1;simpa using this
    subst f;have e:=h;cases e;exact .inr ⟨rfl,rfl⟩
   |false=>rw[hx]at h;exact ih h
  .rw[if_neg d]at h;rw[K5]at h |-;cases hx:x==n with
   |true=>rw[hx]at h;exact .inl h
   |false=>rw[hx]at h;exact ih h
noncomputable def Bw(a b:RZ)(N:List Str)(is:List Nat):Bool:=
 a.names.all (λy=>y.2 !=.cell) && a.names.all (λy=>y.2 !=.local ||a.names.lookup y.1==some .local) && a.names.all (λy=>y.2 !=.free ||b.names.lookup y.1==some .cell) &&
  (Kr N.length).all λi=>match N[i]? with |some x=>a.names.lookup x !=some .local ||is.contains i |none=>true
theorem blk(VS)(N)(is)(b:X.N=N)(hs:X.env.scope=VS)(d:X.env.cells=RK (X.env.locals+1) VS.names [])(s:U9.kind=.function)(h:Bw U9 VS N is=true):cL X U9 (goC X.env.cells U9.names []) is:=by
 subst b;unfold Bw at h;simp only[K3,Nv]at h;obtain⟨⟨⟨o,q⟩,n⟩,t⟩:=h
 have k:∀y∈U9.names,y.2=.free->VS.names.lookup y.1=some .cell:=λy hy e=>by
  have:=n y hy;simp only[S_,bne_iff_ne,ne_eq,beq_iff_eq]at this;exact this.resolve_left λz=>z e
 have f:∀y∈U9.names,y.2=.free->(X.env.cells.lookup y.1).isSome=true:=λy hy e=>by
  rw[d];exact Ny _ _ _ (.inl (k y hy e))
 have j:∀y∈U9.names,y.2≠.cell:=λy hy=>by have:=o y hy;simpa using this
 refine⟨uV f,j,s,λy hy e=>?_,xf _ _ f (λx c e=>by simp at e),λx a=>?_,λi x g r=>?_⟩
 .have:=q y hy;simp only[S_,bne_iff_ne,ne_eq,beq_iff_eq]at this;exact this.resolve_left λz=>z e
 .have m:(x,NameKind.free)∈U9.names:=by
   rcases a with a |a
   .rcases cX a with z |⟨_,z⟩
    .exact absurd rfl (j _ (Lk z))
    .exact Lk z
   .rcases cX a with z |⟨z,_⟩
    .exact Lk z
    .cases z
  have l:=k _ m rfl;refine⟨.inr (.inl (by rw[hs];exact l)),(by rw[hs,show VS.names.lookup x=some .cell from l];intro z;cases z),vH _ _ (.inl m)⟩
 .have p:=(JV.mp g).1;have:=t i (J_.mpr p);rw[g]at this
  have u:U9.names.lookup x=some .local:=by
   rcases cX r with z |⟨z,_⟩
   .exact z
   .cases z
  simp only[u,bne_self_eq_false,Ug,List.contains_iff_mem]at this;exact this
end L2
namespace L2
open PySem PySem.Spec PySem.W PyProof.Rows
noncomputable def CXF(P:J2)(w:Kt):CXT:=λa H s E e c=>∃(f:Kb) (cls h:J0) (B:Mf) (d:Hp),e=.ref f/\c.os=s.os/\Qj c.gens/\Un (frs a) [] H d s.heap c.heap/\HOk P w d c.heap/\d f=none/\
 (∀b o,s.heap.get? b=some o->b ∉ frs a->H b=none->B.get? b=some o)/\(∀b u,d b=some u->∃o,B.get? b=some o)/\(∀b o,s.heap.get? b=some o->b ∉ frs a->∃g,B.get? b=some g)/\
 Heap.FlyingW B a f cls h c.heap/\E cls none d
theorem c7:bR (CXF P w) X E0:=λ_ _ _ _ _ _ _ h=>by
 obtain⟨_,_,_,_,_,_,_,_,_,_,_,_,_,_,_,a⟩:=h;exact a.elim
theorem Fun.okF{K:Frag}{st:Mm}(F:Fun K x Vd st f fd)(S:au N ps (ai st))(d:∀c H Q E,sp c H Q E->c.length=ps.length)
  (VC:∀b A a s H c Q E,bu k (A.deeper (Pl Vd (ai st) s.heap.objs.size f b))->sp c H Q E->
   ∃t,PSs (iP (CXF P w) P w K mg base N Vd (ai st) f b A a s H E) (bA st) t/\t {nx:=λ_ j=>Q .non j,rt:=Q } (start N c) H):bV P w K mg base (CXF P w) (k+1) f fd ps sp:=by
 obtain⟨n,p,kV,m,l,o,b,q,r,rfl,i,e⟩:=F.ex;exact E6 i e S d λA a s H c Q E h g=>VC b A a s H c Q E h g
end L2
namespace L2
open PySem PySem.Spec PyProof.Rows
theorem n9:(Kr n).all e=true↔∀j,j<n->e j=true:=by
 rw[Nv];exact⟨λh j a=>h j (J_.mpr a),λh j a=>h j (J_.mp a)⟩
end L2
namespace PySem.W
open PySem PySem.Spec PySem.Calls PyProof.Rows PySem.Builtin PySem.Builtin.ObjectAttr PySem.Builtin.Getset_descriptor
section
variable {prog:J2}{w:Kt}{A:K7}{E:J0→JY→Prop}{s:JY}{K:Frag}{x C:Kb}
def OfCls(x C:Kb)(h:Mf):Prop:=∃o,h.get? x=some o/\o.cls=.ref C
variable (hga:findIn K (.ref C) "__getattribute__"=some (some (.builtin "BaseException.__getattribute__"))) (hgn:findIn K (.ref C) "__getattr__"=some none) (ha:findIn K (.ref C) "__class__"=some (some (.builtin "object.__class__")))
 (hn:specialIn K (.builtin "object.__class__") "__get__"=some (some (.builtin "getset_descriptor.__get__"))) (Wx:takesIn K (.builtin "object.__class__")=some true) (hm:mroIn K C (.type "object")=some true) (hmB:mroIn K C (.type "BaseException")=some true)
include ha hn Wx hm in
end
structure XcOk(K:Frag)(C:Kb):Prop where
 ga:findIn K (.ref C) "__getattribute__"=some (some (.builtin "BaseException.__getattribute__"))
 gn:findIn K (.ref C) "__getattr__"=some none
 at_:findIn K (.ref C) "__class__"=some (some (.builtin "object.__class__"))
 sp:specialIn K (.builtin "object.__class__") "__get__"=some (some (.builtin "getset_descriptor.__get__"))
 tk:takesIn K (.builtin "object.__class__")=some true
 mo:mroIn K C (.type "object")=some true
 mb:mroIn K C (.type "BaseException")=some true
end PySem.W
namespace L2
open PySem PySem.Spec PyProof.Rows
inductive TyX where
 |nm (n:String) |xc (C:Kb)
inductive U where
 |non |bl (b:Bool) |int (i:Int) |str (x:Str) |ty (n:TyX) |dic |scr (xs:List U) |tup (xs:List U) |lst (xs:List U)
noncomputable def U.items:U->Option (List U)
 | .scr xs=>some xs
 | .tup xs=>some xs
 | .lst xs=>some xs
 |_=>none
noncomputable def hid(H:Hp)(O:List Kb):Hp:=λb=>if b∈O then none else H b
theorem gR(h:hid H O b=some o):H b=some o/\b ∉ O:=by
 unfold hid at h;split at h
 .cases h
 .exact⟨h,by assumption⟩
theorem bS(h:H b=some o)(n:b ∉ O):hid H O b=some o:=by
 unfold hid;rw[if_neg n];exact h
theorem aH:aI (hid H O) H:=λ_ _ h=>(gR h).1
theorem aF(e:aI H H'):aI (hid H O) (hid H' O):=λ_ _ h=>bS (e _ _ (gR h).1) (gR h).2
theorem aW(e:∀a∈O',a∈O):aI (hid H O) (hid H O'):=λ_ _ h=>bS (gR h).1 λz=>(gR h).2 (e _ z)
theorem ba(e:aI H H')(n:H a=none):aI (hid H O) (hid H' (a::O)):=λb o h=>by
 obtain⟨c,d⟩:=gR h;refine bS (e _ _ c) λz=>?_;rcases JN.mp z with y |y
 .subst y;rw[n]at c;cases c
 .exact d y
theorem jC(h:a∈O):hid (upd H a o) O=hid H O:=by
 funext b
 unfold hid;split
 .rfl
 .rename_i n
  rw[aD λe=>n (by rw[e];exact h)]
inductive Rp (K:JI) (H:Hp):V->U->Prop where
 |non:Rp K H .non .non
 |bl (b:Bool):Rp K H (.bl b) (.bl b)
 |int (i:Int):Rp K H (.int i) (.int i)
 |str (x:Str):Rp K H (.str x) (.str x)
 |ty (n:String):Rp K H (.ty n) (.ty (.nm n))
 |dic {a:Kb}{Va:List (Key×V)} (h:H a=some (.dK Va)):Rp K H (.ref a) .dic
 |xc {a C:Kb} (h:H a=some (.ext (PySem.W.OfCls a C))) (k:PySem.W.XcOk K C):Rp K H (.ref a) (.ty (.xc C))
 |scr {a:Kb}{vs:List V}{xs:List U} (h:SqL K H a vs) (hl:vs.length=xs.length) (hi:∀(i:Nat) (v:V) (x:U),vs[i]?=some v->xs[i]?=some x->Rp K H v x):Rp K H (.ref a) (.scr xs)
 |tup {a:Kb}{vs:List V}{xs:List U} (h:SqT K H a vs) (hl:vs.length=xs.length) (hi:∀(i:Nat) (v:V) (x:U),vs[i]?=some v->xs[i]?=some x->Rp K H v x):Rp K H (.ref a) (.tup xs)
 |lst {a:Kb}{vs:List V}{xs:List U} (h:H a=some (.lst vs)) (hl:vs.length=xs.length) (hi:∀(i:Nat) (v:V) (x:U),vs[i]?=some v->xs[i]?=some x->Rp K H v x):Rp K H (.ref a) (.lst xs)
theorem Rp.same{K:JI}(e:aI H H')(h:Rp K H v u):Rp K H' v u:=by
 induction h with
 |non=>exact .non
 |bl b=>exact .bl b
 |int i=>exact .int i
 |str x=>exact .str x
 |ty n=>exact .ty n
 |dic h=>exact .dic (e _ _ h)
 |xc h k=>exact .xc (e _ _ h) k
 |scr h a d c=>exact .scr (e.seq h) a c
 |tup h a d c=>exact .tup (e.tup h) a c
 |lst h a d c=>exact .lst (e _ _ h) a c
structure Rps(K:JI)(H:Hp)(vs:List V)(xs:List U):Prop where
 len:vs.length=xs.length
 at_:∀(i:Nat) (v:V) (x:U),vs[i]?=some v->xs[i]?=some x->Rp K H v x
theorem Rps.same{K:JI}(e:aI H H')(h:Rps K H vs xs):Rps K H' vs xs:=⟨h.len,λi v x a b=>(h.at_ i v x a b).same e⟩
theorem Rps.nil{K:JI}:Rps K H [] []:=⟨rfl,λi v x h=>by simp at h⟩
theorem Rps.cons{K:JI}{H:Hp}{v:V}{x:U}{vs:List V}{xs:List U}(h:Rp K H v x)(t:Rps K H vs xs):Rps K H (v::vs) (x::xs):=by
 refine⟨by simp[t.len],λi a b c d=>?_⟩;cases i with
 |zero=>simp at c d;subst c;subst d;exact h
 |succ i=>exact t.at_ i a b (by simpa using c) (by simpa using d)
theorem Rps.snoc{K:JI}(h:Rps K H vs xs)(t:Rps K H ws ys):Rps K H (vs++ws) (xs++ys):=by
 refine⟨by simp[h.len,t.len],λi a b c d=>?_⟩;by_cases e:i<vs.length
 .rw[JZ e]at c;rw[JZ (by rw[<-h.len];exact e)]at d
  exact h.at_ i a b c d
 .have f:=OW e;rw[J3 f]at c;rw[J3 (by rw[<-h.len];exact f),<-h.len]at d
  exact t.at_ _ a b c d
theorem Rps.get{K:JI}{i:Nat}(h:Rps K H vs xs)(e:xs[i]?=some x):∃v,vs[i]?=some v/\Rp K H v x:=by
 have a:i<vs.length:=by rw[h.len];exact (JV.mp e).1
 exact⟨vs[i],JG a,h.at_ i _ x (JG a) e⟩
theorem Rps.atI{K:JI}(h:Rps K H vs xs)(e:L2.atI xs i=some x):∃v,L2.atI vs i=some v/\Rp K H v x:=by
 unfold L2.atI at e |-;rw[h.len];cases q:ixN xs.length i with
 |none=>rw[q]at e;cases e
 |some j=>
  rw[q]at e;obtain⟨v,a,b⟩:=h.get e;exact⟨v,a,b⟩
theorem Rps.cons_inv{K:JI}(h:Rps K H vs (x::xs)):∃v c,vs=v::c/\Rp K H v x/\Rps K H c xs:=by
 cases vs with
 |nil=>have:=h.len;simp at this
 |cons v c=>
  refine⟨v,c,rfl,h.at_ 0 v x rfl rfl,by have:=h.len;simpa using this,λi a b d e=>h.at_ (i+1) a b (by simpa using d) (by simpa using e)⟩
theorem Rps.nil_inv{K:JI}(h:Rps K H vs []):vs=[]:=LB.mp (by rw[h.len];rfl)
structure DkR(K:JI)(H:Hp)(kv:List (Key×V))(Va:List (Str×U)):Prop where
 len:kv.length=Va.length
 at_:∀(i:Nat) (k:Key) (v:V) (x:Str) (u:U),kv[i]?=some (k,v)->Va[i]?=some (x,u)->k=.inr x/\Rp K H v u
theorem DkR.same{K:JI}(e:aI H H')(h:DkR K H kv Va):DkR K H' kv Va:=⟨h.len,λi k v x u a b=>⟨(h.at_ i k v x u a b).1,(h.at_ i k v x u a b).2.same e⟩⟩
inductive Sl where
 |val (u:U) |own (xs:List U) |pin (w:V) (u:U) |dsk (w:Bool) (C a d:Kb) (Va:List (Str×U))
noncomputable abbrev PSt:=List (Option Sl)
noncomputable def D_(K:JI)(H:Hp)(O e:List Kb)(v:V):Sl->Prop
 | .val u=>Rp K (hid H O) v u
 | .own xs=>∃a b,v=.ref a/\a∈O/\a ∉ e/\H a=some (.lst b)/\Rps K (hid H O) b xs
 | .pin w u=>v=w/\Rp K (hid H O) v u
 | .dsk w C a d g=>∃f c,v=.ref a∧d∈O∧(w=true→d ∉ e)∧H a=some (.ins C f [("lands",.ref d)])∧H d=some (.dK c)∧DkR K (hid H O) c g
structure Rs(K:JI)(H0:Hp)(O0:List Kb)(ps:PSt)(σ:St)(H:Hp)(O:List Kb):Prop where
 same:aI H0 H
 old:∀a∈O0,a∈O
 new:∀a∈O,a∈O0\/H0 a=none
 dom:∀a∈O,H a≠none
 len:σ.length=ps.length
 at_:∀(i:Nat) (s:Sl),ps[i]?=some (some s)->∃v,σ[i]?=some (some v)/\D_ K H O O0 v s
 inj:∀(i j:Nat) (xs ys:List U) (a:Kb),ps[i]?=some (some (.own xs))->ps[j]?=some (some (.own ys))->σ[i]?=some (some (.ref a))->σ[j]?=some (some (.ref a))->i=j
section
variable {K:JI}{H0 H H':Hp}{O0 O:List Kb}{ps:PSt}{σ:St}
theorem D_.same(e:aI H H')(h:D_ K H O O0 v s):D_ K H' O O0 v s:=by
 cases s with
 |val u=>exact Rp.same (aF e) h
 |own n=>obtain⟨a,j,c,g,b,f,i⟩:=h;exact⟨a,j,c,g,b,e _ _ f,i.same (aF e)⟩
 |pin w u=>exact⟨h.1,Rp.same (aF e) h.2⟩
 |dsk w C a d o=>obtain⟨l,k,c,g,b,f,i,m⟩:=h;exact⟨l,k,c,g,b,e _ _ f,e _ _ i,m.same (aF e)⟩
theorem Rs.go(R:Rs K H0 O0 ps σ H O)(e:aI H H'):Rs K H0 O0 ps σ H' O:=
 ⟨R.same.trans e,R.old,R.new,λa b z=>R.dom a b (e.free z),R.len,λi s h=>let ⟨v,h1,h2⟩:=R.at_ i s h;⟨v,h1,h2.same e⟩,R.inj⟩
theorem bK{α:Type}{xs:List α}{y x:α}(h:(xs.set i y)[j]?=some x):(i=j/\x=y)\/(i≠j/\xs[j]?=some x):=by
 by_cases e:i=j
 .subst e;rw[P_]at h;simp at h;exact .inl ⟨rfl,h.2.symm⟩
 .rw[Ki e]at h;exact .inr ⟨e,h⟩
theorem gi{α:Type}{xs:List α}{y:α}(h:i<xs.length):(xs.set i y)[i]?=some y:=by rw[P_];simp[h]
theorem aT{α:Type}{xs:List α}{y:α}(h:xs[i]?=some y):i<xs.length:=(JV.mp h).1
theorem md(h:(ps.set i (some (.val u)))[j]?=some (some (.own xs))):i≠j/\ps[j]?=some (some (.own xs)):=by
 rcases bK h with ⟨_,e⟩ |h
 .cases e
 .exact h
theorem Rs.set(R:Rs K H0 O0 ps σ H O)(r:Rp K (hid H O) v u):Rs K H0 O0 (ps.set i (some (.val u))) (σ.set i (some v)) H O:=by
 refine⟨R.same,R.old,R.new,R.dom,by simp[R.len],λj s h=>?_,λj k t x a b c d g=>?_⟩
 .rcases bK h with ⟨e,q⟩ |⟨n,q⟩
  .subst e;cases q;have f:=aT h;rw[NL]at f;exact⟨v,gi (by rw[R.len];exact f),r⟩
  .obtain⟨w,b,c⟩:=R.at_ j s q;exact⟨w,by rw[Ki n];exact b,c⟩
 .obtain⟨l,m⟩:=md b;obtain⟨p,o⟩:=md c;rw[Ki l]at d;rw[Ki p]at g;exact R.inj j k t x a m o d g
theorem Rs.drop(R:Rs K H0 O0 ps σ H O):Rs K H0 O0 (ps.set i none) (σ.set i o) H O:=by
 have b:∀{j}{s},(ps.set i none)[j]?=some (some s)->i≠j/\ps[j]?=some (some s):=λ{j s} h=>by
  rcases bK h with ⟨_,e⟩ |h
  .cases e
  .exact h
 refine⟨R.same,R.old,R.new,R.dom,by simp[R.len],λj s h=>?_,λj k t u a c d f g=>?_⟩
 .obtain⟨n,q⟩:=b h;obtain⟨w,c,d⟩:=R.at_ j s q;exact⟨w,by rw[Ki n];exact c,d⟩
 .obtain⟨l,m⟩:=b c;obtain⟨r,p⟩:=b d;rw[Ki l]at f;rw[Ki r]at g;exact R.inj j k t u a m p f g
theorem Rs.own(R:Rs K H0 O0 ps σ H O)(e:aI H H')(n:H a=none)(h:H' a=some (.lst vs))(r:Rps K (hid H' (a::O)) vs xs):
  Rs K H0 O0 (ps.set i (some (.own xs))) (σ.set i (some (.ref a))) H' (a::O):=by
 have P:a ∉ O:=λz=>R.dom a z n;have A:a ∉ O0:=λz=>P (R.old a z);have U:=R.same.free n
 have N:∀(j:Nat) m,ps[j]?=some (some (.own m))->σ[j]?≠some (some (.ref a)):=λj m p g=>by
  obtain⟨v,c,b,L,f,V,_⟩:=R.at_ j _ p;rw[g]at c;cases c;cases f;exact P V
 refine⟨R.same.trans e,λb o=>JL _ (R.old b o),λb o=>?_,λb o z=>?_,by simp[R.len],λj s q=>?_,λj k m I b p g c f=>?_⟩
 .rcases JN.mp o with y |y
  .subst y;exact .inr U
  .exact R.new b y
 .rcases JN.mp o with y |y
  .subst y;rw[h]at z;cases z
  .exact R.dom b y (e.free z)
 .rcases bK q with ⟨Y,D⟩ |⟨W,D⟩
  .subst Y;cases D;have l:=aT q;rw[NL]at l;exact⟨.ref a,gi (by rw[R.len];exact l),a,vs,rfl,JP,A,h,r⟩
  .obtain⟨w,p,g⟩:=R.at_ j s D;refine⟨w,by rw[Ki W];exact p,?_⟩;cases s with
   |val u=>exact Rp.same (ba e n) g
   |own m=>
    obtain⟨b,L,k1,G,x,t,B⟩:=g;exact⟨b,L,k1,JL _ G,x,e _ _ t,B.same (ba e n)⟩
   |pin z u=>exact⟨g.1,Rp.same (ba e n) g.2⟩
   |dsk w C b d Va=>obtain⟨X,T,k1,G,x,t,B,Z⟩:=g;exact⟨X,T,k1,JL _ G,x,e _ _ t,e _ _ B,Z.same (ba e n)⟩
 .rcases bK p with ⟨S,E⟩ |⟨J,E⟩ <;>rcases bK g with ⟨M,F⟩ |⟨Q,F⟩
  .rw[<-S,<-M]
  .subst S;have l:=aT c;rw[NL]at l;rw[gi l]at c;cases c;rw[Ki Q]at f;exact absurd f (N k I F)
  .subst M;have l:=aT f;rw[NL]at l;rw[gi l]at f;cases f;rw[Ki J]at c;exact absurd c (N j m E)
  .rw[Ki J]at c;rw[Ki Q]at f;exact R.inj j k m I b E F c f
theorem Rs.write(R:Rs K H0 O0 ps σ H O)(m:ps[i]?=some (some (.own xs)))(hs:σ[i]?=some (some (.ref a)))(r:Rps K (hid H O) vs ys):
  Rs K H0 O0 (ps.set i (some (.own ys))) σ (upd H a (.lst vs)) O:=by
 obtain⟨v,B,b,X,W,o,G,E,Y⟩:=R.at_ i _ m;rw[hs]at B;cases B;cases W;have N:=(R.new a o).resolve_left G;have f:hid (upd H a (.lst vs)) O=hid H O:=jC o;refine⟨R.same.put N _,R.old,R.new,λb I z=>?_,by simp[R.len],λj s q=>?_,λj k D F b U V M P=>?_⟩
 .by_cases e:b=a
  .subst e;rw[aG]at z;cases z
  .rw[aD e]at z;exact R.dom b I z
 .rcases bK q with ⟨T,n⟩ |⟨Q,n⟩
  .subst T;cases n;exact⟨.ref a,hs,a,vs,rfl,o,G,aG,by rw[f];exact r⟩
  .obtain⟨w,k1,h⟩:=R.at_ j s n;refine⟨w,k1,?_⟩;cases s with
   |val u=>exact (show Rp K (hid (upd H a (.lst vs)) O) w u by rw[f];exact h)
   |own D=>
    obtain⟨b,F,A,t,y,g,l⟩:=h;subst A;have:b≠a:=λz=>by subst z;exact Q (R.inj i j xs D b m n hs k1)
    exact⟨b,F,rfl,t,y,by rw[aD this];exact g,by rw[f];exact l⟩
   |pin z u=>exact⟨h.1,by rw[f];exact h.2⟩
   |dsk w C b d Z=>
    obtain⟨S,J,A,t,y,g,l,L⟩:=h;exact⟨S,J,A,t,y,by rw[aD λz=>by rw[z,E]at g;cases g];exact g,by rw[aD λz=>by rw[z,E]at l;cases l];exact l,by rw[f];exact L⟩
 .have x:∃c,ps[j]?=some (some (.own c)):=by
   rcases bK U with ⟨e,_⟩ |⟨_,z⟩
   .subst e;exact⟨_,m⟩
   .exact⟨_,z⟩
  have p:∃c,ps[k]?=some (some (.own c)):=by
   rcases bK V with ⟨e,_⟩ |⟨_,z⟩
   .subst e;exact⟨_,m⟩
   .exact⟨_,z⟩
  obtain⟨_,x⟩:=x;obtain⟨_,p⟩:=p;exact R.inj j k _ _ b x p M P
noncomputable def SubP:PSt->PSt->Prop
 |[],[]=>True
 |none::p,_::q=>SubP p q
 |some s::p,t::q=>t=some s/\SubP p q
 |_,_=>False
theorem SubP.at_:∀{p q},SubP p q->p.length=q.length/\∀(i:Nat) s,p[i]?=some (some s)->q[i]?=some (some s)
 |[],[],_=>⟨rfl,λi s h=>by simp at h⟩
 |none::p,t::q,h=>by
  obtain⟨a,b⟩:=SubP.at_ (q:=q) h;refine⟨by simp[a],λi s e=>?_⟩;cases i with
  |zero=>simp at e
  |succ i=>exact b i s (by simpa using e)
 |some s0::p,t::q,h=>by
  obtain⟨c,h⟩:=h;obtain⟨a,b⟩:=SubP.at_ h;refine⟨by simp[a],λi s e=>?_⟩;cases i with
  |zero=>simp at e;subst e;rw[c];rfl
  |succ i=>exact b i s (by simpa using e)
 |[],_::_,h=>h.elim
 |none::_,[],h=>h.elim
 |some _::_,[],h=>h.elim
theorem Rs.sub(R:Rs K H0 O0 ps σ H O)(h:SubP Vw ps):Rs K H0 O0 Vw σ H O:=by
 obtain⟨d,b⟩:=h.at_;exact⟨R.same,R.old,R.new,R.dom,R.len.trans d.symm,λi s e=>R.at_ i s (b i s e),λi j c f a g k=>R.inj i j c f a (b _ _ g) (b _ _ k)⟩
end
def Ev(X:Cx)(c:Hp)(f:List Kb)(b:PSt)(e:Expr)(u:U):Prop:=
 PE X e λd H Q=>∃O,Rs X.K c f b d H O/\∀v a,aI H a->Rp X.K (hid a O) v u->Q v a
def EvN(X:Cx)(f:Hp)(h:List Kb)(d:PSt)(e:Expr)(xs:List U):Prop:=
 PE X e λg H Q=>∃O,Rs X.K f h d g H O/\∀a c b,aI H b->H a=none->b a=some (.lst c)->Rps X.K (hid b (a::O)) c xs->Q (.ref a) b
def Tt(X:Cx)(d:Hp)(g:List Kb)(c:PSt)(e:Expr)(b:Bool):Prop:=
 PT X e λf H Q=>∃O,Rs X.K d g c f H O/\∀a,aI H a->Q b a
def Tw(X:Cx)(d:Hp)(g:List Kb)(c:PSt)(e:Expr)(b:Bool):Prop:=
 PW X e λf H Q=>∃O,Rs X.K d g c f H O/\∀a,aI H a->Q b a
def EvA(X:Cx)(d:Hp)(g:List Kb)(c:PSt)(h:List Expr)(f:List U):Prop:=
 PA X h λe H Q=>∃O,Rs X.K d g c e H O/\∀b a,aI H a->Rps X.K (hid a O) b f->Q b a
theorem PE.mono(h:PE X e t)(m:∀a H Q,t' a H Q->t a H Q):PE X e t':=λb s a H Q I q=>h b s a H Q I (m a H Q q)
theorem PT.mono(h:PT X e t)(m:∀a H Q,t' a H Q->t a H Q):PT X e t':=λb s a H Q I q=>h b s a H Q I (m a H Q q)
theorem PW.mono(h:PW X e t)(m:∀a H Q,t' a H Q->t a H Q):PW X e t':=λc b s a H Q I q=>h c b s a H Q I (m a H Q q)
theorem PA.mono(h:PA X e t)(m:∀a H Q,t' a H Q->t a H Q):PA X e t':=λb c s a H Q I q=>h b c s a H Q I (m a H Q q)
theorem PS.mono(h:PS X e t)(m:∀D a H,t' D a H->t D a H):PS X e t':=λb s a H D I q=>h b s a H D I (m D a H q)
theorem PSs.mono(h:PSs X e t)(m:∀D a H,t' D a H->t D a H):PSs X e t':=λb s a H D I q=>h b s a H D I (m D a H q)
variable {es:List Expr}
section
variable {X:Cx}{H0:Hp}{O0:List Kb}{ps:PSt}{a b c e:Expr}{pos p:Pos}{u x y:U}{xs ys us:List U}{i j:Int}
theorem EvN.ev(h:EvN X H0 O0 ps e xs):Ev X H0 O0 ps e (.lst xs):=PE.mono h λi H Q ⟨O,R,k⟩=>⟨O,R,λa j d s n h r=>by
 have g:a ∉ O:=λz=>R.dom a z n;have c:aI (hid d (a::O)) (hid d O):=aW λb f=>JL _ f;exact k _ d s (.lst (bS h g) (r.same c).len (r.same c).at_)⟩
theorem aa(i:Nat){x:Str}(h:ps[i]?=some (some (.val u)))(a:X.N[i]?=some x:=by rfl)(b:Vis X.env.scope x:=by first |exact Or.inl rfl |exact Or.inr (Or.inl rfl) |exact Or.inr (Or.inr rfl))(e:(x==("__debug__":Str))=false:=by decide)
  (VD:(x==("__classdict__":Str))=false:=by decide):Ev X H0 O0 ps (.Name x pos) u:=PE.mono (d9 a b e VD) λf H Q ⟨O,R,k⟩=>by
 obtain⟨v,c,d⟩:=R.at_ i _ h;exact⟨v,c,k v H (.refl H) d⟩
theorem ah{i j pos}:Ev X H0 O0 ps (.Constant (.int i) j pos) (.int i):=PE.mono FN λ_ H _ ⟨_,_,k⟩=>k _ H (.refl H) (.int i)
theorem Gu{i j pos}:Ev X H0 O0 ps (.Constant (.bool i) j pos) (.bl i):=PE.mono ID λ_ H _ ⟨_,_,k⟩=>k _ H (.refl H) (.bl i)
theorem wc{j pos}:Ev X H0 O0 ps (.Constant .none j pos) .non:=PE.mono G9 λ_ H _ ⟨_,_,k⟩=>k _ H (.refl H) .non
theorem aE{i j pos}:Ev X H0 O0 ps (.Constant (.str i) j pos) (.str i):=PE.mono GV λ_ H _ ⟨_,_,k⟩=>k _ H (.refl H) (.str i)
theorem yk{x:Str}(d:Gl X x)(b:X.mg x=none)(a:L_ x=some (.type n))(c:x≠"__name__":=by decide)(e:(x==("__debug__":Str))=false:=by decide):Ev X H0 O0 ps (.Name x pos) (.ty (.nm n)):=
 PE.mono (HF d b a c e) λ_ H _ ⟨_,_,k⟩=>k _ H (.refl H) (.ty n)
theorem two(R:Rs X.K H0 O0 ps σ H O)
  (ha:∀σ H Q,(∃O,Rs X.K H0 O0 ps σ H O/\∀v a,aI H a->Rp X.K (hid a O) v x->Q v a)->ta σ H Q) (hb:∀σ H Q,(∃O,Rs X.K H0 O0 ps σ H O/\∀v a,aI H a->Rp X.K (hid a O) v y->Q v a)->tb σ H Q)
  (h:∀v w a,aI H a->Rs X.K H0 O0 ps σ a O->Rp X.K (hid a O) v x->Rp X.K (hid a O) w y->r v w a Q):tOp r ta tb σ H Q:=
 ha σ H _ ⟨O,R,λv g c d=>hb σ g _ ⟨O,R.go c,λw f b e=>h v w f (c.trans b) (R.go (c.trans b)) (d.same (aF b)) e⟩⟩
theorem EF{g:Int->Int->Int}(e:OpR X (N7 op) (rI0 λi j=>.int (g i j)))(l:Ev X H0 O0 ps a (.int i))(c:Ev X H0 O0 ps b (.int j)):Ev X H0 O0 ps (.BinOp a op b pos) (.int (g i j)):=
 PE.mono (si e l c) λm H Q ⟨O,R,k⟩=>two R (λ_ _ _ z=>z) (λ_ _ _ z=>z) λv w h s _ d f=>by
  cases d;cases f;exact⟨i,j,rfl,rfl,k _ h s (.int _)⟩
theorem qK{g:Int->Int->Int}(e:OpR X (N7 op) (rI C λi j=>.int (g i j)))(l:Ev X H0 O0 ps a (.int i))(c:Ev X H0 O0 ps b (.int j))(m:C i j):Ev X H0 O0 ps (.BinOp a op b pos) (.int (g i j)):=
 PE.mono (si e l c) λn H Q ⟨O,R,k⟩=>two R (λ_ _ _ z=>z) (λ_ _ _ z=>z) λv w h s _ d f=>by
  cases d;cases f;exact⟨i,j,rfl,rfl,m,k _ h s (.int _)⟩
theorem bT(d:Ev X H0 O0 ps a (.int i))(c:Ev X H0 O0 ps b (.int j)):Ev X H0 O0 ps (.BinOp a .Add b pos) (.int (i+j)):=EF Fx d c
theorem bp(d:Ev X H0 O0 ps a (.int i))(c:Ev X H0 O0 ps b (.int j)):Ev X H0 O0 ps (.BinOp a .Sub b pos) (.int (i-j)):=EF Ge d c
theorem aV(e:Ev X H0 O0 ps a (.int i))(d:Ev X H0 O0 ps b (.int j))(c:IntMulOk i j):Ev X H0 O0 ps (.BinOp a .Mult b pos) (.int (i*j)):=qK Dp e d c
theorem ir(e:Ev X H0 O0 ps a (.int i))(d:Ev X H0 O0 ps b (.int j))(c:E_ i j):Ev X H0 O0 ps (.BinOp a .FloorDiv b pos) (.int (i/j)):=qK Bg e d c
theorem Gc(e:Ev X H0 O0 ps a (.int i))(d:Ev X H0 O0 ps b (.int j))(c:E3 i j):Ev X H0 O0 ps (.BinOp a .FloorDiv b pos) (.int (i.fdiv j)):=qK BU e d c
theorem dB(e:Ev X H0 O0 ps a (.int i))(d:Ev X H0 O0 ps b (.int j))(c:0<j):Ev X H0 O0 ps (.BinOp a .Mod b pos) (.int (i%j)):=qK FE e d c
theorem iT(e:Ev X H0 O0 ps a (.int i))(d:Ev X H0 O0 ps b (.int j))(c:HE i j):Ev X H0 O0 ps (.BinOp a .Pow b pos) (.int (i ^ j.toNat)):=qK GM e d c
theorem bU(c:Ev X H0 O0 ps a (.int i)):Ev X H0 O0 ps (.UnaryOp .USub a pos) (.int (-i)):=
 PE.mono (HY FI c) λd H Q ⟨O,R,k⟩=>⟨O,R,λv b s r=>by cases r;exact⟨i,rfl,k _ b s (.int _)⟩⟩
end
mutual
def eqW:U->U->Bool
 | .non,.non=>true
 | .bl a,.bl b=>a==b
 | .bl a,.int j=>(if a then 1 else 0)==j
 | .int i,.bl b=>i==(if b then 1 else 0)
 | .int i,.int j=>i==j
 | .str a,.str b=>a==b
 | .tup xs,.tup c=>eqWs xs c
 | .lst xs,.lst c=>eqWs xs c
 | .lst xs,.scr c=>eqWs xs c
 | .scr xs,.lst c=>eqWs xs c
 | .scr xs,.scr c=>eqWs xs c
 |_,_=>false
def eqWs:List U->List U->Bool
 |[],[]=>true
 |x::xs,y::ys=>eqW x y && eqWs xs ys
 |_,_=>false
end
mutual
def okU:Nat->U->Bool
 |_,.ty _=>false
 |_,.dic=>false
 |0,.tup _=>false
 |0,.lst _=>false
 |0,.scr _=>false
 |n+1,.tup a=>okUs n a
 |n+1,.lst a=>okUs n a
 |n+1,.scr a=>okUs n a
 |_,_=>true
def okUs:Nat->List U->Bool
 |_,[]=>true
 |n,x::xs=>okU n x && okUs n xs
end
theorem jf:∀{n}{a}{i:Nat}{x},okUs n a=true->a[i]?=some x->okU n x=true
 |n,[],i,x,_,h=>by simp at h
 |n,y::a,0,x,h,e=>by simp at e;subst e;simp[okUs]at h;exact h.1
 |n,y::a,i+1,x,h,e=>by simp[okUs]at h;exact jf h.2 (by simpa using e)
theorem dl:∀a b,((Kr (min a.length b.length)).all (λj=>eqW (a.getD j .non) (b.getD j .non)) && a.length==b.length)=eqWs a b
 |[],[]=>rfl
 |[],y::b=>by simp[eqWs]
 |x::a,[]=>by simp[eqWs]
 |x::a,y::b=>by
  have ih:=dl a b;rw[eqWs,<-ih];simp only[JX,Nat.succ_min_succ];rw[List.range_succ_eq_map,Pb,Um];have e:((a.length+1==b.length+1))=(a.length==b.length):=by simp
  rw[e,Bool.and_assoc];rfl
theorem IsU.list(I:Inv X U8 σ H s){xs:List U}(h:SqL X.K H a vs)(d:vs.length=xs.length):∃b,aP vs b/\s.heap.IsList a b.toArray/\b.length=xs.length:=by
 obtain⟨b,r,c,_⟩:=I.list h;exact⟨b,r,c.isList,by rw[<-r.length,d]⟩
theorem IsU.tup{X:Cx}{d:List (Kb×Obj)}{c:St}{H:Hp}{s:JY}(I:Inv X d c H s){a:Kb}{xs:List U}{vs:List V}(h:SqT X.K H a vs)(f:vs.length=xs.length):∃b,aP vs b/\UH s.heap a b.toArray/\b.length=xs.length:=by
 obtain⟨b,r,e,_⟩:=I.tuple h;exact⟨b,r,e,by rw[<-r.length,f]⟩
section
variable {X:Cx}{U8:List (Kb×Obj)}{σ:St}{H:Hp}{s:JY}
inductive Shp (X:Cx) (H:Hp) (s:JY):Nat->J0->U->Prop
 |non {n:Nat}:Shp X H s n .none .non
 |bl {n:Nat} (b:Bool):Shp X H s n (.bool b) (.bl b)
 |int {n:Nat} (i:Int) (t:Tok):Shp X H s n (.int i t) (.int i)
 |str {n:Nat} (x:Str) (t:Tok):Shp X H s n (.str x t) (.str x)
 |scr {n:Nat}{a:Kb}{vs:List V}{xs:List U}{Vb:List J0} (hq:SqL X.K H a vs) (r:aP vs Vb) (pl:s.heap.IsList a Vb.toArray) (l:Vb.length=xs.length) (hl:vs.length=xs.length) (hi:∀(i:Nat) (v:V) (x:U),vs[i]?=some v->xs[i]?=some x->Rp X.K H v x) (o:okUs n xs=true):Shp X H s (n+1) (.ref a) (.scr xs)
 |lst {n:Nat}{a:Kb}{vs:List V}{xs:List U}{Vb:List J0} (hq:SqL X.K H a vs) (r:aP vs Vb) (pl:s.heap.IsList a Vb.toArray) (l:Vb.length=xs.length) (hl:vs.length=xs.length) (hi:∀(i:Nat) (v:V) (x:U),vs[i]?=some v->xs[i]?=some x->Rp X.K H v x) (o:okUs n xs=true):Shp X H s (n+1) (.ref a) (.lst xs)
 |tup {n:Nat}{a:Kb}{vs:List V}{xs:List U}{Vb:List J0} (hq:SqT X.K H a vs) (r:aP vs Vb) (pl:UH s.heap a Vb.toArray) (l:Vb.length=xs.length) (hl:vs.length=xs.length) (hi:∀(i:Nat) (v:V) (x:U),vs[i]?=some v->xs[i]?=some x->Rp X.K H v x) (o:okUs n xs=true):Shp X H s (n+1) (.ref a) (.tup xs)
theorem Rp.shp(I:Inv X U8 σ H s)(R:Rp X.K H v x)(q:aM v p)(o:okU n x=true):Shp X H s n p x:=by
 cases R with
 |non=>cases q;exact .non
 |bl b=>cases q;exact .bl b
 |int i=>obtain⟨t,rfl⟩:=q;exact .int i t
 |str i=>obtain⟨t,rfl⟩:=q;exact .str i t
 |scr a c d |lst a c d |tup a c d=>
  cases q;cases n with
  |zero=>simp[okU]at o
  |succ n=>
   first
    | (obtain⟨f,r,e,l⟩:=IsU.list I a c;exact .scr a r e l c d o)
    | (obtain⟨f,r,e,l⟩:=IsU.list I (SqL.of a) c;exact .lst (SqL.of a) r e l c d o)
    | (obtain⟨f,r,e,l⟩:=IsU.tup I a c;exact .tup a r e l c d o)
 |_=>cases n <;>simp[okU]at o
theorem Ey(h:xs.length=ys.length)(c:∀(i:Nat) x y,xs[i]?=some x->ys[i]?=some y->eqW x y=true):eqWs xs ys=true:=by
 rw[<-dl,K3,n9];refine⟨λj d=>?_,by simp[h]⟩;have a:j<xs.length:=by lia
 have b:j<ys.length:=by lia
 rw[JW,JG a,JW,JG b];exact c j _ _ (JG a) (JG b)
theorem Rp.one(I:Inv X U8 σ H s):∀n {v}{x y}{p},Rp X.K H v x->Rp X.K H v y->aM v p->okU n x=true->okU n y=true->eqW x y=true:=by
 intro n
 induction n with
 |zero=>
  intro v x y p z R2 q m o;rcases z.shp I q m with _ |b |⟨i,t⟩ |⟨c,t⟩ <;>cases R2.shp I q o <;>simp[eqW]
 |succ n D=>
  intro v x y p z R2 q m o
  rcases z.shp I q m with _ |b |⟨i,t⟩ |⟨c,t⟩ |⟨a,k,e,l1,f,r,k1⟩ |⟨a,k,e,l1,f,r,k1⟩ |⟨a,k,e,l1,f,r,k1⟩ <;>rcases R2.shp I q o with _ |b |⟨i,t⟩ |⟨c,t⟩ |⟨g,B,d,l2,l,j,w⟩ |⟨g,B,d,l2,l,j,w⟩ |⟨g,B,d,l2,l,j,w⟩ <;>(try (simp[eqW];done)) <;>
   first
    |exact absurd rfl (SeqAt.ne_of_list_tuple e d)
    |exact absurd rfl (SeqAt.ne_of_list_tuple d e)
    | (rw[eqW]
       first |cases I.list_inj a g |cases I.tuple_inj a g
       refine Ey (f.symm.trans l) λi x y A C=>?_;have h:=f ▸ aT A;obtain⟨u,_,q⟩:=k.get (JG h);exact D (r i _ x (JG h) A) (j i _ y (JG h) C) q (jf k1 A) (jf w C))
theorem cG(I:Inv X U8 σ H s)(k:aP vs Vb)(l:aP ws Vx)(P:vs.length=xs.length)(O:ws.length=ys.length)
  (h1:∀(i:Nat) v x,vs[i]?=some v->xs[i]?=some x->Rp X.K H v x) (h2:∀(i:Nat) v x,ws[i]?=some v->ys[i]?=some x->Rp X.K H v x) (ok1:okUs n xs=true) (ok2:okUs n ys=true) {A:K7}
  (W9:∀x y v w p q,Rp X.K H v x->Rp X.K H w y->aM v p->aM w q->okU n x=true->okU n y=true->SeqAt.RcAt A.in1 s p q (eqW x y)) (hu:A.units+n+1<MA)
  (j) (j1:j<Vb.length) (j2:j<Vx.length):SeqAt.EqAt A.in1 s Vb[j] Vx[j] (eqW (xs.getD j .non) (ys.getD j .non)):=by
 have F:j<vs.length:=by rw[k.length];exact j1
 have G:j<ws.length:=by rw[l.length];exact j2
 have D:j<xs.length:=by lia
 have z:j<ys.length:=by lia
 rw[JW,JG D,JW,JG z,Nu,Nu];have E:=h1 j vs[j] xs[j] (JG F) (JG D);have R2:=h2 j ws[j] ys[j] (JG G) (JG z);obtain⟨Q,J,r⟩:=k.get (JG F);obtain⟨N,o,C⟩:=l.get (JG G);rw[JG j1]at J;rw[JG j2]at o;cases J;cases o;have u:=jf ok1 (JG D);have B:=jf ok2 (JG z);generalize vs[j]=v at *;generalize ws[j]=w at *;generalize Vb[j]=p at *;generalize Vx[j]=q at *;generalize xs[j]=x at *;generalize ys[j]=y at *;have m:=W9 x y v w p q E R2 r C u B
 have h:∀a b,p=.ref a->q=.ref b->SeqAt.EqAt A.in1 s p q (eqW x y):=λa b M L=>by
  subst M L;by_cases e:a=b
  .subst e;have o:=r.inj C;subst o;rw[Rp.one I n E R2 r u B];exact SeqAt.EqAt.same _
  .exact SeqAt.EqAt.of_refs e m
 have d:A.in1.units<MA:=by show A.units+1<_;lia
 rcases E.shp I r u with _ |b |⟨i,t⟩ |⟨c,t⟩ |⟨_,k,g⟩ |⟨_,k,g⟩ |⟨_,k,g⟩ <;>rcases R2.shp I C B with _ |b |⟨i,t⟩ |⟨c,t⟩ |⟨_,l,f⟩ |⟨_,l,f⟩ |⟨_,l,f⟩
 exact SeqAt.EqAt.same _;exact SeqAt.EqAt.none_bool _;exact SeqAt.EqAt.none_int _ _;exact SeqAt.EqAt.none_str _ _;exact SeqAt.EqAt.none_list f d;exact SeqAt.EqAt.none_list f d;exact SeqAt.EqAt.none_tuple f d;exact SeqAt.EqAt.bool_none _;exact SeqAt.EqAt.bool_bool _ _;exact SeqAt.EqAt.bool_int _ _ _;exact SeqAt.EqAt.bool_str _ _ _;exact SeqAt.EqAt.bool_list _ f d;exact SeqAt.EqAt.bool_list _ f d;exact SeqAt.EqAt.bool_tuple _ f d;exact SeqAt.EqAt.int_none _ _;exact SeqAt.EqAt.int_bool _ _ _;exact SeqAt.EqAt.int_int _ _ _ _;exact SeqAt.EqAt.int_str _ _ _ _;exact SeqAt.EqAt.int_list _ _ f d;exact SeqAt.EqAt.int_list _ _ f d;exact SeqAt.EqAt.int_tuple _ _ f d;exact SeqAt.EqAt.str_none _ _;exact SeqAt.EqAt.str_bool _ _ _;exact SeqAt.EqAt.str_int _ _ _ _;exact SeqAt.EqAt.str_str _ _ _ _;exact SeqAt.EqAt.str_list _ _ f d;exact SeqAt.EqAt.str_list _ _ f d;exact SeqAt.EqAt.str_tuple _ _ f d;exact SeqAt.EqAt.list_none g d;exact SeqAt.EqAt.list_bool _ g d;exact SeqAt.EqAt.list_int _ _ g d;exact SeqAt.EqAt.list_str _ _ g d;exact h _ _ rfl rfl;exact h _ _ rfl rfl;exact h _ _ rfl rfl;exact SeqAt.EqAt.list_none g d;exact SeqAt.EqAt.list_bool _ g d;exact SeqAt.EqAt.list_int _ _ g d;exact SeqAt.EqAt.list_str _ _ g d;exact h _ _ rfl rfl;exact h _ _ rfl rfl;exact h _ _ rfl rfl;exact SeqAt.EqAt.tuple_none g d;exact SeqAt.EqAt.tuple_bool _ g d;exact SeqAt.EqAt.tuple_int _ _ g d;exact SeqAt.EqAt.tuple_str _ _ g d;exact h _ _ rfl rfl;exact h _ _ rfl rfl;exact h _ _ rfl rfl
theorem i8{d c:List J0}(i:s.heap.IsList a d.toArray)(h:s.heap.IsList b c.toArray)(g:d.length=xs.length)(k:c.length=ys.length)(q:A.units+n<MA)
  (he:∀j (o:j<d.length) (p:j<c.length),SeqAt.EqAt A.in1 s d[j] c[j] (eqW (xs.getD j .non) (ys.getD j .non))):SeqAt.RcAt A s (.ref a) (.ref b) (eqWs xs ys):=by
 by_cases f:d.length=c.length
 .have:=SeqAt.RcAt.lists (A:=A) (s:=s) (e:=λj=>eqW (xs.getD j .non) (ys.getD j .non)) i h (by simpa using f) (by lia) (λj l m=>by simpa using he j (by simpa using l) (by simpa using m));rw[<-dl,<-g,<-k,f,Uo,beq_self_eq_true,RQ]
  rwa [J9,f]at this
 .have:=SeqAt.RcAt.lists_lengths (A:=A) (s:=s) i h (by simpa using f) (by lia);rw[<-dl,<-g,<-k,show (d.length==c.length)=false by simpa using f,Rv];exact this
theorem D4{d c:List J0}(i:UH s.heap a d.toArray)(h:UH s.heap b c.toArray)(f:d.length=xs.length)(k:c.length=ys.length)(p:A.units+n<MA)
  (he:∀j (m:j<d.length) (o:j<c.length),SeqAt.EqAt A.in1 s d[j] c[j] (eqW (xs.getD j .non) (ys.getD j .non))):SeqAt.RcAt A s (.ref a) (.ref b) (eqWs xs ys):=by
 have:=SeqAt.RcAt.tuples (A:=A) (s:=s) (e:=λj=>eqW (xs.getD j .non) (ys.getD j .non)) i h (by lia) (λj g l=>by simpa using he j (by simpa using g) (by simpa using l));rw[J9,J9,f,k,dl]at this;exact this
theorem Hu(I:Inv X U8 σ H s):∀n A x y v w p q,Rp X.K H v x->Rp X.K H w y->aM v p->aM w q->okU n x=true->okU n y=true->A.units+n<MA->SeqAt.RcAt A s p q (eqW x y):=by
 intro n
 induction n with
 |zero=>
  intro A x y v w p q C R2 z B f g r;rcases C.shp I z f with _ |b |⟨i,t⟩ |⟨c,t⟩ <;>rcases R2.shp I B g with _ |b |⟨i,t⟩ |⟨c,t⟩ 
  exact SeqAt.RcAt.none_none;exact SeqAt.RcAt.none_bool _;exact SeqAt.RcAt.none_int _ _;exact SeqAt.RcAt.none_str _ _;exact SeqAt.RcAt.bool_none _;exact SeqAt.RcAt.bool_bool _ _;exact SeqAt.RcAt.bool_int _ _ _;exact SeqAt.RcAt.bool_str _ _ _;exact SeqAt.RcAt.int_none _ _;exact SeqAt.RcAt.int_bool _ _ _;exact SeqAt.RcAt.int_int _ _ _ _;exact SeqAt.RcAt.int_str _ _ _ _;exact SeqAt.RcAt.str_none _ _;exact SeqAt.RcAt.str_bool _ _ _;exact SeqAt.RcAt.str_int _ _ _ _;exact SeqAt.RcAt.str_str _ _ _ _
 |succ n F=>
  intro A x y v w p q C R2 z B f g r;have a:A.units<MA:=by lia
  have u:∀(x y:U) (v w:V) (p q:J0),Rp X.K H v x->Rp X.K H w y->aM v p->aM w q->okU n x=true->okU n y=true->SeqAt.RcAt A.in1 s p q (eqW x y):=λx y v w p q h j k1 G D E=>F A.in1 x y v w p q h j k1 G D E (by show A.units+1+n<_;lia);rcases C.shp I z f with _ |b |⟨i,t⟩ |⟨c,t⟩ |⟨_,h,e,l1,m,o,f⟩ |⟨_,h,e,l1,m,o,f⟩ |⟨_,h,e,l1,m,o,f⟩ <;>rcases R2.shp I B g with _ |b |⟨i,t⟩ |⟨c,t⟩ |⟨_,j,d,l2,l,k,g⟩ |⟨_,j,d,l2,l,k,g⟩ |⟨_,j,d,l2,l,k,g⟩
  exact SeqAt.RcAt.none_none;exact SeqAt.RcAt.none_bool _;exact SeqAt.RcAt.none_int _ _;exact SeqAt.RcAt.none_str _ _;exact SeqAt.RcAt.none_list d a;exact SeqAt.RcAt.none_list d a;exact SeqAt.RcAt.none_tuple d a;exact SeqAt.RcAt.bool_none _;exact SeqAt.RcAt.bool_bool _ _;exact SeqAt.RcAt.bool_int _ _ _;exact SeqAt.RcAt.bool_str _ _ _;exact SeqAt.RcAt.bool_list _ d a;exact SeqAt.RcAt.bool_list _ d a;exact SeqAt.RcAt.bool_tuple _ d a;exact SeqAt.RcAt.int_none _ _;exact SeqAt.RcAt.int_bool _ _ _;exact SeqAt.RcAt.int_int _ _ _ _;exact SeqAt.RcAt.int_str _ _ _ _;exact SeqAt.RcAt.int_list _ _ d a;exact SeqAt.RcAt.int_list _ _ d a;exact SeqAt.RcAt.int_tuple _ _ d a;exact SeqAt.RcAt.str_none _ _;exact SeqAt.RcAt.str_bool _ _ _;exact SeqAt.RcAt.str_int _ _ _ _;exact SeqAt.RcAt.str_str _ _ _ _;exact SeqAt.RcAt.str_list _ _ d a;exact SeqAt.RcAt.str_list _ _ d a;exact SeqAt.RcAt.str_tuple _ _ d a;exact SeqAt.RcAt.list_none e a;exact SeqAt.RcAt.list_bool _ e a;exact SeqAt.RcAt.list_int _ _ e a;exact SeqAt.RcAt.list_str _ _ e a;rw[eqW];exact i8 e d l1 l2 r (cG I h j m l o k f g u (by lia));rw[eqW];exact i8 e d l1 l2 r (cG I h j m l o k f g u (by lia));exact SeqAt.RcAt.list_tuple e d a;exact SeqAt.RcAt.list_none e a;exact SeqAt.RcAt.list_bool _ e a;exact SeqAt.RcAt.list_int _ _ e a;exact SeqAt.RcAt.list_str _ _ e a;rw[eqW];exact i8 e d l1 l2 r (cG I h j m l o k f g u (by lia));rw[eqW];exact i8 e d l1 l2 r (cG I h j m l o k f g u (by lia));exact SeqAt.RcAt.list_tuple e d a;exact SeqAt.RcAt.tuple_none e a;exact SeqAt.RcAt.tuple_bool _ e a;exact SeqAt.RcAt.tuple_int _ _ e a;exact SeqAt.RcAt.tuple_str _ _ e a;exact SeqAt.RcAt.tuple_list e d a;exact SeqAt.RcAt.tuple_list e d a;rw[eqW];exact D4 e d l1 l2 r (cG I h j m l o k f g u (by lia))
theorem fN{d c:List J0}(i:s.heap.IsList a d.toArray)(h:s.heap.IsList b c.toArray)(g:d.length=xs.length)(k:c.length=ys.length)(q:A.units+n<MA)
  (he:∀j (o:j<d.length) (p:j<c.length),SeqAt.EqAt A.in1 s d[j] c[j] (eqW (xs.getD j .non) (ys.getD j .non))):SeqAt.RcNeAt A s (.ref a) (.ref b) (!eqWs xs ys):=by
 by_cases f:d.length=c.length
 .have:=SeqAt.RcNeAt.lists (A:=A) (s:=s) (e:=λj=>eqW (xs.getD j .non) (ys.getD j .non)) i h (by simpa using f) (by lia) (λj l m=>by simpa using he j (by simpa using l) (by simpa using m));rw[<-dl,<-g,<-k,f,Uo,beq_self_eq_true,RQ]
  rwa [J9,f]at this
 .have:=SeqAt.RcNeAt.lists_lengths (A:=A) (s:=s) i h (by simpa using f) (by lia);rw[<-dl,<-g,<-k,show (d.length==c.length)=false by simpa using f,Rv];exact this
theorem x6{d c:List J0}(i:UH s.heap a d.toArray)(h:UH s.heap b c.toArray)(f:d.length=xs.length)(k:c.length=ys.length)(p:A.units+n<MA)
  (he:∀j (m:j<d.length) (o:j<c.length),SeqAt.EqAt A.in1 s d[j] c[j] (eqW (xs.getD j .non) (ys.getD j .non))):SeqAt.RcNeAt A s (.ref a) (.ref b) (!eqWs xs ys):=by
 have:=SeqAt.RcNeAt.tuples (A:=A) (s:=s) (e:=λj=>eqW (xs.getD j .non) (ys.getD j .non)) i h (by lia) (λj g l=>by simpa using he j (by simpa using g) (by simpa using l));rw[J9,J9,f,k,dl]at this;exact this
theorem GP(I:Inv X U8 σ H s)(n)(A)(x y)(v w)(p q)(G:Rp X.K H v x)(C:Rp X.K H w y)(D:aM v p)(E:aM w q)(h:okU (n+1) x=true)(j:okU (n+1) y=true)(r:A.units+(n+1)<MA):SeqAt.RcNeAt A s p q (!eqW x y):=by
 have a:A.units<MA:=by lia
 have u:∀(x y:U) (v w:V) (p q:J0),Rp X.K H v x->Rp X.K H w y->aM v p->aM w q->okU n x=true->okU n y=true->SeqAt.RcAt A.in1 s p q (eqW x y):=λx y v w p q f g k1 F B z=>Hu I n A.in1 x y v w p q f g k1 F B z (by show A.units+1+n<_;lia);rcases G.shp I D h with _ |b |⟨i,t⟩ |⟨c,t⟩ |⟨_,f,e,l1,m,o,h⟩ |⟨_,f,e,l1,m,o,h⟩ |⟨_,f,e,l1,m,o,h⟩ <;>rcases C.shp I E j with _ |b |⟨i,t⟩ |⟨c,t⟩ |⟨_,g,d,l2,l,k,j⟩ |⟨_,g,d,l2,l,k,j⟩ |⟨_,g,d,l2,l,k,j⟩
 exact SeqAt.RcNeAt.none_none;exact SeqAt.RcNeAt.none_bool _;exact SeqAt.RcNeAt.none_int _ _;exact SeqAt.RcNeAt.none_str _ _;exact SeqAt.RcNeAt.none_list d a;exact SeqAt.RcNeAt.none_list d a;exact SeqAt.RcNeAt.none_tuple d a;exact SeqAt.RcNeAt.bool_none _;exact SeqAt.RcNeAt.bool_bool _ _;exact SeqAt.RcNeAt.bool_int _ _ _;exact SeqAt.RcNeAt.bool_str _ _ _;exact SeqAt.RcNeAt.bool_list _ d a;exact SeqAt.RcNeAt.bool_list _ d a;exact SeqAt.RcNeAt.bool_tuple _ d a;exact SeqAt.RcNeAt.int_none _ _;exact SeqAt.RcNeAt.int_bool _ _ _;exact SeqAt.RcNeAt.int_int _ _ _ _;exact SeqAt.RcNeAt.int_str _ _ _ _;exact SeqAt.RcNeAt.int_list _ _ d a;exact SeqAt.RcNeAt.int_list _ _ d a;exact SeqAt.RcNeAt.int_tuple _ _ d a;exact SeqAt.RcNeAt.str_none _ _;exact SeqAt.RcNeAt.str_bool _ _ _;exact SeqAt.RcNeAt.str_int _ _ _ _;exact SeqAt.RcNeAt.str_str _ _ _ _;exact SeqAt.RcNeAt.str_list _ _ d a;exact SeqAt.RcNeAt.str_list _ _ d a;exact SeqAt.RcNeAt.str_tuple _ _ d a;exact SeqAt.RcNeAt.list_none e a;exact SeqAt.RcNeAt.list_bool _ e a;exact SeqAt.RcNeAt.list_int _ _ e a;exact SeqAt.RcNeAt.list_str _ _ e a;rw[eqW];exact fN e d l1 l2 r (cG I f g m l o k h j u (by lia));rw[eqW];exact fN e d l1 l2 r (cG I f g m l o k h j u (by lia));exact SeqAt.RcNeAt.list_tuple e d a;exact SeqAt.RcNeAt.list_none e a;exact SeqAt.RcNeAt.list_bool _ e a;exact SeqAt.RcNeAt.list_int _ _ e a;exact SeqAt.RcNeAt.list_str _ _ e a;rw[eqW];exact fN e d l1 l2 r (cG I f g m l o k h j u (by lia));rw[eqW];exact fN e d l1 l2 r (cG I f g m l o k h j u (by lia));exact SeqAt.RcNeAt.list_tuple e d a;exact SeqAt.RcNeAt.tuple_none e a;exact SeqAt.RcNeAt.tuple_bool _ e a;exact SeqAt.RcNeAt.tuple_int _ _ e a;exact SeqAt.RcNeAt.tuple_str _ _ e a;exact SeqAt.RcNeAt.tuple_list e d a;exact SeqAt.RcNeAt.tuple_list e d a;rw[eqW];exact x6 e d l1 l2 r (cG I f g m l o k h j u (by lia))
end
def OpS(X:Cx)(f:J0->J0->Sem J0)(x y:U)(z:V):Prop:=OpR X f λv w H Q=>Rp X.K H v x/\Rp X.K H w y/\Q z H
section
variable {X:Cx}{H0:Hp}{O0:List Kb}{ps:PSt}{a b c e:Expr}{rest:List Expr}{pos p:Pos}{u x y:U}{xs ys us:List U}{i j:Int}{k m:Bool}
theorem Rp.out{K:JI}(h:Rp K (hid H O) v u):Rp K H v u:=h.same aH
theorem lX(d:OpS X (KO op) x y (.bl k))(i:Ev X H0 O0 ps a x)(e:Ev X H0 O0 ps b y)(g:LR op b=false:=by first |exact j5 _ |with_unfolding_all rfl):Ev X H0 O0 ps (.Compare a [op] [b] pos) (.bl k):=
 PE.mono (CK d i e g) λj H Q ⟨O,R,q⟩=>two R (λ_ _ _ z=>z) (λ_ _ _ z=>z) λv w h s _ c f=>⟨c.out,f.out,q _ h s (.bl _)⟩
theorem av(d:OpS X (KO op) x y (.bl k))(i:Ev X H0 O0 ps a x)(e:Ev X H0 O0 ps b y)(g:LR op b=false:=by first |exact j5 _ |with_unfolding_all rfl):Tt X H0 O0 ps (.Compare a [op] [b] pos) k:=
 PT.mono (wa d i e g) λj H Q ⟨O,R,q⟩=>two R (λ_ _ _ z=>z) (λ_ _ _ z=>z) λv w h s _ c f=>⟨c.out,f.out,_,rfl,q h s⟩
theorem wU{g:Int->Int->Bool}(d:OpR X (KO op) (rI0 λi j=>.bl (g i j))):OpS X (KO op) (.int i) (.int j) (.bl (g i j)):=by
 intro k s f H v w p q Q I c e h;obtain⟨b,l,a⟩:=h;cases b;cases l;exact d k s f H _ _ _ _ Q I c e ⟨i,j,rfl,rfl,a⟩
theorem h_:OpS X (KO .Lt) (.int i) (.int j) (.bl (decide (i<j))):=wU Il
theorem IS:OpS X (KO .LtE) (.int i) (.int j) (.bl (decide (i<=j))):=wU HS
theorem j0:OpS X (KO .Gt) (.int i) (.int j) (.bl (decide (j<i))):=wU IL
theorem IU:OpS X (KO .GtE) (.int i) (.int j) (.bl (decide (j<=i))):=wU He
theorem IV(g:X.A.units+10<MA)(b:okU 9 x=true)(f:okU 9 y=true):OpS X (KO .Eq) x y (.bl (eqW x y)):=by
 intro j s i H v w p q Q I c d h;obtain⟨k1,e,a⟩:=h;exact Hu I 9 X.A x y v w p q k1 e c d b f (by lia) X.prog X.w _ _ (mq I a rfl)
theorem IQ(g:X.A.units+10<MA)(b:okU 9 x=true)(f:okU 9 y=true):OpS X (KO .NotEq) x y (.bl (!eqW x y)):=by
 intro j s i H v w p q Q I c d h;obtain⟨k1,e,a⟩:=h;exact GP I 8 X.A x y v w p q k1 e c d b f (by lia) X.prog X.w _ _ (mq I a rfl)
theorem fX:OpS X (KO .Eq) (.int i) (.int j) (.bl (decide (i=j))):=by
 rintro g s f H v w p q Q I a b ⟨d,e,c⟩;cases d;cases e;obtain⟨t,rfl⟩:=a;obtain⟨h,rfl⟩:=b;exact eq_int (mq I c (QT i j))
theorem kE:OpS X (KO .NotEq) (.int i) (.int j) (.bl (!decide (i=j))):=by
 rintro g s f H v w p q Q I a b ⟨d,e,c⟩;cases d;cases e;obtain⟨t,rfl⟩:=a;obtain⟨h,rfl⟩:=b;exact ne_int (mq I c (by rw[bne,QT]))
theorem E5{j Vq}(c:Ev X H0 O0 ps a x)(h:∀K H v,Rp K H v x->decide (v=V.non)=k):Tt X H0 O0 ps (.Compare a [.Is] [.Constant .none j Vq] pos) k:=
 PT.mono (tP (GS c)) λd H Q ⟨O,R,q⟩=>⟨O,R,λv b s r=>⟨_,rfl,by rw[h _ _ v r];exact q b s⟩⟩
noncomputable def Ff:U->Bool | .non=>true |_=>false
theorem AX(x):∀K H v,Rp K H v x->decide (v=V.non)=Ff x:=λK H v r=>by
 cases r <;>simp[Ff]
theorem ik(h:Ev X H0 O0 ps e (.bl k))(c:∀a,isTrue e X.env a=(do let v <-a;RB e.pos;Pf [v] (truthy v)):=by intro _;rfl):Tt X H0 O0 ps e k:=
 PT.mono (Gj h c) λd H Q ⟨O,R,q⟩=>⟨O,R,λv b s r=>by cases r;exact⟨_,rfl,q b s⟩⟩
theorem jp(h:Tt X H0 O0 ps a k):Tt X H0 O0 ps (.UnaryOp .Not a pos) (!k):=PT.mono (F6 h) λb H Q ⟨O,R,q⟩=>⟨O,R,q⟩
theorem Tw.t(h:Tw X H0 O0 ps e k):Tt X H0 O0 ps e k:=h.pt
theorem zY(h:Tt X H0 O0 ps a k):Tw X H0 O0 ps (.BoolOp .And [a] pos) k:=Ew h
theorem io(h:Tt X H0 O0 ps a k):Tw X H0 O0 ps (.BoolOp .Or [a] pos) k:=BB h
theorem zG(d:Tt X H0 O0 ps a k)(g:k=true->Tw X H0 O0 ps (.BoolOp .And (b::rest) pos) m):Tw X H0 O0 ps (.BoolOp .And (a::b::rest) pos) (k && m):=by
 cases k with
 |true=>exact PW.mono (y8 d (g rfl)) λe H Q ⟨O,R,q⟩=>⟨O,R,λc s=>by exact oW (⟨O,R.go s,λi f=>q i (s.trans f)⟩)⟩
 |false=>exact PW.mono (y8 d (λ_ _ _ _ _ _ _ h=>h.elim) (tB':=λ_ _ _=>False)) λe H Q ⟨O,R,q⟩=>⟨O,R,λc s=>by exact mY (q c s)⟩
theorem jv(d:Tt X H0 O0 ps a k)(g:k=false->Tw X H0 O0 ps (.BoolOp .Or (b::rest) pos) m):Tw X H0 O0 ps (.BoolOp .Or (a::b::rest) pos) (k ||m):=by
 cases k with
 |false=>exact PW.mono (Ch d (g rfl)) λe H Q ⟨O,R,q⟩=>⟨O,R,λc s=>by exact mY (⟨O,R.go s,λi f=>q i (s.trans f)⟩)⟩
 |true=>exact PW.mono (Ch d (λ_ _ _ _ _ _ _ h=>h.elim) (tB':=λ_ _ _=>False)) λe H Q ⟨O,R,q⟩=>⟨O,R,λc s=>by exact oW (q c s)⟩
theorem EU{op}(h:Ev X H0 O0 ps a u):Ev X H0 O0 ps (.BoolOp op [a] pos) u:=GZ h
theorem Ig(d:Ev X H0 O0 ps a (.bl k))(g:k=true->Ev X H0 O0 ps (.BoolOp .And (b::rest) pos) (.bl m)):Ev X H0 O0 ps (.BoolOp .And (a::b::rest) pos) (.bl (k && m)):=by
 cases k with
 |true=>exact PE.mono (BF d (g rfl)) λe H Q ⟨O,R,q⟩=>⟨O,R,λv c s r=>by cases r;exact⟨_,rfl,by exact oW (⟨O,R.go s,λv j f i=>q v j (s.trans f) i⟩)⟩⟩
 |false=>exact PE.mono (BF d (λ_ _ _ _ _ _ h=>h.elim) (tb:=λ_ _ _=>False)) λe H Q ⟨O,R,q⟩=>⟨O,R,λv c s r=>by cases r;exact⟨_,rfl,by exact mY (q _ c s (.bl _))⟩⟩
theorem Jz(d:Ev X H0 O0 ps a (.bl k))(g:k=false->Ev X H0 O0 ps (.BoolOp .Or (b::rest) pos) (.bl m)):Ev X H0 O0 ps (.BoolOp .Or (a::b::rest) pos) (.bl (k ||m)):=by
 cases k with
 |false=>exact PE.mono (Fg d (g rfl)) λe H Q ⟨O,R,q⟩=>⟨O,R,λv c s r=>by cases r;exact⟨_,rfl,by exact mY (⟨O,R.go s,λv j f i=>q v j (s.trans f) i⟩)⟩⟩
 |true=>exact PE.mono (Fg d (λ_ _ _ _ _ _ h=>h.elim) (tb:=λ_ _ _=>False)) λe H Q ⟨O,R,q⟩=>⟨O,R,λv c s r=>by cases r;exact⟨_,rfl,by exact oW (q _ c s (.bl _))⟩⟩
theorem Ii(c:Ev X H0 O0 ps a (.bl k)):Ev X H0 O0 ps (.UnaryOp .Not a pos) (.bl (!k)):=PE.mono (GW c) λd H Q ⟨O,R,q⟩=>⟨O,R,λv b s r=>by cases r;exact⟨_,rfl,q _ b s (.bl _)⟩⟩
theorem Hl(g:Tt X H0 O0 ps c k)(m:k=true->Ev X H0 O0 ps a u)(j:k=false->Ev X H0 O0 ps b u):Ev X H0 O0 ps (.IfExp c a b pos) u:=by
 cases k with
 |true=>exact PE.mono (ro g (m rfl) (λ_ _ _ _ _ _ h=>h.elim) (tb:=λ_ _ _=>False)) λi H Q ⟨O,R,q⟩=>⟨O,R,λl s=>by exact oW (⟨O,R.go s,λv f d e=>q v f (s.trans d) e⟩)⟩
 |false=>exact PE.mono (ro g (λ_ _ _ _ _ _ h=>h.elim) (j rfl) (ta:=λ_ _ _=>False)) λi H Q ⟨O,R,q⟩=>⟨O,R,λl s=>by exact mY (⟨O,R.go s,λv f d e=>q v f (s.trans d) e⟩)⟩
theorem aj:EvA X H0 O0 ps [] []:=PA.mono cU λa H Q ⟨O,R,q⟩=>q [] H (.refl H) .nil
theorem ae(h:Ev X H0 O0 ps e u)(f:EvA X H0 O0 ps es us)(hs:JO (e::es) X.env=(false,LD e X.env)::JO es X.env:=by rfl):EvA X H0 O0 ps (e::es) (u::us):=
 PA.mono (bH h f hs) λi H Q ⟨O,R,q⟩=>⟨O,R,λv k b c=>⟨O,R.go b,λj g a d=>q _ g (b.trans a) (.cons (c.same (aF a)) d)⟩⟩
theorem Rs.hidnew{K:JI}(R:Rs K H0 O0 ps σ H O){p:Kb}(n:H p=none):hid (upd H p o) O p=some o:=bS aG λz=>R.dom p z n
theorem HZ{x1}(h:EvA X H0 O0 ps es us)(g:us.length<=sizeLine:=by first |decide | (simp only[JX,NM];decide)):Ev X H0 O0 ps (.Tuple es x1 pos) (.tup us):=
 PE.mono (Gd h) λi H Q ⟨O,R,q⟩=>⟨O,R,λf j d a=>⟨by rw[a.len];exact g,λp e=>by
  have b:=aO e (.tup f);have c:=a.same (aF b);exact q _ _ (d.trans b) (.tup (SqT.of ((R.go d).hidnew e)) c.len c.at_)⟩⟩
theorem Hw(h:EvA X H0 O0 ps es us)(e:us.length<=sizeLine:=by first |decide | (simp only[JX,NM];decide)):EvN X H0 O0 ps (.List es pos) us:=
 PE.mono (GY h) λf H Q ⟨O,R,q⟩=>⟨O,R,λd g c b=>⟨by rw[b.len];exact e,λp a=>by
  exact q p d _ (c.trans (aO a _)) (c.free a) aG (b.same (ba (aO a _) a))⟩⟩
theorem aC(o:Ev X H0 O0 ps a x)(l:Ev X H0 O0 ps b (.int i))(g:x.items=some xs)(j:atI xs i=some u)(hs:kT b:=by intro _ _;rfl):Ev X H0 O0 ps (.Subscript a b pos) u:=
 PE.mono (zH (wk.or FY) o l hs) λp H Q ⟨O,R,q⟩=>two R (λ_ _ _ z=>z) (λ_ _ _ z=>z) λv w k s _ m n=>by
  cases n;cases m with
  |scr h d e=>cases g;obtain⟨z,c,f⟩:=Rps.atI ⟨d,e⟩ j;exact .inl ⟨_,_,i,z,rfl,rfl,aH.seq h,c,q z k s f⟩
  |lst h d e=>cases g;obtain⟨z,c,f⟩:=Rps.atI ⟨d,e⟩ j;exact .inl ⟨_,_,i,z,rfl,rfl,aH.seq (SqL.of h),c,q z k s f⟩
  |tup h d e=>cases g;obtain⟨z,c,f⟩:=Rps.atI ⟨d,e⟩ j;exact .inr ⟨_,_,i,z,rfl,rfl,aH.tup h,c,q z k s f⟩
  |_=>cases g
theorem v7(n:Nat){x:Str}(h:ps[n]?=some (some (.own xs)))(d:Ev X H0 O0 ps b (.int i))(l:atI xs i=some u)(o:X.N[n]?=some x:=by rfl)(j:Vis X.env.scope x:=by first |exact Or.inl rfl |exact Or.inr (Or.inl rfl) |exact Or.inr (Or.inr rfl))(g:(x==("__debug__":Str))=false:=by decide)
  (VD:(x==("__classdict__":Str))=false:=by decide) (hs:kT b:=by intro _ _;rfl):Ev X H0 O0 ps (.Subscript (.Name x p) b pos) u:=
 PE.mono (zH wk (d9 o j g VD) d hs) λB H Q k=>by
  obtain⟨O,R,q⟩:=k;obtain⟨v,e,a,c,rfl,A,C,f,m⟩:=R.at_ n _ h;refine⟨_,e,O,R,λw y s r=>?_⟩;cases r;obtain⟨z,k1,t⟩:=m.atI l;exact⟨a,c,i,z,rfl,rfl,SqL.of (s _ _ f),k1,q z y s (t.same (aF s))⟩
def dS(X:Cx)(f:J0)(us:List U)(u:U):Prop:=ce X f λc H Q=>∃O,(∀a∈O,H a≠none)/\Rps X.K (hid H O) c us/\∀v b,aI H b->Rp X.K (hid b O) v u->Q v b
theorem aw{a:String}(o:dS X (.builtin a) us u)(k:Gl X f)(i:X.mg f=none)(h:L_ f=some (.builtin a))(m:EvA X H0 O0 ps (e::es) us)(n:f≠"__name__":=by decide)(l:(f==("__debug__":Str))=false:=by decide)
  (he:JO (e::es) X.env=(false,LD e X.env)::JO es X.env:=by rfl) (VA:(Ll pos (JO es X.env)).any (·.1)=false:=by rfl):Ev X H0 O0 ps (.Call (.Name f p) (e::es) [] pos) u:=
 PE.mono (sK o k i h m n l he VA) λs H Q ⟨O,R,q⟩=>⟨O,R,λr t b d=>⟨O,(R.go b).dom,d,λv j c g=>q v j (b.trans c) g⟩⟩
theorem cP{a:String}(o:dS X (.type a) us u)(k:Gl X f)(i:X.mg f=none)(h:L_ f=some (.type a))(m:EvA X H0 O0 ps (e::es) us)(n:f≠"__name__":=by decide)(l:(f==("__debug__":Str))=false:=by decide)
  (he:JO (e::es) X.env=(false,LD e X.env)::JO es X.env:=by rfl) (VA:(Ll pos (JO es X.env)).any (·.1)=false:=by rfl):Ev X H0 O0 ps (.Call (.Name f p) (e::es) [] pos) u:=
 PE.mono (yR o k i h m n l he VA) λs H Q ⟨O,R,q⟩=>⟨O,R,λr t b d=>⟨O,(R.go b).dom,d,λv j c g=>q v j (b.trans c) g⟩⟩
theorem cM{K:JI}(h:Rps K H vs [x]):∃v,vs=[v]/\Rp K H v x:=by
 obtain⟨v,c,rfl,a,b⟩:=h.cons_inv;rw[b.nil_inv];exact⟨v,rfl,a⟩
theorem jx{K:JI}(h:Rps K H vs [x,y]):∃v w,vs=[v,w]/\Rp K H v x/\Rp K H w y:=by
 obtain⟨v,d,rfl,b,c⟩:=h.cons_inv;obtain⟨w,rfl,a⟩:=cM c;exact⟨v,w,rfl,b,a⟩
theorem ce.mono(h:ce X f r)(m:∀a H Q,r' a H Q->r a H Q):ce X f r':=λc s b H a us Q I v q=>h c s b H a us Q I v (m a H Q q)
theorem vN{K:JI}(h:Rp K H v x)(d:x.items=some xs):∃a e,v=.ref a/\(SqL K H a e\/SqT K H a e)/\Rps K H e xs:=by
 cases h with
 |scr h c b=>cases d;exact⟨_,_,rfl,.inl h,c,b⟩
 |lst h c b=>cases d;exact⟨_,_,rfl,.inl (SqL.of h),c,b⟩
 |tup h c b=>cases d;exact⟨_,_,rfl,.inr h,c,b⟩
 |_=>cases d
theorem D3{K:JI}{a:Kb}(h:SqL K (hid H O) a vs\/SqT K (hid H O) a vs):SqL K H a vs\/SqT K H a vs:=h.imp (λz=>aH.seq z) λz=>aH.tup z
theorem bF(e:x.items=some xs):dS X (.builtin "len") [x] (.int xs.length):=ce.mono iR λi H Q b=>by
 obtain⟨O,d,r,q⟩:=b;obtain⟨v,rfl,h⟩:=cM r;obtain⟨a,f,rfl,c,g⟩:=vN h e;exact⟨a,f,rfl,D3 c,by rw[g.len];exact q _ H (.refl H) (.int _)⟩
theorem Gi(n:Nat){x:Str}(h:ps[n]?=some (some (.own xs)))(k:Gl X "len")(g:X.mg "len"=none)(l:X.N[n]?=some x:=by rfl)(f:Vis X.env.scope x:=by first |exact Or.inl rfl |exact Or.inr (Or.inl rfl) |exact Or.inr (Or.inr rfl))(e:(x==("__debug__":Str))=false:=by decide)
  (VD:(x==("__classdict__":Str))=false:=by decide) (hs:JO [.Name x p'] X.env=(false,LD (.Name x p') X.env)::JO [] X.env:=by rfl) (VA:(Ll pos (JO [] X.env)).any (·.1)=false:=by rfl):Ev X H0 O0 ps (.Call (.Name "len" pc) [.Name x p'] [] pos) (.int xs.length):=
 PE.mono (sK iR k g J5 (bH (d9 l f e VD) cU hs) (by decide) (by decide) hs VA) λo H Q i=>by
  obtain⟨O,R,q⟩:=i;obtain⟨v,c,a,b,rfl,m,p,d,j⟩:=R.at_ n _ h;exact⟨_,c,a,b,rfl,.inl (SqL.of d),by rw[j.len];exact q _ H (.refl H) (.int _)⟩
theorem mB:dS X (.builtin "abs") [.int i] (.int (if i<0 then -i else i)):=ce.mono A_ λb H Q a=>by
 obtain⟨O,d,r,q⟩:=a;obtain⟨v,rfl,h⟩:=cM r;cases h;exact⟨i,rfl,q _ H (.refl H) (.int _)⟩
theorem HU(b:X.calm=true):dS X (.builtin "max") [.int i,.int j] (.int (if j >i then j else i)):=ce.mono (yA b) λe H Q a=>by
 obtain⟨O,d,r,q⟩:=a;obtain⟨v,w,rfl,h,c⟩:=jx r;cases h;cases c;exact⟨i,j,rfl,q _ H (.refl H) (.int _)⟩
theorem Fd(b:X.calm=true):dS X (.builtin "min") [.int i,.int j] (.int (if j<i then j else i)):=ce.mono (yj b) λe H Q a=>by
 obtain⟨O,d,r,q⟩:=a;obtain⟨v,w,rfl,h,c⟩:=jx r;cases h;cases c;exact⟨i,j,rfl,q _ H (.refl H) (.int _)⟩
theorem F7:dS X (.type "int") [.bl k] (.int (if k then 1 else 0)):=ce.mono ut λb H Q a=>by
 obtain⟨O,d,r,q⟩:=a;obtain⟨v,rfl,h⟩:=cM r;cases h;exact⟨k,rfl,q _ H (.refl H) (.int _)⟩
theorem CN(k:x=.lst xs∨x=.scr xs):dS X (.type "tuple") [x] (.tup xs):=ce.mono nv λm H Q j=>by
 obtain⟨O,d,r,q⟩:=j;obtain⟨v,rfl,h⟩:=cM r;have g:∀{l}{o},H l=none->hid (upd H l o) O l=some o:=λ{l o} b=>bS aG λz=>d _ z b;rcases k with rfl |rfl
 .cases h with
  |lst h b e=>exact⟨_,_,rfl,.inl ⟨aH.seq (SqL.of h),λl a=>q _ _ (aO a _) (.tup (SqT.of (g a)) b λi v x f c=>(e i v x f c).same (aF (aO a _)))⟩⟩
 .cases h with
  |scr h b e=>exact⟨_,_,rfl,.inl ⟨aH.seq h,λl a=>q _ _ (aO a _) (.tup (SqT.of (g a)) b λi v x f c=>(e i v x f c).same (aF (aO a _)))⟩⟩
noncomputable def tyU:U->J0
 | .non=>.type "NoneType" | .bl _=>.type "bool" | .int _=>.type "int" | .str _=>.type "str" | .ty _=>.type "type" | .dic=>.type "dict" | .scr _=>.type "list" | .tup _=>.type "tuple" | .lst _=>.type "list"
theorem eX(t:∀m,x≠.ty m)(h:OF X.K (tyU x) (.type n)=some k):dS X (.builtin "isinstance") [x,.ty (.nm n)] (.bl k):=by
 intro D s C H G us Q I r y;obtain⟨O,d,E,q⟩:=y;obtain⟨v,w,rfl,u,F⟩:=jx E;cases F;obtain⟨N,J,rfl,a,A⟩:=kH r;cases A;have c:∀j,EP X D C Q (.bool k) {s with toks:=j }:=λj=>⟨.bl k,H,I.tok _,rfl,q _ H (.refl H) (.bl _)⟩
 cases u with
 |non=>exact dG I a .non h c
 |bl b=>exact dG I a (.bl b) h c
 |int b=>exact dG I a (.int b) h c
 |str b=>exact dG I a (.str b) h c
 |ty m=>exact absurd rfl (t _)
 |dic e=>exact dG I a (.dK (aH _ _ e)) h c
 |xc e M=>exact absurd rfl (t _)
 |scr e l p=>
  cases a;obtain⟨B,_,g,_⟩:=I.list (aH.seq e);obtain⟨o,L,i,f,_⟩:=g;exact Ln P8 I.kIn ⟨o,i,f⟩ h (λz=>nomatch z) c
 |lst e l p=>exact dG I a (.lst (aH _ _ e)) h c
 |tup e l p=>
  cases a;obtain⟨B,_,g,_⟩:=I.tuple (aH.tup e);obtain⟨o,i,f,_⟩:=g;exact Ln RI I.kIn ⟨o,i,f⟩ h (λz=>nomatch z) c
end
inductive Out where
 |val (u:U) |new (xs:List U) |exc (C:Kb) |dsk (d:Kb) (u:U) (Va:List (Str×U))
noncomputable def n_(K:JI)(c:Hp)(e:List Kb)(Q:VK)(E:XK):Out->Prop
 | .val u=>∀v b,aI c b->Rp K (hid b e) v u->Q v b
 | .new xs=>∀a f b,aI c b->c a=none->b a=some (.lst f)->Rps K (hid b (a::e)) f xs->Q (.ref a) b
 | .exc C=>∀b,aI c b->E (.ref C) none b
 | .dsk d u h=>∀v g b,aI c b->b d=some (.dK g)->DkR K (hid b (d::e)) g h->Rp K (hid b (d::e)) v u->Q v b
theorem n_.later{K:JI}(e:aI H0 H1)(h:n_ K H0 O0 Q E o):n_ K H1 O0 Q E o:=by
 cases o with
 |val u=>exact λv b s r=>h v b (e.trans s) r
 |new g=>exact λa c b s n q r=>h a c b (e.trans s) (e.free n) q r
 |exc C=>exact λb s=>h b (e.trans s)
 |dsk d u i=>exact λv f b s q r p=>h v f b (e.trans s) q r p
structure PD where
 nx:PSt->Prop
 rt:Out->Prop
 bk:PSt->Prop:=λ_=>False
 ct:PSt->Prop:=λ_=>False
structure Lf(K:JI)(H0:Hp)(O0:List Kb)(E:XK)(D:PD)(D':nL):Prop where
 nx:∀ps σ H O,Rs K H0 O0 ps σ H O->D.nx ps->D'.nx σ H
 bk:∀ps σ H O,Rs K H0 O0 ps σ H O->D.bk ps->D'.bk σ H
 ct:∀ps σ H O,Rs K H0 O0 ps σ H O->D.ct ps->D'.ct σ H
 rt:∀o,D.rt o->n_ K H0 O0 D'.rt E o
def Ws(X:Cx)(a:Hp)(b:List Kb)(E:XK)(e:List Mm)(D:PD)(c:PSt):Prop:=PSs X e λf d H=>Lf X.K a b E D f/\∃O,Rs X.K a b c d H O
def W1(X:Cx)(a:Hp)(b:List Kb)(E:XK)(s:Mm)(D:PD)(c:PSt):Prop:=PS X s λe d H=>Lf X.K a b E D e/\∃O,Rs X.K a b c d H O
variable {Vk:List Mm}
section
variable {X:Cx}{H0:Hp}{O0:List Kb}{E:XK}{ps Vw:PSt}{D:PD}{s:Mm}{ss:List Mm}{a b c e:Expr}{pos p:Pos}{u x y:U}{xs ys us:List U}{k:Bool}
theorem ay(h:D.nx ps):Ws X H0 O0 E [] D ps:=PSs.mono D5 λb a H ⟨L,O,R⟩=>L.nx ps a H O R h
theorem ac(h:W1 X H0 O0 E s {D with nx:=λp=>Ws X H0 O0 E ss D p } ps):Ws X H0 O0 E (s::ss) D ps:=by
 have d:PSs X ss λb a H=>∃p,Ws X H0 O0 E ss D p/\Lf X.K H0 O0 E D b/\∃O,Rs X.K H0 O0 p a H O:=λc s a H b I ⟨p,w,l,r⟩=>w c s a H b I ⟨l,r⟩;exact PSs.mono (Cl h d) λb a H ⟨L,O,R⟩=>⟨⟨λp a H O R q=>⟨p,q,L,O,R⟩,L.bk,L.ct,L.rt⟩,O,R⟩
theorem eC(h:Ws X H0 O0 E ss D Vw)(hs:SubP Vw ps):Ws X H0 O0 E ss D ps:=PSs.mono h λb a H ⟨L,O,R⟩=>⟨L,O,R.sub hs⟩
theorem vL{x:Str}(a:X.N.Nodup)(b:X.N[i]?=some x)(d:Loc X.env.scope x)(c:Ev X H0 O0 ps e u)(h:D.nx (ps.set i (some (.val u))))(hs:Mn e (some (.Name x Vq)) pos.line X.env=pure false:=by rfl)(f:X.fn x=true\/X.env.scope.names.lookup x=some .local:=by first |exact .inl rfl |exact .inr rfl |assumption):
  W1 X H0 O0 E (.Assign [.Name x Vq] e pos) D ps:=PS.mono (uP a b d c hs f) λj g H ⟨L,O,R⟩=>⟨O,R,λv k s r=>L.nx _ _ _ O ((R.go s).set r) h⟩
theorem oy{x:Str}(d:X.N.Nodup)(c:X.N[i]?=some x)(f:Loc X.env.scope x)(b:EvN X H0 O0 ps e xs)(h:D.nx (ps.set i (some (.own xs))))(hs:Mn e (some (.Name x Vq)) pos.line X.env=pure false:=by rfl)(g:X.fn x=true\/X.env.scope.names.lookup x=some .local:=by first |exact .inl rfl |exact .inr rfl |assumption):
  W1 X H0 O0 E (.Assign [.Name x Vq] e pos) D ps:=PS.mono (uP d c f b hs g) λk l H ⟨L,O,R⟩=>⟨O,R,λa j m s n q r=>L.nx _ _ _ _ (R.own s n q r) h⟩
theorem nD(a:Tt X H0 O0 ps c k)(e:k=true->Ws X H0 O0 E tb D ps)(g:k=false->Ws X H0 O0 E fb D ps):W1 X H0 O0 E (.If c tb fb pos) D ps:=by
 cases k with
 |true=>exact PS.mono (B9 a (e rfl) (λ_ _ _ _ _ _ h=>h.elim) (u:=λ_ _ _=>False)) λd b H ⟨L,O,R⟩=>⟨O,R,λf s=>oW ⟨L,O,R.go s⟩⟩
 |false=>exact PS.mono (B9 a (λ_ _ _ _ _ _ h=>h.elim) (g rfl) (t:=λ_ _ _=>False)) λd b H ⟨L,O,R⟩=>⟨O,R,λf s=>mY ⟨L,O,R.go s⟩⟩
theorem Rs.ret{K:JI}(R:Rs K H0 O0 ps σ H O)(r:Rp K (hid H O) v u):Rp K (hid H O0) v u:=r.same (aW R.old)
theorem aN(b:Ev X H0 O0 ps e u)(h:D.rt (.val u)):W1 X H0 O0 E (.Return (some e) pos) D ps:=
 PS.mono (l0 b) λd c H ⟨L,O,R⟩=>⟨O,R,λv a s r=>L.rt _ h v a (R.same.trans s) ((R.go s).ret r)⟩
theorem dZ(g:EvN X H0 O0 ps e xs)(h:D.rt (.new xs)):W1 X H0 O0 E (.Return (some e) pos) D ps:=
 PS.mono (l0 g) λj i H ⟨L,O,R⟩=>⟨O,R,λa c f s n q r=>L.rt _ h a c f (R.same.trans s) (R.same.free n) q (r.same (aW λb d=>by
  rcases JN.mp d with y |y
  .subst y;exact JP
  .exact JL _ (R.old b y)))⟩
theorem mh(i:Nat){x:Str}(j:ps[i]?=some (some (.own xs)))(h:D.rt (.new xs))(o:X.N[i]?=some x:=by rfl)(l:Vis X.env.scope x:=by first |exact Or.inl rfl |exact Or.inr (Or.inl rfl) |exact Or.inr (Or.inr rfl))(k:(x==("__debug__":Str))=false:=by decide)
  (VD:(x==("__classdict__":Str))=false:=by decide):W1 X H0 O0 E (.Return (some (.Name x p)) pos) D ps:=
 PS.mono (l0 (d9 o l k VD)) λr s H m=>by
  obtain⟨L,O,R⟩:=m;obtain⟨v,f,a,d,rfl,c,q,g,n⟩:=R.at_ i _ j;refine⟨_,f,L.rt _ h a d H R.same ((R.new a c).resolve_left q) g (n.same (aW λb e=>?_))⟩;rcases JN.mp e with y |y
  .subst y;exact c
  .exact R.old b y
theorem gX(a:Ev X H0 O0 ps e u)(h:D.nx ps)(hs:Mn e none pos.line X.env=pure false:=by rfl):W1 X H0 O0 E (.Expr e pos) D ps:=
 PS.mono (pw a hs) λc b H ⟨L,O,R⟩=>⟨O,R,λv d s r=>L.nx _ _ _ O (R.go s) h⟩
theorem gN(i){x:Str}(d:ps[i]?=some (some (.own xs)))(l:Ev X H0 O0 ps e u)(k:xs.length<sizeLine)(h:D.nx (ps.set i (some (.own (xs++[u])))))
  (hN:X.N[i]?=some x:=by rfl) (hv:Vis X.env.scope x:=by first |exact Or.inl rfl |exact Or.inr (Or.inl rfl) |exact Or.inr (Or.inr rfl)) (hd:(x==("__debug__":Str))=false:=by decide) (VD:(x==("__classdict__":Str))=false:=by decide)
  (Vr:Lc (.Name x xp) "append" X.env (LD (.Name x xp) X.env)=LD (.Name x xp) X.env:=by rfl)
  (VL:((Ll Vc (JO [e] X.env)).all (λx=>!x.1) && (Na Vc (LG [] X.env)).all (λx=>x.1.isSome) && decide ([e].length+([]:List M7).length+(if ([]:List M7).isEmpty then 0 else 1)<30))=true:=by rfl)
  (Vs:(Vg.endLine==Vc.line)=true:=by rfl) (WK:JO [e] X.env=(false,LD e X.env)::JO [] X.env:=by rfl) (Vv:(Ll Vc (JO [] X.env)).any (·.1)=false:=by rfl)
  (hs:Mn (.Call (.Attribute (.Name x xp) "append" Vg) [e] [] Vc) none pos.line X.env=pure false:=by rfl):W1 X H0 O0 E (.Expr (.Call (.Attribute (.Name x xp) "append" Vg) [e] [] Vc) pos) D ps:=
 PS.mono (pw (wG Qn PySem.F.slot_list_append PySem.F.type_list_append jM (d9 hN hv hd VD) (bH l cU WK) Vr VL Vs WK Vv) hs) λn o H j=>by
  obtain⟨L,O,R⟩:=j;obtain⟨v,b,a,g,rfl,m,q,c,f⟩:=R.at_ i _ d;refine⟨_,b,.inl ⟨rfl,_,SqL.of c⟩,O,R,λw p s r=>⟨a,g,w,rfl,rfl,s _ _ c,by rw[f.len];exact k,?_⟩⟩;exact L.nx _ _ _ O ((R.go s).write d b ((f.same (aF s)).snoc (.cons r .nil))) h
theorem Fh(i){x:Str}(k:ps[i]?=some (some (.own xs)))(n:xs≠[])(h:D.nx (ps.set i (some (.own xs.dropLast))))
  (hN:X.N[i]?=some x:=by rfl) (hv:Vis X.env.scope x:=by first |exact Or.inl rfl |exact Or.inr (Or.inl rfl) |exact Or.inr (Or.inr rfl)) (hd:(x==("__debug__":Str))=false:=by decide) (VD:(x==("__classdict__":Str))=false:=by decide)
  (Vr:Lc (.Name x xp) "pop" X.env (LD (.Name x xp) X.env)=LD (.Name x xp) X.env:=by rfl)
  (Vs:(Vg.endLine==Vc.line)=true:=by rfl)
  (hs:Mn (.Call (.Attribute (.Name x xp) "pop" Vg) [] [] Vc) none pos.line X.env=pure false:=by rfl):W1 X H0 O0 E (.Expr (.Call (.Attribute (.Name x xp) "pop" Vg) [] [] Vc) pos) D ps:=
 PS.mono (pw (y9 Qn PySem.F.slot_list_pop PySem.F.type_list_pop Fq (d9 hN hv hd VD) Vr Vs) hs) λq r H o=>by
  obtain⟨L,O,R⟩:=o;obtain⟨v,f,a,b,rfl,p,s,g,e⟩:=R.at_ i _ k;have l:0<b.length:=by rw[e.len];exact K_.mpr n
  have m:b.length-1<b.length:=by lia
  refine⟨_,f,.inl ⟨rfl,_,SqL.of g⟩,a,b,b[b.length-1],rfl,rfl,g,JG m,?_⟩;refine L.nx _ _ _ O (R.write k f ⟨by simp[e.len],λj v x d c=>?_⟩) h;rw[MU]at d c;split at d
  .split at c
   .exact e.at_ j v x d c
   .cases c
  .cases d
end
noncomputable def mR:List Nat->TGs
 |[]=>Hc
 |j::js=>EE (lZ j) (mR js)
noncomputable def setAll:PSt->List Nat->List U->PSt
 |ps,j::js,u::us=>setAll (ps.set j (some (.val u))) js us
 |ps,_,_=>ps
noncomputable def kZ:St->List Nat->List V->St
 |σ,j::js,u::us=>kZ (σ.set j (some u)) js us
 |σ,_,_=>σ
theorem Rs.setAll{K:JI}:∀{js}{ps}{c}{a}{b},Rs K H0 O0 ps c H O->Rps K (hid H O) a b->Rs K H0 O0 (L2.setAll ps js b) (kZ c js a) H O
 |[],ps,c,a,b,R,r=>by cases b <;>cases a <;>exact R
 |j::js,ps,c,a,[],R,r=>by rw[r.nil_inv];exact R
 |j::js,ps,c,a,u::b,R,r=>by
  obtain⟨v,f,rfl,d,e⟩:=r.cons_inv;exact Rs.setAll (js:=js) (R.set d) e
theorem ff:∀{b}{σ}{a},a.length=b.length->Q (kZ σ b a) H->mR b a σ H Q
 |[],σ,[],_,q=>⟨rfl,q⟩
 |j::b,σ,v::a,e,q=>⟨v,a,rfl,ff (by simpa using e) q⟩
 |[],_,_::_,e,_=>by simp at e
 |_::_,_,[],e,_=>by simp at e
def TgS(X:Cx)(b:Hp)(d:List Kb)(g:Expr)(e:PSt)(u:U)(h:PSt):Prop:=
 PG X g λv f H Q=>∃O,Rs X.K b d e f H O/\Rp X.K (hid H O) v u/\∀c a,aI H a->Rs X.K b d h c a O->Q c a
theorem PG.mono(h:PG X e t)(m:∀v a H Q,t' v a H Q->t v a H Q):PG X e t':=λb s a H v u Q I r q=>h b s a H v u Q I r (m v a H Q q)
theorem PI.mono(h:PI X tg e t)(m:∀a H Q,t' a H Q->t a H Q):PI X tg e t':=λb s a H Q I q=>h b s a H Q I (m a H Q q)
def Yl(K:JI)(J:It)(G:Hp)(xs:List U):Prop:=
 ∀a,aI G a->(∀i,i<xs.length->J.go i a/\∀x b,J.yld i a x b->b=a/\∃u,xs[i]?=some u/\Rp K G x u)/\J.stop xs.length a
def EvI(X:Cx)(d:Hp)(g:List Kb)(c:PSt)(f a:Expr)(xs:List U):Prop:=
 PI X f a λe H R=>∃O,Rs X.K d g c e H O/\∀J b,aI H b->Yl X.K J (hid b O) xs->R J b
section
variable {X:Cx}{H0:Hp}{O0:List Kb}{E:XK}{ps Vw:PSt}{D:PD}{s:Mm}{ss:List Mm}{a b c e tg iter:Expr}{pos p:Pos}{u x y:U}{xs ys us:List U}{k:Bool}
theorem j4{x:Str}(a:X.N.Nodup)(c:X.N[i]?=some x)(d:Loc X.env.scope x)(b:X.fn x=true\/X.env.scope.names.lookup x=some .local:=by first |exact .inl rfl |exact .inr rfl |assumption):TgS X H0 O0 (.Name x pos) ps u (ps.set i (some (.val u))):=
 PG.mono (aR a c d b) λv e H Q ⟨O,R,r,q⟩=>q _ H (.refl H) (R.set r)
theorem Iz{k:Nat}(js)(i:X.calm=true)(h:PGs X es (mR js))(b:us.length=js.length)(g:(MX es X.env).length=js.length:=by rfl)(d:(MX es X.env).findIdx? (·.1)=none:=by rfl):TgS X H0 O0 (.Tuple es k pos) ps (.tup us) (setAll ps js us):=
 PG.mono (jO i h g d) λv j H Q e=>by
  obtain⟨O,R,r,q⟩:=e;cases r with
  |tup c a f=>exact⟨_,_,rfl,aH.tup c,a.trans b,ff (a.trans b) (q _ H (.refl H) (R.setAll ⟨a,f⟩))⟩
theorem HD{k:Nat}(js)(g:X.calm=true)(h:PGs X es (mR js))(i:x=.lst us\/x=.scr us)(b:us.length=js.length)(f:(MX es X.env).length=js.length:=by rfl)(j:(MX es X.env).findIdx? (·.1)=none:=by rfl):TgS X H0 O0 (.Tuple es k pos) ps x (setAll ps js us):=
 PG.mono (Gy g h f j) λv l H Q e=>by
  obtain⟨O,R,r,q⟩:=e;rcases i with rfl |rfl
  .cases r with
   |lst c a d=>exact⟨_,_,rfl,aH.seq (SqL.of c),a.trans b,ff (a.trans b) (q _ H (.refl H) (R.setAll ⟨a,d⟩))⟩
  .cases r with
   |scr c a d=>exact⟨_,_,rfl,aH.seq c,a.trans b,ff (a.trans b) (q _ H (.refl H) (R.setAll ⟨a,d⟩))⟩
theorem Ie(a:Ev X H0 O0 ps e u)(d:TgS X H0 O0 tg ps u Vw)(h:D.nx Vw)(hs:Qk [tg] e pos.line X.env=pure false:=by rfl)(c:Ql [tg] e X.env=pure none:=by rfl)
  (h1:(MX [tg] X.env).map (·.2)=[assign tg X.env]:=by rfl):W1 X H0 O0 E (.Assign [tg] e pos) D ps:=
 PS.mono (Fl a d hs c h1) λi k H ⟨L,O,R⟩=>⟨O,R,λv m f b=>⟨O,R.go f,b,λj l g R2=>L.nx _ _ _ O R2 h⟩⟩
theorem HC{x y:Str}{kt k2 pt2}(m:X.calm=true)(k:X.N.Nodup)(g:X.N[i]?=some x)(e:X.N[j]?=some y)(d:i≠j)
  (hx:X.env.scope.names.lookup x=some .local) (hy:X.env.scope.names.lookup y=some .local) (ha:EvA X H0 O0 ps [a,b] [u,w])
  (hw:Ql [.Tuple [.Name x px,.Name y py] kt pt] (.Tuple [a,b] k2 pt2) X.env=pure (some [x,y])) (h:D.nx ((ps.set i (some (.val u))).set j (some (.val w))))
  (hs:Qk [.Tuple [.Name x px,.Name y py] kt pt] (.Tuple [a,b] k2 pt2) pos.line X.env=pure false:=by rfl):
  W1 X H0 O0 E (.Assign [.Tuple [.Name x px,.Name y py] kt pt] (.Tuple [a,b] k2 pt2) pos) D ps:=
 PS.mono (F4 m k g e d hx hy ha hw hs) λp q H ⟨L,O,R⟩=>⟨O,R,λo r l f=>by
  obtain⟨v,z,rfl,c,n⟩:=jx f;exact⟨v,z,rfl,L.nx _ _ _ O (((R.go l).set c).set n) h⟩⟩
theorem df(m:Ev X H0 O0 ps iter x)(n:x=.lst xs\/x=.scr xs):EvI X H0 O0 ps tg iter xs:=
 PI.mono (Du m) λp H Q ⟨O,R,q⟩=>⟨O,R,λv k s r=>by
  have e:∃a b,v=.ref a/\SqL X.K (hid k O) a b/\Rps X.K (hid k O) b xs:=by
   rcases n with rfl |rfl
   .cases r with
    |lst c h j=>exact⟨_,_,rfl,SqL.of c,h,j⟩
   .cases r with
    |scr c h j=>exact⟨_,_,rfl,c,h,j⟩
  obtain⟨a,b,rfl,c,g⟩:=e;refine⟨a,rfl,⟨b,aH.seq c⟩,q _ k s λt d=>⟨λi f=>?_,⟨b,d.seq c,by rw[g.len];exact JR _⟩⟩⟩;have l:i<b.length:=by rw[g.len];exact f
  refine⟨⟨b,b[i],d.seq c,JG l⟩,λz o y=>⟨y.1,xs[i],JG f,g.at_ i z _ (y.2 b (d.seq c)) (JG f)⟩⟩⟩
theorem EO(j:Ev X H0 O0 ps iter (.tup xs)):EvI X H0 O0 ps tg iter xs:=
 PI.mono (Fn j) λn H Q ⟨O,R,q⟩=>⟨O,R,λv g s r=>by
  cases r with
  | @tup a b _ c k l=>
   have f:Rps X.K (hid g O) b xs:=⟨k,l⟩;refine⟨a,rfl,⟨b,aH.tup c⟩,q _ g s λo d=>⟨λi e=>?_,⟨b,d.tup c,by rw[f.len];exact JR _⟩⟩⟩;have h:i<b.length:=by rw[f.len];exact e
   refine⟨⟨b,b[i],d.tup c,JG h⟩,λz m y=>⟨y.1,xs[i],JG e,f.at_ i z _ (y.2 b (d.tup c)) (JG e)⟩⟩⟩
noncomputable def f7(a:Int)(n:Nat):List U:=(Kr n).map λ(i:Nat)=>U.int (a+(i:Int))
theorem dX{a:Int}:(f7 a n).length=n:=by simp[f7]
theorem nS{a:Int}(h:i<n):(f7 a n)[i]?=some (.int (a+(i:Int))):=by
 unfold f7;rw[JQ,LV h];rfl
theorem iC{b:Int}(h:(f7 b n)[i]?=some x):i<n/\x=.int (b+(i:Int)):=by
 have a:=aT h;rw[dX]at a;rw[nS a]at h;exact⟨a,(KG h).symm⟩
theorem rF{K:JI}{a:Int}:Yl K (Itr a n) G (f7 a n):=λd c=>by
 rw[dX];refine⟨λi b=>⟨b,λz e y=>⟨y.1,_,nS b,?_⟩⟩,JR _⟩;rw[y.2];exact .int _
theorem sO(d:Gl X "range")(c:X.mg "range"=none)(f:EvA X H0 O0 ps [a] [.int j])(b:-(2 ^ 62)≤j)(g:j<2 ^ 62)(hs:JO [a] X.env=[(false,LD a X.env)]:=by rfl):EvI X H0 O0 ps tg (.Call (.Name "range" p) [a] [] pos) (f7 0 j.toNat):=
 PI.mono (yP d c f hs) λk H Q ⟨O,R,q⟩=>⟨O,R,λi e s r=>by
  obtain⟨v,rfl,h⟩:=cM r;cases h;exact⟨j,rfl,b,g,q _ e s rF⟩⟩
theorem Ai(e:Gl X "range")(d:X.mg "range"=none)(k:EvA X H0 O0 ps [a,b] [.int i,.int j])(h:-(2 ^ 62)≤i∧i<2 ^ 62∧-(2 ^ 62)≤j∧j<2 ^ 62)(hs:JO [a,b] X.env=[(false,LD a X.env),(false,LD b X.env)]:=by rfl)(c:JO [b] X.env=[(false,LD b X.env)]:=by rfl):
  EvI X H0 O0 ps tg (.Call (.Name "range" p) [a,b] [] pos) (f7 i (j-i).toNat):=
 PI.mono (yC e d k hs c) λm H Q ⟨O,R,q⟩=>⟨O,R,λl g s r=>by
  obtain⟨v,w,rfl,k1,f⟩:=jx r;cases k1;cases f;exact⟨i,j,rfl,h,q _ g s rF⟩⟩
theorem Rs.rebase{K:JI}(R:Rs K H0 O0 ps σ H O):Rs K (hid H (O.filter λa=>decide (a ∉ O0))) O0 ps σ H O:=
 ⟨aH,R.old,λa b=>by
  by_cases h:a∈O0
  .exact .inl h
  .right;unfold hid;rw[if_pos (KN.mpr ⟨b,by simpa using h⟩)],R.dom,R.len,R.at_,R.inj⟩
theorem Rs.base{K:JI}(R:Rs K H0 O0 ps σ H O):aI H0 (hid H (O.filter λa=>decide (a ∉ O0))):=λb o h=>by
 refine bS (R.same b o h) λz=>?_;obtain⟨c,d⟩:=KN.mp z;rcases R.new b c with y |y
 .simp[y]at d
 .rw[h]at y;cases y
theorem Rs.unbase{K:JI}(e:aI H0 H1)(R:Rs K H1 O0 ps σ H O):Rs K H0 O0 ps σ H O:=
 ⟨e.trans R.same,R.old,λa b=>(R.new a b).imp id λz=>e.free z,R.dom,R.len,R.at_,R.inj⟩
theorem Rs.seen{K:JI}(R:Rs K H0 O0 ps σ H O)(c:Rs K (hid H (O.filter λa=>decide (a ∉ O0))) O0 WR σ2 H2 O2):aI (hid H O) (hid H2 O2):=λb o h=>by
 obtain⟨f,e⟩:=gR h;have d:hid H (O.filter λa=>decide (a ∉ O0)) b=some o:=bS f λz=>e (KN.mp z).1;refine bS (c.same b o d) λz=>?_;rcases c.new b z with y |y
 .exact e (R.old b y)
 .rw[d]at y;cases y
theorem HX(T:X.calm=true)(U:Ph (Kk X.prog X.w) X.A X.env X.xe)(Z:EvI X H0 O0 ps tg iter xs)(d:Nat->PSt->Prop)(W:d 0 ps)
  (hs:∀H0 i x ps,xs[i]?=some x->d i ps->∃Vw,TgS X H0 O0 tg ps x Vw/\Ws X H0 O0 E Vk {D with nx:=d (i+1),ct:=d (i+1),bk:=D.nx } Vw) (hd:∀ps,d xs.length ps->D.nx ps)
  (hf:∀x,KL iter X.env x=pure x:=by intro _;rfl):W1 X H0 O0 E (.For tg iter Vk [] pos) D ps:=by
 have hg:PG X tg λv b H Q=>∃c ps u Vw,TgS X c O0 tg ps u Vw/\∃O,Rs X.K c O0 ps b H O/\Rp X.K (hid H O) v u/\∀g f,aI H f->Rs X.K c O0 Vw g f O->Q g f:=
  λl s b H v u Q I r ⟨c,ps,w,Vw,t,z⟩=>t l s b H v u Q I r z
 have M:PSs X Vk λh b H=>∃c n Vw,Ws X c O0 E Vk n Vw/\Lf X.K c O0 E n h/\∃O,Rs X.K c O0 Vw b H O:=λl s b H h I ⟨c,n,Vw,w,z⟩=>w l s b H h I z;refine PS.mono (AH U T Z hg M hf) λh b H ⟨L,O,R⟩=>⟨O,R,λJ c s1 Y=>?_⟩
 have B:=R.go s1;have base:=B.base;refine⟨λi m b H=>m=xs.length-i/\i<=xs.length/\∃ps k,d i ps/\Rs X.K (hid c (O.filter λa=>decide (a ∉ O0))) O0 ps b H k,⟨_,rfl,Kv _,ps,O,W,B.rebase⟩,?_⟩;rintro i m σ2 H2 ⟨rfl,VP,j,F,G,R2⟩;have seen:=B.seen R2;obtain⟨V,N⟩:=Y H2 (seen.trans aH);by_cases C:i<xs.length
 .obtain⟨g1,g2⟩:=V i C;refine .inr ⟨g1,λg f=>∃ps k,d (i+1) ps/\Rs X.K (hid c (O.filter λa=>decide (a ∉ O0))) O0 ps g f k,λg f z=>⟨xs.length-(i+1),by lia,rfl,C,z⟩,λx S y=>?_⟩;obtain⟨rfl,u,P,r⟩:=g2 x S y;obtain⟨Vw,t,w⟩:=hs (hid c (O.filter λa=>decide (a ∉ O0))) i u j P G;refine⟨_,j,u,Vw,t,F,R2,r.same seen,λg f s' R'=>⟨_,_,Vw,w,?_,F,R'⟩⟩;exact⟨λp b H O R q=>⟨p,O,q,R⟩,λp b H O R q=>L.nx _ _ _ _ (R.unbase base) q,λp b H O R q=>⟨p,O,q,R⟩,λo q=>(L.rt o q).later base⟩
 .have e:i=xs.length:=by lia
  subst e;exact .inl ⟨N,L.nx _ _ _ _ (R2.unbase base) (hd j G)⟩
theorem Ea(u:Ph (Kk X.prog X.w) X.A X.env X.xe)(e:Nat->PSt->Prop)(m)(v:e m ps)
  (hs:∀m ps,e m ps->∃b,Tt X H0 O0 ps c b/\(b=true->Ws X H0 O0 E Vk {D with nx:=λp=>∃d,d<m/\e d p,ct:=λp=>∃d,d<m/\e d p,bk:=D.nx } ps)/\(b=false->D.nx ps)):W1 X H0 O0 E (.While c Vk [] pos) D ps:=by
 have C:PT X c λa H Q=>∃ps b,Tt X H0 O0 ps c b/\∃O,Rs X.K H0 O0 ps a H O/\∀i,aI H i->Q b i:=λh s a H Q I ⟨ps,b,t,z⟩=>t h s a H Q I z;have o:PSs X Vk λf a H=>∃j Vw,Ws X H0 O0 E Vk j Vw/\Lf X.K H0 O0 E j f/\∃O,Rs X.K H0 O0 Vw a H O:=λh s a H f I ⟨j,Vw,w,z⟩=>w h s a H f I z;refine PS.mono (AN u C o) λf a H ⟨L,O,R⟩=>⟨λm a H=>∃ps O,e m ps/\Rs X.K H0 O0 ps a H O,⟨m,ps,O,v,R⟩,?_⟩
 rintro m y J ⟨g,k,x,R2⟩;obtain⟨b,t,r,B⟩:=hs m g x;refine⟨g,b,t,k,R2,λG n=>?_⟩;cases b with
 |true=>
  refine oW ⟨λa H=>∃d,d<m/\∃ps O,e d ps/\Rs X.K H0 O0 ps a H O,λF i z=>z,_,g,r rfl,?_,k,R2.go n⟩;exact⟨λp a H O R ⟨d,l,q⟩=>⟨d,l,p,O,q,R⟩,λp a H O R q=>L.nx _ _ _ _ R q,λp a H O R ⟨d,l,q⟩=>⟨d,l,p,O,q,R⟩,L.rt⟩
 |false=>exact mY (L.nx _ _ _ _ (R2.go n) (B rfl))
noncomputable def dA:List Nat->PSt->PSt
 |[],ps=>ps
 |i::is,ps=>dA is (ps.set i none)
theorem Rs.mask{K:JI}:∀{is}{ps}{a},Rs K H0 O0 ps a H O->Rs K H0 O0 (dA is ps) (L2.mask is a) H O
 |[],ps,a,R=>R
 |i::is,ps,a,R=>Rs.mask (is:=is) (R.drop)
theorem Rs.hide{K:JI}(R:Rs K H0 O0 ps σ H O)(e:aI H H')(n:H l=none)(d:H' l≠none):Rs K H0 O0 ps σ H' (l::O):=by
 refine⟨R.same.trans e,λa c=>JL _ (R.old a c),λa c=>?_,λa c z=>?_,R.len,λi s h=>?_,R.inj⟩
 .rcases JN.mp c with y |y
  .subst y;exact .inr (R.same.free n)
  .exact R.new a y
 .rcases JN.mp c with y |y
  .subst y;exact d z
  .exact R.dom a y (e.free z)
 .obtain⟨w,p,f⟩:=R.at_ i s h;refine⟨w,p,?_⟩;cases s with
  |val u=>exact Rp.same (ba e n) f
  |own ys=>
   obtain⟨b,q,k1,m,j,g,k⟩:=f;exact⟨b,q,k1,JL _ m,j,e _ _ g,k.same (ba e n)⟩
  |pin z u=>exact⟨f.1,Rp.same (ba e n) f.2⟩
  |dsk w C b d v=>obtain⟨r,o,k1,m,j,g,k,t⟩:=f;exact⟨r,o,k1,JL _ m,j,e _ _ g,e _ _ k,t.same (ba e n)⟩
theorem sF{js is:List Nat}:∀{b}{a},(∀j∈js,j∈is)->∀n v,n ∉ is->b[n]?=some (some v)->(kZ b js a)[n]?=some (some v):=by
 induction js with
 |nil=>intro b a _ n v _ h;cases a <;>exact h
 |cons j js f=>
  intro b a c n v d h;cases a with
  |nil=>exact h
  |cons w g=>exact f (λz e=>c z (JL _ e)) n v d (by rw[Ki (λz=>d (by rw[<-z];exact c j JP))];exact h)
def GOk(g:TG)(K:JI)(is:List Nat)(f:PSt->U->PSt)(c:U->Prop):Prop:=
 ∀(H0:Hp) (O0:List Kb) (ps:PSt) (a:St) (H:Hp) (O:List Kb) (v:V) (u:U) (Q:St->Hp->Prop),c u->Rs K H0 O0 ps a H O->Rp K (hid H O) v u->
  (∀b,Rs K H0 O0 (f ps u) b H O->(∀(n:Nat) (w:V),n ∉ is->a[n]?=some (some w)->b[n]?=some (some w))->Q b H)->g v a H Q
theorem bN{K:JI}(h:i∈is):GOk (lZ i) K is (λps u=>ps.set i (some (.val u))) λ_=>True:=λH0 O0 ps b H O v u Q _ R r q=>
 q _ (R.set r) λn w a e=>by rw[Ki (λz=>a (by rw[<-z];exact h))];exact e
theorem i7{K:JI}(h:∀j∈js,j∈is):GOk (Iu K js.length (mR js)) K is (λps u=>match u with | .tup us=>setAll ps js us |_=>ps) λu=>∃us,u=.tup us/\us.length=js.length:=λH0 O0 ps i H O v u Q d R r q=>by
 obtain⟨us,rfl,b⟩:=d;cases r with
 |tup c a f=>exact⟨_,_,rfl,aH.tup c,a.trans b,ff (a.trans b) (q _ (R.setAll ⟨a,f⟩) λn w g e=>sF h n w g e)⟩
theorem oV(M:GOk g X.K is f dom)(P:Rs X.K H0 O0 ps σ H1 O)(Y:Yl X.K J (hid H1 O) xs)(F:ys.length=xs.length)(T:xs.length<=sizeLine)(N:∀x∈xs,dom x)
  (Xd:∀(i:Nat) x y σ H B Q,xs[i]?=some x->ys[i]?=some y->Rs X.K H0 O0 (f (dA is ps) x) σ H B->(∀v c,aI H c->Rp X.K (hid c B) v y->Q v c)->te σ H Q)
  (Vn:∀a b c,aI H1 c->H1 a=none->c a=some (.lst b)->Rps X.K (hid c (a::O)) b ys->Q (.ref a) c):wo is g te σ Q J H1:=by
 intro l h;refine⟨λi m d=>m=xs.length-i/\i<=xs.length/\aI H1 d/\∃b,d l=some (.lst b)/\b.length=i/\Rps X.K (hid d (l::O)) b (ys.take i),⟨_,rfl,Kv _,aO h _,[],aG,rfl,by rw[OJ];exact .nil⟩,?_⟩;rintro i m d ⟨rfl,U,k,b,q,A,p⟩;have seen:aI (hid H1 O) (hid d (l::O)):=ba k h;obtain⟨G,C⟩:=Y d (seen.trans aH);by_cases s:i<xs.length
 .obtain⟨I,L⟩:=G i s;refine .inr ⟨I,λx n y=>?_⟩;obtain⟨rfl,u,t,r⟩:=L x n y;have R2:=(P.mask (is:=is)).hide k h (by rw[q];intro z;cases z);refine M H0 O0 _ _ n (l::O) x u _ (N u (J8 t)) R2 (r.same seen) λR E keep=>?_;have hy:ys[i]?=some (ys[i]'(by lia)):=JG _;refine Xd i u _ R n (l::O) _ t hy E λv S o D=>⟨λj w e=>keep j w (gP is σ j w e).2 e,b,o _ _ q,?_,xs.length-(i+1),by lia,rfl,s,(k.trans o).put h _,b++[v],aG,by simp[A],?_⟩
  .rw[A];lia
  .rw[jC JP,M9,hy];exact (p.same (aF o)).snoc (.cons D .nil)
 .have e:i=xs.length:=by lia
  subst e;rw[<-F,MY]at p;exact .inl ⟨C,Vn l b d k h q p⟩
theorem cZ(A:X.calm=true)(B:cL X U9 cl is)(o:EvI X H0 O0 ps tg iter xs)(u:∀C s H fp,PG (aK X U9 cl C s H fp) tg g)(D:GOk g X.K is f dom)
  (Vi:ys.length=xs.length) (hz:xs.length<=sizeLine) (VZ:∀x∈xs,dom x) (he:∀C s H fp (i:Nat) (x y:U),xs[i]?=some x->ys[i]?=some y->Ev (aK X U9 cl C s H fp) H0 O0 (f (dA is ps) x) elt y)
  (hs:∀x,KL iter X.env x=pure x:=by intro _;rfl):EvN X H0 O0 ps (.ListComp elt [⟨tg,iter,[],0⟩] U9 pos) ys:=by
 have m:∀C s H fp,PE (aK X U9 cl C s H fp) elt λc H Q=>∃i x y,xs[i]?=some x/\ys[i]?=some y/\∃d,Rs X.K H0 O0 (f (dA is ps) x) c H d/\∀v b,aI H b->Rp X.K (hid b d) v y->Q v b:=
  λC s H fp t p c b Q I ⟨i,x,y,e,k,z⟩=>he C s H fp i x y e k t p c b Q I z
 refine PE.mono (CV A B o u m hs) λc H Q ⟨O,R,q⟩=>⟨O,R,λJ E j Y=>?_⟩
 exact oV D (R.go j) Y Vi hz VZ (λi x y c H d Q e k w z=>⟨i,x,y,e,k,d,w,z⟩) λa l b s n h r=>q a l b (j.trans s) (j.free n) h r
end
noncomputable def spU(K:JI)(d:List U->Out->Prop):Sp:=λc H Q E=>∃b O o,(∀a∈O,H a≠none)/\Rps K (hid H O) c b/\d b o/\n_ K H O Q E o
section
variable {X:Cx}{H0:Hp}{O0:List Kb}{E:XK}{ps Vw:PSt}{D:PD}{s:Mm}{ss:List Mm}{a b c e:Expr}{pos p:Pos}{u x y:U}{xs ys us:List U}{k:Bool}
 {CX:CXT}{n:Nat}{f C:Kb}{fd:MT}{pn:List Str}{Vf:List U->Out->Prop}{nm:Str}
theorem G4(F:bV X.prog X.w X.K X.mg X.base CX n f fd pn (spU X.K Vf))(m:bu n X.A)(l:Gl X nm)(j:X.mg nm=some (.ref f))(o:LK X.K (.ref f)=true)(d:bX X.K fd pn [])(s:bR CX X E0)
  (ha:EvA X H0 O0 ps (e::es) us) (h:Vf us (.val u)) (VF:(nm==("__debug__":Str))=false:=by decide) (he:JO (e::es) X.env=(false,LD e X.env)::JO es X.env:=by rfl) (VA:(Ll pos (JO es X.env)).any (·.1)=false:=by rfl):
  Ev X H0 O0 ps (.Call (.Name nm p) (e::es) [] pos) u:=
 PE.mono (wH F m l j o d .nil s ha VF he VA) λt H Q ⟨O,R,q⟩=>⟨O,R,λb r a g=>by
  show spU X.K Vf (b++[]) r Q _;rw[L5];exact⟨us,O,.val u,(R.go a).dom,g,h,λv k c i=>q v k (a.trans c) i⟩⟩
theorem BG(F:bV X.prog X.w X.K X.mg X.base CX n f fd pn (spU X.K Vf))(o:bu n X.A)(m:Gl X nm)(k:X.mg nm=some (.ref f))(s:LK X.K (.ref f)=true)(g:bX X.K fd pn [])(t:bR CX X E0)
  (ha:EvA X H0 O0 ps (e::es) us) (h:Vf us (.new xs)) (VF:(nm==("__debug__":Str))=false:=by decide) (he:JO (e::es) X.env=(false,LD e X.env)::JO es X.env:=by rfl) (VA:(Ll pos (JO es X.env)).any (·.1)=false:=by rfl):
  EvN X H0 O0 ps (.Call (.Name nm p) (e::es) [] pos) xs:=
 PE.mono (wH F o m k s g .nil t ha VF he VA) λx H Q ⟨O,R,q⟩=>⟨O,R,λb u c i=>by
  show spU X.K Vf (b++[]) u Q _;rw[L5];exact⟨us,O,.new xs,(R.go c).dom,i,h,λa b l d r v j=>q a b l (c.trans d) (c.free r) v j⟩⟩
end
section
variable {P:J2}{w:Kt}{K:JI}{mg:Str→Option J0}{base:Mf}{N pn:List Str}{Vd nm:Str}{U9:RZ}{f:Kb}{cd:J0}{A:K7}{outer:List Env}{s:JY}{H H0:Hp}{O0:List Kb}{E:XK}{D:PD}{ps:PSt}{u:U}
noncomputable def de(N:List Str)(a:List U):PSt:=a.map (λu=>some (.val u))++Kn (N.length-a.length) none
theorem IN{st:Mm}(F:Fun K nm Vd st f fd)(S:au N pn (ai st))(n:∀b o,Vf b o->b.length=pn.length)
  (VC:∀c A outer s H E O b o,bu k (A.deeper (Pl Vd (ai st) s.heap.objs.size f c))->Vf b o->
   Ws (iP (CXF P w) P w K mg base N Vd (ai st) f c A outer s H E) H O E (bA st) ⟨λ_=>o=.val .non,λp=>p=o,λ_=>False,λ_=>False⟩ (de N b)):bV P w K mg base (CXF P w) (k+1) f fd pn (spU K Vf):=by
 refine F.okF S (λt H Q E h=>?_) λc A outer s H t Q E x h=>?_
 .obtain⟨b,O,o,_,r,m,_⟩:=h;rw[r.len];exact n b o m
 .obtain⟨b,O,o,d,r,m,q⟩:=h;refine⟨_,VC c A outer s H E O b o x m,⟨λps G y D R e=>?_,λ_ _ _ _ _ e=>e.elim,λ_ _ _ _ _ e=>e.elim,λp e=>by subst e;exact q⟩,O,?_⟩
  .subst e;exact q .non y R.same .non
  .refine⟨.refl H,λa h=>h,λa h=>.inl h,d,?_,λi B e=>?_,λi j I J a l C _ _=>?_⟩
   .unfold start de;rw[Ko,Ko,JK,JK,Lj,Lj,r.len]
   .unfold de at e;by_cases g:i<b.length
    .rw[JZ (by simpa using g),JQ,JG g]at e
     cases e;obtain⟨v,u,z⟩:=r.get (JG g);refine⟨v,?_,z⟩;unfold start;rw[JZ (by simpa [r.len] using g),JQ,u];rfl
    .rw[J3 (by simpa using g),K8]at e
     split at e <;>cases e
   .exfalso
    unfold de at l;by_cases g:i<b.length
    .rw[JZ (by simpa using g),JQ,JG g]at l
     cases l
    .rw[J3 (by simpa using g),K8]at l
     split at l <;>cases l
end
section
variable {X:Cx}{H0:Hp}{O0:List Kb}{ps:PSt}{a b c e:Expr}{rest:List Expr}{pos p p2:Pos}{u x y:U}{xs ys us:List U}{i j:Int}{k m:Bool}{lo hi:Option Expr}{l h:Option Int}
def EvO(X:Cx)(H0:Hp)(O0:List Kb)(ps:PSt)(e:Option Expr)(n:Option Int):Prop:=PO X e λb H Q=>∃O,Rs X.K H0 O0 ps b H O/\∀a,aI H a->Q n a
theorem cj:EvO X H0 O0 ps none none:=λb s a H Q I ⟨O,R,q⟩=>CB b s a H Q I (q H (.refl H))
theorem ck(d:Ev X H0 O0 ps e (.int i)):EvO X H0 O0 ps (some e) (some i):=λb s a H Q I ⟨O,R,q⟩=>Dr d b s a H Q I ⟨O,R,λv c s r=>by cases r;exact⟨i,rfl,q c s⟩⟩
noncomputable def eK(xs:List U)(lo hi:Option Int):List U:=(xs.drop (HT.sIx xs.length 0 lo)).take (HT.sIx xs.length xs.length hi-HT.sIx xs.length 0 lo)
theorem Rps.drop{K:JI}(r:Rps K H vs xs)(n):Rps K H (vs.drop n) (xs.drop n):=⟨by simp[r.len],λi v x a b=>r.at_ _ v x (by rwa [Ms]at a) (by rwa [Ms]at b)⟩
theorem Rps.take{K:JI}(r:Rps K H vs xs)(n):Rps K H (vs.take n) (xs.take n):=⟨by simp[r.len],λi v x a b=>by
 by_cases c:i<n
 .rw[LY c]at a b;exact r.at_ i v x a b
 .rw[List.getElem?_take_eq_none (by lia)]at a
  cases a⟩
theorem Rps.cut{K:JI}(r:Rps K H vs xs):Rps K H (Aq vs l h) (eK xs l h):=by
 unfold Aq eK;rw[r.len];exact (r.drop _).take _
theorem bY(r:Ev X H0 O0 ps e x)(d:EvO X H0 O0 ps lo l)(f:EvO X H0 O0 ps hi h)(u:x=.lst xs\/x=.scr xs):EvN X H0 O0 ps (.Subscript e (.Slice lo hi none p2) pos) (eK xs l h):=
 PE.mono (qC CP r d f) λy H Q ⟨O,R,q⟩=>⟨O,R,λv o j n=>⟨O,R.go j,λz m=>⟨O,R.go (j.trans m),λw s=>by
  have k:∃a g,v=.ref a/\SqL X.K (hid o O) a g/\Rps X.K (hid o O) g xs:=by
   rcases u with rfl |rfl
   .cases n with
    |lst c d f=>exact⟨_,_,rfl,SqL.of c,d,f⟩
   .cases n with
    |scr c d f=>exact⟨_,_,rfl,c,d,f⟩
  obtain⟨a,g,rfl,c,t⟩:=k;have b:=m.trans s;refine⟨a,g,rfl,b.seq (aH.seq c),λp i=>q p _ _ ((j.trans b).trans (aO i _)) ((j.trans b).free i) aG ?_⟩;exact (t.cut.same (aF b)).same (ba (aO i _) i)⟩⟩⟩
theorem kq(n:Ev X H0 O0 ps a (.lst xs))(h:Ev X H0 O0 ps b (.lst ys))(l:xs.length+ys.length<=sizeLine):EvN X H0 O0 ps (.BinOp a .Add b pos) (xs++ys):=
 PE.mono (si G6 n h) λo H Q ⟨O,R,q⟩=>two R (λ_ _ _ z=>z) (λ_ _ _ z=>z) λv w r s _ i k=>by
  cases i with
  |lst j e m=>
   cases k with
   |lst g f d=>
    refine⟨_,_,_,_,rfl,rfl,aH _ _ j,aH _ _ g,by rw[e,f];exact l,λp c=>q p _ _ (s.trans (aO c _)) (s.free c) aG ?_⟩;exact (Rps.snoc ⟨e,m⟩ ⟨f,d⟩).same (ba (aO c _) c)
noncomputable def fl:U->V
 | .bl b=>.bl b | .int i=>.int i | .str x=>.str x |_=>.non
noncomputable def xU:U->Bool
 | .bl _=>true | .int _=>true | .str _=>true | .non=>true |_=>false
theorem Fb{K:JI}(h:Rp K H v u)(f:xU u=true):v=fl u/\iw v=true:=by
 cases h <;>first |exact⟨rfl,rfl⟩ |simp[xU]at f
theorem BJ{K:JI}:∀{vs}{xs},Rps K H vs xs->xs.all xU=true->vs=xs.map fl/\vs.all iw=true
 |vs,[],r,_=>by rw[r.nil_inv];exact⟨rfl,rfl⟩
 |vs,x::xs,r,f=>by
  obtain⟨v,h,rfl,a,d⟩:=r.cons_inv;simp only[Pb,K3]at f;obtain⟨e,g⟩:=Fb a f.1;obtain⟨b,c⟩:=BJ d f.2;refine⟨by rw[J6,<-e,<-b],?_⟩;simp only[Pb,K3];exact⟨g,c⟩
theorem vn(n:xU x=true)(g:y.items=some ys)(u:ys.all xU=true):OpS X (KO .In) x y (.bl (inV (fl x) (ys.map fl))):=by
 intro k s j H v w p q Q I e f h;obtain⟨k1,m,c⟩:=h;obtain⟨a,b,rfl,d,r⟩:=vN m g;obtain⟨t,i⟩:=Fb k1 n;obtain⟨o,l⟩:=BJ r u;exact yQ k s j H v _ p q Q I e f ⟨a,b,rfl,d,i,l,by rw[t,o];exact c⟩
theorem ER{bs:List Bool}(C:X.calm=true):dS X (.builtin "all") [.lst (bs.map U.bl)] (.bl (bs.all id)):=by
 intro U8 s Y H T us Q I r f;obtain⟨O,d,J,q⟩:=f;obtain⟨v,rfl,B⟩:=cM J;obtain⟨p1,rfl,D⟩:=c8 r;cases B with
 | @lst a k _ f K M=>
  cases D;obtain⟨c,l,m,_⟩:=I.list (SqL.of (aH _ _ f));have E:c.length=bs.length:=by rw[<-l.length,K,JK]
  have g:∀(i:Nat) z,c.toArray[i]?=some z->z=.bool (bs.getD i false):=λi z e=>by
   have hi:i<c.length:=by have:=aT (show c[i]?=some z by simpa using e);exact this
   have n:i<bs.length:=by lia
   have t:i<k.length:=by rw[l.length];exact hi
   obtain⟨u,w,G⟩:=l.get (JG t);have P:=M i k[i] (.bl bs[i]) (JG t) (by rw[JQ,JG n];rfl);have L:c[i]?=some z:=by simpa using e
   rw[L]at w;cases w;generalize k[i]=wi at *;cases P;rw[JW,JG n];exact G
  refine call_all_walk (Lp m.isList ?_);have y:a≠s.heap.objs.size:=by obtain⟨o,e,_⟩:=m.isList;exact Kh (JU e)
  refine⟨s.heap.objs.size,_,_,_,_,_,λi=>bs.getD i false,rfl,Walks.list (A:=X.A.in1) (I.ok.hd C) s.heap.objs.size a y c.toArray,⟨⟨_,JT _ rfl,rfl,rfl⟩,m.isList.push _⟩,λi z Z W E' F R=>?_,λh' V N=>?_⟩
  .rw[g i z F];exact LA R
  .have e:(Kr c.toArray.size).all (λi=>bs.getD i false)=bs.all id:=by
    rw[J9,E,NN,n9,Nv];constructor
    .intro h x S;obtain⟨i,hi,rfl⟩:=RD S;have:=h i hi
     rwa [JW,JG hi]at this
    .intro h j p;rw[JW,JG p];exact h _ (OX p)
   rw[e];refine⟨.bl _,H,I.kept λb o e=>N b o ?_ (JJ _ e),rfl,q _ H (.refl H) (.bl _)⟩;intro z;have:b=s.heap.objs.size:=by simpa using z
   exact absurd (JU e) (by rw[this];exact KA _)
end
def x4(J:It)(is:List Nat)(g:TG)(o:TT)(r:TE)(k:St)(p:Hp)(l:Kb)(Q:VK):Prop:=
 ∃W:Nat->Nat->Hp->Prop,(∃m,W 0 m (upd p l (.lst [])))/\∀i m c,W i m c->
  (J.stop i c/\Q (.ref l) c)\/(J.go i c/\∀x h,J.yld i c x h->g x (mask is k) h λe q=>o e q λb f=>
   (∀(j:Nat) (v:V),(mask is k)[j]?=some (some v)->e[j]?=some (some v))/\
   if b=true then r e f λy n=>∃d,n l=some (.lst d)/\d.length<sizeLine/\∃a,a<m/\W (i+1) a (upd n l (.lst (d++[y]))) else ∃a,a<m/\W (i+1) a f)
def Cs(is:List Nat)(g:TG)(c:TT)(d:TE)(b:St)(Q:VK)(J:It)(a:Hp):Prop:=∀l,a l=none->x4 J is g c d b a l Q
noncomputable def B3(is:List Nat)(c:TI)(g:TG)(b:TT)(d:TE):TE:=λa H Q=>c a H (Cs is g b d a Q)
section
variable {X:Cx}{U8:List (Kb×Obj)}{σ:St}{H:Hp}{s:JY}
theorem yN{E:Expr}(hc:X.calm=true)(B:cL X U9 cl is)
  (hi:PI X tg iter wi) (hg:∀C s H fp,PG (aK X U9 cl C s H fp) tg g) (ht:∀C s H fp,PT (aK X U9 cl C s H fp) E tt) (he:∀C s H fp,PE (aK X U9 cl C s H fp) elt te) (hs:∀x,KL iter X.env x=pure x)
  (I:Inv X U8 σ H s) (h:B3 is wi g tt te σ H Q0)
  (Vn:∀l C j t m,Inv X U8 σ j t->t.heap.Ns C m->j C=none->C≠X.env.locals->C ∉ X.fs->X.s₀.heap.objs.size<=C->(∀x c,X.env.cells.lookup x=some c->c≠C)->(∀p∈X.pn++U8,p.1≠C)->Q0 (.ref l) j->
   Ue (Kk X.prog X.w) X.A X.xe use Q (.ref l) C (.ok .next) t):
  Kj (Kk X.prog X.w) X.A (comprehension (.ListComp elt [⟨tg,iter,[E],0⟩] U9 pos) U9 X.env pos0 (newList []) false (LD iter X.env) use) Q X.xe s:=by
 refine Qa rfl hs B.clos B.kind B.names (thn (hi U8 s σ H _ I h) λxv s1 h1=>thn h1 λitv a h2=>?_);obtain⟨it,fp,tn,J,F,e,I2,T,st2,f2,R⟩:=h2;subst e;refine Nd (O9 B.cell (by intro y hy;simp at hy) (λG XX Wc=>?_) B.kind);have hl:=I2.hok.fresh (JR _);obtain⟨W,⟨m0,w0⟩,turn⟩:=R a.heap.objs.size hl
 have M:Inv X U8 σ (upd F a.heap.objs.size (.lst [])) {a with heap:=a.heap.push {cls:=.type "list",dict:=none,data:=.seq [].toArray } }:=
  I2.laid (λb u e=>JJ _ e) (JR _) ⟨Kv _,[],0,.nil,JT _ rfl⟩
 have Z:∀b∈fp,b<a.heap.objs.size:=λb f=>let ⟨o,e,_⟩:=T.obj 0 _ st2 b f;JU e
 have S:∀b∈fp,eU X U8 (upd F a.heap.objs.size (.lst [])) b:=λb f=>⟨by rw[aD (Kh (Z b f))];exact (f2 b f).1,(f2 b f).2⟩
 have kp:∀b o,(a.heap.push {cls:=.type "list",dict:=none,data:=.seq [].toArray }).get? b=some o→G.get? b=some o:=λb o e=>
  Wc.extBut b o (Kh (JU e)) (JJ _ e)
 have st4:=T.keep 0 _ _ st2 λb _ o e=>kp b o (JJ _ e)
 have hfl3:∀b∈fp,b<(a.heap.push {cls:=.type "list",dict:=none,data:=.seq [].toArray }).objs.size:=λb f=>by
  rw[KU];exact LZ (Z b f)
 have I4:=ka (t':=a.toks+([]:List (Str×J0)).length) M B S hfl3 XX kp
 have K:NY (Kk X.prog X.w) X.A (.compLoop (.ListComp elt [⟨tg,iter,[E],0⟩] U9 pos) 0 (.ref it) (.ref a.heap.objs.size) (compEnvC U9 cl (a.heap.push {cls:=.type "list",dict:=none,data:=.seq [].toArray }).objs.size X.env))
   (Ue (Kk X.prog X.w) X.A X.xe use Q (.ref a.heap.objs.size) (a.heap.push {cls:=.type "list",dict:=none,data:=.seq [].toArray }).objs.size)
   {a with heap:=G,toks:=a.toks+([]:List (Str×J0)).length }:=by
  generalize Wy:({a with heap:=a.heap.push {cls:=.type "list",dict:=none,data:=.seq [].toArray } }:JY)=k at *
  have hC:(a.heap.push {cls:=.type "list",dict:=none,data:=.seq [].toArray }).objs.size=k.heap.objs.size:=by rw[←Wy]
  rw[hC]
  have V8:∀{j},(∀b∈fp,j b=none)->∀b∈fp,eU (aK X U9 cl k.heap.objs.size k (upd F a.heap.objs.size (.lst [])) fp) [] j b:=λhn b f=>
   ⟨hn b f,(I4.ok.exf b f).1,I4.ok.exfs b f,.inl f,λx c e=>(I4.ok.exf b f).2 x c e,λp hp=>absurd hp (by simp)⟩
  have back:∀{Vh}{j}{pp}{t},Inv (aK X U9 cl k.heap.objs.size k (upd F a.heap.objs.size (.lst [])) fp) pp Vh j t->Inv X U8 σ j t:=λI'=>
   M.call' I'.os I'.base I'.hok I'.bare λb f=>⟨(S b f).2.2.2.1,(S b f).2.1,(S b f).2.2.2.2.1,(S b f).2.2.2.2.2⟩
  refine codeAny_loop rfl (λn t=>∃i j,Inv (aK X U9 cl k.heap.objs.size k (upd F a.heap.objs.size (.lst [])) fp) [] (mask is σ) j t/\tn i t.heap/\(∀b∈fp,j b=none)/\W i n j) ?_ m0 ⟨0,_,(by subst Wy;exact I4),st4,λb f=>(S b f).1,w0⟩;rintro n s5 ⟨i,H5,I5,XI,fr5,w5⟩;refine wpAny_noted ?_;rw[compTurn_list];refine JH (Oj (JH ?_));rcases turn i n H5 w5 with ⟨Y,q⟩ |⟨go,step⟩
  .refine thn (T.done (aK X U9 cl k.heap.objs.size k (upd F a.heap.objs.size (.lst [])) fp) rfl rfl rfl hc i [] s5 _ H5 _ I5 (V8 fr5) XI Y) λr s6 ⟨hr,I6⟩=>?_;subst hr;refine JM ?_;obtain⟨m6,hn6,_⟩:=I6.loc;refine Vn _ k.heap.objs.size H5 s6 m6 (back I6) hn6 I6.free (LX M.lt) (M.nofs (JR _)) M.sz (λx c e=>?_) (λp hp=>?_) q
   .obtain⟨v,z⟩:=M.cell x c e;exact Kh z.lt
   .exact Kh (JU (M.pin p hp).1)
  .refine thn (T.item (aK X U9 cl k.heap.objs.size k (upd F a.heap.objs.size (.lst [])) fp) rfl rfl rfl hc i [] s5 _ H5 _ I5 (V8 fr5) XI go) λr s6 D=>?_;obtain⟨u,hr,h6⟩:=D;subst hr;refine JH (thn h6 λ_ s7 D=>?_);obtain⟨x,H7,I7,r7,y7,L,fr7⟩:=D;have I7':=I7.pinned (V8 fr7) (T.obj _ _ L);refine JH (Lo (hg _ _ _ _ _ s7 (mask is σ) H7 x u _ I7' r7 (step x H7 y7)) (λ_ s8 D=>?_) λ_ _ z=>z.elim);obtain⟨N,H8,I8,q8⟩:=D;refine JH (wpAny_tests_one (Lo (ht _ _ _ _ _ s8 N H8 _ I8 q8) (λbb s9 D=>?_) λ_ _ z=>z.elim));obtain⟨H9,P,sub,q9⟩:=D
   have fpn:∀{j}{t}{Vh},Inv (aK X U9 cl k.heap.objs.size k (upd F a.heap.objs.size (.lst [])) fp) ([]++mS fp s7.heap) Vh j t->tn (i+1) t.heap/\∀b∈fp,j b=none:=λ{j t Vh} J=>⟨T.keep _ _ _ L λb f o e=>(J.pin (b,o) (J1 _ (J1 _ (bJ f e)))).1,λb f=>by
    obtain⟨o,e,d⟩:=T.obj _ _ L b f;exact (J.pin (b,o) (J1 _ (J1 _ (bJ f e)))).2.1⟩
   cases bb with
   |true=>
    simp only[if_true];refine JH (JH (Lo (he _ _ _ _ _ s9 N H9 _ P q9) (λv s10 D=>?_) λ_ _ z=>z.elim));obtain⟨y,V,I10,r10,vs,U,hz,m',hm,w'⟩:=D;refine JH (Lo (jM (X:=aK X U9 cl k.heap.objs.size k (upd F a.heap.objs.size (.lst [])) fp) _ s10 N V (.ref a.heap.objs.size) [y] (.ref a.heap.objs.size) [v] (λ_ j=>j=upd V a.heap.objs.size (.lst (vs++[y]))) I10 rfl (.cons r10 .nil) ⟨_,vs,y,rfl,rfl,U,hz,rfl⟩) (λz s11 D=>?_) λ_ _ z=>z.elim);obtain⟨zv,H11,O,_,e11⟩:=D;subst e11;obtain⟨k1,k2⟩:=fpn O;exact JM (JM ⟨rfl,m',hm,i+1,_,(O.unpinned).weak (by rw[O.len,e9,I.len]) sub,k1,k2,w'⟩)
   |false=>
    simp only[J4,if_false];obtain⟨m',hm,w'⟩:=q9;obtain⟨k1,k2⟩:=fpn P
    first
     |exact JM ⟨rfl,m',hm,i+1,_,(P.unpinned).weak (by rw[P.len,e9,I.len]) sub,k1,k2,w'⟩
     |exact JH (JM (JM ⟨rfl,m',hm,i+1,_,(P.unpinned).weak (by rw[P.len,e9,I.len]) sub,k1,k2,w'⟩))
 exact QJ K (T.self X.A 0 _ _ _ st4 K)
theorem rK{c:Expr}(r:X.calm=true)(J:X.N.Nodup)(u:X.N[j]?=some y)(z:Loc X.env.scope y)(B:cL X U9 cl is)
  (hi:PI X tg iter wi) (hg:∀C s H fp,PG (aK X U9 cl C s H fp) tg g) (ht:∀C s H fp,PT (aK X U9 cl C s H fp) c tt) (he:∀C s H fp,PE (aK X U9 cl C s H fp) elt te) (hs:∀x,KL iter X.env x=pure x:=by intro _;rfl)
  (hsw:Mn (.ListComp elt [⟨tg,iter,[c],0⟩] U9 pos) (some (.Name y py)) Wz.line X.env=pure true:=by rfl) (hf:X.fn y=true\/X.env.scope.names.lookup y=some .local:=by first |exact .inl rfl |exact .inr rfl |assumption):
  PS X (.Assign [.Name y py] (.ListComp elt [⟨tg,iter,[c],0⟩] U9 pos) Wz) (Cp (B3 is wi g tt te) (lZ j)):=by
 intro U8 s σ H D I h;rw[QS _ _ _ _ hsw];refine JH (Oj (JH ?_));refine JH (Lo (yN r B hi hg ht he hs I h λl C K G m k L p i R P f F q=>?_) (λ_ G w=>JM (JM w)) λ_ _ e=>e);refine P6 (jU k J u z (v:=.ref l) rfl (λQ M A=>?_) hf);obtain⟨a,E,O⟩:=A
 have d:C≠a:=by
  rcases O with e |e
  .rw[e];exact i
  .exact Ne.symm (f _ _ e)
 refine⟨m,L.sameBut E d,λS t=>⟨_,K,M.turned (λb o n e=>t.extBut b o n e) p i (.inr P) f F,q⟩⟩
end
section
variable {X:Cx}{H0:Hp}{O0:List Kb}{E:XK}{ps Vw:PSt}{D:PD}{tg iter cond:Expr}{pos p:Pos}{xs:List U}{fs:List (Option U)}
theorem ua(T:GOk g X.K is f dom)(V:Rs X.K H0 O0 ps σ H1 O)(Y:Yl X.K J (hid H1 O) xs)(M:fs.length=xs.length)(Z:xs.length<=sizeLine)(U:∀x∈xs,dom x)
  (htt:∀(i:Nat) x o σ H q Q,xs[i]?=some x->fs[i]?=some o->Rs X.K H0 O0 (f (dA is ps) x) σ H q->(∀c,aI H c->Q o.isSome c)->tt σ H Q)
  (Xd:∀(i:Nat) x y σ H q Q,xs[i]?=some x->fs[i]?=some (some y)->Rs X.K H0 O0 (f (dA is ps) x) σ H q->(∀v c,aI H c->Rp X.K (hid c q) v y->Q v c)->te σ H Q)
  (Vn:∀a b c,aI H1 c->H1 a=none->c a=some (.lst b)->Rps X.K (hid c (a::O)) b (fs.filterMap id)->Q (.ref a) c):Cs is g tt te σ Q J H1:=by
 intro l n;refine⟨λi m h=>m=xs.length-i/\i<=xs.length/\aI H1 h/\∃b,h l=some (.lst b)/\b.length<=i/\Rps X.K (hid h (l::O)) b ((fs.take i).filterMap id),⟨_,rfl,Kv _,aO n _,[],aG,JR _,by rw[OJ];exact .nil⟩,?_⟩;rintro i m h ⟨rfl,hi,k,b,t,W,s⟩;have seen:aI (hid H1 O) (hid h (l::O)):=ba k n;obtain⟨N,G⟩:=Y h (seen.trans aH);by_cases A:i<xs.length
 .obtain⟨R,S⟩:=N i A;refine .inr ⟨R,λx D y=>?_⟩;obtain⟨rfl,u,C,r⟩:=S x D y;have R2:=(V.mask (is:=is)).hide k n (by rw[t];intro z;cases z);refine T H0 O0 _ _ D (l::O) x u _ (U u (J8 C)) R2 (r.same seen) λF E keep=>?_;obtain⟨o,p⟩:∃o,fs[i]?=some o:=⟨_,JG (by lia)⟩
  refine htt i u o F D (l::O) _ C p E λI d=>⟨λj w e=>keep j w (gP is σ j w e).2 e,?_⟩
  cases o with
  |none=>
   refine mY ⟨xs.length-(i+1),by lia,rfl,A,k.trans d,b,d _ _ t,by lia,?_⟩;rw[M9,p,RR,QU];simpa using s.same (aF d)
  |some L=>
   refine oW (Xd i u L F I (l::O) _ C p (E.go d) λv H6 B P=>⟨b,B _ _ (d _ _ t),?_,xs.length-(i+1),by lia,rfl,A,((k.trans d).trans B).put n _,b++[v],aG,by simp;lia,?_⟩)
   .lia
   .rw[jC JP,M9,p,RR,QU];exact ((s.same (aF d)).same (aF B)).snoc (.cons P .nil)
 .have e:i=xs.length:=by lia
  subst e;rw[<-M,MY]at s;exact .inl ⟨G,Vn l b h k n t s⟩
end
theorem Ws.nox(h:Ws X.nox H0 O0 E ss D ps):Ws X H0 O0 E ss D ps:=PSs.nox h
theorem bV.calm{K:JI}(F:bV P w K mg base (CXF P w) k f fd ps sp)(h:∀c H Q E,sp c H Q E->sp c H Q E0):bV P w K mg base CX0 k f fd ps sp:=by
 refine⟨F.len,λA a s H b n c Q E m g d i l=>NJ (F.run A a s H b n c Q E0 m g d i (h _ _ _ _ l)) λr o q=>?_⟩;cases r with
 |ok fl=>
  cases fl with
  |ret u=>exact q
  |next=>exact q
  |brk=>exact q
  |cont=>exact q
 |error e=>
  obtain⟨_,_,_,_,_,_,_,_,_,_,_,_,_,_,_,j⟩:=q;exact j.elim
def jy:List U->Out->Prop:=λa o=>∃ns:List Int,a=[.scr (ns.map U.int)]/\ns.length<=63/\(∀m∈ns,Sz 1048576 m)/\o=.val (.bl true)
theorem Cb{K:JI}(vs)(H)(Q)(E)(h:spU K jy vs H Q E):spU K jy vs H Q E0:=by
 obtain⟨a,O,o,d,r,⟨ns,c,e,b,rfl⟩,q⟩:=h;exact⟨a,O,_,d,r,⟨ns,c,e,b,rfl⟩,q⟩
theorem x5{K:JI}{ns:List Int}(g:ns.length<=63)(j:∀m∈ns,Sz 1048576 m)(f:SqL K H a (ns.map V.int)):spU K jy [.ref a] H (λv _=>v=.bl true) E:=by
 refine⟨[.scr (ns.map U.int)],[],.val (.bl true),λa h=>(nomatch h),.cons ?_ .nil,⟨ns,rfl,g,j,rfl⟩,λv k s r=>by cases r;rfl⟩;have e:hid H []=H:=by funext b;unfold hid;rw[if_neg (by simp)]
 rw[e];refine .scr f (by simp) λi v x c d=>?_;rw[JQ]at c d;cases q:ns[i]? with
 |none=>rw[q]at c;cases c
 |some n=>rw[q]at c d;cases c;cases d;exact .int n
theorem iG(a:bu k A):A.units+10<MA:=by have:=a.un;lia
theorem zE{ns:List Int}(b:0<=k)(h:k<(ns.length:Int)):atI (ns.map U.int) k=some (.int (ns.getD k.toNat 0)):=by
 have a:k.toNat<ns.length:=by lia
 have q:atI (ns.map U.int) ((k.toNat:Nat):Int)=some (.int (ns.getD k.toNat 0)):=wv (by rw[JQ,JW,JG a] <;>rfl)
 rwa [show ((k.toNat:Nat):Int)=k by lia]at q
theorem Dw{ns:List Int}(h:∀m∈ns,Sz 1048576 m)(i):Sz 1048576 (ns.getD i 0):=by
 by_cases a:i<ns.length
 .rw[JW,JG a,Nu];exact h _ (OX a)
 .rw[JW,Kg (by lia),Qz];exact Sz.mono (m:=8) (by decide) (by decide)
noncomputable abbrev pt(x y:Int):U:=.tup [.int x,.int y]
theorem dTb[Decidable p](h:decide p=true):p:=of_decide_eq_true h
theorem dFb[Decidable p](h:decide p=false):¬ p:=of_decide_eq_false h
theorem nTb[Decidable p](h:(!decide p)=true):¬ p:=by simpa using h
theorem nFb[Decidable p](h:(!decide p)=false):p:=by simpa using h
theorem vB(h:a=b):Out.val (.bl a)=Out.val (.bl b):=by rw[h]
theorem vIO(h:a=b):Out.val (.int a)=Out.val (.int b):=by rw[h]
mutual
theorem sL:∀n u,okU n u=true->eqW u u=true
 |_,.non,_=>rfl
 |_,.bl b,_=>by simp[eqW]
 |_,.int b,_=>by simp[eqW]
 |_,.str b,_=>by simp[eqW]
 |_,.ty _,h=>by simp[okU]at h
 |_,.dic,h=>by simp[okU]at h
 |0,.tup _,h=>by simp[okU]at h
 |0,.lst _,h=>by simp[okU]at h
 |0,.scr _,h=>by simp[okU]at h
 |n+1,.tup a,h=>by rw[eqW];rw[okU]at h;exact eqWs_refl n a h
 |n+1,.lst a,h=>by rw[eqW];rw[okU]at h;exact eqWs_refl n a h
 |n+1,.scr a,h=>by rw[eqW];rw[okU]at h;exact eqWs_refl n a h
theorem eqWs_refl:∀n a,okUs n a=true->eqWs a a=true
 |_,[],_=>rfl
 |n,x::a,h=>by
  simp only[okUs,K3]at h;simp only[eqWs,K3];exact⟨sL n x h.1,eqWs_refl n a h.2⟩
end
theorem zS{α:Type}{f:α->U}{l:List α}(h:∀a∈l,okU n (f a)=true):okUs n (l.map f)=true:=by
 induction l with
 |nil=>rfl
 |cons a l d=>
  rw[J6,okUs,K3];exact⟨h a JP,d λb c=>h b (JL _ c)⟩
theorem iU{α:Type}{f:α->U}{l:List α}(h:∀a,okU n (f a)=true):okU (n+1) (.lst (l.map f))=true:=by rw[okU];exact zS λa _=>h a
theorem tF{α:Type}{f:α->U}{p:α->α->Prop}[DecidableEq α](c:∀a b,eqW (f a) (f b)=decide (a=b)):∀(l m:List α),eqWs (l.map f) (m.map f)=decide (l=m)
 |[],[]=>rfl
 |[],_::_=>rfl
 |_::_,[]=>rfl
 |a::l,b::m=>by
  rw[J6,J6,eqWs,c,tF (p:=p) c l m,NN];simp
section
variable {X:Cx}{H0:Hp}{O0:List Kb}{E:XK}{ps:PSt}{D:PD}{a b c e:Expr}{rest:List Expr}{pos:Pos}{k:Bool}
theorem cA(b:Tt X H0 O0 ps c k)(a:k=true)(h:Ws X H0 O0 E tb D ps):W1 X H0 O0 E (.If c tb fb pos) D ps:=nD b (λ_=>h) (λe=>by rw[a]at e;cases e)
theorem aL(b:Tt X H0 O0 ps c k)(a:k=false)(h:Ws X H0 O0 E fb D ps):W1 X H0 O0 E (.If c tb fb pos) D ps:=nD b (λe=>by rw[a]at e;cases e) (λ_=>h)
theorem pN(d:Tt X H0 O0 ps a k)(c:k=false):Tw X H0 O0 ps (.BoolOp .And (a::b::rest) pos) false:=by
 subst c;exact zG (m:=true) d λh=>by cases h
end
section
variable {X:Cx}{H0:Hp}{O0:List Kb}{E:XK}{ps:PSt}{D:PD}{tg iter c:Expr}{pos:Pos}{xs:List U}{α:Type}
theorem TgS.sub(h:TgS X H0 O0 tg p u Vw)(hs:SubP p p'):TgS X H0 O0 tg p' u Vw:=PG.mono h λv a H Q ⟨O,R,r,q⟩=>⟨O,R.sub hs,r,q⟩
theorem Tt.sub(h:Tt X H0 O0 p e k)(hs:SubP p p'):Tt X H0 O0 p' e k:=PT.mono h λa H Q ⟨O,R,q⟩=>⟨O,R.sub hs,q⟩
theorem jL(st:α->PSt)(Q:Nat->α->Prop)(j:X.calm=true)(e:Ph (Kk X.prog X.w) X.A X.env X.xe)(h:EvI X H0 O0 ps tg iter xs)(g:∃a,Q 0 a/\SubP (st a) ps)
  (hs:∀H0 i x (a:α),xs[i]?=some x->Q i a->∃c,TgS X H0 O0 tg (st a) x c/\Ws X H0 O0 E Vk {D with nx:=λp=>∃b,Q (i+1) b/\SubP (st b) p,ct:=λp=>∃b,Q (i+1) b/\SubP (st b) p,bk:=D.nx } c)
  (hd:∀a ps,Q xs.length a->SubP (st a) ps->D.nx ps) (hf:∀x,KL iter X.env x=pure x:=by intro _;rfl):W1 X H0 O0 E (.For tg iter Vk [] pos) D ps:=
 HX j e h (λi ps=>∃a,Q i a/\SubP (st a) ps) g (λH0 i x ps k f=>by
  obtain⟨a,q,d⟩:=f;obtain⟨c,t,w⟩:=hs H0 i x a k q;exact⟨c,t.sub d,w⟩) (λps ⟨a,q,d⟩=>hd a ps q d) hf
theorem jj(st:α->PSt)(Q:Nat->α->Prop)(n:Ph (Kk X.prog X.w) X.A X.env X.xe)(r:∃m a,Q m a/\SubP (st a) ps)
  (hs:∀m a,Q m a->∃b,Tt X H0 O0 (st a) c b/\(b=true->Ws X H0 O0 E Vk {D with nx:=λp=>∃d f,d<m/\Q d f/\SubP (st f) p,ct:=λp=>∃d f,d<m/\Q d f/\SubP (st f) p,bk:=D.nx } (st a))/\(b=false->∀ps,SubP (st a) ps->D.nx ps)):W1 X H0 O0 E (.While c Vk [] pos) D ps:=by
 obtain⟨m,a,q,h⟩:=r;refine Ea n (λm ps=>∃a,Q m a/\SubP (st a) ps) m ⟨a,q,h⟩ λm ps o=>?_;obtain⟨a,q,h⟩:=o;obtain⟨b,t,k,s⟩:=hs m a q;refine⟨b,t.sub h,λe=>?_,λe=>s e ps h⟩;refine eC (PSs.mono (k e) λu i H ⟨L,O,R⟩=>⟨⟨λp i H O R ⟨d,f,l,j,g⟩=>L.nx p i H O R ⟨d,l,f,j,g⟩,L.bk,λp i H O R ⟨d,f,l,j,g⟩=>L.ct p i H O R ⟨d,l,f,j,g⟩,L.rt⟩,O,R⟩) h
end
noncomputable abbrev P2:=Int×Int
noncomputable abbrev pu(p:P2):U:=.tup [.int p.1,.int p.2]
noncomputable abbrev lp(l:List P2):U:=.lst (l.map pu)
theorem GC(p q):eqW (pu p) (pu q)=decide (p=q):=by
 obtain⟨a,b⟩:=p;obtain⟨c,d⟩:=q;simp only[pu,eqW,eqWs,RQ];rw[NN];simp
theorem uo(l m):eqW (lp l) (lp m)=decide (l=m):=by rw[lp,lp,eqW];exact tF (p:=λ_ _=>True) GC l m
theorem oP(l):okU 9 (lp l)=true:=iU λ_=>rfl
theorem A7{l:List P2}{i:Nat}(h:(l.map pu)[i]?=some x):∃p,l[i]?=some p/\p∈l/\x=pu p:=by
 rw[JQ]at h;cases q:l[i]? with
 |none=>rw[q]at h;cases h
 |some p=>rw[q]at h;cases h;exact⟨p,rfl,J8 q,rfl⟩
theorem bZ{α:Type}{l:List α}{f:α->U}{g:α->U}{i:Nat}(b:(l.map f)[i]?=some x)(c:(l.map g)[i]?=some y):∃a,l[i]?=some a/\a∈l/\x=f a/\y=g a:=by
 rw[JQ]at b c;cases q:l[i]? with
 |none=>rw[q]at b;cases b
 |some p=>rw[q]at b c;cases b;cases c;exact⟨p,rfl,J8 q,rfl,rfl⟩
theorem W1.mono(h:W1 X H0 O0 E s {D with nx:=J } ps)(m:∀ps,J ps->D.nx ps):W1 X H0 O0 E s D ps:=
 PS.mono h λb a H ⟨L,O,R⟩=>⟨⟨λp a H O R q=>L.nx p a H O R (m p q),L.bk,L.ct,L.rt⟩,O,R⟩
theorem o0(J)(a:W1 X H0 O0 E s {D with nx:=J } ps)(b:∀ps,J ps->Ws X H0 O0 E ss D ps):Ws X H0 O0 E (s::ss) D ps:=
 ac (W1.mono a b)
end L2
namespace L2
open PySem PySem.Spec PySem.W PyProof.Rows
section
variable {X:Cx}
noncomputable def nL.drop(D:nL)(i:Nat):nL:=⟨λa H=>D.nx (a.set i none) H,D.rt,λa H=>D.bk (a.set i none) H,λa H=>D.ct (a.set i none) H⟩
variable {H0:Hp}{O0:List Kb}{E:XK}{ps:PSt}{D:PD}{a e:Expr}{es:List Expr}{us:List U}{k:Bool}{n:Nat}{fd:MT}{pn:List Str}{Vf:List U→Out→Prop}
noncomputable def PD.drop(D:PD)(i:Nat):PD:=⟨λp=>D.nx (p.set i none),D.rt,λp=>D.bk (p.set i none),λp=>D.ct (p.set i none)⟩
end
end L2
namespace L2
open PySem
theorem aJ:JO (.Constant c j pos::es) env=(false,LD (.Constant c j pos) env)::JO es env:=by rw[JO];intro e p h;cases h
theorem iL:JO (.Tuple l j pos::es) env=(false,LD (.Tuple l j pos) env)::JO es env:=by rw[JO];intro e p h;cases h
theorem fG:JO (.UnaryOp o a pos::es) env=(false,LD (.UnaryOp o a pos) env)::JO es env:=by rw[JO];intro e p h;cases h
theorem bi:JO (.BinOp a o b pos::es) env=(false,LD (.BinOp a o b pos) env)::JO es env:=by rw[JO];intro e p h;cases h
theorem af:JO (.Name x pos::es) env=(false,LD (.Name x pos) env)::JO es env:=by rw[JO];intro e p h;cases h
theorem aU:JO (.Subscript a b pos::es) env=(false,LD (.Subscript a b pos) env)::JO es env:=by rw[JO];intro e p h;cases h
theorem br:JO (.Call f a k pos::es) env=(false,LD (.Call f a k pos) env)::JO es env:=by rw[JO];intro e p h;cases h
theorem F3:JO (.Compare a o c pos::es) env=(false,LD (.Compare a o c pos) env)::JO es env:=by rw[JO];intro e p h;cases h
theorem cN:JO (.ListComp e g sc pos::es) env=(false,LD (.ListComp e g sc pos) env)::JO es env:=by rw[JO];intro e p h;cases h
structure EvS(X:Cx)(H0:Hp)(O0:List Kb)(ps:PSt)(es:List Expr)(us:List U):Prop where
 a:EvA X H0 O0 ps es us
section
variable {X:Cx}{H0:Hp}{O0:List Kb}{ps:PSt}{e:Expr}{es:List Expr}{u:U}{us:List U}{pos:Pos}
theorem bG:EvS X H0 O0 ps [] []:=⟨aj⟩
theorem aq(c:Ev X H0 O0 ps e u)(b:EvS X H0 O0 ps es us)(hs:JO (e::es) X.env=(false,LD e X.env)::JO es X.env):EvS X H0 O0 ps (e::es) (u::us):=⟨ae c b.a hs⟩
theorem bE{x1}(h:EvS X H0 O0 ps es us)(b:us.length<=sizeLine:=by first |decide | (simp only[JX,NM];decide)):Ev X H0 O0 ps (.Tuple es x1 pos) (.tup us):=HZ h.a b
theorem fA(h:EvS X H0 O0 ps es us)(b:us.length<=sizeLine:=by first |decide | (simp only[JX,NM];decide)):EvN X H0 O0 ps (.List es pos) us:=Hw h.a b
end
end L2
namespace ST
open PySem PySem.SetTable
def Ris(xs:Array Nat):Prop:=∀(i j x y:Nat),i<j->xs[i]?=some x->xs[j]?=some y->x<y
theorem Ris.inj(h:Ris xs){i j x:Nat}(a:xs[i]?=some x)(b:xs[j]?=some x):i=j:=by
 rcases Mh i j with z |z |z
 .exact absurd (h i j x x z a b) (KA _)
 .exact z
 .exact absurd (h j i x x z b a) (KA _)
theorem eo{xs:Array Nat}(h:i<xs.size):xs[i]?=some xs[i]:=by simp[h]
theorem w8{xs:Array Nat}(h:xs[i]?=some x):i<xs.size:=(MW.mp h).1
theorem qb(R:Ris xs)(j):∀Vp lo a,lo<=a->a<=xs.size->a-lo<=Vp->(∀i x,i<lo->xs[i]?=some x->x<j)->(∀i x,a<=i->xs[i]?=some x->j<=x)->
  (∀i x,i<below.go xs j Vp lo a->xs[i]?=some x->x<j)/\(∀i x,below.go xs j Vp lo a<=i->xs[i]?=some x->j<=x)/\below.go xs j Vp lo a<=xs.size
 |0,lo,a,n,g,m,h,f=>by
  have e:lo=a:=by lia
  subst e;rw[below.go];exact⟨h,f,g⟩
 |Vp+1,lo,a,n,g,m,h,f=>by
  rw[below.go];by_cases k:lo<a
  .rw[if_pos k];have c:(lo+a)/2<xs.size:=by lia
   have e:xs.getD ((lo+a)/2) j=xs[(lo+a)/2]:=by simp[MJ,c]
   simp only[e];split
   .rename_i d
    refine qb R j Vp _ a (by lia) g (by lia) (λi x l b=>?_) f;rcases Kl (show i<=(lo+a)/2 by lia) with z |z
    .exact Ma (R i _ x _ z b (eo c)) d
    .subst z;rw[eo c]at b;cases b;exact d
   .rename_i d
    refine qb R j Vp lo _ (by lia) (by lia) (by lia) h (λi x l b=>?_);rcases Kl l with z |z
    .exact KH (OW d) (Kd (R _ i _ x z (eo c) b))
    .subst z;rw[eo c]at b;cases b;exact OW d
  .rw[if_neg k];have e:lo=a:=by lia
   subst e;exact⟨h,f,g⟩
theorem fL(R:Ris xs)(j):(∀i x,i<below xs j->xs[i]?=some x->x<j)/\(∀i x,below xs j<=i->xs[i]?=some x->j<=x)/\below xs j<=xs.size:=
 qb R j xs.size 0 xs.size (Kv _) (JR _) (by lia) (λi x h=>absurd h (Ta _)) (λi x h e=>absurd (w8 e) (by lia))
theorem AZ(R:Ris xs)(h:xs[i]?=some j):below xs j=i:=by
 obtain⟨b,c,d⟩:=fL R j;rcases Mh (below xs j) i with z |z |z
 .have a:=Ma z (w8 h);have:=c _ _ (JR _) (eo a);have:=R _ _ _ _ z (eo a) h;lia
 .exact z
 .have:=b i j z h;lia
theorem oh{t:SetTable}(R:Ris t.place)(h:t.place[i]?=some j):t.slot j=.live i:=by
 unfold SetTable.slot;simp only[AZ R h,h,beq_self_eq_true,if_true]
theorem yV{t:SetTable}(a:t.dummies=#[])(h:∀i:Nat,t.place[i]?≠some j):t.slot j=.empty:=by
 unfold SetTable.slot;have e:(t.place[below t.place j]?==some j)=false:=by simpa using h _
 simp only[e,a];simp[SetTable.has]
theorem uA{t:SetTable}(R:Ris t.place)(b:t.dummies=#[])(j):(t.slot j=.empty/\∀i:Nat,t.place[i]?≠some j)\/∃i,t.slot j=.live i/\t.place[i]?=some j:=by
 by_cases h:∃i:Nat,t.place[i]?=some j
 .obtain⟨i,a⟩:=h;exact .inr ⟨i,oh R a,a⟩
 .exact .inl ⟨yV b λi e=>h ⟨i,e⟩,λi e=>h ⟨i,e⟩⟩
theorem xA(R:Ris xs){mask:Nat}(l:xs.size<=mask):∃s,s<=mask/\∀i:Nat,xs[i]?≠some s:=by
 apply LM;intro d
 have all:∀s,s<=mask->∃i:Nat,xs[i]?=some s:=λs g=>by
  apply LM;intro h;exact d ⟨s,g,λi e=>h ⟨i,e⟩⟩
 have c:∀s,s<=mask->∃i:Nat,xs[i]?=some s/\s<=i:=by
  intro s
  induction s with
  |zero=>intro h;obtain⟨i,a⟩:=all 0 h;exact⟨i,a,Kv _⟩
  |succ s j=>
   intro h;obtain⟨i,a,f⟩:=j (by lia);obtain⟨k,b⟩:=all (s+1) h;refine⟨k,b,?_⟩;rcases Mh i k with z |z |z
   .lia
   .subst z;rw[a]at b;cases b
   .have:=R k i _ _ z b a;lia
 obtain⟨i,a,f⟩:=c mask (JR _);have:=w8 a;lia
noncomputable def adv(mask:Nat)(p:Probe):Probe:=
 if p.more >0 then {p with j:=p.j+1,more:=p.more-1 } else
 {p with j:=(leap mask p.i p.perturb).1,more:=runEnd mask (leap mask p.i p.perturb).1-(leap mask p.i p.perturb).1,i:=(leap mask p.i p.perturb).1,perturb:=(leap mask p.i p.perturb).2 }
theorem mO(t:SetTable)(p:Probe):t.advance p=adv t.mask p:=by
 unfold SetTable.advance adv;split
 .rfl
 .rfl
noncomputable def start(mask:Nat)(h:Int):Probe:={j:=bits h%(mask+1),more:=runEnd mask (bits h%(mask+1))-bits h%(mask+1),i:=bits h%(mask+1),perturb:=bits h,dummy:=none }
noncomputable def pth(mask:Nat)(h:Int):Nat->Probe
 |0=>start mask h
 |n+1=>adv mask (pth mask h n)
noncomputable def a9(mask:Nat)(h:Int):Nat->Nat×Nat
 |0=>(bits h%(mask+1),bits h)
 |r+1=>leap mask (a9 mask h r).1 (a9 mask h r).2
theorem lg{mask:Nat}:∀m (p:Probe) (f:Nat->Probe),f 0=p->(∀n,f (n+1)=adv mask (f n))->m<=p.more->f m={p with j:=p.j+m,more:=p.more-m }
 |0,p,f,a,_,_=>by rw[a];rfl
 |m+1,p,f,a,b,c=>by
  rw[b m,lg m p f a b (by lia)];unfold adv;rw[if_pos (by show p.more-m >0;lia)];simp only[Probe.mk.injEq];exact⟨by lia,by lia,trivial,trivial,trivial⟩
theorem lS(mask)(h):∀n,(pth mask h n).dummy=none
 |0=>rfl
 |n+1=>by
  rw[pth];unfold adv;split
  .exact lS mask h n
  .exact lS mask h n
theorem ya(mask i):runEnd mask i-i<=9:=by unfold runEnd;split <;>lia
theorem wx(mask)(h):∀r,∃n,n<=10*r/\pth mask h n={j:=(a9 mask h r).1,more:=runEnd mask (a9 mask h r).1-(a9 mask h r).1,i:=(a9 mask h r).1,perturb:=(a9 mask h r).2,dummy:=none }
 |0=>⟨0,JR _,rfl⟩
 |r+1=>by
  obtain⟨n,b,e⟩:=wx mask h r;have c:=ya mask (a9 mask h r).1;have step:=lg (runEnd mask (a9 mask h r).1-(a9 mask h r).1) (pth mask h n) (λm=>pth mask h (n+m)) rfl (λm=>rfl) (by rw[e];exact JR _);refine⟨n+(runEnd mask (a9 mask h r).1-(a9 mask h r).1)+1,by lia,?_⟩;rw[pth];have a:=step;rw[a,e];unfold adv;rw[if_neg (by simp)];rfl
theorem CC(h):bits h<2 ^ 64:=by
 unfold bits;lia
theorem oO(mask)(h):∀r,(a9 mask h r).2=bits h/32 ^ r
 |0=>by simp[a9]
 |r+1=>by
  rw[a9];show (a9 mask h r).2/32=_;rw[oO mask h r,QK,ME]
theorem yT(mask)(h)(r)(b:12<=r):(a9 mask h r).2/32=0:=by
 rw[oO];have a:=CC h;rw[QK];apply Nat.div_eq_of_lt;have:32 ^ 12*32<=32 ^ r*32:=O_ _ (O8 (by decide) b);exact Kc (Kc a (by decide)) this
noncomputable def cK:Nat->Nat
 |0=>1
 |k+1=>cK k*(4*cK k+2)
theorem Bb:∀k,∃m,cK k=2 ^ k*(2*m+1)
 |0=>⟨0,by simp[cK]⟩
 |k+1=>by
  obtain⟨m,e⟩:=Bb k;refine⟨2*(cK k) *m+m+cK k,?_⟩;rw[cK,ME];have:cK k*(4*cK k+2)=2 ^ k*(2*m+1) *(4*cK k+2):=by rw[<-e]
  rw[this];generalize cK k=c;generalize 2 ^ k=p;grind
noncomputable def ie:Nat->Nat->Nat
 |0,x=>x
 |n+1,x=>5*ie n x+1
theorem lL(m x):∀n,ie (m+n) x=ie n (ie m x)
 |0=>rfl
 |n+1=>by rw[<-Nat.add_assoc,ie,lL m x n,ie]
theorem mF:∀k x,ie (2 ^ k) x=(1+4*cK k) *x+cK k
 |0,x=>by simp[ie,cK]
 |k+1,x=>by
  rw[ME,Nat.mul_two,lL,mF k,mF k,cK];generalize cK k=c;grind
theorem uz(k x):ie (2 ^ k) x%2 ^ (k+1)=(x+2 ^ k)%2 ^ (k+1):=by
 rw[mF];obtain⟨m,e⟩:=Bb k;rw[e]
 have:(1+4*(2 ^ k*(2*m+1))) *x+2 ^ k*(2*m+1)=(x+2 ^ k)+2 ^ (k+1) *(2*(2*m+1) *x+m):=by
  rw[ME];generalize 2 ^ k=p;grind
 rw[this,Nat.add_mul_mod_self_left]
theorem iQ(x):∀k y,∃n,n<2 ^ k/\ie n x%2 ^ k=y%2 ^ k
 |0,y=>⟨0,by simp,by simp[Nat.mod_one]⟩
 |k+1,y=>by
  obtain⟨n,l,e⟩:=iQ x k y;have j:2 ^ (k+1)=2 ^ k+2 ^ k:=by rw[ME];lia
  by_cases h:ie n x%2 ^ (k+1)=y%2 ^ (k+1)
  .exact⟨n,by lia,h⟩
  .refine⟨n+2 ^ k,by lia,?_⟩;rw[lL,uz];generalize ie n x=z at *;have g:z%2 ^ (k+1)%2 ^ k=z%2 ^ k:=RS _ ⟨2,by rw[ME]⟩;have f:y%2 ^ (k+1)%2 ^ k=y%2 ^ k:=RS _ ⟨2,by rw[ME]⟩;have l1:=Lw z (show 0<2 ^ (k+1) by lia);have l2:=Lw y (show 0<2 ^ (k+1) by lia);rw[<-QV];rw[<-g,<-f]at e;generalize z%2 ^ (k+1)=a at *;generalize y%2 ^ (k+1)=b at *;generalize 2 ^ k=p at *
   have i:a%p=if a<p then a else a-p:=by
    split
    .exact Km (by assumption)
    .rw[PF (by lia),Km (by lia)]
   have d:b%p=if b<p then b else b-p:=by
    split
    .exact Km (by assumption)
    .rw[PF (by lia),Km (by lia)]
   rw[i,d]at e;by_cases c:a<p
   .rw[if_pos c]at e;rw[Km (by lia)]
    split at e <;>lia
   .rw[if_neg c]at e;rw[PF (by lia),Km (by lia)]
    split at e <;>lia
theorem lE{mask k:Nat}(a:mask+1=2 ^ k)(h):∀q,(a9 mask h (12+q)).1=ie q (a9 mask h 12).1%2 ^ k
 |0=>by
  rw[ie]
  have:(a9 mask h 12).1<2 ^ k:=by
   rw[<-a];exact Lw _ (by lia)
  exact (Km this).symm
 |q+1=>by
  show (leap mask (a9 mask h (12+q)).1 (a9 mask h (12+q)).2).1=_;unfold leap;simp only[yT mask h (12+q) (by lia)];rw[lE a h q,a,ie,Uq,Sv 5 _];generalize ie q (a9 mask h 12).1=z;generalize 2 ^ k=m;rw[UK,Nat.mod_mul_mod,<-UK]
theorem cover{mask k:Nat}(b:mask+1=2 ^ k)(h)(s)(hs:s<=mask):∃n,n<10*turns mask/\(pth mask h n).j=s:=by
 obtain⟨q,c,e⟩:=iQ (a9 mask h 12).1 k s;obtain⟨n,d,a⟩:=wx mask h (12+q);refine⟨n,?_,?_⟩
 .unfold turns;lia
 .rw[a];rw[lE b h q,e];exact Km (by lia)
def Liv(t:SetTable)(j:Nat):Prop:=∃i:Nat,t.place[i]?=some j
structure TOk(t:SetTable)(hs:List Int):Prop where
 R:Ris t.place
 d:t.dummies=#[]
 k:∃k,3<=k/\t.mask+1=2 ^ k
 n:t.place.size=hs.length
 f:t.place.size<=t.mask
 le:∀(i x:Nat),t.place[i]?=some x->x<=t.mask
 reach:∀(i j:Nat) (h:Int),t.place[i]?=some j->hs[i]?=some h->∃m,(pth t.mask h m).j=j/\∀m',m'<m->Liv t (pth t.mask h m').j
theorem least{P:Nat->Prop}:∀n,P n->∃m,m<=n/\P m/\∀k,k<m->¬ P k:=by
 intro n
 induction n using Tc with
 |_ n f=>
  intro h;by_cases a:∃k,k<n/\P k
  .obtain⟨k,a,b⟩:=a;obtain⟨m,g,e,c⟩:=f k a b;exact⟨m,by lia,e,c⟩
  .exact⟨n,JR _,h,λk d b=>a ⟨k,d,b⟩⟩
theorem tW(T:TOk t hs)(h):∃N,N<10*turns t.mask/\¬ Liv t (pth t.mask h N).j/\∀m,m<N->Liv t (pth t.mask h m).j:=by
 obtain⟨s,o,b⟩:=xA T.R T.f;obtain⟨k,_,g⟩:=T.k;obtain⟨n,q,e⟩:=cover g h s o;obtain⟨m,p,l,a⟩:=least (P:=λn=>¬ Liv t (pth t.mask h n).j) n (by show ¬ Liv t (pth t.mask h n).j;rw[e];rintro ⟨i,d⟩;exact b i d);exact⟨m,by lia,l,λk c=>LM λz=>a k c z⟩
theorem rP(T:TOk t hs)(hashAt)(h)(q:¬ Liv t (pth t.mask h N).j)(p:∀m,m<N->Liv t (pth t.mask h m).j):∀Vp n,n<=N->N-n<Vp->
  (probe.go t hashAt h Vp (pth t.mask h n)=some (.empty (pth t.mask h N).j none)/\∀m i,n<=m->m<N->t.place[i]?=some (pth t.mask h m).j->hashAt i≠h)\/
  ∃m i,n<=m/\m<N/\t.place[i]?=some (pth t.mask h m).j/\hashAt i=h/\probe.go t hashAt h Vp (pth t.mask h n)=some (.candidate (pth t.mask h m).j i (pth t.mask h (m+1)))/\
   ∀b a,n<=b->b<m->t.place[a]?=some (pth t.mask h b).j->hashAt a≠h
 |0,n,_,D=>by lia
 |Vp+1,n,s,D=>by
  rw[probe.go];rcases uA T.R T.d (pth t.mask h n).j with ⟨e,B⟩ |⟨i,e,c⟩
  .have hN:n=N:=by
    rcases Kl s with z |z
    .obtain⟨i,c⟩:=p n z;exact absurd c (B i)
    .exact z
   subst hN;refine .inl ⟨by simp only[e,lS],λm i g k=>by lia⟩
  .have hN:n<N:=by
    rcases Kl s with z |z
    .exact z
    .subst z;exact absurd ⟨i,c⟩ q
   simp only[e];by_cases l:hashAt i=h
   .refine .inr ⟨n,i,JR _,hN,c,l,?_,λb a g k=>by lia⟩;simp only[l,beq_self_eq_true,if_true,mO];rfl
   .have u:(hashAt i==h)=false:=by simpa using l
    simp only[u,J4,if_false,mO];have y:=rP T hashAt h q p Vp (n+1) (by lia) (by lia);rcases y with ⟨r,o⟩ |⟨m,C,r,o,v,x,w,A⟩
    .refine .inl ⟨r,λm a g k f=>?_⟩;rcases Kl g with z |z
     .exact o m a z k f
     .subst z;rw[T.R.inj f c];exact l
    .refine .inr ⟨m,C,by lia,o,v,x,w,λb a g k f=>?_⟩;rcases Kl g with z |z
     .exact A b a z k f
     .subst z;rw[T.R.inj f c];exact l
theorem B5(T:TOk t hs){N i:Nat}(c:¬ Liv t (pth t.mask h N).j)(b:hs[i]?=some h):∃m j,m<N/\t.place[i]?=some j/\(pth t.mask h m).j=j:=by
 have a:i<t.place.size:=by rw[T.n];exact (JV.mp b).1
 obtain⟨m,e,d⟩:=T.reach i _ h (eo a) b;refine⟨m,_,?_,eo a,e⟩;rcases Mh m N with z |z |z
 .exact z
 .subst z;exact absurd ⟨i,by rw[e];exact eo a⟩ c
 .exact absurd (d N z) c
theorem eV{α:Type}(xs)(p)(x:α):(insertAt xs p x).toList=xs.toList.take p++x::xs.toList.drop p:=by
 unfold insertAt;simp[Array.toList_extract];exact LH (by simp)
theorem cu{α:Type}{xs:Array α}{x:α}(e:p<=xs.size)(i):(insertAt xs p x)[i]?=if i<p then xs[i]? else if i=p then some x else xs[i-1]?:=by
 rw[<-KI,eV];have d:(xs.toList.take p).length=p:=by simp;lia
 by_cases a:i<p
 .rw[if_pos a,JZ (by lia),LY a,KI]
 .rw[if_neg a,J3 (by lia),d];by_cases b:i=p
  .subst b;simp
  .rw[if_neg b];obtain⟨q,c⟩:∃q,i-p=q+1:=⟨i-p-1,by lia⟩
   rw[c,K9,Ms,KI];congr 1;lia
theorem ip{α:Type}(xs)(p)(x:α)(a:p<=xs.size):(insertAt xs p x).size=xs.size+1:=by
 rw[<-Ke,eV];simp;lia
noncomputable def iK{α:Type}(xs:List α)(p:Nat)(x:α):List α:=xs.take p++x::xs.drop p
theorem AY{α:Type}{xs:List α}{x:α}(e:p<=xs.length)(i):(iK xs p x)[i]?=if i<p then xs[i]? else if i=p then some x else xs[i-1]?:=by
 unfold iK;have d:(xs.take p).length=p:=by simp;lia
 by_cases a:i<p
 .rw[if_pos a,JZ (by lia),LY a]
 .rw[if_neg a,J3 (by lia),d];by_cases b:i=p
  .subst b;simp
  .rw[if_neg b];obtain⟨q,c⟩:∃q,i-p=q+1:=⟨i-p-1,by lia⟩
   rw[c,K9,Ms];congr 1;lia
theorem Ed(R:Ris xs)(o:∀i:Nat,xs[i]?≠some j):Ris (insertAt xs (below xs j) j):=by
 obtain⟨k,n,h⟩:=fL R j
 have gt:∀i x,below xs j<=i->xs[i]?=some x->j<x:=λi x m c=>by
  rcases Kl (n i x m c) with z |z
  .exact z
  .subst z;exact absurd c (o i)
 intro a b x y l c hy;rw[cu h]at c hy;by_cases f:a<below xs j
 .rw[if_pos f]at c;by_cases e:b<below xs j
  .rw[if_pos e]at hy;exact R a b x y l c hy
  .rw[if_neg e]at hy;by_cases d:b=below xs j
   .rw[if_pos d]at hy;cases hy;exact k a x f c
   .rw[if_neg d]at hy;exact R a (b-1) x y (by lia) c hy
 .rw[if_neg f]at c;have e:¬ b<below xs j:=by lia
  rw[if_neg e]at hy;have d:¬ b=below xs j:=by lia
  rw[if_neg d]at hy;by_cases g:a=below xs j
  .rw[if_pos g]at c;cases c;exact gt (b-1) y (by lia) hy
  .rw[if_neg g]at c;exact R (a-1) (b-1) x y (by lia) c hy
theorem v4(b:p<=xs.size)(s):(∃i:Nat,(insertAt xs p j)[i]?=some s)↔s=j\/∃i:Nat,xs[i]?=some s:=by
 constructor
 .rintro ⟨i,a⟩;rw[cu b]at a;split at a
  .exact .inr ⟨i,a⟩
  .split at a
   .cases a;exact .inl rfl
   .exact .inr ⟨i-1,a⟩
 .rintro (rfl |⟨i,a⟩)
  .exact⟨p,by rw[cu b,if_neg (KA _),if_pos rfl]⟩
  .by_cases h:i<p
   .exact⟨i,by rw[cu b,if_pos h];exact a⟩
   .exact⟨i+1,by rw[cu b,if_neg (by lia),if_neg (by lia)];simpa using a⟩
theorem TOk.put(T:TOk t hs)(A:¬ Liv t (pth t.mask h N).j)(w:∀m,m<N->Liv t (pth t.mask h m).j)(C:(pth t.mask h N).j<=t.mask)(E:t.place.size+1<=t.mask):
  TOk (t.put (pth t.mask h N).j).1 (iK hs (t.put (pth t.mask h N).j).2 h):=by
 have B:∀i,t.place[i]?≠some (pth t.mask h N).j:=λi e=>A ⟨i,e⟩;obtain⟨_,_,c⟩:=fL T.R (pth t.mask h N).j;have r:below t.place (pth t.mask h N).j<=hs.length:=by rw[<-T.n];exact c
 have D:(if SetTable.has t.dummies (pth t.mask h N).j then eraseAt t.dummies (below t.dummies (pth t.mask h N).j) else t.dummies)=#[]:=by
  rw[T.d];simp[SetTable.has]
 unfold SetTable.put;simp only[D];refine⟨Ed T.R B,rfl,T.k,?_,?_,λi x e=>?_,λi j v f a=>?_⟩
 .show (insertAt _ _ _).size=(iK hs _ h).length;rw[ip _ _ _ c,T.n];unfold iK;simp;lia
 .show (insertAt _ _ _).size<=t.mask;rw[ip _ _ _ c];exact E
 .rcases (v4 c x).mp ⟨i,e⟩ with z |⟨q,y⟩
  .rw[z];exact C
  .exact T.le q x y
 .have b:∀s,Liv t s->Liv {t with place:=insertAt t.place (below t.place (pth t.mask h N).j) (pth t.mask h N).j,dummies:=#[] } s:=λs z=>(v4 c s).mpr (.inr z);rw[cu c]at f;rw[AY r]at a;split at f
  .rename_i z
   rw[if_pos z]at a;obtain⟨m,p,u⟩:=T.reach i j v f a;exact⟨m,p,λg l=>b _ (u g l)⟩
  .rename_i z
   rw[if_neg z]at a;split at f
   .rename_i o
    rw[if_pos o]at a;cases f;cases a;exact⟨N,rfl,λg l=>b _ (w g l)⟩
   .rename_i o
    rw[if_neg o]at a;obtain⟨m,p,u⟩:=T.reach (i-1) j v f a;exact⟨m,p,λg l=>b _ (u g l)⟩
theorem Bl{mask:Nat}(h):∀n,(pth mask h n).j+(pth mask h n).more<=mask
 |0=>by
  show bits h%(mask+1)+(runEnd mask (bits h%(mask+1))-bits h%(mask+1))<=mask;have:=Lw (bits h) (show 0<mask+1 by lia);unfold runEnd;split <;>lia
 |n+1=>by
  have a:=Bl (mask:=mask) h n;rw[pth];unfold adv;split
  .simp only;lia
  .show (leap mask _ _).1+(runEnd mask (leap mask _ _).1-(leap mask _ _).1)<=mask;have:(leap mask (pth mask h n).i (pth mask h n).perturb).1<mask+1:=Lw _ (by lia);unfold runEnd;split <;>lia
def OL(owner:Array (Option Nat))(j:Nat):Prop:=∃k:Nat,owner[j]?=some (some k)
noncomputable def nr(mask:Nat)(h:Int):Nat->Nat
 |0=>0
 |r+1=>nr mask h r+(runEnd mask (a9 mask h r).1-(a9 mask h r).1)+1
theorem Fc(mask)(h):∀r,pth mask h (nr mask h r)={j:=(a9 mask h r).1,more:=runEnd mask (a9 mask h r).1-(a9 mask h r).1,i:=(a9 mask h r).1,perturb:=(a9 mask h r).2,dummy:=none }
 |0=>rfl
 |r+1=>by
  have e:=Fc mask h r;have step:=lg (runEnd mask (a9 mask h r).1-(a9 mask h r).1) (pth mask h (nr mask h r)) (λm=>pth mask h (nr mask h r+m)) rfl (λm=>rfl) (by rw[e];exact JR _);have a:=step;rw[nr,pth,a,e];unfold adv;rw[if_neg (by simp)];rfl
theorem ve(mask)(h)(r k)(a:k<=runEnd mask (a9 mask h r).1-(a9 mask h r).1):(pth mask h (nr mask h r+k)).j=(a9 mask h r).1+k:=by
 have e:=Fc mask h r;have step:=lg k (pth mask h (nr mask h r)) (λm=>pth mask h (nr mask h r+m)) rfl (λm=>rfl) (by rw[e];exact a);have b:=step;rw[b,e]
theorem xY(mask i):i<=runEnd mask i:=by unfold runEnd;split <;>lia
theorem Er(mask)(h):∀r,(a9 mask h r).1<=mask
 |0=>L0 (Lw _ (by lia))
 |r+1=>L0 (Lw _ (by lia))
theorem qP{mask i:Nat}(h:i<=mask):runEnd mask i<=mask:=by unfold runEnd;split <;>lia
theorem wg{mask:Nat}(C:owner.size=mask+1)(h):∀Vp r,(∃d,r<=d/\d<r+Vp/\owner[(a9 mask h d).1]?=some none)->(∀m,m<nr mask h r->OL owner (pth mask h m).j)->
  ∃N,layClean.free mask owner Vp (a9 mask h r).1 (a9 mask h r).2=some (pth mask h N).j/\owner[(pth mask h N).j]?=some none/\∀m,m<N->OL owner (pth mask h m).j
 |0,r,⟨d,o,D,_⟩,_=>by lia
 |Vp+1,r,g,t=>by
  rw[layClean.free];have hge:=xY mask (a9 mask h r).1;have A:=qP (Er mask h r);have i:∀k,k<runEnd mask (a9 mask h r).1+1-(a9 mask h r).1->(a9 mask h r).1+k<owner.size:=λk w=>by lia
  cases hf:(Kr (runEnd mask (a9 mask h r).1+1-(a9 mask h r).1)).find? λk=>(owner.getD ((a9 mask h r).1+k) (some 0)).isNone with
  |some k=>
   obtain⟨x,y,B⟩:=List.find?_range_eq_some.mp hf;have w:=J_.mp y;have l:=i k w
   have E:owner[(a9 mask h r).1+k]?=some none:=by
    have:owner.getD ((a9 mask h r).1+k) (some 0)=owner[(a9 mask h r).1+k]:=by simp[MJ,l]
    rw[this]at x;have:owner[(a9 mask h r).1+k]=none:=by simpa using x
    simp[l,this]
   have u:=ve mask h r k (by lia);refine⟨nr mask h r+k,by simp only[u],by rw[u];exact E,λm p=>?_⟩;by_cases b:m<nr mask h r
   .exact t m b
   .obtain⟨q,rfl⟩:∃q,m=nr mask h r+q:=⟨m-nr mask h r,by lia⟩
    have c:=B q (by lia);have f:=i q (by lia);rw[ve mask h r q (by lia)];have:owner.getD ((a9 mask h r).1+q) (some 0)=owner[(a9 mask h r).1+q]:=by simp[MJ,f]
    rw[this]at c;cases a:owner[(a9 mask h r).1+q] with
    |none=>rw[a]at c;simp at c
    |some v=>exact⟨v,by simp[f,a]⟩
  |none=>
   have s:∀q,q<runEnd mask (a9 mask h r).1+1-(a9 mask h r).1->OL owner ((a9 mask h r).1+q):=λq c=>by
    have:=List.find?_eq_none.mp hf q (J_.mpr c);have f:=i q c;have e:owner.getD ((a9 mask h r).1+q) (some 0)=owner[(a9 mask h r).1+q]:=by simp[MJ,f]
    rw[e]at this;cases a:owner[(a9 mask h r).1+q] with
    |none=>rw[a]at this;simp at this
    |some v=>exact⟨v,by simp[f,a]⟩
   have next:=wg C h Vp (r+1) (by
    obtain⟨d,o,D,n⟩:=g;refine⟨d,?_,by lia,n⟩;rcases Kl o with z |z
    .exact z
    .subst z;obtain⟨v,a⟩:=s 0 (by lia);rw[Uq,n]at a;cases a) (λm p=>by
    by_cases b:m<nr mask h r
    .exact t m b
    .obtain⟨q,rfl⟩:∃q,m=nr mask h r+q:=⟨m-nr mask h r,by lia⟩
     have F:nr mask h r+q<nr mask h r+(runEnd mask (a9 mask h r).1-(a9 mask h r).1)+1:=p;rw[ve mask h r q (by lia)];exact s q (by lia))
   exact next
structure OI(mask:Nat)(owner:Array (Option Nat))(hs:List Int):Prop where
 sz:owner.size=mask+1
 lt:∀(j k:Nat),owner[j]?=some (some k)->k<hs.length
 inj:∀(i j k:Nat),owner[i]?=some (some k)->owner[j]?=some (some k)->i=j
 all:∀k:Nat,k<hs.length->∃j:Nat,owner[j]?=some (some k)
 reach:∀(j k:Nat) (h:Int),owner[j]?=some (some k)->hs[k]?=some h->∃m,(pth mask h m).j=j/\∀m',m'<m->OL owner (pth mask h m').j
theorem OI.free{mask:Nat}(O:OI mask owner hs)(u:hs.length<=mask):∃s,s<=mask/\owner[s]?=some none:=by
 apply LM;intro m
 have d:∀s,s<=mask->OL owner s:=λs n=>by
  have g:s<owner.size:=by rw[O.sz];lia
  cases e:owner[s] with
  |none=>exact absurd ⟨s,n,by simp[g,e]⟩ m
  |some k=>exact⟨k,by simp[g,e]⟩
 have j:((Kr (mask+1)).map λs=>(owner.getD s none).getD 0).Nodup:=by
  rw[Pv,Lq];refine Qc ?_ (QL);intro a b q i t e;obtain⟨k1,c⟩:=d a (by have:=J_.mp q;lia);obtain⟨o,h⟩:=d b (by have:=J_.mp i;lia);have f:(owner.getD a none).getD 0=k1:=by simp[K0,c]
  have l:(owner.getD b none).getD 0=o:=by simp[K0,h]
  rw[f,l]at e;subst e;have:=O.inj a b k1 c h;lia
 have sub:((Kr (mask+1)).map λs=>(owner.getD s none).getD 0) ⊆ Kr hs.length:=by
  intro x p;obtain⟨s,r,rfl⟩:=JS.mp p;obtain⟨k1,c⟩:=d s (by have:=J_.mp r;lia);have f:(owner.getD s none).getD 0=k1:=by simp[K0,c]
  rw[f];exact J_.mpr (O.lt s k1 c)
 have:=Sw j sub;simp at this;lia
theorem OI.step{mask k:Nat}(D:mask+1=2 ^ k){owner:Array (Option Nat)}{hs:List Int}(O:OI mask owner hs)(E:hs.length<=mask)(h):
  ∃j,layClean.free mask owner (turns mask) (bits h%(mask+1)) (bits h)=some j/\OI mask (owner.setIfInBounds j (some hs.length)) (hs++[h]):=by
 obtain⟨s,G,u⟩:=O.free E;obtain⟨q,F,e⟩:=iQ (a9 mask h 12).1 k s;have w:(a9 mask h (12+q)).1=s:=by rw[lE D h q,e];exact Km (by lia)
 obtain⟨N,B,o,r⟩:=wg O.sz h (turns mask) 0 ⟨12+q,Kv _,by unfold turns;lia,by rw[w];exact u⟩ (λm g=>absurd g (Ta _));refine⟨_,B,?_⟩;generalize hj:(pth mask h N).j=j at *;have n:=(MW.mp o).1
 have get:∀i,(owner.setIfInBounds j (some hs.length))[i]?=if j=i then some (some hs.length) else owner[i]?:=λi=>by
  rw[Array.getElem?_setIfInBounds];split
  .rename_i z;subst z;simp[n]
  .rfl
 have l:∀i,OL owner i->OL (owner.setIfInBounds j (some hs.length)) i:=λi ⟨v,f⟩=>by
  refine⟨v,?_⟩;rw[get,if_neg (λz=>by subst z;rw[o]at f;cases f)];exact f
 refine⟨by simp[O.sz],λi v e=>?_,λa b v c d=>?_,λv f=>?_,λi v C c d=>?_⟩
 .rw[get]at e;split at e
  .cases e;simp
  .have:=O.lt i v e;simp;lia
 .rw[get]at c d;split at c <;>split at d
  .lia
  .cases c;exact absurd (O.lt b _ d) (KA _)
  .cases d;exact absurd (O.lt a _ c) (KA _)
  .exact O.inj a b v c d
 .simp at f;rcases Kl (L0 f) with z |z
  .obtain⟨i,p⟩:=O.all v z;refine⟨i,?_⟩;rw[get,if_neg (λy=>by subst y;rw[o]at p;cases p)];exact p
  .subst z;exact⟨j,by rw[get,if_pos rfl]⟩
 .rw[get]at c;split at c
  .rename_i z
   cases c;simp at d;subst d;exact⟨N,by rw[hj];exact z,λm g=>l _ (r m g)⟩
  .have f:=O.lt i v c;rw[JZ f]at d;obtain⟨m,x,A⟩:=O.reach i v C c d;exact⟨m,x,λt g=>l _ (A t g)⟩
theorem wF{mask k:Nat}(f:mask+1=2 ^ k):∀more done a,OI mask a done->done.length+more.length<=mask+1->∃d,more.foldl (λb h=>do
  let (a,k) <-b
  let j <-layClean.free mask a (turns mask) (bits h%(mask+1)) (bits h)
  pure (a.setIfInBounds j (some k),k+1)) (some (a,done.length))=some (d,done.length+more.length)/\OI mask d (done++more)
 |[],done,a,O,_=>⟨a,by simp,by simpa using O⟩
 |h::more,done,a,O,hl=>by
  obtain⟨j,e,i⟩:=O.step f (by simp at hl;lia) h;obtain⟨l,c,g⟩:=wF f more (done++[h]) _ i (by simp at hl |-;lia);refine⟨l,?_,by simpa using g⟩;rw[MP]
  have:(do
   let (a,k) <-some (a,done.length)
   let j <-layClean.free mask a (turns mask) (bits h%(mask+1)) (bits h)
   pure (a.setIfInBounds j (some k),k+1):Option (Array (Option Nat)×Nat))=some (a.setIfInBounds j (some done.length),done.length+1):=by
   simp[e]
  rw[this];simp only[Ko,QR]at c;rw[c];simp;lia
theorem sC{mask k:Nat}(d:mask+1=2 ^ k)(b:hs.size<=mask+1):∃a,layClean mask hs=some a/\OI mask a hs.toList:=by
 have c:OI mask (Array.replicate (mask+1) none) []:=⟨by simp,λj k e=>by simp[Oc]at e,λi j k e=>by simp[Oc]at e,λk h=>by simp at h,λj k h e=>by simp[Oc]at e⟩
 obtain⟨f,e,O⟩:=wF d hs.toList [] _ c (by simpa using b);refine⟨f,?_,by simpa using O⟩;unfold layClean;rw[<-PH];simp only[NM]at e;rw[e];rfl
theorem sj(n):∀Vp k,n<2 ^ (k+Vp)->∃a,k<=a/\sizeAbove.go n Vp (2 ^ k)=2 ^ a/\n<2 ^ a/\(2 ^ a<=2*n\/a=k)
 |0,k,h=>⟨k,JR _,rfl,by simpa using h,.inr rfl⟩
 |Vp+1,k,h=>by
  rw[sizeAbove.go];by_cases WZ:2 ^ k<=n
  .rw[if_pos WZ,<-ME];obtain⟨a,e,d,b,c⟩:=sj n Vp (k+1) (by rw[show k+1+Vp=k+(Vp+1) by lia];exact h);refine⟨a,by lia,d,b,.inl ?_⟩;rcases c with z |z
   .exact z
   .subst z;rw[ME];lia
  .rw[if_neg WZ];exact⟨k,JR _,rfl,by lia,.inr rfl⟩
theorem above(n)(h:n<2 ^ 60):∃k,3<=k/\sizeAbove n=2 ^ k/\n<2 ^ k/\2 ^ k<=2*n+8:=by
 obtain⟨k,b,d,a,c⟩:=sj n 64 3 (Kc h (O8 (by decide) (by decide)));refine⟨k,b,d,a,?_⟩;rcases c with z |z
 .lia
 .subst z;lia
noncomputable def du(mask:Nat)(owner:Array (Option Nat)):List (Nat×Nat):=(Kr (mask+1)).filterMap λj=>(owner.getD j none).map (j,·)
theorem rX(owner:Array (Option Nat)):∀l:List Nat,(l.filterMap λj=>(owner.getD j none).map (j,·)).map (·.1)=l.filter λj=>(owner.getD j none).isSome
 |[]=>rfl
 |a::l=>by
  have ih:=rX owner l;rw[MN,QA];cases owner.getD a none with
  |none=>simpa using ih
  |some v=>simpa using ih
theorem dH{mask:Nat}(d:owner.size=mask+1)(j k):(j,k)∈du mask owner↔owner[j]?=some (some k):=by
 unfold du;rw[Pz];constructor
 .rintro ⟨a,c,e⟩;have b:a<owner.size:=by rw[d];exact J_.mp c
  cases hv:owner.getD a none with
  |none=>rw[hv]at e;cases e
  |some v=>
   rw[hv]at e;cases e;have:owner.getD j none=owner[j]:=by simp[MJ,b]
   rw[this]at hv;simp[b,hv]
 .intro e;have b:=(MW.mp e).1;refine⟨j,J_.mpr (by lia),?_⟩;rw[K0,e];rfl
theorem yh(mask)(owner):(du mask owner).Pairwise λa b=>a.1<b.1:=by
 have:=(QL (n:=mask+1)).filter λj=>(owner.getD j none).isSome;rw[<-rX owner (Kr (mask+1)),Lq]at this;exact this
theorem FM{l:List Nat}(h:l.Pairwise (· < ·)):Ris l.toArray:=by
 intro i j x y d a hy;rw[NO]at a hy;obtain⟨c,e⟩:=JV.mp a;obtain⟨b,f⟩:=JV.mp hy;have:=Kp.mp h i j c b d;rw[e,f]at this;exact this
theorem CJ{mask k:Nat}(C:3<=k)(y:mask+1=2 ^ k)(H:hs.size<=mask)(finger moves)(led plain):
  ∃t d,laid mask finger moves led plain hs=some (t,d)/\TOk t (d.toList.map λi=>hs.getD i 0)/\d.toList.Perm (Kr hs.size)/\t.mask=mask/\t.led=led/\t.plain=plain/\t.moves=moves:=by
 obtain⟨c,e,O⟩:=sC y (hs:=hs) (by lia);have w:=yh mask c
 have F:((du mask c).map (·.2)).Nodup:=by
  rw[Pv,Lq];refine Qc ?_ w;intro a b L A Q f;have s:=(dH O.sz a.1 a.2).mp L;have P:=(dH O.sz b.1 b.2).mp A;rw[f]at s;have:=O.inj a.1 b.1 b.2 s P;lia
 have g:((du mask c).map (·.2)).Perm (Kr hs.size):=by
  refine (Pw F QB).mpr λx=>?_;rw[JS,J_];constructor
  .rintro ⟨⟨j,v⟩,r,rfl⟩;have:=O.lt j v ((dH O.sz j v).mp r);simpa using this
  .intro K;obtain⟨j,D⟩:=O.all x (by simpa using K);exact⟨(j,x),(dH O.sz j x).mpr D,rfl⟩
 have len:(du mask c).length=hs.size:=by have:=g.length_eq;simpa using this
 refine⟨_,_,by unfold laid;rw[e];rfl,⟨?_,rfl,⟨k,C,y⟩,?_,?_,λi x f=>?_,λi j h l o=>?_⟩,?_,rfl,rfl,rfl,rfl⟩
 .show Ris ((du mask c).map (·.1)).toArray;exact FM (by rw[Lq];exact w)
 .show ((du mask c).map (·.1)).toArray.size=_;simp[du]
 .show ((du mask c).map (·.1)).toArray.size<=mask;simp[len,H]
 .change ((du mask c).map (·.1)).toArray[i]?=some x at f
  rw[NO,JQ]at f;cases q:(du mask c)[i]? with
  |none=>rw[q]at f;cases f
  |some p=>
   rw[q]at f;cases f;have:=(dH O.sz p.1 p.2).mp (J8 q);have:=(MW.mp this).1;show p.1<=mask;have R:=O.sz;lia
 .change ((du mask c).map (·.1)).toArray[i]?=some j at l
  change (((du mask c).map (·.2)).toArray.toList.map λi=>hs.getD i 0)[i]?=some h at o
  rw[NO,JQ]at l;rw[JQ,JQ]at o;cases q:(du mask c)[i]? with
  |none=>rw[q]at l;cases l
  |some p=>
   rw[q]at l o;cases l;have u:=(dH O.sz p.1 p.2).mp (J8 q);have z:=O.lt _ _ u
   have M:hs.toList[p.2]?=some h:=by
    have I:hs.getD p.2 0=h:=by simpa using o
    have:p.2<hs.size:=by simpa using z
    rw[<-I];simp[MJ,this]
   obtain⟨m,G,J⟩:=O.reach _ _ h u M;refine⟨m,G,λB r=>?_⟩;obtain⟨v,E⟩:=J B r;obtain⟨n,N⟩:=KJ.mp ((dH O.sz _ v).mpr E);refine⟨n,?_⟩;show ((du mask c).map (·.1)).toArray[n]?=_;rw[NO,JQ,N];rfl
 .show ((du mask c).map (·.2)).toArray.toList.Perm _;simpa using g
variable {prog:J2}{A:K7}{E:J0→JY→Prop}
section
variable {w:Kt}{s:JY}
abbrev TK(prog:J2)(w:Kt)(h:Mf)(k:List Int)(b:Kb):Prop:=IsTupleKey (N_ prog w) h k b
noncomputable abbrev hsh(prog:J2)(w:Kt)(k:List Int):Int:=tupleKeyHash (N_ prog w) k
theorem TK.ints{h:Mf}{k:List Int}{vs:List J0}(x:ItemsAre (N_ prog w) k vs):∀v∈vs,∃n t,v=.int n t:=by
 induction x with
 |nil=>intro v a;simp at a
 |cons b _ c=>
  intro v a;rcases JN.mp a with rfl |a
  .obtain⟨t,rfl⟩:=MF b;exact⟨_,t,rfl⟩
  .exact c v a
theorem oN(g:TK prog w s.heap k a)(h:Q false s):Kj (Kk prog w) A (Oy 8 (.ref a)) Q E s:=by
 have m:=g.typeIs;obtain⟨o,items,n,j,_,i,l⟩:=g;unfold Oy;refine JH (QW m ?_);dsimp only;rw[if_pos (by decide)];refine JH (JM ?_);simp only[MZ,J4,if_false];refine JH (La j i ?_);refine JH ?_;rw[<-NF];refine QC _ (λrest r b=>r.1=none/\b=s/\∀v∈rest,∃n t,v=OK n t) _ ?_ ?_ _ _ ⟨rfl,rfl,TK.ints (h:=s.heap) l⟩
 .rintro v rest r b ⟨f,rfl,d⟩;obtain⟨n,t,rfl⟩:=d v JP;have e:Oy 7 (OK n t)=pure false:=by unfold Oy;rfl
  rw[e];refine JH (JM ?_);simp only[J4,if_false];exact JM ⟨rfl,rfl,λu c=>d u (JL _ c)⟩
 .rintro ⟨p,q⟩ b ⟨f,rfl,_⟩;subst f;exact JM h
theorem Iw(g:TK prog w s.heap k a)(h:Q true s):Kj (Kk prog w) A (Td 8 (.ref a)) Q E s:=by
 have m:=g.typeIs;obtain⟨o,items,n,j,_,i,l⟩:=g;refine JH (MQ m F.slot_tuple_hash.lookup ?_);refine JH (La j i ?_);refine JH ?_;rw[<-NF];refine QC _ (λrest r b=>r.1=none/\b=s/\∀v∈rest,∃n t,v=OK n t) _ ?_ ?_ _ _ ⟨rfl,rfl,TK.ints (h:=s.heap) l⟩
 .rintro v rest r b ⟨f,rfl,d⟩;obtain⟨n,t,rfl⟩:=d v JP;have e:Td 7 (OK n t)=pure true:=by unfold Td;rfl
  rw[e];refine JH (JM ?_);simp only[MZ,J4,if_false];exact JM ⟨rfl,rfl,λu c=>d u (JL _ c)⟩
 .rintro ⟨p,q⟩ b ⟨f,rfl,_⟩;subst f;exact JM h
theorem tO(i:TK prog w s.heap k a)(m:∀v∈l,∃d b,v=.ref b/\TK prog w s.heap d b)(h:Q false s):
  Kj (Kk prog w) A (searchCouldBeSeen (.ref a) l) Q E s:=by
 refine JH ?_;refine QC _ (λrest r e=>r.1=none/\e=s/\∀v∈rest,∃d b,v=.ref b/\TK prog w s.heap d b) _ ?_ ?_ _ _ ⟨rfl,rfl,m⟩
 .rintro v rest r e ⟨j,rfl,f⟩;obtain⟨d,b,rfl,g⟩:=f v JP;dsimp only;split
  .exact JM ⟨rfl,rfl,λu c=>f u (JL _ c)⟩
  .refine JH (QX i ?_);simp only[MZ,J4,if_false];refine JH (QX g ?_);simp only[MZ,J4,if_false];refine JH (oN i ?_);simp only[J4,if_false];refine JH (oN g ?_);simp only[J4,if_false];exact JM ⟨rfl,rfl,λu c=>f u (JL _ c)⟩
 .rintro ⟨n,o⟩ e ⟨j,rfl,_⟩;subst j;exact JM h
noncomputable def ents(prog:J2)(w:Kt)(a:List (List Int×Kb)):List (Int×J0):=a.map λp=>(hsh prog w p.1,.ref p.2)
theorem wz{i:Nat}:(ents prog w kb)[i]?=(kb[i]?).map λp=>(hsh prog w p.1,.ref p.2):=by unfold ents;rw[JQ]
theorem Dz(kb):(ents prog w kb).map (·.1)=kb.map λp=>hsh prog w p.1:=by unfold ents;rw[Ka];rfl
theorem TOk.fits(T:TOk t hs){n:Nat}(c:hs.length=n):t.fits n=true:=by
 have b:=T.n;have e:=T.f;have a:t.fill=t.place.size:=by unfold fill;rw[T.d];rfl
 unfold SetTable.fits;rw[a];simp[b,c];lia
theorem TOk.gave(T:TOk t hs):t.gaveWay=false:=by
 obtain⟨k,a,b⟩:=T.k;unfold SetTable.gaveWay;obtain⟨j,rfl⟩:∃j,k=j+1:=⟨k-1,by lia⟩
 have:t.mask%2=1:=by lia
 simp[this]
theorem rW(hu:A.units<MA)
  (ho:s.heap.get? S=some o) (hd:o.data=.set es ep t) (he:es.toList=ents prog w kb) (T:TOk t (kb.map λp=>hsh prog w p.1)) (XC:∀p∈kb,TK prog w s.heap p.1 p.2) (hx:TK prog w s.heap k x)
  (hN:N<10*turns t.mask) (h0:¬ Liv t (pth t.mask (hsh prog w k) N).j) (h1:∀m,m<N->Liv t (pth t.mask (hsh prog w k) m).j) 
  (qf:(∀p∈kb,p.1≠k)->Q (.free (pth t.mask (hsh prog w k) N).j false) s) (qt:(∃p∈kb,p.1=k)->Q (.there none) s):
  ∀B n a,n<=N->N-n<B->a.getD (t.probeStart (hsh prog w k))=pth t.mask (hsh prog w k) n->
   (∀(m i:Nat) p,m<n->t.place[i]?=some (pth t.mask (hsh prog w k) m).j->kb[i]?=some p->p.1≠k)->
   Kj (Kk prog w) A (Qo S (.ref x) (hsh prog w k) true B a) Q E s:=by
 have X:es.size=kb.length:=by rw[<-Ke,he];simp[ents]
 have VN:t.fits es.size=true:=T.fits (by rw[JK,X]);have H:∀i:Nat,es[i]?=(kb[i]?).map λ(p:List Int×Kb)=>(hsh prog w p.1,Ku p.2):=λi=>by rw[<-KI,he,wz]
 intro B
 induction B with
 |zero=>intro n a _ h;lia
 |succ B ih=>
  intro n a hn hf VE WM;unfold Qo;refine JH (Mi ho hd VN ?_);dsimp only;rw[T.gave];simp only[J4,if_false];rw[VE];have l:∀(i:Nat) (p:List Int×Kb),kb[i]?=some p->((es[i]?.map (λ(e:Int×J0)=>e.1)).getD 0:Int)=hsh prog w p.1:=λi p u=>by rw[H,u];rfl
  have pg:=rP T (λ(i:Nat)=>(es[i]?.map (λ(e:Int×J0)=>e.1)).getD 0) (hsh prog w k) h0 h1 (10*turns t.mask) n hn (by lia);split
  .rename_i met f
   rcases pg with ⟨e,Vl⟩ |⟨m,i,P,O,D,V,e,c⟩
   .have q:=f.symm.trans e;cases q;dsimp only;refine JM (qf λp u d=>?_);obtain⟨i,U⟩:=KJ.mp u;obtain⟨m,j,hm,D,hj⟩:=B5 T (h:=hsh prog w k) h0 (i:=i) (by rw[JQ,U,<-d];rfl);rcases L1 m n with Z |Z
    .exact WM m i p Z (by rw[hj];exact D) U d
    .exact Vl m i Z hm (by rw[hj];exact D) (by rw[l i p U,d])
   .have q:=f.symm.trans e;cases q;dsimp only;have L:i<kb.length:=by rw[<-X,<-show t.place.size=es.size by rw[T.n,JK,X]];exact w8 D
    obtain⟨p,u⟩:∃p,kb[i]?=some p:=⟨_,JG L⟩;have I:=J8 u;have r:es[i]?=some (hsh prog w p.1,Ku p.2):=by rw[H,u];rfl
    have rest:Kj (Kk prog w) A (do
      let X3 <-Pf [Ku p.2] (eqBool (Ku p.2) (.ref x))
      let (es',_,t') <-setState S
      if true && X3 then return .there none
      let some same:=t'.sameMemory t.moves t.mask |unsupported "set.changed-during-lookup:is-the-new-block-at-the-old-address"
      let C <-match (if same then t'.slot (pth t.mask (hsh prog w k) m).j else .empty) with
       | .live i'=>match es'[i']? with
        |some (_,y')=>do pure (if <-isSame y' (Ku p.2) then some i' else none)
        |none=>pure none
       |_=>pure none
      match C with
      |none=>rule "set.search.anew";Qo S (.ref x) (hsh prog w k) true B none
      |some i'=>if X3 then return .there (some i') else Qo S (.ref x) (hsh prog w k) true B (some (pth t.mask (hsh prog w k) (m+1)))) Q E s:=by
     refine JH (KB (wpAny_eqBool_tuple hu (XC p I) hx ?_));refine JH (Mi ho hd VN ?_);dsimp only;by_cases d:p.1=k
     .rw[decide_eq_true d];simp only[Bool.and_self,if_true];exact JM (qt ⟨p,I,d⟩)
     .rw[decide_eq_false d];simp only[Rv,J4,if_false];have M:t.sameMemory t.moves t.mask=some true:=by unfold SetTable.sameMemory;simp
      rw[M];dsimp only;rw[if_pos rfl,oh T.R D];dsimp only;rw[r];dsimp only;refine JH (wpAny_isSame_ref_self ?_);refine JH (JM ?_);simp only[if_true];refine ih (m+1) (some (pth t.mask (hsh prog w k) (m+1))) (by lia) (by lia) rfl λK i' F J b G=>?_;rcases L1 K n with z |z
      .exact WM K i' F z b G
      .rcases Kl (L0 J) with y |y
       .have:=c K i' z y b;intro W;exact this (by rw[l i' F G,W])
       .subst y;have ei:=T.R.inj D b;subst ei;rw[u]at G;cases G;exact d
    by_cases g:t.led=true
    .rw[g];simp only[MZ,J4,if_false];rw[r];exact rest
    .rw[show t.led=false by simpa using g];simp only[PX,if_true];refine JH (tO hx (λv hv=>?_) ?_)
     .obtain⟨W,Y,rfl⟩:=JS.mp hv
      have J:W∈es.toList:=by
       have:=O6.mp Y;exact O6.mpr (Array.mem_filter.mp this).1
      rw[he]at J;obtain⟨F,G,rfl⟩:=JS.mp J;exact⟨F.1,F.2,rfl,XC F G⟩
     .simp only[J4,if_false];rw[r];exact rest
  .rename_i V2
   rcases pg with ⟨e,Vl⟩ |⟨m,i,P,O,D,V,e,c⟩
   .exact absurd e (V2 _)
   .exact absurd e (V2 _)
structure SP(prog:J2)(w:Kt)(h:Mf)(S:Kb)(kb:List (List Int×Kb)):Prop where
 ex:∃o es ep t,h.get? S=some o∧o.ExactSet∧o.data=.set es ep t∧es.toList=ents prog w kb∧TOk t (kb.map λp=>hsh prog w p.1)∧t.led=(!w.params.followText "set-order")∧t.plain=true∧t.tooFull=false∧t.mask<8*kb.length+8
 keys:∀p∈kb,TK prog w h p.1 p.2
 nd:(kb.map (·.1)).Nodup
theorem TK.keep{es ep t}(x:TK prog w h k b)(e:h.get? S=some o)(j:o.data=.set es ep t)(hs:MD S h h'):TK prog w h' k b:=by
 obtain⟨d,items,n,c,g,a,i⟩:=x
 have f:b≠S:=by
  rintro rfl;obtain rfl:d=o:=KG (c.symm.trans e);rw[j]at a;exact nomatch a
 exact⟨d,items,n,(hs.2 b f).trans c,g,a,i⟩
theorem tI(x)(es):byScan (.ref x) es=false:=by simp[byScan,Value.scannable]
theorem qJ{α a:Type}(f:α->a)(xs)(p)(x:α):(iK xs p x).map f=iK (xs.map f) p (f x):=by
 unfold iK;rw[Kx,J6,Qp,RT]
theorem e_{α:Type}(xs)(p)(x:α):(iK xs p x).Perm (xs++[x]):=by
 refine SH.trans ?_;rw[ON];exact (List.perm_append_singleton x xs).symm
theorem sD{α b:Type}{a:List α}(f:α->b)(d:b):∀(o:List Nat),(∀i∈o,i<a.length)->o.map (λi=>((a.map f).toArray).getD i d)=(o.filterMap λi=>a[i]?).map f
 |[],_=>rfl
 |i::o,h=>by
  have hi:=h i JP;rw[J6,MN,JG hi,sD f d o λj c=>h j (JL _ c)];simp[MJ,hi]
theorem xG{α:Type}{b:List α}{o:List Nat}(h:o.Perm (Kr b.length)):(o.filterMap λi=>b[i]?).Perm b:=by
 refine (h.filterMap _).trans ?_
 suffices (Kr b.length).filterMap (λi=>b[i]?)=b by rw[this]
 have:∀(l a:List α),(List.range' a.length l.length).filterMap (λi=>(a++l)[i]?)=l:=by
  intro l
  induction l with
  |nil=>intro a;rfl
  |cons x l c=>
   intro a;rw[JX,List.range'_succ,MN];have e:(a++x::l)[a.length]?=some x:=by rw[J3 (JR _)];simp
   rw[e];have:=c (a++[x]);simpa using this
 have q:=this b [];simpa [List.range_eq_range'] using q
theorem Cv(T:TOk t hs)(h:t.tooFull=false):t.place.size+1<=t.mask:=by
 obtain⟨k,a,b⟩:=T.k;have c:t.fill=t.place.size:=by unfold fill;rw[T.d];rfl
 unfold tooFull at h;simp at h;lia
theorem Hq(x:s.heap.get? S=some o)(C:o.ExactSet)(j:o.data=.set es ep t)(z:es.toList=ents prog w kb)
  (T:TOk t (kb.map λp=>hsh prog w p.1)) (hl:t.led=(!w.params.followText "set-order")) (hp:t.plain=true) (XC:∀p∈kb,TK prog w s.heap p.1 p.2) (Xr:(kb.map (·.1)).Nodup) (h1:0<kb.length) (hn:kb.length≤1000)
  (h:∀F Wr,MD S s.heap F->SP prog w F S Wr->Wr.Perm kb->Q () {s with heap:=F }):Kj (Kk prog w) A (setRelay S (grown kb.length)) Q E s:=by
 have u:es.size=kb.length:=by rw[<-Ke,z];simp[ents]
 have U:t.fits es.size=true:=T.fits (by rw[JK,u]);have G:∀i:Nat,es[i]?=(kb[i]?).map λp=>(hsh prog w p.1,Ku p.2):=λi=>by rw[<-KI,z,wz]
 have V:grown kb.length=kb.length*4:=by unfold grown;rw[if_neg (by lia)]
 rw[V];obtain⟨k,K,M,Z,Y⟩:=above (kb.length*4) (by lia);have L:(sizeAbove (kb.length*4)-1)+1=2 ^ k:=by lia
 obtain⟨b,a,e,T',c,I,R,D,_⟩:=CJ K L (hs:=es.map (·.1)) (by rw[TC,u];lia) t.finger (t.movedTo (sizeAbove (kb.length*4)-1)) t.led t.plain;have m:t.relaid (es.map (·.1)) (kb.length*4)=some (b,a):=e;have y:a.toList.Perm (Kr kb.length):=by rw[TC,u]at c;exact c
 have J:∀i∈a.toList,i<kb.length:=λi N=>J_.mp (y.mem_iff.mp N);have q:=xG y
 have v:(a.filterMap (λi=>es[i]?)).toList=ents prog w (a.toList.filterMap λi=>kb[i]?):=by
  rw[Array.toList_filterMap];unfold ents;rw[List.map_filterMap];congr 1
  funext i
  rw[G]
 have f:(a.filterMap (λi=>es[i]?)).size=es.size:=by
  rw[<-Ke,v,u];unfold ents;rw[JK,q.length_eq]
 refine JH (Mi x j U ?_);dsimp only;rw[if_neg (by rw[M,Lg];lia),m]
 have g:Kj (Kk prog w) A (do
   if (a.filterMap (λi=>es[i]?)).size !=es.size then unsupported "internal:set-table-lost-an-element"
   pure (a.filterMap (λi=>es[i]?),b):Sem (Array (Int×J0)×SetTable)) (λr P=>Kj (Kk prog w) A (storeSet S r.1 r.2) Q E P) E s:=by
  rw[f];simp only[bne_self_eq_false,J4,if_false];refine JM ?_;refine Sb x j ?_ (by rw[f,u,Lg];lia)
  have B:(s.heap.update S (Oz (a.filterMap (λi=>es[i]?)) b)).get? S=some {o with data:=.set (a.filterMap (λi=>es[i]?)) (ep+1) b }:=by
   have:=KW (Oz (a.filterMap (λi=>es[i]?)) b) x (by rw[Te _ b j];rfl);rw[Te _ b j]at this;exact this
  have H:=MR s.heap S (Oz (a.filterMap (λi=>es[i]?)) b);refine h _ (a.toList.filterMap λi=>kb[i]?) H ⟨⟨_,_,_,b,B,C,rfl,v,?_,by rw[R];exact hl,by rw[D];exact hp,?_,?_⟩,λp X=>?_,?_⟩ q
  .have:=sD (λp=>hsh prog w p.1) 0 a.toList J;rw[<-this]
   have O:(es.map (·.1))=((kb.map λp=>hsh prog w p.1)).toArray:=by
    apply QD.mp;rw[SI,z,Dz]
   rw[O]at T';exact T'
  .have W:b.fill=b.place.size:=by unfold fill;rw[T'.d];rfl
   have l:=T'.n;rw[JK,y.length_eq,Qd]at l;unfold tooFull;rw[W,l,I];simp;lia
  .rw[I,q.length_eq];lia
  .exact (XC p (q.mem_iff.mp X)).keep x j H
  .exact ((q.map (·.1)).nodup_iff).mpr Xr
 exact JH g
theorem tJ(hu:A.units<MA)(P:SP prog w s.heap S kb)(R:TK prog w s.heap k x)(hn:kb.length<1000)
  (h:∀b G Wr,MD S s.heap G->SP prog w G S Wr->(if k∈kb.map (·.1) then Wr=kb else Wr.Perm (kb++[(k,x)]))->Q b {s with heap:=G }):
  Kj (Kk prog w) A (setAddHashed S (.ref x) (hsh prog w k)) Q E s:=by
 obtain⟨⟨o,c,ep,t,g,y,f,K,T,hl,Z,X4,Xs⟩,M,Y⟩:=P;have P0:SP prog w s.heap S kb:=⟨⟨o,c,ep,t,g,y,f,K,T,hl,Z,X4,Xs⟩,M,Y⟩;have VI:c.size=kb.length:=by rw[<-Ke,K];simp[ents]
 have VN:t.fits c.size=true:=T.fits (by rw[JK,VI]);obtain⟨N,hN,h0,V⟩:=tW T (hsh prog w k);have hN':N<100000:=by unfold turns at hN;lia
 unfold setAddHashed setAddHashedIn;refine KB (JH (Mi g f VN ?_));dsimp only;rw[tI];simp only[J4,if_false];unfold setSearch;refine JH (rW hu g f K T M R hN h0 V (λV2=>?_) (λD=>?_) 100000 0 none (Kv _) (by lia) rfl λm i p hm=>by lia)
 .dsimp only;have H:k ∉ kb.map (·.1):=λz=>by obtain⟨p,J,e⟩:=JS.mp z;exact V2 p J e
  refine JH (Mi g f VN ?_);dsimp only;generalize hj:(pth t.mask (hsh prog w k) N).j=j at *;have X:=T.put (h:=hsh prog w k) (N:=N) (by rw[hj];exact h0) V (by have:=Bl (mask:=t.mask) (hsh prog w k) N;lia) (Cv T X4);rw[hj]at X;have C:(t.put j).1.plain=true:=Z;have r:(t.put j).1.led=(!w.params.followText "set-order"):=hl;have v:(t.put j).1.mask=t.mask:=rfl;generalize (t.put j).1=d at *;generalize (t.put j).2=q at *;have O:(iK kb q (k,x)).length=kb.length+1:=by rw[(e_ kb q (k,x)).length_eq];simp
  have u:(insertAt c q (hsh prog w k,Ku x)).toList=ents prog w (iK kb q (k,x)):=by
   rw[eV,K];unfold ents;rw[qJ];rfl
  have I:(insertAt c q (hsh prog w k,Ku x)).size=kb.length+1:=by
   rw[<-Ke,u];unfold ents;rw[JK,O]
  have W:TOk d ((iK kb q (k,x)).map λp=>hsh prog w p.1):=by rw[qJ];exact X
  rw[if_pos C];refine JH (Iw R ?_);rw[if_pos rfl]
  have F:(s.heap.update S (Oz (insertAt c q (hsh prog w k,Ku x)) d)).get? S=some {o with data:=.set (insertAt c q (hsh prog w k,Ku x)) (ep+1) d }:=by
   have:=KW (Oz (insertAt c q (hsh prog w k,Ku x)) d) g (by rw[Te _ d f];rfl);rw[Te _ d f]at this;exact this
  have L:=MR s.heap S (Oz (insertAt c q (hsh prog w k,Ku x)) d)
  have l:∀p∈iK kb q (k,x),TK prog w (s.heap.update S (Oz (insertAt c q (hsh prog w k,Ku x)) d)) p.1 p.2:=λp J=>by
   have:=(e_ kb q (k,x)).mem_iff.mp J;rcases Lm.mp this with z |z
   .exact (M p z).keep g f L
   .rw[Kq.mp z];exact R.keep g f L
  have n:((iK kb q (k,x)).map (·.1)).Nodup:=by
   rw[((e_ kb q (k,x)).map (·.1)).nodup_iff,Kx,OA];refine⟨Y,by simp,λa ha b U=>?_⟩;simp at U;subst U;rintro rfl;exact H ha
  refine JH (Sb g f ?_ (by rw[I,Lg];lia));rw[PX,Ol];by_cases B:d.tooFull=true
  .rw[if_pos B,VI,<-O];refine JH (Hq (s:={s with heap:=s.heap.update S (Oz (insertAt c q (hsh prog w k,Ku x)) d) }) F y rfl u W r C l n (by lia) (by lia) λG Wr Xo P' pm=>JM ?_);exact h true G Wr (L.trans Xo) P' (by rw[if_neg H];exact pm.trans (e_ kb q (k,x)))
  .rw[if_neg B];refine JM (h true _ (iK kb q (k,x)) L ⟨⟨_,_,_,d,F,y,rfl,u,W,r,C,by simpa using B,by rw[v,O];lia⟩,l,n⟩ (by rw[if_neg H];exact e_ kb q (k,x)))
 .dsimp only;refine JM ?_;have H:k∈kb.map (·.1):=by obtain⟨p,J,e⟩:=D;exact JS.mpr ⟨p,J,e⟩
  exact h false s.heap kb (Qb S s.heap) P0 (by rw[if_pos H])
end
section
variable {w:Kt}
theorem TK.moved(x:TK prog w s.heap k b)(c:b ∉ wr)(m:Moved wr G s s'):TK prog w s'.heap k b:=by
 obtain⟨o,e,n,a,d,g,f⟩:=x;exact⟨o,e,n,m.heap b o c a,d,g,f⟩
theorem SP.moved(x:SP prog w s.heap S kb)(h:S ∉ wr)(c:∀p∈kb,p.2 ∉ wr)(m:Moved wr G s s'):SP prog w s'.heap S kb:=by
 obtain⟨⟨o,f,e,t,b,r⟩,d,g⟩:=x;exact⟨⟨o,f,e,t,m.heap S o h b,r⟩,λp a=>(d p a).moved (c p a) m,g⟩
structure Got(kx:Nat->List Int×Kb)(i:Nat)(kb:List (List Int×Kb)):Prop where
 src:∀p∈kb,∃j,j<i/\p=kx j
 all:∀j,j<i->(kx j).1∈kb.map (·.1)
 len:kb.length<=i
variable {R:S1→JY→Prop}{I:Kb}{fp wr:List Kb}{G:Array Px→Array Px→Prop}{n:Nat}{P:Nat→J0→Prop}{St:Nat→JY→Prop}
theorem Cf(W:WalksS prog w A.in1 I fp wr G n P St)(X:A.in1.units<MA)(Y:S ∉ fp)(d:Nat->List Int×Kb)(hP:∀i v,P i v->v=.ref (d i).2)(l:∀i,i<n->(d i).2 ∉ wr)(hn:n<=1000):
  ∀k i s u,n-i=k->i<=n->St i s->SP prog w s.heap S u->Got d i u->(∀j,j<n->TK prog w s.heap (d j).1 (d j).2)->
   (∀y E,Moved (S::wr) G s y->SP prog w y.heap S E->Got d n E->R (.ok (.ret .none)) y)->
   NY (Kk prog w) A (.builtin "set.update.loop" ⟨[.ref S,.ref I],[]⟩) R s:=by
 have B:S ∉ wr:=λh=>Y (W.sub _ h);have more:∀b∈wr,b∈S::wr:=λb x=>JL _ x;intro k
 induction k with
 |zero=>
  intro i s u hk hi M J g V L;obtain rfl:i=n:=by lia
  refine LN PyProof.Rows.F.entry_set_update_loop ?_;rw[Ld PyProof.Rows.F.plain_set_update_loop _];refine JH (W.done s _ _ M λy m=>?_);exact JM (L y u (m.mono more) (J.moved B (λp r=>by obtain⟨j,c,rfl⟩:=g.src p r;exact l j c) m) g)
 |succ k ih=>
  intro i s u hk hi M J g V L;have D:i<n:=by lia
  have XC:∀p∈u,p.2 ∉ wr:=λp r=>by obtain⟨j,c,rfl⟩:=g.src p r;exact l j (by lia)
  refine LN PyProof.Rows.F.entry_set_update_loop ?_;rw[Ld PyProof.Rows.F.plain_set_update_loop _];refine JH (W.item i s _ _ D M λv f pv U m=>?_);obtain rfl:=hP i v pv;have C:=J.moved B XC m;have q:∀j,j<n->TK prog w f.heap (d j).1 (d j).2:=λj c=>(V j c).moved (l j c) m;refine JH (KB ?_);unfold setAdd;refine KB (JH (wpAny_pyHash_tuple X (q i D) ?_));refine tJ (s:={f with toks:=f.toks+((d i).1.length+1) }) X C (q i D) (by have:=g.len;lia) λb h' E H N a=>?_;obtain⟨⟨o,es,ep,t,ho,hex,hd,K⟩,Z,Xr⟩:=C;have same:∀b o,b ∉ S::wr->f.heap.get? b=some o->h'.get? b=some o:=λb o x e=>by rw[H.2 b (λz=>x (by rw[z];exact JP))];exact e
  refine JM ⟨LU PyProof.Rows.F.plain_set_update_loop _,ih (i+1) _ E (by lia) D (W.frame _ f _ _ U (by show f.toks<=f.toks+_;lia) λb x o e=>?_) N ?_ (λj c=>(q j c).keep ho hd H) λs2 O m2 Q g2=>?_⟩
  .rw[H.2 b (λz=>Y (by rw[<-z];exact x))];exact e
  .by_cases T:(d i).1∈u.map (·.1)
   .rw[if_pos T]at a;subst a;refine⟨λp r=>?_,λj c=>?_,by have:=g.len;lia⟩
    .obtain⟨j,c,e⟩:=g.src p r;exact⟨j,by lia,e⟩
    .rcases Kl (L0 c) with z |z
     .exact g.all j z
     .rw[z];exact T
   .rw[if_neg T]at a;refine⟨λp r=>?_,λj c=>?_,by rw[a.length_eq];have:=g.len;simp;lia⟩
    .rcases Lm.mp (a.mem_iff.mp r) with z |z
     .obtain⟨j,c,e⟩:=g.src p z;exact⟨j,by lia,e⟩
     .exact⟨i,LS i,by rw[Kq.mp z]⟩
    .rw[(a.map (·.1)).mem_iff,Kx];rcases Kl (L0 c) with z |z
     .exact LF _ (g.all j z)
     .rw[z];exact J1 _ (by simp)
  .exact L s2 O (Moved.trans W.gtrans ((m.mono more).then_heap (by show f.toks<=f.toks+_;lia) same) m2) Q g2
end
section
variable {w:Kt}{s:JY}
noncomputable abbrev ca(w:Kt):Obj:={cls:=.type "set",dict:=none,data:=.set #[] 0 (.fresh 0 0 (!w.params.followText "set-order")) }
theorem zo:TOk (.fresh 0 0 (!w.params.followText "set-order")) [] where
 R:=by intro i j x y _ h;simp[SetTable.fresh]at h
 d:=rfl
 k:=⟨3,by decide,rfl⟩
 n:=rfl
 f:=by show 0<=7;decide
 le:=by intro i x h;simp[SetTable.fresh]at h
 reach:=by intro i x h a;simp[SetTable.fresh]at a
theorem As(e:h.get? S=some (ca w)):SP prog w h S []:=by
 refine⟨⟨_,_,_,_,e,⟨rfl,rfl,rfl⟩,rfl,rfl,zo,rfl,rfl,by simp[SetTable.tooFull,SetTable.fresh,SetTable.fill],by show 7<8;decide⟩,λp a=>by simp at a,by simp⟩
theorem Es(a)(h:Q (.ref s.heap.objs.size) {s with heap:=s.heap.push (ca w) }):
  NY (Kk prog w) A (.call (.builtin "set.__new__") ⟨[.type "set",a],[]⟩) (wants Q E) s:=by
 refine Tf ?_;refine JH (Tg (PySem.F.newCall_set_1 a) (JM ⟨LU QY _,LN PySem.F.entry_set_new ?_⟩));rw[Ld QY _];unfold Builtin.«set.__new__» Builtin.Frozenset.newClass;have b:=sub_set_self
 wp_walk
 refine N8 (JM ?_);simp only[newObj];exact JH (wpAny_alloc (JM (JM h)))
set_option maxRecDepth 100000 in
theorem call_set_pts(u:Nat->List Int×Kb)(hh:A.handled=none)(hu:A.in1.in1.in1.units<MA)(hl:s.heap.IsList l items)
  (VX:∀i (v:J0),items[i]?=some v->v=.ref (u i).2) (Wx:∀i,i<items.size->TK prog w s.heap (u i).1 (u i).2) (hn:items.size<=1000)
  (h:∀a J f,SP prog w a s.heap.objs.size f->Got u items.size f->(∀b o,s.heap.get? b=some o->a.get? b=some o)->Q (.ref s.heap.objs.size) {s with heap:=a,toks:=J }):
  Kj (Kk prog w) A (call (.type "set") [.ref l]) Q E s:=by
 obtain⟨cc,tl,Z⟩:=L6.mro;have O:=L6.made;have hsub:=L6.sub;refine Rf (Tf ?_);refine JM ⟨Code.quiet_builtin _ (by decide+kernel),LN PySem.F.entry_type_call ?_⟩;rw[Around.under_plain (weight_type_call_type "set" [.ref l] []) rfl];have g1:=L6.notType;have g2:=L6.canCreate;have g3:=PySem.F.typeCall_set_1 (.ref l)
 repeat (any_goals (first |assumption |wp_step))
 refine NJ (Es (w:=w) (.ref l) (E:=E) (Q:=λD Vu=>D=.ref s.heap.objs.size/\Vu={s with heap:=s.heap.push (ca w) }) ⟨rfl,rfl⟩) λr Vu U=>?_;cases r with
 |error e=>exact U
 |ok fl=>
  cases fl with
  |ret D=>
   obtain⟨rfl,rfl⟩:=U;have X:(s.heap.push (ca w)).get? s.heap.objs.size=some (ca w):=JT _ rfl;have hT:Uh {s with heap:=s.heap.push (ca w) } (.ref s.heap.objs.size) "set":=⟨_,X,rfl⟩
   have hli:=L6.init.lookup;have hbi:=L6.init.bind (.ref s.heap.objs.size)
   repeat (any_goals (first |assumption |wp_step))
   refine NJ (codeAny_call_builtin (R:=wants (λr V=>r=.none/\∃a J f,V={s with heap:=a,toks:=J }/\
     SP prog w a s.heap.objs.size f/\Got u items.size f/\(∀b o,s.heap.get? b=some o->a.get? b=some o)) E) L6.init.plain PySem.F.entry_set_init (check_set_init_1 hT ?_)) λx V T=>?_
   .obtain⟨ol,G,H,W,C⟩:=hl;obtain⟨ocls,t,L,d⟩:=ol;simp only at H C;subst H;subst C;have B:(s.heap.push (ca w)).get? l=some {cls:=.type "list",dict:=t,data:=.seq items W,slots:=d }:=JJ _ G;have k1:=PySem.F.sub_list_set;have k2:=PySem.F.sub_list_frozenset;have k3:(Lv "list"==Lv "dict")=false:=by decide
    have Vz:(s.heap.push (ca w)).IsList l items:=⟨_,B,rfl,W,rfl⟩;unfold Builtin.«set.__init__» noKeywords Builtin.Frozenset.updateFrom;generalize hPI:Sq=PI
    wp_walk
    subst hPI;refine Lp Vz (JH (wpAny_runValue ?_));have y:l<s.heap.objs.size:=JU G;have h3:A.in1.in1.in1.handled=none:=by simp[hh]
    have c:(s.heap.push (ca w)).objs.size=s.heap.objs.size+1:=KU ..;have I:l≠(s.heap.push (ca w)).objs.size:=by rw[c];exact Kh (LZ y)
    have W3:s.heap.objs.size ∉ [(s.heap.push (ca w)).objs.size,l]:=by
     rw[c];intro z;rcases JN.mp z with z |z
     .exact absurd z (Kh (LS _))
     .exact absurd (Kq.mp z) (LX y)
    refine Cf ((Walks.list h3 _ l I items).toS) hu W3 u VX (λi hi=>?_) hn (items.size-0) 0 _ [] (by lia) (Kv _)
     ⟨⟨_,JT _ rfl,rfl,rfl⟩,(Vz.push _)⟩ ?_ ⟨λp hp=>by simp at hp,λj Y=>by lia,by simp⟩ (λj Y=>?_) λs' f m q g=>?_
    .intro z;have M:=Kq.mp z;obtain⟨o,_,_,P,_⟩:=Wx i hi;have:=JU P;rw[M,c]at this;exact KA _ (Ma (LS _) this)
    .exact As (JJ _ X)
    .obtain⟨o,Vb,k,P,r⟩:=Wx j Y;exact⟨o,Vb,k,JJ _ (JJ _ P),r⟩
    .obtain⟨a,g',d',S,N⟩:=s';obtain rfl:g'=s.gens:=m.gens;obtain rfl:d'=s.drawn:=m.drawn;obtain rfl:N=s.os:=m.os;refine JM ?_;show Kj _ _ (ret MG) _ _ _;refine JM ⟨rfl,a,S,f,rfl,q,g,λb o e=>?_⟩;have K:=JU e;refine m.heap b o (λz=>?_) (JJ _ (JJ _ e));rcases JN.mp z with z |z
     .exact absurd z (Kh K)
     .have M:=Kq.mp z;rw[M,c]at K;exact KA _ (Ma (LS _) K)
   .cases x with
    |error e=>exact T
    |ok n=>
     cases n with
     |ret r=>
      obtain⟨rfl,a,J,f,rfl,q,g,X1⟩:=T
      repeat (any_goals (first |assumption |wp_step))
      exact h _ _ f q g X1
     |_=>exact T.elim
  |_=>exact U.elim
end
theorem dF:Slot "set_iterator" "__next__" "set_iterator.__next__":=
 .of (owner:="set_iterator") (n:="__next__") (by rw[NP,Mo];kernel_rfl) (by decide+kernel) (by decide+kernel) (by decide+kernel) (by first |exact .inl (by decide+kernel) |exact .inr (by decide+kernel)) (by rw[N3];kernel_rfl)
theorem l_:entryFor table "set_iterator.__next__"=some Builtin.«set_iterator.__next__»:=entryFor_of_tree (by kernel_rfl)
theorem oH(a):Ur "set_iterator.__next__" ⟨[a],[]⟩:=by unfold Ur;kernel_rfl
theorem uT:entryFor table "set.__iter__"=some Builtin.«frozenset.__iter__»:=TH (id':="frozenset.__iter__") (by kernel_rfl) rfl (by decide+kernel) (by kernel_rfl)
theorem uj{α:Type}{l:List α}(h:i<l.length):(l[i]::l.eraseIdx i).Perm l:=by
 rw[List.eraseIdx_eq_take_drop_succ];refine SH.symm.trans ?_;rw[<-M8 h,ON]
theorem vE{α:Type}(next):∀Vp k a (out:Array α),a.length=Vp->(pickOrder.go next Vp k a out).toList.Perm (out.toList++a)
 |0,k,a,out,h=>by
  obtain rfl:a=[]:=LB.mp h;rw[pickOrder.go,L5]
 |Vp+1,k,a,out,h=>by
  have b:next k%a.length<a.length:=Lw _ (by lia)
  rw[pickOrder.go,JG b];refine (vE next Vp (k+1) _ _ (by rw[List.length_eraseIdx_of_lt b];lia)).trans ?_;rw[Array.toList_push,R_];refine List.Perm.append_left _ ?_;rw[List.singleton_append];exact uj b
theorem A9{α:Type}(next)(xs:Array α):(RU next xs).toList.Perm xs.toList:=by
 unfold RU;have:=vE next xs.size 0 xs.toList #[] (by simp)
 simpa using this
section
variable {w:Kt}{s:JY}
noncomputable def cH(w:Kt)(S:Kb)(a:Array (Int×J0))(b:Nat):List J0:=(if w.params.followText "set-order"=true then RU (w.params.setOrder S b) a else a).toList.map (·.2)
theorem fj(w)(S)(es)(ep):(cH w S es ep).Perm (es.toList.map (·.2)):=by
 refine List.Perm.map _ ?_;split
 .exact A9 _ es
 .exact TJ _
noncomputable def gj(t:SetTable):Nat->Nat
 |0=>0
 |j+1=>t.place.getD j 0+1
noncomputable def aY(w:Kt)(t:SetTable)(i:Nat):Nat:=if w.params.followText "set-order"=true then 0 else gj t i
def vm(w:Kt)(h:Mf)(b S:Kb)(t:SetTable)(i n a:Nat):Prop:=∃o,h.get? b=some o∧o.cls=.type "set_iterator"∧o.data=.fields #[NC (aY w t i),NC i,.ref S,NC n,NC a]
theorem vm.ty(x:vm w s.heap it S t i n ep):s.TypeIs (.ref it) "set_iterator":=let ⟨o,ho,hc,_⟩:=x;⟨o,ho,hc⟩
structure SO(prog:J2)(w:Kt)(o:Obj)(es:Array (Int×J0))(ep:Nat)(t:SetTable)(hs:List Int):Prop where
 ex:o.ExactSet
 d:o.data=.set es ep t
 T:TOk t hs
 n:hs.length=es.size
 led:t.led=(!w.params.followText "set-order")
 plain:t.plain=true
theorem zw{es ep t hs}(O:SO prog w o es ep t hs)(a:s.heap.get? S=some o)(h:Q false s):Kj (Kk prog w) A (setDrawn S) Q E s:=by
 refine JH (Mi a O.d (O.T.fits O.n) (JH (JH (N8 (JM (JM ?_))))));have q:Q (!w.params.followText "set-order" && (!t.plain && decide (es.size >1))) s:=by rw[O.plain];simpa using h
 exact q
theorem zi{es ep t hs}(O:SO prog w o es ep t hs)(a:s.heap.get? S=some o)
  (hQ:Q (.ref s.heap.objs.size) {s with heap:=s.heap.push {cls:=.type "set_iterator",data:=.fields #[NC 0,NC 0,.ref S,NC es.size,NC ep] } }):Kj (Kk prog w) A (Sq (.ref S)) Q E s:=by
 have b:s.TypeIs (.ref S) "set":=⟨o,a,O.ex.1⟩;refine Qe b QZ (Le QZ b uT ?_ (PySem.F.args_set_iter_1 _));show Kj _ _ (Builtin.Frozenset.sizeOf S >>=_) _ _ s;refine JH (JH (Pn a O.d (O.T.fits O.n) (JM ?_)));refine JH (zw O a ?_);simp only[J4,if_false];refine JH (JM ?_);refine JH (wpAny_setEpoch_of a O.d (O.T.fits O.n) ?_);refine JH (Nd (JM ⟨_,rfl,"set_iterator",_,⟨_,JT _ rfl,rfl⟩,dF.lookup,?_⟩));exact hQ
theorem uO(T:TOk t hs)(g:i<=t.place.size):below t.place (gj t i)=i:=by
 obtain⟨a,d,f⟩:=fL T.R (gj t i);cases i with
 |zero=>
  dsimp only[gj]at *;rcases PJ (below t.place 0) with z |z
  .exact z
  .have:=a 0 _ z (eo (by lia));lia
 |succ j=>
  dsimp only[gj]at *;have c:j<t.place.size:=by lia
  have e:t.place.getD j 0=t.place[j]:=by simp[MJ,c]
  rw[e]at a d f |-;generalize hb:below t.place (t.place[j]+1)=b at *;rcases Mh b (j+1) with z |z |z
  .have:=d j t.place[j] (by lia) (eo c);lia
  .exact z
  .have q:=a (j+1) _ z (eo (by lia));have:=T.R j (j+1) _ _ (by lia) (eo c) (eo (show j+1<t.place.size by lia));lia
theorem lO{es ep t hs}(O:SO prog w o es ep t hs)(c:s.heap.get? S=some o)(u:i<=es.size)
  (h:Q (((cH w S es ep)[i]?).map λv=>(v,aY w t (i+1))) s):Kj (Kk prog w) A (setNext S (aY w t i) i ep) Q E s:=by
 have f:=O.T.fits O.n;have r:t.place.size=es.size:=by rw[O.T.n,O.n]
 refine JH (Mi c O.d f (JH (JH (N8 (JM ?_)))));by_cases a:w.params.followText "set-order"=true
 .dsimp only;rw[show (Kk prog w).w.params.followText "set-order"=true from a,if_pos rfl,if_neg (by simp)];refine JH (JH (Mi c O.d f (JH (JH (N8 (JM ?_))))));rw[show (Kk prog w).w.params.followText "set-order"=true from a,if_pos rfl];refine JH (N8 (JM (JM ?_)))
  have e:U2 (λe=>(e.2,aY w t i)) (RU (w.params.setOrder S ep) es)[i]?=((cH w S es ep)[i]?).map λv=>(v,aY w t (i+1)):=by
   unfold cH aY;rw[if_pos a,if_pos a,if_pos a,JQ,KI,Option.map_map];rfl
  have q:Q (U2 (λe=>(e.2,aY w t i)) (RU (w.params.setOrder S ep) es)[i]?) s:=by rw[e];exact h
  exact q
 .have g:w.params.followText "set-order"=false:=by simpa using a
  rw[show (Kk prog w).w.params.followText "set-order"=false from g,if_neg (by simp)];have p:aY w t i=gj t i:=by unfold aY;rw[if_neg a]
  have k:below t.place (aY w t i)=i:=by rw[p];exact uO O.T (by lia)
  have l:(match es[below t.place (aY w t i)]?,t.place[below t.place (aY w t i)]? with
    |some (_,x),some j=>some (x,j+1)
    |_,_=>none)=((cH w S es ep)[i]?).map λv=>(v,aY w t (i+1)):=by
   rw[k];unfold cH aY;rw[if_neg a,if_neg a,JQ,KI];rcases L1 i es.size with z |z
   .have b:i<t.place.size:=by lia
    simp[z,b,MJ,gj]
   .have b:t.place.size<=i:=by lia
    simp[z,b]
  split
  .rename_i m
   exact absurd (show (!t.plain && decide (es.size >1))=true from m) (by rw[O.plain];simp)
  .refine JH ?_;show Kj _ _ (if (!t.led && !es.isEmpty)=true then unsupported "set:maker-not-led" else pure ()) _ _ _;rw[O.led,g,if_neg (by simp)];refine JM (JM ?_)
   have q:Q (match es[below t.place (aY w t i)]?,t.place[below t.place (aY w t i)]? with
    |some (_,x),some j=>some (x,j+1)
    |_,_=>none) s:=by rw[l];exact h
   exact q
theorem yq{es ep t hs}(O:SO prog w o es ep t hs)(f:s.heap.get? S=some o)(e:vm w s.heap it S t i es.size ep)(g:(cH w S es ep)[i]?=some v)
  (hQ:∀c,vm w c it S t (i+1) es.size ep->MD it s.heap c->Q (some v) {s with heap:=c }):Kj (Kk prog w) A (Rt (.ref it)) Q E s:=by
 obtain⟨m,a,l,b⟩:=id e;have k:=O.T.fits O.n;refine JH (NW (LC e.ty dF (Le dF e.ty l_ ?_ (oH _))));refine JH (JM ?_);refine JH (TL a b ?_);dsimp only[NC];refine JH (Pn f O.d k ?_);rw[if_neg (by simp)]
 have j:i<es.size:=by
  have q:=(JV.mp g).1;rw[(fj w S es ep).length_eq,JK,Ke]at q;exact q
 rw[show ((aY w t i:Nat):Int).toNat=aY w t i from Mj _,show (i:Int).toNat=i from Mj _,show (ep:Int).toNat=ep from Mj _];refine JH (lO O f (Kd j) ?_);rw[g];refine JH (Rw a b (by simp) ?_);have h:=KW (Obj.mapFields (·.setIfInBounds 0 (OK ((aY w t (i+1):Nat)) 0))) a (Q1 (M3 b _));refine JH (Rw h (M3 b _) (by simp) ?_);refine JM ⟨_,rfl,JM (hQ _ ?_ ((MR ..).trans (MR ..)))⟩;refine⟨_,KW _ h (Q1 (M3 (M3 b _) _)),(Se ..).trans ((Se ..).trans l),?_⟩;rw[M3 (M3 b _)];simp[NC]
theorem Bt{es ep t hs}(g:A.handled=none)(O:SO prog w o es ep t hs)(e:s.heap.get? S=some o)(b:vm w s.heap it S t es.size es.size ep)
  (hQ:∀c,UJ it s.heap c->Q none {s with heap:=c }):Kj (Kk prog w) A (Rt (.ref it)) Q E s:=by
 obtain⟨j,a,i,f⟩:=id b;have h:=O.T.fits O.n;refine JH (NW (LC b.ty dF (Le dF b.ty l_ ?_ (oH _))));refine JH (JM ?_);refine JH (TL a f ?_);dsimp only[NC];refine JH (Pn e O.d h ?_);rw[if_neg (by simp)];rw[show ((aY w t es.size):Int).toNat=aY w t es.size from Mj _,show (es.size:Int).toNat=es.size from Mj _,show (ep:Int).toNat=ep from Mj _];refine JH (lO O e (JR _) ?_);rw[show (cH w S es ep)[es.size]?=none from Kg (by rw[(fj w S es ep).length_eq,JK,Ke];exact JR _)];refine JH (Rw a f (by simp) ?_);refine JH ?_;simp only[newExc,newTuple];refine JH (Nd ?_ (by size_fits));refine JH (Tg (by first |rfl | (simp only[firstArgMember];rfl)) ?_);refine Nd ?_ (by size_fits);simp only[raiseNew];refine JH (wpAny_handled ?_);rw[show A.in1.handled=none from g];refine JH (JM (wpAny_throw ?_));refine JH (Mu ⟨_,JT _ rfl,rfl⟩ PY ?_);exact JM (hQ _ (((MR ..).extBut.push _).push _))
end
end ST
namespace ST
open PySem PySem.SetTable PySem.W
theorem oM:Slot "set_iterator" "__iter__" "set_iterator.__iter__":=
 .of (owner:="set_iterator") (n:="__iter__") (by rw[NP,Mo];kernel_rfl) (by decide+kernel) (by decide+kernel) (by decide+kernel) (by first |exact .inl (by decide+kernel) |exact .inr (by decide+kernel)) (by rw[N3];kernel_rfl)
theorem vv:entryFor table "set_iterator.__iter__"=some Builtin.«dict_keyiterator.__iter__»:=TH (id':="dict_keyiterator.__iter__") (by kernel_rfl) rfl (by decide+kernel) (by kernel_rfl)
theorem yJ(a):Ur "set_iterator.__iter__" ⟨[a],[]⟩:=by unfold Ur;kernel_rfl
section
variable {prog:J2}{w:Kt}{A:K7}{E:J0→JY→Prop}{s:JY}
theorem CF(a:vm w s.heap it S t i n ep)(h:Q (.ref it) s):Kj (Kk prog w) A (Sq (.ref it)) Q E s:=by
 refine Qe a.ty oM (Le oM a.ty vv ?_ (yJ _));exact JM ⟨_,rfl,"set_iterator",_,a.ty,dF.lookup,h⟩
theorem xL(u:A.handled=none){d S:Kb}(n:S≠d){o:Obj}{es ep t hs}(O:SO prog w o es ep t hs):
  Walks prog w A d [d,S] [d] es.size (λi v=>(cH w S es ep)[i]?=some v) (λi h=>vm w h d S t i es.size ep/\h.get? S=some o) where
 sub:=λb c=>by simp at c;simp[c]
 frame:=λ_ _ _ a m=>⟨let ⟨x,hx,r⟩:=a.1;⟨x,m d (by simp) x hx,r⟩,m S (by simp) o a.2⟩
 item:=λi s Q E q a g=>by
  obtain⟨v,l⟩:∃v,(cH w S es ep)[i]?=some v:=⟨_,JG (by rw[(fj w S es ep).length_eq,JK,Ke];exact q)⟩
  refine yq O a.2 a.1 l λj f k=>?_;exact g v j s.toks l ⟨f,(k.2 S n).trans a.2⟩ λb x c e=>k.extBut b x (λz=>c (by simp[z])) e
 done:=λs Q E a g=>Bt u O a.2 a.1 λj p=>g j s.toks λb x c e=>p b x (λz=>c (by simp[z])) e
 self:=λ_ _ _ _ a g=>CF a.1 g
theorem Bz(a:s.TypeIs (.ref r) "set")(h:Q false s):Kj (Kk prog w) A (Builtin.List.listLengthHint (.ref r)) Q E s:=by
 unfold Builtin.List.listLengthHint;refine JH (MQ a PySem.F.slot_set_len.lookup ?_);generalize hid:("set.__len__":String)=c
 wp_delta
 rw[show splitId c=some ("set","__len__") from by subst hid;decide+kernel];subst hid;refine JH (Mu (T:="set") (b:=true) a (by rw[N3];kernel_rfl) ?_);refine MS (λz=>absurd z (by decide)) (λ_=>?_);refine MS (λ_=>?_) (λz=>absurd (by decide+kernel) z);exact JH (QW a (JM h))
theorem Dd{S:Kb}{o:Obj}{es ep t hs}(O:SO prog w o es ep t hs):KdlSrc prog w "set" S S es.size (λi v=>(cH w S es ep)[i]?=some v) (λh=>h.get? S=some o) where
 type:=λ_ a=>⟨o,a,O.ex.1⟩
 there:=λ_ a=>⟨JU a,JU a⟩
 keep:=λ_ _ a c=>c S (.inl rfl) o a
 notList:=by decide
 notTuple:=by decide
 hint:=λ_ _ _ _ a b=>Bz ⟨o,a,O.ex.1⟩ b
 iter:=λ_ s d a=>⟨_,_,(λ_ _ b=>zi O a b),xL d (Kh (JU a)) O,⟨⟨_,JT _ rfl,rfl,by simp[aY,gj]⟩,JJ _ a⟩⟩
end
end ST
namespace ST
open PySem PySem.W PyProof.Rows
inductive Runs (lt:Nat->Nat->Bool) (n:Nat) {α:Type}:KasT α->α->Prop
 |ret (a:α):Runs lt n (.ret a) a
 |ask {i j:Nat}{k:Bool->KasT α}{a:α}:i<n->j<n->Runs lt n (k (lt i j)) a->Runs lt n (.ask i j k) a
variable {lt:Nat→Nat→Bool}{n:Nat}
theorem Runs.bind{α c:Type}{t:KasT α}{a:α}{f:α->KasT c}{b:c}(h:Runs lt n t a)(h':Runs lt n (f a) b):Runs lt n (t.bind f) b:=by
 induction h with
 |ret a=>exact h'
 |ask e g _ d=>exact Runs.ask e g (d h')
theorem Runs.wp{α:Type}{t:KasT α}{a:α}(h:Runs lt n t a)(c:∀i j C,i<n->j<n->C (lt i j) s->cmp i j C s){Q:α->JY->Prop}(q:Q a s):t.kasWp cmp Q s:=by
 induction h with
 |ret a=>exact q
 |ask d e _ b=>exact c _ _ _ d e (b q)
structure LtO(n:Nat)(lt:Nat->Nat->Bool):Prop where
 tr:∀i j k,lt i j=true->lt j k=true->lt i k=true
 tot:∀i j,i<n->j<n->i≠j->lt i j=false->lt j i=true
 asy:∀i j,lt i j=true->lt j i=false
noncomputable abbrev g(p:Array Nat)(k:Nat):Nat:=p.getD k 0
theorem C7(h:p[k]?=q[l]?):g p k=g q l:=by
 unfold g;rw[K0,K0,h]
structure PP(n:Nat)(p:Array Nat):Prop where
 perm:p.toList.Perm (Kr n)
theorem PP.size(h:PP n p):p.size=n:=by rw[<-Ke,h.perm.length_eq,Qd]
theorem PP.mem(h:PP n p)(a:k<n):g p k<n:=by
 have b:k<p.size:=by rw[h.size];exact a
 have e:g p k=p[k]:=by simp[g,MJ,b]
 rw[e];exact J_.mp (h.perm.mem_iff.mp (by simp))
theorem PP.inj(h:PP n p)(a:k<n)(b:l<n)(e:g p k=g p l):k=l:=by
 have i:k<p.toList.length:=by rw[Ke,h.size];exact a
 have j:l<p.toList.length:=by rw[Ke,h.size];exact b
 have c:=h.perm.nodup_iff.mpr QB;have d:g p k=p.toList[k]:=by simp[g,MJ,h.size,a]
 have f:g p l=p.toList[l]:=by simp[g,MJ,h.size,b]
 exact (Qx c).mp (by rw[<-d,<-f,e])
theorem PP.of(h:PP n p)(a:q.Perm p):PP n q:=⟨(Array.perm_iff_toList_perm.mp a).trans h.perm⟩
def Srt(lt:Nat->Nat->Bool)(p:Array Nat)(m:Nat):Prop:=∀i j,i<j->j<m->lt (g p i) (g p j)=true
def Dsc(lt:Nat->Nat->Bool)(p:Array Nat)(m:Nat):Prop:=∀i j,i<j->j<m->lt (g p j) (g p i)=true
theorem Srt.one(p):Srt lt p 1:=λi j a b=>by lia
theorem Srt.more(O:LtO n lt)(S:Srt lt p m)(c:1<=m)(h:lt (g p (m-1)) (g p m)=true):Srt lt p (m+1):=λi j a b=>by
 rcases Kl (L0 b) with z |z
 .exact S i j a z
 .subst z;rcases Kl (show i<=j-1 by lia) with y |y
  .exact O.tr _ _ _ (S i (j-1) y (by lia)) h
  .subst y;exact h
theorem Dsc.more(O:LtO n lt)(S:Dsc lt p m)(c:1<=m)(h:lt (g p m) (g p (m-1))=true):Dsc lt p (m+1):=λi j a b=>by
 rcases Kl (L0 b) with z |z
 .exact S i j a z
 .subst z;rcases Kl (show i<=j-1 by lia) with y |y
  .exact O.tr _ _ _ h (S i (j-1) y (by lia))
  .subst y;exact h
theorem pR(O:LtO n lt)(P:PP n p):∀f m,1<=m->m+f=n->Srt lt p m->∃a,Runs lt n (kas_asc p f m) a/\m<=a/\a<=n/\Srt lt p a/\(a<n->lt (g p a) (g p (a-1))=true)
 |0,m,b,k,S=>⟨m,.ret m,JR _,by lia,S,λh=>by lia⟩
 |f+1,m,b,k,S=>by
  by_cases hc:lt (g p m) (g p (m-1))=true
  .refine⟨m,.ask (P.mem (by lia)) (P.mem (by lia)) ?_,JR _,by lia,S,λ_=>hc⟩;rw[if_pos hc];exact .ret m
  .have Wv:lt (g p m) (g p (m-1))=false:=by simpa using hc
   have j:=O.tot _ _ (P.mem (show m<n by lia)) (P.mem (show m-1<n by lia)) (λe=>by have:=P.inj (by lia) (by lia) e;lia) Wv;obtain⟨a,r,l,i,c,d⟩:=pR O P f (m+1) (by lia) (by lia) (S.more O b j);refine⟨a,.ask (P.mem (by lia)) (P.mem (by lia)) ?_,by lia,i,c,d⟩;rw[if_neg hc];exact r
theorem qH(O:LtO n lt)(P:PP n p):∀f m,1<=m->m+f=n->Dsc lt p m->∃a,Runs lt n (kas_desc f p m 0) (p,a,0)/\m<=a/\a<=n/\Dsc lt p a
 |0,m,b,j,S=>⟨m,.ret _,JR _,by lia,S⟩
 |f+1,m,b,j,S=>by
  by_cases hc:lt (g p m) (g p (m-1))=true
  .obtain⟨a,r,k,h,c⟩:=qH O P f (m+1) (by lia) (by lia) (S.more O b hc);refine⟨a,.ask (P.mem (by lia)) (P.mem (by lia)) ?_,by lia,h,c⟩;rw[if_pos hc,if_neg (by lia)];exact r
  .have i:lt (g p m) (g p (m-1))=false:=by simpa using hc
   have d:=O.tot _ _ (P.mem (show m<n by lia)) (P.mem (show m-1<n by lia)) (λe=>by have:=P.inj (by lia) (by lia) e;lia) i;refine⟨m,.ask (P.mem (by lia)) (P.mem (by lia)) ?_,JR _,by lia,S⟩;rw[if_neg hc];refine .ask (P.mem (by lia)) (P.mem (by lia)) ?_;rw[if_pos d];exact .ret _
theorem B6(P:PP n p)(a:m<=n)(b:k<m):g (kas_rev p 0 m) k=g p (m-1-k):=by
 refine C7 ?_;unfold kas_rev;rw[getElem?_mirror (by rw[P.size];exact a) _ (by lia)];split
 .congr 1;lia
 .congr 1;lia
theorem AI(P:PP n p)(i j):PP n (kas_rev p i j):=P.of (mirror_perm _ _ _ _)
theorem DT(P:PP n p)(a:m<=n)(D:Dsc lt p m):Srt lt (kas_rev p 0 m) m:=λi j c b=>by
 rw[B6 P a (by lia),B6 P a b];exact D _ _ (by lia) (by lia)
theorem x_(O:LtO n lt)(P:PP n p)(C:2<=n):∃m b,Runs lt n (kas_count n p) (m,b)/\PP n b/\1<=m/\m<=n/\Srt lt b m:=by
 obtain⟨m,r,h,k,a,t⟩:=pR O P (n-1) 1 (JR _) (by lia) (Srt.one p);by_cases g:m=n
 .exact⟨m,p,r.bind (by rw[if_pos (by simp[g])];exact .ret _),P,h,k,a⟩
 .have c:¬ ((m==n)=true):=by simpa using g
  by_cases f:m >1
  .refine⟨m,p,r.bind ?_,P,h,k,a⟩;rw[if_neg c,if_pos f];refine .ask (P.mem (by lia)) (P.mem (by lia)) ?_;rw[if_pos (a 0 (m-1) (by lia) (by lia))];exact .ret _
  .obtain rfl:m=1:=by lia
   have s:=Dsc.more O (λi j x y=>by lia) (JR _) (t (by lia));obtain⟨d,q,B,o,u⟩:=qH O P (n-2) 2 (by lia) (by lia) s;obtain⟨e,w,A,l,v,z⟩:=pR O (AI P 0 d) (n-d) d (by lia) (by lia) (DT P o u);refine⟨e,kas_rev p 0 d,r.bind ?_,AI P 0 d,by lia,l,v⟩;rw[if_neg c,if_neg f];refine Runs.bind q ?_;rw[if_neg (by simp)];exact w.bind (.ret _)
theorem jH(O:LtO n lt)(P:PP n p)(d:k<n)(S:Srt lt p k):∀f l r,l<=r->r<=k->r-l<=f->(∀i,i<l->lt (g p i) (g p k)=true)->(∀i,r<=i->i<k->lt (g p k) (g p i)=true)->
  ∃c,Runs lt n (kas_place p k f l r) c/\c<=k/\(∀i,i<c->lt (g p i) (g p k)=true)/\(∀i,c<=i->i<k->lt (g p k) (g p i)=true)
 |0,l,r,A,v,w,a,b=>⟨l,.ret l,by lia,a,λi x y=>b i (by lia) y⟩
 |f+1,l,r,A,v,w,a,b=>by
  unfold kas_place;by_cases hlr:l ≥ r
  .rw[if_pos hlr];exact⟨l,.ret l,by lia,a,λi x y=>b i (by lia) y⟩
  .rw[if_neg hlr];have hm:(l+r)/2<k:=by lia
   by_cases h:lt (g p k) (g p ((l+r)/2))=true
   .obtain⟨c,t,m,o,s⟩:=jH O P d S f l ((l+r)/2) (by lia) (by lia) (by lia) a λi q j=>by
     rcases Kl q with z |z
     .exact O.tr _ _ _ h (S _ _ z j)
     .rw[<-z];exact h
    refine⟨c,.ask (P.mem d) (P.mem (by lia)) ?_,m,o,s⟩;rw[if_pos h];exact t
   .have B:lt (g p k) (g p ((l+r)/2))=false:=by simpa using h
    have u:=O.tot _ _ (P.mem d) (P.mem (show (l+r)/2<n by lia)) (λe=>by have:=P.inj d (by lia) e;lia) B
    obtain⟨c,t,m,o,s⟩:=jH O P d S f ((l+r)/2+1) r (by lia) v (by lia) (λi q=>by
     rcases Kl (L0 q) with z |z
     .exact O.tr _ _ _ (S _ _ z hm) u
     .rw[z];exact u) b
    refine⟨c,.ask (P.mem d) (P.mem (by lia)) ?_,m,o,s⟩;rw[if_neg h];exact t
theorem vQ(O:LtO n lt):∀f k p,k+f=n->PP n p->Srt lt p k->∃a,Runs lt n (kas_bin f p k) a/\PP n a/\Srt lt a n
 |0,k,p,o,P,S=>⟨p,.ret p,P,by rw[<-o];exact S⟩
 |f+1,k,p,o,P,S=>by
  obtain⟨l,u,x,q,r⟩:=jH O P (show k<n by lia) S k 0 k (Kv _) (JR _) (by lia) (λi h=>by lia) (λi h B=>by lia)
  have at_:∀j,g (Us p k (k-l)) j=if j=l then g p k else if l<j/\j<=k then g p (j-1) else g p j:=λj=>by
   have e:=getElem?_bubble (xs:=p) (src:=k) (by rw[P.size];lia) (k-l) (by lia) j;rw[show k-(k-l)=l by lia]at e
   split
   .rename_i z;rw[if_pos z]at e;exact C7 e
   .rename_i z
    rw[if_neg z]at e;split
    .rename_i y;rw[if_pos y]at e;exact C7 e
    .rename_i y;rw[if_neg y]at e;exact C7 e
  have m:g (Us p k (k-l)) l=g p k:=by rw[at_,if_pos rfl]
  have d:∀j,l<j->j<=k->g (Us p k (k-l)) j=g p (j-1):=λj y z=>by rw[at_,if_neg (by lia),if_pos ⟨y,z⟩]
  have b:∀j,j<l->g (Us p k (k-l)) j=g p j:=λj y=>by rw[at_,if_neg (by lia),if_neg (by lia)]
  have v:Srt lt (Us p k (k-l)) (k+1):=λi j w A=>by
   rcases Mh j l with y |y |y
   .rw[b i (by lia),b j y];exact S _ _ w (by lia)
   .rw[y,m,b i (by lia)];exact q i (by lia)
   .rw[d j y (by lia)];rcases Mh i l with z |z |z
    .rw[b i z];exact S _ _ (by lia) (by lia)
    .rw[z,m];exact r (j-1) (by lia) (by lia)
    .rw[d i z (by lia)];exact S _ _ (by lia) (by lia)
  obtain⟨a,s,t,c⟩:=vQ O f (k+1) (Us p k (k-l)) (by lia) (P.of (bubble_perm _ _ _)) v;exact⟨a,u.bind s,t,c⟩
theorem Ae(O:LtO n lt)(f:2<=n):∃p,Runs lt n (kas_sort n) p/\PP n p/\Srt lt p n:=by
 obtain⟨m,p,r,P,g,h,S⟩:=x_ O (p:=Ut (Kr n)) ⟨by simp⟩ f;by_cases a:m<n
 .obtain⟨e,d,b,c⟩:=vQ O (n-max m 1) (max m 1) p (by lia) P (by rw[show max m 1=m by lia];exact S);exact⟨e,r.bind (by rw[if_pos a];exact d),b,c⟩
 .obtain rfl:m=n:=by lia
  exact⟨p,r.bind (by rw[if_neg a];exact .ret _),P,S⟩
noncomputable def ltP(a b:Int×Int):Bool:=decide (a.1<b.1\/(a.1=b.1/\a.2<b.2))
theorem ltP_tr(d:ltP a b=true)(e:ltP b c=true):ltP a c=true:=by
 unfold ltP at *;simp at *;lia
theorem ltP_asy(c:ltP a b=true):ltP b a=false:=by
 unfold ltP at *;simp at *;lia
theorem ltP_tot(h:a≠b)(c:ltP a b=false):ltP b a=true:=by
 unfold ltP at *;have:¬ (a.1=b.1/\a.2=b.2):=λz=>h (L7 z.1 z.2);simp at *;lia
section
variable {prog:J2}{w:Kt}{A:K7}{E:J0→JY→Prop}{s:JY}
theorem TK.two(k:TK prog w h [x,y] b):∃o a n t u,h.get? b=some o∧o.cls=.type "tuple"∧o.data=.seq a n∧a.toList=[.int x t,.int y u]:=by
 obtain⟨o,a,n,e,f,i,c⟩:=k;cases Vy:a.toList with
 |nil=>rw[Vy]at c;cases c
 |cons m r=>
  rw[Vy]at c;cases c with
  |cons g j=>
   cases j with
   |cons l d=>
    cases d;obtain⟨t,rfl⟩:=MF g;obtain⟨u,rfl⟩:=MF l;exact⟨o,a,n,t,u,e,f,i,Vy⟩
theorem GQ(r:TK prog w s.heap [a.1,a.2] x)(l:TK prog w s.heap [b.1,b.2] y)(h:Q (ltP a b) s):Kj (Kk prog w) A (keyLt' (Sf true) (.ref x) (.ref y)) Q E s:=by
 obtain⟨o,p,n,t,u,k,_,j,e⟩:=r.two;obtain⟨C,q,B,D,v,g,_,m,d⟩:=l.two;refine kat_lt k j g m ?_;rw[e,d];refine kat_cons ((N_ prog w).eqBool (a:=a.1) (b:=b.1) (Mt _ _ _ _) (Mt _ _ _ _) ?_);by_cases c:a.1=b.1
 .rw[decide_eq_true c];refine kat_yes (kat_cons ((N_ prog w).eqBool (a:=a.2) (b:=b.2) (Mt _ _ _ _) (Mt _ _ _ _) ?_));by_cases f:a.2=b.2
  .rw[decide_eq_true f];refine kat_yes (kat_nil ?_);have z:ltP a b=false:=by unfold ltP;simp;lia
   rw[z]at h
   have i:decide (p.size<q.size)=false:=by
    rw[<-Ke,<-Ke,e,d];simp
   rw[i];exact h
  .rw[decide_eq_false f];refine kat_no (kat_one _ _ (lt_int ?_));have z:ltP a b=decide (a.2<b.2):=by unfold ltP;rw[c];simp
   rw[z]at h;exact h
 .rw[decide_eq_false c];refine kat_no (oneLt_int ?_);have z:ltP a b=decide (a.1<b.1):=by unfold ltP;simp[c]
  rw[z]at h;exact h
noncomputable abbrev PB:=List ((Int×Int)×Kb)
noncomputable abbrev refs(pb:PB):List J0:=pb.map λp=>Ku p.2
theorem y3(d:∀p∈pb,TK prog w s.heap [p.1.1,p.1.2] p.2)(j:0<pb.length)(h:Q (Sf true) s):Kj (Kk prog w) A (keyKind' (refs pb).toArray) Q E s:=by
 obtain⟨fs,c,e,b⟩:∃fs,KatTups s.heap (refs pb) fs/\fs.length=pb.length/\∀v∈fs,∃n t,v=OK n t:=by
  clear h j
  induction pb with
  |nil=>exact⟨[],.nil,rfl,λv a=>by simp at a⟩
  |cons p r k=>
   obtain⟨fs,c,e,b⟩:=k λq g=>d q (JL _ g);obtain⟨o,x,n,t,u,i,m,f,l⟩:=(d p JP).two;refine⟨.int p.1.1 t::fs,.cons i m f (by rw[<-KI,l];rfl) c,by simp[e],λv a=>?_⟩;rcases JN.mp a with z |z
   .exact⟨_,_,z⟩
   .exact b v z
 refine kat_kind (T:=.type "int") c (by lia) (λv a=>?_) (by decide) h;obtain⟨n,t,rfl⟩:=b v a;exact Looks.of_pure rfl
end
end ST
namespace ST
open PySem PySem.W PyProof.Rows PySem.Calls
theorem BN{α j:Type}(f:α->j){l m:List j}(h:l.Perm m):∀a,m=a.map f->∃b,Th b a/\l=List.map f b:=by
 induction h with
 |nil=>intro a e;exact⟨a,.refl _,e⟩
 | @cons x l m _ o=>
  intro a e
  match a,e with
  |[],e=>simp at e
  |k::a,e=>
   rw[J6,Om]at e;obtain⟨b,p,r⟩:=o a e.2;exact⟨k::b,p.cons k,by rw[J6,<-r,e.1]⟩
 |swap x y l=>
  intro a e
  match a,e with
  |[],e=>simp at e
  |[_],e=>simp at e
  |k::k'::a,e=>
   simp only[J6,Om]at e;exact⟨k'::k::a,.swap k k' a,by rw[J6,J6,<-e.2.2,e.1,e.2.1]⟩
 |trans _ _ d g=>
  intro a e;obtain⟨i,n,q⟩:=g a e;obtain⟨c,s,t⟩:=d i q;exact⟨c,s.trans n,t⟩
noncomputable def ptsOf(a:List (List Int×Kb)):PB:=a.map λp=>((p.1.getD 0 0,p.1.getD 1 0),p.2)
end ST
namespace ST
open PySem
noncomputable def ins(x:Int×Int):List (Int×Int)->List (Int×Int)
 |[]=>[x]
 |y::r=>if x=y then y::r else if ltP x y=true then x::y::r else y::ins x r
noncomputable def srt(a:List (Int×Int)):List (Int×Int):=a.foldr ins []
theorem o6(x z):∀l,z∈ins x l↔z=x\/z∈l
 |[]=>by simp[ins]
 |y::r=>by
  unfold ins;split
  .rename_i h;subst h;simp
  .split
   .simp
   .rw[JN,o6 x z r,JN];constructor
    .rintro (h |h |h)
     .exact .inr (.inl h)
     .exact .inl h
     .exact .inr (.inr h)
    .rintro (h |h |h)
     .exact .inr (.inl h)
     .exact .inl h
     .exact .inr (.inr h)
abbrev Asc(l:List (Int×Int)):Prop:=l.Pairwise (λx y=>ltP x y=true)
theorem vV(x):∀l,Asc l->Asc (ins x l)
 |[],_=>by simp[ins]
 |y::r,h=>by
  unfold ins;split
  .exact h
  .rename_i d
   obtain⟨c,f⟩:=KM.mp h;split
   .rename_i a
    refine KM.mpr ⟨λz b=>?_,h⟩;rcases JN.mp b with e |e
    .rw[e];exact a
    .exact ltP_tr a (c z e)
   .rename_i a
    refine KM.mpr ⟨λz b=>?_,vV x r f⟩;rcases (o6 x z r).mp b with e |e
    .rw[e];exact ltP_tot d (by simpa using a)
    .exact c z e
theorem srt_mem(z):∀l,z∈srt l↔z∈l
 |[]=>by simp[srt]
 |y::r=>by
  show z∈ins y (srt r)↔_;rw[o6,srt_mem z r,JN]
theorem srt_asc:∀l,Asc (srt l)
 |[]=>NV
 |y::r=>vV y (srt r) (srt_asc r)
theorem xa:ltP x x=false:=by unfold ltP;simp
theorem asc_one:∀{l m},Asc l->Asc m->(∀z,z∈l↔z∈m)->l=m
 |[],[],_,_,_=>rfl
 |[],y::r,_,_,h=>by have:=(h y).mpr JP;simp at this
 |x::l,[],_,_,h=>by have:=(h x).mp JP;simp at this
 |x::l,y::m,hl,hm,h=>by
  obtain⟨c,g⟩:=KM.mp hl;obtain⟨d,f⟩:=KM.mp hm
  have e:x=y:=by
   rcases JN.mp ((h x).mp JP) with z |z
   .exact z
   .rcases JN.mp ((h y).mpr JP) with b |b
    .exact b.symm
    .have:=ltP_asy (d x z);rw[c y b]at this;cases this
  subst e;congr 1;refine asc_one g f λz=>⟨λa=>?_,λa=>?_⟩
  .rcases JN.mp ((h z).mp (JL _ a)) with e |e
   .have:=c z a;rw[e,xa]at this;cases this
   .exact e
  .rcases JN.mp ((h z).mpr (JL _ a)) with e |e
   .have:=d z a;rw[e,xa]at this;cases this
   .exact e
theorem asc_srt(h:Asc l):srt l=l:=asc_one (srt_asc l) h λz=>srt_mem z l
theorem wX(x):∀l,(ins x l).length<=l.length+1
 |[]=>by simp[ins]
 |y::r=>by
  have:=wX x r;unfold ins;split
  .simp
  .split
   .simp
   .simp only[JX];lia
theorem srt_len:∀l,(srt l).length<=l.length
 |[]=>JR _
 |y::r=>by
  have h1:=wX y (srt r);have a:=srt_len r;show (ins y (srt r)).length<=_;simp only[JX];lia
end ST
namespace L2
open PySem PySem.Spec PyProof.Rows
theorem JF{p:Nat->Kb->Prop}(h:∀i,i<n->∃b,p i b):∃f:Nat->Kb,∀i,i<n->p i (f i):=by
 refine⟨λi=>if k:i<n then SJ (h i k) else 0,λi a=>?_⟩;dsimp only;rw[dif_pos a];exact Q2 (h i a)
theorem Cq:L_ "set"=some (.type "set"):=by decide+kernel
end L2
namespace ST
open PySem
section
variable {prog:J2}{w:Kt}{A:K7}{s:JY}{R:S1→JY→Prop}{I:Kb}{fp wr:List Kb}{G:Array Px→Array Px→Prop}{n:Nat}{P:Nat→J0→Prop}{St:Nat→JY→Prop}{T:String}
def Au(prog:J2)(w:Kt)(T:String):Prop:=∀(A:K7) (E:J0->JY->Prop) (s:JY) (r:Kb) (Q:Bool->JY->Prop),s.TypeIs (.ref r) T->(∀b,Q b s)->Kj (Kk prog w) A (Builtin.List.listLengthHint (.ref r)) Q E s
theorem xk(W:WalksS prog w A.in1 I fp wr G n P St)(q:∀i s,St i s→s.TypeIs (.ref I) T)(v:(Lv T==Lv "list")=false)(y:(Lv T==Lv "tuple")=false)(g:Au prog w T)(S)(res)(c₀)(h:St 0 s)(j:S ∉ fp)(x:I∈fp)
  (hS:s.heap.get? S=some {cls:=.type "list",data:=.seq #[] c₀ })
  (hR:∀a d c',Moved (S::wr) G s a→a.heap.get? S=some {cls:=.type "list",dict:=none,data:=.seq d c',slots:=#[] }→ItemsOf P d n→R (.ok (.ret res)) a) (hn:n≤sizeLine):
  Kj (Kk prog w) A.in1 (Builtin.List.listExtendWith (.ref S) (.ref I) res)
   (λu a=>match u with | .done f=>R (.ok f) a | .again c'=>c'.quiet=true/\NY (Kk prog w) A c' R a) (λe a=>R (.error e) a) s:=by
 have t:S≠I:=λe=>j (e ▸ x);refine JH (QW (q 0 _ h) ?_);have k1:Builtin.List.listSameRef (.ref S) (.ref I)=false:=by simp[Builtin.List.listSameRef,t]
 simp only[k1,v,y,RO,J4,if_false];refine JH (W.self 0 _ _ _ h (JH (KB (g _ _ _ _ _ (q 0 _ h) λb=>?_))));refine MS (λ_=>?_) (λ_=>?_)
 .refine JH (Pe (JH ?_));refine JH (LO hS rfl ?_);have p:=KW (KS (·.push MG)) hS rfl;refine LO p rfl ?_;have r:=KW (KS (·.pop)) p rfl;have oth:∀b o,b≠S->s.heap.get? b=some o->((s.heap.update S (KS (·.push MG))).update S (KS (·.pop))).get? b=some o:=λb o c e=>(Kf _ _ (Ne.symm c)).trans ((Kf _ _ (Ne.symm c)).trans e);refine JM ⟨LU Lr _,Ro W hn _ j _ n 0 _ _ _ rfl (Kv _) (W.frame 0 s _ s.toks h (JR _) λb c o e=>oth b o (λz=>j (z ▸ c)) e) r (ItemsOf.nil P) λa d c' m l k=>?_⟩;exact hR a d c' (Moved.trans W.gtrans ((Moved.refl W.grefl).then_heap (JR _) λb o c e=>oth b o (λz=>c (z ▸ JP)) e) m) l k
 .exact JM ⟨LU Lr _,Ro W hn _ j _ n 0 _ _ _ rfl (Kv _) h hS (ItemsOf.nil P) λa d c' m l k=>hR a d c' m l k⟩
theorem CL(W:WalksS prog w A.in1 I fp wr G n P St)(r:∀i s,St i s→s.TypeIs (.ref I) T)(q:(Lv T==Lv "list")=false)(u:(Lv T==Lv "tuple")=false)(d:Au prog w T)(S)(v:St 0 s)(h:S ∉ fp)(t:I∈fp)
  (hS:s.heap.get? S=some {cls:=.type "list",data:=.seq #[] })
  (hR:∀a g c',Moved (S::wr) G s a→a.heap.get? S=some {cls:=.type "list",dict:=none,data:=.seq g c',slots:=#[] }→ItemsOf P g n→R (.ok (.ret .none)) a) (hn:n≤sizeLine):
  Kj (Kk prog w) A.in1 (Builtin.«list.__init__» ⟨[.ref S,.ref I],[]⟩)
   (λl a=>match l with | .done f=>R (.ok f) a | .again c'=>c'.quiet=true/\NY (Kk prog w) A c' R a) (λe a=>R (.error e) a) s:=by
 refine JH ?_;refine JH (La hS rfl (JM ?_));refine JH (LO hS rfl ?_);have p:=KW (KS (λ_=>#[])) hS rfl;have oth:∀b o,b≠S->s.heap.get? b=some o->(s.heap.update S (KS (λ_=>#[]))).get? b=some o:=λb o c e=>(Kf _ _ (Ne.symm c)).trans e;refine JH (NQ ?_);refine xk W r q u d S .none _ (W.frame 0 s _ s.toks v (JR _) λb c o e=>oth b o (λz=>h (z ▸ c)) e) h t p (λa g c' m k j=>?_) hn;exact hR a g c' (Moved.trans W.gtrans ((Moved.refl W.grefl).then_heap (JR _) λb o c e=>oth b o (λz=>c (z ▸ JP)) e) m) k j
variable {E:J0→JY→Prop}
theorem call_list_it(W:WalksS prog w A.in1.in1 I fp wr G n P St)(v:∀i s,St i s→s.TypeIs (.ref I) T)(u:(Lv T==Lv "list")=false)(y:(Lv T==Lv "tuple")=false)(c:Au prog w T)(z:St 0 s)(h:∀b∈fp,b<s.heap.objs.size)(x:I∈fp)
  (hQ:∀a g j,Moved (s.heap.objs.size::wr) G {s with heap:=s.heap.push {cls:=.type "list",data:=.seq #[] } } a→
   a.heap.get? s.heap.objs.size=some {cls:=.type "list",dict:=none,data:=.seq g j,slots:=#[] }→ItemsOf P g n→Q (.ref s.heap.objs.size) a) (hn:n≤sizeLine):
  Kj (Kk prog w) A (call (.type "list") [.ref I]) Q E s:=by
 have q:s.heap.objs.size ∉ fp:=λr=>KA _ (h _ r);refine TM (Q₁:=λd l=>d=.ref s.heap.objs.size∧l={s with heap:=s.heap.push {cls:=.type "list",data:=.seq #[] } }) RE (Qq _) Qr (code_list_new _ ⟨rfl,rfl⟩) λd l f=>?_;obtain⟨rfl,rfl⟩:=f;have k:(s.heap.push {cls:=.type "list",data:=.seq #[] }).get? s.heap.objs.size=some {cls:=.type "list",data:=.seq #[] }:=JT _ rfl;refine⟨⟨_,k,rfl⟩,Qf _ _,CL W v u y c _ (W.frame 0 s _ s.toks z (JR _) λb _ o e=>JJ _ e) q x k (λa g j m t p=>?_) hn⟩;exact⟨rfl,hQ a g j m t p⟩
end
theorem Ee:Rh (.type "list_reverseiterator") "__len__"=pure none:=by rw[NP,Mo];kernel_rfl
theorem nM:Slot "list_reverseiterator" "__length_hint__" "list_reverseiterator.__length_hint__":=
 .of (owner:="list_reverseiterator") (n:="__length_hint__") (by rw[NP,Mo];kernel_rfl) (by decide+kernel) (by decide+kernel) (by decide+kernel) (by first |exact .inl (by decide+kernel) |exact .inr (by decide+kernel)) (by rw[N3];kernel_rfl)
theorem hint_rev(prog)(w):Au prog w "list_reverseiterator":=λA E s r Q a h=>by
 refine JH (MQ a Ee ?_);refine JH (MQ a nM.lookup ?_);generalize hid:"list_reverseiterator.__length_hint__"=c
 wp_delta
 rw[show splitId c=some ("list_reverseiterator","__length_hint__") from by subst hid;decide+kernel];subst hid;refine JH (Mu (b:=true) a (by rw[N3];kernel_rfl) ?_);refine MS (λz=>absurd z (by decide)) (λ_=>?_);refine MS (λ_=>?_) (λz=>absurd (by decide+kernel) z);refine MS (λz=>absurd z (by decide+kernel)) (λ_=>JM (h _))
end ST
namespace L2
open PySem PySem.Spec PyProof.Rows
theorem nq:L_ "reversed"=some (.type "reversed"):=by decide+kernel
theorem aP.rev:∀{d}{c},aP d c->aP d.reverse c.reverse:=λ{d c} r=>by
 induction r with
 |nil=>exact .nil
 | @cons x u d c g j i=>
  rw[Sg,Sg]
  have f:∀{a}{b},aP a b->aP (a++[x]) (b++[u]):=λ{a b} q=>by
   induction q with
   |nil=>exact .cons g .nil
   |cons h _ e=>exact .cons h e
  exact f i
theorem Rps.rev{K:JI}(r:Rps K H vs xs):Rps K H vs.reverse xs.reverse:=⟨by simp[r.len],λi v x a c=>by
 have b:i<vs.length:=by have:=aT a;simpa using this
 have d:i<xs.length:=by rw[<-r.len];exact b
 rw[Ly b]at a;rw[Ly d,<-r.len]at c;exact r.at_ _ v x a c⟩
section
variable {X:Cx}{H0:Hp}{O0:List Kb}{ps:PSt}{e k:Expr}{x:U}{xs:List U}{pos Vq p p' p2:Pos}
theorem qk{K:JI}(f:Rp K H v x)(g:x=.lst xs\/x=.scr xs):∃a e,v=.ref a/\SqL K H a e/\Rps K H e xs:=by
 rcases g with rfl |rfl
 .cases f with
  |lst b d c=>exact⟨_,_,rfl,SqL.of b,d,c⟩
 .cases f with
  |scr b d c=>exact⟨_,_,rfl,b,d,c⟩
theorem IJ(A:Ev X H0 O0 ps e x)(P:Ev X H0 O0 ps k (.int (-1)))(T:x=.lst xs\/x=.scr xs):EvN X H0 O0 ps (.Subscript e (.Slice none none (some k) p2) pos) xs.reverse:=by
 rintro n s m H Q I ⟨O,R,q⟩;refine R9 (thn (A n s m H (λv f=>aI H f/\Rp X.K (hid f O) v x) I ⟨O,R,λv f o i=>⟨o,i⟩⟩) λu o E=>?_);obtain⟨v,f,M,i,j,L⟩:=E;obtain⟨a,w,rfl,B,J⟩:=qk L T;cases i;refine wpAny_Slice ?_;rw[RM];refine JM (JM ?_);rw[evalPart_some];refine thn (P n o m f (λv d=>aI f d/\v=.int (-1)) M ⟨O,R.go j,λv d g C=>⟨g,by cases C;rfl⟩⟩) λV g hy=>?_;obtain⟨U,d,S,N,c,rfl⟩:=hy;obtain⟨t,rfl⟩:=N;have l:Inv X n m d {g with heap:=g.heap.push {cls:=.type "slice",data:=.fields #[.none,.none,.int (-1) t] } }:=S.kept λb y z=>JJ _ z;obtain⟨G,p,r,F⟩:=l.list (c.seq (aH.seq B));have Y:=p.length;refine tail_any r.isList.typeIs slot_list_getitem.lookup ?_ (by with_unfolding_all rfl);refine P9 r.isList (RN ..) .none .none (IsPart.int _ _) (by simp) ?_ (by rw[J9];lia);rw[PySem.W.krv_pick];generalize hn:(g.heap.push {cls:=.type "slice",data:=.fields #[.none,.none,.int (-1) t] }).objs.size=D;have h:d D=none:=l.hok.fresh (by rw[<-hn];exact JR _);refine⟨.ref D,upd d D (.lst w.reverse),l.laid (λb y z=>JJ _ z) (by rw[<-hn];exact JR _) ⟨by rw[KD];exact F,G.reverse,0,p.rev,?_⟩,rfl,?_⟩
 .rw[<-hn];exact JT _ rfl
 .refine q D _ _ ((j.trans c).trans (aO h _)) ((j.trans c).free h) aG ?_;exact (J.rev.same (aF c)).same (ba (aO h _) h)
theorem yd(hc:X.calm=true)(hg:Gl X "list")(hm:X.mg "list"=none)(J:Gl X "reversed")(L:X.mg "reversed"=none)(ha:Ev X H0 O0 ps e (.lst xs))
  (he:JO [e] X.env=(false,LD e X.env)::JO [] X.env:=by rfl):EvN X H0 O0 ps (.Call (.Name "list" p) [.Call (.Name "reversed" p') [e] [] Vq] [] pos) xs.reverse:=by
 rintro C s B H Q I ⟨O,R,q⟩;have hh:=I.ok.hd hc;refine Kw (cQ I hg hm boot_list ?_);refine callWith_type1 (e:=.Call (.Name "reversed" p') [e] [] Vq) (rest:=[]) ?_ br rfl;rw[br];refine Mq ?_;refine Kw (cQ I J L nq ?_);refine callWith_type1 (thn (bH ha cU he Vq C s B H (λN h=>∃v,N=[v]/\aI H h/\Rp X.K (hid h O) v (.lst xs)) I ⟨O,R,λv h d r1=>⟨v,rfl,d,r1⟩⟩) λus d hx=>?_) he rfl;obtain⟨N,h,G,rv,v,rfl,V,rp⟩:=hx;obtain⟨u,rfl,ru⟩:=c8 rv;obtain⟨a,Y,rfl,hq,rs⟩:=qk rp (.inl rfl);cases ru;obtain⟨f,P,F,hz⟩:=G.list (aH.seq hq);have Vi:=P.length;have r:f.toArray.size=f.length:=by simp
 refine call_reversed_list F.isList ?_;have I2:Inv X C B h {d with heap:=d.heap.push (UV a ((f.toArray.size:Int)-1)) }:=G.kept (t':=d.toks) λb k z=>JJ _ z;refine NU ?_;have U:a<d.heap.objs.size:=by obtain⟨o,ho,_⟩:=F.isList;exact JU ho
 have W:=(Walks.listRev (prog:=X.prog) (w:=X.w) (A:=X.A.in1.in1) hh d.heap.objs.size a (Kh U) f.toArray).toS;refine ST.call_list_it (T:="list_reverseiterator") (s:={d with heap:=d.heap.push (UV a ((f.toArray.size:Int)-1)) }) W (λi s' st=>st.2.1.typeIs) (by decide) (by decide) (ST.hint_rev _ _) ⟨Kv _,⟨_,JT _ rfl,rfl,by simp[UV]⟩,F.isList.push _⟩ (λb g=>?_) (by simp) (λs3 l c m hD E=>?_) (by rw[r];lia)
 .show b<(d.heap.push _).objs.size;rw[KU];simp at g;rcases g with z |z
  .rw[z];exact LS _
  .rw[z];exact LZ U
 .obtain⟨S,Z,d3,n,M⟩:=s3;obtain rfl:Z=d.gens:=m.gens;obtain rfl:d3=d.drawn:=m.drawn;obtain rfl:M=d.os:=m.os;have j:(d.heap.push (UV a ((f.toArray.size:Int)-1))).objs.size=d.heap.objs.size+1:=KU ..
  have keep:∀b k,d.heap.get? b=some k->S.get? b=some k:=λb k z=>by
   have g:=JU z;refine m.heap b k (λy=>?_) (JJ _ (JJ _ z));rcases JN.mp y with y |y
   .rw[y]at g;have WD:d.heap.objs.size+1<d.heap.objs.size:=by rw[<-j];exact g
    exact absurd WD (by lia)
   .rw[Kq.mp y]at g;exact KA _ g
  have XO:l.toList=f.reverse:=by
   apply L3;intro i;rcases L1 i l.size with z |z
   .have y:=E.2 i _ (Lb z);have x:i<f.length:=by rw[E.1,r]at z;exact z
    rw[KI,Lb z,Ly x,<-y,r];simp
   .have x:f.length<=i:=by rw[E.1,r]at z;exact z
    rw[Kg (by simpa using z),Kg (by simpa using x)]
  generalize hn:(d.heap.push (UV a ((f.toArray.size:Int)-1))).objs.size=D at *;have t:h D=none:=I2.hok.fresh (by rw[<-hn];exact JR _);have I3:Inv X C B (upd h D (.lst Y.reverse)) {d with heap:=S,toks:=n }:=G.laid (t':=n) (o:=.lst Y.reverse) keep (by rw[j];exact S5 _) ⟨by rw[KD];exact hz,f.reverse,c,P.rev,by rw[<-XO,Array.toArray_toList];exact hD⟩;refine⟨.ref D,_,I3,rfl,q D _ _ (V.trans (aO t _)) (V.free t) aG ?_⟩;exact rs.rev.same (ba (aO t _) t)
end
section
variable {X:Cx}{H0:Hp}{O0:List Kb}{ps:PSt}{xs:List U}{us:List U}{es:List Expr}{x:Str}{pc p' pos:Pos}
theorem gF(n:Nat)(h:ps[n]?=some (some (.own xs)))(e:Gl X "len")(c:X.mg "len"=none)(a:X.N[n]?=some x:=by rfl)(b:Vis X.env.scope x:=by first |exact Or.inl rfl |exact Or.inr (Or.inl rfl) |exact Or.inr (Or.inr rfl))(d:(x==("__debug__":Str))=false:=by decide)
  (VD:(x==("__classdict__":Str))=false:=by decide) (VA:(Ll pos (JO [] X.env)).any (·.1)=false:=by rfl):Ev X H0 O0 ps (.Call (.Name "len" pc) [.Name x p'] [] pos) (.int xs.length):=Gi n h e c a b d VD af VA
end
end L2
namespace ST
open PySem
abbrev jE(h:Mf)(z c a T:Kb)(b:Bool):Prop:=h.get? z=some {cls:=.type "zip",dict:=none,data:=.fields #[NC T,.bool b,.bool false,.ref c,.ref a],slots:=#[] }
section
variable {prog:J2}{w:Kt}{A:K7}{E:J0→JY→Prop}{s:JY}
theorem Im(h:s.heap.get? T=some o)(q:Q (some o) s):Kj (Kk prog w) A (loadIfAlive T) Q E s:=λb p a=>by
 unfold loadIfAlive;rw[Sem.wp_loadIfAlive,h];simpa using q
theorem gw(d:jE s.heap z TI TO T b)(f:s.heap.get? T=some oT)(h:∀e,jE e z TI TO T true->MD z s.heap e->Q false {s with heap:=e }):
  Kj (Kk prog w) A (Builtin.SmallTypes.ownedTupleIsFree (.ref z)) Q E s:=by
 refine JH (LW d rfl rfl ?_);refine JH (Im (by rw[Mj];exact f) ?_);rw[if_neg (by simp)];refine JH (LW d rfl (x:=.bool b) rfl ?_);cases b with
 |true=>
  rw[if_neg (by decide)];exact JM (h s.heap d (Qb _ _))
 |false=>
  rw[if_pos (by decide)];refine JH (M4 d (by simp) λc a g=>JM (h c a g))
theorem zL{Q:J0->JY->Prop}(D:N9 z TI TO i1 i2 l1 l2)
  (hz:jE s.heap z TI TO T b) (hT:s.heap.get? T=some oT) (W4:OO s.heap TI (.ref i1) (.ref i2))
  (h1:s.heap.IsListIter i1 l1 k1) (h2:s.heap.IsListIter i2 l2 k2) (Vz:s.heap.IsList l1 xs) (VG:s.heap.IsList l2 ys) (hx:xs[k1]?=some x) (hy:ys[k2]?=some y)
  (hQ:∀h',jE h' z TI TO T true->h'.IsListIter i1 l1 (k1+1)->h'.IsListIter i2 l2 (k2+1)->OO h' s.heap.objs.size x y->(∀c o,c≠z->c≠i1->c≠i2->s.heap.get? c=some o->h'.get? c=some o)->Q (.ref s.heap.objs.size) {s with heap:=h' }):
  Kj (Kk prog w) A (Builtin.«zip.__next__» ⟨[.ref z],[]⟩) (λn m=>∃v,n=.done (.ret v)/\Q v m) E s:=by
 show Kj _ _ (UL (.ref z) 2 >>=_) _ _ _;refine JH (LW hz rfl rfl ?_);refine JH (LW hz rfl rfl (JH (La W4 rfl ?_)));refine JH (gw hz hT λu i a=>?_);simp only[J4,if_false];refine JH ?_;rw[<-NF];simp only[Ng,N4];refine JH (JH (KB ?_));refine JH (Mc (h1.extBut a.extBut D.i1z) (Vz.extBut a.extBut D.l1z) hx λt q d=>JM ?_);refine JM ?_;refine JH (JH (KB ?_));refine JH (Mc ((h2.extBut a.extBut D.i2z).extBut d.extBut D.i12.symm) ((VG.extBut a.extBut D.l2z).extBut d.extBut D.l2i1) hy λr h f=>JM ?_);refine JM (JM ?_);refine JH (Rx ?_ (by show 2<=sizeLine;rw[Lg];lia));have g:r.objs.size=s.heap.objs.size:=by rw[f.1,d.1,a.1]
 have j:=f.extBut _ _ D.i2z.symm (d.extBut _ _ D.i1z.symm i);refine JM ⟨_,rfl,?_⟩;rw[g];refine hQ _ (JJ _ j) (((q.extBut f.extBut D.i12)).at λo e=>JJ _ e) (h.at λo e=>JJ _ e) ?_ λc o k p l e=>JJ _ (f.extBut _ _ l (d.extBut _ _ p (a.extBut _ _ k e)));rw[<-g];exact JT _ rfl
theorem pY(i:A.handled=none)(D:N9 z TI TO i1 i2 l1 l2)
  (hz:jE s.heap z TI TO T b) (hT:s.heap.get? T=some oT) (W4:OO s.heap TI (.ref i1) (.ref i2))
  (h1:s.heap.IsListIter i1 l1 k1) (Vz:s.heap.IsList l1 xs) (hx:xs[k1]?=none)
  (hE:∀a e,(∀c o,c≠z→c≠i1→c≠i2→s.heap.get? c=some o→a.get? c=some o)→(∃o,a.get? e=some o∧o.cls=.type "StopIteration")→E (.ref e) {s with heap:=a }):
  Kj (Kk prog w) A (Builtin.«zip.__next__» ⟨[.ref z],[]⟩) Q E s:=by
 show Kj _ _ (UL (.ref z) 2 >>=_) _ _ _;refine JH (LW hz rfl rfl ?_);refine JH (LW hz rfl rfl (JH (La W4 rfl ?_)));refine JH (gw hz hT λn m d=>?_);simp only[J4,if_false];refine JH ?_;rw[<-NF];simp only[Ng,N4];refine JH (JH (KB ?_));refine JH (OP i (h1.extBut d.extBut D.i1z) (Vz.extBut d.extBut D.l1z) hx λf e h k=>?_);exact hE f e (λc o j g l q=>h _ _ g (d.extBut _ _ j q)) k
theorem nF(l:A.handled=none)(D:N9 z TI TO i1 i2 l1 l2)
  (hz:jE s.heap z TI TO T b) (hT:s.heap.get? T=some oT) (W4:OO s.heap TI (.ref i1) (.ref i2))
  (h1:s.heap.IsListIter i1 l1 k1) (h2:s.heap.IsListIter i2 l2 k2) (Vz:s.heap.IsList l1 xs) (VG:s.heap.IsList l2 ys) (hx:xs[k1]?=some x) (hy:ys[k2]?=none)
  (hE:∀f e,(∀c o,c≠z→c≠i1→c≠i2→s.heap.get? c=some o→f.get? c=some o)→(∃o,f.get? e=some o∧o.cls=.type "StopIteration")→E (.ref e) {s with heap:=f }):
  Kj (Kk prog w) A (Builtin.«zip.__next__» ⟨[.ref z],[]⟩) Q E s:=by
 show Kj _ _ (UL (.ref z) 2 >>=_) _ _ _;refine JH (LW hz rfl rfl ?_);refine JH (LW hz rfl rfl (JH (La W4 rfl ?_)));refine JH (gw hz hT λt p a=>?_);simp only[J4,if_false];refine JH ?_;rw[<-NF];simp only[Ng,N4];refine JH (JH (KB ?_));refine JH (Mc (h1.extBut a.extBut D.i1z) (Vz.extBut a.extBut D.l1z) hx λn r d=>JM ?_);refine JM ?_;refine JH (JH (KB ?_));refine JH (OP l ((h2.extBut a.extBut D.i2z).extBut d.extBut D.i12.symm) ((VG.extBut a.extBut D.l2z).extBut d.extBut D.l2i1) hy λm e g h=>?_);exact hE m e (λc o i k j q=>g _ _ j (d.extBut _ _ k (a.extBut _ _ i q))) h
theorem yU(D:N9 z TI TO i1 i2 l1 l2)
  (hz:jE s.heap z TI TO T b) (hT:s.heap.get? T=some oT) (W4:OO s.heap TI (.ref i1) (.ref i2))
  (h1:s.heap.IsListIter i1 l1 k1) (h2:s.heap.IsListIter i2 l2 k2) (Vz:s.heap.IsList l1 xs) (VG:s.heap.IsList l2 ys) (hx:xs[k1]?=some x) (hy:ys[k2]?=some y)
  (hQ:∀h',jE h' z TI TO T true->h'.IsListIter i1 l1 (k1+1)->h'.IsListIter i2 l2 (k2+1)->OO h' s.heap.objs.size x y->(∀c o,c≠z->c≠i1->c≠i2->s.heap.get? c=some o->h'.get? c=some o)->Q (some (.ref s.heap.objs.size)) {s with heap:=h' }):
  Kj (Kk prog w) A (Rt (.ref z)) Q E s:=by
 have a:s.TypeIs (.ref z) "zip":=⟨_,hz,rfl⟩
 exact JH (NW (LC a KY
  (Le KY a MV (zL D hz hT W4 h1 h2 Vz VG hx hy λh' e h d f g=>JM (hQ h' e h d f g)) (MC _))))
theorem nu(i:A.handled=none)(D:N9 z TI TO i1 i2 l1 l2)
  (hz:jE s.heap z TI TO T b) (hT:s.heap.get? T=some oT) (W4:OO s.heap TI (.ref i1) (.ref i2)) (h1:s.heap.IsListIter i1 l1 k1) (Vz:s.heap.IsList l1 xs) (hx:xs[k1]?=none)
  (hQ:∀a,(∀c o,c≠z->c≠i1->c≠i2->s.heap.get? c=some o->a.get? c=some o)->Q none {s with heap:=a }):Kj (Kk prog w) A (Rt (.ref z)) Q E s:=by
 have d:s.TypeIs (.ref z) "zip":=⟨_,hz,rfl⟩
 refine JH (NW (LC d KY
  (Le KY d MV (pY i D hz hT W4 h1 Vz hx λa e h j=>?_) (MC _))))
 obtain⟨o,f,g⟩:=j;refine JH (Mu ⟨o,f,g⟩ PY ?_);exact JM (hQ a h)
theorem m7(i:A.handled=none)(D:N9 z TI TO i1 i2 l1 l2)
  (hz:jE s.heap z TI TO T b) (hT:s.heap.get? T=some oT) (W4:OO s.heap TI (.ref i1) (.ref i2)) (h1:s.heap.IsListIter i1 l1 k1) (h2:s.heap.IsListIter i2 l2 k2) (Vz:s.heap.IsList l1 xs) (VG:s.heap.IsList l2 ys) (hx:xs[k1]?=some x) (hy:ys[k2]?=none)
  (hQ:∀a,(∀c o,c≠z->c≠i1->c≠i2->s.heap.get? c=some o->a.get? c=some o)->Q none {s with heap:=a }):Kj (Kk prog w) A (Rt (.ref z)) Q E s:=by
 have d:s.TypeIs (.ref z) "zip":=⟨_,hz,rfl⟩
 refine JH (NW (LC d KY
  (Le KY d MV (nF i D hz hT W4 h1 h2 Vz VG hx hy λa e h j=>?_) (MC _))))
 obtain⟨o,f,g⟩:=j;refine JH (Mu ⟨o,f,g⟩ PY ?_);exact JM (hQ a h)
end
structure ZL(xs ys:Array J0)(z TI TO i1 i2 l1 l2 S:Kb)(h:Mf)(i:Nat)(ad:List Kb)(c:Nat):Prop where
 ti:OO h TI (.ref i1) (.ref i2)
 a1:h.IsListIter i1 l1 i
 a2:h.IsListIter i2 l2 i
 b1:h.IsList l1 xs
 b2:h.IsList l2 ys
 acc:h.get? S=some {cls:=.type "list",dict:=none,data:=.seq (ad.map Ku).toArray c,slots:=#[] }
 len:ad.length=i
 tup:∀(j:Nat) (a:Kb),ad[j]?=some a->∃x y,xs[j]?=some x/\ys[j]?=some y/\OO h a x y
 far:∀a∈ad,a≠z/\a≠TO/\a≠i1/\a≠i2/\a≠S
 to:∃o,h.get? TO=some o
 nd:ad.Nodup
 zz:(i=0/\Q3 h z TI TO .none/\∃a b,OO h TO a b)\/(∃b T,ad[0]?=some T/\jE h z TI TO T b)
variable {R:S1→JY→Prop}
section
variable {prog:J2}{w:Kt}{A:K7}
theorem ZL.put(Z:ZL xs ys z TI TO i1 i2 l1 l2 S h i ad c)(D:N9 z TI TO i1 i2 l1 l2)
  (hS:S≠z/\S≠TI/\S≠TO/\S≠i1/\S≠i2/\S≠l1/\S≠l2) (ha:a=h.objs.size) (hzlt:z<h.objs.size) (nto:∃o,h'.get? TO=some o) (hx:xs[i]?=some x) (hy:ys[i]?=some y)
  (n1:h'.IsListIter i1 l1 (i+1)) (n2:h'.IsListIter i2 l2 (i+1)) (np:OO h' a x y) (nk:∀c o,c≠z->c≠TO->c≠i1->c≠i2->h.get? c=some o->h'.get? c=some o)
  (nz:∃b T,(ad++[a])[0]?=some T/\jE h' z TI TO T b):
  ∃g,ZL xs ys z TI TO i1 i2 l1 l2 S (h'.update S (KS (·.push (.ref a)))) (i+1) (ad++[a]) g:=by
 obtain⟨C,F,A,w,v,H,O⟩:=hS;have N:=nk S _ C A w v Z.acc;have oth:∀b o,b≠S->h'.get? b=some o->(h'.update S (KS (·.push (.ref a)))).get? b=some o:=λb o k e=>(Kf _ _ (Ne.symm k)).trans e;have f:∀b o,h.get? b=some o->b≠a:=λb o e z=>by rw[z,ha]at e;exact KA _ (JU e)
 have B:a≠S:=λe=>f S _ Z.acc e.symm;have l:a≠i1:=by obtain⟨o,e,_⟩:=Z.a1;exact λq=>f i1 o e q.symm
 have s:a≠i2:=by obtain⟨o,e,_⟩:=Z.a2;exact λq=>f i2 o e q.symm
 have J:a≠z:=by rw[ha];exact LX hzlt
 have n:a≠TO:=by obtain⟨o,e⟩:=Z.to;exact λq=>f TO o e q.symm
 obtain⟨g,r⟩:∃g,(h'.update S (KS (·.push (.ref a)))).get? S=some {cls:=.type "list",dict:=none,data:=.seq ((ad.map Ku).toArray.push (.ref a)) g,slots:=#[] }:=⟨_,PyProof.Rows.get?_update_seq N (·.push (.ref a))⟩;refine⟨g,⟨oth _ _ F.symm (nk TI _ D.TIz D.TITO D.TIi1 D.TIi2 Z.ti),n1.at λo e=>oth _ o w.symm e,n2.at λo e=>oth _ o v.symm e,?_,?_,?_,by rw[Ko,Z.len];rfl,?_,?_,?_,?_,?_⟩⟩
 .exact (Z.b1.at λo e=>nk l1 o D.l1z D.l1TO D.l1i1 D.l1i2 e).at λo e=>oth _ o H.symm e
 .exact (Z.b2.at λo e=>nk l2 o D.l2z D.l2TO D.l2i1 D.l2i2 e).at λo e=>oth _ o O.symm e
 .rw[r];simp
 .intro j b d;rcases L1 j ad.length with q |q
  .rw[JZ q]at d;obtain⟨R,I,u,m,U⟩:=Z.tup j b d;obtain⟨Q,P,E,G,M⟩:=Z.far b (J8 d);exact⟨R,I,u,m,oth _ _ M (nk b _ Q P E G U)⟩
  .rw[J3 q]at d
   have t:j=i:=by
    have:=(JV.mp d).1;simp at this;rw[Z.len]at *;lia
   subst t;rw[Z.len,Uu]at d;cases d;exact⟨x,y,hx,hy,oth _ _ B np⟩
 .intro b k;rcases Lm.mp k with q |q
  .exact Z.far b q
  .rw[Kq.mp q];exact⟨J,n,l,s,B⟩
 .obtain⟨o,e⟩:=nto;exact⟨o,oth _ _ A.symm e⟩
 .rw[OA];refine⟨Z.nd,by simp,λp K q L=>?_⟩;rw[Kq.mp L];obtain⟨j,d⟩:=KJ.mp K;obtain⟨_,_,_,_,e⟩:=Z.tup j p d;exact f p _ e
 .obtain⟨b,T,u,m⟩:=nz;exact .inr ⟨b,T,u,oth _ _ C.symm m⟩
structure ZF(xs ys:Array J0)(S:Kb)(h:Mf)(ad:List Kb)(c:Nat):Prop where
 acc:h.get? S=some {cls:=.type "list",dict:=none,data:=.seq (ad.map Ku).toArray c,slots:=#[] }
 len:ad.length=ys.size
 tup:∀(j:Nat) (a:Kb),ad[j]?=some a->∃x y,xs[j]?=some x/\ys[j]?=some y/\OO h a x y
 ne:∀a∈ad,a≠S
 nd:ad.Nodup
theorem sn(hh:A.in1.handled=none)(D:N9 z TI TO i1 i2 l1 l2)(m:S≠z/\S≠TI/\S≠TO/\S≠i1/\S≠i2/\S≠l1/\S≠l2)(hxy:ys.size<=xs.size)(hn:xs.size<=1000)(res):
  ∀k i s n c,ys.size-i=k->i<=ys.size->ZL xs ys z TI TO i1 i2 l1 l2 S s.heap i n c->
   (∀h' Wg c',ZF xs ys S h' Wg c'->(∀b o,b≠z->b≠TO->b≠i1->b≠i2->b≠S->s.heap.get? b=some o->h'.get? b=some o)->(∀a∈Wg,a∈n\/s.heap.get? a=none)->R (.ok (.ret res)) {s with heap:=h' })->
   NY (Kk prog w) A (.builtin "list.extend.loop" ⟨[.ref S,.ref z,res],[]⟩) R s:=by
 intro k
 induction k with
 |zero=>
  intro i s n c hk hi Z hR;obtain rfl:i=ys.size:=by lia
  refine LN PZ ?_;rw[Ld Lr _]
  have I:∀h',(∀b o,b≠z->b≠TO->b≠i1->b≠i2->s.heap.get? b=some o->h'.get? b=some o)->R (.ok (.ret res)) {s with heap:=h' }:=λh' d=>
   hR h' n c ⟨d S _ m.1 m.2.2.1 m.2.2.2.1 m.2.2.2.2.1 Z.acc,Z.len,λj a e=>by
    obtain⟨x,y,O,e2,e3⟩:=Z.tup j a e;obtain⟨N,K,U,P,f5⟩:=Z.far a (J8 e);exact⟨x,y,O,e2,d a _ N K U P e3⟩,λa u=>(Z.far a u).2.2.2.2,Z.nd⟩ (λb o l M r p _ e=>d b o l M r p e) λa u=>.inl u
  rcases Z.zz with ⟨h0,g,a,b,t⟩ |⟨b,T,J,g⟩
  .refine JH (Rq hh D g Z.ti t Z.a1 Z.a2 Z.b1 Z.b2 (.inr (by simp)) λh' d=>?_);exact JM (I h' d)
  .obtain⟨x,y,_,_,V⟩:=Z.tup 0 T J;by_cases hq:ys.size<xs.size
   .refine JH (m7 hh D g V Z.ti Z.a1 Z.a2 Z.b1 Z.b2 (Lb hq) (by simp) λh' d=>?_);exact JM (I h' λb o l _ r p e=>d b o l r p e)
   .refine JH (nu hh D g V Z.ti Z.a1 Z.b1 (Array.getElem?_eq_none (by lia)) λh' d=>?_);exact JM (I h' λb o l _ r p e=>d b o l r p e)
 |succ k ih=>
  intro i s n c hk hi Z hR;have Ve:i<xs.size:=by lia
  have Y:i+1<=ys.size:=by lia
  have hx:=Lb Ve;have hy:ys[i]?=some (ys[i]'(by lia)):=Lb (by lia);refine LN PZ ?_;rw[Ld Lr _]
  have go:∀h',(∃b T,(n++[s.heap.objs.size])[0]?=some T/\jE h' z TI TO T b)->(∃o,h'.get? TO=some o)->h'.IsListIter i1 l1 (i+1)->h'.IsListIter i2 l2 (i+1)->OO h' s.heap.objs.size xs[i] (ys[i]'(by lia))->
    (∀b o,b≠z->b≠TO->b≠i1->b≠i2->s.heap.get? b=some o->h'.get? b=some o)->
    Kj (Kk prog w) A.in1 (Uv S (·.push (.ref s.heap.objs.size)) >>=λ_=>again (.builtin "list.extend.loop" ⟨[.ref S,.ref z,res],[]⟩))
     (λI W=>match I with | .done f=>R (.ok f) W | .again c'=>c'.quiet=true/\NY (Kk prog w) A c' R W) (λe W=>R (.error e) W) {s with heap:=h' }:=λh' nz H l M np L=>by
   have gS:=L S _ m.1 m.2.2.1 m.2.2.2.1 m.2.2.2.2.1 Z.acc
   have G:z<s.heap.objs.size:=by
    rcases Z.zz with ⟨_,g,_⟩ |⟨_,_,_,g⟩ <;>exact JU g
   obtain⟨c',Z'⟩:=Z.put D m rfl G H hx hy l M np L nz;have Xe:((n.map Ku).toArray).size=i:=by simp[Z.len]
   refine JH (LO gS rfl (JM ⟨LU Lr _,ih (i+1) _ (n++[s.heap.objs.size]) c' (by lia) Y Z' λh2 ad2 c2 F d fr=>?_⟩) (by rw[Xe,Lg];lia) (by rw[Array.size_push,Xe,Lg];lia));refine hR h2 ad2 c2 F (λb o v Q E B C e=>d b o v Q E B C ((Kf _ _ (Ne.symm C)).trans (L b o v Q E B e))) λa u=>?_;rcases fr a u with q |q
   .rcases Lm.mp q with q |q
    .exact .inl q
    .right;rw[Kq.mp q];exact O5 (JR _)
   .right
    cases hq:s.heap.get? a with
    |none=>rfl
    |some o=>
     exfalso
     by_cases O:a=S
     .subst O;exact F.ne a u rfl
     .have h:h'.get? a=none:=by
       have:=q;rw[Kf _ _ (Ne.symm O)]at this;exact this
      by_cases N:a=z
      .obtain⟨_,_,_,e⟩:=nz;rw[N,e]at h;cases h
      .by_cases K:a=TO
       .obtain⟨o',e⟩:=H;rw[K,e]at h;cases h
       .by_cases U:a=i1
        .obtain⟨o',e,_⟩:=l;rw[U,e]at h;cases h
        .by_cases P:a=i2
         .obtain⟨o',e,_⟩:=M;rw[P,e]at h;cases h
         .rw[L a o N K U P hq]at h;cases h
  rcases Z.zz with ⟨h0,g,a,b,t⟩ |⟨b,T,J,g⟩
  .subst h0;have X:=LB.mp Z.len;refine JH (Q4 D g Z.ti t Z.a1 Z.a2 Z.b1 Z.b2 hx hy λh' v Q E B C _ d=>?_);exact go h' ⟨false,_,by rw[X];rfl,v⟩ ⟨_,Q⟩ E B C d
  .obtain⟨x,y,_,_,V⟩:=Z.tup 0 T J;refine JH (yU D g V Z.ti Z.a1 Z.a2 Z.b1 Z.b2 hx hy λh' v E B C d=>?_);refine go h' ⟨true,T,?_,v⟩ ?_ E B C λb o l _ r p e=>d b o l r p e
   .rw[JZ (JV.mp J).1];exact J
   .obtain⟨o,e⟩:=Z.to;exact⟨o,d TO o D.TOz D.TOi1 D.TOi2 e⟩
end
theorem Dt:Rh (.type "zip") "__len__"=pure none:=by rw[NP,Mo];kernel_rfl
theorem zT:Rh (.type "zip") "__length_hint__"=pure none:=by rw[NP,Mo];kernel_rfl
theorem zO(prog)(w):Au prog w "zip":=λA E s r Q a h=>by
 refine JH (MQ a Dt ?_);refine JH (MQ a zT ?_);exact JM (h _)
section
variable {prog:J2}{w:Kt}{A:K7}{E:J0→JY→Prop}{s:JY}
theorem A5(b:Q3 s.heap z TI TO f)(h:Q (.ref z) s):Kj (Kk prog w) A (Sq (.ref z)) Q E s:=by
 have a:s.TypeIs (.ref z) "zip":=⟨_,b,rfl⟩;refine Qe a Q5 (Le Q5 a PySem.F.entry_zip_iter ?_ (PySem.F.args_zip_iter_1 _));exact JM ⟨_,rfl,"zip",_,a,KY.lookup,h⟩
theorem ui(u:A.in1.handled=none)(D:N9 z TI TO i1 i2 l1 l2)(k:S≠z/\S≠TI/\S≠TO/\S≠i1/\S≠i2/\S≠l1/\S≠l2)(h:ys.size<=xs.size)(v:xs.size<=1000)(res) 
  (hz:Q3 s.heap z TI TO .none) (Z:∀d,(∀b o,b≠S→s.heap.get? b=some o→d.get? b=some o)→∀c,d.get? S=some {cls:=.type "list",dict:=none,data:=.seq #[] c,slots:=#[] }→ZL xs ys z TI TO i1 i2 l1 l2 S d 0 [] c)
  (gS:s.heap.get? S=some {cls:=.type "list",data:=.seq #[] c₀ })
  (hR:∀d g c',ZF xs ys S d g c'->(∀b o,b≠z->b≠TO->b≠i1->b≠i2->b≠S->s.heap.get? b=some o->d.get? b=some o)->(∀a∈g,s.heap.get? a=none)->R (.ok (.ret res)) {s with heap:=d }):
  Kj (Kk prog w) A.in1 (Builtin.List.listExtendWith (.ref S) (.ref z) res)
   (λE i=>match E with | .done f=>R (.ok f) i | .again c'=>c'.quiet=true/\NY (Kk prog w) A c' R i) (λe i=>R (.error e) i) s:=by
 have t:s.TypeIs (.ref z) "zip":=⟨_,hz,rfl⟩;refine JH (QW t ?_);have k1:Builtin.List.listSameRef (.ref S) (.ref z)=false:=by simp[Builtin.List.listSameRef,k.1]
 have H:(Lv "zip"==Lv "list")=false:=by decide
 have y:(Lv "zip"==Lv "tuple")=false:=by decide
 simp only[k1,H,y,RO,J4,if_false];refine JH (A5 hz (JH (KB (zO prog w _ _ _ _ _ t λb=>?_))));refine MS (λ_=>?_) (λ_=>?_)
 .refine JH (Pe (JH ?_));refine JH (LO gS rfl ?_);have r:=KW (KS (·.push MG)) gS rfl;refine LO r rfl ?_;have x:=KW (KS (·.pop)) r rfl;have oth:∀b o,b≠S->s.heap.get? b=some o->((s.heap.update S (KS (·.push MG))).update S (KS (·.pop))).get? b=some o:=λb o n e=>(Kf _ _ (Ne.symm n)).trans ((Kf _ _ (Ne.symm n)).trans e);refine JM ⟨LU Lr _,sn (s:={s with heap:=(s.heap.update S (KS (·.push MG))).update S (KS (·.pop)) }) u D k h v res _ 0 [] _ rfl (Kv _) (Z _ oth _ x) λd g c' F l m=>?_⟩;refine hR d g c' F (λb o I G B C p e=>l b o I G B C p (oth b o p e)) λa j=>?_;rcases m a j with q |q
  .simp at q
  .cases hq:s.heap.get? a with
   |none=>rfl
   |some o=>
    have e:=oth a o (F.ne a j) hq;rw[e]at q;cases q
 .refine JM ⟨LU Lr _,sn u D k h v res _ 0 _ [] _ rfl (Kv _) (Z _ (λ_ _ _ e=>e) _ gS) λd g c' F l m=>?_⟩;exact hR d g c' F l λa j=>(m a j).resolve_left (by simp)
theorem call_list_zip(G:A.handled=none)(D:N9 z TI TO i1 i2 l1 l2)(r:ys.size<=xs.size)(I:xs.size<=1000)
  (hz:Q3 s.heap z TI TO .none) (W4:OO s.heap TI (.ref i1) (.ref i2)) (hTO:OO s.heap TO a b) (h1:s.heap.IsListIter i1 l1 0) (h2:s.heap.IsListIter i2 l2 0) (Vz:s.heap.IsList l1 xs) (VG:s.heap.IsList l2 ys)
  (hQ:∀f l t,ZF xs ys s.heap.objs.size f l t->(∀b o,b≠z->b≠TO->b≠i1->b≠i2->s.heap.get? b=some o->f.get? b=some o)->(∀a∈l,s.heap.get? a=none)->Q (.ref s.heap.objs.size) {s with heap:=f }):
  Kj (Kk prog w) A (call (.type "list") [.ref z]) Q E s:=by
 refine TM (Q₁:=λg u=>g=.ref s.heap.objs.size∧u={s with heap:=s.heap.push {cls:=.type "list",data:=.seq #[] } }) RE (Qq _) Qr (code_list_new _ ⟨rfl,rfl⟩) λg u h=>?_;obtain⟨rfl,rfl⟩:=h;generalize hSd:s.heap.objs.size=S at *;have lt:∀c o,s.heap.get? c=some o->S≠c:=λc o e q=>by rw[<-q,<-hSd]at e;exact KA _ (JU e)
 have m:(s.heap.push {cls:=.type "list",data:=.seq #[] }).get? S=some {cls:=.type "list",data:=.seq #[] }:=by rw[←hSd];exact JT _ rfl
 have H:∀b o,s.heap.get? b=some o→(s.heap.push {cls:=.type "list",data:=.seq #[] }).get? b=some o:=λb o e=>JJ _ e;have d:S≠z/\S≠TI/\S≠TO/\S≠i1/\S≠i2/\S≠l1/\S≠l2:=⟨lt _ _ hz,lt _ _ W4,lt _ _ hTO,by obtain⟨o,e,_⟩:=h1;exact lt _ _ e,by obtain⟨o,e,_⟩:=h2;exact lt _ _ e,by obtain⟨o,e,_⟩:=Vz;exact lt _ _ e,by obtain⟨o,e,_⟩:=VG;exact lt _ _ e⟩
 refine⟨⟨_,m,rfl⟩,Qf _ _,?_⟩;refine JH ?_;refine JH (La m rfl (JM ?_));refine JH (LO m rfl ?_);have y:=KW (KS (λ_=>#[])) m rfl;have oth:∀b o,b≠S→s.heap.get? b=some o→((s.heap.push {cls:=.type "list",data:=.seq #[] }).update S (KS (λ_=>#[]))).get? b=some o:=λb o i e=>(Kf _ _ (Ne.symm i)).trans (H b o e);refine JH (NQ ?_);refine ui (A:=A.in1) G D d r I .none (oth _ _ d.1.symm hz) (λf p c e=>?_) y λf l t F p B=>?_
 .have k:∀b o,b≠S->s.heap.get? b=some o->f.get? b=some o:=λb o i e=>p b o i (oth b o i e);exact⟨k _ _ d.2.1.symm W4,h1.at λo e=>k _ o d.2.2.2.1.symm e,h2.at λo e=>k _ o d.2.2.2.2.1.symm e,Vz.at λo e=>k _ o d.2.2.2.2.2.1.symm e,VG.at λo e=>k _ o d.2.2.2.2.2.2.symm e,e,rfl,λj a e=>by simp at e,λa n=>by simp at n,⟨_,k _ _ d.2.2.1.symm hTO⟩,TN,.inl ⟨rfl,k _ _ d.1.symm hz,a,b,k _ _ d.2.2.1.symm hTO⟩⟩
 .refine⟨rfl,hQ f l t F (λb o J C v x e=>p b o J C v x (λq=>lt b o e q.symm) (oth b o (λq=>lt b o e q.symm) e)) λa n=>?_⟩;cases hq:s.heap.get? a with
  |none=>rfl
  |some o=>
   have e:=oth a o (F.ne a n) hq;have q:=B a n;rw[show ({s with heap:=(s.heap.push {cls:=.type "list",data:=.seq #[] }).update S (KS (λ_=>#[])) }:JY).heap.get? a=some o from e]at q
   cases q
end
end ST
namespace L2
open PySem PySem.Spec PyProof.Rows
theorem uL{a b:Nat}(h:a<b\/b<a):@Ne Kb a b:=λe=>by
 have c:a=b:=e;lia
theorem mN:L_ "zip"=some (.type "zip"):=by decide+kernel
section
variable {P:J2}{w:Kt}{H:Hp}{h:Mf}{a:Kb}{o:HO}
theorem iM(x:cB P w H h a o):∃b,h.get? a=some b:=by
 cases o with
 |lst d=>obtain⟨_,_,_,_,e⟩:=x;exact⟨_,e⟩
 |tup d=>obtain⟨_,_,_,b,e,_⟩:=x;exact⟨_,e⟩
 |dK c=>obtain⟨_,_,_,_,o,_,_,e,_⟩:=x;exact⟨_,e⟩
 |dT c=>obtain⟨_,_,_,_,o,_,_,e,_⟩:=x;exact⟨_,e⟩
 |set S n=>obtain⟨o,_,_,_,e,_⟩:=x;exact⟨_,e⟩
 |ins C i fs=>obtain⟨_,_,_,e,_⟩:=x;exact⟨_,e⟩
 |own y=>exact x
 |xd fs=>obtain⟨_,⟨_,_,_,e,_⟩,_⟩:=x;exact⟨_,e⟩
 |rng l j=>obtain⟨_,_,_,e⟩:=x;exact⟨_,e⟩
 |frz b u=>obtain⟨e,_⟩:=x;exact⟨_,e⟩
 |tbl k=>obtain⟨_,e,_⟩:=x;exact⟨_,e⟩
 |met f y=>exact⟨_,x⟩
 |ext g=>exact x.2.1
end
theorem D6(I:Inv X U8 σ H s)(k:∀b u,s.heap.get? b=some u->h'.get? b=some u)
  (old:∀b u,s.heap.get? b=some u->H' b=H b) (new:∀b o,s.heap.get? b=none->H' b=some o->cB X.prog X.w H' h' b o):Inv X U8 σ H' {s with heap:=h',toks:=t' }:=by
 have a:∀b o,H b=some o->H' b=some o:=λb o e=>let ⟨d,q⟩:=iM (I.hok b o e);(old b d q).trans e
 refine I.un ⟨λb u q _ _ _=>k b u q,λb u q _ _ _=>⟨u.slots,k b u q⟩,λb u q n _=>(old b u q).trans n,λb u q _=>⟨u,k b u q⟩,λb f q=>a b _ q,λb u f q=>a b _ q,λb g q=>⟨#[],by rw[a b _ q];simp⟩⟩ λb u e=>?_;cases hb:s.heap.get? b with
 |some d=>
  rw[old b d hb]at e;exact (I.hok b u e).stay (λc v _ q=>k c v q) (λc q=>a c _ q) (λc h i q=>a c _ q) λc f q=>a c _ q
 |none=>exact new b u hb e
noncomputable def mL(H:Hp):List Kb->List (List V)->Hp
 |[],_=>H
 |a::as,ps=>match ps with
  |[]=>H
  |p::ps=>upd (mL H as ps) a (.tup p)
theorem tG:∀{as}{c}{b},b ∉ as->mL H as c b=H b
 |[],_,_,_=>rfl
 |a::as,[],_,_=>rfl
 |a::as,p::c,b,h=>by
  show upd (mL H as c) a (.tup p) b=H b;rw[aD λz=>h (by rw[z];exact JP)];exact tG λz=>h (JL _ z)
theorem wJ:∀{as}{c}{j:Nat}{a}{p},as.Nodup->as[j]?=some a->c[j]?=some p->mL H as c a=some (.tup p)
 |[],_,j,_,_,_,e,_=>by simp at e
 |_::_,[],j,_,_,_,_,e=>by simp at e
 |b::as,q::c,0,a,p,_,e1,e2=>by
  simp at e1 e2;subst e1;subst e2;exact aG
 |b::as,q::c,j+1,a,p,nd,e1,e2=>by
  show upd (mL H as c) b (.tup q) a=_;have nd':=LL.mp nd;rw[aD λz=>nd'.1 (by rw[<-z];exact J8 e1)];exact wJ nd'.2 e1 e2
theorem qI:∀{as}{c}{b}{o},mL H as c b=some o->H b=some o\/∃(j:Nat) (p:List V),as[j]?=some b/\c[j]?=some p/\o=.tup p
 |[],_,_,_,e=>.inl e
 |_::_,[],_,_,e=>.inl e
 |a::as,p::c,b,o,e=>by
  have e':upd (mL H as c) a (.tup p) b=some o:=e;by_cases d:b=a
  .subst d;rw[aG]at e';cases e';exact .inr ⟨0,p,rfl,rfl,rfl⟩
  .rw[aD d]at e';rcases qI e' with z |⟨j,q,h,f,g⟩
   .exact .inl z
   .exact .inr ⟨j+1,q,by simpa using h,by simpa using f,g⟩
theorem nW:∀(a:List Kb),aP (a.map V.ref) (a.map Ku)
 |[]=>.nil
 |_::a=>.cons rfl (nW a)
section
variable {X:Cx}{H0:Hp}{O0:List Kb}{ps:PSt}{e f:Expr}{x y:U}{xs ys:List U}{pos Vq p p':Pos}
theorem uM(hc:X.calm=true)(hg:Gl X "list")(hm:X.mg "list"=none)(Z:Gl X "zip")(hmz:X.mg "zip"=none)(ha:Ev X H0 O0 ps e x)(hx:x=.lst xs∨x=.scr xs)(hb:Ev X H0 O0 ps f y)(hy:y=.lst ys∨y=.scr ys)(hl:ys.length≤xs.length)(hn:xs.length≤1000)
  (he:JO [e,f] X.env=(false,LD e X.env)::JO [f] X.env:=by rfl) (hf:JO [f] X.env=(false,LD f X.env)::JO [] X.env:=by rfl):
  EvN X H0 O0 ps (.Call (.Name "list" p) [.Call (.Name "zip" p') [e,f] [] Vq] [] pos) (Q6 (λa b=>U.tup [a,b]) xs ys):=by
 rintro U8 s σ H Q I ⟨O,R,q⟩;have hh:=I.ok.hd hc;refine Kw (cQ I hg hm boot_list ?_);refine callWith_type1 ?_ br rfl;rw[br];refine Mq ?_;refine Kw (cQ I Z hmz mN ?_);refine callWith_type1 (thn (bH ha (bH hb cU hf) he Vq U8 s σ H (λvs h=>∃v u,vs=[v,u]/\aI H h/\Rp X.K (hid h O) v x/\Rp X.K (hid h O) u y) I ⟨O,R,λv h d C=>⟨O,R.go d,λu H2 s2 t=>⟨v,u,rfl,d.trans s2,C.same (aF s2),t⟩⟩⟩) λus d XA=>?_) he (by rw[hf];rfl);obtain⟨vs,h,E,rv,v,u,rfl,W,rp1,rp2⟩:=XA;obtain⟨w1,w2,rfl,ru1,ru2⟩:=kH rv;obtain⟨a,va,rfl,Wu,X5⟩:=qk rp1 hx;obtain⟨b,vb,rfl,WT,X6⟩:=qk rp2 hy;cases ru1;cases ru2;obtain⟨ia,ra,Vm,hz1⟩:=E.list (aH.seq Wu);obtain⟨ib,rb,Vo,X7⟩:=E.list (aH.seq WT);have la:=ra.length;have lb:=rb.length;have l1:=X5.len;have l2:=X6.len;have al:@LT.lt Nat instLTNat a d.heap.objs.size:=by obtain⟨o,ho,_⟩:=Vm.isList;exact JU ho
 have bl:@LT.lt Nat instLTNat b d.heap.objs.size:=by obtain⟨o,ho,_⟩:=Vo.isList;exact JU ho
 refine PySem.call_zip_2 Vm.isList Vo.isList λL z1 z2 z3 z4 z5 z6 M=>?_;refine NU ?_;have D:N9 (d.heap.objs.size+4) (d.heap.objs.size+2) (d.heap.objs.size+3) d.heap.objs.size (d.heap.objs.size+1) a b:=by constructor <;>exact uL (by lia)
 have sxy:ib.toArray.size<=ia.toArray.size:=by simp;lia
 have sx:ia.toArray.size<=1000:=by simp;lia
 refine ST.call_list_zip hh D sxy sx z1 z2 z3 z4 z5 (Vm.isList.at λo e=>M _ o e) (Vo.isList.at λo e=>M _ o e) λh3 g c F kp fr=>?_;have lD:d.heap.objs.size<=({d with heap:=L }:JY).heap.objs.size:=by show _<=L.objs.size;lia
 generalize ({d with heap:=L }:JY).heap.objs.size=l at *
 have keep:∀b o,d.heap.get? b=some o->h3.get? b=some o:=λb o e=>by
  have this:@LT.lt Nat instLTNat b d.heap.objs.size:=JU e;exact kp b o (uL (by lia)) (uL (by lia)) (uL (by lia)) (uL (by lia)) (M b o e)
 have r:∀a∈g,d.heap.get? a=none:=λa ha=>by
  cases hq:d.heap.get? a with
  |none=>rfl
  |some o=>
   have q1:=fr a ha;rw[show ({d with heap:=L }:JY).heap.get? a=some o from M a o hq]at q1
   cases q1
 have k:=O5 lD
 have T:∀a,d.heap.get? a=none->h a=none:=λa e=>by
  cases hq:h a with
  |none=>rfl
  |some o=>
   obtain⟨ob,z⟩:=iM (E.hok a o hq);rw[e]at z;cases z
 generalize hP:Q6 (λx y:V=>[x,y]) va vb=PS
 have G:∀b u,d.heap.get? b=some u->upd (mL h g PS) l (.lst (g.map V.ref)) b=h b:=λb u e=>by
  rw[aD λz=>by rw[z,k]at e;cases e];exact tG λz=>by rw[r b z]at e;cases e
 have J:aI h (upd (mL h g PS) l (.lst (g.map V.ref))):=λb o e=>let ⟨ob,z⟩:=iM (E.hok b o e);(G b ob z).trans e
 have lad:g.length=ib.length:=by rw[F.len];simp
 have atT:∀j c v u,g[j]?=some c->va[j]?=some v->vb[j]?=some u->upd (mL h g PS) l (.lst (g.map V.ref)) c=some (.tup [v,u]):=λj c v u P N e3=>by
  rw[aD (F.ne c (J8 P))];refine wJ F.nd P ?_;rw[<-hP];exact Mw.mpr ⟨v,u,N,e3,rfl⟩
 have I3:Inv X U8 σ (upd (mL h g PS) l (.lst (g.map V.ref))) {d with heap:=h3 }:=by
  refine D6 E keep G λb o nb e=>?_;by_cases A:b=l
  .subst A;rw[aG]at e;cases e;exact⟨by rw[JK,lad,<-lb];exact X7,g.map Ku,c,nW g,F.acc⟩
  .rw[aD A]at e;rcases qI e with z |⟨j,pr,P,N,rfl⟩
   .rw[T b nb]at z;cases z
   .rw[<-hP]at N;obtain⟨v,u,f1,Y,rfl⟩:=Mw.mp N;obtain⟨xv,g1,C⟩:=ra.get f1;obtain⟨yv,g2,t⟩:=rb.get Y;obtain⟨B,w,k1,k2,k3⟩:=F.tup j b P
    have m1:B=xv:=by
     have:ia.toArray[j]?=some xv:=by simpa using g1
     rw[this]at k1;cases k1;rfl
    have m2:w=yv:=by
     have:ib.toArray[j]?=some yv:=by simpa using g2
     rw[this]at k2;cases k2;rfl
    subst m1;subst m2;exact⟨(show 2<=sizeLine by decide),[B,w],.cons C (.cons t .nil),_,k3,rfl,_,rfl⟩
 refine⟨.ref l,_,I3,rfl,q l _ _ (W.trans J) (W.free (T _ k)) aG ⟨?_,λi v u n h2=>?_⟩⟩
 .rw[JK,List.length_zipWith];lia
 .rw[JQ]at n;cases hi:g[i]? with
  |none=>rw[hi]at n;cases n
  |some m=>
   rw[hi]at n;obtain rfl:V.ref m=v:=by simpa using n
   obtain⟨xi,yi,f1,Y,rfl⟩:=Mw.mp h2;obtain⟨vi,g1,C⟩:=X5.get f1;obtain⟨wi,g2,t⟩:=X6.get Y;have S:=ba (O:=O) J (T _ k);have rr:=Rps.cons (C.same S) (Rps.cons (t.same S) Rps.nil);have Wv:=J8 hi;refine .tup (SqT.of (bS (atT i m vi wi hi g1 g2) λz=>?_)) rr.len rr.at_;rcases JN.mp z with z |z
   .exact F.ne m Wv z
   .exact (R.go W).dom m z (T _ (r m Wv))
theorem xu(l:X.calm=true)(m:Gl X "list")(h:X.mg "list"=none)(c:Gl X "zip")(d:X.mg "zip"=none)(j:Ev X H0 O0 ps e x)(o:x=.lst xs∨x=.scr xs)(g:Ev X H0 O0 ps f y)(i:y=.lst ys∨y=.scr ys)(n:ys.length=xs.length)(k:xs.length≤1000)
  (he:JO [e,f] X.env=(false,LD e X.env)::JO [f] X.env:=by rfl) (hf:JO [f] X.env=(false,LD f X.env)::JO [] X.env:=by rfl):
  EvN X H0 O0 ps (.Call (.Name "list" p) [.Call (.Name "zip" p') [e,f] [] Vq] [] pos) (Q6 (λa b=>U.tup [a,b]) xs ys):=uM l m h c d j o g i (Ss n) k he hf
end
theorem kF(ns:List Int):∀j,preSum (λi=>ns.getD i 0) j=(ns.take j).sum
 |0=>by simp[preSum]
 |j+1=>by rw[preSum,kF ns j,PySem.sum_take_succ]
section
variable {X:Cx}{ns:List Int}{M:Int}
theorem rn{K:JI}(c:aP ws Vb)(d:Rps K H ws (ns.map U.int))(i)(z:J0)(e:Vb.toArray[i]?=some z):∃t,z=.int (ns.getD i 0) t:=by
 have k:=d.len;rw[JK]at k;have f:Vb[i]?=some z:=by simpa using e
 have j:=aT f;have a:i<ws.length:=by rw[c.length];exact j
 have b:i<ns.length:=by lia
 obtain⟨u,g,l⟩:=c.get (JG a);have h:=d.at_ i ws[i] (.int ns[i]) (JG a) (by rw[JQ,JG b];rfl);rw[f]at g;cases g;generalize ws[i]=m at *;cases h;rw[JW,JG b];obtain⟨t,rfl⟩:=l;exact⟨t,rfl⟩
theorem AW(t:X.calm=true):dS X (.builtin "sum") [.lst (ns.map U.int)] (.int ns.sum):=by
 intro F s E H C J Q I r c;obtain⟨O,d,x,q⟩:=c;obtain⟨v,rfl,n⟩:=cM x;obtain⟨K,rfl,u⟩:=c8 r;cases n with
 | @lst a D _ c l y=>
  cases u;obtain⟨j,k,g,_⟩:=I.list (SqL.of (aH _ _ c));have w:j.length=ns.length:=by rw[<-k.length,l,JK]
  have f:=rn (ns:=ns) k ⟨l,y⟩;refine call_sum_walkG (Lp g.isList ?_);have h:a<s.heap.objs.size:=by obtain⟨o,e,_⟩:=g.isList;exact JU e
  refine⟨s.heap.objs.size,_,_,_,_,_,λi=>ns.getD i 0,rfl,Walks.list (A:=X.A.in1) (I.ok.hd t) s.heap.objs.size a (Kh h) j.toArray,⟨⟨_,JT _ rfl,rfl,rfl⟩,g.isList.push _⟩,λb m=>?_,f,λG p t' B=>?_⟩
  .show b<(s.heap.push _).objs.size;rw[KU];rcases JN.mp m with z |z
   .rw[z];exact LS _
   .rw[Kq.mp z];exact LZ h
  .rw[kF,J9,w,MY];refine⟨.int ns.sum,H,I.kept (t':=p) λb o e=>B b o ?_ (JJ _ e),⟨t',rfl⟩,q _ H (.refl H) (.int _)⟩;intro z;have:b=s.heap.objs.size:=by simpa using z
   exact absurd (JU e) (by rw[this];exact KA _)
variable {H0:Hp}{O0:List Kb}{ps:PSt}{a b c:Expr}{pos:Pos}{x y z:U}{p q:P2}{k m:Bool}
theorem len1{α:Type}{l:List α}:l.length=1->∃a,l=[a]:=List.length_eq_one_iff.mp
theorem len2{α:Type}{l:List α}(h:l.length=2):∃a b,l=[a,b]:=by
 cases l with
 |nil=>cases h
 |cons a t=>
  obtain⟨b,rfl⟩:=len1 (Uw h);exact⟨a,b,rfl⟩
theorem len3{α:Type}{l:List α}(h:l.length=3):∃a b c,l=[a,b,c]:=by
 cases l with
 |nil=>cases h
 |cons a t=>
  obtain⟨b,c,rfl⟩:=len2 (Uw h);exact⟨a,b,c,rfl⟩
theorem II(I:Inv X U8 σ H s)(r:Rp X.K H v (pu p))(e:aM v u):∃b,u=.ref b/\ST.TK X.prog X.w s.heap [p.1,p.2] b:=by
 cases r with
 | @tup b B _ q f a=>
  cases e;refine⟨b,rfl,?_⟩;obtain⟨A,x,d,_⟩:=I.tuple q;have y:=f;obtain⟨g,h,rfl⟩:=len2 y;have m:=a 0 g _ rfl rfl;have t:=a 1 h _ rfl rfl;cases m;cases t;obtain⟨E,z,rfl,j,l⟩:=kH x;obtain⟨D,rfl⟩:=j;obtain⟨C,rfl⟩:=l;obtain⟨o,k,i,n,c⟩:=d;exact⟨o,_,n,k,i,c,.cons (Mt _ _ _ _) (.cons (Mt _ _ _ _) .nil)⟩
end
section
variable {X:Cx}{p q:P2}{l:List P2}
theorem Gb(I:Inv X U8 σ H s)(r:Rp X.K H v (pu p))(e:aM v u):∃b,u=.ref b/\∀a w,ST.TK a w s.heap [p.1,p.2] b:=by
 cases r with
 | @tup b C _ t g c=>
  cases e;refine⟨b,rfl,λa w=>?_⟩;obtain⟨B,y,f,_⟩:=I.tuple t;have z:=g;obtain⟨h,i,rfl⟩:=len2 z;have q:=c 0 h _ rfl rfl;have x:=c 1 i _ rfl rfl;cases q;cases x;obtain⟨F,A,rfl,k,m⟩:=kH y;obtain⟨E,rfl⟩:=k;obtain⟨D,rfl⟩:=m;obtain⟨o,l,j,n,d⟩:=f;exact⟨o,_,n,l,j,d,.cons (Mt _ _ _ _) (.cons (Mt _ _ _ _) .nil)⟩
end
end L2
namespace ST
open PySem PyProof.Rows
section
variable {prog:J2}{w:Kt}{A:K7}{E:J0→JY→Prop}{s:JY}
theorem wR(h:Q (.bool (decide (x<y))) s):Kj (Kk prog w) A (Qs .Lt (.int x t) (.int y u)) Q E s:=
 richCompare_gives (Ri s _ t) (Ri s _ u) PySem.F.slot_int_lt PySem.F.entry_int_lt (PySem.F.args_int_lt_2 _ _) (gives_int_lt _ _ t u) (λx=>nomatch x) h
theorem Ax(r:TK prog w s.heap [a.1,a.2] x)(f:TK prog w s.heap [b.1,b.2] y)(h:P (.done (.ret (.bool (ltP a b)))) s):
  Kj (Kk prog w) A (Builtin.«tuple.__lt__» ⟨[.ref x,.ref y],[]⟩) P E s:=by
 have d:=f.typeIs;obtain⟨o,g,n,t,u,p,_,m,i⟩:=r.two;obtain⟨C,k,B,D,v,l,_,q,e⟩:=f.two;show Kj _ _ (isInstance (.ref y) (.type "tuple") >>=_) _ _ s;refine JH (Mu d isSubtype_tuple_tuple ?_);simp only[MZ,J4,if_false];refine JH (RV p m ?_);refine JH (RV l q ?_);have sz:g.size=k.size:=by rw[<-Ke,<-Ke,i,e];rfl
 rw[i,e];refine JH ?_;simp only[NG,List.zip_nil_left,Ng,N4];refine JH (JH ((N_ prog w).eqBool (Mt _ _ _ _) (Mt _ _ _ _) ?_));by_cases c:a.1=b.1
 .rw[decide_eq_true c];simp only[MZ,J4,if_false];refine JM ?_;refine JH (JH ((N_ prog w).eqBool (Mt _ _ _ _) (Mt _ _ _ _) ?_));by_cases j:a.2=b.2
  .rw[decide_eq_true j];simp only[MZ,J4,if_false];refine JM (JM ?_);have z:ltP a b=false:=by unfold ltP;simp;lia
   rw[z]at h;refine JM ?_;show P (.done (.ret (.bool (decide (g.size<k.size))))) s;rw[sz,decide_eq_false (KA _)];exact h
  .rw[decide_eq_false j];simp only[PX,if_true];have z:ltP a b=decide (a.2<b.2):=by unfold ltP;rw[c];simp
   rw[z]at h;exact JH (Pe (JH (wR (JH (JM (JM (JM (JM h))))))))
 .rw[decide_eq_false c];simp only[PX,if_true];have z:ltP a b=decide (a.1<b.1):=by unfold ltP;simp[c]
  rw[z]at h;exact JH (Pe (JH (wR (JH (JM (JM (JM (JM h))))))))
theorem Eh(f:A.units<MA)(c:TK prog w s.heap [a.1,a.2] x)(d:TK prog w s.heap [b.1,b.2] y)(h:Q (.bool (ltP a b)) s):
  Kj (Kk prog w) A (KO .Lt (.ref x) (.ref y)) Q E s:=
 wpAny_richCompare_same_room (op:=.Lt) c.typeIs d.typeIs Q7
  (Le Q7 c.typeIs PySem.F.entry_tuple_lt (Ax c d ⟨_,rfl,(λe=>nomatch e),h⟩) (PySem.F.args_tuple_lt_2 _ _)) f
end
end ST
namespace L2
open PySem PySem.Spec PyProof.Rows
variable {X:Cx}{pos:Pos}
section
variable {H0:Hp}{O0:List Kb}{ps:PSt}{x:Str}{a b:Expr}{i j:Int}
theorem qZ(b:Gl X x)(h:∃t,X.mg x=some (.int i t))(c:(x==("__debug__":Str))=false:=by decide):Ev X H0 O0 ps (.Name x pos) (.int i):=by
 obtain⟨t,a⟩:=h;exact PE.mono (vJ (v:=.int i) b a ⟨t,rfl⟩ c) λ_ H _ ⟨_,_,k⟩=>k _ H (.refl H) (.int i)
end
theorem Rps.rep{K:JI}(r:Rps K H vs xs):∀k,Rps K H (Kn k vs).flatten (Kn k xs).flatten
 |0=>.nil
 |k+1=>by
  rw[Lx,Lx,MH,MH];exact r.snoc (r.rep k)
section
variable {H0:Hp}{O0:List Kb}{ps:PSt}{a b:Expr}{xs:List U}{u:U}{k:Int}
theorem Ij(m:Ev X H0 O0 ps a (.lst xs))(e:Ev X H0 O0 ps b (.int k))(f:-(2 ^ 63)<=k)(n:k<2 ^ 63)(j:xs.length*k.toNat<=sizeLine):EvN X H0 O0 ps (.BinOp a .Mult b pos) (Kn k.toNat xs).flatten:=
 PE.mono (si GF m e) λo H Q ⟨O,R,q⟩=>two R (λ_ _ _ z=>z) (λ_ _ _ z=>z) λv w r s _ g i=>by
  cases i;cases g with
  |lst h d l=>
   refine⟨_,_,_,rfl,rfl,aH _ _ h,f,n,by rw[d];exact j,λp c=>q p _ _ (s.trans (aO c _)) (s.free c) aG ?_⟩;exact (Rps.rep ⟨d,l⟩ _).same (ba (aO c _) c)
theorem sX{α:Type}(u:α):∀k,(Kn k [u]).flatten=Kn k u
 |0=>rfl
 |k+1=>by rw[Lx,MH,sX u k];rfl
theorem Gq(f:Ev X H0 O0 ps a (.lst [u]))(c:Ev X H0 O0 ps b (.int k))(d:-(2 ^ 63)<=k)(g:k<2 ^ 63)(e:k.toNat<=sizeLine):EvN X H0 O0 ps (.BinOp a .Mult b pos) (Kn k.toNat u):=by
 rw[<-sX];exact Ij f c d g (by simpa using e)
end
theorem Rs.free{K:JI}{F H:Hp}{J O:List Kb}{r:PSt}{G:St}{xs:List U}(n:Nat)(h:r[n]?=some (some (.own xs)))(R:Rs K F J r G H O):∃D,(∀b∈D,b∈O)/\Rs K F J (r.set n (some (.val (.lst xs)))) G H D:=by
 obtain⟨v,A,a,vs,rfl,ha,q,B,I⟩:=R.at_ n _ h;have c:∀b∈O.filter (λb=>decide (b≠a)),b∈O:=λb f=>(KN.mp f).1;have keep:∀b∈O,b≠a->b∈O.filter (λb=>decide (b≠a)):=λb f o=>KN.mpr ⟨f,by simpa using o⟩;have g:aI (hid H O) (hid H (O.filter (λb=>decide (b≠a)))):=aW c;have V:a ∉ O.filter (λb=>decide (b≠a)):=λz=>by have:=(KN.mp z).2;simp at this
 refine⟨O.filter (λb=>decide (b≠a)),c,R.same,λb f=>keep b (R.old b f) λe=>q (e ▸ f),λb f=>R.new b (c b f),λb f=>R.dom b (c b f),by rw[R.len,NL],λi s k=>?_,λi j X zs b l y M Y=>?_⟩
 .rcases bK k with ⟨rfl,e⟩ |⟨o,k⟩
  .cases e;exact⟨.ref a,A,.lst (bS B V) (I.same g).len (I.same g).at_⟩
  .obtain⟨w,E,ok⟩:=R.at_ i s k;refine⟨w,E,?_⟩;cases s with
   |val u=>exact Rp.same g ok
   |own X=>
    obtain⟨b,Q,rfl,f,p,m,x⟩:=ok;refine⟨b,Q,rfl,keep b f λe=>?_,p,m,x.same g⟩;subst e;exact o (R.inj n i _ _ b h k A E)
   |pin z u=>exact⟨ok.1,Rp.same g ok.2⟩
   |dsk w C b d Va=>
    obtain⟨S,L,Z,T,N,W,t,P⟩:=ok;exact⟨S,L,Z,keep d T (λe=>by rw[e,B]at t;cases t),N,W,t,P.same g⟩
 .rcases bK l with ⟨_,e⟩ |⟨_,l⟩
  .cases e
  .rcases bK y with ⟨_,e⟩ |⟨_,y⟩
   .cases e
   .exact R.inj i j _ _ b l y M Y
section
variable {H0:Hp}{O0:List Kb}{E:XK}{ps:PSt}{D:PD}{ss:List Mm}{e:Expr}{xs:List U}{b:Bool}
theorem Fy(n:Nat)(h:ps[n]?=some (some (.own xs)))(w:Ws X H0 O0 E ss D (ps.set n (some (.val (.lst xs))))):Ws X H0 O0 E ss D ps:=
 PSs.mono w λe d H c=>by
  obtain⟨L,O,R⟩:=c;obtain⟨a,_,b⟩:=R.free n h;exact⟨L,a,b⟩
end
section
variable {ns:List Int}{M:Int}
theorem Fs(D:X.calm=true)(k:M∈ns∧∀a∈ns,a≤M):dS X (.builtin "max") [.lst (ns.map U.int)] (.int M):=by
 intro V s T H R Y Q I r h;obtain⟨O,d,J,q⟩:=h;obtain⟨v,rfl,B⟩:=cM J;obtain⟨p1,rfl,F⟩:=c8 r;cases B with
 | @lst a S _ h x L=>
  cases F;obtain⟨f,u,l,_⟩:=I.list (SqL.of (aH _ _ h));have n:f.length=ns.length:=by rw[<-u.length,x,JK]
  have c:=rn (ns:=ns) u ⟨x,L⟩;have P:0<ns.length:=Md k.1;refine call_max_walk (Lp l.isList ?_);have m:a<s.heap.objs.size:=by obtain⟨o,e,_⟩:=l.isList;exact JU e
  refine⟨s.heap.objs.size,_,_,_,_,_,_,rfl,Walks.list (A:=X.A.in1) (I.ok.hd D) s.heap.objs.size a (Kh m) f.toArray,⟨⟨_,JT _ rfl,rfl,rfl⟩,l.isList.push _⟩,λb y=>?_,by rw[J9,n];exact P,CmpOf.ints_gt (λi=>ns.getD i 0) c,λv W C G N=>?_⟩
  .show b<(s.heap.push _).objs.size;rw[KU];rcases JN.mp y with z |z
   .rw[z];exact LS _
   .rw[Kq.mp z];exact LZ m
  .obtain⟨t,rfl⟩:=c _ _ G;obtain⟨K,p⟩:=argBest_gt (λi=>ns.getD i 0) (f.toArray.size-1)
   have e:ns.getD (argBest (λi j=>decide (ns.getD i 0 >ns.getD j 0)) (f.toArray.size-1)) 0=M:=by
    rw[J9,n]at K p |-;generalize argBest (λi j=>decide (ns.getD i 0 >ns.getD j 0)) (ns.length-1)=g at *
    have w:g<ns.length:=by lia
    obtain⟨j,E,Z⟩:=RD k.1;have k1:=p j (by lia);have k2:=k.2 ns[g] (OX w);simp only[JW,JG w,JG E,Nu]at k1 |-;lia
   rw[e];refine⟨.int M,H,I.kept (t':=C) λb o e=>N b o ?_ (JJ _ e),⟨t,rfl⟩,q _ H (.refl H) (.int _)⟩;intro z;have:b=s.heap.objs.size:=by simpa using z
   exact absurd (JU e) (by rw[this];exact KA _)
variable {H0:Hp}{O0:List Kb}{E:XK}{ps Vw:PSt}{D:PD}{tg iter cond:Expr}{p:Pos}{xs:List U}
theorem tU(l:List (Option U))(p:Bool)(P:X.calm=true)(Z:X.N.Nodup)(S:X.N[j]?=some y)(V:Loc X.env.scope y)(B:cL X U9 cl is)
  (hi:EvI X H0 O0 ps tg iter xs) (hg:∀C s H fp,PG (aK X U9 cl C s H fp) tg g) (gk:GOk g X.K is f dom) (Vi:l.length=xs.length) (hz:xs.length<=sizeLine) (VZ:∀x∈xs,dom x)
  (ht:∀C s H fp (i:Nat) (x:U) (o:Option U),xs[i]?=some x->l[i]?=some o->Tt (aK X U9 cl C s H fp) H0 O0 (f (dA is ps) x) cond o.isSome)
  (he:∀C s H fp (i:Nat) (x y:U),xs[i]?=some x->l[i]?=some (some y)->Ev (aK X U9 cl C s H fp) H0 O0 (f (dA is ps) x) elt y) (h:D.nx (ps.set j (some (if p then .own (l.filterMap id) else .val (.lst (l.filterMap id))))))
  (hs:∀x,KL iter X.env x=pure x:=by intro _;rfl)
  (hsw:Mn (.ListComp elt [⟨tg,iter,[cond],0⟩] U9 pos) (some (.Name y py)) Wz.line X.env=pure true:=by rfl) (hf:X.fn y=true\/X.env.scope.names.lookup y=some .local:=by first |exact .inl rfl |exact .inr rfl |assumption):
  W1 X H0 O0 E (.Assign [.Name y py] (.ListComp elt [⟨tg,iter,[cond],0⟩] U9 pos) Wz) D ps:=by
 have T:∀C s H fp,PE (aK X U9 cl C s H fp) elt λd H Q=>∃i x y,xs[i]?=some x/\l[i]?=some (some y)/\∃e,Rs X.K H0 O0 (f (dA is ps) x) d H e/\∀v c,aI H c->Rp X.K (hid c e) v y->Q v c:=
  λC s H fp u t d c Q I ⟨i,x,y,k,m,z⟩=>he C s H fp i x y k m u t d c Q I z
 have A:∀C s H fp,PT (aK X U9 cl C s H fp) cond λd H Q=>∃(i:Nat) (x:U) (o:Option U),xs[i]?=some x/\l[i]?=some o/\∃e,Rs X.K H0 O0 (f (dA is ps) x) d H e/\∀c,aI H c->Q o.isSome c:=
  λC s H fp u t d c Q I ⟨i,x,o,k,m,z⟩=>ht C s H fp i x o k m u t d c Q I z
 refine PS.mono (rK P Z S V B hi hg A T hs hsw hf) λD' d H ⟨L,O,R⟩=>⟨O,R,λJ H1 q Y=>?_⟩
 refine ua gk (R.go q) Y Vi hz VZ (λi x o d H e Q k m w z=>⟨i,x,o,k,m,e,w,z⟩) (λi x y d H e Q k m w z=>⟨i,x,y,k,m,e,w,z⟩) λa vs c s n G r=>?_;cases p with
 |true=>exact L.nx _ _ _ _ ((R.go q).own s n G r) h
 |false=>
  have W:a ∉ O:=λz=>(R.go q).dom a z n;have F:=r.same (aW λb M=>JL a M);exact L.nx _ _ _ _ (((R.go q).go s).set (.lst (bS G W) F.len F.at_)) h
end
end L2
namespace TS
open PySem PyProof.Rows
noncomputable abbrev SM:=StateT SortSt Sem
variable {E:J0→JY→Prop}
section
variable {prog:J2}{w:Kt}{A:K7}{s:JY}
noncomputable def gt(a:Array Sh)(i:Nat):Sh:=a.getD i (MG,MG)
variable {M:Model}{σ:Type}
theorem wif{α:Type}{c:Prop}[Decidable c]{x y:StateT σ Sem α}{Q:α->σ->Prop}{st:σ}(h:c->wpS M A E s x Q st)(k:¬ c->wpS M A E s y Q st):wpS M A E s (if c then x else y) Q st:=by
 by_cases e:c
 .rw[if_pos e];exact h e
 .rw[if_neg e];exact k e
def HR(prog:J2)(w:Kt)(A:K7)(E:J0->JY->Prop)(s:JY)(b:SV)(P:Sh->Prop)(R:Sh->Sh->Bool):Prop:=
 ∀x y a (Q:Option Bool->SortSt->Prop),P x->P y->kindOf a=b->Q (some (R x y)) a->wpS (Kk prog w) A E s (lt' x y) Q a
variable {κ:SV}{P:Sh→Prop}{R:Sh→Sh→Bool} (K:HR prog w A E s κ P R)
include K
end
section
variable {prog:J2}{w:Kt}{A:K7}{s:JY}{κ:SV}{P:Sh→Prop}{R:Sh→Sh→Bool}
variable {l:List Sh}{pd:Array (Nat×Nat×Nat)}
def Kept(a b:Array Sh)(c:Nat):Prop:=∀j,j<c->gt b j=gt a j
variable (K:HR prog w A E s κ P R)
include K
end
end TS
namespace ST
open PySem PySem.W PyProof.Rows
noncomputable abbrev ky(p:(Int×Int)×Kb):Sh:=(Ku p.2,Ku p.2)
end ST
namespace L2
open PySem PySem.Spec PyProof.Rows
theorem Ho{p:Nat->Kb->Prop}{n:Nat}(h:∀i,i<n->∃b,p i b):∃f:Nat->Kb,∀i,i<n->p i (f i):=by
 refine⟨λi=>if k:i<n then SJ (h i k) else 0,λi a=>?_⟩;dsimp only;rw[dif_pos a];exact Q2 (h i a)
end L2
namespace L2
open PySem PySem.Spec PySem.W PyProof.Rows
section
variable {X:Cx}
def TB(X:Cx)(k:List Mm)(t:(St->Hp->Prop)->(St->XK)->St->Hp->Prop):Prop:=
 ∀(b:List (Kb×Obj)) (s:JY) (c:St) (H:Hp) (N:St->Hp->Prop) (d:St->XK) (Q:Flow->JY->Prop) (e:J0->JY->Prop),Inv X b c H s->t N d c H->(∀g h a,Inv X b g h a->N g h->Q .next a)->
  (∀i f j ev a,Inv X b i j f->CXF X.prog X.w X.stack j f (d i) ev a->e ev a)->Kj (Kk X.prog X.w) X.A (execs k X.env) Q e s
end
noncomputable abbrev T'(l:List Nat):Str:=⟨l.toArray⟩
theorem AG(x):x=T' x.cps.toList:=by cases x;simp[T']
theorem bg(l):(T' l).length=l.length:=by simp[Str.length]
theorem mK(l m):T' l++T' m=T' (l++m):=by
 show Str.mk _=Str.mk _;simp
noncomputable def Itx(x:Str):It:=⟨λi _=>i<x.cps.size,λi H v a=>a=H/\∃c,x.cps[i]?=some c/\v=.str ⟨#[c]⟩,λi _=>x.cps.size<=i⟩
theorem ot(h:A.handled=none)(it)(x)(t:Tok):Walks P w A it [it] [it] x.cps.size (SignAt x) (λi hp=>hp.IsStrIter it (Qt x) x t i):=by
 unfold Qt;split
 .exact Walks.strAscii h it x t
 .exact Walks.strWide h it x t
theorem BI{P:J2}{w:Kt}{K:JI}{V:Expr}(f:Kb)(x:Str)(t:Tok):uD P w K V (Itx x) [f] f (λi h=>i<=x.cps.size/\h.IsStrIter f (Qt x) x t i) where
 mem:=by simp
 obj:=λi h a b g=>by
  have e:b=f:=by simpa using g
  subst e;obtain⟨_,o,e,c,d⟩:=a;exact⟨o,e,λv z=>by rw[d]at z;cases z⟩
 keep:=λi h F a k=>⟨a.1,by obtain⟨o,e,c,d⟩:=a.2;exact⟨o,k f (by simp) o e,c,d⟩⟩
 item:=by
  intro X y B p J i O s N H E I l a j;subst y B p;obtain⟨D,G,S,m,n,r⟩:=l f (by simp);have W:=ot (P:=X.prog) (w:=X.w) (I.ok.hd J) f x t;refine W.item i s _ _ j a.2 λv F L R M C=>?_;obtain⟨c,u,q,rfl⟩:=R;have T:Inv X O N H {s with heap:=F,toks:=L }:=I.turned (λb o g e=>C b o (by simpa using g) e) D G m n r;obtain⟨o,e,U,d⟩:=id M;exact⟨_,rfl,wE e U d (by unfold Qt;split <;>decide) ⟨.str ⟨#[c]⟩,H,T,⟨u,rfl⟩,⟨rfl,c,q,rfl⟩,⟨j,M⟩,λb g=>(l b g).1⟩⟩
 done:=by
  intro X y B p J i O s N H E I l a j;subst y B p;obtain⟨D,G,S,m,n,r⟩:=l f (by simp);have W:=ot (P:=X.prog) (w:=X.w) (I.ok.hd J) f x t;have Y:=j;have e:=Q8 a.1 Y;subst e;exact W.done s _ _ a.2 λF L C=>⟨rfl,I.turned (λb o g e=>C b o (by simpa using g) e) D G m n r⟩
 self:=λA i s Q E a h=>by
  obtain⟨_,a⟩:=a;unfold Qt at a;split at a
  .exact wpAny_pyIter_striter_ascii a h
  .exact wpAny_pyIter_striter_wide a h
section
variable {X:Cx}{tg:Expr}
theorem Fo(n:PE X l tl):PI X tg l (λa H R=>tl a H λx f=>∃z,x=.str z/\R (Itx z) f):=by
 intro k s a H R I h;refine thn (n k s a H _ I h) λv d j=>?_;obtain⟨x,f,c,i,m⟩:=j;obtain⟨z,e,q⟩:=m;subst e;obtain⟨t,rfl⟩:=i;refine wpAny_pyIter_strU ?_;refine⟨d.heap.objs.size,[d.heap.objs.size],_,_,f,rfl,c.kept λb o e=>JJ _ e,BI _ z t,⟨Kv _,_,JT _ rfl,rfl,rfl⟩,λb g=>?_,q⟩;have e:b=d.heap.objs.size:=by simpa using g
 subst e;exact c.fpOk (JR _) (c.hok.fresh (JR _))
end
noncomputable abbrev sg(c:Nat):U:=.str ⟨#[c]⟩
variable {Vg:Pos}{Vc:Pos}
section
variable {X:Cx}{H0:Hp}{O0:List Kb}{ps:PSt}{a b e tg:Expr}{es:List Expr}{pos p p2:Pos}{x y:Str}{i:Int}{lo hi:Option Expr}{l h:Option Int}
theorem A4(d:Ev X H0 O0 ps e (.str x)):EvI X H0 O0 ps tg e (x.cps.toList.map sg):=
 PI.mono (Fo d) λj H Q ⟨O,R,q⟩=>⟨O,R,λv f s r=>by
  cases r;refine⟨x,rfl,q _ f s λk g=>⟨λi hi=>?_,?_⟩⟩
  .have a:i<x.cps.size:=by simpa using hi
   refine⟨a,λz h y=>⟨y.1,sg x.cps[i],by simp[a],?_⟩⟩;obtain⟨_,c,b,rfl⟩:=y;rw[Lb a]at b;cases b;exact .str _
  .show x.cps.size<=_;simp⟩
theorem iE(h:Ev X H0 O0 ps a (.str x))(d:Ev X H0 O0 ps b (.str y))(g:x.length+y.length<=sizeLine):Ev X H0 O0 ps (.BinOp a .Add b pos) (.str (x++y)):=
 PE.mono (si uS h d) λi H Q ⟨O,R,k⟩=>two R (λ_ _ _ z=>z) (λ_ _ _ z=>z) λv w f s _ c e=>by
  cases c;cases e;exact⟨x,y,rfl,rfl,g,k _ f s (.str _)⟩
theorem IK(j:Ev X H0 O0 ps a (.str x))(d:Ev X H0 O0 ps b (.int i))(g:x.length<=sizeLine)(hi:atI x.cps.toList i=some c)(hs:kT b:=by intro _ _;rfl):Ev X H0 O0 ps (.Subscript a b pos) (sg c):=
 PE.mono (zH GE j d hs) λk H Q ⟨O,R,q⟩=>two R (λ_ _ _ z=>z) (λ_ _ _ z=>z) λv w h s _ e f=>by
  cases e;cases f;exact⟨x,i,c,rfl,rfl,g,hi,q _ h s (.str _)⟩
theorem gr(b:x.length≤sizeLine):dS X (.builtin "len") [.str x] (.int x.length):=ce.mono qr λc H Q a=>by
 obtain⟨O,d,r,q⟩:=a;obtain⟨v,rfl,h⟩:=cM r;cases h;exact⟨x,rfl,b,q _ H (.refl H) (.int _)⟩
theorem GN:SlR X (λx lo hi H Q=>∃z,x=.str z/\z.length<=sizeLine/\Q (.str (StrLaws.sliceText z lo hi)) H):=by
 intro r s p H x v D C lo hi f Q I m b y pu h;obtain⟨z,rfl,n,q⟩:=h;have d:=Txt.slice_le z lo hi;obtain⟨t,rfl⟩:=m;refine⟨"str",_,slot_str_getitem.lookup,rfl,?_⟩
 have a:∀l u,l.map (·.1)=lo->u.map (·.1)=hi->s.heap.IsSlice f l u none->Kj (Kk X.prog X.w) X.A (R8 (.str z t) (.ref f)) (EP X r p Q) X.xe s:=λl u B o k=>by
  refine wpAny_getItem_str_slice k (by decide) ?_;unfold sliceMade slicePicked;rw[B,o];unfold StrLaws.sliceText at q;split at q
  .rename_i c
   rw[if_pos (by exact c)];exact⟨.str z,H,I,⟨t,rfl⟩,q⟩
  .rename_i c
   rw[if_neg (by exact c)];unfold Txt.slice at d;rw[if_neg (by exact c)]at d
   exact⟨KH d n,.str _,H,I.tok _,⟨_,rfl⟩,q⟩
 cases y with
 |none=>
  cases pu with
  |none=>exact a none none rfl rfl b
  |int j e=>exact a none (some (j,e)) rfl rfl b
 |int i g=>
  cases pu with
  |none=>exact a (some (i,g)) none rfl rfl b
  |int j e=>exact a (some (i,g)) (some (j,e)) rfl rfl b
theorem lW(k:Ev X H0 O0 ps e (.str x))(f:EvO X H0 O0 ps lo l)(g:EvO X H0 O0 ps hi h)(i:x.length<=sizeLine):Ev X H0 O0 ps (.Subscript e (.Slice lo hi none p2) pos) (.str (StrLaws.sliceText x l h)):=
 PE.mono (qC GN k f g) λm H Q ⟨O,R,q⟩=>⟨O,R,λv o a c=>⟨O,R.go a,λn b=>⟨O,R.go (a.trans b),λj d=>by
  cases c;exact⟨x,rfl,i,q _ j ((a.trans b).trans d) (.str _)⟩⟩⟩⟩
theorem xB:MtR X "str.startswith" (λv a H Q=>∃x y,v=.str x∧a=[.str y]∧Q (.bl (Txt.startswith x y)) H):=by
 intro e s d H v a u g Q I b c h;obtain⟨x,y,rfl,rfl,q⟩:=h;obtain⟨t,rfl⟩:=b;obtain⟨i,rfl,k⟩:=c8 c;obtain⟨f,rfl⟩:=k;exact SC.startswith ⟨.bl _,H,I,rfl,q⟩
theorem zF(j:Ev X H0 O0 ps a (.str x))(g:Ev X H0 O0 ps e (.str y))(b:JO [e] X.env=(false,LD e X.env)::JO [] X.env)
  (Vr:Lc a "startswith" X.env (LD a X.env)=LD a X.env:=by rfl)
  (VL:((Ll Vc (JO [e] X.env)).all (λx=>!x.1) && (Na Vc (LG [] X.env)).all (λx=>x.1.isSome) && decide ([e].length+([]:List M7).length+(if ([]:List M7).isEmpty then 0 else 1)<30))=true:=by rfl)
  (Vs:(Vg.endLine==Vc.line)=true:=by rfl) (Vv:(Ll Vc (JO [] X.env)).any (·.1)=false:=by rfl):
  Ev X H0 O0 ps (.Call (.Attribute a "startswith" Vg) [e] [] Vc) (.bl (Txt.startswith x y)):=
 PE.mono (wG Me PySem.F.slot_str_startswith PySem.F.type_str_startswith xB j (bH g cU b) Vr VL Vs b Vv) λk H Q ⟨O,R,q⟩=>⟨O,R,λv l c d=>by
  cases d;exact⟨rfl,O,R.go c,λw i f h=>by cases h;exact⟨x,y,rfl,rfl,q _ i (c.trans f) (.bl _)⟩⟩⟩
theorem uF(h:Ry x=some n)(c:x.length≤640):dS X (.type "int") [.str x] (.int n):=by
 intro i s g H f j Q I r b;obtain⟨O,d,e,q⟩:=b;obtain⟨v,rfl,a⟩:=cM e;cases a;obtain⟨u,rfl,⟨t,rfl⟩⟩:=c8 r;exact KIN.call_text h c ⟨.int n,H,I.tok _,⟨_,rfl⟩,q _ H (.refl H) (.int _)⟩
theorem iH(h:i.natAbs.log2<1920):dS X (.type "str") [.int i] (.str (Str.ofString (OE i))):=ce.mono pH λb H Q a=>by
 obtain⟨O,d,r,q⟩:=a;obtain⟨v,rfl,k⟩:=cM r;cases k;exact⟨i,rfl,h,q _ H (.refl H) (.str _)⟩
theorem E8:OpS X (KO .In) (.str x) (.str y) (.bl (!(Builtin.Str.occurrences y x 0 y.length 1).isEmpty)):=by
 intro e s a H v w p q Q I b c h;obtain⟨k1,f,d⟩:=h;cases k1;cases f;exact xy e s a H _ _ p q Q I b c ⟨x,y,rfl,rfl,d⟩
theorem IH(b:Gl X z)(h:∃t,X.mg z=some (.str v t))(c:(z==("__debug__":Str))=false:=by decide):Ev X H0 O0 ps (.Name z pos) (.str v):=by
 obtain⟨t,a⟩:=h;exact PE.mono (vJ (v:=.str v) b a ⟨t,rfl⟩ c) λ_ H _ ⟨_,_,k⟩=>k _ H (.refl H) (.str v)
end
theorem C_(j n:Nat):Builtin.Str.strSliceIndices none (some (j:Int)) 1 n=Builtin.Str.strSliceIndices (some ((0:Nat):Int)) (some ((min j n:Nat):Int)) 1 n:=by
 have a:¬ (j:Int)<0:=by lia
 have c:¬ ((min j n:Nat):Int)<0:=by lia
 have b:max 0 (min (j:Int) n)=max 0 (min ((min j n:Nat):Int) n):=by lia
 unfold Builtin.Str.strSliceIndices;simp[a,c];rw[b,show max 0 (min 0 (n:Int))=0 by lia]
theorem yc(i n:Nat):Builtin.Str.strSliceIndices (some (i:Int)) none 1 n=Builtin.Str.strSliceIndices (some ((min i n:Nat):Int)) (some (n:Int)) 1 n:=by
 have a:¬ (i:Int)<0:=by lia
 have b:¬ ((min i n:Nat):Int)<0:=by lia
 unfold Builtin.Str.strSliceIndices;simp[a,b];congr 1 <;>lia
theorem Ar{a b:Nat}(e:Builtin.Str.strSliceIndices l h 1 x.length=Builtin.Str.strSliceIndices (some (a:Int)) (some (b:Int)) 1 x.length)(c:a<=b)(d:b<=x.length):StrLaws.sliceText x l h=T' ((x.cps.toList.drop a).take (b-a)):=by
 have:=StrLaws.sliceText_nat x c d;unfold StrLaws.sliceText at this |-;rw[e];exact this
theorem Ft(l)(j:Nat):StrLaws.sliceText (T' l) none (some (j:Int))=T' (l.take j):=by
 rw[Ar (C_ j _) (Kv _) (SK _ _)];refine congrArg T' ?_;rw[bg];rw[Ru,Nat.sub_zero];by_cases h:j<=l.length
 .rw[Ti h]
 .rw[SL (by lia),LH (JR _),LH (by lia)]
theorem lM(l)(i:Nat):StrLaws.sliceText (T' l) (some (i:Int)) none=T' (l.drop i):=by
 rw[Ar (yc i _) (SK _ _) (JR _)];refine congrArg T' ?_;rw[bg];by_cases h:i<=l.length
 .rw[Ti h,LH (by simp)]
 .rw[SL (by lia),NA (JR _),NA (by lia)];simp
theorem IB(l)(c i):Builtin.Str.subAt (T' l) ⟨#[c]⟩ i=decide (l[i]?=some c):=by
 unfold Builtin.Str.subAt;rw[NN,beq_iff_eq,decide_eq_true_iff];show (l.toArray.extract i (i+1))=#[c]↔_;constructor
 .intro h;have a:=congrArg So h;simp at a;cases e:l[i]? with
  |none=>
   have:l.length<=i:=List.getElem?_eq_none_iff.mp e;rw[NA this]at a;simp at a
  |some d=>
   obtain⟨f,g⟩:=JV.mp e;have b:l.drop i=d::l.drop (i+1):=by rw[M8 f,g]
   rw[b,Pm,OJ]at a;injection a with a _
   rw[a]
 .intro h;obtain⟨f,g⟩:=JV.mp h;apply QD.mp;simp;rw[M8 f];simp[g]
theorem Dj(l)(c):Txt.startswith (T' l) ⟨#[c]⟩=decide (l.head?=some c):=by
 unfold Txt.startswith;rw[IB];cases l with
 |nil=>simp[Str.length]
 |cons d r=>simp[Str.length]
theorem at1(l)(c i):StrLaws.At (T' l) ⟨#[c]⟩ (T' l).length i↔l[i]?=some c:=by
 unfold StrLaws.At;rw[IB,decide_eq_true_iff,bg];exact⟨λh=>h.2,λh=>⟨(JV.mp h).1,h⟩⟩
theorem in1(l)(c):(!(Builtin.Str.occurrences (T' l) ⟨#[c]⟩ 0 (T' l).length 1).isEmpty)=decide (c∈l):=by
 rcases StrLaws.occ_head (T' l) ⟨#[c]⟩ 1 (JR _) with ⟨a,b⟩ |⟨i,r,a,b,_⟩
 .rw[a]
  symm
  refine decide_eq_false λh=>?_;obtain⟨i,d⟩:=KJ.mp h;exact b i ((at1 l c i).mpr d)
 .rw[a]
  symm
  exact decide_eq_true (J8 ((at1 l c i).mp b))
inductive Cst:Expr->U->Prop
 |str (x:Str) (j) (p:Pos):Cst (.Constant (.str x) j p) (.str x)
 |int (i:Int) (j) (p:Pos):Cst (.Constant (.int i) j p) (.int i)
 |bl (b:Bool) (j) (p:Pos):Cst (.Constant (.bool b) j p) (.bl b)
 |non (j) (p:Pos):Cst (.Constant .none j p) .non
inductive yH:List Expr->List U->Prop
 |nil:yH [] []
 |cons {e:Expr}{u:U}{es:List Expr}{us:List U}:Cst e u->yH es us->yH (e::es) (u::us)
theorem EQ(h:yH es us):EvS X H0 O0 ps es us:=by
 induction h with
 |nil=>exact bG
 |cons a _ c=>
  cases a with
  |str x j p=>exact aq aE c aJ
  |int i j p=>exact aq ah c aJ
  |bl b j p=>exact aq Gu c aJ
  |non j p=>exact aq wc c aJ
theorem jJ:∀l,aP ((l.map (·.1)).map V.str) (Q9 l)
 |[]=>.nil
 | (_,t)::r=>.cons ⟨t,rfl⟩ (jJ r)
theorem mw{K:JI}(l:List Str):Rps K H (l.map V.str) (l.map U.str):=by
 refine⟨by simp,λi v x a b=>?_⟩;rw[JQ]at a b;cases e:l[i]? with
 |none=>rw[e]at a;cases a
 |some z=>rw[e]at a b;cases a;cases b;exact .str _
theorem wI{K:JI}:∀{l}{ws}{a},aP ws a->Rps K H ws (l.map U.str)->∃m,a=Q9 m/\m.map (·.1)=l
 |[],ws,a,b,c=>by
  have:=c.nil_inv;subst this;cases b;exact⟨[],rfl,rfl⟩
 |x::l,ws,a,b,c=>by
  obtain⟨v,h,rfl,g,i⟩:=c.cons_inv;cases b with
  |cons d f=>
   cases g;obtain⟨t,rfl⟩:=d;obtain⟨m,rfl,e⟩:=wI f i;exact⟨(x,t)::m,rfl,by rw[J6,e]⟩
section
variable {X:Cx}{H0:Hp}{O0:List Kb}{ps:PSt}{a b e:Expr}{x y:Str}
theorem qS:MtR X "str.split" (λv m H Q=>∃x y,v=.str x∧m=[.str y]∧(y.length==0)=false∧x.length+2≤sizeLine∧∀p,H p=none→Q (.ref p) (upd H p (.lst ((Txt.split x y).map V.str)))):=by
 intro B s A H v m u E Q I n r h;obtain⟨x,y,rfl,rfl,hy,D,q⟩:=h;obtain⟨t,rfl⟩:=n;obtain⟨F,rfl,k⟩:=c8 r;obtain⟨j,rfl⟩:=k;have C:=I.hok.fresh (JR s.heap.objs.size);have len:=split_le x y
 have i:∀(l:List (Str×Tok)) (f:Nat),l.map (·.1)=Txt.split x y→EP X B A Q (.ref s.heap.objs.size) {s with heap:=s.heap.push {cls:=.type "list",data:=.seq (Q9 l).toArray },toks:=f }:=λl f e=>
  ⟨.ref s.heap.objs.size,_,I.laid (t':=f) (λb o z=>JJ _ z) (JR _) (show cB X.prog X.w _ _ _ (.lst ((Txt.split x y).map V.str)) from ⟨by rw[JK];lia,Q9 l,_,by rw[<-e];exact jJ l,JT s.heap rfl⟩),rfl,q _ C⟩
 by_cases a:(decide (x.length<y.length) ||decide (Builtin.Str.strKind x<Builtin.Str.strKind y))=true
 .refine Ox LI rfl Nn (Od ..) (meets_str_split_cannot_occur x y t j a) ?_;exact i [(x,t)] s.toks (if_pos a).symm
 .have c:=Si.mpr a;by_cases d:(Builtin.Str.occurrences x y 0 x.length (x.length+1)).isEmpty=true
  .refine Ox LI rfl Nn (Od ..) (meets_str_split_not_found x y t j c hy d) ?_;exact i [(x,t)] s.toks ((if_neg a).trans (if_pos d)).symm
  .have g:=Si.mpr d;have e:Txt.split x y=Builtin.Str.partsBetween x (Builtin.Str.occurrences x y 0 x.length (x.length+1)) y.length:=(if_neg a).trans (if_neg d);refine Ox LI rfl Nn (Od ..) (meets_str_split_sep x y t j c hy g (by lia) (by rw[<-e];lia)) ?_;rw[<-e,strsFrom_eq];exact i (numbered s.toks (Txt.split x y)) _ (TU _ _)
theorem DB(l:Ev X H0 O0 ps a (.str x))(g:Ev X H0 O0 ps e (.str y))(f:JO [e] X.env=(false,LD e X.env)::JO [] X.env)(k:x.length+2<=sizeLine)(j:(y.length==0)=false)
  (Vr:Lc a "split" X.env (LD a X.env)=LD a X.env:=by rfl)
  (VL:((Ll Vc (JO [e] X.env)).all (λx=>!x.1) && (Na Vc (LG [] X.env)).all (λx=>x.1.isSome) && decide ([e].length+([]:List M7).length+(if ([]:List M7).isEmpty then 0 else 1)<30))=true:=by rfl)
  (Vs:(Vg.endLine==Vc.line)=true:=by rfl) (Vv:(Ll Vc (JO [] X.env)).any (·.1)=false:=by rfl):
  EvN X H0 O0 ps (.Call (.Attribute a "split" Vg) [e] [] Vc) ((Txt.split x y).map U.str):=
 PE.mono (wG Me LI Ot qS l (bH g cU f) Vr VL Vs f Vv) λm H Q ⟨O,R,q⟩=>⟨O,R,λv o b h=>by
  cases h
  exact⟨rfl,O,R.go b,λw n c i=>by
   cases i;exact⟨x,y,rfl,rfl,j,k,λp d=>q p _ _ ((b.trans c).trans (aO d _)) ((b.trans c).free d) aG (mw _)⟩⟩⟩
theorem Cy:MtR X "str.join" (λv b H Q=>∃x c a l,v=.str x∧b=[.ref c]∧SqL X.K H c a∧Rps X.K H a (l.map U.str)∧Ux x l=true∧Q (.str (Txt.join x l)) H):=by
 intro y s w H v b u A Q I f i h;obtain⟨x,c,a,l,rfl,rfl,g,o,d,q⟩:=h;obtain⟨t,rfl⟩:=f;obtain⟨B,rfl,k⟩:=c8 i;cases k;obtain⟨r,j,n,p⟩:=I.list g;obtain⟨m,rfl,e⟩:=wI j o;exact SC.join n.isList e d λz k=>⟨.str _,H,I.tok _,⟨_,rfl⟩,q⟩
theorem qu(r:Ev X H0 O0 ps a (.str x))(g:Ev X H0 O0 ps e (.lst (l.map U.str)))(b:JO [e] X.env=(false,LD e X.env)::JO [] X.env)(h:Ux x l=true)
  (Vr:Lc a "join" X.env (LD a X.env)=LD a X.env:=by rfl)
  (VL:((Ll Vc (JO [e] X.env)).all (λx=>!x.1) && (Na Vc (LG [] X.env)).all (λx=>x.1.isSome) && decide ([e].length+([]:List M7).length+(if ([]:List M7).isEmpty then 0 else 1)<30))=true:=by rfl)
  (Vs:(Vg.endLine==Vc.line)=true:=by rfl) (Vv:(Ll Vc (JO [] X.env)).any (·.1)=false:=by rfl):
  Ev X H0 O0 ps (.Call (.Attribute a "join" Vg) [e] [] Vc) (.str (Txt.join x l)):=
 PE.mono (wG Me PySem.F.slot_str_join PySem.F.type_str_join Cy r (bH g cU b) Vr VL Vs b Vv) λs H Q ⟨O,R,q⟩=>⟨O,R,λv t d i=>by
  cases i
  exact⟨rfl,O,R.go d,λw n f k=>by
   cases k with
   | @lst c m _ j o p=>exact⟨x,c,m,l,rfl,rfl,SqL.of (aH _ _ j),Rps.same aH ⟨o,p⟩,h,q _ n (d.trans f) (.str _)⟩⟩⟩
end
noncomputable def spl(c:Nat):List Nat->List (List Nat)
 |[]=>[[]]
 |a::l=>if a=c then []::spl c l else (a::(spl c l).headD [])::(spl c l).drop 1
theorem Fz(c)(l):∃p r,spl c l=p::r:=by
 cases l with
 |nil=>exact⟨_,_,rfl⟩
 |cons a l=>unfold spl;split <;>exact⟨_,_,rfl⟩
theorem jg:∀{p},c ∉ p->spl c p=[p]
 |[],_=>rfl
 |a::p,h=>by
  have h1:a≠c:=λe=>h (by rw[e];exact JP);unfold spl;rw[if_neg h1,jg λz=>h (JL _ z)];rfl
theorem kU(l):∀{p},c ∉ p->spl c (p++c::l)=p::spl c l
 |[],_=>by show spl c (c::l)=_;rw[spl,if_pos rfl]
 |a::p,h=>by
  have h1:a≠c:=λe=>h (by rw[e];exact JP);show spl c (a::(p++c::l))=_;rw[spl,if_neg h1,kU l λz=>h (JL _ z)];rfl
theorem qO(c):∀a l,a≠[]->(∀t∈a,c ∉ t.cps.toList)->Str.join ⟨#[c]⟩ a=T' l->a=(spl c l).map T'
 |[],l,h,_,_=>absurd rfl h
 |[t],l,_,d,e=>by
  have e1:t=T' l:=e;have b:=d t JP;rw[e1]at b |-;rw[jg (by simpa using b)]
  rfl
 |t::t2::a,l,_,d,e=>by
  have e1:t++⟨#[c]⟩++Str.join ⟨#[c]⟩ (t2::a)=T' l:=e;generalize hm:Str.join ⟨#[c]⟩ (t2::a)=m at e1;have j:=qO c (t2::a) m.cps.toList (by simp) (λz g=>d z (JL _ g)) (hm.trans (AG m))
  have b:l=t.cps.toList++c::m.cps.toList:=by
   have:=congrArg (λx:Str=>x.cps.toList) e1
   have f:(t++⟨#[c]⟩++m).cps.toList=t.cps.toList++[c]++m.cps.toList:=by
    show (t.cps++#[c]++m.cps).toList=_;simp
   rw[f]at this;have i:(T' l).cps.toList=l:=by simp
   rw[i]at this;rw[<-this];simp
  rw[b,kU _ (d t JP),J6,<-j,<-AG]
theorem ux(l)(c):Txt.split (T' l) ⟨#[c]⟩=(spl c l).map T':=by
 refine qO c _ l ?_ (StrLaws.split_free (T' l) c) (StrLaws.join_split _ _);intro h;have:=split_pos (T' l) ⟨#[c]⟩;rw[h]at this;simp at this
section
variable {X:Cx}{H0:Hp}{O0:List Kb}{E:XK}{ps:PSt}{a b e:Expr}{es:List Expr}{y:Str}{l:List Nat}{c:Nat}{pos:Pos}{u:U}{C:Kb}
theorem rL(h:Ev X H0 O0 ps a (.str (T' l)))(b:Ev X H0 O0 ps e (.str y))(d:JO [e] X.env=(false,LD e X.env)::JO [] X.env)(g:(T' l).length+2<=sizeLine)(f:y=⟨#[c]⟩)
  (Vr:Lc a "split" X.env (LD a X.env)=LD a X.env:=by rfl)
  (VL:((Ll Vc (JO [e] X.env)).all (λx=>!x.1) && (Na Vc (LG [] X.env)).all (λx=>x.1.isSome) && decide ([e].length+([]:List M7).length+(if ([]:List M7).isEmpty then 0 else 1)<30))=true:=by rfl)
  (Vs:(Vg.endLine==Vc.line)=true:=by rfl) (Vv:(Ll Vc (JO [] X.env)).any (·.1)=false:=by rfl):
  EvN X H0 O0 ps (.Call (.Attribute a "split" Vg) [e] [] Vc) ((spl c l).map λp=>U.str (T' p)):=by
 subst f;have:=DB h b d g rfl Vr VL Vs Vv;rw[ux,Ka]at this;exact this
end
end L2
namespace L2
open PySem PySem.Spec PyProof.Rows
theorem qe{n:Nat}(h:n<=9000):n<sizeLine:=by rw[Lg];lia
end L2
namespace ST2
open PySem PySem.SetTable ST
section
variable {prog:J2}{w:Kt}{A:K7}{E:J0→JY→Prop}{s:JY}
noncomputable abbrev K4:=(Int×Int)×(Int×Int)
noncomputable abbrev l1(k:K4):List Int:=[k.1.1,k.1.2]
noncomputable abbrev l2(k:K4):List Int:=[k.2.1,k.2.2]
def TQ(prog:J2)(w:Kt)(h:Mf)(k:K4)(b:Kb):Prop:=∃o items n a c,h.get? b=some o∧o.cls=.type "tuple"∧o.data=.seq items n∧items.toList=[.ref a,.ref c]∧TK prog w h (l1 k) a∧TK prog w h (l2 k) c
variable {hZ:K4→Int}
noncomputable def ents(hZ:K4->Int)(a:List (K4×Kb)):List (Int×J0):=a.map λp=>(hZ p.1,.ref p.2)
structure SP(prog:J2)(w:Kt)(hZ:K4->Int)(h:Mf)(S:Kb)(kb:List (K4×Kb)):Prop where
 ex:∃o es ep t,h.get? S=some o∧o.ExactSet∧o.data=.set es ep t∧es.toList=ents hZ kb∧TOk t (kb.map λp=>hZ p.1)∧t.led=(!w.params.followText "set-order")∧t.plain=true∧t.tooFull=false∧t.mask<8*kb.length+8
 keys:∀p∈kb,TQ prog w h p.1 p.2
 nd:(kb.map (·.1)).Nodup
structure Got(kx:Nat->K4×Kb)(i:Nat)(kb:List (K4×Kb)):Prop where
 src:∀p∈kb,∃j,j<i/\p=kx j
 all:∀j,j<i->(kx j).1∈kb.map (·.1)
 len:kb.length<=i
variable {R:S1→JY→Prop}{I:Kb}{fp wr:List Kb}{G:Array Px→Array Px→Prop}{n:Nat}{P:Nat→J0→Prop}{St:Nat→JY→Prop}
end
end ST2
namespace L2
open PySem PySem.Spec PySem.W PyProof.Rows
section
variable {X:Cx}{H0:Hp}{O0:List Kb}{E:XK}{ps:PSt}{D:PD}
theorem xX{i:Nat}(I:Inv X U8 σ H s)(j:X.N[i]?=some x)(k:Vis X.env.scope x)(d:(x==("__debug__":Str))=false)(o:(x==("__classdict__":Str))=false)
  (e:σ[i]?=some (some v)) (h:∀u,aM v u->Q u s):Kj (Kk X.prog X.w) X.A (LD (.Name x pos) X.env) Q E' s:=by
 obtain⟨m,p,q⟩:=I.loc;obtain⟨u,r,l⟩:=q i x v j e k;have b:=h u r;rcases l with ⟨a,n⟩ |⟨a,c,g,f⟩
 .exact P5 (Rk I.ok.kind a p n b) d
 .rcases a with a |a
  .exact P5 (Rz I.ok.kind a g f b) d
  .exact P5 (RA I.ok.kind a g f b o) d
end
end L2
namespace ST3
open PySem PySem.W PySem.Calls PyProof.Rows ST
noncomputable abbrev TR:=(Int×Int)×(Int×Int)×(Int×Int)
noncomputable def ltT(a b:TR):Bool:=if a.1=b.1 then (if a.2.1=b.2.1 then ltP a.2.2 b.2.2 else ltP a.2.1 b.2.1) else ltP a.1 b.1
section
variable {prog:J2}{w:Kt}{A:K7}{E:J0→JY→Prop}{s:JY}
noncomputable abbrev lq(p:Int×Int):List Int:=[p.1,p.2]
noncomputable def TT(prog:J2)(w:Kt)(h:Mf)(t:TR)(b:Kb):Prop:=∃o items n c d a,h.get? b=some o∧o.cls=.type "tuple"∧o.data=.seq items n∧items.toList=[.ref c,.ref d,.ref a]∧TK prog w h (lq t.1) c∧TK prog w h (lq t.2.1) d∧TK prog w h (lq t.2.2) a
end
end ST3
namespace L2
open PySem PySem.Spec PyProof.Rows
noncomputable def t0:ST3.TR:=((0,0),(0,0),(0,0))
section
variable {X:Cx}{H0:Hp}{O0:List Kb}{ps:PSt}{e:Expr}{VM:List ST3.TR}{pos p:Pos}
theorem IM(h:aP [a,b,c] us):∃u v w,us=[u,v,w]/\aM a u/\aM b v/\aM c w:=by
 cases h with
 |cons e r=>
  cases r with
  |cons f r=>
   cases r with
   |cons d r=>cases r;exact⟨_,_,_,rfl,e,f,d⟩
end
end L2
namespace ST6
open PySem PySem.W PySem.Calls PyProof.Rows ST
noncomputable def ltL:List Int->List Int->Bool
 |a::r,b::t=>if a=b then ltL r t else decide (a<b)
 |[],_::_=>true
 |_,[]=>false
theorem wB:∀x,ltL x x=false
 |[]=>rfl
 |a::r=>by rw[ltL,if_pos rfl];exact wB r
theorem wV:∀{a b},ltL a b=true->ltL b a=false
 |[],[],_=>rfl
 |[],_::_,_=>rfl
 |_::_,[],h=>by cases h
 |a::r,b::t,h=>by
  rw[ltL]at h |-;by_cases e:a=b
  .rw[if_pos e]at h;rw[if_pos e.symm];exact wV h
  .rw[if_neg e]at h;rw[if_neg (Ne.symm e)];have:=of_decide_eq_true h;exact decide_eq_false (by lia)
theorem pU:∀{a b},a≠b->ltL a b=false->ltL b a=true
 |[],[],h,_=>absurd rfl h
 |[],_::_,_,h=>by cases h
 |_::_,[],_,_=>rfl
 |a::r,b::t,h,k=>by
  rw[ltL]at k |-;by_cases e:a=b
  .rw[if_pos e]at k;rw[if_pos e.symm];exact pU (λz=>h (by rw[e,z])) k
  .rw[if_neg e]at k;rw[if_neg (Ne.symm e)];have:=of_decide_eq_false k;exact decide_eq_true (by lia)
theorem tR:∀{a b c},ltL a b=true->ltL b c=true->ltL a c=true
 |[],[],_,h,_=>by cases h
 |[],_::_,[],_,k=>by cases k
 |[],_::_,_::_,_,_=>rfl
 |_::_,[],_,h,_=>by cases h
 |_::_,_::_,[],_,k=>by cases k
 |a::r,b::t,c::u,h,k=>by
  rw[ltL]at h k |-;by_cases e:a=b
  .rw[if_pos e]at h;by_cases f:b=c
   .rw[if_pos f]at k;rw[if_pos (e.trans f)];exact tR h k
   .rw[if_neg f]at k;rw[if_neg (by rw[e];exact f),e];exact k
  .rw[if_neg e]at h;have h1:=of_decide_eq_true h;by_cases f:b=c
   .rw[if_neg (by rw[<-f];exact e),<-f];exact h
   .rw[if_neg f]at k;have d:=of_decide_eq_true k;rw[if_neg (by lia)]
    exact decide_eq_true (by lia)
noncomputable def i5(x:(List Int)):List (List Int)->List (List Int)
 |[]=>[x]
 |y::r=>if x=y then y::r else if ltL x y=true then x::y::r else y::i5 x r
noncomputable def srtL(a:List (List Int)):List (List Int):=a.foldr i5 []
theorem jD(x z):∀l,z∈i5 x l↔z=x\/z∈l
 |[]=>by simp[i5]
 |y::r=>by
  unfold i5;split
  .rename_i h;subst h;simp
  .split
   .simp
   .rw[JN,jD x z r,JN];constructor
    .rintro (h |h |h)
     .exact .inr (.inl h)
     .exact .inl h
     .exact .inr (.inr h)
    .rintro (h |h |h)
     .exact .inr (.inl h)
     .exact .inl h
     .exact .inr (.inr h)
abbrev GI(l:List (List Int)):Prop:=l.Pairwise (λx y=>ltL x y=true)
theorem l5(x):∀l,GI l->GI (i5 x l)
 |[],_=>by simp[i5]
 |y::r,h=>by
  unfold i5;split
  .exact h
  .rename_i d
   obtain⟨c,f⟩:=KM.mp h;split
   .rename_i a
    refine KM.mpr ⟨λz b=>?_,h⟩;rcases JN.mp b with e |e
    .rw[e];exact a
    .exact tR a (c z e)
   .rename_i a
    refine KM.mpr ⟨λz b=>?_,l5 x r f⟩;rcases (jD x z r).mp b with e |e
    .rw[e];exact pU d (by simpa using a)
    .exact c z e
theorem srtL_mem(z):∀l,z∈srtL l↔z∈l
 |[]=>by simp[srtL]
 |y::r=>by
  show z∈i5 y (srtL r)↔_;rw[jD,srtL_mem z r,JN]
theorem srtL_ascL:∀l,GI (srtL l)
 |[]=>NV
 |y::r=>l5 y (srtL r) (srtL_ascL r)
theorem ascL_irr:ltL x x=false:=wB x
section
variable {prog:J2}{w:Kt}{A:K7}{E:J0→JY→Prop}{s:JY}
theorem TK6.grow(x:TK prog w h k b)(e:∀b o,o.cls=.type "tuple"→h.get? b=some o→h'.get? b=some o):TK prog w h' k b:=by
 obtain⟨o,c,n,d,a,f⟩:=x;exact⟨o,c,n,e _ _ a d,a,f⟩
theorem tw:∀f d xs c i,ItemsAre (N_ prog w) f xs->ItemsAre (N_ prog w) d c->f.length=d.length->Q (ltL f d) s->KatLex prog w A true false Q (xs.zip c) i s
 |[],[],xs,c,i,g,hy,_,h=>by cases g;cases hy;exact kat_nil h
 |a::f,b::d,xs,c,i,g,hy,hl,h=>by
  cases g with
  | @cons _ v _ xs j g=>
   cases hy with
   | @cons _ u _ c k hy=>
    rw[NG];refine kat_cons ((N_ prog w).eqBool j k ?_);rw[ltL]at h;by_cases e:a=b
    .rw[decide_eq_true e];rw[if_pos e]at h;exact kat_yes (tw f d xs c (i+1) g hy (by simpa using hl) h)
    .rw[decide_eq_false e];rw[if_neg e]at h;obtain⟨l,rfl⟩:=MF j;obtain⟨m,rfl⟩:=MF k;cases i with
     |zero=>exact kat_no (oneLt_int h)
     |succ i=>exact kat_no (kat_one _ _ (lt_int h))
 |[],_::_,_,_,_,_,_,hl,_=>by simp at hl
 |_::_,[],_,_,_,_,_,hl,_=>by simp at hl
theorem oF(h:ItemsAre (N_ prog w) k vs):vs.length=k.length:=by
 induction h with
 |nil=>rfl
 |cons _ _ a=>rw[JX,JX,a]
theorem FQ(t:a.length=6)(m:b.length=6)(u:TK prog w s.heap a x)(k:TK prog w s.heap b y)(h:Q (ltL a b) s):Kj (Kk prog w) A (keyLt' (Sf true) (.ref x) (.ref y)) Q E s:=by
 obtain⟨o,p,n,j,_,i,d⟩:=u;obtain⟨z,r,v,f,_,l,c⟩:=k;refine kat_lt j i f l ?_
 have g:decide (p.size<r.size)=false:=by
  have e:=oF d;have q:=oF c;rw[<-Ke,<-Ke,e,q,t,m];rfl
 rw[g];exact tw a b _ _ 0 d c (by lia) h
noncomputable abbrev PT6:=List (List Int×Kb)
noncomputable abbrev Fi(pb:PT6):List J0:=pb.map λp=>Ku p.2
theorem zV(j:∀p∈pb,p.1.length=6)(i:∀p∈pb,TK prog w s.heap p.1 p.2)(x:0<pb.length)(h:Q (Sf true) s):Kj (Kk prog w) A (keyKind' (Fi pb).toArray) Q E s:=by
 obtain⟨fs,f,k,d⟩:∃fs,KatTups s.heap (Fi pb) fs/\fs.length=pb.length/\∀v∈fs,∃n t,v=OK n t:=by
  clear h x
  induction pb with
  |nil=>exact⟨[],.nil,rfl,λv b=>by simp at b⟩
  |cons p r B=>
   obtain⟨fs,f,k,d⟩:=B (λq c=>j q (JL _ c)) λq c=>i q (JL _ c);obtain⟨o,y,n,u,C,m,e⟩:=i p JP;have g:=j p JP;cases hk:p.1 with
   |nil=>rw[hk]at g;simp at g
   |cons a F=>
    rw[hk]at e;generalize hts:y.toList=H at e;cases e with
    | @cons _ v _ D l G=>
     obtain⟨t,rfl⟩:=MF l;refine⟨.int a t::fs,.cons u C m (by rw[<-KI,hts];rfl) f,by simp[k],λv b=>?_⟩;rcases JN.mp b with z |z
     .exact⟨_,_,z⟩
     .exact d v z
 refine kat_kind (T:=.type "int") f (by lia) (λv b=>?_) (by decide) h;obtain⟨n,t,rfl⟩:=d v b;exact Looks.of_pure rfl
end
end ST6
namespace L2
open PySem PySem.Spec PyProof.Rows
noncomputable abbrev sxU(k:List Int):U:=.tup (k.map U.int)
end L2
namespace ST
open PySem
theorem BW(a b c):checkTypeCall "zip" ⟨[a,b,c],[]⟩=pure ():=by kernel_rfl
theorem Ca(a b c):checkBuiltinCall "zip.__new__" ⟨[.type "zip",a,b,c],[]⟩=pure ():=by kernel_rfl
theorem y4(a b c d):Ur "object.__init__" ⟨[a,b,c,d],[]⟩:=by
 unfold Ur;rw[signature?_of (n:=['_','_','t','i','n','i','_','_']) (by kernel_rfl) PySem.F.owner_object]
 kernel_rfl
abbrev IsTri(h:Mf)(T:Kb)(a b c:J0):Prop:=h.get? T=some {cls:=.type "tuple",data:=.seq #[a,b,c] }
structure Z3A(z TI TO i1 i2 i3 l1 l2 l3:Kb):Prop where
 TIz:TI≠z
 TOz:TO≠z
 i1z:i1≠z
 i2z:i2≠z
 i3z:i3≠z
 TITO:TI≠TO
 TIi1:TI≠i1
 TIi2:TI≠i2
 TIi3:TI≠i3
 TOi1:TO≠i1
 TOi2:TO≠i2
 TOi3:TO≠i3
 i12:i1≠i2
 i13:i1≠i3
 i23:i2≠i3
 l1z:l1≠z
 l1TO:l1≠TO
 l1i1:l1≠i1
 l1i2:l1≠i2
 l1i3:l1≠i3
 l2z:l2≠z
 l2TO:l2≠TO
 l2i1:l2≠i1
 l2i2:l2≠i2
 l2i3:l2≠i3
 l3z:l3≠z
 l3TO:l3≠TO
 l3i1:l3≠i1
 l3i2:l3≠i2
 l3i3:l3≠i3
variable {E:J0→JY→Prop}
section
variable {prog:J2}{w:Kt}{A:K7}{s:JY}
theorem pW(e:IsTri s.heap T a b c)
  (h:∀d,d.get? T=some {cls:=.type "tuple",data:=.seq ((#[a,b,c]:Array J0).setIfInBounds k x) }→MD T s.heap d→Q () {s with heap:=d }):
  Kj (Kk prog w) A (Uv T (·.setIfInBounds k x)) Q E s:=by
 refine LO e rfl (h _ ?_ (MR ..));rw[KW _ e rfl];simp[KS]
theorem Df{Q:J0->JY->Prop}(D:Z3A z TI TO i1 i2 i3 l1 l2 l3)
  (gz:Q3 s.heap z TI TO .none) (gI:IsTri s.heap TI (.ref i1) (.ref i2) (.ref i3)) (gO:IsTri s.heap TO a b c)
  (h1:s.heap.IsListIter i1 l1 k1) (h2:s.heap.IsListIter i2 l2 k2) (h3:s.heap.IsListIter i3 l3 k3) (Vz:s.heap.IsList l1 xs) (VG:s.heap.IsList l2 ys) (hl3:s.heap.IsList l3 zs)
  (hx:xs[k1]?=some x) (hy:ys[k2]?=some y) (hv:zs[k3]?=some v)
  (hQ:∀h',Q3 h' z TI TO (NC s.heap.objs.size)->IsTri h' TO x y v->h'.IsListIter i1 l1 (k1+1)->h'.IsListIter i2 l2 (k2+1)->h'.IsListIter i3 l3 (k3+1)->IsTri h' s.heap.objs.size x y v->h'.objs.size=s.heap.objs.size+1->
   (∀d o,d≠z->d≠TO->d≠i1->d≠i2->d≠i3->s.heap.get? d=some o->h'.get? d=some o)->Q (.ref s.heap.objs.size) {s with heap:=h' }):
  Kj (Kk prog w) A (Builtin.«zip.__next__» ⟨[.ref z],[]⟩) (λVn s'=>∃v,Vn=.done (.ret v)/\Q v s') E s:=by
 show Kj _ _ (UL (.ref z) 2 >>=_) _ _ _;refine JH (LW gz rfl rfl ?_);show Kj _ _ (UL (.ref z) 3 >>=_) _ _ _;refine JH (LW gz rfl rfl ?_);refine JH (La gI rfl ?_);refine JH ?_;unfold Builtin.SmallTypes.ownedTupleIsFree;refine JH (LW gz rfl rfl (JM ?_));simp only[if_true];refine JH (Pe ?_);refine JH (LW gz rfl rfl ?_);refine JH (M4 gz (by simp) λX8 u n=>?_);replace u:Q3 X8 z TI TO .ellipsis:=u
 refine JH ?_;simp only[SN,Tj,Ng,N4];refine JH (JH (Qu ?_));show Kj _ _ (Builtin.SmallTypes.nextOf (.ref i1) >>=_) _ _ _;refine JH (Mc (h1.extBut n.extBut D.i1z) (Vz.extBut n.extBut D.l1z) hx λX9 W p=>JM ?_);have I:=p.extBut _ _ D.TOi1 (n.extBut _ _ D.TOz gO);refine JH (La I rfl ?_);refine JH (pW I λhp3 t q=>?_)
 replace t:IsTri hp3 TO x b c:=t
 refine JH (NQ (JM ?_));refine JH (JH (Qu ?_));show Kj _ _ (Builtin.SmallTypes.nextOf (.ref i2) >>=_) _ _ _
 refine JH (Mc (((h2.extBut n.extBut D.i2z).extBut p.extBut D.i12.symm).extBut q.extBut D.TOi2.symm)
  (((VG.extBut n.extBut D.l2z).extBut p.extBut D.l2i1).extBut q.extBut D.l2TO) hy λhp4 S f=>JM ?_)
 have M:=f.extBut _ _ D.TOi2 t;refine JH (La M rfl ?_);refine JH (pW M λX r g=>?_)
 replace r:IsTri X TO x y c:=r
 refine JH (NQ (JM ?_));refine JH (JH (Qu ?_));show Kj _ _ (Builtin.SmallTypes.nextOf (.ref i3) >>=_) _ _ _
 refine JH (Mc (((((h3.extBut n.extBut D.i3z).extBut p.extBut D.i13.symm).extBut q.extBut D.TOi3.symm).extBut f.extBut D.i23.symm).extBut g.extBut D.TOi3.symm)
  (((((hl3.extBut n.extBut D.l3z).extBut p.extBut D.l3i1).extBut q.extBut D.l3TO).extBut f.extBut D.l3i2).extBut g.extBut D.l3TO) hv λhp6 P i=>JM ?_)
 have L:=i.extBut _ _ D.TOi3 r;refine JH (La L rfl ?_);refine JH (pW L λj l h=>?_)
 replace l:IsTri j TO x y v:=l
 refine JH (NQ (JM (JM ?_)));refine JH (La l rfl ?_);refine JH (Rx ?_);have VI:j.objs.size=s.heap.objs.size:=by rw[h.1,i.1,g.1,f.1,q.1,p.1,n.1]
 have all:∀d o,d≠z->d≠TO->d≠i1->d≠i2->d≠i3->s.heap.get? d=some o->j.get? d=some o:=λd o B K Y V U e=>
  h.extBut _ _ K (i.extBut _ _ U (g.extBut _ _ K (f.extBut _ _ V (q.extBut _ _ K (p.extBut _ _ Y (n.extBut _ _ B e))))))
 have N:=h.extBut _ _ D.TOz.symm (i.extBut _ _ D.i3z.symm (g.extBut _ _ D.TOz.symm (f.extBut _ _ D.i2z.symm (q.extBut _ _ D.TOz.symm (p.extBut _ _ D.i1z.symm u)))));have R:=((((W.extBut q.extBut D.TOi1.symm).extBut f.extBut D.i12).extBut g.extBut D.TOi1.symm).extBut i.extBut D.i13).extBut h.extBut D.TOi1.symm;have h27:=((S.extBut g.extBut D.TOi2.symm).extBut i.extBut D.i23).extBut h.extBut D.TOi2.symm;have Z:=P.extBut h.extBut D.TOi3.symm;have H:=JU N;refine JH ?_;unfold Builtin.SmallTypes.ownedTupleHandOut;have T:Q3 (j.push {cls:=.type "tuple",data:=.seq #[x,y,v] }) z TI TO .ellipsis:=JJ _ N;refine JH (M4 T (by simp) λhp9 C F=>?_);replace C:Q3 hp9 z TI TO (NC j.objs.size):=C
 refine M4 C (by simp) λk m G=>?_
 replace m:Q3 k z TI TO (NC j.objs.size):=m
 have O:∀d o,d≠z->j.get? d=some o->k.get? d=some o:=λd o B e=>G.extBut _ _ B (F.extBut _ _ B (JJ _ e));have gT:=G.extBut _ _ (LX H) (F.extBut _ _ (LX H) (JT _ rfl));have J:k.objs.size=j.objs.size+1:=by rw[G.1,F.1,KU]
 rw[VI]at m gT J;refine JM ⟨_,rfl,?_⟩;show Q (.ref j.objs.size) _;rw[VI];exact hQ k m (O _ _ D.TOz l) (R.at λo e=>O _ o D.i1z e) (h27.at λo e=>O _ o D.i2z e) (Z.at λo e=>O _ o D.i3z e) gT J λd o B K Y V U e=>O d o B (all d o B K Y V U e)
theorem FT(v:A.handled=none)(c:i1≠z)(h:l1≠z)
  (gz:Q3 s.heap z TI TO .none) (gI:IsTri s.heap TI (.ref i1) (.ref i2) (.ref i3)) (h1:s.heap.IsListIter i1 l1 k1) (Vz:s.heap.IsList l1 xs) (hx:xs[k1]?=none)
  (hE:∀i e,(∀d o,d≠z→d≠i1→s.heap.get? d=some o→i.get? d=some o)→(∃o,i.get? e=some o∧o.cls=.type "StopIteration")→E (.ref e) {s with heap:=i }):
  Kj (Kk prog w) A (Builtin.«zip.__next__» ⟨[.ref z],[]⟩) Q E s:=by
 show Kj _ _ (UL (.ref z) 2 >>=_) _ _ _;refine JH (LW gz rfl rfl ?_);show Kj _ _ (UL (.ref z) 3 >>=_) _ _ _;refine JH (LW gz rfl rfl ?_);refine JH (La gI rfl ?_);refine JH ?_;unfold Builtin.SmallTypes.ownedTupleIsFree;refine JH (LW gz rfl rfl (JM ?_));simp only[if_true];refine JH (Pe ?_);refine JH (LW gz rfl rfl ?_);refine JH (M4 gz (by simp) λr a k=>?_);replace a:Q3 r z TI TO .ellipsis:=a
 refine JH ?_;simp only[SN,Tj,Ng,N4];refine JH (JH (Qu ?_));show Kj _ _ (Builtin.SmallTypes.nextOf (.ref i1) >>=_) _ _ _;refine JH (OP v (h1.extBut k.extBut c) (Vz.extBut k.extBut h) hx λy e l p=>?_);obtain⟨t,b,f⟩:=p;have g:=l _ _ c.symm a;have x:e≠z:=λq=>by subst q;rw[g]at b;cases b;simp at f
 refine M4 g (by simp) λj _ m=>hE j e (λd o n u q=>m.extBut _ _ n (l _ _ u (k.extBut _ _ n q))) ⟨t,m.extBut _ _ x b,f⟩
theorem next_z3_item(D:Z3A z TI TO i1 i2 i3 l1 l2 l3)
  (gz:Q3 s.heap z TI TO .none) (gI:IsTri s.heap TI (.ref i1) (.ref i2) (.ref i3)) (gO:IsTri s.heap TO a b c)
  (h1:s.heap.IsListIter i1 l1 k1) (h2:s.heap.IsListIter i2 l2 k2) (h3:s.heap.IsListIter i3 l3 k3) (Vz:s.heap.IsList l1 xs) (VG:s.heap.IsList l2 ys) (hl3:s.heap.IsList l3 zs)
  (hx:xs[k1]?=some x) (hy:ys[k2]?=some y) (hv:zs[k3]?=some v)
  (hQ:∀h',Q3 h' z TI TO (NC s.heap.objs.size)->IsTri h' TO x y v->h'.IsListIter i1 l1 (k1+1)->h'.IsListIter i2 l2 (k2+1)->h'.IsListIter i3 l3 (k3+1)->IsTri h' s.heap.objs.size x y v->h'.objs.size=s.heap.objs.size+1->
   (∀d o,d≠z->d≠TO->d≠i1->d≠i2->d≠i3->s.heap.get? d=some o->h'.get? d=some o)->Q (some (.ref s.heap.objs.size)) {s with heap:=h' }):
  Kj (Kk prog w) A (Rt (.ref z)) Q E s:=by
 have e:s.TypeIs (.ref z) "zip":=⟨_,gz,rfl⟩
 exact JH (NW (LC e KY (Le KY e MV
   (Df D gz gI gO h1 h2 h3 Vz VG hl3 hx hy hv λh' h l f j k i m g=>JM (hQ h' h l f j k i m g)) (MC _))))
theorem next_z3_end(j:A.handled=none)(c:i1≠z)(b:l1≠z)
  (gz:Q3 s.heap z TI TO .none) (gI:IsTri s.heap TI (.ref i1) (.ref i2) (.ref i3)) (h1:s.heap.IsListIter i1 l1 k1) (Vz:s.heap.IsList l1 xs) (hx:xs[k1]?=none)
  (hQ:∀a,(∀d o,d≠z->d≠i1->s.heap.get? d=some o->a.get? d=some o)->Q none {s with heap:=a }):Kj (Kk prog w) A (Rt (.ref z)) Q E s:=by
 have f:s.TypeIs (.ref z) "zip":=⟨_,gz,rfl⟩
 refine JH (NW (LC f KY (Le KY f MV
  (FT j c b gz gI h1 Vz hx λa e i k=>?_) (MC _))))
 obtain⟨o,g,h⟩:=k;refine JH (Mu ⟨o,g,h⟩ PY ?_);exact JM (hQ _ i)
end
noncomputable abbrev Bo(h:Mf)(a:Kb):Mf:=h.push {cls:=.type "list_iterator",data:=.fields #[.ref a,.int 0 0] }
noncomputable abbrev Gk(h:Mf)(a b:Kb):Mf:=Bo (Bo h a) b
noncomputable abbrev zR(h:Mf)(b c a:Kb):Mf:=Bo (Gk h b c) a
noncomputable abbrev Eg(h:Mf)(a b c:Kb):Mf:=(zR h a b c).push {cls:=.type "tuple",data:=.seq #[.ref h.objs.size,.ref (Bo h a).objs.size,.ref (Gk h a b).objs.size] }
noncomputable abbrev Dx(h:Mf)(b c a:Kb):Mf:=(Eg h b c a).push {cls:=.type "tuple",data:=.seq #[.none,.none,.none] }
noncomputable abbrev yK(h:Mf)(b c a:Kb):Mf:=(Dx h b c a).push {cls:=.type "zip",data:=.fields #[.none,.bool false,.bool false,.ref (zR h b c a).objs.size,.ref (Eg h b c a).objs.size] }
theorem Bx(l1 l2 l3)(xs ys zs):
  Meets (Builtin.«zip.__new__» ⟨[.type "zip",.ref l1,.ref l2,.ref l3],[]⟩) (λ_ R s=>s.heap.IsList l1 xs∧s.heap.IsList l2 ys∧s.heap.IsList l3 zs∧
   R (.ok (.ret (.ref (Dx s.heap l1 l2 l3).objs.size))) {s with heap:=yK s.heap l1 l2 l3 }):=
 .of_wp λf w A R s h=>by
  obtain⟨j,g,d,i,l⟩:=s;obtain⟨n,m,b,h⟩:=h;have k:=sub_zip;have e:=n;have c:UM (UN ⟨j.push {cls:=.type "list_iterator",data:=.fields #[.ref l1,.int 0 0] },g,d,i,l⟩) l2 ys:=QE m _;have a:UM (UN ⟨(j.push {cls:=.type "list_iterator",data:=.fields #[.ref l1,.int 0 0] }).push {cls:=.type "list_iterator",data:=.fields #[.ref l2,.int 0 0] },g,d,i,l⟩) l3 zs:=QE (QE b _) _
  wp_walk using Lp e,Lp c,Lp a
  exact⟨_,rfl,h⟩
section
variable {prog:J2}{w:Kt}{A:K7}{s:JY}
theorem call_z3(u:s.heap.IsList l1 xs)(r:s.heap.IsList l2 ys)(b:s.heap.IsList l3 zs)
  (h:∀h',Q3 h' (s.heap.objs.size+5) (s.heap.objs.size+3) (s.heap.objs.size+4) .none->IsTri h' (s.heap.objs.size+3) (.ref s.heap.objs.size) (.ref (s.heap.objs.size+1)) (.ref (s.heap.objs.size+2))->
   IsTri h' (s.heap.objs.size+4) .none .none .none->h'.IsListIter s.heap.objs.size l1 0->h'.IsListIter (s.heap.objs.size+1) l2 0->h'.IsListIter (s.heap.objs.size+2) l3 0->h'.objs.size=s.heap.objs.size+6->
   (∀c o,s.heap.get? c=some o->h'.get? c=some o)->Q (.ref (s.heap.objs.size+5)) {s with heap:=h' }):
  Kj (Kk prog w) A (call (.type "zip") [.ref l1,.ref l2,.ref l3]) Q E s:=by
 refine callType_new PySem.F.called_zip (by decide) (BW _ _ _) (Ca _ _ _) (λj=>y4 j _ _ _) PySem.F.entry_zip_new (Bx l1 l2 l3 xs ys zs) ⟨u,r,b,?_⟩;have g:(Bo s.heap l1).objs.size=s.heap.objs.size+1:=KU ..;have f:(Gk s.heap l1 l2).objs.size=s.heap.objs.size+2:=by rw[KU,g]
 have d:(zR s.heap l1 l2 l3).objs.size=s.heap.objs.size+3:=by rw[KU,f]
 have l:(Eg s.heap l1 l2 l3).objs.size=s.heap.objs.size+4:=by rw[KU,d]
 have k:(Dx s.heap l1 l2 l3).objs.size=s.heap.objs.size+5:=by rw[KU,l]
 have v:(yK s.heap l1 l2 l3).objs.size=s.heap.objs.size+6:=by rw[KU,k]
 have a:∀{c o},(zR s.heap l1 l2 l3).get? c=some o->(yK s.heap l1 l2 l3).get? c=some o:=λe=>JJ _ (JJ _ (JJ _ e));have i:(yK s.heap l1 l2 l3).get? (Dx s.heap l1 l2 l3).objs.size=some _:=JT _ rfl;have q:(yK s.heap l1 l2 l3).get? (Eg s.heap l1 l2 l3).objs.size=some _:=JJ _ (JT _ rfl);have n:(yK s.heap l1 l2 l3).get? (zR s.heap l1 l2 l3).objs.size=some _:=JJ _ (JJ _ (JT _ rfl));have m:=a (JT _ rfl);have p:=a (JJ _ (JT _ rfl));have t:=a (JJ _ (JJ _ (JT _ rfl)));rw[d,l,k]at i;rw[g,f,d]at n;rw[l]at q;rw[f]at m;rw[g]at p;rw[k];exact⟨⟨_,i,rfl⟩,h _ i n q ⟨_,t,rfl,rfl⟩ ⟨_,p,rfl,rfl⟩ ⟨_,m,rfl,rfl⟩ v λc o e=>a (JJ _ (JJ _ (JJ _ e)))⟩
end
end ST
namespace L2
open PySem PySem.Spec PyProof.Rows
theorem wn{g:List Kb}(I:Inv X U8 σ H s)(h:∀b∈g,eU X U8 H b)
  (k:∀b o,b ∉ g->s.heap.get? b=some o->h'.get? b=some o) (hp:s.heap.objs.size<=p) (new:cB X.prog X.w (upd H p (.tup xs)) h' p (.tup xs)):
  Inv X U8 σ (upd H p (.tup xs)) {s with heap:=h',toks:=t' }:=by
 have fresh:=I.hok.fresh hp;have D:∀b o,s.heap.get? b=some o->b≠p:=λb o e z=>absurd (Kc (JU e) hp) (by rw[z];exact KA _);have d:∀b u,H b=some u->b≠p:=λb u e z=>by rw[z,fresh]at e;cases e
 have i:∀b u,H b=some u->b ∉ g:=λb u e z=>by rw[(h b z).1]at e;cases e
 refine I.step (λb f=>?_) (λb o _ _ a e _=>k b o a e) (λb o _ _ a e _=>⟨o.slots,k b o a e⟩) (λb o _ e n=>by rw[aD (D b o e)];exact n)
  (λb o a e=>⟨o,k b o a e⟩) (λb xs e=>by rw[aD (d b _ e)];exact e) (λb o u e=>by rw[aD (d b _ e)];exact e) (λb K e=>⟨#[],by rw[aD (d b _ e),e];simp⟩) (λm y=>?_) (λb u e=>?_) I.bare
 .obtain⟨J,C,F,j,l,A⟩:=h b f;exact⟨j,C,l,A⟩
 .obtain⟨o,t,B,x,r⟩:=y;exact⟨o,t,B,k _ o (λz=>(h _ z).2.1 rfl) x,r⟩
 .by_cases f:b=p
  .subst f;rw[aG]at e;cases e;exact new
  .rw[aD f]at e;refine (I.hok b u e).stay (λc v a q=>k c v ?_ q) (λc q=>by rw[aD (d c _ q)];exact q) (λc G E q=>by rw[aD (d c _ q)];exact q) λc xs q=>by rw[aD (d c _ q)];exact q
   rcases a with z |z
   .rw[z];exact i b u e
   .exact i c _ z
theorem wN{d:List Kb}(I:Inv X U8 σ H s)(f:∀b∈d,eU X U8 H b)
  (k:∀b o,b ∉ d->s.heap.get? b=some o->h'.get? b=some o):Inv X U8 σ H {s with heap:=h',toks:=t' }:=by
 have g:∀b u,H b=some u->b ∉ d:=λb u e z=>by rw[(f b z).1]at e;cases e
 refine I.step (λb i=>?_) (λb o _ _ a e _=>k b o a e) (λb o _ _ a e _=>⟨o.slots,k b o a e⟩) (λ_ _ _ _ n=>n)
  (λb o a e=>⟨o,k b o a e⟩) (λ_ _ e=>e) (λ_ _ _ e=>e) (λb C e=>⟨#[],by rw[e];simp⟩) (λm t=>?_) (λb u e=>?_) I.bare
 .obtain⟨B,y,A,h,j,w⟩:=f b i;exact⟨h,y,j,w⟩
 .obtain⟨o,l,x,p,r⟩:=t;exact⟨o,l,x,k _ o (λz=>(f _ z).2.1 rfl) p,r⟩
 .refine (I.hok b u e).stay (λc v a q=>k c v ?_ q) (λ_ q=>q) (λ_ _ _ q=>q) λ_ _ q=>q;rcases a with z |z
  .rw[z];exact g b u e
  .exact g c _ z
noncomputable def Itz(K:JI)(d f e:Kb):It:=
 ⟨λi H=>∃a c b x y v,SqL K H d a/\SqL K H f c/\SqL K H e b/\a[i]?=some x/\c[i]?=some y/\b[i]?=some v,
  λi H u g=>∃p x y v,u=.ref p/\H p=none/\g=upd H p (.tup [x,y,v])/\(∀a,SqL K H d a->a[i]?=some x)/\(∀c,SqL K H f c->c[i]?=some y)/\(∀b,SqL K H e b->b[i]?=some v),
  λi H=>∃a,SqL K H d a/\a.length<=i⟩
theorem Eb{P:J2}{w:Kt}{K:JI}{es:List Expr}{ctx pos}(z F u G L A l1 l2 U:Kb)(D:ST.Z3A z F u G L A l1 l2 U):
  uD P w K (.Tuple es ctx pos) (Itz K l1 l2 U) [z,F,u,G,L,A] z (λi h=>Q3 h z F u .none/\ST.IsTri h F (.ref G) (.ref L) (.ref A)/\(∃a b c,ST.IsTri h u a b c)/\h.IsListIter G l1 i/\h.IsListIter L l2 i/\h.IsListIter A U i) where
 mem:=by simp
 obj:=λi h m b O=>by
  obtain⟨p,g,⟨a,c,d,C⟩,r,J,B⟩:=m
  have t:∀{M l k},h.IsListIter M l k->∃o,h.get? M=some o/\∀v,o.data≠.cell v:=λq=>by
   obtain⟨o,e,_,d⟩:=q;exact⟨o,e,λv z=>by rw[d]at z;cases z⟩
  simp only[JN,Kz,or_false]at O;rcases O with e |e |e |e |e |e <;>subst e
  .exact⟨_,p,λv z=>by cases z⟩
  .exact⟨_,g,λv z=>by cases z⟩
  .exact⟨_,C,λv z=>by cases z⟩
  .exact t r
  .exact t J
  .exact t B
 keep:=λi h h' m k=>by
  obtain⟨p,g,⟨a,c,d,C⟩,r,J,B⟩:=m;exact⟨k z (by simp) _ p,k F (by simp) _ g,⟨a,c,d,k u (by simp) _ C⟩,r.at λo e=>k G (by simp) o e,J.at λo e=>k L (by simp) o e,B.at λo e=>k A (by simp) o e⟩
 item:=by
  intro X hP V Z hc i U8 s σ H E I Q m hg;subst hP V Z;obtain⟨p,g,⟨a,b,c,C⟩,r,J,B⟩:=m;obtain⟨xs,ys,zs,x,y,v,S,q2,q3,Y,e2,e3⟩:=hg;obtain⟨n1,r1,W,_⟩:=I.list S;obtain⟨n2,r2,p2,_⟩:=I.list q2;obtain⟨n3,r3,p3,_⟩:=I.list q3;obtain⟨u1,k1,t1⟩:=r1.get Y;obtain⟨u2,k2,t2⟩:=r2.get e2;obtain⟨u3,k3,t3⟩:=r3.get e3;refine ST.next_z3_item D p g C r J B W.isList p2.isList p3.isList (x:=u1) (y:=u2) (v:=u3) (by simpa using k1) (by simpa using k2) (by simpa using k3) λh' a1 a2 a3 a4 a5 a6 a7 R=>?_;refine⟨_,rfl,?_⟩;refine P1 (s:={s with heap:=h' }) a1 λhN b1 T=>?_;have nz:=LX (JU p);have tri:=(T.2 _ nz).trans a6;have fresh:=I.hok.fresh (JR _)
  have nf:s.heap.objs.size ∉ [z,F,u,G,L,A]:=λO=>by
   have f:∀{d o},s.heap.get? d=some o->s.heap.objs.size≠d:=λe=>LX (JU e);have t:∀{M l k},s.heap.IsListIter M l k->s.heap.objs.size≠M:=λq=>by obtain⟨o,e,_⟩:=q;exact f e
   simp only[JN,Kz,or_false]at O;rcases O with e |e |e |e |e |e
   .exact f p e
   .exact f g e
   .exact f C e
   .exact t r e
   .exact t J e
   .exact t B e
  refine⟨.ref s.heap.objs.size,upd H s.heap.objs.size (.tup [x,y,v]),wn (s:=s) (h':=hN) (t':=s.toks) I Q (λd o j e=>?_) (JR _) ⟨by show 3<=sizeLine;decide,[u1,u2,u3],.cons t1 (.cons t2 (.cons t3 .nil)),⟨_,tri,rfl,_,rfl⟩⟩,rfl,
   ⟨_,x,y,v,rfl,fresh,rfl,λzs q=>by rw[I.list_inj q S];exact Y,λzs q=>by rw[I.list_inj q q2];exact e2,λzs q=>by rw[I.list_inj q q3];exact e3⟩,?_,λd j=>?_⟩
  .simp only[JN,Kz,or_false,not_or]at j;obtain⟨d1,d2,d3,d4,d5,d6⟩:=j;exact (T.2 d d1).trans (R d o d1 d3 d4 d5 d6 e)
  .have N:∀d o,d≠z->h'.get? d=some o->hN.get? d=some o:=λd o n e=>(T.2 d n).trans e;exact⟨b1,N _ _ D.TIz (R _ _ D.TIz D.TITO D.TIi1 D.TIi2 D.TIi3 g),⟨_,_,_,N _ _ D.TOz a2⟩,a3.at λo e=>N _ o D.i1z e,a4.at λo e=>N _ o D.i2z e,a5.at λo e=>N _ o D.i3z e⟩
  .rw[aD λe=>nf (by rw[<-e];exact j)];exact (Q d j).1
 done:=by
  intro X hP V Z hc i U8 s σ H E I Q m hg;subst hP V Z;obtain⟨p,g,_,r,_⟩:=m;obtain⟨xs,S,hl⟩:=hg;obtain⟨n1,r1,W,_⟩:=I.list S;have Y:=r1.length;refine ST.next_z3_end (I.ok.hd hc) D.i1z D.l1z p g r W.isList (by simp;lia) λh' R=>⟨rfl,wN (t':=s.toks) I Q λd o j e=>?_⟩
  simp only[JN,Kz,or_false,not_or]at j;exact R d o j.1 j.2.2.2.1 e
 self:=λ_ _ _ _ _ m h=>OY m.1 h
def Yz(K:JI)(J:It)(G:Hp)(xs:List U):Prop:=
 ∀b,aI G b->(∀i,i<xs.length->J.go i b/\∀x d,J.yld i b x d->aI b d/\∃u,xs[i]?=some u/\∀c,(∀a∈c,b a≠none)->aI G (hid b c)->Rp K (hid d c) x u)/\J.stop xs.length b
def EvZ(X:Cx)(d:Hp)(g:List Kb)(c:PSt)(f a:Expr)(xs:List U):Prop:=
 PI X f a λe H R=>∃O,Rs X.K d g c e H O/\∀J b,aI H b->Yz X.K J (hid b O) xs->R J b
section
variable {X:Cx}{H0:Hp}{O0:List Kb}{E:XK}{ps:PSt}{D:PD}{Vk:List Mm}{e f g tg iter:Expr}{es:List Expr}{p pos:Pos}{x y z:U}{xs ys zs us:List U}
noncomputable def ki:List U->List U->List U->List U
 |x::xs,y::ys,z::zs=>.tup [x,y,z]::ki xs ys zs
 |_,_,_=>[]
theorem hV:∀{xs ys zs},xs.length=ys.length->xs.length=zs.length->(ki xs ys zs).length=xs.length
 |[],_,_,_,_=>by simp[ki]
 |_::xs,_::ys,_::zs,h1,h2=>by simp only[ki,JX]at *;rw[hV (by lia) (by lia)]
theorem mQ:∀{xs ys zs}{i:Nat}{a b c},xs[i]?=some a->ys[i]?=some b->zs[i]?=some c->(ki xs ys zs)[i]?=some (.tup [a,b,c])
 |_::xs,_::ys,_::zs,0,a,b,c,h1,h2,h3=>by simp at h1 h2 h3;simp[ki,h1,h2,h3]
 |_::xs,_::ys,_::zs,i+1,a,b,c,h1,h2,h3=>by rw[K9]at h1 h2 h3;rw[ki,K9];exact mQ h1 h2 h3
theorem GJ{ctx Xl}(hg:Gl X "zip")(hm:X.mg "zip"=none)(ha:Ev X H0 O0 ps e x)(hx:x=.lst xs∨x=.scr xs)(hb:Ev X H0 O0 ps f y)(hy:y=.lst ys∨y=.scr ys)(hc:Ev X H0 O0 ps g z)(hz:z=.lst zs∨z=.scr zs)
  (l12:xs.length=ys.length) (l13:xs.length=zs.length) (he:JO [e,f,g] X.env=(false,LD e X.env)::JO [f,g] X.env) (hf:JO [f,g] X.env=(false,LD f X.env)::JO [g] X.env) (hgs:JO [g] X.env=(false,LD g X.env)::JO [] X.env):
  EvZ X H0 O0 ps (.Tuple es ctx Xl) (.Call (.Name "zip" p) [e,f,g] [] pos) (ki xs ys zs):=by
 rintro U8 s σ H Q I ⟨O,R,q⟩;refine Kw (cQ I hg hm mN ?_)
 refine callWith_type1 (thn (bH ha (bH hb (bH hc cU hgs) hf) he pos U8 s σ H (λvs k=>∃v u t,vs=[v,u,t]/\aI H k/\Rp X.K (hid k O) v x/\Rp X.K (hid k O) u y/\Rp X.K (hid k O) t z) I
  ⟨O,R,λv k h r1=>⟨O,R.go h,λu C j r2=>⟨O,(R.go h).go j,λt H3 Y r3=>⟨v,u,t,rfl,(h.trans j).trans Y,(r1.same (aF j)).same (aF Y),r2.same (aF Y),r3⟩⟩⟩⟩) λus h XA=>?_) he (by rw[hf,hgs];rfl)
 obtain⟨vs,k,m,rv,v,u,t,rfl,sm,G,J,S⟩:=XA;obtain⟨w1,w2,w3,rfl,P,Z,ru3⟩:=IM rv;obtain⟨a,E,rfl,B,X5⟩:=qk G hx;obtain⟨b,F,rfl,N,X6⟩:=qk J hy;obtain⟨c,U,rfl,l,n⟩:=qk S hz;cases P;cases Z;cases ru3;obtain⟨ia,ra,Vm,hz1⟩:=m.list (aH.seq B);obtain⟨ib,rb,Vo,X7⟩:=m.list (aH.seq N);obtain⟨ic,rc,r,hz3⟩:=m.list (aH.seq l);have l1:=X5.len;have l2:=X6.len;have l3:=n.len;have al:@LT.lt Nat instLTNat a h.heap.objs.size:=by obtain⟨o,w,_⟩:=Vm.isList;exact JU w
 have bl:@LT.lt Nat instLTNat b h.heap.objs.size:=by obtain⟨o,w,_⟩:=Vo.isList;exact JU w
 have cl:@LT.lt Nat instLTNat c h.heap.objs.size:=by obtain⟨o,w,_⟩:=r.isList;exact JU w
 refine ST.call_z3 Vm.isList Vo.isList r.isList λh' g1 g2 g3 g4 g5 g6 g7 g8=>?_;have D:ST.Z3A (h.heap.objs.size+5) (h.heap.objs.size+3) (h.heap.objs.size+4) h.heap.objs.size (h.heap.objs.size+1) (h.heap.objs.size+2) a b c:=by constructor <;>exact uL (by lia)
 refine OY g1 ?_;have I2:=m.kept (t':=h.toks) g8;refine⟨h.heap.objs.size+5,_,_,_,k,rfl,I2,Eb _ _ _ _ _ _ a b c D,⟨g1,g2,⟨_,_,_,g3⟩,g4,g5,g6⟩,λd hd=>?_,q _ k sm λC j=>?_⟩
 .have ge:h.heap.objs.size<=d:=by
   simp only[JN,Kz,or_false]at hd;rcases hd with e |e |e |e |e |e <;>rw[e]
   .exact Nw _ _
   .exact Nw _ _
   .exact Nw _ _
   .exact JR _
   .exact Nw _ _
   .exact Nw _ _
  exact m.fpOk ge (m.hok.fresh ge)
 .rw[hV l12 l13];refine⟨λi hi=>?_,⟨E,j.seq B,by lia⟩⟩;have h1:i<E.length:=by lia
  have h2:i<F.length:=by lia
  have h3:i<U.length:=by lia
  refine⟨⟨E,F,U,E[i],F[i],U[i],j.seq B,j.seq N,j.seq l,JG h1,JG h2,JG h3⟩,?_⟩;rintro _ H3 ⟨W,M,V,L,rfl,nn,rfl,e1,e2,e3⟩;have A:aI C (upd C W (.tup [M,V,L])):=aO nn _;have m1:xs[i]?=some (xs[i]'(by lia)):=JG (by lia);have m2:ys[i]?=some (ys[i]'(by lia)):=JG (by lia);have m3:zs[i]?=some (zs[i]'(by lia)):=JG (by lia);refine⟨A,_,mQ m1 m2 m3,λO2 hO T=>?_⟩
  have all:Rps X.K (hid (upd C W (.tup [M,V,L])) O2) [M,V,L] [_,_,_]:=
   .cons ((X5.at_ i _ _ (e1 _ (j.seq B)) m1).same (T.trans (aF A))) (.cons ((X6.at_ i _ _ (e2 _ (j.seq N)) m2).same (T.trans (aF A))) (.cons ((n.at_ i _ _ (e3 _ (j.seq l)) m3).same (T.trans (aF A))) .nil))
  exact .tup (SqT.of (bS aG λhp=>hO W hp nn)) all.len all.at_
theorem FK(U:X.calm=true)(V:Ph (Kk X.prog X.w) X.A X.env X.xe)(hi:EvZ X H0 O0 ps tg iter xs)(f:Nat->PSt->Prop)(Z:f 0 ps)
  (hs:∀H0 i x ps,xs[i]?=some x->f i ps->∃c,TgS X H0 O0 tg ps x c/\Ws X H0 O0 E Vk {D with nx:=f (i+1),ct:=f (i+1),bk:=D.nx } c) (hd:∀ps,f xs.length ps->D.nx ps)
  (hf:∀x,KL iter X.env x=pure x:=by intro _;rfl):W1 X H0 O0 E (.For tg iter Vk [] pos) D ps:=by
 have hg:PG X tg λv b H Q=>∃d ps u c,TgS X d O0 tg ps u c/\∃O,Rs X.K d O0 ps b H O/\Rp X.K (hid H O) v u/\∀h g,aI H g->Rs X.K d O0 c h g O->Q h g:=
  λB s b H v u Q I r ⟨d,ps,w,c,t,z⟩=>t B s b H v u Q I r z
 have N:PSs X Vk λj b H=>∃d C c,Ws X d O0 E Vk C c/\Lf X.K d O0 E C j/\∃O,Rs X.K d O0 c b H O:=λB s b H j I ⟨d,C,c,w,z⟩=>w B s b H j I z;refine PS.mono (AH V U hi hg N hf) λj b H ⟨L,O,R⟩=>⟨O,R,λJ d s1 Y=>?_⟩
 have F:=R.go s1;have base:=F.base;refine⟨λi m b H=>m=xs.length-i/\i<=xs.length/\∃ps n,f i ps/\Rs X.K (hid d (O.filter λa=>decide (a ∉ O0))) O0 ps b H n,⟨_,rfl,Kv _,ps,O,Z,F.rebase⟩,?_⟩;rintro i m σ2 H2 ⟨rfl,VP,k,l,M,R2⟩;have seen:=F.seen R2;obtain⟨W,P⟩:=Y H2 (seen.trans aH);by_cases G:i<xs.length
 .obtain⟨g1,g2⟩:=W i G;refine .inr ⟨g1,λh g=>∃ps n,f (i+1) ps/\Rs X.K (hid d (O.filter λa=>decide (a ∉ O0))) O0 ps h g n,λh g z=>⟨xs.length-(i+1),by lia,rfl,G,z⟩,λx T y=>?_⟩;obtain⟨s3,u,S,r⟩:=g2 x T y;obtain⟨c,t,w⟩:=hs (hid d (O.filter λa=>decide (a ∉ O0))) i u k S M;refine⟨_,k,u,c,t,l,R2.go s3,r l R2.dom seen,λh g s' R'=>⟨_,_,c,w,?_,l,R'⟩⟩;exact⟨λp b H O R q=>⟨p,O,q,R⟩,λp b H O R q=>L.nx _ _ _ _ (R.unbase base) q,λp b H O R q=>⟨p,O,q,R⟩,λo q=>(L.rt o q).later base⟩
 .have e:i=xs.length:=by lia
  subst e;exact .inl ⟨P,L.nx _ _ _ _ (R2.unbase base) (hd k M)⟩
theorem CM{α:Type}(st:α->PSt)(Q:Nat->α->Prop)(j:X.calm=true)(e:Ph (Kk X.prog X.w) X.A X.env X.xe)(h:EvZ X H0 O0 ps tg iter xs)(g:∃a,Q 0 a/\SubP (st a) ps)
  (hs:∀H0 i x (a:α),xs[i]?=some x->Q i a->∃c,TgS X H0 O0 tg (st a) x c/\Ws X H0 O0 E Vk {D with nx:=λp=>∃b,Q (i+1) b/\SubP (st b) p,ct:=λp=>∃b,Q (i+1) b/\SubP (st b) p,bk:=D.nx } c)
  (hd:∀a ps,Q xs.length a->SubP (st a) ps->D.nx ps) (hf:∀x,KL iter X.env x=pure x:=by intro _;rfl):W1 X H0 O0 E (.For tg iter Vk [] pos) D ps:=
 FK j e h (λi ps=>∃a,Q i a/\SubP (st a) ps) g (λH0 i x ps k f=>by
  obtain⟨a,q,d⟩:=f;obtain⟨c,t,w⟩:=hs H0 i x a k q;exact⟨c,t.sub d,w⟩) (λps ⟨a,q,d⟩=>hd a ps q d) hf
end
section
variable {κ:Type} [DecidableEq κ]
noncomputable def eY(a:List (κ×V))(k:κ):Option V:=(a.find? λb=>decide (b.1=k)).map (·.2)
noncomputable def jV(b:List (κ×V))(k:κ)(v:V):List (κ×V):=
 if (b.any λa=>decide (a.1=k))=true then b.map (λa=>if a.1=k then (a.1,v) else a) else b++[(k,v)]
theorem mr{k:κ}(e:p.1=k):eY (p::r) k=some p.2:=by simp[eY,Mp,e]
theorem iV{k:κ}(e:¬ p.1=k):eY (p::r) k=eY r k:=by simp[eY,Mp,e]
theorem qB(k:κ):∀a,(a.any λb=>decide (b.1=k))=(eY a k).isSome
 |[]=>rfl
 |p::r=>by
  rw[Nl];by_cases e:p.1=k
  .simp only[mr e,decide_eq_true e,Bool.true_or,Option.isSome_some]
  .rw[iV e,decide_eq_false e,Ug];exact qB k r
theorem kB(Va)(k:κ)(v):(jV Va k v).length<=Va.length+1:=by
 unfold jV;split
 .rw[JK];lia
 .rw[Ko,JX,NM];lia
theorem ig.isSome_eq(r:ig o u):o.isSome=u.isSome:=by
 cases o with
 |none=>cases u with
  |none=>rfl
  |some _=>exact r.elim
 |some _=>cases u with
  |none=>exact r.elim
  |some _=>rfl
theorem KV.val(r:KV Va vs)(k:κ):ig (eY Va k) (OZ vs k):=by
 induction r with
 |nil=>exact True.intro
 | @cons p q i c h t g=>
  obtain⟨d,f⟩:=h;by_cases e:p.1=k
  .have a:=d.symm.trans e;have b:OZ (q::c) k=some q.2:=by simp[OZ,Mp,a]
   rw[mr e,b];exact f
  .have a:¬ q.1=k:=λz=>e (d.trans z);have b:OZ (q::c) k=OZ c k:=by simp[OZ,Mp,a]
   rw[iV e,b];exact g
theorem KV.any(r:KV Va vs)(k:κ):(Va.any λa=>decide (a.1=k))=vs.any λa=>decide (a.1=k):=by
 induction r with
 |nil=>rfl
 |cons h t b=>rw[Nl,Nl,b,h.1]
theorem KV.repl(r:KV Va vs)(k:κ)(c:aM y u):
  KV (Va.map λa=>if a.1=k then (a.1,y) else a) (vs.map λa=>if a.1=k then (a.1,u) else a):=by
 induction r with
 |nil=>exact .nil
 | @cons p q g i h t f=>
  rw[J6,J6];refine .cons ?_ f;obtain⟨b,d⟩:=h;by_cases e:p.1=k
  .rw[if_pos e,if_pos (b.symm.trans e)];exact⟨b,c⟩
  .rw[if_neg e,if_neg (λz=>e (b.trans z))];exact⟨b,d⟩
theorem KV.put(r:KV Va vs)(k:κ)(a:aM y u):KV (jV Va k y) (stored vs k u):=by
 unfold jV stored;rw[r.any k];by_cases e:(vs.any λb=>decide (b.1=k))=true
 .rw[if_pos e,if_pos e];exact r.repl k a
 .rw[if_neg e,if_neg e];exact Paired.snoc r ⟨rfl,a⟩
theorem KV.length(r:KV Va vs):Va.length=vs.length:=Paired.length r
end
theorem wD(r:aM (kV k) u):(cr P w).is k u=true:=by
 cases k with
 |inl i=>obtain⟨t,e⟩:=r;subst e;exact rT P w i t
 |inr x=>obtain⟨t,e⟩:=r;subst e;exact rB P w x t
theorem n5:∀{a}{b},aP (a.map kV) b->ItemsAre (cr P w) a b
 |[],_,r=>by rw[PL]at r;cases r;exact .nil
 |k::a,_,r=>by
  cases r with
  |cons h t=>exact .cons (wD h) (n5 t)
abbrev KT(H:Hp):List (List Key×V)->List (List Key×Kb×J0)->Prop:=Paired λp q=>p.1=q.1/\H q.2.1=some (.tup (p.1.map kV))/\aM p.2 q.2.2
theorem KT.val(r:KT H Va xs)(k):ig (eY Va k) ((UO xs k).map (·.2)):=by
 induction r with
 |nil=>exact True.intro
 | @cons p q i c h t g=>
  obtain⟨d,_,f⟩:=h;by_cases e:p.1=k
  .have a:=d.symm.trans e;have b:UO (q::c) k=some q.2:=by simp[UO,Mp,a]
   rw[mr e,b];exact f
  .have a:¬ q.1=k:=λz=>e (d.trans z);have b:UO (q::c) k=UO c k:=by simp[UO,Mp,a]
   rw[iV e,b];exact g
theorem KT.repl(r:KT H Va xs)(k)(d:aM y u):
  KT H (Va.map λb=>if b.1=k then (b.1,y) else b) (xs.map (putAt k u)):=by
 induction r with
 |nil=>exact .nil
 | @cons p q i j h t g=>
  rw[J6,J6];refine .cons ?_ g;obtain⟨a,c,f⟩:=h;unfold putAt;by_cases e:p.1=k
  .rw[if_pos e,if_pos (a.symm.trans e)];exact⟨a,c,d⟩
  .rw[if_neg e,if_neg (λz=>e (a.trans z))];exact⟨a,c,f⟩
theorem KT.put(r:KT H Va xs)(k)(c:H b=some (.tup (k.map kV)))(a:aM y u):
  KT H (jV Va k y) (storedH xs k b u):=by
 have e:(Va.any λd=>decide (d.1=k))=(UO xs k).isSome:=by
  rw[qB,(r.val k).isSome_eq,Sj]
 unfold jV storedH;rw[e];by_cases q:(UO xs k).isSome=true
 .rw[if_pos q,if_pos q];exact r.repl k a
 .rw[if_neg q,if_neg q];exact Paired.snoc r ⟨rfl,c,a⟩
theorem KT.keeps(r:KT H Va xs)(c:∀b a,H b=some (.tup a)->H' b=some (.tup a)):KT H' Va xs:=
 Paired.mapP r λ_ _ z=>⟨z.1,c _ _ z.2.1,z.2.2⟩
section
variable {P:J2}{w:Kt}{H:Hp}{h:Mf}{a:Kb}
theorem EM(b:HOk P w H h)(e:Rd H a u):cB P w H h a u:=e.ok b
theorem vI(c:HOk P w H h)(e:Rd H a (.dK Va)):Va.length<=sizeLine/\(a==Nc)=false/\∃b,KV Va b/\h.DictOf (cr P w) a b:=
 show cB P w H h a (.dK Va) from EM c e
theorem Hk(c:HOk P w H h)(e:H a=some (.dK Va)):Va.length<=sizeLine/\(a==Nc)=false/\∃b,KV Va b/\h.DictOf (cr P w) a b:=vI c (.inl e)
theorem qo(d:HOk P w H h)(e:H a=some (.tup (ks.map kV))):(QM (cr P w)).is h ks a:=by
 obtain⟨_,f,r,o,c,g,n,b⟩:=(d a _ e);exact⟨o,f.toArray,n,c,g,b,by simpa using n5 r⟩
theorem wP(f:HOk P w H h)(e:Rd H a (.dT Va)):Va.length<=sizeLine/\(a==Nc)=false/\
  ∃c,KT H Va c/\h.DictOfH (QM (cr P w)) a c:=by
 obtain⟨z,y,c,r,o,j,u,i,n,g,v,k⟩:=(EM f e);refine⟨z,y,c,r,o,j,u,i,n,g,v,λx b=>?_,k⟩
 have all:∀{l}{m},KT H l m->∀x∈m,(QM (cr P w)).is h x.1 x.2.1:=by
  intro l m q
  induction q with
  |nil=>intro x b;exact nomatch b
  | @cons p q B A d t s=>
   intro x b;rcases JN.mp b with e |b
   .subst e;exact qo f (by rw[<-d.1];exact d.2.1)
   .exact s x b
 exact all r x b
theorem Hs(c:HOk P w H h)(e:H a=some (.dT Va)):Va.length<=sizeLine/\(a==Nc)=false/\
  ∃b,KT H Va b/\h.DictOfH (QM (cr P w)) a b:=wP c (.inl e)
end
def qj(H:Hp)(a:Kb)(y:V)(r:Option V):Prop:=
 (∃c k,Rd H a (.dK c)/\y=kV k/\r=eY c k)\/∃c k b,Rd H a (.dT c)/\y=.ref b/\H b=some (.tup (k.map kV))/\r=eY c k
def Cg(H:Hp)(a:Kb)(y v:V)(d:Hp):Prop:=
 (∃c k,H a=some (.dK c)/\y=kV k/\c.length<sizeLine/\d=upd H a (.dK (jV c k v)))\/
 ∃c k b,H a=some (.dT c)/\y=.ref b/\H b=some (.tup (k.map kV))/\c.length<sizeLine/\d=upd H a (.dT (jV c k v))
theorem qj.k{k:Key}(e:H a=some (.dK Va)):qj H a (kV k) (eY Va k):=.inl ⟨Va,k,.inl e,rfl,rfl⟩
theorem Cg.k{k:Key}(e:H a=some (.dK Va))(b:Va.length<sizeLine):Cg H a (kV k) v (upd H a (.dK (jV Va k v))):=.inl ⟨Va,k,e,rfl,b,rfl⟩
section
variable {X:Cx}{U8:List (Kb×Obj)}{σ:St}{H:Hp}{s:JY}{a:Kb}{y v:V}{u r:J0}{o:Option V}{A:K7}{E:J0→JY→Prop}
theorem Inv.big(I:Inv X U8 σ H s):Nc<s.heap.objs.size:=by
 have h:=(I.mod.glob.keeps I.bk).lt;exact Ma (by decide) h
theorem xw(r:A.units+1<MA)(I:Inv X U8 σ H s)(g:qj H a y (some v))(n:aM y u)(h:∀c o,Inv X U8 σ H o->aM v c->Q c o):
  Kj (Kk X.prog X.w) A (R8 (.ref a) u) Q E s:=by
 rcases g with ⟨B,k,e,i,l⟩ |⟨B,k,b,e,i,q,l⟩
 .subst i;obtain⟨z,x,D,f,m⟩:=vI I.hok e;obtain⟨c,j,d⟩:=ig.some_of (by rw[l];exact f.val k);exact SQ (wD n) m.mapOf j (h c _ (I.tok _) d)
 .subst i;cases n;obtain⟨z,x,F,f,m⟩:=wP I.hok e;obtain⟨c,j,d⟩:=ig.some_of (by rw[l];exact f.val k);obtain⟨p,t,C⟩:=Ou.mp j;refine wpAny_getItem_heap (PM r) (qo I.hok q) m t ?_;rw[C];exact h c _ (I.tok _) d
theorem Ds(p:A.units+1<MA)(I:Inv X U8 σ H s)(g:qj H a y o)(j:aM y u)(h:∀m,Inv X U8 σ H m->Q (.bool (!o.isSome)) m):
  Kj (Kk X.prog X.w) A (KO .NotIn u (.ref a)) Q E s:=by
 rcases g with ⟨r,k,e,f,l⟩ |⟨r,k,b,e,f,n,l⟩
 .subst f;obtain⟨z,d,t,c,i⟩:=vI I.hok e;refine TV (wD j) d i.mapOf ?_;rw[<-(c.val k).isSome_eq,<-l];exact h _ (I.tok _)
 .subst f;cases j;obtain⟨z,d,v,c,i⟩:=wP I.hok e;refine wpAny_notIn_heap (PM p) (qo I.hok n) d i ?_;have q:=(c.val k).isSome_eq;rw[Sj]at q;rw[<-q,<-l];exact h _ (I.tok _)
theorem wW(I:Inv X U8 σ H s)(e:Mut (H a))(hs:MD a s.heap h')(f:∃q,h'.get? a=some q)(c:cB X.prog X.w (upd H a ob) h' a ob):
  Inv X U8 σ (upd H a ob) {s with heap:=h',toks:=t' }:=
 I.write e (.inl rfl) (λb q d z=>(hs.2 b d).trans z) f c
theorem FS(z:Va.length<=sizeLine)(d:(a==Nc)=false)(c:KV Va vs)(b:h'.DictOf (cr P w) a vs):
  cB P w H' h' a (.dK Va):=⟨z,d,vs,c,b⟩
theorem xI(N:A.units+1<MA)(I:Inv X U8 σ H s)(g:Cg H a y v H')(C:aM y u)(F:aM v r)(h:∀D,Inv X U8 σ H' D->Q () D):
  Kj (Kk X.prog X.w) A (setItem (.ref a) u r) Q E s:=by
 rcases g with ⟨i,k,e,o,l,m⟩ |⟨i,k,b,e,o,B,l,m⟩
 .subst o m;obtain⟨z,n,K,f,x⟩:=Hk I.hok e;have R:K.length<=sizeLine:=by rw[<-f.length];exact z
  have t:(jV i k v).length<=sizeLine:=by have:=kB i k v;lia
  refine wpAny_setItem_pairs (wD C) x λG d p=>h _ ?_;have O:∃q,G.get? a=some q:=let ⟨q,_,_,j,_⟩:=d;⟨q,j⟩;exact wW I (by rw[e];exact True.intro) p O (FS t n (f.put k F) d)
 .subst o m;cases C;obtain⟨z,n,T,f,x⟩:=Hs I.hok e;have R:T.length<=sizeLine:=by rw[<-Paired.length f];exact z
  have t:(jV i k v).length<=sizeLine:=by have:=kB i k v;lia
  refine wpAny_setItem_heap (PM N) (qo I.hok B) x λG d p=>h _ ?_;obtain⟨q,M,S,j,V,L,U,_,P⟩:=d;refine wW I (by rw[e];exact True.intro) p ⟨q,j⟩ ⟨t,n,_,(f.put k B F).keeps λc W J=>?_,q,M,S,j,V,L,U,P⟩;rw[aD (HW J e (λz=>nomatch z))];exact J
end
def xW(i:Expr):Prop:=∀a b,RC i false a b=operate [a,b] (R8 a b)
theorem vT{T j:String} 
  (hl:Rh (.type T) "__getitem__"=pure (some (.builtin j))) (hs:xW slice)
  (h:Kj (Kk prog w) A (LD Vt env) (λo f=>Kj (Kk prog w) A (LD slice env) (λi V7=>V7.TypeIs o T/\Kj (Kk prog w) A (R8 o i) Q E V7) E f) E s):
  Kj (Kk prog w) A (LD (.Subscript Vt slice pos) env) Q E s:=by
 refine R9 (Lo h (λo f b=>Lo b (λi V7 e=>?_) λ_ _ x=>x) λ_ _ x=>x);obtain⟨g,e⟩:=e;refine JH ?_;rw[getitemInPython_of_ne g.not_modules];refine JH (MQ g hl ?_)
 have d:Kj (Kk prog w) A (RC slice false o i) (λr a=>Kj (Kk prog w) A (letTemporaryGo Vt o r >>=λ_=>pure r) Q E a) E V7:=by
  rw[hs o i];exact wpAny_operating (Lo e (λr a c=>JH (wpAny_letTemporaryGo (JM c))) λ_ _ x=>x)
 first
  |exact JM (JH d)
  |exact JH (JM (JH d))
  |exact JH d
theorem rO(I:Inv X U8 σ H s)(g:qj H a y o):s.TypeIs (.ref a) "dict":=by
 rcases g with ⟨d,k,e,_,_⟩ |⟨d,k,b,e,_,_,_⟩
 .obtain⟨_,_,f,_,c⟩:=vI I.hok e;exact c.typeIs
 .obtain⟨_,_,h,_,c⟩:=wP I.hok e;exact c.typeIs
noncomputable def Hr(f d:TE):TE:=λb H Q=>f b H λx e=>d b e λy c=>∃a v,x=.ref a/\qj c a y (some v)/\Q v c
noncomputable def DS(d f:TE):TE:=λb H Q=>d b H λy e=>f b e λx c=>∃a o,x=.ref a/\qj c a y o/\Q (.bl (!o.isSome)) c
noncomputable def IP(i d e:TE):TS:=λD b H=>e b H λv h=>i b h λx f=>d b f λy g=>∃a c,x=.ref a/\Cg g a y v c/\D.nx b c
section
variable {X:Cx}{o i e Vt:Expr}{pos Vq Xl:Pos}{td ty tv:TE}
theorem CS(f:X.A.units+1<MA)(k:PE X o td)(n:PE X i ty)(hs:xW i):PE X (.Subscript o i pos) (Hr td ty):=by
 intro c s b H Q I h;refine vT P3.lookup hs (thn (k c s b H _ I h) λu z ⟨x,B,t,m,q⟩=>thn (n c z b B _ t q) λF C l=>?_);obtain⟨y,r,d,j,a,v,ex,g,w⟩:=l;subst ex;obtain rfl:u=Ku a:=m;exact⟨rO d g,xw f d g j λD E p e=>⟨v,r,p,e,w⟩⟩
theorem yD(d:X.A.units+1<MA)(l:PE X i ty)(f:PE X o td):PC X .NotIn i o (DS ty td):=by
 intro c s b H Q I h;refine thn (l c s b H _ I h) λD v ⟨y,z,q,e,n⟩=>thn (f c v b z _ q n) λu B j=>?_;obtain⟨x,p,w,k,a,t,ex,g,r⟩:=j;subst ex;obtain rfl:u=Ku a:=k;exact Ds d w g e λC m=>⟨.bl (!t.isSome),p,m,rfl,r⟩
theorem DU(e:X.A.units+1<MA)(j:PE X o td)(q:PE X i ty)(k:PE X Vt tv)(hs:Mn Vt (some (.Subscript o i Vq)) pos.line X.env=pure false):
  PS X (.Assign [.Subscript o i Vq] Vt pos) (IP td ty tv):=by
 intro c s b H D I h;refine wpAny_Assign_Subscript (thn (k c s b H _ I h) λr F ⟨v,K,C,w,z⟩=>thn (j c F b K _ C z) λu d ⟨x,B,J,n,E⟩=>thn (q c d b B _ J E) λO N m=>?_) hs;obtain⟨y,L,t,f,a,G,ex,g,l⟩:=m;subst ex;obtain rfl:u=Ku a:=n;exact xI e t g f w λM p=>⟨b,G,p,l⟩
end
theorem By(h:Mf)(a:Nc<h.objs.size):cB P w H (h.push {cls:=.type "dict",data:=.dict #[] }) h.objs.size (.dK []):=
 ⟨Kv _,beq_eq_false_iff_ne.mpr (Ne.symm (Kh a)),[],.nil,U6 h⟩
noncomputable def Fp:TE:=λ_ H Q=>∀p,H p=none->Q (.ref p) (upd H p (.dK []))
section
variable {X:Cx}{pos:Pos}
theorem AE:PE X (.Dict [] [] pos) Fp:=λb s a H Q I h=>
 wpAny_Dict_empty ⟨.ref s.heap.objs.size,_,I.laid (λ_ _ q=>JJ _ q) (JR _) (By s.heap I.big),rfl,h _ (I.hok.fresh (JR _))⟩
end
structure M1(X:Cx)(o:Expr)(m:Str)(Vg:Pos)(e:Expr)(Vc:Pos):Prop where
 base:Lc o m X.env (LD o X.env)=LD o X.env
 few:((Ll Vc (JO [e] X.env)).all (λx=>!x.1) && (Na Vc (LG [] X.env)).all (λx=>x.1.isSome)
  && decide (([e]:List Expr).length+([]:List M7).length+(if ([]:List M7).isEmpty then 0 else 1)<30))=true
 line:(Vg.endLine==Vc.line)=true
 trees:Ll Vc (JO [e] X.env)=[(false,LD e X.env)]
structure M2(X:Cx)(o:Expr)(m:Str)(Vg:Pos)(e f:Expr)(Vc:Pos):Prop where
 base:Lc o m X.env (LD o X.env)=LD o X.env
 few:((Ll Vc (JO [e,f] X.env)).all (λx=>!x.1) && (Na Vc (LG [] X.env)).all (λx=>x.1.isSome)
  && decide (([e,f]:List Expr).length+([]:List M7).length+(if ([]:List M7).isEmpty then 0 else 1)<30))=true
 line:(Vg.endLine==Vc.line)=true
 trees:Ll Vc (JO [e,f] X.env)=[(false,LD e X.env),(false,LD f X.env)]
noncomputable def valU(a:List (Str×U))(x:Str):Option U:=(a.find? λb=>decide (b.1=x)).map (·.2)
noncomputable def dU(b:List (Str×U))(x:Str)(u:U):List (Str×U):=
 if (b.any λa=>decide (a.1=x))=true then b.map (λa=>if a.1=x then (a.1,u) else a) else b++[(x,u)]
section
variable {K:JI}{H H':Hp}{kv:List (Key×V)}{Va:List (Str×U)}{k:Key}{v:V}{x:Str}{u:U}
theorem DkR.nil:DkR K H [] []:=⟨rfl,λi k v x u h=>by simp at h⟩
theorem DkR.cons(e:k=.inr x)(r:Rp K H v u)(h:DkR K H kv Va):DkR K H ((k,v)::kv) ((x,u)::Va):=by
 refine⟨by simp[h.len],λi c d f g a b=>?_⟩;cases i with
 |zero=>simp at a b;obtain⟨rfl,rfl⟩:=a;obtain⟨rfl,rfl⟩:=b;exact⟨e,r⟩
 |succ i=>exact h.at_ i c d f g (by simpa using a) (by simpa using b)
theorem DkR.uncons(h:DkR K H ((k,v)::kv) ((x,u)::Va)):k=.inr x/\Rp K H v u/\DkR K H kv Va:=
 ⟨(h.at_ 0 k v x u rfl rfl).1,(h.at_ 0 k v x u rfl rfl).2,by have:=h.len;simpa using this,λi a c d e b f=>h.at_ (i+1) a c d e (by simpa using b) (by simpa using f)⟩
theorem DkR.ind{p:List (Key×V)->List (Str×U)->Prop}(b:p [] [])(a:∀v x u kv Va,Rp K H v u->DkR K H kv Va->p kv Va->p ((.inr x,v)::kv) ((x,u)::Va)):∀{kv}{Va},DkR K H kv Va->p kv Va
 |[],[],_=>b
 |[],_::_,h=>by have:=h.len;simp at this
 |_::_,[],h=>by have:=h.len;simp at this
 | (k,v)::kv,(x,u)::Va,h=>by
  obtain⟨e,r,t⟩:=h.uncons;subst e;exact a v x u kv Va r t (DkR.ind b a t)
theorem DkR.val(h:DkR K H kv Va)(x:Str):(valU Va x=none/\eY kv (.inr x)=none)\/∃u v,valU Va x=some u/\eY kv (.inr x)=some v/\Rp K H v u:=by
 refine DkR.ind (p:=λkv Va=>(valU Va x=none/\eY kv (.inr x)=none)\/∃u v,valU Va x=some u/\eY kv (.inr x)=some v/\Rp K H v u) (.inl ⟨rfl,rfl⟩) (λv y u kv Va r _ b=>?_) h;by_cases e:y=x
 .subst e;exact .inr ⟨u,v,by simp[valU],by simp[eY],r⟩
 .have c:¬ (Sum.inr y:Key)=.inr x:=λz=>e (by injection z);have a:valU ((y,u)::Va) x=valU Va x:=by simp[valU,Mp,e]
  have d:eY ((Sum.inr y,v)::kv) (Sum.inr x:Key)=eY kv (.inr x):=iV c;rw[a,d];exact b
theorem DkR.some(h:DkR K H kv Va){x:Str}{u:U}(e:valU Va x=some u):∃v,eY kv (.inr x)=some v/\Rp K H v u:=by
 rcases h.val x with ⟨z,_⟩ |⟨d,v,b,c,a⟩
 .rw[z]at e;cases e
 .rw[b]at e;cases e;exact⟨v,c,a⟩
theorem DkR.isSome(h:DkR K H kv Va)(x):(eY kv (.inr x)).isSome=(valU Va x).isSome:=by
 rcases h.val x with ⟨c,a⟩ |⟨f,v,b,d,e⟩
 .rw[c,a];rfl
 .rw[b,d];rfl
theorem DkR.map(h:DkR K H kv Va)(r:Rp K H v u):DkR K H (kv.map λp=>if p.1=(.inr x:Key) then (p.1,v) else p) (Va.map λp=>if p.1=x then (p.1,u) else p):=by
 refine DkR.ind (p:=λkv Va=>DkR K H (kv.map λp=>if p.1=(.inr x) then (p.1,v) else p) (Va.map λp=>if p.1=x then (p.1,u) else p)) DkR.nil (λw y z kv Va b _ a=>?_) h;rw[J6,J6];by_cases e:y=x
 .subst e;rw[if_pos rfl,if_pos rfl];exact .cons rfl r a
 .rw[if_neg λz=>e (by injection z),if_neg e];exact .cons rfl b a
theorem DkR.snoc(h:DkR K H kv Va)(r:Rp K H v u):DkR K H (kv++[(.inr x,v)]) (Va++[(x,u)]):=
 DkR.ind (p:=λkv Va=>DkR K H (kv++[(.inr x,v)]) (Va++[(x,u)])) (DkR.cons rfl r DkR.nil) (λw y z kv Va a _ b=>.cons rfl a b) h
theorem DkR.any(h:DkR K H kv Va)(x):(kv.any λp=>decide (p.1=(.inr x:Key)))=(Va.any λp=>decide (p.1=x)):=
 DkR.ind (p:=λkv Va=>(kv.any λp=>decide (p.1=(.inr x)))=(Va.any λp=>decide (p.1=x))) rfl (λw y z kv Va _ _ a=>by
  rw[Nl,Nl,a];congr 1;by_cases e:y=x
  .subst e;simp
  .rw[decide_eq_false e,decide_eq_false λz=>e (by injection z)]) h
theorem DkR.put(h:DkR K H kv Va)(r:Rp K H v u)(x):DkR K H (jV kv (.inr x) v) (dU Va x u):=by
 unfold jV dU;rw[h.any x];split
 .exact h.map r
 .exact h.snoc r
end
section
variable {X:Cx}{H0:Hp}{O0:List Kb}{E:XK}{ps:PSt}{D:PD}{e:Expr}{pos p:Pos}{u:U}{x n:Str}{w:Bool}{C a d:Kb}{Va:List (Str×U)}{i:Nat}
theorem gD(e:ps[i]?=some (some (.dsk w C a d Va)))(m:Cls X.K C)(l:fR X.K C "lands")(k:X.N[i]?=some x:=by rfl)(g:Vis X.env.scope x:=by first |exact Or.inl rfl |exact Or.inr (Or.inl rfl) |exact Or.inr (Or.inr rfl))
  (hd:(x==("__debug__":Str))=false:=by decide) (VD:(x==("__classdict__":Str))=false:=by decide) (hb:Lc (.Name x p) "lands" X.env (LD (.Name x p) X.env)=LD (.Name x p) X.env:=by rfl):
  PE X (.Attribute (.Name x p) "lands" pos) λb H Q=>∃O,Rs X.K H0 O0 ps b H O∧Q (.ref d) H:=
 PE.mono (FX (d9 k g hd VD) hb) λb H Q h=>by
  obtain⟨O,R,q⟩:=h;obtain⟨v,c,j,n,rfl,o,t,f,r,s⟩:=R.at_ i _ e;exact⟨_,c,a,C,j,_,_,rfl,f,m,l,by simp,q⟩
abbrev pG(X:Cx)(H0:Hp)(O0:List Kb)(ps:PSt)(o:Expr)(d:Kb):Prop:=PE X o λa H Q=>∃O,Rs X.K H0 O0 ps a H O/\Q (.ref d) H
theorem zM(R:Rs X.K H0 O0 ps σ H O)(e:ps[i]?=some (some (.dsk w C a d Va))):∃b,H d=some (.dK b)/\DkR X.K (hid H O) b Va:=by
 obtain⟨v,h,j,b,rfl,g,k,l,f,c⟩:=R.at_ i _ e;exact⟨b,f,c⟩
theorem zI(g:ps[i]?=some (some (.dsk w C a d Va)))(j:pG X H0 O0 ps o d)(f:Ev X H0 O0 ps e (.str n))(x:X.A.units+10<MA)(h:valU Va n=some u)(hs:xW e:=by intro _ _;rfl):Ev X H0 O0 ps (.Subscript o e pos) u:=
 PE.mono (CS (by lia) j f hs) λy H Q ⟨O,R,q⟩=>⟨O,R,O,R,λv l s r=>by
  cases r;obtain⟨t,c,p⟩:=zM (R.go s) g;obtain⟨z,b,m⟩:=p.some h;exact⟨d,z,rfl,by have:=qj.k (k:=.inr n) c;rw[b]at this;exact this,q z l s m⟩⟩
theorem Bf(j:ps[i]?=some (some (.dsk w C a d Va)))(c:pG X H0 O0 ps o d)(g:Ev X H0 O0 ps e (.str n))(p:X.A.units+10<MA)(b:LR .NotIn o=false:=by first |exact j5 _ |with_unfolding_all rfl):Tt X H0 O0 ps (.Compare e [.NotIn] [o] pos) (!(valU Va n).isSome):=
 PT.mono (tP (yD (by lia) g c) b) λl H Q ⟨O,R,q⟩=>⟨O,R,λv f s r=>by
  cases r;obtain⟨m,b,h⟩:=zM (R.go s) j;exact⟨O,R.go s,d,_,rfl,qj.k (k:=.inr n) b,_,rfl,by rw[h.isSome];exact q f s⟩⟩
theorem Rs.wdsk{K:JI}(R:Rs K H0 O0 ps σ H O)(D:ps[i]?=some (some (.dsk true C a d Va)))(B:∀j w C a d Va,ps[j]?=some (some (.dsk w C a d Va))->j=i)(r:DkR K (hid H O) kv WE):
  Rs K H0 O0 (ps.set i (some (.dsk true C a d WE))) σ (upd H d (.dK kv)) O:=by
 obtain⟨v,Q,L,N,rfl,h,x,n,y,Z⟩:=R.at_ i _ D;have G:=(R.new d h).resolve_left (x rfl);have f:hid (upd H d (.dK kv)) O=hid H O:=jC h;refine⟨R.same.put G _,R.old,R.new,λb A z=>?_,by simp[R.len],λj s q=>?_,λj k o m b P U F I=>?_⟩
 .by_cases e:b=d
  .subst e;rw[aG]at z;cases z
  .rw[aD e]at z;exact R.dom b A z
 .rcases bK q with ⟨S,c⟩ |⟨J,c⟩
  .subst S;cases c;exact⟨.ref a,Q,L,kv,rfl,h,x,by rw[aD λz=>by rw[z,y]at n;cases n];exact n,aG,by rw[f];exact r⟩
  .obtain⟨p,k1,g⟩:=R.at_ j s c;refine⟨p,k1,?_⟩;cases s with
   |val u=>exact (show Rp K (hid (upd H d (.dK kv)) O) p u by rw[f];exact g)
   |own o=>
    obtain⟨b,m,X,M,W,l,V⟩:=g;exact⟨b,m,X,M,W,by rw[aD λz=>by rw[z,y]at l;cases l];exact l,by rw[f];exact V⟩
   |pin z u=>exact⟨g.1,by rw[f];exact g.2⟩
   |dsk w2 C2 a2 Y t=>exact absurd (B _ _ _ _ _ _ c).symm J
 .have T:ps[j]?=some (some (.own o)):=by
   rcases bK P with ⟨_,e⟩ |⟨_,z⟩
   .cases e
   .exact z
  have E:ps[k]?=some (some (.own m)):=by
   rcases bK U with ⟨_,e⟩ |⟨_,z⟩
   .cases e
   .exact z
  exact R.inj j k _ _ b T E F I
noncomputable def GO(ps:PSt)(i:Nat):Bool:=(Kr ps.length).all λj=>match ps[j]? with |some (some (.dsk _ _ _ _ _))=>j==i |_=>true
theorem wj(h:GO ps i=true):∀j w C a d Va,ps[j]?=some (some (.dsk w C a d Va))->j=i:=λj w C a d Va e=>by
 have b:=(JV.mp e).1;have:=Nv.mp h j (J_.mpr b);rw[e]at this;exact beq_iff_eq.mp this
theorem F_(f:ps[i]?=some (some (.dsk true C a d Va)))(m:pG X H0 O0 ps o d)(j:Ev X H0 O0 ps e (.str n))(q:Ev X H0 O0 ps Vt u)(x:X.A.units+10<MA)(s:Va.length<sizeLine)(h:D.nx (ps.set i (some (.dsk true C a d (dU Va n u)))))
  (h1:GO ps i=true:=by rfl) (hs:Mn Vt (some (.Subscript o e Vq)) pos.line X.env=pure false:=by rfl):W1 X H0 O0 E (.Assign [.Subscript o e Vq] Vt pos) D ps:=
 PS.mono (DU (by lia) m j q hs) λw y H ⟨L,O,R⟩=>⟨O,R,λv B b l=>⟨O,R.go b,O,R.go b,λk z c p=>by
  cases p;have R2:=R.go (b.trans c);obtain⟨t,r,g⟩:=zM R2 f;exact⟨d,_,rfl,Cg.k (k:=.inr n) r (by rw[g.len];exact s),L.nx _ _ _ O (R2.wdsk f (wj h1) (g.put (l.same (aF c)) n)) h⟩⟩⟩
theorem G7(m:ps[i]?=some (some (.dsk w C a d Va)))(l:Ev X H0 O0 ps e u)(h:D.rt (.dsk d u Va)):W1 X H0 O0 E (.Return (some e) pos) D ps:=
 PS.mono (l0 l) λq x H ⟨L,O,R⟩=>⟨O,R,λv p s r=>by
  have f:=R.go s;obtain⟨z,B,t,g,rfl,k,A,F,n,o⟩:=f.at_ i _ m
  have c:∀b∈d::O0,b∈O:=λb j=>by
   rcases JN.mp j with y |y
   .subst y;exact k
   .exact R.old b y
  exact L.rt _ h v g p f.same n (o.same (aW c)) (r.same (aW c))⟩
end
noncomputable def pO(N:List Str)(w:Bool)(C a d:Kb)(c:List (Str×U))(b:List U):PSt:=some (.dsk w C a d c)::(b.map (λu=>some (.val u))++Kn (N.length-(b.length+1)) none)
noncomputable def spD(K:JI)(w:Bool)(C:Kb)(i:Kb→List (Str×U)→List U→Out→Prop):Sp:=λh H Q E=>∃a j d e g f c O o,h=.ref a::f∧H a=some (.ins C j [("lands",.ref d)])∧H d=some (.dK e)∧(∀b∈O,H b≠none)∧(w=true→d ∉ O)∧
 DkR K (hid H (d::O)) e g/\Rps K (hid H (d::O)) f c/\i d g c o/\n_ K (if w=true then hid H [d] else H) (if w=true then O else d::O) Q E o
variable {pn:List Str}
section
variable {P:J2}{w:Kt}{K:JI}{mg:Str→Option J0}{base:Mf}{N:List Str}{Vd nm:Str}{f:Kb}
theorem jh{st:Mm}(F:Fun K nm Vd st f fd)(S:au N pn (ai st))(x:∀d n g o,Vf d n g o->g.length+1=pn.length)
  (VC:∀l A c s H X E O a d n g o,bu k (A.deeper (Pl Vd (ai st) s.heap.objs.size f l))->Vf d n g o->
   Ws (iP (CXF P w) P w K mg base N Vd (ai st) f l A c s H E) X O E (bA st) ⟨λ_=>o=.val .non,λD=>D=o,λ_=>False,λ_=>False⟩ (pO N own C a d n g)):bV P w K mg base (CXF P w) (k+1) f fd pn (spD K own C Vf):=by
 refine F.okF S (λI H Q E h=>?_) λl A c s H I Q E U h=>?_
 .obtain⟨a,G,d,y,n,M,g,O,o,rfl,_,_,_,_,_,r,u,_⟩:=h;rw[JX,r.len];exact x d n g o u
 .obtain⟨a,G,d,y,n,M,g,O,o,rfl,W,B,Z,T,L,r,u,q⟩:=h;refine⟨_,VC l A c s H (if own=true then hid H [d] else H) E (if own=true then O else d::O) a d n g o U u,⟨λps σ V O' R e=>?_,λ_ _ _ _ _ e=>e.elim,λ_ _ _ _ _ e=>e.elim,λD e=>by subst e;exact q⟩,d::O,?_⟩
  .subst e;exact q .non V R.same .non
  .refine⟨?_,λb t=>?_,λb t=>?_,λb t=>?_,?_,λi sl e=>?_,λi j ys zs b p e2 _ _=>?_⟩
   .cases own
    .exact .refl H
    .exact aH
   .cases own
    .exact t
    .exact JL _ t
   .cases own
    .exact .inl t
    .rcases JN.mp t with z |z
     .subst z;right;show hid H [b] b=none;unfold hid;simp
     .exact .inl z
   .rcases JN.mp t with z |z
    .subst z;rw[B];simp
    .exact Z b z
   .unfold start pO;simp only[JX,Ko,JK,Lj,r.len];lia
   .unfold pO at e;cases i with
    |zero=>
     cases e;refine⟨.ref a,rfl,G,y,rfl,JP,λe=>?_,W,B,L⟩;subst e;exact T rfl
    |succ i=>
     rw[K9]at e;by_cases m:i<g.length
     .rw[JZ (by simpa using m),JQ,JG m]at e
      cases e;obtain⟨v,J,Y⟩:=r.get (JG m);refine⟨v,?_,Y⟩;unfold start;rw[JZ (by simpa [r.len] using m),JQ,K9,J];rfl
     .rw[J3 (by simpa using m),K8]at e
      split at e <;>cases e
   .exfalso
    cases i with
    |zero=>cases p
    |succ i=>
     unfold pO at p;rw[K9]at p;by_cases m:i<g.length
     .rw[JZ (by simpa using m),JQ,JG m]at p
      cases p
     .rw[J3 (by simpa using m),K8]at p
      split at p <;>cases p
end
variable {Vg:Pos}
section
variable {X:Cx}{H0:Hp}{O0:List Kb}{E:XK}{ps WU WR:PSt}{D:PD}{e b:Expr}{es rest:List Expr}{pos p:Pos}{u z:U}{us:List U}{x n m:Str}{w:Bool}{C Cx' a d f:Kb}{Va WE:List (Str×U)}{i k:Nat}{c c':Bool}{fd:MT}{CX:CXT}{Vf:Kb→List (Str×U)→List U→Out→Prop}
theorem Rs.dsk2{K:JI}(R:Rs K H0 O0 ps σ H O)(F:ps[i]?=some (some (.dsk true C a d Va)))(E:∀j w C a d Va,ps[j]?=some (some (.dsk w C a d Va))->j=i)(s:aI (hid H [d]) H2)(g:H2 d=some (.dK kv))(r:DkR K (hid H2 O) kv WE):
  Rs K H0 O0 (ps.set i (some (.dsk true C a d WE))) σ H2 O:=by
 obtain⟨v,T,P,Q,rfl,l,A,p,B,g7⟩:=R.at_ i _ F;have L:=(R.new d l).resolve_left (A rfl);have go:∀b o,b≠d->H b=some o->H2 b=some o:=λb o Y e=>s b o (bS e (by simpa using Y))
 have m:aI (hid H O) (hid H2 O):=λb o e=>by
  obtain⟨t,f⟩:=gR e;exact bS (go b o (λz=>f (z ▸ l)) t) f
 refine⟨λb o e=>go b o (λz=>by rw[z,L]at e;cases e) (R.same b o e),R.old,R.new,λb D z=>?_,by simp[R.len],λj s q=>?_,λj k x us b S W I M=>?_⟩
 .by_cases e:b=d
  .subst e;rw[g]at z;cases z
  .cases WD:H b with
   |none=>exact R.dom b D WD
   |some o=>rw[go b o e WD]at z;cases z
 .rcases bK q with ⟨U,c⟩ |⟨N,c⟩
  .subst U;cases c;exact⟨.ref a,T,P,kv,rfl,l,A,go _ _ (λz=>by rw[z,B]at p;cases p) p,g,r⟩
  .obtain⟨J,k1,h⟩:=R.at_ j s c;refine⟨J,k1,?_⟩;cases s with
   |val u=>exact Rp.same m h
   |own x=>
    obtain⟨b,us,t,f,Z,n,X⟩:=h;exact⟨b,us,t,f,Z,go _ _ (λz=>by rw[z,B]at n;cases n) n,X.same m⟩
   |pin z u=>exact⟨h.1,Rp.same m h.2⟩
   |dsk w2 C2 a2 d2 y=>exact absurd (E _ _ _ _ _ _ c).symm N
 .have V:ps[j]?=some (some (.own x)):=by
   rcases bK S with ⟨_,e⟩ |⟨_,z⟩
   .cases e
   .exact z
  have G:ps[k]?=some (some (.own us)):=by
   rcases bK W with ⟨_,e⟩ |⟨_,z⟩
   .cases e
   .exact z
  exact R.inj j k _ _ b V G I M
theorem Gn(B:ps[i]?=some (some (.dsk w C a d Va)))(T:Cls X.K C)(E:tY X.K C m f)(F:bV X.prog X.w X.K X.mg X.base CX k f fd pn (spD X.K false C Vf))(L:bu k X.A)(c:bX X.K fd pn [])(U:bR CX X E0)(S:EvA X H0 O0 ps (e::es) us)(h:Vf d Va us (.val u))
  (Xf:(m==("lands":Str))=false:=by decide) (hN:X.N[i]?=some x:=by rfl) (hv:Vis X.env.scope x:=by first |exact Or.inl rfl |exact Or.inr (Or.inl rfl) |exact Or.inr (Or.inr rfl)) (hd:(x==("__debug__":Str))=false:=by decide) (VD:(x==("__classdict__":Str))=false:=by decide)
  (VE:JO (e::es) X.env=(false,LD e X.env)::JO es X.env:=by rfl) (VA:(Ll pos (JO es X.env)).any (·.1)=false:=by rfl)
  (ht:LD (.Call (.Attribute (.Name x p) m Vg) (e::es) [] pos) X.env=(do
   let ov <-LD (.Name x p) X.env
   RB Vg.atName
   let (f,first) <-Pf [ov] (Pj ov m pl)
   RJ pos f first (Ll pos (JO (e::es) X.env)) (Na pos (LG [] X.env))):=by rfl):
  Ev X H0 O0 ps (.Call (.Attribute (.Name x p) m Vg) (e::es) [] pos) u:=
 PE.mono (v6 (d9 hN hv hd VD) T E F L c .nil U S VE VA ht) λW H Q G=>by
  obtain⟨O,R,q⟩:=G;obtain⟨v,z,l,o,rfl,t,Y,j,I,M⟩:=R.at_ i _ B;refine⟨_,z,a,l,_,rfl,j,by rw[K5,Xf];rfl,O,R,λg P s r=>?_⟩
  have sub:∀b∈d::O,b∈O:=λb c=>by
   rcases JN.mp c with y |y
   .subst y;exact t
   .exact y
  show spD X.K false C Vf (V.ref a::(g++[])) P Q E0;rw[L5];exact⟨a,l,d,o,Va,g,us,O,.val u,rfl,s _ _ j,s _ _ I,(R.go s).dom,nofun,(M.same (aF s)).same (aW sub),r.same (aW sub),h,λv J n D=>q v J (s.trans n) (D.same (aW λb c=>JL _ c))⟩
def EvK(X:Cx)(H0:Hp)(O0:List Kb)(ps:PSt)(e:Expr)(u:U)(d:PSt):Prop:=
 PE X e λc H Q=>∃O,Rs X.K H0 O0 ps c H O/\∀v a b,Rs X.K H0 O0 d c a b->Rp X.K (hid a b) v u->Q v a
def TtK(X:Cx)(H0:Hp)(O0:List Kb)(ps:PSt)(e:Expr)(b:Bool)(f:PSt):Prop:=
 PT X e λa H Q=>∃O,Rs X.K H0 O0 ps a H O/\∀c d,Rs X.K H0 O0 f a c d->Q b c
def TwK(X:Cx)(H0:Hp)(O0:List Kb)(ps:PSt)(e:Expr)(b:Bool)(f:PSt):Prop:=
 PW X e λa H Q=>∃O,Rs X.K H0 O0 ps a H O/\∀c d,Rs X.K H0 O0 f a c d->Q b c
theorem jK(o:ps[i]?=some (some (.dsk true C a d Va)))(hc:Cls X.K C)(L:tY X.K C m f)(F:bV X.prog X.w X.K X.mg X.base CX k f fd pn (spD X.K true C Vf))(Y:bu k X.A)(c:bX X.K fd pn [])(hx:bR CX X E0)(ha:EvA X H0 O0 ps (e::es) us)(h:Vf d Va us (.dsk d u WE))
  (h1:GO ps i=true:=by rfl) (Xf:(m==("lands":Str))=false:=by decide) (hN:X.N[i]?=some x:=by rfl) (hv:Vis X.env.scope x:=by first |exact Or.inl rfl |exact Or.inr (Or.inl rfl) |exact Or.inr (Or.inr rfl)) (hd:(x==("__debug__":Str))=false:=by decide) (VD:(x==("__classdict__":Str))=false:=by decide)
  (VE:JO (e::es) X.env=(false,LD e X.env)::JO es X.env:=by rfl) (VA:(Ll pos (JO es X.env)).any (·.1)=false:=by rfl)
  (ht:LD (.Call (.Attribute (.Name x p) m Vg) (e::es) [] pos) X.env=(do
   let ov <-LD (.Name x p) X.env
   RB Vg.atName
   let (f,first) <-Pf [ov] (Pj ov m pl)
   RJ pos f first (Ll pos (JO (e::es) X.env)) (Na pos (LG [] X.env))):=by rfl):
  EvK X H0 O0 ps (.Call (.Attribute (.Name x p) m Vg) (e::es) [] pos) u (ps.set i (some (.dsk true C a d WE))):=
 PE.mono (v6 (d9 hN hv hd VD) hc L F Y c .nil hx ha VE VA ht) λσ H Q P=>by
  obtain⟨O,R,q⟩:=P;obtain⟨v,S,t,E,rfl,G,g4,B,T,U⟩:=R.at_ i _ o;refine⟨_,S,a,t,_,rfl,B,by rw[K5,Xf];rfl,O,R,λn Z s r=>?_⟩;have l:d ∉ O.filter (λb=>decide (b≠d)):=λz=>by have:=(KN.mp z).2;simp at this
  have sub:∀b∈d::O.filter (λb=>decide (b≠d)),b∈O:=λb c=>by
   rcases JN.mp c with y |y
   .subst y;exact G
   .exact (KN.mp y).1
  have j:∀b∈O,b∈d::O.filter (λb=>decide (b≠d)):=λb c=>by
   by_cases e:b=d
   .subst e;exact JP
   .exact JL _ (KN.mpr ⟨c,decide_eq_true e⟩)
  show spD X.K true C Vf (V.ref a::(n++[])) Z Q E0;rw[L5];refine⟨a,t,d,E,Va,n,us,O.filter (λb=>decide (b≠d)),.dsk d u WE,rfl,s _ _ B,s _ _ T,λb c=>(R.go s).dom b (KN.mp c).1,λ_=>l,(U.same (aF s)).same (aW sub),r.same (aW sub),h,λv I W D g J M=>?_⟩;exact q v W O ((R.go s).dsk2 o (wj h1) D g (J.same (aW j))) (M.same (aW j))
theorem m9(i:OpS X (KO op) u z (.bl c))(m:EvK X H0 O0 ps e u WU)(g:Ev X H0 O0 WU b z)(k:LR op b=false:=by first |exact j5 _ |with_unfolding_all rfl):TtK X H0 O0 ps (.Compare e [op] [b] pos) c WU:=
 PT.mono (wa i m g k) λn H Q ⟨O,R,q⟩=>⟨O,R,λv o d f h=>⟨d,f,λw l a j=>⟨(h.same (aF a)).out,j.out,_,rfl,q l d (f.go a)⟩⟩⟩
theorem TwK.t(h:TwK X H0 O0 ps e c WU):TtK X H0 O0 ps e c WU:=h.pt
theorem GU(h:TtK X H0 O0 ps e c WU):TwK X H0 O0 ps (.BoolOp .Or [e] pos) c WU:=BB h
theorem HL(g:TtK X H0 O0 ps e false WU)(d:TwK X H0 O0 WU (.BoolOp .Or (b::rest) pos) c WR):TwK X H0 O0 ps (.BoolOp .Or (e::b::rest) pos) c WR:=
 PW.mono (Ch g d) λh H Q ⟨O,R,q⟩=>⟨O,R,λi a f=>by exact mY ⟨a,f,q⟩⟩
theorem wA(c:TtK X H0 O0 ps e false WU)(h:Ws X H0 O0 E fb D WU):W1 X H0 O0 E (.If e tb fb pos) D ps:=
 PS.mono (B9 c (λ_ _ _ _ _ _ h=>h.elim) h (t:=λ_ _ _=>False)) λf d H ⟨L,O,R⟩=>⟨O,R,λg a b=>mY ⟨L,a,b⟩⟩
theorem Di(m:WU[i]?=some (some (.dsk w C a d Va)))(l:EvK X H0 O0 ps e u WU)(h:D.rt (.dsk d u Va)):W1 X H0 O0 E (.Return (some e) pos) D ps:=
 PS.mono (l0 l) λs x H ⟨L,O,R⟩=>⟨O,R,λv q n f r=>by
  obtain⟨z,B,t,g,rfl,k,A,F,o,p⟩:=f.at_ i _ m
  have c:∀b∈d::O0,b∈n:=λb j=>by
   rcases JN.mp j with y |y
   .subst y;exact k
   .exact f.old b y
  exact L.rt _ h v g q f.same o (p.same (aW c)) (r.same (aW c))⟩
end
noncomputable def spI(C:Kb):Sp:=λc H Q _=>∃a b,c=[.ref a]∧H a=some (.ins C b [])∧∀d,H d=none→Q .non (upd (upd H d (.dK [])) a (.ins C b [("lands",.ref d)]))
section
variable {P:J2}{w:Kt}{K:JI}{mg:Str→Option J0}{base:Mf}{N:List Str}{Vd nm sf:Str}{f C:Kb}{p1 p2 p3 p4:Pos}
theorem DF{st:Mm}(F:Fun K nm Vd st f fd)(S:au N pn (ai st))(n:N[0]?=some sf)(c:pn.length=1)(e:bA st=[.Assign [.Attribute (.Name sf p1) "lands" p2] (.Dict [] [] p3) p4])(p:Cls K C)(o:fR K C "lands")
  (hv:(ai st).names.lookup sf=some .local) (hd:(sf==("__debug__":Str))=false:=by decide) (VD:(sf==("__classdict__":Str))=false:=by decide):bV P w K mg base (CXF P w) (k+1) f fd pn (spI C):=by
 refine F.okF S (λl H Q E h=>?_) λm A b s H l Q E r h=>?_
 .obtain⟨a,j,rfl,_⟩:=h;rw[c];rfl
 .obtain⟨a,j,rfl,g,q⟩:=h;rw[e];refine⟨_,Eu (GG (d9 n (.inl hv) hd VD) AE rfl),?_⟩;intro d i;refine⟨.ref a,rfl,a,C,j,[],rfl,?_,p,o,by decide,q d i⟩;rw[aD λz=>by rw[z,i]at g;cases g];exact g
end
variable {Vc:Pos}
section
variable {X:Cx}{H0:Hp}{O0:List Kb}{E:XK}{ps:PSt}{D:PD}{pos p p':Pos}{x nm:Str}{C f:Kb}{i k:Nat}{fd:MT}{CX:CXT}
theorem Rs.newdsk{K:JI}(R:Rs K H0 O0 ps σ H O)(e:aI H H')(n:H d=none)(T:H' a=some (.ins C dx [("lands",.ref d)]))(h:H' d=some (.dK [])):
  Rs K H0 O0 (ps.set i (some (.dsk true C a d []))) (σ.set i (some (.ref a))) H' (d::O):=by
 have N:d ∉ O:=λz=>R.dom d z n;have r:d ∉ O0:=λz=>N (R.old d z);have I:=R.same.free n;refine⟨R.same.trans e,λb f=>JL _ (R.old b f),λb f=>?_,λb f z=>?_,by simp[R.len],λj s q=>?_,λj k D G b m c A E=>?_⟩
 .rcases JN.mp f with y |y
  .subst y;exact .inr I
  .exact R.new b y
 .rcases JN.mp f with y |y
  .subst y;rw[h]at z;cases z
  .exact R.dom b y (e.free z)
 .rcases bK q with ⟨P,p⟩ |⟨L,p⟩
  .subst P;cases p;have B:=aT q;rw[NL]at B;exact⟨.ref a,gi (by rw[R.len];exact B),dx,[],rfl,JP,λ_=>r,T,h,DkR.nil⟩
  .obtain⟨w,m,c⟩:=R.at_ j s p;refine⟨w,by rw[Ki L];exact m,?_⟩;cases s with
   |val u=>exact Rp.same (ba e n) c
   |own D=>
    obtain⟨b,M,k1,x,l,g,o⟩:=c;exact⟨b,M,k1,JL _ x,l,e _ _ g,o.same (ba e n)⟩
   |pin z u=>exact⟨c.1,Rp.same (ba e n) c.2⟩
   |dsk w C b d U=>obtain⟨dx,F,k1,x,l,g,o,S⟩:=c;exact⟨dx,F,k1,JL _ x,l,e _ _ g,e _ _ o,S.same (ba e n)⟩
 .rcases bK m with ⟨_,t⟩ |⟨J,t⟩
  .cases t
  .rcases bK c with ⟨_,v⟩ |⟨Q,v⟩
   .cases v
   .rw[Ki J]at A;rw[Ki Q]at E;exact R.inj j k D G b t v A E
theorem FO(M:Mk X.K C f)(F:bV X.prog X.w X.K X.mg X.base CX k f fd pn (spI C))(I:bu (k+1) X.A)(G:Gl X nm)(s:X.mg nm=some (.ref C))(q:bX X.K fd pn [])(r:bR CX X E0)(J:X.N.Nodup)(v:X.N[i]?=some x)(P:Loc X.env.scope x)
  (h:∀a d,D.nx (ps.set i (some (.dsk true C a d [])))) (VF:(nm==("__debug__":Str))=false:=by decide) (hs:Mn (.Call (.Name nm p) [] [] Vc) (some (.Name x p')) pos.line X.env=pure false:=by rfl)
  (hf:X.fn x=true\/X.env.scope.names.lookup x=some .local:=by first |exact .inl rfl |exact .inr rfl |assumption):W1 X H0 O0 E (.Assign [.Name x p'] (.Call (.Name nm p) [] [] Vc) pos) D ps:=
 PS.mono (uP J v P (yY M F I G s q .nil r VF) hs hf) λQ T H t=>by
  obtain⟨L,O,R⟩:=t;intro a g y l S;refine⟨a,g,rfl,aG,λd c=>⟨rfl,?_⟩⟩;have m:d≠a:=λz=>by rw[z,aG]at c;cases c
  rw[aD m]at c;have j:d≠g:=λz=>by rw[z,aG]at c;cases c
  rw[aD j]at c;refine L.nx _ _ _ (d::O) (R.newdsk (λb o e=>?_) c aG (by rw[aD m];exact aG)) (h a d)
  have n:b≠a:=λz=>by rw[z,y]at e;cases e
  have u:b≠d:=λz=>by rw[z,c]at e;cases e
  have B:b≠g:=λz=>by rw[z,l]at e;cases e
  rw[aD n,aD u,aD n,aD B];exact e
end
def tH(X:Cx)(d:Kb)(vs:List (Str×J0)):Prop:=(d==Nc)=false/\∀h:Mf,X.K.In h->h.DictOf (strKind X.prog X.w) d vs
section
variable {X:Cx}{H0:Hp}{O0:List Kb}{ps:PSt}{e i:Expr}{pos p:Pos}{u:U}{n nm t:Str}{d:Kb}{vs:List (Str×J0)}{tk:Tok}{ty:TE}
theorem EB{t:Tok}:(strKind X.prog X.w).is x (.str x t)=true:=by show Qi x (.str x t)=true;simp[Qi]
theorem CA(f:tH X d vs)(u:Gl X nm)(k:X.mg nm=some (.ref d))(o:PE X i ty)(hs:xW i)(x:(nm==("__debug__":Str))=false:=by decide):PE X (.Subscript (.Name nm p) i pos) λa H Q=>ty a H λy c=>∃n v b,y=.str n∧OZ vs n=some b∧aM v b∧Q v c:=by
 intro r s a H Q I h;refine vT P3.lookup hs (fV I u k (thn (o r s a H _ I h) λA z m=>?_) x);obtain⟨y,c,e,g,n,v,b,j,l,q,w⟩:=m;subst j;obtain⟨t,rfl⟩:=g;exact⟨(f.2 _ e.kIn).typeIs,SQ EB (f.2 _ e.kIn).mapOf l ⟨v,c,e.tok _,q,w⟩⟩
theorem CD(e:tH X d vs)(m:Gl X nm)(j:X.mg nm=some (.ref d))(k:PE X i ty)(q:(nm==("__debug__":Str))=false:=by decide):PC X .NotIn i (.Name nm p) λa H Q=>ty a H λy b=>∃n,y=.str n∧Q (.bl (!(OZ vs n).isSome)) b:=by
 intro l s a H Q I h;refine thn (k l s a H _ I h) λu r ⟨y,b,c,f,n,g,o⟩=>fV c m j ?_ q;subst g;obtain⟨t,rfl⟩:=f;exact TV EB e.1 (e.2 _ c.kIn).mapOf ⟨.bl _,b,c.tok _,rfl,o⟩
theorem Gg(f:tH X d vs)(i:Gl X nm)(b:X.mg nm=some (.ref d))(g:Ev X H0 O0 ps e (.str n))(a:OZ vs n=some (.str t tk))(hs:xW e:=by intro _ _;rfl)(h:(nm==("__debug__":Str))=false:=by decide):Ev X H0 O0 ps (.Subscript (.Name nm p) e pos) (.str t):=
 PE.mono (CA f i b g hs h) λj H Q ⟨O,R,q⟩=>⟨O,R,λv c s r=>by
  cases r;exact⟨n,.str t,_,rfl,a,⟨tk,rfl⟩,q _ c s (.str t)⟩⟩
theorem FA(c:tH X d vs)(i:Gl X nm)(a:X.mg nm=some (.ref d))(g:Ev X H0 O0 ps e (.str n))(h:(nm==("__debug__":Str))=false:=by decide)(f:LR .NotIn (.Name nm p)=false:=by first |exact j5 _ |with_unfolding_all rfl):Tt X H0 O0 ps (.Compare e [.NotIn] [.Name nm p] pos) (!(OZ vs n).isSome):=
 PT.mono (tP (CD c i a g h) f) λj H Q ⟨O,R,q⟩=>⟨O,R,λv b s r=>by
  cases r;exact⟨n,rfl,_,rfl,q b s⟩⟩
end
theorem E9:OpS X (KO .LtE) (.str x) (.str y) (.bl (!decide (y.cps.toList<x.cps.toList))):=by
 intro g s f H v w p q Q I c d h;obtain⟨b,e,a⟩:=h;cases b;cases e;obtain⟨t,rfl⟩:=c;obtain⟨i,rfl⟩:=d;exact PySem.P.le_str ⟨.bl _,H,I,rfl,a⟩
section
variable {X:Cx}{H0:Hp}{O0:List Kb}{ps:PSt}{a:Expr}{x:Str}
theorem yE:MtR X "str.split" (λv c H Q=>∃x,v=.str x∧c=[]∧x.length≤sizeLine∧(Builtin.Str.spaceWords x (x.length+1)).length≤sizeLine∧∀p,H p=none→Q (.ref p) (upd H p (.lst ((Txt.words x).map V.str)))):=by
 intro r s m H v c u A Q I i j h;obtain⟨x,rfl,rfl,k,g,q⟩:=h;obtain⟨t,rfl⟩:=i;cases j;have y:=I.hok.fresh (JR s.heap.objs.size)
 have len:(Txt.words x).length<=sizeLine:=by
  unfold Txt.words;split
  .exact show 1<=sizeLine by decide
  .unfold wordsOf;rw[JK];exact g
 have f:∀l d,l.map (·.1)=Txt.words x→EP X r m Q (.ref s.heap.objs.size) {s with heap:=s.heap.push {cls:=.type "list",data:=.seq (Q9 l).toArray },toks:=d }:=λl d n=>
  ⟨.ref s.heap.objs.size,_,I.laid (λb o z=>JJ _ z) (JR _) (show cB X.prog X.w _ _ _ (.lst ((Txt.words x).map V.str)) from ⟨by rw[JK];exact len,Q9 l,_,by rw[<-n];exact jJ l,JT s.heap rfl⟩),rfl,q _ y⟩
 refine Ox LI rfl Nn (PySem.F.args_str_split_1 ..) (meets_str_split_space x t k g) ?_;by_cases a:(Builtin.Str.spaceWords x (x.length+1)==[(0,x.length)])=true
 .rw[if_pos a];exact f [(x,t)] s.toks (if_pos a).symm
 .rw[if_neg a];have e:Txt.words x=wordsOf x:=if_neg a;rw[<-e,strsFrom_eq];exact f (numbered s.toks (Txt.words x)) _ (TU _ _)
theorem qY(h:Ev X H0 O0 ps a (.str x))(g:x.length≤sizeLine)(f:(Builtin.Str.spaceWords x (x.length+1)).length≤sizeLine)(e:Lc a "split" X.env (LD a X.env)=LD a X.env:=by rfl)(i:(Vg.endLine==Vc.line)=true:=by rfl):
  EvN X H0 O0 ps (.Call (.Attribute a "split" Vg) [] [] Vc) ((Txt.words x).map U.str):=
 PE.mono (y9 Me LI Ot yE h e i) λj H Q ⟨O,R,q⟩=>⟨O,R,λv k b d=>by
  cases d;exact⟨rfl,x,rfl,rfl,g,f,λp c=>q p _ _ (b.trans (aO c _)) (b.free c) aG (mw _)⟩⟩
end
noncomputable def Jn(K:JI)(c d:Kb):It:=
 ⟨λi H=>∃a b x y,SqL K H c a/\SqL K H d b/\a[i]?=some x/\b[i]?=some y,
  λi H u e=>∃p x y,u=.ref p/\H p=none/\e=upd H p (.tup [x,y])/\(∀a,SqL K H c a->a[i]?=some x)/\(∀b,SqL K H d b->b[i]?=some y),
  λi H=>∃a b,SqL K H c a/\SqL K H d b/\a.length<=i⟩
theorem CH{P:J2}{w:Kt}{K:JI}{es:List Expr}{ctx pos}(z B u C F l1 l2:Kb)(D:N9 z B u C F l1 l2):
  uD P w K (.Tuple es ctx pos) (Jn K l1 l2) [z,B,u,C,F] z (λi h=>Q3 h z B u .none/\OO h B (.ref C) (.ref F)/\(∃a b,OO h u a b)/\h.IsListIter C l1 i/\h.IsListIter F l2 i) where
 mem:=by simp
 obj:=λi h j b J=>by
  obtain⟨m,g,⟨a,c,r⟩,p,t⟩:=j
  have L:∀{G l k},h.IsListIter G l k->∃o,h.get? G=some o/\∀v,o.data≠.cell v:=λq=>by
   obtain⟨o,e,_,d⟩:=q;exact⟨o,e,λv z=>by rw[d]at z;cases z⟩
  simp only[JN,Kz,or_false]at J;rcases J with e |e |e |e |e <;>subst e
  .exact⟨_,m,λv z=>by cases z⟩
  .exact⟨_,g,λv z=>by cases z⟩
  .exact⟨_,r,λv z=>by cases z⟩
  .exact L p
  .exact L t
 keep:=λi h U j k=>by
  obtain⟨m,g,⟨a,c,r⟩,p,t⟩:=j;exact⟨k z (by simp) _ m,k B (by simp) _ g,⟨a,c,k u (by simp) _ r⟩,p.at λo e=>k C (by simp) o e,t.at λo e=>k F (by simp) o e⟩
 item:=by
  intro X hP V Z hc i U8 s σ H E I N j hg;subst hP V Z;obtain⟨m,g,⟨a,b,r⟩,p,t⟩:=j;obtain⟨xs,ys,x,y,R,M,Y,e2⟩:=hg;obtain⟨n1,r1,W,_⟩:=I.list R;obtain⟨n2,r2,T,_⟩:=I.list M;obtain⟨u1,k1,t1⟩:=r1.get Y;obtain⟨u2,k2,t2⟩:=r2.get e2;refine Q4 D m g r p t W.isList T.isList (by simpa using k1) (by simpa using k2) λU a1 a2 a3 a4 a5 a6 O=>?_;refine⟨_,rfl,?_⟩;refine P1 a1 λhN b1 S=>?_;have nz:=LX (JU m);have tri:=(S.2 _ nz).trans a5;have fresh:=I.hok.fresh (JR _)
  have nf:s.heap.objs.size ∉ [z,B,u,C,F]:=λJ=>by
   have f:∀{d o},s.heap.get? d=some o->s.heap.objs.size≠d:=λe=>LX (JU e);have L:∀{G l k},s.heap.IsListIter G l k->s.heap.objs.size≠G:=λq=>by obtain⟨o,e,_⟩:=q;exact f e
   simp only[JN,Kz,or_false]at J;rcases J with e |e |e |e |e
   .exact f m e
   .exact f g e
   .exact f r e
   .exact L p e
   .exact L t e
  refine⟨.ref s.heap.objs.size,upd H s.heap.objs.size (.tup [x,y]),wn (s:=s) I N (λd o A e=>?_) (JR _) ⟨by show 2<=sizeLine;decide,[u1,u2],.cons t1 (.cons t2 .nil),⟨_,tri,rfl,_,rfl⟩⟩,rfl,
   ⟨_,x,y,rfl,fresh,rfl,λzs q=>by rw[I.list_inj q R];exact Y,λzs q=>by rw[I.list_inj q M];exact e2⟩,?_,λd A=>?_⟩
  .simp only[JN,Kz,or_false,not_or]at A;obtain⟨d1,d2,d3,d4,d5⟩:=A;exact (S.2 d d1).trans (O d o d1 d3 d4 d5 e)
  .have Q:∀d o,d≠z->U.get? d=some o->hN.get? d=some o:=λd o n e=>(S.2 d n).trans e;exact⟨b1,Q _ _ D.TIz (O _ _ D.TIz D.TITO D.TIi1 D.TIi2 g),⟨_,_,Q _ _ D.TOz a2⟩,a3.at λo e=>Q _ o D.i1z e,a4.at λo e=>Q _ o D.i2z e⟩
  .rw[aD λe=>nf (by rw[<-e];exact A)];exact (N d A).1
 done:=by
  intro X hP V Z hc i U8 s σ H E I N j hg;subst hP V Z;obtain⟨m,g,⟨a,b,r⟩,p,t⟩:=j;obtain⟨xs,ys,R,M,hl⟩:=hg;obtain⟨n1,r1,W,_⟩:=I.list R;obtain⟨n2,r2,T,_⟩:=I.list M;have Y:=r1.length;refine Rq (I.ok.hd hc) D m g r p t W.isList T.isList (.inl (by simp;lia)) λU O=>⟨rfl,wN I N λd o A e=>?_⟩
  exact O d o (by simp_all) (by simp_all) (by simp_all) (by simp_all) e
 self:=λ_ _ _ _ _ j h=>OY j.1 h
section
variable {X:Cx}{H0:Hp}{O0:List Kb}{E:XK}{ps:PSt}{D:PD}{Vk:List Mm}{e f g tg iter:Expr}{es:List Expr}{p pos:Pos}{x y z:U}{xs ys zs us:List U}
noncomputable def fh:List U->List U->List U
 |x::xs,y::ys=>.tup [x,y]::fh xs ys
 |_,_=>[]
theorem nQ:∀{xs ys},xs.length=ys.length->(fh xs ys).length=xs.length
 |[],_,_=>by simp[fh]
 |_::xs,_::ys,h1=>by simp only[fh,JX]at *;rw[nQ (by lia)]
theorem sB:∀{xs ys}{i:Nat}{a b},xs[i]?=some a->ys[i]?=some b->(fh xs ys)[i]?=some (.tup [a,b])
 |_::xs,_::ys,0,a,b,h1,h2=>by simp at h1 h2;simp[fh,h1,h2]
 |_::xs,_::ys,i+1,a,b,h1,h2=>by rw[K9]at h1 h2;rw[fh,K9];exact sB h1 h2
theorem A8{ctx Xl}(hg:Gl X "zip")(hm:X.mg "zip"=none)(ha:Ev X H0 O0 ps e x)(hx:x=.lst xs∨x=.scr xs)(hb:Ev X H0 O0 ps f y)(hy:y=.lst ys∨y=.scr ys)
  (l12:xs.length=ys.length) (he:JO [e,f] X.env=(false,LD e X.env)::JO [f] X.env) (hf:JO [f] X.env=(false,LD f X.env)::JO [] X.env):
  EvZ X H0 O0 ps (.Tuple es ctx Xl) (.Call (.Name "zip" p) [e,f] [] pos) (fh xs ys):=by
 rintro U8 s σ H Q I ⟨O,R,q⟩;refine Kw (cQ I hg hm mN ?_)
 refine callWith_type1 (thn (bH ha (bH hb cU hf) he pos U8 s σ H (λN h=>∃v u,N=[v,u]/\aI H h/\Rp X.K (hid h O) v x/\Rp X.K (hid h O) u y) I
  ⟨O,R,λv h c r1=>⟨O,R.go c,λu n g r2=>⟨v,u,rfl,c.trans g,r1.same (aF g),r2⟩⟩⟩) λus c XA=>?_) he (by rw[hf];rfl)
 obtain⟨N,h,j,rv,v,u,rfl,sm,t,w⟩:=XA;obtain⟨w1,w2,rfl,C,G⟩:=kH rv;obtain⟨a,r,rfl,m,S⟩:=qk t hx;obtain⟨b,k,rfl,l,V⟩:=qk w hy;cases C;cases G;obtain⟨ia,ra,Z,hz1⟩:=j.list (aH.seq m);obtain⟨ib,rb,P,X7⟩:=j.list (aH.seq l);have l1:=S.len;have l2:=V.len;have al:@LT.lt Nat instLTNat a c.heap.objs.size:=by obtain⟨o,B,_⟩:=Z.isList;exact JU B
 have bl:@LT.lt Nat instLTNat b c.heap.objs.size:=by obtain⟨o,B,_⟩:=P.isList;exact JU B
 refine call_zip_2 Z.isList P.isList λh' J g2 g3 g4 g5 g7 g8=>?_;have D:N9 (c.heap.objs.size+4) (c.heap.objs.size+2) (c.heap.objs.size+3) c.heap.objs.size (c.heap.objs.size+1) a b:=by constructor <;>exact uL (by lia)
 refine OY J ?_;have I2:=j.kept (t':=c.toks) g8;refine⟨c.heap.objs.size+4,_,_,_,h,rfl,I2,CH _ _ _ _ _ a b D,⟨J,g2,⟨_,_,g3⟩,g4,g5⟩,λd L=>?_,q _ h sm λn g=>?_⟩
 .have Y:c.heap.objs.size<=d:=by
   simp only[JN,Kz,or_false]at L;rcases L with e |e |e |e |e <;>rw[e] <;>first |exact Nw _ _ |exact JR _
  exact j.fpOk Y (j.hok.fresh Y)
 .rw[nQ l12];refine⟨λi hi=>?_,⟨r,k,g.seq m,g.seq l,by lia⟩⟩;have h1:i<r.length:=by lia
  have h2:i<k.length:=by lia
  refine⟨⟨r,k,r[i],k[i],g.seq m,g.seq l,JG h1,JG h2⟩,?_⟩;rintro _ H3 ⟨F,A,E,rfl,W,rfl,e1,e2⟩;have z:aI n (upd n F (.tup [A,E])):=aO W _;have M:xs[i]?=some (xs[i]'(by lia)):=JG (by lia);have T:ys[i]?=some (ys[i]'(by lia)):=JG (by lia);refine⟨z,_,sB M T,λO2 hO U=>?_⟩
  have all:Rps X.K (hid (upd n F (.tup [A,E])) O2) [A,E] [_,_]:=
   .cons ((S.at_ i _ _ (e1 _ (g.seq m)) M).same (U.trans (aF z))) (.cons ((V.at_ i _ _ (e2 _ (g.seq l)) T).same (U.trans (aF z))) .nil)
  exact .tup (SqT.of (bS aG λhp=>hO F hp W)) all.len all.at_
theorem vj{g:TG}{f:PSt->U->PSt}(V:GOk g X.K is f dom)(F:Rs X.K H0 O0 ps σ H1 O)(Y:Yz X.K J (hid H1 O) xs)(P:ys.length=xs.length)(hz:xs.length<=sizeLine)(W:∀x∈xs,dom x)
  (Xd:∀(i:Nat) x y σ H E Q,xs[i]?=some x->ys[i]?=some y->Rs X.K H0 O0 (f (dA is ps) x) σ H E->(∀v d,aI H d->Rp X.K (hid d E) v y->Q v d)->te σ H Q)
  (Vn:∀a c d,aI H1 d->H1 a=none->d a=some (.lst c)->Rps X.K (hid d (a::O)) c ys->Q (.ref a) d):wo is g te σ Q J H1:=by
 intro l o;refine⟨λi m h=>m=xs.length-i/\i<=xs.length/\aI H1 h/\∃c,h l=some (.lst c)/\c.length=i/\Rps X.K (hid h (l::O)) c (ys.take i),⟨_,rfl,Kv _,aO o _,[],aG,rfl,by rw[OJ];exact .nil⟩,?_⟩;rintro i m h ⟨rfl,hi,n,c,q,D,A⟩;have seen:aI (hid H1 O) (hid h (l::O)):=ba n o;obtain⟨R,G⟩:=Y h (seen.trans aH);by_cases B:i<xs.length
 .obtain⟨S,T⟩:=R i B;refine .inr ⟨S,λx s y=>?_⟩;obtain⟨p,u,C,r⟩:=T x s y;have R2:=((F.mask (is:=is)).hide n o (by rw[q];intro z;cases z)).go p;have L:=p _ _ q;refine V H0 O0 _ _ s (l::O) x u _ (W u (J8 C)) R2 (r (l::O) (λb I z=>by rcases JN.mp I with k |k;(rw[k,q]at z;cases z);exact F.dom b k (n.free z)) seen) λZ N keep=>?_;have hy:ys[i]?=some (ys[i]'(by lia)):=JG _;refine Xd i u _ Z s (l::O) _ C hy N λv H5 t M=>⟨λj w e=>keep j w (gP is σ j w e).2 e,c,t _ _ L,?_,xs.length-(i+1),by lia,rfl,B,((n.trans p).trans t).put o _,c++[v],aG,by simp[D],?_⟩
  .rw[D];lia
  .rw[jC JP,M9,hy];exact ((A.same (aF p)).same (aF t)).snoc (.cons M .nil)
 .have e:i=xs.length:=by lia
  subst e;rw[<-P,MY]at A;exact .inl ⟨G,Vn l c h n o q A⟩
theorem mE{y:Str}{g:TG}{f:PSt->U->PSt}(e:Bool)(T:X.calm=true)(P:X.N.Nodup)(u:X.N[j]?=some y)(A:Loc X.env.scope y)(B:cL X U9 cl is)
  (hi:EvZ X H0 O0 ps tg iter xs) (hg:∀C s H fp,PG (aK X U9 cl C s H fp) tg g) (gk:GOk g X.K is f dom) (Vi:ys.length=xs.length) (hz:xs.length<=sizeLine) (VZ:∀x∈xs,dom x)
  (he:∀C s H fp (i:Nat) (x y:U),xs[i]?=some x->ys[i]?=some y->Ev (aK X U9 cl C s H fp) H0 O0 (f (dA is ps) x) elt y) (h:D.nx (ps.set j (some (if e then .own ys else .val (.lst ys)))))
  (hs:∀x,KL iter X.env x=pure x:=by intro _;rfl)
  (hsw:Mn (.ListComp elt [⟨tg,iter,[],0⟩] U9 pos) (some (.Name y py)) Wz.line X.env=pure true:=by rfl) (hf:X.fn y=true\/X.env.scope.names.lookup y=some .local:=by first |exact .inl rfl |exact .inr rfl |assumption):
  W1 X H0 O0 E (.Assign [.Name y py] (.ListComp elt [⟨tg,iter,[],0⟩] U9 pos) Wz) D ps:=by
 have w:∀C s H fp,PE (aK X U9 cl C s H fp) elt λd H Q=>∃i x y,xs[i]?=some x/\ys[i]?=some y/\∃k,Rs X.K H0 O0 (f (dA is ps) x) d H k/\∀v c,aI H c->Rp X.K (hid c k) v y->Q v c:=
  λC s H fp G F d c Q I ⟨i,x,y,m,o,z⟩=>he C s H fp i x y m o G F d c Q I z
 refine PS.mono (tX T P u A B hi hg w hs hsw hf) λW d H ⟨L,O,R⟩=>⟨O,R,λJ Z l Y=>?_⟩
 refine vj gk (R.go l) Y Vi hz VZ (λi x y d H k Q m o S z=>⟨i,x,y,m,o,k,S,z⟩) λa V c s n q r=>?_;cases e with
 |true=>exact L.nx _ _ _ _ ((R.go l).own s n q r) h
 |false=>
  have M:a ∉ O:=λz=>(R.go l).dom a z n;have p:=r.same (aW λb t=>JL a t);exact L.nx _ _ _ _ (((R.go l).go s).set (.lst (bS q M) p.len p.at_)) h
end
noncomputable def FR(a:Params)(e:Str×Tok×Str×Tok):DictEntry:={hash:=PyData.keyHash a e.1,key:=.str e.1 e.2.1,val:=.str e.2.2.1 e.2.2.2 }
def q0(w:Kt)(K:JI)(d:Kb)(vs:List (Str×Str)):Prop:=
 (d==Nc)=false∧∃(a:List (Str×Tok×Str×Tok)) (n:Nat),vs=a.map (λe=>(e.1,e.2.2.1))∧(vs.map (·.1)).Nodup∧K.lookup d=some ⟨.type "dict",none,.dict (a.map (FR w.params)).toArray n,#[]⟩
noncomputable def gu(vs:List (Str×Str))(x:Str):Option Str:=(vs.find? λa=>decide (a.1=x)).map (·.2)
section
variable {X:Cx}{H0:Hp}{O0:List Kb}{ps:PSt}{e:Expr}{pos p:Pos}{n nm t:Str}{d:Kb}{vs:List (Str×Str)}
theorem mT:∀a:List (Str×Tok×Str×Tok),Pairs (strKind prog w) (a.map (FR w.params)) (a.map λe=>(e.1,SY e.2.2.1 e.2.2.2))
 |[]=>Pairs.nil
 |e::r=>Pairs.cons (strKind_is prog w e.1 e.2.1) rfl (mT r)
theorem q0.dict(h:q0 X.w X.K d vs):∃c,tH X d c/\∀x,(∀t,gu vs x=some t->∃j,OZ c x=some (.str t j))/\(OZ c x).isSome=(gu vs x).isSome:=by
 obtain⟨i,a,m,rfl,f,g⟩:=h;refine⟨a.map λe=>(e.1,SY e.2.2.1 e.2.2.2),⟨i,λh b=>?_⟩,λx=>?_⟩
 .refine Heap.dictOf_iff.mpr ⟨_,b _ _ g,(a.map (FR X.w.params)).toArray,m,⟨rfl,rfl,rfl⟩,rfl,λe k=>?_,mT a,by rw[Ka]at f |-;exact f⟩;obtain⟨q,_,rfl⟩:=JS.mp (List.mem_toArray.mp k);exact⟨q.1,strKind_is _ _ q.1 q.2.1,rfl⟩
 .clear f g
  induction a with
  |nil=>exact⟨λt h=>(by simp[gu]at h),rfl⟩
  |cons e r l=>
   unfold OZ gu at *;rw[J6,J6,Mp,Mp];by_cases z:e.1=x
   .simp only[z,decide_true];exact⟨λt h=>⟨e.2.2.2,by simp at h;simp[h]⟩,rfl⟩
   .simp only[z,decide_false];exact l
theorem Fe(h:q0 X.w X.K d vs)(f:Gl X nm)(b:X.mg nm=some (.ref d))(g:Ev X H0 O0 ps e (.str n))(a:gu vs n=some t)(hs:xW e:=by intro _ _;rfl)(i:(nm==("__debug__":Str))=false:=by decide):Ev X H0 O0 ps (.Subscript (.Name nm p) e pos) (.str t):=by
 obtain⟨l,c,q⟩:=h.dict;obtain⟨k,j⟩:=(q n).1 t a;exact Gg c f b g j hs i
theorem zN(h:q0 X.w X.K d vs)(i:Gl X nm)(a:X.mg nm=some (.ref d))(f:Ev X H0 O0 ps e (.str n))(g:(nm==("__debug__":Str))=false:=by decide)(b:LR .NotIn (.Name nm p)=false:=by first |exact j5 _ |with_unfolding_all rfl):Tt X H0 O0 ps (.Compare e [.NotIn] [.Name nm p] pos) (!(gu vs n).isSome):=by
 obtain⟨j,c,q⟩:=h.dict;rw[<-(q n).2];exact FA c i a f g b
end
theorem jW(h:PySem.Runs M Γ p t fs s e s'):s.toks<=s'.toks:=by
 have a:∀(s:JY) g x,(s.setGen g x).toks=s.toks:=λ_ _ _=>rfl
 induction h <;>(try simp only[a]at *) <;>first |lia | (dsimp only at *;lia)
theorem uI(h:Wakes M Γ p g r s res s'):s.toks<=s'.toks:=by
 unfold Wakes at h;split at h
 .exact h.elim
 .split at h
  .obtain⟨e,b,a,_,_,rfl⟩:=h;have:=jW a;exact this
  .rw[h.2];exact JR _
  .rw[h.2];exact JR _
 .obtain⟨e,b,a,_,_,rfl⟩:=h;have:=jW a;exact this
 .rw[h.2];exact JR _
 .rw[h.2];exact JR _
theorem Ef{α:Type}(n)(t:Sem α):∀Q E p s,n<=s.toks->Sem.wp M Γ t Q E p s->Sem.wp M Γ t (λa p i=>Q a p i/\n<=i.toks) (λa p i=>E a p i/\n<=i.toks) p s:=by
 induction t with
 |pure a=>intro Q E p s b h;rw[Sem.wp]at *;exact⟨h,b⟩
 |raise a=>intro Q E p s b h;rw[Sem.wp]at *;exact⟨h,b⟩
 |unsupported _=>intro Q E p s b h;rw[Sem.wp]at h;exact h.elim
 |finish _=>intro Q E p s b h;rw[Sem.wp]at h;exact h.elim
 |rule _ k d=>intro Q E p s b h;rw[Sem.wp]at *;exact d _ _ _ _ _ b h
 | «at» _ k d=>intro Q E p s b h;rw[Sem.wp]at *;exact d _ _ _ _ _ b h
 |load a _ k d=>intro Q E p s b h;rw[Sem.wp]at *;obtain⟨o,e,h⟩:=h;exact⟨o,e,d _ _ _ _ _ b h⟩
 |update a _ f k d=>intro Q E p s b h;rw[Sem.wp]at *;exact⟨h.1,d _ _ _ _ _ b h.2⟩
 |alloc o k d=>intro Q E p s b h;rw[Sem.wp]at *;exact d _ _ _ _ _ b h
 |loadIfAlive a k d=>intro Q E p s b h;rw[Sem.wp]at *;exact d _ _ _ _ _ b h
 |point _ k d=>intro Q E p s b h;rw[Sem.wp]at *;exact d _ _ _ _ _ b h
 |register _ _=>intro Q E p s b h;rw[Sem.wp]at h;exact h.elim
 |fresh k d=>intro Q E p s b h;rw[Sem.wp]at *;exact d _ _ _ _ _ (Nat.le_succ_of_le b) h
 |ask k d=>intro Q E p s b h;rw[Sem.wp]at *;exact d _ _ _ _ _ b h
 |choose u m k d=>intro Q E p s b h;rw[Sem.wp]at *;exact⟨h.1,d _ _ _ _ _ b h.2⟩
 |os q l k d=>intro Q E p s b h;rw[Sem.wp]at *;exact d _ _ _ _ _ b h
 |call c v g l k d=>intro Q E p s b h;rw[Sem.wp]at *;obtain⟨r,i,j,h⟩:=h;exact⟨r,i,j,d _ _ _ _ _ (KH b (jW j)) h⟩
 |handled own k d=>intro Q E p s b h;rw[Sem.wp]at *;exact d _ _ _ _ _ b h
 |newGen c k d=>intro Q E p s b h;rw[Sem.wp]at *;exact d _ _ _ _ _ b h
 |genState g k d=>intro Q E p s b h;rw[Sem.wp]at *;obtain⟨o,e,h⟩:=h;exact⟨o,e,d _ _ _ _ _ b h⟩
 |resume g r l k d=>intro Q E p s b h;rw[Sem.wp]at *;obtain⟨o,i,e,h⟩:=h;exact⟨o,i,e,d _ _ _ _ _ (KH b (uI e)) h⟩
 |yield _ _ _ _=>intro Q E p s b h;rw[Sem.wp]at h;exact h.elim
 |stack k d=>intro Q E p s b h;rw[Sem.wp]at *;exact d _ _ _ _ _ b h
 |fork _ _=>intro Q E p s b h;rw[Sem.wp]at h;exact h.elim
 |thread k d=>intro Q E p s b h;rw[Sem.wp]at *;exact d _ _ _ _ _ b h
 |await _ _ _ _ _=>intro Q E p s b h;rw[Sem.wp]at h;exact h.elim
theorem mU{α:Type}{t:Sem α}{Q:α->JY->Prop}(c:n<=s.toks)(h:Kj M A t Q E s):Kj M A t (λa b=>Q a b/\n<=b.toks) (λe b=>E e b/\n<=b.toks) s:=
 λd p f=>Ef n t _ _ p s c (h d p f)
theorem Dv{α:Type}{t:Sem α}{Q c:α->JY->Prop}(d:n<=s.toks)(h:Kj M A t Q E s)(e:∀a b,n<=b.toks->Q a b->c a b):Kj M A t c E s:=Lo (mU d h) (λa b z=>e a b z.2 z.1) λ_ _ x=>x.1
def PEt(X:Cx)(e:Expr)(t:TE):Prop:=∀(b:List (Kb×Obj)) (s:JY) (a:St) (H:Hp) (Q:VK),1<=s.toks->Inv X b a H s->t a H Q->Kj (Kk X.prog X.w) X.A (LD e X.env) (EP X b a Q) X.xe s
def PE1(X:Cx)(e:Expr)(t:TE):Prop:=∀(c:List (Kb×Obj)) (s:JY) (a:St) (H:Hp) (Q:VK),Inv X c a H s->t a H Q->Kj (Kk X.prog X.w) X.A (LD e X.env) (λu b=>EP X c a Q u b/\1<=b.toks) X.xe s
def PA1(X:Cx)(f:List Expr)(t:TA):Prop:=∀(b:Pos) (d:List (Kb×Obj)) (s:JY) (a:St) (H:Hp) (Q:List V->Hp->Prop),Inv X d a H s->t a H Q->Kj (Kk X.prog X.w) X.A (spliced (Ll b (JO f X.env))) (λe c=>AP X d a Q e c/\1<=c.toks) X.xe s
def o4(X:Cx)(st:Mm)(t:TS):Prop:=∀(b:List (Kb×Obj)) (s:JY) (a:St) (H:Hp) (D:nL),1<=s.toks->Inv X b a H s->t D a H->Kj (Kk X.prog X.w) X.A (exec st X.env) (SP X b D) X.xe s
def kJ(X:Cx)(st:List Mm)(t:TS):Prop:=∀(b:List (Kb×Obj)) (s:JY) (a:St) (H:Hp) (D:nL),1<=s.toks->Inv X b a H s->t D a H->Kj (Kk X.prog X.w) X.A (execs st X.env) (SP X b D) X.xe s
def PIt(X:Cx)(d a:Expr)(e:TI):Prop:=∀(c:List (Kb×Obj)) (s:JY) (b:St) (H:Hp) (R:It->Hp->Prop),1<=s.toks->Inv X c b H s->e b H R->Kj (Kk X.prog X.w) X.A (LD a X.env) (λv f=>Kj (Kk X.prog X.w) X.A (Sq v) (PIE X c b d R) X.xe f) X.xe s
structure eu(P:J2)(w:Kt)(K:JI)(mg:Str->Option J0)(base:Mf)(CX:CXT)(k:Nat)(f:Kb)(fd:MT)(ps:List Str)(sp:Sp):Prop where
 len:∀vs H Q E,sp vs H Q E->vs.length=ps.length
 run:∀(A:K7) (outer:List Env) (s:JY) (H:Hp) (args:Args) (us:List J0) (vs:List V) (Q:VK) (E:XK),1<=s.toks->bu k A->mJ P w K mg base A outer s H->S4 s fd args (ps.zip us)->aP vs us->sp vs H Q E->
  NY (Kk P w) A (.call (.ref f) args) (CR CX outer P w H s Q E) s
theorem eu.mono{K:JI}(F:eu P w K mg base CX j f fd ps sp)(h:j<=k):eu P w K mg base CX k f fd ps sp:=
 ⟨F.len,λA a s H b c d Q E g e=>F.run A a s H b c d Q E g (e.mono h)⟩
theorem y6{α:Type}{t:Sem α}{Q:α->JY->Prop}(c:n<=s.toks)(h:Kj M A t (λa b=>n<=b.toks->Q a b) E s):Kj M A t Q E s:=Dv c h λ_ _ k q=>q k
theorem PEt.mono(h:PEt X e t)(m:∀a H Q,t' a H Q->t a H Q):PEt X e t':=λb s a H Q k I q=>h b s a H Q k I (m a H Q q)
theorem PE1.mono(h:PE1 X e t)(m:∀a H Q,t' a H Q->t a H Q):PE1 X e t':=λb s a H Q I q=>h b s a H Q I (m a H Q q)
theorem PA1.mono(h:PA1 X e t)(m:∀a H Q,t' a H Q->t a H Q):PA1 X e t':=λb c s a H Q I q=>h b c s a H Q I (m a H Q q)
theorem o4.mono(h:o4 X e t)(m:∀D a H,t' D a H->t D a H):o4 X e t':=λb s a H D k I q=>h b s a H D k I (m D a H q)
theorem kJ.mono(h:kJ X e t)(m:∀D a H,t' D a H->t D a H):kJ X e t':=λb s a H D k I q=>h b s a H D k I (m D a H q)
theorem PIt.mono(h:PIt X tg e t)(m:∀a H Q,t' a H Q->t a H Q):PIt X tg e t':=λb s a H Q k I q=>h b s a H Q k I (m a H Q q)
section
variable {X:Cx}{CX:CXT}{k:Nat}{f C:Kb}{fd:MT}{ps:List Str}{sp:Sp}{VY:List V}{ds:List J0}{E:XK}{x m:Str}{p pos:Pos}{e o:Expr}{es:List Expr}{ta te:TE}{t:TA}{st:Mm}{rest:List Mm}{tS u:TS}
theorem FW{x j pos}:PE1 X (.Constant (.str x) j pos) (tC (.str x)):=λ_ s _ H _ I h=>Oi ⟨⟨.str x,H,I.tok _,⟨_,rfl⟩,h⟩,Nat.le_add_left 1 s.toks⟩
theorem BR(q:PE1 X e te)(j:PA X es t)(hs:JO (e::es) X.env=(false,LD e X.env)::JO es X.env:=by rfl):PA1 X (e::es) (EJ te t):=by
 intro pos b s a H Q I h;rw[hs];refine Mq (thn (q b s a H _ I h) λu o f=>?_);obtain⟨⟨x,r,k,c,g⟩,k1⟩:=f;exact Dv k1 (j pos b o a r _ k g) λw v m ⟨n,i,p,d,l⟩=>⟨⟨x::n,i,p,.cons c d,l⟩,m⟩
theorem vK(F:eu X.prog X.w X.K X.mg X.base CX k f fd ps sp)(g:bu k X.A)(d:bX X.K fd ps ds)(l:aP VY ds)(j:bR CX X E)
  (hk1:1<=s.toks) (I:Inv X U8 σ H s) (r:aP vs us) (h:sp (vs++VY) H Q E):Kj (Kk X.prog X.w) X.A (call (.ref f) us) (EP X U8 σ Q) X.xe s:=by
 have b:=r.append l;have i:(us++ds).length=ps.length:=by rw[<-b.length];exact F.len _ _ _ _ h
 refine Rf (NJ (F.run X.A X.stack s H ⟨us,[]⟩ (us++ds) (vs++VY) Q E hk1 g I.env0 (d s us I.kIn i) b h) λr c a=>?_);cases r with
 |error e=>exact j U8 σ H s e c I a
 |ok fl=>
  cases fl with
  |ret u=>exact I.after a
  |next=>exact False.elim a
  |brk=>exact False.elim a
  |cont=>exact False.elim a
theorem q_(F:eu X.prog X.w X.K X.mg X.base CX k f fd ps sp)(l:bu k X.A)(j:Gl X x)(d:X.mg x=some (.ref f))(m:LK X.K (.ref f)=true)(b:bX X.K fd ps ds)(c:aP VY ds)(n:bR CX X E)
  (ha:PA1 X (e::es) t) (VF:(x==("__debug__":Str))=false:=by decide) (he:JO (e::es) X.env=(false,LD e X.env)::JO es X.env:=by rfl) (VA:(Ll pos (JO es X.env)).any (·.1)=false:=by rfl):
  PE X (.Call (.Name x p) (e::es) [] pos) (Bu sp VY E t):=by
 intro i s g H Q I h;refine Kw (fV I j d ?_ VF);refine ND I.ok.mod.kin m (thn (ha pos i s g H _ I h) λu v ⟨⟨o,y,a,r,q⟩,k1⟩=>⟨a.kIn,?_⟩) he VA;exact vK F l b c n k1 a r q
theorem Bm(F:eu X.prog X.w X.K X.mg X.base CX k f fd ps sp)(l:bu k X.A)(j:Gl X x)(d:X.mg x=some (.ref f))(n:LK X.K (.ref f)=true)(b:bX X.K fd ps ds)(c:aP VY ds)(o:bR CX X E)
  (ha:PA X (e::es) t) (VF:(x==("__debug__":Str))=false:=by decide) (he:JO (e::es) X.env=(false,LD e X.env)::JO es X.env:=by rfl) (VA:(Ll pos (JO es X.env)).any (·.1)=false:=by rfl):
  PEt X (.Call (.Name x p) (e::es) [] pos) (Bu sp VY E t):=by
 intro i s g H Q m I h;refine Kw (fV I j d ?_ VF);refine ND I.ok.mod.kin n (Dv m (ha pos i s g H _ I h) λv y k1 ⟨u,z,a,r,q⟩=>⟨a.kIn,?_⟩) he VA;exact vK F l b c o k1 a r q
theorem En(p:PE X o ta)(c:Cls X.K C)(b:tY X.K C m f)(F:bV X.prog X.w X.K X.mg X.base CX k f fd ps sp)(G:bu k X.A)(n:bX X.K fd ps ds)(v:aP VY ds)(P:bR CX X E)(N:PA1 X (e::es) t)
  (VE:JO (e::es) X.env=(false,LD e X.env)::JO es X.env:=by rfl) (VA:(Ll pos (JO es X.env)).any (·.1)=false:=by rfl)
  (ht:LD (.Call (.Attribute o m Vg) (e::es) [] pos) X.env=(do
   let ov <-LD o X.env
   RB Vg.atName
   let (f,first) <-Pf [ov] (Pj ov m pl)
   RJ pos f first (Ll pos (JO (e::es) X.env)) (Na pos (LG [] X.env))):=by rfl):
  PE1 X (.Call (.Attribute o m Vg) (e::es) [] pos) (Fj C m sp VY E ta t):=by
 intro g s d H Q I h;refine QP (thn (p g s d H _ I h) λu M y=>?_) ht;obtain⟨x,O,i,B,a,S,fs,ex,D,l,q⟩:=y;subst ex;obtain rfl:u=Ku a:=B;refine lK i D c b l ?_;refine ND I.ok.mod.kin b.kp (thn (N pos g M d O _ i q) λU R ⟨⟨vs,T,j,r,J⟩,L⟩=>⟨j.kIn,?_⟩) VE VA;exact Lo (mU L (vf (vs:=.ref a::vs) F G n v P j (.cons rfl r) J)) (λ_ _ z=>z) λ_ _ z=>z.1
theorem C0(g:PEt X e te):o4 X (.Return (some e) pos) (Hx te):=by
 intro d s a H D b I h;exact R0 (thn (g d s a H _ b I h) λv k ⟨x,i,j,c,f⟩=>⟨x,a,i,j,c,f⟩)
theorem EA(m:X.N.Nodup)(d:X.N[i]?=some x)(p:Loc X.env.scope x)(a:PEt X e te)(hs:Mn e (some (.Name x Vq)) pos.line X.env=pure false:=by rfl)(q:X.fn x=true\/X.env.scope.names.lookup x=some .local:=by first |exact .inl rfl |exact .inr rfl |assumption):
  o4 X (.Assign [.Name x Vq] e pos) (Cp te (lZ i)):=by
 intro g s f H D l I h;refine R5 (thn (a g s f H _ l I h) λv t c=>?_) hs;obtain⟨y,o,k,b,j⟩:=c;exact gW k m d p b (λr n=>⟨_,o,n,j⟩) q
theorem yG(g:o4 X st tS)(k:PSs X rest u)   :kJ X (st::rest) (GX tS u):=by
 intro a s c H D b I h;refine OU (thn (g a s c H {D with nx:=u D } b I h) λf e q=>?_);cases f with
 |next=>
  obtain⟨i,j,d,q⟩:=q;exact k a e i j D d q
 |ret v=>exact q
 |brk=>exact q
 |cont=>exact q
theorem xD(g:PS X st tS)(k:kJ X rest u)   :kJ X (st::rest) (GX tS u):=by
 intro a s c H D b I h;refine OU (Dv b (g a s c H {D with nx:=u D } I h) λf e k1 q=>?_);cases f with
 |next=>
  obtain⟨i,j,d,q⟩:=q;exact k a e i j D k1 d q
 |ret v=>exact q
 |brk=>exact q
 |cont=>exact q
end
theorem FH{K:JI}{G O D B c F X:J0} 
  (lk:K.lookup f=some ⟨X,od,.func (NK name Vd params Vk U9 G O D B an c F),XJ⟩) (VD:PV K c Vd=true) (S:au N ps U9)
  (len:∀d H Q E,sp d H Q E->d.length=ps.length)
  (VC:∀A a s H d Q E,bu k (A.deeper (Pl Vd U9 s.heap.objs.size f c))->sp d H Q E->
   ∃t,kJ (iP CX P w K mg base N Vd U9 f c A a s H E) Vk t/\t {nx:=λ_ g=>Q .non g,rt:=Q } (start N d) H):
  eu P w K mg base CX (k+1) f (NK name Vd params Vk U9 G O D B an c F) ps sp:=by
 refine⟨len,λA a s H T us d Q E k0 z i U r C=>?_⟩;have Z:=len _ _ _ _ C;have M:=i.mod.kin.keeps λb o e=>(i.bs b o e).1;have l:=i.mod.nolimit.keeps λb o e=>(i.bs b o e).1
 have Xm:∀y∈ps.zip us,U9.names.lookup y.1=some .local\/(U9.names.lookup y.1=some .cell/\((RK (s.heap.objs.size+1) U9.names []).lookup y.1).isSome=true):=λ⟨n,v⟩ hy=>by
  rcases S.par n (Pk hy).1 with q |q
  .exact .inl q
  .exact .inr ⟨q,Ny _ _ _ (.inl q)⟩
 refine QQ z.depth (M _ _ lk) rfl S.co S.gen rfl (RL M VD) (U _ _ _ _ ?_);refine y6 k0 ?_;refine Pu S.kind Xm λenv W R x k1=>?_;subst W;refine⟨l.keeps x.toInCall.keep,codeAny_func ?_⟩;obtain⟨t,ht,Y⟩:=VC A a s H d Q E (z.deeper _) C;have I:Inv (iP CX P w K mg base N Vd U9 f c A a s H E) [] (start N d) H R:=oB S z.hd i Z r x;refine Lo (ht [] R (start N d) H _ k1 I Y) (λfl m h=>?_) λe m h=>h
 have L:∀{j}{g}{v}{u},Inv (iP CX P w K mg base N Vd U9 f c A a s H E) [] j g m->aM v u->Q v g->CE a P w H s Q u m:=
  λ{j g v u} J p q=>⟨v,g,J.os,J.bare,J.base,J.hok,p,q⟩
 cases fl with
 |ret u=>
  obtain⟨v,j,g,J,p,q⟩:=h;exact L J p q
 |next=>
  obtain⟨j,g,J,q⟩:=h;exact L (v:=V.non) J rfl q
 |brk=>
  obtain⟨_,_,_,q⟩:=h;exact False.elim q
 |cont=>
  obtain⟨_,_,_,q⟩:=h;exact False.elim q
open PySem.W in
theorem Fun.okFT{P:J2}{w:Kt}{K:Frag}{j:Str->Option J0}{c:Mf}{x e:Str}{st:Mm}{f:Kb}{i:MT}{N h:List Str}{k:Nat}{sp:Sp}(F:Fun K x e st f i)(S:au N h (ai st))(g:∀d H Q E,sp d H Q E->d.length=h.length)
  (VC:∀(b:J0) (A:K7) (a:List Env) (s:JY) (H:Hp) (d:List V) (Q:VK) (E:XK),bu k (A.deeper (Pl e (ai st) s.heap.objs.size f b))->sp d H Q E->
   ∃t,kJ (iP (CXF P w) P w K j c N e (ai st) f b A a s H E) (bA st) t/\t {nx:=λ_ p=>Q .non p,rt:=Q } (start N d) H):eu P w K j c (CXF P w) (k+1) f i h sp:=by
 obtain⟨u,y,kV,r,q,v,b,z,B,rfl,o,l⟩:=F.ex;exact FH o l S g λA a s H d Q E n m=>VC b A a s H d Q E n m
section
variable {X:Cx}{tg:Expr}
theorem BO(r:PEt X l tl):PIt X tg l (EW X.K tl):=by
 intro m s k H R t I h;refine thn (r m s k H _ t I h) λv d j=>?_;obtain⟨x,u,c,g,n⟩:=j;obtain⟨a,e,⟨A,i⟩,q⟩:=n;subst e;cases g;obtain⟨y,z,p,w⟩:=c.list i;refine Lp p.isList ?_;refine⟨d.heap.objs.size,[d.heap.objs.size],_,_,u,rfl,c.kept λb o e=>JJ _ e,oA a _,⟨_,JT _ rfl,rfl,rfl⟩,λb f=>?_,q⟩;have e:b=d.heap.objs.size:=by simpa using f
 subst e;exact c.fpOk (JR _) (c.hok.fresh (JR _))
end
section
variable {o e:Expr}{es:List Expr}{to:TE}{t:TA}{name:Str}{T id:String}{r:V→List V→Hp→VK→Prop}
theorem Gv(D:T_ T)(a:Slot T name id)(q:typeOf (.builtin id)=pure (.type "method_descriptor"))(n:MtR X id r)(l:PEt X o to)(E:PA X (e::es) t)
  (Vr:Lc o name X.env (LD o X.env)=LD o X.env:=by rfl)
  (VL:((Ll Vc (JO (e::es) X.env)).all (λx=>!x.1) && (Na Vc (LG [] X.env)).all (λx=>x.1.isSome)
   && decide ((e::es).length+([]:List M7).length+(if ([]:List M7).isEmpty then 0 else 1)<30))=true:=by rfl)
  (Vs:(Vg.endLine==Vc.line)=true:=by rfl) (hs:JO (e::es) X.env=(false,LD e X.env)::JO es X.env:=by rfl) (Vv:(Ll Vc (JO es X.env)).any (·.1)=false:=by rfl):
  PEt X (.Call (.Attribute o name Vg) (e::es) [] Vc) (tBM X.K T r to t):=by
 intro c s b H Q z I h;refine Os Vr VL Vs rfl (thn (l c s b H _ z I h) λv B p=>?_);obtain⟨x,F,g,f,ty,u⟩:=p;obtain⟨k,G⟩:=uZ g f ty;refine⟨T,id,D,a,q,k,G,?_⟩;have d:=E Vc c B b F _ g u;rw[hs]at d |-;refine Nz (by show (false || (Ll Vc (JO es X.env)).any (·.1))=false;rw[Vv] <;>rfl) (O7 ?_)
 exact thn d λA j ⟨i,w,C,m,y⟩=>n c j b w x i v A Q C f m y
end
section
variable {X:Cx}{U8:List (Kb×Obj)}{σ:St}{H:Hp}{s:JY}
theorem BX(f:X.calm=true)(B:cL X U9 cl is)
  (hi:PIt X tg iter wi) (hg:∀C s H fp,PG (aK X U9 cl C s H fp) tg g) (he:∀C s H fp,PE (aK X U9 cl C s H fp) elt te) (hs:∀x,KL iter X.env x=pure x:=by intro _;rfl):
  PEt X (.ListComp elt [⟨tg,iter,[],0⟩] U9 pos) (AK is wi g te):=by
 intro U8 s σ H Q n I h;rw[eval_ListComp];refine my f B hg he hs I (hi U8 s σ H _ n I h) λl C p w m a r d u v t i k q=>⟨m,r,λy j=>?_⟩
 exact⟨.ref l,p,a.turned (λb o c e=>j.extBut b o c e) d (Ne.symm u.symm) (.inr t) i k,rfl,q⟩
end
def WsT(X:Cx)(a:Hp)(b:List Kb)(E:XK)(e:List Mm)(D:PD)(c:PSt):Prop:=kJ X e λf d H=>Lf X.K a b E D f/\∃O,Rs X.K a b c d H O
def W1t(X:Cx)(a:Hp)(b:List Kb)(E:XK)(s:Mm)(D:PD)(c:PSt):Prop:=o4 X s λe d H=>Lf X.K a b E D e/\∃O,Rs X.K a b c d H O
def Evt(X:Cx)(c:Hp)(f:List Kb)(b:PSt)(e:Expr)(u:U):Prop:=PEt X e λd H Q=>∃O,Rs X.K c f b d H O/\∀v a,aI H a->Rp X.K (hid a O) v u->Q v a
def rA(X:Cx)(f:Hp)(h:List Kb)(d:PSt)(e:Expr)(xs:List U):Prop:=PEt X e λg H Q=>∃O,Rs X.K f h d g H O/\∀a c b,aI H b->H a=none->b a=some (.lst c)->Rps X.K (hid b (a::O)) c xs->Q (.ref a) b
def Ev1(X:Cx)(c:Hp)(f:List Kb)(b:PSt)(e:Expr)(u:U):Prop:=PE1 X e λd H Q=>∃O,Rs X.K c f b d H O/\∀v a,aI H a->Rp X.K (hid a O) v u->Q v a
def Dm(X:Cx)(d:Hp)(g:List Kb)(c:PSt)(h:List Expr)(f:List U):Prop:=PA1 X h λe H Q=>∃O,Rs X.K d g c e H O/\∀b a,aI H a->Rps X.K (hid a O) b f->Q b a
section
variable {X:Cx}{H0:Hp}{O0:List Kb}{E:XK}{ps Vw:PSt}{D:PD}{s:Mm}{ss Vk:List Mm}{a b c e:Expr}{es:List Expr}{pos p:Pos}{u x y:U}{xs ys us:List U}{n:Nat}{CX:CXT}{f C d':Kb}{fd:MT}{Vf:List U→Out→Prop}{nm:Str}
theorem Jd(h:W1 X H0 O0 E s {D with nx:=λp=>WsT X H0 O0 E ss D p } ps):WsT X H0 O0 E (s::ss) D ps:=by
 have d:kJ X ss λb a H=>∃p,WsT X H0 O0 E ss D p/\Lf X.K H0 O0 E D b/\∃O,Rs X.K H0 O0 p a H O:=λc s a H b k I ⟨p,w,l,r⟩=>w c s a H b k I ⟨l,r⟩;exact kJ.mono (xD h d) λb a H ⟨L,O,R⟩=>⟨⟨λp a H O R q=>⟨p,q,L,O,R⟩,L.bk,L.ct,L.rt⟩,O,R⟩
theorem xh(h:W1t X H0 O0 E s {D with nx:=λp=>Ws X H0 O0 E ss D p } ps):WsT X H0 O0 E (s::ss) D ps:=by
 have d:PSs X ss λb a H=>∃p,Ws X H0 O0 E ss D p/\Lf X.K H0 O0 E D b/\∃O,Rs X.K H0 O0 p a H O:=λc s a H b I ⟨p,w,l,r⟩=>w c s a H b I ⟨l,r⟩;exact kJ.mono (yG h d) λb a H ⟨L,O,R⟩=>⟨⟨λp a H O R q=>⟨p,q,L,O,R⟩,L.bk,L.ct,L.rt⟩,O,R⟩
theorem rA.ev(h:rA X H0 O0 ps e xs):Evt X H0 O0 ps e (.lst xs):=PEt.mono h λk H Q ⟨O,R,q⟩=>⟨O,R,λa j i s n g r=>by
 have f:a ∉ O:=λz=>R.dom a z n;have c:=r.same (aW λb d=>JL a d);exact q _ i s (.lst (bS g f) c.len c.at_)⟩
theorem GH{x:Str}(a:X.N.Nodup)(b:X.N[i]?=some x)(d:Loc X.env.scope x)(c:Evt X H0 O0 ps e u)(h:D.nx (ps.set i (some (.val u))))(hs:Mn e (some (.Name x Vq)) pos.line X.env=pure false:=by rfl)(f:X.fn x=true\/X.env.scope.names.lookup x=some .local:=by first |exact .inl rfl |exact .inr rfl |assumption):
  W1t X H0 O0 E (.Assign [.Name x Vq] e pos) D ps:=o4.mono (EA a b d c hs f) λj g H ⟨L,O,R⟩=>⟨O,R,λv k s r=>L.nx _ _ _ O ((R.go s).set r) h⟩
theorem CY(g:rA X H0 O0 ps e xs)(h:D.rt (.new xs)):W1t X H0 O0 E (.Return (some e) pos) D ps:=
 o4.mono (C0 g) λj i H ⟨L,O,R⟩=>⟨O,R,λa c f s n q r=>L.rt _ h a c f (R.same.trans s) (R.same.free n) q (r.same (aW λb d=>by
  rcases JN.mp d with y |y
  .subst y;exact JP
  .exact JL _ (R.old b y)))⟩
theorem C5(F:eu X.prog X.w X.K X.mg X.base CX n f fd pn (spU X.K Vf))(o:bu n X.A)(m:Gl X nm)(k:X.mg nm=some (.ref f))(s:LK X.K (.ref f)=true)(g:bX X.K fd pn [])(t:bR CX X E0)
  (ha:EvA X H0 O0 ps (e::es) us) (h:Vf us (.new xs)) (VF:(nm==("__debug__":Str))=false:=by decide) (he:JO (e::es) X.env=(false,LD e X.env)::JO es X.env:=by rfl) (VA:(Ll pos (JO es X.env)).any (·.1)=false:=by rfl):
  rA X H0 O0 ps (.Call (.Name nm p) (e::es) [] pos) xs:=
 PEt.mono (Bm F o m k s g .nil t ha VF he VA) λx H Q ⟨O,R,q⟩=>⟨O,R,λb u c i=>by
  show spU X.K Vf (b++[]) u Q _;rw[L5];exact⟨us,O,.new xs,(R.go c).dom,i,h,λa b l d r v j=>q a b l (c.trans d) (c.free r) v j⟩⟩
theorem Ct(F:eu X.prog X.w X.K X.mg X.base CX n f fd pn (spU X.K Vf))(m:bu n X.A)(l:Gl X nm)(j:X.mg nm=some (.ref f))(o:LK X.K (.ref f)=true)(d:bX X.K fd pn [])(s:bR CX X E0)
  (ha:Dm X H0 O0 ps (e::es) us) (h:Vf us (.val u)) (VF:(nm==("__debug__":Str))=false:=by decide) (he:JO (e::es) X.env=(false,LD e X.env)::JO es X.env:=by rfl) (VA:(Ll pos (JO es X.env)).any (·.1)=false:=by rfl):
  Ev X H0 O0 ps (.Call (.Name nm p) (e::es) [] pos) u:=
 PE.mono (q_ F m l j o d .nil s ha VF he VA) λt H Q ⟨O,R,q⟩=>⟨O,R,λb r a g=>by
  show spU X.K Vf (b++[]) r Q _;rw[L5];exact⟨us,O,.val u,(R.go a).dom,g,h,λv k c i=>q v k (a.trans c) i⟩⟩
theorem sI(F:eu X.prog X.w X.K X.mg X.base CX n f fd pn (spU X.K Vf))(o:bu n X.A)(m:Gl X nm)(k:X.mg nm=some (.ref f))(s:LK X.K (.ref f)=true)(g:bX X.K fd pn [])(t:bR CX X E0)
  (ha:Dm X H0 O0 ps (e::es) us) (h:Vf us (.new xs)) (VF:(nm==("__debug__":Str))=false:=by decide) (he:JO (e::es) X.env=(false,LD e X.env)::JO es X.env:=by rfl) (VA:(Ll pos (JO es X.env)).any (·.1)=false:=by rfl):
  EvN X H0 O0 ps (.Call (.Name nm p) (e::es) [] pos) xs:=
 PE.mono (q_ F o m k s g .nil t ha VF he VA) λx H Q ⟨O,R,q⟩=>⟨O,R,λb u c i=>by
  show spU X.K Vf (b++[]) u Q _;rw[L5];exact⟨us,O,.new xs,(R.go c).dom,i,h,λa b l d r v j=>q a b l (c.trans d) (c.free r) v j⟩⟩
theorem xM{c:Nat}(n:Evt X H0 O0 ps a (.str (T' l)))(h:Ev X H0 O0 ps e (.str z))(g:JO [e] X.env=(false,LD e X.env)::JO [] X.env)(m:(T' l).length+2<=sizeLine)(k:z=⟨#[c]⟩)
  (Vr:Lc a "split" X.env (LD a X.env)=LD a X.env:=by rfl)
  (VL:((Ll Vc (JO [e] X.env)).all (λx=>!x.1) && (Na Vc (LG [] X.env)).all (λx=>x.1.isSome) && decide (([e]:List Expr).length+([]:List M7).length+(if ([]:List M7).isEmpty then 0 else 1)<30))=true:=by rfl)
  (Vs:(Vg.endLine==Vc.line)=true:=by rfl) (Vv:(Ll Vc (JO [] X.env)).any (·.1)=false:=by rfl):
  rA X H0 O0 ps (.Call (.Attribute a "split" Vg) [e] [] Vc) ((spl c l).map λp=>U.str (T' p)):=by
 subst k;refine PEt.mono (Gv Me LI Ot qS n (bH h cU g) Vr VL Vs g Vv) λr H Q ⟨O,R,q⟩=>⟨O,R,λv t b i=>?_⟩
 cases i;refine⟨rfl,O,R.go b,λw s d j=>?_⟩;cases j;have o:(Txt.split (T' l) ⟨#[c]⟩).map U.str=(spl c l).map λp=>U.str (T' p):=by rw[ux,Ka];rfl
 refine⟨_,_,rfl,rfl,rfl,m,λp f=>q p _ _ ((b.trans d).trans (aO f _)) ((b.trans d).free f) aG ?_⟩;rw[<-o];exact mw _
theorem Dy{f:PSt->U->PSt}(N:X.calm=true)(B:cL X U9 cl is)(j:rA X H0 O0 ps iter xs)(F:∀C s H fp,PG (aK X U9 cl C s H fp) tg g)(P:GOk g X.K is f dom)
  (Vi:ys.length=xs.length) (hz:xs.length<=sizeLine) (VZ:∀x∈xs,dom x) (he:∀C s H fp (i:Nat) (x y:U),xs[i]?=some x->ys[i]?=some y->Ev (aK X U9 cl C s H fp) H0 O0 (f (dA is ps) x) elt y)
  (hs:∀x,KL iter X.env x=pure x:=by intro _;rfl):rA X H0 O0 ps (.ListComp elt [⟨tg,iter,[],0⟩] U9 pos) ys:=by
 have A:∀C s H fp,PE (aK X U9 cl C s H fp) elt λd H Q=>∃i x y,xs[i]?=some x/\ys[i]?=some y/\∃k,Rs X.K H0 O0 (f (dA is ps) x) d H k/\∀v b,aI H b->Rp X.K (hid b k) v y->Q v b:=
  λC s H fp E D d b Q I ⟨i,x,y,m,t,z⟩=>he C s H fp i x y m t E D d b Q I z
 have w:PIt X tg iter λd H R=>∃O,Rs X.K H0 O0 ps d H O/\∀J b,aI H b->Yl X.K J (hid b O) xs->R J b:=PIt.mono (BO j.ev) λd H Q ⟨O,R,q⟩=>⟨O,R,λv b s r=>?_⟩
 .refine PEt.mono (BX N B w F A hs) λd H Q ⟨O,R,q⟩=>⟨O,R,λJ V p Y=>?_⟩
  exact oV P (R.go p) Y Vi hz VZ (λi x y d H k Q m t L z=>⟨i,x,y,m,t,k,L,z⟩) λa c b s n h r=>q a c b (p.trans s) (p.free n) h r
 .obtain⟨a,c,rfl,e,o⟩:∃a c,v=.ref a/\SqL X.K (hid b O) a c/\Rps X.K (hid b O) c xs:=by
   cases r with
   |lst e G M=>exact⟨_,_,rfl,SqL.of e,G,M⟩
  refine⟨a,rfl,⟨c,aH.seq e⟩,q _ b s λT l=>⟨λi j=>?_,⟨c,l.seq e,by rw[o.len];exact JR _⟩⟩⟩;have u:i<c.length:=by rw[o.len];exact j
  exact⟨⟨c,c[i],l.seq e,JG u⟩,λz S y=>⟨y.1,xs[i],JG j,o.at_ i z _ (y.2 c (l.seq e)) (JG j)⟩⟩
theorem pE{i:Nat}(x:ps[i]?=some (some (.dsk w C' d' d Va)))(M:Cls X.K C')(B:tY X.K C' m f)(F:bV X.prog X.w X.K X.mg X.base CX k f fd pn (spD X.K false C' spec'))(G:bu k X.A)(a:bX X.K fd pn [])(P:bR CX X E0)(L:Dm X H0 O0 ps (e::es) us)(h:spec' d Va us (.val u))
  (Xf:(m==("lands":Str))=false:=by decide) (hN:X.N[i]?=some xx:=by rfl) (hv:Vis X.env.scope xx:=by first |exact Or.inl rfl |exact Or.inr (Or.inl rfl) |exact Or.inr (Or.inr rfl)) (hd:(xx==("__debug__":Str))=false:=by decide) (VD:(xx==("__classdict__":Str))=false:=by decide)
  (VE:JO (e::es) X.env=(false,LD e X.env)::JO es X.env:=by rfl) (VA:(Ll pos (JO es X.env)).any (·.1)=false:=by rfl)
  (ht:LD (.Call (.Attribute (.Name xx p) m Vg) (e::es) [] pos) X.env=(do
   let ov <-LD (.Name xx p) X.env
   RB Vg.atName
   let (f,first) <-Pf [ov] (Pj ov m pl)
   RJ pos f first (Ll pos (JO (e::es) X.env)) (Na pos (LG [] X.env))):=by rfl):
  Ev1 X H0 O0 ps (.Call (.Attribute (.Name xx p) m Vg) (e::es) [] pos) u:=
 PE1.mono (En (d9 hN hv hd VD) M B F G a .nil P L VE VA ht) λS H Q C=>by
  obtain⟨O,R,q⟩:=C;obtain⟨v,t,j,n,rfl,o,T,g,D,I⟩:=R.at_ i _ x;refine⟨_,t,d',j,_,rfl,g,by rw[K5,Xf];rfl,O,R,λc J s r=>?_⟩
  have sub:∀b∈d::O,b∈O:=λb a=>by
   rcases JN.mp a with y |y
   .subst y;exact o
   .exact y
  show spD X.K false C' spec' (V.ref d'::(c++[])) J Q E0;rw[L5];exact⟨d',j,d,n,Va,c,us,O,.val u,rfl,s _ _ g,s _ _ D,(R.go s).dom,nofun,(I.same (aF s)).same (aW sub),r.same (aW sub),h,λv E l z=>q v E (s.trans l) (z.same (aW λb a=>JL _ a))⟩
theorem uH:Ev1 X H0 O0 ps (.Constant (.str z) j pos) (.str z):=PE1.mono FW λa H Q ⟨O,R,q⟩=>q (.str z) H (.refl H) (.str z)
theorem hW(h:Ev1 X H0 O0 ps e u)(f:EvA X H0 O0 ps es us)(hs:JO (e::es) X.env=(false,LD e X.env)::JO es X.env:=by rfl):Dm X H0 O0 ps (e::es) (u::us):=
 PA1.mono (BR h f hs) λi H Q ⟨O,R,q⟩=>⟨O,R,λv k b c=>⟨O,R.go b,λj g a d=>q _ g (b.trans a) (.cons (c.same (aF a)) d)⟩⟩
theorem Fu{x:Str}{z a b:Str}{i d c:Nat}(n:ps[i]?=some (some (.val (.str z))))(g:(a==b)=false)(h:z.length+(z.length+1) *b.length<=16777216)
  (hN:X.N[i]?=some x:=by rfl) (hv:Vis X.env.scope x:=by first |exact Or.inl rfl |exact Or.inr (Or.inl rfl) |exact Or.inr (Or.inr rfl)) (hd:(x==("__debug__":Str))=false:=by decide) (VD:(x==("__classdict__":Str))=false:=by decide)
  (Vr:Lc (.Name x p4) "replace" X.env (LD (.Name x p4) X.env)=LD (.Name x p4) X.env:=by rfl)
  (VL:((Ll p9 (JO [.Constant (.str a) d p6,.Constant (.str b) c p7] X.env)).all (λx=>!x.1) && (Na p9 (LG [] X.env)).all (λx=>x.1.isSome) && decide (([.Constant (.str a) d p6,.Constant (.str b) c p7]:List Expr).length+([]:List M7).length+(if ([]:List M7).isEmpty then 0 else 1)<30))=true:=by rfl)
  (Vs:(p5.endLine==p9.line)=true:=by rfl):
  Evt X H0 O0 ps (.Call (.Attribute (.Name x p4) "replace" p5) [.Constant (.str a) d p6,.Constant (.str b) c p7] [] p9) (.str (Txt.replace z a b)):=by
 intro p s o H Q w I ⟨O,R,q⟩;obtain⟨v,j,f⟩:=R.at_ i _ n;cases f;refine Os Vr VL Vs rfl (xX I hN hv hd VD j λr l=>?_);obtain⟨t,rfl⟩:=l;refine⟨"str",_,Me,PySem.F.slot_str_replace,PySem.F.type_str_replace,T9 _ _ _,λa e=>(nomatch e),?_⟩;rw[show JO [.Constant (.str a) d p6,.Constant (.str b) c p7] X.env=(false,LD (.Constant (.str a) d p6) X.env)::JO [.Constant (.str b) c p7] X.env from aJ];rw[show JO [.Constant (.str b) c p7] X.env=(false,LD (.Constant (.str b) c p7) X.env)::JO [] X.env from aJ];refine Nz rfl (O7 ?_);refine Mq ?_;refine Oi (k:=d) (pos:=p6) ?_;refine Mq ?_;refine Oi (k:=c) (pos:=p7) ?_;refine NU ?_;refine SC.replace (by show s.toks≠0;lia) (by show s.toks+1≠0;lia) (by show s.toks≠s.toks+1;lia) g h λu m=>?_;exact⟨.str (Txt.replace z a b),H,I.tok m,⟨_,rfl⟩,q (.str _) H (.refl H) (.str _)⟩
end
section
variable {P:J2}{w:Kt}{K:JI}{mg:Str→Option J0}{base:Mf}{N:List Str}{Vd nm:Str}{U9:RZ}{f:Kb}{cd:J0}{A:K7}{outer:List Env}{s:JY}{H H0:Hp}{O0:List Kb}{E:XK}{D:PD}{ps:PSt}{u:U}
theorem Bs{st:Mm}(F:Fun K nm Vd st f fd)(S:au N pn (ai st))(n:∀b o,Vf b o->b.length=pn.length)
  (VC:∀c A outer s H E O b o,bu k (A.deeper (Pl Vd (ai st) s.heap.objs.size f c))->Vf b o->
   WsT (iP (CXF P w) P w K mg base N Vd (ai st) f c A outer s H E) H O E (bA st) ⟨λ_=>o=.val .non,λp=>p=o,λ_=>False,λ_=>False⟩ (de N b)):eu P w K mg base (CXF P w) (k+1) f fd pn (spU K Vf):=by
 refine F.okFT S (λt H Q E h=>?_) λc A outer s H t Q E x h=>?_
 .obtain⟨b,O,o,_,r,m,_⟩:=h;rw[r.len];exact n b o m
 .obtain⟨b,O,o,d,r,m,q⟩:=h;refine⟨_,VC c A outer s H E O b o x m,⟨λps G y D R e=>?_,λ_ _ _ _ _ e=>e.elim,λ_ _ _ _ _ e=>e.elim,λp e=>by subst e;exact q⟩,O,?_⟩
  .subst e;exact q .non y R.same .non
  .refine⟨.refl H,λa h=>h,λa h=>.inl h,d,?_,λi B e=>?_,λi j I J a l C _ _=>?_⟩
   .unfold start de;rw[Ko,Ko,JK,JK,Lj,Lj,r.len]
   .unfold de at e;by_cases g:i<b.length
    .rw[JZ (by simpa using g),JQ,JG g]at e
     cases e;obtain⟨v,u,z⟩:=r.get (JG g);refine⟨v,?_,z⟩;unfold start;rw[JZ (by simpa [r.len] using g),JQ,u];rfl
    .rw[J3 (by simpa using g),K8]at e
     split at e <;>cases e
   .exfalso
    unfold de at l;by_cases g:i<b.length
    .rw[JZ (by simpa using g),JQ,JG g]at l
     cases l
    .rw[J3 (by simpa using g),K8]at l
     split at l <;>cases l
end
theorem Dl(n:OpS X (KO op) x y (.bl k))(i:OpS X (KO op') y z (.bl m))(r:Ev X H0 O0 ps a x)(h:Ev X H0 O0 ps b y)(s:Ev X H0 O0 ps c z)
  (hm:lastMarks [op,op'] [b,c]=false:=by with_unfolding_all rfl):Tt X H0 O0 ps (.Compare a [op,op'] [b,c] pos) (k && m):=
 PT.mono (zr n i r h s hm) λu H Q ⟨O,R,q⟩=>⟨O,R,λw A e l=>⟨O,R.go e,λv p d f=>⟨(l.same (aF d)).out,f.out,k,rfl,by
  cases k with
  |false=>exact mY ⟨_,rfl,q p (e.trans d)⟩
  |true=>exact oW ⟨O,(R.go e).go d,λt j g o=>⟨(f.same (aF g)).out,o.out,_,rfl,q j ((e.trans d).trans g)⟩⟩⟩⟩⟩
theorem GR:OpS X (KO .NotIn) (.str x) (.str y) (.bl (!(!(Builtin.Str.occurrences y x 0 y.length 1).isEmpty))):=by
 intro f s e H v w p q Q I b c h;obtain⟨k1,d,a⟩:=h;cases k1;cases d;obtain⟨t,rfl⟩:=b;obtain⟨g,rfl⟩:=c;exact PyProof.Rows.notIn_str ⟨.bl _,H,I,rfl,a⟩
theorem gf(h:c=c')(t:TtK X H0 O0 ps e c WU):TtK X H0 O0 ps e c' WU:=h ▸ t
theorem zQ(h:u=u')(t:Evt X H0 O0 ps e u):Evt X H0 O0 ps e u':=h ▸ t
end L2
namespace L2
open PySem PySem.Spec PySem.W PyProof.Rows
structure Dfn(K:JI)(mg:Str->Option J0)(x:Str)(st:Mm)(ps:List Str) where
 a:Kb
 d:MT
 F:Fun K x x st a d
 b:bX K d ps []
 m:mg x=some (.ref a)
structure MDf(K:JI)(C:Kb)(x q:Str)(st:Mm)(ps:List Str) where
 a:Kb
 d:MT
 F:Fun K x q st a d
 b:bX K d ps []
 m:tY K C x a
structure IDf(K:JI)(C:Kb)(x q:Str)(st:Mm)(ps:List Str) where
 a:Kb
 d:MT
 F:Fun K x q st a d
 b:bX K d ps []
 m:Mk K C a
structure Exn(mg:Str->Option J0)(x:Str) where
 c:Kb
 m:mg x=some (.ref c)
abbrev l9(x q:Str)(st:Mm)(c:List Str):Prop:=∀(kV d f:J0) (e:Option Kb) (b g:J0) (a:List J0),a.length=c.length->OG (fnOf x q (cV st) (bA st) (ai st) .none kV d f e b g) ⟨a,[]⟩=pure (c.zip a)
section
variable {K:JI}{h:Mf}{mg:Str→Option J0}{x q:Str}{st:Mm}{ps:List Str}{f C D:Kb}{j:Int}{oc:J0}{od an:Option Kb}{kV dc pm cd ct:J0}{sl:Array (Option J0)}{x1 x2 x3 t:_}
noncomputable def mdf(b:l9 x q st ps)(a:findIn K (.ref C) x=some (some (.ref f)))(l:K.lookup f=some ⟨oc,od,.func (fnOf x q (cV st) (bA st) (ai st) .none kV dc pm an cd ct),sl⟩)(c:codeIn K cd q=true)(k:keepIn K (.ref f)=true)(n:isFn K (.ref f)=true):MDf K C x q st ps:=⟨f,_,jG l c k,(jG l c k).binds b,⟨a,n,k⟩⟩
noncomputable def idf(b:l9 "__init__" q st ps)(a:findIn K (.ref C) "__init__"=some (some (.ref f)))(l:K.lookup f=some ⟨oc,od,.func (fnOf "__init__" q (cV st) (bA st) (ai st) .none kV dc pm an cd ct),sl⟩)(c:codeIn K cd q=true)(k:keepIn K (.ref f)=true)(n:isFn K (.ref f)=true)(d:makesIn K C=true)(ch:keepIn K (.ref C)=true):IDf K C "__init__" q st ps:=⟨f,_,jG l c k,(jG l c k).binds b,⟨d,a,n,ch⟩⟩
noncomputable def exn(X:K.In h)(G:h.Ns K1 mg)(a:nsIn K K1 x=some (some (.ref f))):Exn mg x:=⟨f,mg_of X G a⟩
theorem c_m(X:K.In h)(G:h.Ns K1 mg)(a:nsIn K K1 x=some (some (.ref f))):mg x=some (.ref f):=mg_of X G a
theorem g_i(X:K.In h)(G:h.Ns K1 mg)(a:nsIn K K1 x=some (some (.int j t))):∃t,mg x=some (.int j t):=⟨t,mg_of X G a⟩
theorem g_s(X:K.In h)(G:h.Ns K1 mg)(a:nsIn K K1 x=some (some (.str q t))):∃t,mg x=some (.str q t):=⟨t,mg_of X G a⟩
end
end L2
namespace SG
open PySem PySem.W PySem.Calls PyProof.Rows ST
noncomputable abbrev rfs{α:Type}(pb:List (α×Kb)):List J0:=pb.map λp=>Ku p.2
structure Ky(α:Type) where
 lt:α->α->Bool
 tr:∀{a b c:α},lt a b=true->lt b c=true->lt a c=true
 tot:∀{a b:α},a≠b->lt a b=false->lt b a=true
 asy:∀{a b:α},lt a b=true->lt b a=false
 is:J2->Kt->Mf->α->Kb->Prop
 kd:SV
 grow:∀{prog:J2}{w:Kt}{h h':Mf}{a:α}{b:Kb},is prog w h a b→(∀b o,o.cls=.type "tuple"→h.get? b=some o→h'.get? b=some o)→is prog w h' a b
 ask:∀{prog:J2}{w:Kt}{A:K7}{E:J0->JY->Prop}{s:JY}{x y:Kb}{a b:α}{Q:Bool->JY->Prop},A.units+1<MA->is prog w s.heap a x->is prog w s.heap b y->Q (lt a b) s->Kj (Kk prog w) A (keyLt' kd (.ref x) (.ref y)) Q E s
 kind:∀{prog:J2}{w:Kt}{A:K7}{E:J0->JY->Prop}{s:JY}{pb:List (α×Kb)}{Q:SV->JY->Prop},(∀p∈pb,is prog w s.heap p.1 p.2)->0<pb.length->Q kd s->Kj (Kk prog w) A (keyKind' (rfs pb).toArray) Q E s
section
variable {α:Type} [DecidableEq α] (S:Ky α)
noncomputable def ins(x:α):List α->List α
 |[]=>[x]
 |y::r=>if x=y then y::r else if S.lt x y=true then x::y::r else y::ins x r
noncomputable def srt(l:List α):List α:=l.foldr (ins S) []
abbrev Asc(l:List α):Prop:=l.Pairwise (λx y=>S.lt x y=true)
end
section
variable {α:Type} (S:Ky α) {prog:J2}{w:Kt}{A:K7}{E:J0→JY→Prop}{s:JY}
theorem irr(a:α):S.lt a a=false:=by
 cases h:S.lt a a with
 |false=>rfl
 |true=>rw[S.asy h]at h;cases h
theorem asc_one:∀{l m:List α},Asc S l->Asc S m->(∀z,z∈l↔z∈m)->l=m
 |[],[],_,_,_=>rfl
 |[],y::r,_,_,h=>by have:=(h y).mpr JP;simp at this
 |x::l,[],_,_,h=>by have:=(h x).mp JP;simp at this
 |x::l,y::m,hl,hm,h=>by
  obtain⟨c,g⟩:=KM.mp hl;obtain⟨d,f⟩:=KM.mp hm
  have e:x=y:=by
   rcases JN.mp ((h x).mp JP) with z |z
   .exact z
   .rcases JN.mp ((h y).mpr JP) with b |b
    .exact b.symm
    .have:=S.asy (d x z);rw[c y b]at this;cases this
  subst e;congr 1;refine asc_one g f λz=>⟨λa=>?_,λa=>?_⟩
  .rcases JN.mp ((h z).mp (JL _ a)) with e |e
   .have:=c z a;rw[e,irr]at this;cases this
   .exact e
  .rcases JN.mp ((h z).mpr (JL _ a)) with e |e
   .have:=d z a;rw[e,irr]at this;cases this
   .exact e
theorem CZ(pb)(b:α×Kb):(Kr pb.length).map (λi=>pb.getD i b)=pb:=by
 apply List.ext_getElem
 .simp
 .intro i a c;simp at a;simp[a]
include S
theorem sort_g{a:Kb}{pb:List (α×Kb)}{n:Nat}{P:PySem.Fin→JY→Prop}(K:s.heap.get? a=some (Oe "list" (rfs pb).toArray n))(Wx:∀p∈pb,S.is prog w s.heap p.1 p.2)(hu:A.units+1<MA)(d:α×Kb)(Xr:(pb.map (·.1)).Nodup)(h64:pb.length<64)
  (h:∀V4:List (α×Kb),V4.Perm pb->(V4.map (·.1)).Pairwise (λx y=>S.lt x y=true)->P (.done (.ret .none)) {s with heap:=sortedHeap s.heap a (rfs pb) (rfs V4).toArray }):
  Kj (Kk prog w) A (Builtin.«list.sort» ⟨[.ref a],[]⟩) P E s:=by
 have D:(rfs pb).length=pb.length:=by simp
 have m:(rfs pb).toArray.size=pb.length:=by simp
 rw[list_sort_plain];have ha:=JU K;refine JH (listItems_at K rfl (JH (RW K rfl ?_ (by rw[m,Lg];lia) (Kv _))));obtain⟨e1,M⟩:∃e1,(s.heap.update a (KS λ_=>(#[]:Array J0))).get? a=some (Oe "list" #[] e1):=⟨_,Tn K (λ_=>#[])⟩
 refine JH (To M rfl (JH (Rx ?_ (by show (rfs pb).length<=_;rw[D,Lg];lia))));refine JH (Qv ?_ (Kv _));refine KB ?_;generalize hh6:((s.heap.update a (KS λ_=>(#[]:Array J0))).push (Oe "tuple" (rfs pb).toArray 0)).push (Oe "list" #[] 0)=u
 have V:∀b o,b≠a->s.heap.get? b=some o->u.get? b=some o:=λb o hb e=>by
  rw[<-hh6];exact JJ _ (JJ _ ((Kf _ _ (Ne.symm hb)).trans e))
 have B:u.get? a=some (Oe "list" #[] e1):=by rw[←hh6];exact JJ _ (JJ _ M)
 have H:∀p∈pb,S.is prog w u p.1 p.2:=λp hp=>by
  refine S.grow (Wx p hp) λb o hc e=>V b o (λz=>?_) e;rw[z,K]at e;cases e;exact absurd hc (by show ¬ (Lv "list"=Lv "tuple");decide)
 have Vn:∀V4:List (α×Kb),V4.Perm pb->(V4.map (·.1)).Pairwise (λx y=>S.lt x y=true)->P (.done (.ret .none)) {s with heap:=u.update a (KS λ_=>(rfs V4).toArray) }:=λV4 p1 p2=>by
  rw[<-hh6];exact h V4 p1 p2
 dsimp only;by_cases F:(rfs pb).toArray.size<2
 .rw[if_pos F,if_pos F];refine JH (JM ?_);rw[StateT.run_pure];refine JH (JM ?_);dsimp only
  have J:(arrOf (SortSt.mk' general' ((rfs pb).toArray.zip (rfs pb).toArray) #[] 7 none)).map (·.2)=(rfs pb).toArray:=by
   apply QD.mp
   have I:∀l:List J0,(l.zip l).map (·.2)=l:=λl=>by
    induction l with
    |nil=>rfl
    |cons x r ih=>rw[NG,J6,ih]
   rw[SI,Array.toList_zip];exact I _
  rw[J];refine JH (To B rfl (JH (RW B rfl ?_ (Kv _) (by rw[m,Lg];lia))));rw[if_neg (by simp)];refine JM (Vn pb (TJ _) ?_)
  match pb,m,F with
  |[],_,_=>simp
  |[_],_,_=>simp
  |_::_::r,m,F=>rw[m]at F;exact absurd F (by simp)
 .rw[if_neg F,if_neg F];rw[m]at F;have h2':2<=(rfs pb).length:=by rw[D];lia
  refine JH (S.kind (s:={s with heap:=u }) H (by lia) ?_)
  have inj:∀i j,i<pb.length->j<pb.length->i≠j->(pb.getD i d).1≠(pb.getD j d).1:=λi j t v X e=>by
   refine X ((Qx (xs:=pb.map (·.1)) (h₀:=by simpa using t) (h₁:=by simpa using v) Xr).mp ?_);simpa [t,v] using e
  have O:LtO pb.length (λi j=>S.lt (pb.getD i d).1 (pb.getD j d).1):=⟨λi j k=>S.tr,λi j t v X=>S.tot (inj i j t v X),λi j=>S.asy⟩
  obtain⟨p,R,f,SS⟩:=Ae O (by lia)
  have L:∀i j C,i<pb.length->j<pb.length->C (S.lt (pb.getD i d).1 (pb.getD j d).1) {s with heap:=u }->kas_ask prog w A (S.kd) (rfs pb) i j C {s with heap:=u }:=λi j C t v c=>by
   unfold kas_ask;have Z:(rfs pb).getD i MG=.ref (pb.getD i d).2:=by simp[t]
   have ej:(rfs pb).getD j MG=.ref (pb.getD j d).2:=by simp[v]
   rw[Z,ej];have mi:pb.getD i d∈pb:=by simp[t]
   have mj:pb.getD j d∈pb:=by simp[v]
   exact S.ask (s:={s with heap:=u }) hu (H _ mi) (H _ mj) c
  have U:(kas_sort (rfs pb).length).kasWp (kas_ask prog w A (S.kd) (rfs pb)) (λp' N=>p'=p/\N={s with heap:=u }) {s with heap:=u }:=by
   rw[D];exact R.wp L ⟨rfl,rfl⟩
  refine JH (Lo (kat_run (Q:=λY N=>N={s with heap:=u }/\failedOf Y=none/\(arrOf Y).map (·.2)=Ut (p.toList.map λi=>(rfs pb).getD i MG)) rfl h2' (by rw[D];exact h64) (λp' Y N _ a2 a3 a4=>?_) U) ?_ λ_ _ e=>e)
  .obtain⟨rfl,rfl⟩:=a4;exact⟨rfl,a3,kat_snds rfl a2⟩
  .rintro ⟨⟨⟩,Y⟩ N ⟨rfl,hf,W⟩;dsimp only;rw[W];have Ve:∀i∈p.toList,i<pb.length:=λi t=>J_.mp (f.perm.mem_iff.mp t)
   have er:(p.toList.map λi=>(rfs pb).getD i MG)=rfs (p.toList.map λi=>pb.getD i d):=by
    unfold rfs;rw[Ka];refine Np λi t=>?_;have:=Ve i t;simp[this]
   rw[er]
   have G:(p.toList.map λi=>pb.getD i d).Perm pb:=by
    refine (f.perm.map _).trans ?_;rw[CZ]
   have V5:(rfs (p.toList.map λi=>pb.getD i d)).toArray.size=pb.length:=by simp[f.size]
   refine JH (To B rfl (JH (RW B rfl ?_ (Kv _) (by rw[V5,Lg];lia))));rw[hf];rw[if_neg (by simp)];refine JM (Vn _ G ?_);rw[Ka,Lq,Kp];intro i j t v X;have T:j<pb.length:=by rw[Ke,f.size]at v;exact v
   have q:=SS i j X T;have Z:g p i=p.toList[i]:=by simp[g,MJ,f.size,show i<pb.length by lia]
   have ej:g p j=p.toList[j]:=by simp[g,MJ,f.size,T]
   rw[Z,ej]at q;exact q
theorem call_g{l:Kb}{pb:List (α×Kb)}{Q:J0->JY->Prop}(C:s.heap.IsList l (rfs pb).toArray)(v:∀p∈pb,S.is prog w s.heap p.1 p.2)(F:A.units+5<MA)(q:α×Kb)(t:(pb.map (·.1)).Nodup)(i:pb.length<64)
  (h:∀(a f:Mf) (r:Nat) (V4:List (α×Kb)) (e:Nat),V4.Perm pb→(V4.map (·.1)).Pairwise (λx y=>S.lt x y=true)→(∀c o,s.heap.get? c=some o→a.get? c=some o)→(∀c o,a.get? c=some o→f.get? c=some o)→f.get? a.objs.size=some (Oe "list" (rfs V4).toArray e)→Q (.ref a.objs.size) {s with heap:=f,toks:=r }):
  Kj (Kk prog w) A (call (.builtin "sorted") [.ref l]) Q E s:=by
 have d:(rfs pb).length=pb.length:=by simp
 refine Calls.call_function_entry kind_sorted plain_sorted entry_sorted (args_sorted1 _) ?_;unfold Builtin.«sorted»;refine JH (m:=checkCount "sorted" 1 1 _) (JM ?_);refine JH (collect_list C ?_ (by rw[d,Lg];lia));refine JH (Qv ?_ (by rw[d,Lg];lia));generalize hg:(s.heap.push (Oe "list" #[] 0)).update s.heap.objs.size (KS (·++(rfs pb).toArray))=a
 have keep:∀c o,s.heap.get? c=some o->a.get? c=some o:=λc o e=>by
  rw[<-hg,Kf _ _ (LX (JU e))];exact JJ _ e
 have g:(a.push {cls:=.type "list",data:=.seq (rfs pb).toArray }).get? a.objs.size=some (Oe "list" (rfs pb).toArray 0):=JT _ rfl
 have D:∀p∈pb,S.is prog w (a.push {cls:=.type "list",data:=.seq (rfs pb).toArray }) p.1 p.2:=λp u=>by
  exact S.grow (v p u) λb o _ e=>JJ _ (keep _ _ e)
 refine JH (KB (Le TX ⟨_,g,rfl⟩ Tp ?_ (TY _)));refine sort_g S (s:={s with heap:=a.push {cls:=.type "list",data:=.seq (rfs pb).toArray } }) g D (by show A.units+1+1+1<MA;lia) q t i λV4 B n=>⟨_,rfl,JM ⟨_,rfl,?_⟩⟩
 obtain⟨e,z⟩:=sortedHeap_at (out:=(rfs V4).toArray) g;refine h a _ s.toks V4 e B n keep (λc o k=>?_) z;have j:=JU k;rw[TZ (Kh j) (by rw[KU];exact LZ j)];exact JJ _ k
end
end SG
namespace ST3
open PySem PySem.W PySem.Calls PyProof.Rows ST
noncomputable abbrev PQ:=(Int×Int)×Int
section
variable {prog:J2}{w:Kt}{A:K7}{E:J0→JY→Prop}{s:JY}
def TQ(prog:J2)(w:Kt)(h:Mf)(t:PQ)(b:Kb):Prop:=∃o items n a u,h.get? b=some o∧o.cls=.type "tuple"∧o.data=.seq items n∧items.toList=[.ref a,.int t.2 u]∧TK prog w h (lq t.1) a
end
noncomputable def KP:SG.Ky (Int×Int):=⟨ltP,ltP_tr,ltP_tot,ltP_asy,λa w h p b=>TK a w h (lq p) b,Sf true,λt e=>by obtain⟨o,g,n,d,c,f⟩:=t;exact⟨o,g,n,e _ _ c d,c,f⟩,λi h k q=>GQ h k q,λh k q=>y3 h k q⟩
end ST3
namespace L2
open PySem PySem.Spec PyProof.Rows
section
variable {X:Cx}{U8:List (Kb×Obj)}{σ:St}{H:Hp}{s:JY}{z:V}{u:J0}
theorem Jh(I:Inv X U8 σ H s)(r:Rp X.K H z (pu a))(e:aM z u):∃b,z=.ref b/\u=.ref b/\ST3.KP.is X.prog X.w s.heap a b:=by
 obtain⟨b,rfl,c⟩:=Gb I r e;refine⟨b,?_,rfl,c _ _⟩;cases r;cases e;rfl
end
end L2
namespace ST
open PySem PyProof.Rows PySem.SeqAt
noncomputable def nC(e r:Nat->Bool)(m n:Nat):Nat->Nat->Bool
 |0,_=>decide (m<n)
 |k+1,i=>if e i=true then nC e r m n k (i+1) else r i
def DD(A:K7)(s:JY)(a b:J0)(r:Bool):Prop:=∀(c:J2) (w:Kt) (E:J0->JY->Prop) (Q:J0->JY->Prop),Q (.bool r) s->Kj (Kk c w) A (Qs .Lt a b) Q E s
theorem xZ(l b)(items items2)(n n2)(dd dd2)(sl sl2)(e r)(k):
  ∀i:Nat,min items.size items2.size-i=k->Meets (Builtin.«list.__eq__.loop» ⟨[.ref l,.ref b,NC i,NC 0],[]⟩)
   (λA R s=>s.heap.get? l=some {cls:=.type "list",dict:=dd,data:=.seq items n,slots:=sl }∧s.heap.get? b=some {cls:=.type "list",dict:=dd2,data:=.seq items2 n2,slots:=sl2 }∧
    (∀j (x:j<items.size) (F:j<items2.size),EqAt A.in1 s items[j] items2[j] (e j))/\(∀j (x:j<items.size) (F:j<items2.size),e j=false->DD A.in1 s items[j] items2[j] (r j))/\
    R (.ok (.ret (.bool (nC e r items.size items2.size k i)))) s):=by
 induction k with
 |zero=>
  intro i D a w A R s h;obtain⟨B,g,d,y,G⟩:=s;obtain⟨f,c,q,t,h⟩:=h
  wp_walk using L8 f,L8 c
  have m:items[(i:Int).toNat]?=none\/items2[(i:Int).toNat]?=none:=by
   rcases L1 i items.size with z |z
   .exact .inr (by simp;lia)
   .exact .inl (by simpa using z)
  rcases m with m |m
  .rw[m]
   wp_walk using L8 f,L8 c
   exact h
  .cases hx:items[(i:Int).toNat]? <;>rw[m] <;>wp_walk using L8 f,L8 c <;>exact h
 |succ k C=>
  intro i D a w A R s h;obtain⟨B,g,d,y,G⟩:=s;obtain⟨f,c,q,t,h⟩:=h
  wp_walk using L8 f,L8 c
  have o:i<items.size:=by lia
  have p:i<items2.size:=by lia
  have v:items[(i:Int).toNat]?=some items[i]:=by simp[o]
  have u:items2[(i:Int).toNat]?=some items2[i]:=by simp[p]
  have E:(i+1)=((i+1:Nat):Int):=by push_cast;rfl
  rw[nC]at h;rw[v,u];refine JH (q i o p a w _ _ ?_);cases WD:e i with
  |true=>
   rw[WD,if_pos rfl]at h
   wp_walk
   rw[E]
   exact⟨LU Mx _,LN O4 (by
    rw[Ld Mx _];exact C (i+1) (by lia) a w A R _ ⟨f,c,q,t,h⟩)⟩
  |false=>
   rw[WD,if_neg KZ]at h
   wp_walk using L8 f,L8 c
   rw[v,u];refine JH (t i o p WD a w _ _ ?_)
   wp_walk
   exact h
theorem yI(l b)(items items2)(n n2)(dd dd2)(sl sl2)(e r):
  Meets (Builtin.«list.__lt__» ⟨[.ref l,.ref b],[]⟩)
   (λA R s=>s.heap.get? l=some {cls:=.type "list",dict:=dd,data:=.seq items n,slots:=sl }∧s.heap.get? b=some {cls:=.type "list",dict:=dd2,data:=.seq items2 n2,slots:=sl2 }∧
    (∀j (f:j<items.size) (t:j<items2.size),EqAt A.in1 s items[j] items2[j] (e j))/\(∀j (f:j<items.size) (t:j<items2.size),e j=false->DD A.in1 s items[j] items2[j] (r j))/\
    R (.ok (.ret (.bool (nC e r items.size items2.size (min items.size items2.size) 0)))) s):=by
 intro a w A R s h;obtain⟨m,g,d,i,u⟩:=s;obtain⟨p,c,k,o,h⟩:=h;have q:Uh ⟨m,g,d,i,u⟩ (.ref b) "list":=⟨_,c,rfl⟩;show Kj _ _ (isInstance (.ref b) (.type "list") >>=_) _ _ _;refine JH (Mu (b:=true) q (by rw[N3];kernel_rfl) ?_);simp only[MZ,J4,if_false];refine MS (λz=>absurd z (by decide)) (λ_=>?_);refine JM ⟨LU Mx _,LN O4 ?_⟩;rw[Ld Mx _];exact xZ l b items items2 n n2 dd dd2 sl sl2 e r _ 0 rfl a w A R _ ⟨p,c,k,o,h⟩
section
variable {prog:J2}{w:Kt}{A:K7}{E:J0→JY→Prop}{s:JY}
theorem lt_lists(y:s.heap.IsList l items)(o:s.heap.IsList b items2)(q:A.units<MA)
  (he:∀j (p:j<items.size) (D:j<items2.size),EqAt A.in1 s items[j] items2[j] (e j)) (hr:∀j (p:j<items.size) (D:j<items2.size),e j=false->DD A.in1 s items[j] items2[j] (r j))
  (h:Q (.bool (nC e r items.size items2.size (min items.size items2.size) 0)) s):Kj (Kk prog w) A (Qs .Lt (.ref l) (.ref b)) Q E s:=by
 obtain⟨⟨cls,B,m,t⟩,i,C,n,u⟩:=id y;obtain⟨⟨k,f,d,g⟩,a,v,z,c⟩:=id o;subst C u v c
 exact richCompare_meets_room ⟨_,i,rfl⟩ ⟨_,a,rfl⟩ PySem.F.slot_list_lt PySem.F.entry_list_lt (PySem.F.args_list_lt_2 _ _) (yI l b items items2 n z B f t g e r)
  ⟨i,a,he,hr,(λx=>nomatch x),h⟩ q
theorem xE{c:J2}{b:Kt}:∀{k:List Int}{a:List J0},ItemsAre (N_ prog w) k a->ItemsAre (N_ c b) k a:=λ{k a} h=>by
 induction h with
 |nil=>exact .nil
 |cons h _ t=>exact .cons h t
theorem TK.any(x:TK prog w h k b):TK WG w' h k b:=by
 obtain⟨o,d,n,a,c,f,e⟩:=x;exact⟨o,d,n,a,c,f,xE e⟩
theorem eqAt_pts(c:A.units<MA)(e:TK prog w s.heap k x)(a:TK prog w s.heap m y):EqAt A s (.ref x) (.ref y) (decide (k=m)):=λd b E Q h=>
 (QM (N_ d b)).eqBool c (TK.any e) (TK.any a) h
theorem ltAt_pts(d:A.units<MA)(e:TK prog w s.heap [a.1,a.2] x)(c:TK prog w s.heap [b.1,b.2] y):DD A s (.ref x) (.ref y) (ltP a b):=λg f E Q h=>Eh d (TK.any e) (TK.any c) h
end
noncomputable def ltLs:List (Int×Int)->List (Int×Int)->Bool
 |a::r,b::t=>if a=b then ltLs r t else ltP a b
 |[],_::_=>true
 |_,[]=>false
theorem lexB_pts:∀f g i m n,(∀j (k:j<f.length) (l:j<g.length),e (i+j)=decide (f[j]=g[j])/\r (i+j)=ltP f[j] g[j])->m=i+f.length->n=i+g.length->nC e r m n (min f.length g.length) i=ltLs f g
 |[],[],i,m,n,_,c,d=>by rw[c,d];simp[nC,ltLs]
 |[],b::t,i,m,n,_,c,d=>by
  rw[c,d];simp[nC,ltLs]
 |a::r',[],i,m,n,_,c,d=>by
  rw[c,d];simp[nC,ltLs]
 |a::r',b::t,i,m,n,h,c,d=>by
  have h0:=h 0 (by simp) (by simp)
  have o:=lexB_pts r' t (i+1) m n (λj k l=>by
   have:=h (j+1) (by simpa using k) (by simpa using l);rw[show i+1+j=i+(j+1) by lia];simpa using this) (by rw[c,JX];lia) (by rw[d,JX];lia)
  rw[show min (a::r').length (b::t).length=min r'.length t.length+1 by rw[JX,JX];lia,nC,ltLs,show i=i+0 from rfl,h0.1,h0.2];simp only[List.getElem_cons_zero];by_cases z:a=b
  .rw[if_pos z,decide_eq_true z,if_pos rfl];exact o
  .rw[if_neg z,decide_eq_false z,if_neg KZ]
end ST
namespace L2
open PySem PySem.Spec PyProof.Rows
theorem sV(I:Inv X U8 σ H s)(r:Rp X.K H v (lp l))(e:aM v u):
  ∃a c,u=.ref a/\s.heap.IsList a c/\c.size=l.length/\∀j (d:j<c.size) (i:j<l.length),∃b,c[j]=.ref b/\ST.TK X.prog X.w s.heap [l[j].1,l[j].2] b:=by
 cases r with
 | @lst a h _ n y f=>
  cases e;obtain⟨c,k,p,_⟩:=I.list (SqL.of n);have x:=k.length;have z:c.toArray.size=l.length:=by simp;rw[<-x,y,JK]
  refine⟨a,c.toArray,rfl,p.isList,z,λj d i=>?_⟩;have g:j<h.length:=by simp at d;lia
  obtain⟨u,m,o⟩:=k.get (JG g);have q:=f j h[j] (pu l[j]) (JG g) (by rw[JQ,JG i];rfl);obtain⟨b,rfl,t⟩:=II I q o;refine⟨b,?_,t⟩;have:c[j]?=some (.ref b):=m;rw[JG d]at this;simpa using this
theorem Et(J:A.units+4<MA)(I:Inv X U8 σ H s)(p:Rp X.K H v (lp l))(q:Rp X.K H w (lp m))(F:aM v u)(B:aM w z)
  (h:Q (.bool (ST.ltLs l m)) s):Kj (Kk X.prog X.w) A (Qs .Lt u z) Q E s:=by
 obtain⟨a,L,rfl,o,t,k1⟩:=sV I p F;obtain⟨b,G,rfl,D,C,n⟩:=sV I q B;refine ST.lt_lists (e:=λj=>decide (l.getD j (0,0)=m.getD j (0,0))) (r:=λj=>ST.ltP (l.getD j (0,0)) (m.getD j (0,0))) o D (by lia) (λj c g=>?_) (λj c g _=>?_) ?_
 .obtain⟨x,ex,k⟩:=k1 j c (by lia);obtain⟨y,i,ty⟩:=n j g (by lia);rw[ex,i];have d:l.getD j (0,0)=l[j]'(by lia):=by rw[JW,JG (by lia)];rfl
  have f:m.getD j (0,0)=m[j]'(by lia):=by rw[JW,JG (by lia)];rfl
  have:=ST.eqAt_pts (A:=A.in1) (show A.in1.units<MA by simp[U3];lia) k ty;rw[d,f]
  have e:decide (l[j]'(by lia)=m[j]'(by lia))=decide ([(l[j]'(by lia)).1,(l[j]'(by lia)).2]=[(m[j]'(by lia)).1,(m[j]'(by lia)).2]):=by
   rw[NN];simp[Prod.ext_iff]
  rw[e];exact this
 .obtain⟨x,ex,k⟩:=k1 j c (by lia);obtain⟨y,i,ty⟩:=n j g (by lia);rw[ex,i];have d:l.getD j (0,0)=l[j]'(by lia):=by rw[JW,JG (by lia)];rfl
  have f:m.getD j (0,0)=m[j]'(by lia):=by rw[JW,JG (by lia)];rfl
  rw[d,f];exact ST.ltAt_pts (A:=A.in1) (show A.in1.units<MA by simp[U3];lia) k ty
 .rw[t,C,ST.lexB_pts l m 0 _ _ (λj c g=>?_) (by lia) (by lia)]
  .exact h
  .have d:l.getD j (0,0)=l[j]:=by rw[JW,JG c];rfl
   have f:m.getD j (0,0)=m[j]:=by rw[JW,JG g];rfl
   rw[show 0+j=j by lia,d,f];exact⟨rfl,rfl⟩
noncomputable def abK(kf:Nat->List P2):Nat->Nat
 |0=>0
 |j+1=>if ST.ltLs (kf (j+1)) (kf (abK kf j))=true then j+1 else abK kf j
theorem Ay(kf):∀j,abK kf j<=j
 |0=>JR _
 |j+1=>by
  have:=Ay kf j;rw[abK];split <;>lia
theorem wO{h:Mf}(e:h.get? b=some (Oe "list" vs c))(f):∃a,(h.update b (KS f)).get? b=some (Oe "list" (f vs) a):=⟨_,Tn e f⟩
section
variable {X:Cx}{U8:List (Kb×Obj)}{σ:St}{H:Hp}{l q S Ia:Kb}{ob:Obj}{O:List Kb}{vs:List V}{kf:Nat→List P2}{R:S1→JY→Prop}
noncomputable def Turns(X:Cx)(σ:St)(H:Hp)(q:Kb)(ob:Obj)(O:List Kb)(vs:List V)(kf:Nat->List P2):Prop:=
 ∀(a:List (Kb×Obj)) (e:JY) (c:Hp) (j:Nat) (v:V) (u:J0),(q,ob)∈a->Inv X a σ c e->aI H c->vs[j]?=some v->aM v u->
  Kj (Kk X.prog X.w) X.A.in1 (call (.ref q) [u]) (λr f=>∃d b,Inv X a σ b f/\aI c b/\aM d r/\Rp X.K (hid b O) d (lp (kf j))) (λ_ _=>False) e
structure Mkk(X:Cx)(U8:List (Kb×Obj))(σ:St)(H:Hp)(l q S Ia:Kb)(ob:Obj)(O:List Kb)(vs:List V)(kf:Nat->List P2)(j:Nat)(s:JY)(H':Hp)(vb kb:J0):Prop where
 inv:Inv X U8 σ H' s
 same:aI H H'
 fp:∀b∈[q,Ia,S],eU X U8 H' b
 oq:s.heap.get? q=some ob
 oS:∃c,s.heap.get? S=some (Oe "list" #[vb,kb] c)
 it:s.heap.IsListIter Ia l (j+1)
 best:∃v,vs[abK kf j]?=some v/\aM v vb
 key:∃kv,aM kv kb/\Rp X.K (hid H' O) kv (lp (kf (abK kf j)))
theorem DH(hc:X.calm=true)(hu:X.A.units+10<MA)(hl:SqL X.K H l vs)(P:q≠S)(N:q≠Ia)(Y:S≠Ia)(nc:∀v,ob.data≠.cell v)(G:Turns X σ H q ob O vs kf)
  (hR:∀v u s' f,vs[abK kf (vs.length-1)]?=some v->aM v u->Inv X U8 σ f s'->aI H f->R (.ok (.ret u)) s'):
  ∀r j s f k m,vs.length-(j+1)=r->j+1<=vs.length->Mkk X U8 σ H l q S Ia ob O vs kf j s f k m->
   NY (Kk X.prog X.w) X.A (.builtin "min.loop" ⟨[.ref Ia,.ref q,.ref S],[]⟩) R s:=by
 have WH:(OE "min"++OE ".loop":String)="min.loop":=by decide
 intro r
 induction r with
 |zero=>
  intro j s f k m hr hj M;have WB:j+1=vs.length:=by lia
  obtain⟨c,p⟩:=M.oS;obtain⟨Vb,Q,pl,_⟩:=M.inv.list (M.same.seq hl);have lv:=Q.length;refine LN Ov ?_;rw[Ld LJ _];refine JH (La p rfl ?_);refine JH (N5 (OM (M.inv.ok.hd hc) M.it pl.isList (by simp;lia) λd g=>?_));obtain⟨f0,f1,f2,f3,f4,f5⟩:=M.fp Ia (by simp);have I1:=M.inv.turned (t':=s.toks) (λb o a e=>g b o a e) f0 f1 f3 f4 f5;have Z:=g S _ Y p;refine JH ?_;refine LO (s:={s with heap:=d }) Z rfl (JH (NQ (JM ?_)));obtain⟨W,U,g2,I,g4,g5⟩:=M.fp S (by simp);have B:Inv X U8 σ f {s with heap:=d.update S (KS λ_=>#[]) }:=I1.turned (s:={s with heap:=d }) (t':=s.toks) (λb o a e=>(Kf _ _ (Ne.symm a)).trans e) W U I g4 g5;obtain⟨v,e1,e2⟩:=M.best;exact hR v k _ f (by rw[<-WB];exact e1) e2 B M.same
 |succ r ih=>
  intro j s f k m hr hj M;have t:j+1<vs.length:=by lia
  obtain⟨c,p⟩:=M.oS;obtain⟨Vb,Q,pl,_⟩:=M.inv.list (M.same.seq hl);obtain⟨u,V,ru⟩:=Q.get (JG t);refine LN Ov ?_;rw[Ld LJ _];show Kj _ X.A.in1 (seqItems? (.ref S) >>=_) _ _ _;refine JH (La p rfl ?_);show Kj _ X.A.in1 (SW (Rt (.ref Ia)) _ >>=_) _ _ _;refine JH (N5 (Nx M.it pl.isList (x:=u) (by simpa using V) λd Wk J=>?_));obtain⟨f0,f1,f2,f3,f4,f5⟩:=M.fp Ia (by simp);have I1:Inv X U8 σ f {s with heap:=d }:=M.inv.turned (t':=s.toks) (λb o a e=>(J.2 b a).trans e) f0 f1 f3 f4 f5;obtain⟨oI,gI,cI,dI⟩:=id Wk;have gS:d.get? S=some (Oe "list" #[k,m] c):=(J.2 S Y).trans p;have T:d.get? q=some ob:=(J.2 q N).trans M.oq
  have ho:∀b∈[q,Ia,S],∃o,d.get? b=some o/\∀v,o.data≠.cell v:=λb a=>by
   simp only[JN,Kz,or_false]at a;rcases a with e |e |e <;>subst e
   .exact⟨_,T,nc⟩
   .exact⟨_,gI,λv z=>by rw[dI]at z;cases z⟩
   .exact⟨_,gS,λv z=>by cases z⟩
  have I1p:=I1.pinned (s:={s with heap:=d }) M.fp ho;show Kj _ X.A.in1 (SW (Pf [u] (call (.ref q) [u])) _ >>=_) _ _ _;refine JH (N5 (KB (Lo (G _ _ f (j+1) _ u (J1 _ (bJ (by simp) T)) I1p M.same (JG t) ru) (λC D he=>?_) λ_ _ hF=>hF.elim)));obtain⟨kv,n,y,Wl,rk,rp⟩:=he
  have pin:∀{b o},b∈[q,Ia,S]->d.get? b=some o->D.heap.get? b=some o/\n b=none:=λ{b o} a e=>by
   have:=y.pin (b,o) (J1 _ (J1 _ (bJ a e)));exact⟨this.1,this.2.1⟩
  have B:=y.unpinned;obtain⟨i,nS2⟩:=pin (b:=S) (by simp) gS;obtain⟨E,nI2⟩:=pin (b:=Ia) (by simp) gI;obtain⟨F,nq2⟩:=pin (b:=q) (by simp) T
  have h:∀b∈[q,Ia,S],eU X U8 n b:=λb a=>by
   have:=M.fp b a;refine⟨?_,this.2⟩;simp only[JN,Kz,or_false]at a;rcases a with e |e |e <;>subst e
   .exact nq2
   .exact nI2
   .exact nS2
  obtain⟨kw,VU,rb⟩:=M.key;have sm:aI H n:=M.same.trans Wl;have L:D.heap.IsListIter Ia l (j+1+1):=⟨oI,E,cI,dI⟩;show Kj _ X.A.in1 (SW (Pf [u,C] (Qs .Lt C m >>=_)) _ >>=_) _ _ _;refine JH (N5 (KB (JH (Et (A:=X.A.in1) (by show X.A.units+1+4<MA;lia) B rp.out (rb.same (aF Wl)).out rk VU ?_))));refine JH (KB (LA ?_));refine JH (NQ (JM ?_));cases a:ST.ltLs (kf (j+1)) (kf (abK kf j)) with
  |true=>
   have g:abK kf (j+1)=j+1:=by rw[abK,if_pos a]
   simp only[if_true];refine JH ?_;refine LO i rfl (JH (NQ ?_));rw[WH];obtain⟨c2,XZ⟩:=wO i λ_=>#[u,C];obtain⟨W,U,g2,I,g4,g5⟩:=h S (by simp);have I3:Inv X U8 σ n {D with heap:=D.heap.update S (KS λ_=>#[u,C]) }:=B.turned (t':=D.toks) (λb o a e=>(Kf _ _ (Ne.symm a)).trans e) W U I g4 g5;refine JM ⟨LU LJ _,ih (j+1) _ n u C (by lia) t ⟨I3,sm,h,(Kf _ _ P.symm).trans F,⟨c2,XZ⟩,⟨oI,(Kf _ _ Y).trans E,cI,dI⟩,?_,?_⟩⟩
   .exact⟨_,by rw[g];exact JG t,ru⟩
   .exact⟨kv,rk,by rw[g];exact rp⟩
  |false=>
   have g:abK kf (j+1)=abK kf j:=by rw[abK,if_neg (by rw[a];decide)]
   simp only[J4,if_false];refine JH (NQ ?_);rw[WH];obtain⟨v,e1,e2⟩:=M.best;refine JM ⟨LU LJ _,ih (j+1) _ n k m (by lia) t ⟨B,sm,h,F,⟨c,i⟩,L,?_,?_⟩⟩
   .exact⟨v,by rw[g];exact e1,e2⟩
   .exact⟨kw,VU,by rw[g];exact rb.same (aF Wl)⟩
theorem yu(hc:X.calm=true)(hu:X.A.units+10<MA)(I:Inv X U8 σ H s)(W:SqL X.K H l vs)(D:0<vs.length)(fq:eU X U8 H q)(oq:s.heap.get? q=some ob)(nc:∀v,ob.data≠.cell v)(d:Turns X σ H q ob O vs kf)
  (hQ:∀v u G B,vs[abK kf (vs.length-1)]?=some v->aM v u->Inv X U8 σ B G->aI H B->Q u G):
  Kj (Kk X.prog X.w) X.A (call (.builtin "min") [.ref l] [(Str.ofString "key",.ref q)]) Q E s:=by
 have WH:(OE "min"++OE ".loop":String)="min.loop":=by decide
 obtain⟨Vb,rv,t,_⟩:=I.list W;obtain⟨ol,N,_⟩:=id t.isList;have Y:=JU N;have k:=JU oq;refine kmk_tree PySem.F.kind_min PySem.F.plain_min PySem.F.entry_min (kmk_min_key _ _) ?_;refine JH (Tg (show Builtin.Builtins.bindParams "min" ["key","default"] 0 ⟨[],[(Str.ofString "key",.ref q)]⟩=pure [some (.ref q),none] from rfl) ?_);refine JH (JM ?_);refine JH (Lp t.isList ?_);refine JH (Qv ?_ (Kv _));rw[WH];generalize hI0:({cls:=.type "list_iterator",data:=.fields #[.ref l,.int 0 0] }:Obj)=a;have M:(s.heap.push a).objs.size=s.heap.objs.size+1:=size_push' ..;have I0:Inv X U8 σ H {s with heap:=(s.heap.push a).push (Oe "list" #[] 0) }:=I.kept (t':=s.toks) λb o e=>JJ _ (JJ _ e);have gI:((s.heap.push a).push (Oe "list" #[] 0)).get? s.heap.objs.size=some a:=JJ _ (JT _ (by rw[←hI0];rfl));have gS:((s.heap.push a).push (Oe "list" #[] 0)).get? (s.heap.push a).objs.size=some (Oe "list" #[] 0):=JT _ rfl;have gq:((s.heap.push a).push (Oe "list" #[] 0)).get? q=some ob:=JJ _ (JJ _ oq);have h:q≠s.heap.objs.size:=Kh k;have i:q≠(s.heap.push a).objs.size:=by rw[M];exact Kh (LZ k)
 have R:(s.heap.push a).objs.size≠s.heap.objs.size:=by rw[M];exact LX (LS _)
 have hlI:l≠s.heap.objs.size:=Kh Y;have fI:eU X U8 H s.heap.objs.size:=I.fpOk (JR _) (I.hok.fresh (JR _));have sS:s.heap.objs.size<=(s.heap.push a).objs.size:=by rw[M];exact S5 _
 have fS:eU X U8 H (s.heap.push a).objs.size:=I.fpOk sS (I.hok.fresh sS);generalize (s.heap.push a).objs.size=S at *;generalize (s.heap.push a).push (Oe "list" #[] 0)=h0 at *;generalize s.heap.objs.size=Ia at *;have it0:h0.IsListIter Ia l 0:=⟨_,gI,by rw[<-hI0],by rw[<-hI0];rfl⟩
 obtain⟨Vb,rv,t,_⟩:=I0.list W;obtain⟨u,P,ru⟩:=rv.get (JG D);refine JM ⟨LU LJ _,?_⟩;refine LN Ov ?_;rw[Ld LJ _];show Kj _ X.A.in1 (seqItems? (.ref _) >>=_) _ _ _;refine JH (La (s:={s with heap:=h0 }) gS rfl ?_);show Kj _ X.A.in1 (SW (Rt (.ref Ia)) _ >>=_) _ _ _;refine JH (N5 (Nx (s:={s with heap:=h0 }) it0 t.isList (x:=u) (by simpa using P) λg Wk L=>?_));obtain⟨f0,f1,f2,f3,f4,f5⟩:=id fI;have I1:Inv X U8 σ H {s with heap:=g }:=I0.turned (s:={s with heap:=h0 }) (t':=s.toks) (λb o c e=>(L.2 b c).trans e) f0 f1 f3 f4 f5;obtain⟨oI,j,cI,dI⟩:=id Wk;have p:g.get? S=some (Oe "list" #[] 0):=(L.2 S R).trans gS;have f:g.get? q=some ob:=(L.2 q h).trans gq
 have fp:∀b∈[q,Ia,S],eU X U8 H b:=λb c=>by
  simp only[JN,Kz,or_false]at c;rcases c with e |e |e <;>subst e
  .exact fq
  .exact fI
  .exact fS
 have ho:∀b∈[q,Ia,S],∃o,g.get? b=some o/\∀v,o.data≠.cell v:=λb c=>by
  simp only[JN,Kz,or_false]at c;rcases c with e |e |e <;>subst e
  .exact⟨_,f,nc⟩
  .exact⟨_,j,λv z=>by rw[dI]at z;cases z⟩
  .exact⟨_,p,λv z=>by cases z⟩
 have V:=I1.pinned (s:={s with heap:=g }) fp ho;show Kj _ X.A.in1 (SW (Pf [u] (call (.ref q) [u])) _ >>=_) _ _ _;refine JH (N5 (KB (Lo (d _ _ H 0 _ u (J1 _ (bJ (by simp) f)) V (.refl H) (JG D) ru) (λy C he=>?_) λ_ _ hF=>hF.elim)));obtain⟨kv,J,m,Wl,rk,rp⟩:=he
 have pin:∀{b o},b∈[q,Ia,S]->g.get? b=some o->C.heap.get? b=some o/\J b=none:=λ{b o} c e=>by
  have:=m.pin (b,o) (J1 _ (J1 _ (bJ c e)));exact⟨this.1,this.2.1⟩
 have I2:=m.unpinned;obtain⟨r,U⟩:=pin (b:=S) (by simp) p;obtain⟨Z,nI2⟩:=pin (b:=Ia) (by simp) j;obtain⟨gq2,T⟩:=pin (b:=q) (by simp) f
 have n:∀b∈[q,Ia,S],eU X U8 J b:=λb c=>by
  have:=fp b c;refine⟨?_,this.2⟩;simp only[JN,Kz,or_false]at c;rcases c with e |e |e <;>subst e
  .exact T
  .exact nI2
  .exact U
 show Kj _ X.A.in1 (Uv S (λ_=>#[u,y]) >>=_) _ _ _;refine JH ?_;refine LO r rfl ?_;rw[WH];obtain⟨c2,XZ⟩:=wO r λ_=>#[u,y];obtain⟨g0,g1,g2,g3,g4,g5⟩:=n S (by simp);have I3:Inv X U8 σ J {C with heap:=C.heap.update S (KS λ_=>#[u,y]) }:=I2.turned (t':=C.toks) (λb o c e=>(Kf _ _ (Ne.symm c)).trans e) g0 g1 g3 g4 g5;refine JM ⟨LU LJ _,DH hc hu W i h R nc d (λv u G B e1 e2 e3 e4=>hQ v u G B e1 e2 e3 e4) _ 0 _ J u y rfl D ⟨I3,Wl,n,(Kf _ _ i.symm).trans gq2,⟨c2,XZ⟩,⟨oI,(Kf _ _ R).trans Z,cI,dI⟩,⟨_,JG D,ru⟩,⟨kv,rk,rp⟩⟩⟩
end
theorem iN:∀a,TriplesOk (fZ a)
 |[]=>trivial
 |_::a=>iN a
theorem m_(l c:Nat)(a):∀b,fZ (b++[(l,c,a)])=fZ b++[NC l,NC c,.ref a]
 |[]=>rfl
 |t::b=>by
  show NC t.1::NC t.2.1::.ref t.2.2::fZ (b++[(l,c,a)])=_;rw[m_ l c a b];rfl
theorem kg(pos):∀a,Tq pos (fZ a)=none\/∃t∈a,Tq pos (fZ a)=some (.ref t.2.2)
 |[]=>.inl rfl
 |t::a=>by
  have e:Tq pos (fZ (t::a))=if ((t.1:Int)==pos.line && (t.2.1:Int)==pos.col)=true then some (.ref t.2.2) else Tq pos (fZ a):=rfl;rw[e];split
  .exact .inr ⟨t,by simp,rfl⟩
  .rcases kg pos a with h |⟨b,c,d⟩
   .exact .inl h
   .exact .inr ⟨b,by simp[c],d⟩
structure TbF(K:JI)(mg:Str->Option J0)(f c P b:Kb):Prop where
 m:mg "to_form"=some (.ref f)
 lf:∃o fd,K.lookup f=some o/\o.data=.func fd/\fd.code=.ref c
 hd:Lz K c P=true
 bm:mg "__builtins__"=some (.ref b)
 bn:b≠Pd
 lb:∃o,K.lookup b=some o∧o.cls=.type "module"∧o.dict=some Pd∧o.data=.plain
def xR(H:Hp)(c:Kb):Prop:=∃a u b t,H c=some (.frz a u)/\a.data=.fields b/\b[1]?=some (.str jQ t)
theorem xR.rec(h:xR H c')(I:Inv X U8 σ H s):s.heap.CodeRec (.ref c') jQ:=by
 obtain⟨a,u,b,t,e,d,v⟩:=h;obtain⟨g,_⟩:=(I.hok c' _ e);exact⟨c',a,b,t,rfl,g,d,v⟩
theorem xR.same(h:xR H c')(e:aI H H'):xR H' c':=let ⟨oc,u,vs,t,e1,r⟩:=h;⟨oc,u,vs,t,e _ _ e1,r⟩
section
variable {X:Cx}{U8:List (Kb×Obj)}{σ:St}{H:Hp}{s:JY}
theorem Bd(I:Inv X U8 σ H s)(T:TbF X.K X.mg f c P b)
  (W5:X.env.code=.ref c) (hq:X.env.qual++"<lambda>"=jQ) (hcl:Rj U9 X.env=pure clos) (hdef:defaultsOf params X.env=([],[]))
  (h:∀q a pm l s' V,Inv X U8 σ V s'→aI H V→s'.heap.get? q=some (Q_ "<lambda>" jQ params Vk U9 clos pm a l)→xR V a→eU X U8 V q→Q (.ref q) s'):
  Kj (Kk X.prog X.w) X.A (LD (.Lambda params Vk U9 lpos) X.env) Q E s:=by
 refine PySem.W.kla_eval hdef ?_;rw[hq];obtain⟨o1,fd1,l1,l2,l3⟩:=T.lf;obtain⟨o2,vs2,m1,_,m3,m4⟩:=jN T.hd;have KX:=I.kIn;have kb:=I.mod.kin;obtain⟨ps,U⟩:=I.amb f o1 fd1 c o2 vs2 P T.m (kb _ _ l1) l2 l3 (kb _ _ m1) m3 (by rw[K0,m4];rfl);obtain⟨ts,Z,G⟩:=(I.hok P _ U);have C:=PySem.W.codeHd_of_K KX T.hd;have Y:=I.mod.glob.keeps I.bk
 have hgP:K1≠P:=λz=>by
  obtain⟨o,es,ep,e,d,_⟩:=Y;rw[z,Z]at e;cases e;cases d
 obtain⟨ob,lb1,J,lb3,p⟩:=T.lb;have S:=KX _ _ lb1
 have hB:s.heap.BuiltinsAt X.mg P:=⟨b,ob,T.bm,T.bn,(λz=>by
   obtain⟨o,es,ep,e,d,_⟩:=Y;rw[<-z,S]at e;cases e;rw[p]at d;cases d),(λz=>by
   rw[z,Z]at S;cases S;cases J),S,J,lb3,p⟩
 have nP:∀b,H b=none->b≠P:=λb n z=>by rw[z,U]at n;cases n
 rcases kg lpos ts with hnf |⟨t,ht,B⟩
 .refine PySem.W.kla_makeFunction hcl I.ok.glob Y W5 C Z (iN ts) hnf hgP hB λa l k tk hx i Ve D htb=>?_;obtain⟨c2,N,M,t',e2,W7,x,hv⟩:=D;cases e2;have fr:=I.hok.fresh i;have g:∀b u,H b=some u->b≠a:=λb u e z=>by rw[z,fr]at e;cases e
  have lt':∀b o,s.heap.get? b=some o->b≠a:=λb o e z=>absurd (Kc (JU e) i) (by rw[z];exact KA _);generalize hob:(Q_ "<lambda>" jQ params Vk U9 clos ((X.mg "__name__").getD .none) a l)=R;have F:∀b o,b≠P->s.heap.get? b=some o->(k.push R).get? b=some o:=λb o n e=>JJ _ (hx b o n e)
  have tbl:(k.push R).get? P=some {cls:=.none,data:=.fields (fZ (ts++[(lpos.line,lpos.col,a)])).toArray }:=by
   rw[m_];have:=JJ R htb;rw[this];simp[PySem.W.tabObj]
  have I2:Inv X U8 σ (upd H a (.frz N (.own P))) {s with heap:=k.push R,toks:=tk }:=by
   refine I.step (ch:=[]) (λ_ z=>nomatch z) (λb o _ _ _ e n=>F b o (nP b n) e) (λb o _ _ _ e n=>⟨o.slots,F b o (nP b n) e⟩) (λb o _ e n=>by rw[aD (lt' b o e)];exact n)
    (λb o _ e=>?_) (λb xs e=>by rw[aD (g b _ e)];exact e) (λb o u e=>by rw[aD (g b _ e)];exact e) (λb ps e=>⟨#[],by rw[aD (g b _ e),e];simp⟩) (λm hm=>?_) (λb u e=>?_) I.bare
   .by_cases z:b=P
    .rw[z];exact⟨_,tbl⟩
    .exact⟨o,F b o z e⟩
   .obtain⟨o,es,ep,ho,r⟩:=hm;exact⟨o,es,ep,F _ o (nP _ I.free) ho,r⟩
   .by_cases z:b=a
    .subst z;rw[aG]at e;cases e;exact⟨JJ _ W7,⟨N,JJ _ W7⟩⟩
    .rw[aD z]at e;by_cases zP:b=P
     .subst zP;rw[U]at e;cases e;refine⟨_,tbl,λt ht=>?_⟩
      rcases Lm.mp ht with q |q
      .obtain⟨j,u1,v1,t1,O,g2⟩:=G t q;exact⟨j,u1,v1,t1,by rw[aD (g _ _ O)];exact O,g2⟩
      .rw[Kq.mp q];exact⟨N,.own b,M,t',aG,x,hv⟩
     .refine (I.hok b u e).stay (λd v hc q=>F d v ?_ q) (λd q=>by rw[aD (g d _ q)];exact q) (λd o' u' q=>by rw[aD (g d _ q)];exact q) λd xs q=>by rw[aD (g d _ q)];exact q
      rcases hc with y |y
      .rw[y];exact zP
      .intro y';rw[y',U]at y;cases y
  have L:=KH i (Kd Ve);refine h k.objs.size a _ l _ _ I2 (aO fr _) (by rw[hob];exact JT _ (by rw[<-hob];rfl)) ⟨N,_,M,t',aG,x,hv⟩ ?_;refine I.fpOk L ?_;rw[aD (LX Ve)];exact I.hok.fresh L
 .refine PySem.W.kla_makeFunctionHit hcl I.ok.glob Y W5 C Z (iN ts) B hB λl k tk hk VI=>?_;obtain⟨j,u1,v1,t1,O,g2⟩:=G t ht;refine h k.objs.size t.2.2 _ l _ H (I.kept λd o e=>JJ _ (hk d o e)) (.refl H) (JT _ rfl) ⟨j,u1,v1,t1,O,g2⟩ (I.fpOk VI (I.hok.fresh VI))
end
noncomputable abbrev tV(c:RZ)(q a L:Kb)(b:List (Str×Kb)):Env:=PySem.W.envX jQ c L q (.ref a) b
noncomputable def Ci(X:Cx)(A:K7)(s:JY)(H:Hp)(c:RZ)(N:List Str)(q a:Kb)(b:List (Str×Kb)):Cx where
 prog:=X.prog
 w:=X.w
 K:=X.K
 mg:=X.mg
 base:=X.base
 A:=A.deeper (tV c q a s.heap.objs.size b)
 N:=N
 s₀:=s
 H₀:=H
 env:=tV c q a s.heap.objs.size b
 outer:=X.stack
 stack:=tV c q a s.heap.objs.size b::X.stack
 ex:=[]
 fn:=λ_=>false
 calm:=true
 pn:=[]
 xe:=λ_ _=>False
structure E1(U9:RZ)(y z:Str):Prop where
 kind:U9.kind=.function
 co:U9.isCoroutine=false
 gen:U9.isGenerator=false
 nc:∀x∈U9.names,x.2≠.cell
 lz:U9.names.lookup z=some .local
 ly:U9.names.lookup y=some .free
 only:∀x∈U9.names,x.2=.free->x.1=y
section
variable {X:Cx}{U8:List (Kb×Obj)}{σ:St}{H:Hp}{s:JY}{O:List Kb}
theorem BQ{iy:Nat} 
  (hc:X.calm=true) (hdp:X.A.depth<PU) (I:Inv X U8 σ H s) (hq:s.heap.get? q=some (Q_ "<lambda>" jQ params Vk U9 [(y,cy)] pm c' Xw)) (hrec:s.heap.CodeRec (.ref c') jQ)
  (hy:X.env.cells.lookup y=some cy) (hi:X.N[iy]?=some y) (hσ:σ[iy]?=some (some vy)) (ky:X.env.scope.names.lookup y=some .cell) (S:E1 U9 y z) (hyz:y≠z)
  (hb:OG (T4 "<lambda>" jQ params Vk U9 [(y,cy)] pm (.ref c') Xw) ⟨[u],[]⟩=pure [(z,u)])
  (dO:∀a∈O,H a≠none) (ry:Rp X.K (hid H O) vy landU) (rv:aM v u) (rz:Rp X.K (hid H O) v itemU)
  (he:EvN (Ci X X.A.in1 s H U9 [y,z] q c' [(y,cy)]) H O [some (.val landU),some (.val itemU)] Vk ks):
  Kj (Kk X.prog X.w) X.A.in1 (call (.ref q) [u]) (λr U=>∃G F,Inv X U8 σ F U/\aI H F/\aM G r/\Rp X.K (hid F O) G (.lst ks)) (λ_ _=>False) s:=by
 refine Rf (PySem.W.kla_callFunE hdp hq rfl S.co S.gen rfl hrec ?_);rw[hb];refine JM (O9 S.nc (λx hx=>by rw[Kq.mp hx];exact S.lz) (λL XX M=>⟨I.nolimit.fresh _ M,?_⟩) S.kind);have t:∀b o,s.heap.get? b=some o->L.get? b=some o:=λb o e=>M.extBut b o (Kh (JU e)) (JJ _ e)
 have B:∀{x c},([(y,cy)]).lookup x=some c->x=y/\c=cy:=λ{x c} e=>by
  rw[K5]at e;by_cases z:x=y
  .rw[z,beq_self_eq_true]at e;cases e;exact⟨z,rfl⟩
  .rw[beq_eq_false_iff_ne.mpr z]at e;cases e
 have P:([(y,cy)]).lookup y=some cy:=by rw[K5,beq_self_eq_true]
 have e0:=I.env0.in1
 have J:Inv (Ci X X.A.in1 s H U9 [y,z] q c' [(y,cy)]) [] [some vy,some v] H {s with heap:=L,toks:=s.toks+[(z,u)].length }:=by
  refine⟨⟨I.ok.mod,S.kind,rfl,rfl,JR _,λa b d p1 f=>(B p1).1.trans (B f).1.symm,λa p=>?_,λa d p1 _=>(by cases p1),λ_=>I.ok.hd hc,Rm e0.frames,.inr ⟨rfl,rfl⟩,λa p=>(by cases p),I.bs,KH I.ok.bsz I.sz,λa b _ p=>(by cases p),λa p=>(by cases p),I.stack,⟨I.stkFree,I.amb⟩⟩,
   rfl,I.bare,Un.kept t,⟨_,XX,λj x v' p1 f Q=>?_⟩,λa d p=>?_,I.hok.fresh (JR _),λa d p=>?_,λp hp=>(by cases hp),I.hok.kept t,rfl⟩
  .have i:=p;rcases i with i |i
   .exact absurd rfl (S.nc _ (Lk i))
   .have:=S.only _ (Lk i) rfl;dsimp only at this;rw[this];exact⟨cy,P⟩
  .obtain⟨m,hn,hl⟩:=I.loc
   match j,p1,f with
   |0,p1,f=>
    cases p1;cases f;obtain⟨V,r1,lk⟩:=hl iy y vy hi hσ (.inr (.inl ky));refine⟨V,r1,.inr ⟨.inr S.ly,cy,P,?_⟩⟩;rcases lk with ⟨k1,_⟩ |⟨_,d,T,o,E,D⟩
    .have:X.env.scope.names.lookup y=some .local:=k1;rw[ky]at this;cases this
    .rw[hy]at T;cases T;exact⟨o,t _ _ E,D⟩
   |1,p1,f=>
    cases p1;cases f;exact⟨u,rv,.inl ⟨S.lz,by simp⟩⟩
   |j+2,p1,f=>cases p1
  .rw[(B p).2];obtain⟨v0,o,E,D⟩:=I.cell y cy hy;exact⟨v0,o,t _ _ E,D⟩
  .rw[(B p).2];exact I.freeC y cy hy
 have Rl:Rs X.K H O [some (.val landU),some (.val itemU)] [some vy,some v] H O:=by
  refine⟨.refl H,λa n=>n,λa n=>.inl n,dO,rfl,λj sl p=>?_,λj k xs ys a p1=>?_⟩
  .match j,p with
   |0,p=>cases p;exact⟨vy,rfl,ry⟩
   |1,p=>cases p;exact⟨v,rfl,rz⟩
   |j+2,p=>cases p
  .match j,p1 with
   |0,p1=>cases p1
   |1,p1=>cases p1
   |j+2,p1=>cases p1
 refine PySem.W.kla_codeExpr (Lo (he [] _ _ H (λw h=>∃a l,w=.ref a/\aI H h/\H a=none/\h a=some (.lst l)/\Rps X.K (hid h (a::O)) l ks) J ⟨O,Rl,λa l h p1 f Q p4=>⟨a,l,rfl,p1,f,Q,p4⟩⟩) (λr s' hr=>?_) λ_ _ hF=>hF.elim);obtain⟨w,h,C,Y,a,l,rfl,sm,na,n,R⟩:=hr;have Z:a ∉ O:=λz=>dO a z na;have g:aI (hid h (a::O)) (hid h O):=aW λb hb=>JL _ hb;refine⟨.ref a,h,I.call' C.os C.base C.hok C.bare (λb z=>(by cases z)),sm,Y,?_⟩;exact .lst (bS n Z) (R.same g).len (R.same g).at_
end
section
variable {X:Cx}{H0:Hp}{O0:List Kb}{ps:PSt}
theorem Ce{iy:Nat} 
  (hc:X.calm=true) (hu:X.A.units+10<MA) (hdp:X.A.depth<PU) (hg:Gl X "min") (hm:X.mg "min"=none) (T:TbF X.K X.mg f c P b)
  (ha:Ev X H0 O0 ps e (.lst items)) (Vl:0<items.length) (hi:X.N[iy]?=some y) (VH:ps[iy]?=some (some (.val landU))) (hy:X.env.cells.lookup y=some cy) (ky:X.env.scope.names.lookup y=some .cell)
  (W5:X.env.code=.ref c) (hq:X.env.qual++"<lambda>"=jQ) (hcl:Rj U9 X.env=pure [(y,cy)]) (hdef:defaultsOf params X.env=([],[]))
  (S:E1 U9 y z) (hyz:y≠z) (hb:∀u E Y m,OG (T4 "<lambda>" jQ params Vk U9 [(y,cy)] E (.ref m) Y) ⟨[u],[]⟩=pure [(z,u)])
  (he:∀s H q m O j x,items[j]?=some x->EvN (Ci X X.A.in1 s H U9 [y,z] q m [(y,cy)]) H O [some (.val landU),some (.val x)] Vk ((kf j).map pu))
  (hs:JO [e] X.env=(false,LD e X.env)::JO [] X.env:=by rfl):
  Ev X H0 O0 ps (.Call (.Name "min" p) [e] [⟨some "key",.Lambda params Vk U9 lpos,kpos⟩] pos) (items.getD (abK kf (items.length-1)) .non):=by
 rintro U8 s σ H Q I ⟨O,R,q⟩;refine Kw (cQ I hg hm boot_min ?_);refine callWith_kw (thn (bH ha cU hs pos U8 s σ H (λD o=>∃v,D=[v]/\aI H o/\Rp X.K (hid o O) v (.lst items)) I ⟨O,R,λv o V r1=>⟨v,rfl,V,r1⟩⟩) λus V g=>?_) (by rw[hs];rfl) (by rw[hs];rfl);obtain⟨D,o,I1,rv,v,rfl,J,rp⟩:=g;obtain⟨u,rfl,B⟩:=c8 rv;cases rp with
 | @lst a L _ Wu U l=>
  cases B;obtain⟨vy,t,ry⟩:=R.at_ iy _ VH;refine kws_cons (Bd I1 T W5 hq hcl hdef λlq m E Y s2 H2 I2 h gq lr fq=>kws_nil ?_);have VG:SqL X.K H2 a L:=h.seq (aH.seq (SqL.of Wu));have wl:0<L.length:=by rw[U];exact Vl
  refine yu (O:=O) (kf:=kf) hc hu I2 VG wl fq gq (λv z=>by cases z) (λWj M n j v u k i d F B=>?_) (λv u M n C e2 i d=>?_)
  .have hj':=aT F;have g:items[j]?=some (items[j]'(by lia)):=JG (by lia);have G:=(J.trans h).trans d;have r:=(i.pin _ (J1 _ k)).1;refine BQ hc hdp i r ((lr.same d).rec i) hy hi t ky S hyz (hb u _ _ _) (λa' w Z=>R.dom a' w (G.free Z)) (Rp.same (aF G) ry) B ((l j v _ F g).same (aF (h.trans d))) (he M n lq m O j _ g)
  .have W:=aT C;rw[U]at C W;have g:=JG W;refine⟨v,n,i,e2,q v n ((J.trans h).trans d) ?_⟩;rw[JW,g];exact (l _ v _ C g).same (aF (h.trans d))
end
theorem FJ{K:JI}{st:Mm}(F:Fun K nm Vd st f fd)(S:au N pn (ai st))(n:∀c o,Vf c o->c.length=pn.length)
  (VC:∀A b s H E O c o,bu k (A.deeper (Pl Vd (ai st) s.heap.objs.size f fd.code))->Vf c o->
   Ws (iP (CXF P w) P w K mg base N Vd (ai st) f fd.code A b s H E) H O E (bA st) ⟨λ_=>o=.val .non,λp=>p=o,λ_=>False,λ_=>False⟩ (de N c)):bV P w K mg base (CXF P w) (k+1) f fd pn (spU K Vf):=by
 obtain⟨L,T,kV,J,G,M,y,U,Y,rfl,B,x⟩:=F.ex;refine E6 B x S (λt H Q E h=>?_) λA b s H t Q E z h=>?_
 .obtain⟨c,O,o,_,r,m,_⟩:=h;rw[r.len];exact n c o m
 .obtain⟨c,O,o,d,r,m,q⟩:=h;refine⟨_,VC A b s H E O c o z m,⟨λZ X C W R e=>?_,λ_ _ _ _ _ e=>e.elim,λ_ _ _ _ _ e=>e.elim,λp e=>by subst e;exact q⟩,O,?_⟩
  .subst e;exact q .non C R.same .non
  .refine⟨.refl H,λa h=>h,λa h=>.inl h,d,?_,λi I e=>?_,λi j xs ys a l V _ _=>?_⟩
   .unfold start de;rw[Ko,Ko,JK,JK,Lj,Lj,r.len]
   .unfold de at e;by_cases g:i<c.length
    .rw[JZ (by simpa using g),JQ,JG g]at e
     cases e;obtain⟨v,u,D⟩:=r.get (JG g);refine⟨v,?_,D⟩;unfold start;rw[JZ (by simpa [r.len] using g),JQ,u];rfl
    .rw[J3 (by simpa using g),K8]at e
     split at e <;>cases e
   .exfalso
    unfold de at l;by_cases g:i<c.length
    .rw[JZ (by simpa using g),JQ,JG g]at l
     cases l
    .rw[J3 (by simpa using g),K8]at l
     split at l <;>cases l
section
variable {K:JI}{tb:Kb}
theorem DN(c:K.lookup tb=some sQ)(h:K.lookup b=some o)(d:∀a,o.data≠.fields a):b≠tb:=λz=>by
 rw[z,c]at h;cases h;exact d _ rfl
theorem Do(h:Lz K c tb=true):Lz (b5 tb K) c tb=true:=by
 have n:c≠tb:=by
  unfold Lz at h;split at h
  .simp only[K3]at h;intro z;rw[z]at h;simp at h
  .cases h
 unfold Lz at *;rw[fc,if_neg n];exact h
end
theorem Go{K:JI}(h:K.lookup c=some o)(k:Lz [(c,o)] c tb=true):Lz K c tb=true:=by
 have e:([(c,o)]).lookup c=some o:=by simp[Nk]
 unfold Lz at *;rw[h];rw[e]at k;exact k
end L2
namespace L2
open PySem PySem.W PySem.Calls PySem.Spec PyProof.Rows
theorem Je{K:JI}(X:K.In h)(j:h.get? tb=some sQ)(i:h.get? b=some ob):∃K2:JI,K2.In h/\(∀a o,K.lookup a=some o->K2.lookup a=some o)/\K2.lookup tb=some sQ/\K2.lookup b=some ob:=by
 have one:∀(K:JI) a o,K.In h->h.get? a=some o->U7 ((a,o)::K) h/\(∀c d,K.lookup c=some d->((a,o)::K).lookup c=some d)/\((a,o)::K).lookup a=some o:=λK a o X e=>by
  refine⟨λc d q=>?_,λc d q=>?_,by simp[Nk]⟩
  .rw[K5]at q;by_cases z:c=a
   .rw[z]at q |-;simp at q;rw[<-q];exact e
   .rw[beq_eq_false_iff_ne.mpr z]at q;exact X _ _ q
  .rw[K5];by_cases z:c=a
   .have:=X _ _ q;rw[z,e]at this;rw[z];simpa using this
   .rw[beq_eq_false_iff_ne.mpr z];exact q
 obtain⟨k,n,g⟩:=one K tb sQ X j;obtain⟨m,f,l⟩:=one _ b ob k i;exact⟨_,m,λa o q=>f _ _ (n _ _ q),f _ _ g,l⟩
def EY(c:Str→Option J0)(h:Mf):Prop:=∃b a,c "__builtins__"=some (.ref b)∧b≠Pd∧h.get? b=some a∧a.cls=.type "module"∧a.dict=some Pd∧a.data=.plain
theorem walk_ofT2{l:S9}{K:Params->JI}{E:List Kb}{sp:JI->Sp} 
  (hn:l.most=some n) (hn2:n<=sizeLine) (hdf:d.params.defaults=[]) (hr:bu k Sa)
  (hY:∀w h,YP w h->(K w.params).In h/\∀P∈E,h.get? P=some (tabObj #[]))
  (F:∀w i t h,(K w.params).In h->(∀P∈E,h.get? P=some sQ)->EY i h->h.Ns K1 i->i d.name=some (.ref t)->
   ∃K2 f c p A,K2.In h/\tZ K2 i f c p/\(∀s u,S4 s A ⟨[u],[]⟩ [(x,u)])/\
    ∀base,(b5 p K2).In base->base.Ns K1 i->bV l.prog w (b5 p K2) i base CX k t A [x] (sp (b5 p K2)))
  (VW:∀K H a (ns:List Int),ns.length<=n->(∀m∈ns,Sz 1048576 m)->SqL K H a (ns.map V.int)->sp K [.ref a] H (λv _=>v=.bl true) λ_ _ _=>False)
  (hCX:∀H s e z,CX [] H s (λ_ _ _=>False) e z->False):
  Ud q loose XP YP l.row.toRowW d [] (λf B=>U1 f B):=by
 refine qc hn hdf λw D M i mb t o S cd X a B ns G Y Z W U y r R C j O=>?_;obtain⟨Q,TS⟩:=hY w _ Y;obtain⟨K2,f,c,p,A,J,TB,I,N⟩:=F w i t _ Q TS G.T.bmain G.T.g y;exact xK J TB G.T.g G.T.b G.T.builtins G.T.nolimit O r R (KH C hn2) hr N I (λH L=>VW _ H a ns C j L) λH e z=>hCX H M e z
end L2
namespace L2
open PySem PySem.Spec PySem.W PyProof.Rows
def Has(K J:JI):Prop:=∀a o,K.lookup a=some o->o≠sQ->J.lookup a=some o
section
variable {K J:JI} (S:Has K J)
include S
theorem Has.ns(h:nsIn K n x=some r):nsIn J n x=some r:=by
 unfold nsIn at *;cases hk:K.lookup n with
 |none=>rw[hk]at h;cases h
 |some o=>
  rw[hk]at h;rw[S _ _ hk (λz=>by subst z;cases h)]
  exact h
theorem Has.own(h:ownIn K x v=some r):ownIn J x v=some r:=by
 unfold ownIn at *;cases v with
 |ref a=>
  dsimp only at *;cases hk:K.lookup a with
  |none=>rw[hk]at h;cases h
  |some o=>
   rw[hk]at h;rw[S _ _ hk (λz=>by subst z;cases h)]
   obtain⟨c,d,dt,e⟩:=o;cases dt with
   |cls b=>exact S.ns h
   |_=>exact h
 |_=>exact h
theorem Has.along:∀{l}{r},alongIn K x l=some r->alongIn J x l=some r
 |[],r,h=>h
 |v::l,r,h=>by
  rw[alongIn]at h |-;cases ho:ownIn K x v with
  |none=>rw[ho]at h;cases h
  |some a=>
   rw[ho]at h;rw[S.own ho];cases a with
   |none=>exact Has.along h
   |some u=>exact h
theorem Has.find(h:findIn K v x=some r):findIn J v x=some r:=by
 unfold findIn at *;cases v with
 |ref a=>
  dsimp only at *;cases hk:K.lookup a with
  |none=>rw[hk]at h;cases h
  |some o=>
   rw[hk]at h;rw[S _ _ hk (λz=>by subst z;cases h)]
   obtain⟨c,d,dt,e⟩:=o;cases dt with
   |cls b=>exact S.along h
   |_=>exact h
 |_=>exact h
theorem Has.ty(h:typeIn K v=some t)(n:t≠.none):typeIn J v=some t:=by
 unfold typeIn at *;cases v with
 |ref a=>
  dsimp only at *;cases hk:K.lookup a with
  |none=>rw[hk]at h;cases h
  |some o=>
   rw[hk]at h;rw[S _ _ hk (λz=>by subst z;cases h;exact n rfl)]
   exact h
 |_=>exact h
theorem Has.special(h:specialIn K v x=some r):specialIn J v x=some r:=by
 unfold specialIn at *;cases ht:typeIn K v with
 |none=>rw[ht]at h;cases h
 |some t=>
  rw[ht]at h;rw[S.ty ht (λz=>by subst z;cases h)]
  exact S.find h
theorem Has.fn(h:isFn K v=true):isFn J v=true:=by
 unfold isFn at *;rw[S.ty (Ra h) (by simp)];rfl
theorem Has.cls(h:clsIn K C=some cd):clsIn J C=some cd:=by
 unfold clsIn at *;cases hk:K.lookup C with
 |none=>rw[hk]at h;cases h
 |some o=>
  rw[hk]at h;rw[S _ _ hk (λz=>by subst z;cases h)]
  exact h
theorem Has.any(h:U4 p (clsIn K C)=true):U4 p (clsIn J C)=true:=by
 cases hk:clsIn K C with
 |none=>rw[hk]at h;cases h
 |some o=>rw[hk]at h;rw[S.cls hk];exact h
theorem Has.sub(h:subIn K t b=some r):subIn J t b=some r:=by
 unfold subIn at *;cases t with
 |ref C=>
  dsimp only[mroIn]at *;cases hk:clsIn K C with
  |none=>rw[hk]at h;cases h
  |some o=>rw[hk]at h;rw[S.cls hk];exact h
 |_=>exact h
theorem Has.inst(h:instIn K v b=some r):instIn J v b=some r:=by
 unfold instIn at *;cases ht:typeIn K v with
 |none=>rw[ht]at h;cases h
 |some t=>
  rw[ht]at h;rw[S.ty ht (λz=>by subst z;cases h)]
  exact S.sub h
theorem Has.keep(h:keepIn K v=true):keepIn J v=true:=by
 unfold keepIn at *;cases v with
 |ref a=>
  dsimp only at *;cases hk:K.lookup a with
  |none=>rw[hk]at h;cases h
  |some o=>
   rw[hk]at h;rw[S _ _ hk (λz=>by subst z;cases h)]
   obtain⟨c,d,dt,e⟩:=o;cases dt with
   |cls b=>exact beq_iff_eq.mpr (S.special (Ra h))
   |_=>exact h
 |_=>exact h
theorem Has.code(h:codeIn K cd q=true):codeIn J cd q=true:=by
 unfold codeIn at *;cases cd with
 |ref c=>
  dsimp only at *;cases hk:K.lookup c with
  |none=>rw[hk]at h;cases h
  |some o=>rw[hk]at h;rw[S _ _ hk (λz=>by subst z;cases h)];exact h
 |_=>exact h
theorem Has.makes(h:makesIn K C=true):makesIn J C=true:=by
 unfold makesIn at *;cases hk:K.lookup C with
 |none=>rw[hk]at h;cases h
 |some o=>
  rw[hk]at h;rw[S _ _ hk (λz=>by subst z;cases h)]
  obtain⟨c,d,dt,b⟩:=o;cases dt with
  |cls a=>
   simp only[K3]at h |-;exact⟨⟨h.1.1,beq_iff_eq.mpr (S.special (Ra h.1.2))⟩,beq_iff_eq.mpr (S.inst (Ra h.2))⟩
  |_=>exact h
theorem Has.clsOk(h:Cls K C):Cls J C:=by
 refine⟨?_,S.any h.hd,S.any h.po,S.find h.sa⟩;have:=h.pg;unfold plainGet at *;simp only[K3]at this |-;exact⟨beq_iff_eq.mpr (S.find (Ra this.1)),beq_iff_eq.mpr (S.find (Ra this.2))⟩
theorem Has.tab(h:q0 w K d vs):q0 w J d vs:=by
 obtain⟨b,c,n,f,a,e⟩:=h;exact⟨b,c,n,f,a,S _ _ e (λz=>by cases z)⟩
end
section
variable {K J:JI}{h:Mf}{mg:Str→Option J0}{x q:Str}{st:Mm}{ps:List Str}{f C D:Kb}{j:Int}{oc:J0}{od an:Option Kb}{kV dc pm cd ct:J0}{sl:Array (Option J0)}
noncomputable def dfnJ(S:Has K J)(X:K.In h)(G:h.Ns K1 mg)(b:l9 x x st ps)(a:nsIn K K1 x=some (some (.ref f)))(l:K.lookup f=some ⟨oc,od,.func (fnOf x x (cV st) (bA st) (ai st) .none kV dc pm an cd ct),sl⟩)(c:codeIn K cd x=true)(k:keepIn K (.ref f)=true):Dfn J mg x st ps:=
 ⟨f,_,jG (S _ _ l (λz=>by cases z)) (S.code c) (S.keep k),(jG (S _ _ l (λz=>by cases z)) (S.code c) (S.keep k)).binds b,mg_of X G a⟩
noncomputable def mdfJ(S:Has K J)(b:l9 x q st ps)(a:findIn K (.ref C) x=some (some (.ref f)))(l:K.lookup f=some ⟨oc,od,.func (fnOf x q (cV st) (bA st) (ai st) .none kV dc pm an cd ct),sl⟩)(c:codeIn K cd q=true)(k:keepIn K (.ref f)=true)(n:isFn K (.ref f)=true):MDf J C x q st ps:=
 mdf b (S.find a) (S _ _ l (λz=>by cases z)) (S.code c) (S.keep k) (S.fn n)
noncomputable def idfJ(S:Has K J)(b:l9 "__init__" q st ps)(a:findIn K (.ref C) "__init__"=some (some (.ref f)))(l:K.lookup f=some ⟨oc,od,.func (fnOf "__init__" q (cV st) (bA st) (ai st) .none kV dc pm an cd ct),sl⟩)(c:codeIn K cd q=true)(k:keepIn K (.ref f)=true)(n:isFn K (.ref f)=true)(d:makesIn K C=true)(ch:keepIn K (.ref C)=true):IDf J C "__init__" q st ps:=
 idf b (S.find a) (S _ _ l (λz=>by cases z)) (S.code c) (S.keep k) (S.fn n) (S.makes d) (S.keep ch)
structure TfA(K:JI)(mg:Str→Option J0)(D:Dfn K mg "to_form" st ps):Prop where
 ex:∃c P b,TbF K mg D.a c P b/\D.d.code=.ref c
theorem tf_start{t:List Kb}(X:K.In h)(A:∀P∈t,h.get? P=some sQ)(x:EY mg h)(G:h.Ns K1 mg)(a:nsIn K K1 "to_form"=some (some (.ref f)))
  (l:K.lookup f=some ⟨oc,od,.func (fnOf "to_form" "to_form" (cV st) (bA st) (ai st) .none kV dc pm an cd ct),sl⟩) (u0:cd=.ref c) (w1:K.lookup c=some ⟨.type "code",odc,.fields vsc,slc⟩) (w2:vsc[11]?=some (.ref P)) (w3:codeHdIn [(c,⟨.type "code",odc,.fields vsc,slc⟩)] c P=true) (u2:P∈t)
  {R:Prop} (k:∀K2,K2.In h->tZ K2 mg f c P->Has K (b5 P K2)->∀b,TbF (b5 P K2) mg f c P b->R):R:=by
 obtain⟨b,C,i,p,s,q,j,d⟩:=x;obtain⟨K2,w,g,r,u⟩:=Je X (A _ u2) s;have v:=Go (g _ _ w1) w3;have S:Has K (b5 P K2):=λa o e n=>iF (λz=>n (by have:=g _ _ e;rw[z,r]at this;cases this;rfl)) (g _ _ e);have y:=S _ _ l (λz=>by cases z);have m:=iF (DN r u λB z=>by rw[d]at z;cases z) u;exact k K2 w ⟨mg_of X G a,⟨_,_,g _ _ l,rfl,u0⟩,v,r⟩ S b ⟨mg_of X G a,⟨_,_,y,rfl,u0⟩,Do v,i,p,⟨_,m,q,j,d⟩⟩
end
abbrev OkD(P:J2)(w:Kt)(b:Mf){K:JI}{e:Str->Option J0}{x:Str}{st:Mm}{c:List Str}(D:Dfn K e x st c)(n:Nat)(f:List U->Out->Prop):Prop:=bV P w K e b (CXF P w) n D.a D.d c (spU K f)
structure Z0 where
 cdv:J0
 A:K7
 outer:List Env
 s:JY
 H:Hp
 E:XK
 O:List Kb
section
variable {X:Cx}{H0:Hp}{O0:List Kb}{ps:PSt}{e:Expr}{es:List Expr}{pos p:Pos}{u x y:U}{xs us:List U}{n m i:Nat}{st:Mm}{pn N:List Str}{Vf:List U→Out→Prop}{sd:Kb→List (Str×U)→List U→Out→Prop}{nm q:Str}{P:J2}{w:Kt}{K:JI}{mg:Str→Option J0}{base:Mf}{C a d:Kb}{Va WE:List (Str×U)}{b:Bool}
theorem aQ{D:Dfn X.K X.mg nm st pn}(F:bV X.prog X.w X.K X.mg X.base (CXF X.prog X.w) n D.a D.d pn (spU X.K Vf))(i:bu m X.A)(f:EvA X H0 O0 ps (e::es) us)(h:Vf us (.val u))(c:n<=m:=by decide)(g:Gl X nm:=by rfl)
  (VF:(nm==("__debug__":Str))=false:=by decide) (he:JO (e::es) X.env=(false,LD e X.env)::JO es X.env:=by rfl) (VA:(Ll pos (JO es X.env)).any (·.1)=false:=by rfl):
  Ev X H0 O0 ps (.Call (.Name nm p) (e::es) [] pos) u:=G4 (F.mono c) i g D.m D.F.kp D.b c7 f h VF he VA
theorem eJ{D:Dfn X.K X.mg nm st pn}(F:bV X.prog X.w X.K X.mg X.base (CXF X.prog X.w) n D.a D.d pn (spU X.K Vf))(i:bu m X.A)(f:EvA X H0 O0 ps (e::es) us)(h:Vf us (.new xs))(c:n<=m:=by decide)(g:Gl X nm:=by rfl)
  (VF:(nm==("__debug__":Str))=false:=by decide) (he:JO (e::es) X.env=(false,LD e X.env)::JO es X.env:=by rfl) (VA:(Ll pos (JO es X.env)).any (·.1)=false:=by rfl):
  EvN X H0 O0 ps (.Call (.Name nm p) (e::es) [] pos) xs:=BG (F.mono c) i g D.m D.F.kp D.b c7 f h VF he VA
theorem aX(b:bu n X.A)(a:okU 9 x=true:=by walk_at"ok")(c:okU 9 y=true:=by walk_at"ok"):OpS X (KO .Eq) x y (.bl (eqW x y)):=IV (iG b) a c
theorem fi(b:bu n X.A)(a:okU 9 x=true:=by walk_at"ok")(c:okU 9 y=true:=by walk_at"ok"):OpS X (KO .NotEq) x y (.bl (!eqW x y)):=IQ (iG b) a c
theorem ax(i)(a:X.N.Nodup)(b:Ev X H0 O0 ps e u)(h:D.nx (ps.set i (some (.val u))))(c:X.N[i]?=some z:=by rfl)(d:Loc X.env.scope z:=by exact Or.inl rfl)(hs:Mn e (some (.Name z Vq)) pos.line X.env=pure false:=by rfl)(f:X.fn z=true\/X.env.scope.names.lookup z=some .local:=by first |exact .inl rfl |exact .inr rfl |assumption):
  W1 X H0 O0 E (.Assign [.Name z Vq] e pos) D ps:=vL a c d b h hs f
theorem xo{D:MDf X.K C nm q st pn}(F:bV X.prog X.w X.K X.mg X.base (CXF X.prog X.w) n D.a D.d pn (spD X.K false C sd))(i:Nat)(j:Cls X.K C)(k:bu m X.A)(l:ps[i]?=some (some (.dsk b C a d Va)))(g:EvA X H0 O0 ps (e::es) us)(h:sd d Va us (.val u))(c:n<=m:=by decide)
  (Xf:(nm==("lands":Str))=false:=by decide) (hN:X.N[i]?=some z:=by rfl) (hv:Vis X.env.scope z:=by first |exact Or.inl rfl |exact Or.inr (Or.inl rfl) |exact Or.inr (Or.inr rfl)) (hd:(z==("__debug__":Str))=false:=by decide) (VD:(z==("__classdict__":Str))=false:=by decide)
  (VE:JO (e::es) X.env=(false,LD e X.env)::JO es X.env:=by rfl) (VA:(Ll pos (JO es X.env)).any (·.1)=false:=by rfl)
  (ht:LD (.Call (.Attribute (.Name z p) nm Vg) (e::es) [] pos) X.env=(do
   let ov <-LD (.Name z p) X.env
   RB Vg.atName
   let (f,first) <-Pf [ov] (Pj ov nm pl)
   RJ pos f first (Ll pos (JO (e::es) X.env)) (Na pos (LG [] X.env))):=by rfl):
  Ev X H0 O0 ps (.Call (.Attribute (.Name z p) nm Vg) (e::es) [] pos) u:=Gn l j D.m (F.mono c) k D.b c7 g h Xf hN hv hd VD VE VA ht
theorem okD{D:Dfn K mg nm st pn}(S:au N pn (ai st))(c:∀us o,Vf us o->us.length=pn.length)
  (hb:∀(Z:Z0) us o,bu m (Z.A.deeper (Pl nm (ai st) Z.s.heap.objs.size D.a Z.cdv))->Vf us o->
   Ws (iP (CXF P w) P w K mg base N nm (ai st) D.a Z.cdv Z.A Z.outer Z.s Z.H Z.E).nox Z.H Z.O Z.E (bA st) ⟨λ_=>o=.val .non,λe=>e=o,λ_=>False,λ_=>False⟩ (de N us)):OkD P w base D (m+1) Vf:=
 IN D.F S c λd A b s H E O us o f h=>Ws.nox (hb ⟨d,A,b,s,H,E,O⟩ us o f h)
end
end L2
namespace ST
open PySem PySem.W PyProof.Rows PySem.Calls
section
variable {prog:J2}{w:Kt}{A:K7}{E:J0→JY→Prop}{s:JY}
theorem call_sorted_setS(hh:A.handled=none)(hu:A.units+5<MA)(P:SP prog w s.heap S kb)(h64:kb.length<64)(h2:∀p∈kb,p.1.length=2)
  (h:∀(n f:Mf) u (H:PB) e,Th H (ptsOf kb)→(H.map (·.1)).Pairwise (λx y=>ltP x y=true)→(∀b o,s.heap.get? b=some o→n.get? b=some o)→(∀b o,n.get? b=some o→f.get? b=some o)→f.get? n.objs.size=some (Oe "list" (refs H).toArray e)→Q (.ref n.objs.size) {s with heap:=f,toks:=u }):
  Kj (Kk prog w) A (call (.builtin "sorted") [.ref S]) Q E s:=by
 obtain⟨⟨o,l,v,t,ho,F,hd,M,T,hl,hp,_,_⟩,hk,Xr⟩:=P;have X:l.size=kb.length:=by rw[<-Ke,M];simp[ents]
 have O:SO prog w o l v t (kb.map λp=>hsh prog w p.1):=⟨F,hd,T,by rw[JK,X],hl,hp⟩
 have two:∀p∈kb,p.1=[p.1.getD 0 0,p.1.getD 1 0]:=λp J=>by
  have:=h2 p J
  match N:p.1,this with
  |[x,y],_=>rfl
 refine call_function_entry kind_sorted plain_sorted entry_sorted (args_sorted1 _) ?_;unfold Builtin.«sorted»;refine JH (m:=checkCount "sorted" 1 1 _) (JM ?_);refine JH (kdu_collect (A:=A.in1) (Dd O) hh ho (by rw[X,Lg];lia) λf u c keep V=>?_)
 have Xe:c.toList=cH w S l v:=by
  apply L3;intro i;rcases L1 i c.size with z |z
  .rw[KI,Lb z];exact (V.2 i _ (Lb z)).symm
  .rw[Kg (by simpa using z),Kg];rw[(fj w S l v).length_eq,JK,Ke,<-V.1];exact z
 obtain⟨d,j,ek⟩:=BN (λ(p:List Int×Kb)=>Ku p.2) (fj w S l v) kb (by rw[M];unfold ents;rw[Ka];rfl)
 have W:c.toList=refs (ptsOf d):=by
  rw[Xe,ek];unfold refs ptsOf;rw[Ka];rfl
 have WC:(ptsOf d).length=kb.length:=by unfold ptsOf;rw[JK,j.length_eq]
 have g:c.toList.length=kb.length:=by rw[W];simp[WC]
 refine JH (Qv ?_ (by rw[g,Lg];lia))
 have I:(f.push {cls:=.type "list",data:=.seq c.toList.toArray }).get? f.objs.size=some (Oe "list" (refs (ptsOf d)).toArray 0):=by
  rw[<-W];exact JT _ rfl
 have B:∀p∈ptsOf d,TK prog w (f.push {cls:=.type "list",data:=.seq c.toList.toArray }) [p.1.1,p.1.2] p.2:=λp J=>by
  obtain⟨q,N,rfl⟩:=JS.mp J;have L:=j.mem_iff.mp N;obtain⟨oq,Vb,k,D,r⟩:=hk q L;have e2:=two q L;refine⟨oq,Vb,k,JJ _ (keep _ _ D),?_⟩;rw[<-e2];exact r
 have G:((ptsOf d).map (·.1)).Nodup:=by
  have n1:=((j.map (·.1)).nodup_iff).mpr Xr;unfold ptsOf;rw[Ka];refine Lq.mpr ((Lq.mp n1).imp_of_mem λ{a b} ha Z Xh=>?_);intro z;have R:=two a (j.mem_iff.mp ha);have eb:=two b (j.mem_iff.mp Z);have C:(a.1.getD 0 0,a.1.getD 1 0)=(b.1.getD 0 0,b.1.getD 1 0):=z;rw[Prod.mk.injEq]at C;rw[C.1,C.2]at R;exact Xh (R.trans eb.symm)
 refine JH (KB (Le TX ⟨_,I,rfl⟩ Tp ?_ (TY _)));refine SG.sort_g ST3.KP (s:={s with heap:=f.push {cls:=.type "list",data:=.seq c.toList.toArray },toks:=u }) I B (by show A.units+1+1+1<MA;lia) ((0,0),0) G (by lia) λY pp so=>⟨_,rfl,JM ⟨_,rfl,?_⟩⟩
 obtain⟨e,eD⟩:=sortedHeap_at (out:=(refs Y).toArray) I;refine h f _ u Y e (pp.trans ?_) so keep (λb x U=>?_) eD
 .unfold ptsOf;exact j.map _
 .have K:=JU U;rw[TZ (Kh K) (by rw[KU];exact LZ K)];exact JJ _ U
end
end ST
namespace ST6
open PySem PySem.W PySem.Calls PyProof.Rows ST
noncomputable def K6:SG.Ky (List Int):=⟨ltL,tR,pU,wV,λa w h k b=>TK a w h k b/\k.length=6,Sf true,λh e=>⟨TK6.grow h.1 e,h.2⟩,λ_ h k q=>FQ h.2 k.2 h.1 k.1 q,λh k q=>zV (λp c=>(h p c).2) (λp c=>(h p c).1) k q⟩
end ST6
namespace L2
open PySem PySem.Spec PyProof.Rows
section
variable {X:Cx}{H0:Hp}{O0:List Kb}{ps:PSt}{e:Expr}{pts:List P2}{VM:List (List Int)}{pos Vq p p':Pos}
theorem fJ(hc:X.calm=true)(hu:X.A.units+10<MA)(hg:Gl X "sorted")(hm:X.mg "sorted"=none)(hgs:Gl X "set")(hms:X.mg "set"=none)(ha:Ev X H0 O0 ps e (lp pts))(hl:pts.length<64)
  (he:JO [e] X.env=(false,LD e X.env)::JO [] X.env:=by rfl):EvN X H0 O0 ps (.Call (.Name "sorted" p) [.Call (.Name "set" p') [e] [] Vq] [] pos) ((ST.srt pts).map pu):=by
 rintro U8 s U H Q I ⟨O,R,q⟩;have hh:=I.ok.hd hc;refine Kw (cQ I hg hm boot_sorted ?_);refine callWith_builtin1 (e:=.Call (.Name "set" p') [e] [] Vq) (rest:=[]) ?_ rfl rfl;refine Mq ?_;refine Kw (cQ I hgs hms Cq ?_);refine callWith_type1 (thn (bH ha cU he Vq U8 s U H (λvs g=>∃v,vs=[v]/\aI H g/\Rp X.K (hid g O) v (lp pts)) I ⟨O,R,λv g F r1=>⟨v,rfl,F,r1⟩⟩) λus F hx=>?_) he rfl;obtain⟨vs,g,I1,rv,v,rfl,sm,rp⟩:=hx;obtain⟨u,rfl,ru⟩:=c8 rv;cases rp with
 | @lst a N _ hq Xg hwi=>
  cases ru;obtain⟨D,VU,pl,h⟩:=I1.list (SqL.of (aH _ _ hq));have hlp:N.length=pts.length:=by rw[Xg,JK]
  have W:D.length=pts.length:=by rw[<-VU.length,hlp]
  have M:∀i,i<pts.length->∃b,D[i]?=some (.ref b)/\Rp X.K (hid g O) (.ref b) (pu (pts.getD i (0,0)))/\ST.TK X.prog X.w F.heap [(pts.getD i (0,0)).1,(pts.getD i (0,0)).2] b:=λi C=>by
   have hw:N[i]?=some N[i]:=JG (by lia);have hp:(pts.map pu)[i]?=some (pu (pts.getD i (0,0))):=by rw[JQ,JG C];simp[C]
   have r:=hwi i _ _ hw hp;obtain⟨u',B,G⟩:=VU.get hw;generalize N[i]=z at *;cases r with
   | @tup b zs _ hs XD m=>
    cases G;refine⟨b,B,Rp.tup hs XD m,?_⟩;obtain⟨XE,rj,ht,_⟩:=I1.tuple (by exact aH.tup hs);have z0:=XD;obtain⟨z1,z2,rfl⟩:=len2 z0;have q1:=m 0 z1 _ rfl rfl;have q2:=m 1 z2 _ rfl rfl;cases q1;cases q2;obtain⟨u1,u2,rfl,r1,r2⟩:=kH rj;obtain⟨t1,rfl⟩:=r1;obtain⟨t2,rfl⟩:=r2;obtain⟨o,ho,W7,n,hod⟩:=ht;exact⟨o,_,n,ho,W7,hod,.cons (Mt _ _ _ _) (.cons (Mt _ _ _ _) .nil)⟩
  obtain⟨Wg,Yd⟩:=Ho M;have VI:D.toArray.size=pts.length:=by simp[W]
  refine ST.call_set_pts (λi=>([(pts.getD i (0,0)).1,(pts.getD i (0,0)).2],Wg i)) hh (by show X.A.units+1+1+1<MA;lia) pl.isList (λi z ez=>?_) (λi C=>?_) (by rw[VI];lia) λh2 T kb sp d keep=>?_
  .have C:i<pts.length:=by have:=aT (show D[i]?=some z by simpa using ez);lia
   have:=(Yd i C).1;rw[show D.toArray[i]?=D[i]? by simp,this]at ez
   cases ez;rfl
  .exact (Yd i (by rw[VI]at C;exact C)).2.2
  .rw[VI]at d;have I2:Inv X U8 U g {F with heap:=h2,toks:=T }:=I1.kept (t':=T) keep
   refine NU ?_;have Y:kb.length<64:=by have:=d.len;lia
   refine ST.call_sorted_setS (s:={F with heap:=h2,toks:=T }) hh (by show X.A.units+5<MA;lia) sp Y (λz h=>by obtain⟨j,_,rfl⟩:=d.src z h;rfl) λP h4 t E ep pm so k1 k2 hD=>?_;have I3:Inv X U8 U g {F with heap:=P,toks:=t }:=I2.kept (t':=t) k1
   have J:∀z∈E,∃j,j<pts.length/\z=(pts.getD j (0,0),Wg j):=λz h=>by
    obtain⟨y,hy,rfl⟩:=JS.mp (pm.mem_iff.mp h);obtain⟨j,k,rfl⟩:=d.src y hy;exact⟨j,k,rfl⟩
   have c:E.map (·.1)=ST.srt pts:=by
    refine ST.asc_one so (ST.srt_asc pts) λz=>?_;rw[ST.srt_mem];constructor
    .intro h;obtain⟨y,hy,rfl⟩:=JS.mp h;obtain⟨j,k,rfl⟩:=J y hy;simp[k]
    .intro h;obtain⟨j,k⟩:=KJ.mp h;have Z:=aT k;have hk:=d.all j Z;obtain⟨y,hy,ey⟩:=JS.mp hk;have WB:((y.1.getD 0 0,y.1.getD 1 0),y.2)∈ST.ptsOf kb:=JS.mpr ⟨y,hy,rfl⟩;have L:=pm.mem_iff.mpr WB;refine JS.mpr ⟨_,L,?_⟩;rw[ey];have:pts.getD j (0,0)=z:=by rw[JW,k];rfl
     show ((pts.getD j (0,0)).1,(pts.getD j (0,0)).2)=z;rw[this]
   have S:g P.objs.size=none:=I3.hok.fresh (JR _);refine⟨.ref P.objs.size,upd g P.objs.size (.lst (E.map λz=>V.ref z.2)),?_,rfl,?_⟩
   .refine I3.laid (t':=t) k2 (JR _) ⟨?_,(ST.refs E),ep,?_,hD⟩
    .rw[JK,<-JK (f:=(·.1)),c,Lg];have:=ST.srt_len pts;lia
    .have all:∀l:ST.PB,aP (l.map λz=>V.ref z.2) (ST.refs l):=λl=>by
      induction l with
      |nil=>exact .nil
      |cons z r ih=>exact .cons rfl ih
     exact all E
   .refine q _ _ _ (sm.trans (aO S _)) (sm.free S) aG ⟨?_,λi z x B G=>?_⟩
    .rw[JK,<-c,JK,JK]
    .rw[<-c,Ka,JQ]at G;rw[JQ]at B;cases hpi:E[i]? with
     |none=>rw[hpi]at B;cases B
     |some y=>
      rw[hpi]at B G;cases B;cases G;obtain⟨j,k,rfl⟩:=J y (J8 hpi);exact (Yd j k).2.1.same (ba (aO S _) S)
theorem rG{α:Type}(S:SG.Ky α)(uf)(d:α){VM m:List α}(ma:m.Pairwise λx y=>S.lt x y=true)(mm:∀z,z∈m↔z∈VM)(VX:∀{W}{T}{H}{s}{z}{u}{a:α},a∈VM→Inv X W T H s→Rp X.K H z (uf a)→aM z u→∃b,z=.ref b∧u=.ref b∧S.is X.prog X.w s.heap a b)(hg:Gl X "sorted")(hm:X.mg "sorted"=none)(hu:X.A.units+10<MA)(ha:Ev X H0 O0 ps e (.lst (VM.map uf)))(hl:VM.length<64∧VM.Nodup)
  (he:JO [e] X.env=(false,LD e X.env)::JO [] X.env:=by rfl):EvN X H0 O0 ps (.Call (.Name "sorted" p) [e] [] pos) (m.map uf):=by
 obtain⟨hl,hn⟩:=hl;rintro W s T H Q I ⟨O,R,q⟩;refine Kw (cQ I hg hm boot_sorted ?_);refine callWith_builtin1 (e:=e) (rest:=[]) (thn (bH ha cU he pos W s T H (λvs k=>∃v,vs=[v]/\aI H k/\Rp X.K (hid k O) v (.lst (VM.map uf))) I ⟨O,R,λv k N r1=>⟨v,rfl,N,r1⟩⟩) λus N hx=>?_) he rfl;obtain⟨vs,k,I1,rv,v,rfl,sm,rp⟩:=hx;obtain⟨u,rfl,ru⟩:=c8 rv;cases rp with
 | @lst a P _ hq Xg Y=>
  cases ru;obtain⟨t,VU,pl,o⟩:=I1.list (SqL.of (aH _ _ hq));have hlp:P.length=VM.length:=by rw[Xg,JK]
  have hil:t.length=VM.length:=by rw[<-VU.length,hlp]
  have J:∀i,i<VM.length->∃b,t[i]?=some (.ref b)/\Rp X.K (hid k O) (.ref b) (uf (VM.getD i d))/\S.is X.prog X.w N.heap (VM.getD i d) b:=λi F=>by
   have hw:P[i]?=some P[i]:=JG (by lia);have hp:(VM.map uf)[i]?=some (uf (VM.getD i d)):=by rw[JQ,JG F];simp[F]
   have r:=Y i _ _ hw hp;obtain⟨u',c,n⟩:=VU.get hw;obtain⟨b,ez,rfl,tb⟩:=VX (by simp[F]) I1 (r.same aH) n;rw[ez]at r;exact⟨b,c,r,tb⟩
  let B:Nat->Kb:=λi=>match t[i]? with |some (.ref b)=>b |_=>0
  have M:∀i,i<VM.length->t[i]?=some (.ref (B i))/\Rp X.K (hid k O) (.ref (B i)) (uf (VM.getD i d))/\S.is X.prog X.w N.heap (VM.getD i d) (B i):=λi F=>by
   obtain⟨b,c,n,e3⟩:=J i F;have:B i=b:=by show (match t[i]? with |some (.ref b)=>b |_=>0)=b;rw[c]
   rw[this];exact⟨c,n,e3⟩
  generalize B=U at M;clear B;generalize XF:((Kr VM.length).map λi=>((VM.getD i d,U i):α×Kb))=pb
  have E:t=SG.rfs pb:=by
   apply L3;intro i;rw[<-XF];unfold SG.rfs;rcases L1 i VM.length with z |z
   .rw[(M i z).1];simp[z]
   .rw[Kg (by lia),Kg (by simpa using z)]
  have h:pb.map (·.1)=VM:=by
   rw[<-XF,Ka];apply L3;intro i;rcases L1 i VM.length with z |z
   .simp[z]
   .rw[Kg (by simpa using z),Kg z]
  have f:∀z∈pb,∃j,j<VM.length/\z=(VM.getD j d,U j):=λz o=>by
   rw[<-XF]at o;obtain⟨j,G,rfl⟩:=JS.mp o;exact⟨j,J_.mp G,rfl⟩
  have Z:pb.length=VM.length:=by rw[<-h,JK]
  rw[E]at pl;refine SG.call_g S (pb:=pb) pl.isList (λz o=>?_) (by show X.A.units+5<MA;lia) (d,0) (by rw[h];exact hn) (by lia) λh3 h4 D C ep pm so k1 k2 hD=>?_
  .obtain⟨j,G,rfl⟩:=f z o;exact (M j G).2.2
  .have I3:=I1.kept (t':=D) k1;have src:∀z∈C,∃j,j<VM.length/\z=(VM.getD j d,U j):=λz o=>f z (pm.mem_iff.mp o)
   have g:C.map (·.1)=m:=by
    refine SG.asc_one S so ma λz=>?_;rw[mm,(pm.map (·.1)).mem_iff,h]
   have L:=I3.hok.fresh (JR _);refine⟨.ref h3.objs.size,upd k h3.objs.size (.lst (C.map λz=>V.ref z.2)),?_,rfl,?_⟩
   .refine I3.laid (t':=D) k2 (JR _) ⟨?_,(SG.rfs C),ep,?_,hD⟩
    .rw[JK,pm.length_eq,Z,Lg];lia
    .have all:∀l:List (α×Kb),aP (l.map λz=>V.ref z.2) (SG.rfs l):=λl=>by
      induction l with
      |nil=>exact .nil
      |cons z r ih=>exact .cons rfl ih
     exact all C
   .refine q _ _ _ (sm.trans (aO L _)) (sm.free L) aG ⟨?_,λi z x c n=>?_⟩
    .rw[JK,<-g,JK,JK]
    .rw[<-g,Ka,JQ]at n;rw[JQ]at c;cases hpi:C[i]? with
     |none=>rw[hpi]at c;cases c
     |some y=>
      rw[hpi]at c n;cases c;cases n;obtain⟨j,G,rfl⟩:=src y (J8 hpi);exact (M j G).2.1.same (ba (aO L _) L)
theorem tE(d:Gl X "sorted")(a:X.mg "sorted"=none)(b:X.A.units+10<MA)(c:Ev X H0 O0 ps e (lp pts))(f:pts.length<64∧pts.Nodup)
  (he:JO [e] X.env=(false,LD e X.env)::JO [] X.env:=by rfl):EvN X H0 O0 ps (.Call (.Name "sorted" p) [e] [] pos) ((ST.srt pts).map pu):=
 rG ST3.KP pu (0,0) (ST.srt_asc pts) (λz=>ST.srt_mem z pts) (λ_ I r e=>Jh I r e) d a b c f he
theorem Jb(F:Inv X U8 σ H s)(r:Rp X.K H z (sxU g))(k:aM z u):∃b,z=.ref b/\u=.ref b/\ST.TK X.prog X.w s.heap g b:=by
 cases r with
 | @tup b c _ D p j=>
  cases k;obtain⟨e,d,G,_⟩:=F.tuple D;obtain⟨o,A,y,n,l⟩:=G;refine⟨b,rfl,rfl,o,_,n,A,y,l,?_⟩
  have h:∀g c e,c.length=g.length->(∀i v x,c[i]?=some v->(g.map U.int)[i]?=some x->Rp X.K H v x)->aP c e->ItemsAre (N_ X.prog X.w) g e:=λg=>by
   induction g with
   |nil=>intro c e f _ d;cases c with |nil=>cases d;exact .nil |cons a r=>simp at f
   |cons a g C=>
    intro c e f m d;cases c with
    |nil=>simp at f
    |cons z c=>
     cases d with
     |cons B d=>
      have q:=m 0 z _ rfl rfl;cases q;obtain⟨t,rfl⟩:=B;exact .cons (Mt _ _ _ _) (C c _ (by simpa using f) (λi v x E k=>m (i+1) v x E k) d)
  simpa using h g c e (by simpa using p) j d
theorem Ah(g:Gl X "sorted")(d:X.mg "sorted"=none)(f:X.A.units+10<MA)(a:Ev X H0 O0 ps e (.lst (VM.map sxU)))(c:VM.length<64∧VM.Nodup∧∀k∈VM,k.length=6)
  (he:JO [e] X.env=(false,LD e X.env)::JO [] X.env:=by rfl):EvN X H0 O0 ps (.Call (.Name "sorted" p) [e] [] pos) ((ST6.srtL VM).map sxU):=
 rG ST6.K6 sxU [] (ST6.srtL_ascL VM) (λz=>ST6.srtL_mem z VM) (λa I r e=>let ⟨b,h1,h2,h3⟩:=Jb I r e;⟨b,h1,h2,h3,c.2.2 _ a⟩) g d f a ⟨c.1,c.2.1⟩ he
end
end L2
local macro_rules | `(tactic|walk_at"sz")=>`(tactic|first |with_reducible assumption | ((with_reducible apply L2.Sz.sub') <;>walk_at"sz") | ((with_reducible apply L2.Sz.add') <;>walk_at"sz") | ((with_reducible apply L2.Sz.mul) <;>walk_at"sz") | ((with_reducible apply L2.Sz.neg) <;>walk_at"sz") | ((with_reducible apply L2.Sz.ediv) <;>walk_at"sz") | ((with_reducible apply L2.Sz.abs) <;>walk_at"sz") |exact L2.Sz.lit (m:=8) (by decide) |exact L2.Sz.emod (m:=250) (by decide) (by decide) |exact L2.Sz.lit (m:=250) (by decide))
local macro_rules | `(tactic|walk_at"mul")=>`(tactic|exact L2.Sz.ok (by walk_at"sz") (by walk_at"sz") (by decide))
local macro_rules | `(tactic|walk_at"div")=>`(tactic|first |exact⟨by decide,L2.Sz.mono (m:=250) (by decide) (by decide)⟩ |exact⟨by lia,L2.Sz.mono (by walk_at"sz") (by decide)⟩)
local macro_rules | `(tactic|walk_at"mod")=>`(tactic|first |decide |lia)
local macro_rules | `(tactic|walk_at"szb")=>`(tactic|exact L2.Sz.mono (by walk_at"sz") (by decide))
local macro_rules | `(tactic|walk_at"kit")=>`(tactic|first |exact L2.kit_int_int _ |exact L2.kit_int_bool _ |exact L2.kit_tuple_tuple _ |exact L2.kit_list_list _ |exact L2.kit_bool_int _ |exact L2.kit_list_tuple _ |rfl)
local macro_rules | `(tactic|walk_at"ok")=>`(tactic|first |rfl |decide)
local macro_rules | `(tactic|walk_at"sub")=>`(tactic|first |exact trivial | (refine⟨rfl,?_⟩;walk_at"sub") | (with_reducible apply L2.SubP.skip;walk_at"sub"))
local macro_rules | `(tactic|walk_at"len")=>`(tactic|first |decide | (simp only[List.length_append,List.length_cons,List.length_nil,List.length_map];decide))
local macro_rules | `(tactic|walk_at"ln")=>`(tactic| (intro us o h;(repeat (obtain⟨_,h⟩:=h));subst_vars;rfl))
namespace My
open PySem PySem.Spec PyProof.Rows L2
noncomputable def top(i:Nat):Mm:=PySem.Challenge.pw_stakefield_k82_whole_alike_by_text.main.body.getD i (.Pass ⟨0,0,0,0⟩)
noncomputable def De:Mm->List Mm
 | .ClassDef _ _ _ b _ _ _ _ _ _ _=>b
 |_=>[]
noncomputable abbrev lG:Mm:=top 14
noncomputable abbrev BT:Mm:=top 15
noncomputable abbrev sR:Mm:=top 16
noncomputable abbrev BE:Mm:=top 19
noncomputable abbrev jY:Mm:=top 20
noncomputable abbrev kh:Mm:=top 21
noncomputable abbrev qW:Mm:=top 22
noncomputable abbrev vA:Mm:=top 23
noncomputable abbrev sJ:Mm:=top 24
noncomputable abbrev l7:Mm:=top 25
noncomputable abbrev wb:Mm:=top 26
noncomputable abbrev vw:Mm:=top 27
noncomputable abbrev B4:Mm:=top 29
noncomputable abbrev iY:Mm:=top 30
noncomputable abbrev we:Mm:=top 31
noncomputable abbrev wf:Mm:=top 32
noncomputable abbrev eI:Mm:=top 35
noncomputable abbrev Ap:Mm:=top 36
noncomputable abbrev eM:Mm:=top 37
noncomputable abbrev wq:Mm:=top 57
noncomputable abbrev sU:Mm:=top 58
noncomputable abbrev s_to_form:Mm:=top 59
noncomputable abbrev yZ:Mm:=top 60
noncomputable abbrev wY:Mm:=top 61
noncomputable abbrev j7:Mm:=top 81
noncomputable abbrev cD:Mm:=top 82
noncomputable abbrev iA:Mm:=top 83
noncomputable abbrev jm:Mm:=top 84
noncomputable abbrev iz:Mm:=top 85
noncomputable abbrev jz:Mm:=top 86
noncomputable abbrev eE:Mm:=top 87
noncomputable abbrev j8:Mm:=top 101
noncomputable abbrev sM:Mm:=top 102
noncomputable abbrev gv:Mm:=top 103
noncomputable abbrev d8:Mm:=top 104
noncomputable abbrev Ac:Mm:=top 105
noncomputable abbrev l8:Mm:=top 106
noncomputable abbrev fC:Mm:=top 109
noncomputable abbrev qA:Mm:=top 111
noncomputable abbrev kI:Mm:=top 114
noncomputable abbrev j_:Mm:=top 115
noncomputable abbrev kC:Mm:=top 116
noncomputable abbrev f8:Mm:=top 117
noncomputable abbrev ii:Mm:=top 118
noncomputable abbrev jo:Mm:=top 119
noncomputable abbrev jq:Mm:=top 120
noncomputable abbrev il:Mm:=top 121
noncomputable abbrev dN:Mm:=top 122
noncomputable abbrev fQ:Mm:=top 123
noncomputable abbrev gL:Mm:=top 124
noncomputable abbrev ij:Mm:=top 125
noncomputable abbrev kD:Mm:=top 126
noncomputable abbrev fu:Mm:=top 127
noncomputable abbrev xg:Mm:=top 128
noncomputable abbrev kG:Mm:=(De (top 112)).getD 0 (.Pass ⟨0,0,0,0⟩)
noncomputable abbrev ku:Mm:=(De (top 112)).getD 1 (.Pass ⟨0,0,0,0⟩)
noncomputable abbrev j9:Mm:=(De (top 112)).getD 2 (.Pass ⟨0,0,0,0⟩)
noncomputable abbrev fP:Mm:=(De (top 112)).getD 4 (.Pass ⟨0,0,0,0⟩)
noncomputable def fT:List (Str×Str):=[("field","NEW P"),("move","NEW ONE A B C D E F"),("fold","NEW ONE K"),("sum","NEW ONE OTHER"),("form","NEW ONE"),("facing","NEW ONE"),("drop","ONE"),("names",""),("show","ONE"),("area","ONE"),("rim","ONE"),("count","ONE K"),("inner","ONE K"),("mixed","ONE OTHER"),("share","ONE A B C"),("where","ONE P"),("tell","ONE K P"),("alike","ONE OTHER"),("thin","ONE")]
theorem sY:au ["thing"] ["thing"] (ai lG):=by walk_at"sC"
theorem DE:au ["number"] ["number"] (ai BT):=by walk_at"sC"
theorem bB:au ["a","b","high","high_times","low","low_times","fits","rest","rest_times","s"] ["a","b"] (ai sR):=by walk_at"sC"
theorem DJ:au ["move"] ["move"] (ai BE):=by walk_at"sC"
theorem m8:au ["thing","number"] ["thing"] (ai jY):=by walk_at"sC"
theorem p_:au ["thing"] ["thing"] (ai kh):=by walk_at"sC"
theorem xC:au ["P","move"] ["P","move"] (ai qW):=by walk_at"sC"
theorem rV:au ["P","move","place"] ["P","move"] (ai vA):=by walk_at"sC"
theorem gZ:au ["first","second","right","up","origin"] ["first","second"] (ai sJ):=by walk_at"sC"
theorem cS:au ["move","side","a","b","c","d"] ["move"] (ai l7):=by walk_at"sC"
theorem A0:au ["P","Q"] ["P","Q"] (ai wb):=by walk_at"sC"
theorem dM:au ["P","Q","far","u","v","parts","s","t"] ["P","Q"] (ai vw):=by walk_at"sC"
theorem DZ:au ["P","Q","R"] ["P","Q","R"] (ai B4):=by walk_at"sC"
theorem eO:au ["row","kept","P"] ["row"] (ai iY):=by walk_at"sC"
theorem gC:au ["points","row","there","back"] ["points"] (ai we):=by walk_at"sC"
theorem Cu:au ["land"] ["land"] (ai wf):=by walk_at"sC"
theorem dW:au ["land","A","B"] ["land"] (ai eI):=by walk_at"sC"
theorem ug:au ["land","A","B"] ["land"] (ai Ap):=by walk_at"sC"
theorem f_:au ["land","move","P"] ["land","move"] (ai eM):=by walk_at"sC"
theorem gU:au ["corner","along","aside","move","place"] ["corner","along","aside"] (ai wq):=by walk_at"sC"
theorem e7:au ["land","found","before","corner","after"] ["land"] (ai sU):=by walk_at"sC"
theorem uQ:au ["land"] ["land"] (ai s_to_form):=by walk_at"sC"
theorem CW:au ["land"] ["land"] (ai yZ):=by walk_at"sC"
theorem lC:au ["one","other","move","other_move"] ["one","other"] (ai wY):=by walk_at"sC"
theorem oZ:au ["thing"] ["thing"] (ai j7):=by walk_at"sC"
theorem b8:au ["text","figures","sign"] ["text"] (ai cD):=by walk_at"sC"
theorem mX:au ["text"] ["text"] (ai iA):=by walk_at"sC"
theorem iB:au ["text","parts"] ["text"] (ai jm):=by walk_at"sC"
theorem mI:au ["number"] ["number"] (ai iz):=by walk_at"sC"
theorem nj:au ["P"] ["P"] (ai jz):=by walk_at"sC"
theorem gG:au ["points","P"] ["points"] (ai eE):=by walk_at"sC"
theorem jw:au ["row","words"] ["row"] (ai j8):=by walk_at"sC"
theorem c_:au ["words","kinds","many","more"] ["words"] (ai sM):=by walk_at"sC"
theorem ft:au ["word","letters","sign"] ["word"] (ai gv):=by walk_at"sC"
theorem dj:au ["land","numbers","P","number"] ["land"] (ai d8):=by walk_at"sC"
theorem Db:au ["deed","given"] ["deed","given"] (ai Ac):=by walk_at"sC"
theorem rR:au ["deed","given"] ["deed","given"] (ai l8):=by walk_at"sC"
theorem dh:au ["one","other","move","number"] ["one","other"] (ai fC):=by walk_at"sC"
theorem yO:au ["deed","given"] ["deed","given"] (ai qA):=by walk_at"sC"
theorem o7:au ["script","k"] ["script","k"] (ai kI):=by walk_at"sC"
theorem pM:au ["a","b","p"] ["a","b","p"] (ai j_):=by walk_at"sC"
theorem fv:au ["points","way","p"] ["points"] (ai kC):=by walk_at"sC"
theorem dy:au ["points","some"] ["points"] (ai f8):=by walk_at"sC"
theorem bC:au ["script","lean","points","k","x","y"] ["script"] (ai ii):=by walk_at"sC"
theorem cF:au ["script","m","n","over","down"] ["script"] (ai jo):=by walk_at"sC"
theorem bL:au ["table","p","a","b","c","d","e","f"] ["table","p"] (ai jq):=by walk_at"sC"
theorem dJ:au ["word","figures","sign_v"] ["word"] (ai il):=by walk_at"sC"
theorem fW:au ["answer_v","word"] ["answer_v"] (ai dN):=by walk_at"sC"
theorem eN:au ["points","x","y"] ["points"] (ai fQ):=by walk_at"sC"
theorem cO:au ["one","other"] ["one","other"] (ai gL):=by walk_at"sC"
theorem bM:au ["land","twice","k","a","b"] ["land"] (ai ij):=by walk_at"sC"
theorem cp:au ["land","edge","k","a","b"] ["land"] (ai kD):=by walk_at"sC"
theorem eL:au ["answer_v","one","other","table","p"] ["answer_v","one","other"] (ai fu):=by walk_at"sC"
theorem eT:au ["script","points","near","table","far","p","desk","number","one","cell"] ["script"] (ai xg):=by walk_at"sC"
theorem pK:au ["self"] ["self"] (ai kG):=by walk_at"sC"
theorem pP:au ["self","kind","word"] ["self","kind","word"] (ai ku):=by walk_at"sC"
theorem qm:au ["self","name","land"] ["self","name","land"] (ai j9):=by walk_at"sC"
theorem bj:au ["self","row","words","kinds","given","kind","word"] ["self","row"] (ai fP):=by walk_at"sC"
set_option genInjectivity false in
set_option genSizeOf false in
set_option genSizeOfSpec false in
structure Txt(w:Kt)(K:JI)(mg:Str->Option J0) where
 aag:Kb
 abn:mg "Desk"=some (.ref aag)
 aad:Cls K aag
 aap:fR K aag "lands"
 abe:∃a,mg "ROWS"=some (.ref a)∧q0 w K a fT
 aaX:Dfn K mg "is_whole" lG ["thing"]
 abo:Dfn K mg "sign" BT ["number"]
 aa6:Dfn K mg "shares" sR ["a","b"]
 abp:Dfn K mg "hand" BE ["move"]
 aa2:Dfn K mg "is_move" jY ["thing"]
 aaL:Dfn K mg "need_move" kh ["thing"]
 aa7:Dfn K mg "turned" qW ["P","move"]
 abg:Dfn K mg "moved" vA ["P","move"]
 aa8:Dfn K mg "behind" sJ ["first","second"]
 aaY:Dfn K mg "way_back" l7 ["move"]
 abh:Dfn K mg "steps" wb ["P","Q"]
 abi:Dfn K mg "level" vw ["P","Q"]
 abq:Dfn K mg "turn" B4 ["P","Q","R"]
 aaE:Dfn K mg "left_bends" iY ["row"]
 aaM:Dfn K mg "field" we ["points"]
 abj:Dfn K mg "sides" wf ["land"]
 aav:Dfn K mg "double_area" eI ["land"]
 abk:Dfn K mg "rim" Ap ["land"]
 aah:Dfn K mg "field_moved" eM ["land","move"]
 abl:Dfn K mg "stand" wq ["corner","along","aside"]
 aa9:Dfn K mg "stands" sU ["land"]
 aao:Dfn K mg "to_form" s_to_form ["land"]
 aaW:Dfn K mg "form" yZ ["land"]
 aaw:Dfn K mg "alike" wY ["one","other"]
 aaN:Dfn K mg "need_text" j7 ["thing"]
 aam:Dfn K mg "is_written_number" cD ["text"]
 aax:Dfn K mg "read_number" iA ["text"]
 aaF:Dfn K mg "read_point" jm ["text"]
 aay:Dfn K mg "show_number" iz ["number"]
 aaG:Dfn K mg "show_point" jz ["P"]
 aaz:Dfn K mg "show_points" eE ["points"]
 aaO:Dfn K mg "row_words" j8 ["row"]
 aa_:Dfn K mg "wanted" sM ["words"]
 aaP:Dfn K mg "need_name" gv ["word"]
 aaZ:Dfn K mg "need_fit" d8 ["land"]
 abr:Dfn K mg "made" Ac ["deed","given"]
 aa0:Dfn K mg "reckoned" l8 ["deed","given"]
 aaH:Dfn K mg "show_alike" fC ["one","other"]
 aba:Dfn K mg "answer" qA ["deed","given"]
 aaQ:Dfn K mg "_law_cell" kI ["script","k"]
 aaR:Dfn K mg "_law_side" j_ ["a","b","p"]
 aaS:Dfn K mg "_law_half" kC ["points"]
 aaq:Dfn K mg "_law_corners" f8 ["points"]
 aaA:Dfn K mg "_law_points" ii ["script"]
 aaI:Dfn K mg "_law_table" jo ["script"]
 aaJ:Dfn K mg "_law_moved" jq ["table","p"]
 aaB:Dfn K mg "_law_number" il ["word"]
 aab:Dfn K mg "_law_numbers" dN ["answer_v"]
 aaK:Dfn K mg "_law_shown" fQ ["points"]
 aar:Dfn K mg "_law_divisor" gL ["one","other"]
 aaC:Dfn K mg "_law_double" ij ["land"]
 aaT:Dfn K mg "_law_edge" kD ["land"]
 aae:Dfn K mg "_law_leads" fu ["answer_v","one","other"]
 abb:Dfn K mg "law" xg ["script"]
 aai:IDf K aag "__init__" "Desk.__init__" kG ["self"]
 aan:MDf K aag "read" "Desk.read" ku ["self","kind","word"]
 aaj:MDf K aag "keep" "Desk.keep" j9 ["self","name","land"]
 aaa:MDf K aag "say" "Desk.say" fP ["self","row"]
 tf:TfA K mg aao
 aaU:mg "abs"=none
 abt:mg "all"=none
 abu:mg "bool"=none
 aa3:mg "int"=none
 aaf:mg "isinstance"=none
 aac:mg "len"=none
 abf:mg "list"=none
 abv:mg "max"=none
 abm:mg "min"=none
 aaV:mg "range"=none
 aa1:mg "reversed"=none
 abc:mg "set"=none
 aak:mg "sorted"=none
 aas:mg "str"=none
 abw:mg "sum"=none
 aa4:mg "tuple"=none
 abd:mg "zip"=none
 aa5:∃t,mg "FIGURES"=some (.str "0123456789" t)
 aat:∃t,mg "MOST_CORNERS"=some (.int 60 t)
 aal:∃t,mg "MOST_FIGURES"=some (.int 60 t)
 aau:∃t,mg "MOST_LETTERS"=some (.int 8 t)
 aaD:∃t,mg "MOST_POINTS"=some (.int 60 t)
section
variable {P:J2}{w:Kt}{K:JI}{mg:Str→Option J0}{base:Mf} (T:Txt w K mg)
noncomputable def sgn(n:Int):Int:=if 0<n then 1 else if n<0 then -1 else 0
noncomputable def b6(b:Int):Int:=if b<0 then -b else b
theorem dq(b):b6 b=(b.natAbs:Int):=by unfold b6;split <;>lia
theorem iW(h:b≠0):0<b6 b:=by unfold b6;split <;>lia
theorem dk(d b):d ∣ b6 b↔d ∣ b:=by
 unfold b6;split
 .exact RF
 .exact Iff.rfl
theorem AU(d b):b6 b ∣ d↔b ∣ d:=by
 unfold b6;split
 .exact Int.neg_dvd
 .exact Iff.rfl
structure kj(a b high ht low lt:Int):Prop where
 hp:0<high
 lo0:0<=low
 lolt:low<high
 dv:∀d,(d ∣ high/\d ∣ low)↔(d ∣ a/\d ∣ b)
 ch:b ∣ ht*a-high
 cl:b ∣ lt*a-low
 bd:ht.natAbs*low.natAbs+lt.natAbs*high.natAbs<=b.natAbs
 hi:high.natAbs<=b.natAbs
theorem qL(h:b≠0):kj a b (b6 b) 0 (a%b6 b) 1:=by
 have g:=iW h;refine⟨g,On _ (by lia),NH _ g,λd=>?_,?_,?_,?_,by rw[dq];simp⟩
 .rw[dk];constructor
  .rintro ⟨c,f⟩;refine⟨?_,c⟩;have e:=M5 a (b6 b);rw[<-e];exact NR f (KC ((dk d b).mpr c) (MK _ _))
  .rintro ⟨c,f⟩;refine⟨f,?_⟩;have e:a%b6 b=a-b6 b*(a/b6 b):=by have:=M5 a (b6 b);lia
   rw[e];exact Qw c (KC ((dk d b).mpr f) (MK _ _))
 .rw[Rb,Int.zero_sub,RF];exact (dk b b).mpr (PN b)
 .have e:1*a-a%b6 b=b6 b*(a/b6 b):=by have:=M5 a (b6 b);lia
  rw[e];exact KC ((dk b b).mpr (PN b)) (MK _ _)
 .rw[dq];simp
theorem v_(I:kj a b high ht low lt)(h:low≠0):kj a b low lt (high-high/low*low) (ht-high/low*lt)/\high-high/low*low<low:=by
 obtain⟨v,g,i,o,p,j,n,w⟩:=I;have l:0<low:=by lia
 have e:=M5 high low;have m:=On high h;have k:=NH high l;have u:0<=high/low:=Int.ediv_nonneg (by lia) (by lia);have s:high-high/low*low=high%low:=by rw[Of];lia
 rw[s];refine⟨⟨l,m,k,λd=>?_,j,?_,?_,by lia⟩,k⟩
 .rw[<-o d];constructor
  .rintro ⟨c,f⟩;refine⟨?_,c⟩;rw[<-e];exact NR f (KC c (MK _ _))
  .rintro ⟨c,f⟩;refine⟨f,?_⟩;rw[show high%low=high-low*(high/low) by lia];exact Qw c (KC f (MK _ _))
 .have r:(ht-high/low*lt) *a-high%low=(ht*a-high)-(high/low) *(lt*a-low):=by grind
  rw[r];exact Qw p (KC j (KF _ _))
 .have q:(ht-high/low*lt).natAbs<=ht.natAbs+(high/low).natAbs*lt.natAbs:=by
   have:=Int.natAbs_sub_le ht (high/low*lt);rw[OH]at this;exact this
  have t:high.natAbs=(high%low).natAbs+low.natAbs*(high/low).natAbs:=by
   have:(high.natAbs:Int)=((high%low).natAbs+low.natAbs*(high/low).natAbs):=by
    push_cast
    rw[NZ m,NZ u,NZ (by lia:0<=high),NZ g];lia
   lia
  have x:(ht-high/low*lt).natAbs*low.natAbs<=(ht.natAbs+(high/low).natAbs*lt.natAbs) *low.natAbs:=O_ _ q;rw[t]at n;refine KH ?_ n;generalize (ht-high/low*lt).natAbs=A at *;generalize ht.natAbs=B at *;generalize lt.natAbs=C at *;generalize low.natAbs=D at *;generalize (high/low).natAbs=E at *;generalize (high%low).natAbs=F at *;grind
structure fB(a b g s t:Int):Prop where
 g0:0<=g
 eq:s*a+t*b=g
 da:g ∣ a
 db:g ∣ b
 z:b=0->t=0/\s=sgn a/\g=b6 a
 nz:b≠0->0<g/\0<=s/\s<b6 b/g
theorem nY(a):fB a 0 (b6 a) (sgn a) 0:=by
 refine⟨by unfold b6;split <;>lia,?_,(AU a a).mpr (PN a),Uy _,λ_=>⟨rfl,rfl,rfl⟩,λh=>absurd rfl h⟩;unfold sgn b6;split
 .split <;>lia
 .split
  .lia
  .lia
theorem Bj(g:b≠0)(I:kj a b high ht 0 lt):fB a b high (ht%(b6 b/high)) ((high-ht%(b6 b/high) *a).fdiv b):=by
 obtain⟨s,p,l,r,t,x,z,y⟩:=I;obtain⟨q,n⟩:=(r high).mp ⟨PN _,Uy _⟩;obtain⟨f,rfl⟩:=q;have k:=(dk _ _).mpr n;obtain⟨d,o⟩:=k;have u:=iW g;have m:b6 b/high=d:=by rw[o,Nh _ (by lia)]
 have i:0<d:=by
  have:0<high*d:=by lia
  exact Og this (by lia)
 rw[m];have w:=M5 ht d
 have j:b ∣ high-ht%d*(high*f):=by
  have e:high-ht%d*(high*f)=-(ht*(high*f)-high)+b6 b*(f*(ht/d)):=by
   rw[o,show ht%d=ht-d*(ht/d) by lia];grind
  rw[e];refine NR (RF.mpr t) (KC ((dk b b).mpr (PN b)) (MK _ _))
 refine⟨by lia,?_,MK _ _,n,λh=>absurd h g,λ_=>⟨s,On _ (by lia),?_⟩⟩
 .obtain⟨c,v⟩:=j;rw[v,Int.mul_fdiv_cancel_left _ g,Of c b];lia
 .rw[m];exact NH _ i
theorem HK(I:kj a b high ht low lt):lt.natAbs<=b.natAbs:=by
 have c:1<=high.natAbs:=by have:=I.hp;lia
 have d:lt.natAbs*1<=lt.natAbs*high.natAbs:=RH _ c;have:=I.bd;lia
theorem zm(h:fB a b g s t)(h':fB a b g' s' t'):g=g'/\s=s'/\t=t':=by
 have w:g ∣ g':=by rw[<-h'.eq];exact NR (KC h.da (KF _ _)) (KC h.db (KF _ _))
 have u:g' ∣ g:=by rw[<-h.eq];exact NR (KC h'.da (KF _ _)) (KC h'.db (KF _ _))
 have r:=QF h.g0 h'.g0 w u;subst r;by_cases e:b=0
 .obtain⟨B,F,_⟩:=h.z e;obtain⟨k1,y,_⟩:=h'.z e;exact⟨rfl,by lia,by lia⟩
 .obtain⟨p,D,E⟩:=h.nz e;obtain⟨_,o,x⟩:=h'.nz e;obtain⟨f,l⟩:=h.da;obtain⟨i,k⟩:=(dk g b).mpr h.db;obtain⟨c,d⟩:=h.db;have C:b6 b/g=i:=by rw[k,Nh _ (by lia)]
  have A:=h.eq;have v:=h'.eq
  have k1:s*f+t*c=1:=by
   have:g*(s*f+t*c)=g*1:=by rw[l,d]at A;grind
   exact LP (by lia) this
  have y:s'*f+t'*c=1:=by
   have:g*(s'*f+t'*c)=g*1:=by rw[l,d]at v;grind
   exact LP (by lia) this
  have n:c ∣ s-s':=by
   refine⟨s*(t'-t)+t*(s-s'),?_⟩;grind
  have m:i ∣ s-s':=by
   have:i.natAbs=c.natAbs:=by
    have j:(b6 b).natAbs=b.natAbs:=by rw[dq];simp
    rw[k,d]at j;rw[OH,OH]at j;exact Nat.eq_of_mul_eq_mul_left (by lia) j
   exact OQ.mp (by rw[this];exact OQ.mpr n)
  have q:s=s':=by
   have:s-s'=0:=Int.eq_zero_of_dvd_of_natAbs_lt_natAbs m (by lia);lia
  subst q;refine⟨rfl,rfl,?_⟩;have:b*t=b*t':=by grind
  exact LP e this
theorem ES(i:b≠0):∀n high e low lt,low.toNat<=n->kj a b high e low lt->∃c d f,kj a b c d 0 f
 |0,high,e,low,lt,k,I=>by
  have:low=0:=by have:=I.lo0;lia
  subst this;exact⟨_,_,_,I⟩
 |n+1,high,e,low,lt,k,I=>by
  by_cases h:low=0
  .subst h;exact⟨_,_,_,I⟩
  .obtain⟨j,g⟩:=v_ I h;exact ES i n _ _ _ _ (by have:=I.lo0;lia) j
theorem pQ(a b):∃g s t,fB a b g s t:=by
 by_cases c:b=0
 .subst c;exact⟨_,_,_,nY a⟩
 .obtain⟨h,d,lt,I⟩:=ES c _ _ _ _ _ (JR _) (qL c);exact⟨_,_,_,Bj c I⟩
theorem i0(G:fB a b g s t)(f:Sz m a)(h:Sz m b):Sz (m+8) g/\Sz (m+8) s/\Sz (2*m+8) t:=by
 by_cases c:b=0
 .subst c;obtain⟨i,l,d⟩:=G.z rfl;rw[i,l,d];have j:Sz 8 (sgn a):=by unfold Sz sgn;split;decide;split <;>decide
  exact⟨(Sz.abs f).mono (by lia),j.mono (by lia),Sz.mono (m:=8) (by decide) (by lia)⟩
 .obtain⟨n,o,j⟩:=G.nz c;have i:b6 b/g<=b6 b:=SR _ (by have:=iW c;lia);have l:=dq b
  have sg:Sz m g:=by
   refine h.natle ?_;exact Nat.le_of_dvd (by lia) (OQ.mpr G.db)
  have k:Sz m s:=h.natle (by lia);refine⟨sg.mono (by lia),k.mono (by lia),?_⟩;have e:t*b=g-s*a:=by have:=G.eq;lia
  have q:Sz (2*m+1) (t*b):=by
   rw[e];have:Sz (m+m) (s*a):=k.mul f;have d:=(sg.mono (show m<=m+m by lia)).sub this;exact d.mono (by lia)
  refine (Sz.mono (m:=2*m+1) ?_ (by lia));unfold Sz at *;rw[OH]at q;have:1<=b.natAbs:=by lia
  exact Mr (Nat.le_mul_of_pos_right _ this) q
def xH:List U->Out->Prop:=λa o=>∃n:Int,a=[.int n]/\o=.val (.int (sgn n))
theorem vY:OkD P w base T.abo 1 (xH):=by
 refine okD DE (by walk_at"ln") ?_;rintro _ _ _ d ⟨n,rfl,rfl⟩;refine ac (nD (av j0 (aa 0 rfl) ah) (λa=>?_) (λc=>(ay ?_)))
 .refine ac (aN ah ?_);exact vIO (by unfold sgn;rw[if_pos (dTb a)])
 .refine ac (nD (av h_ (aa 0 rfl) ah) (λa=>?_) (λc=>(ay ?_)))
  .refine ac (aN (bU ah) ?_);exact vIO (by unfold sgn;rw[if_neg (dFb c),if_pos (dTb a)])
  .rename_i b
   refine ac (aN ah ?_);exact vIO (by unfold sgn;rw[if_neg (dFb c),if_neg (dFb b)])
def rf:List U->Out->Prop:=λc o=>∃a b g s t:Int,c=[.int a,.int b]/\Sz 4000 a/\Sz 4000 b/\fB a b g s t/\o=.val (.tup [.int g,.int s,.int t])
theorem rg(G:fB a b g s t)(c:fB a b g' s' t'):Out.val (.tup [.int g,.int s,.int t])=Out.val (.tup [.int g',.int s',.int t']):=by
 obtain⟨rfl,rfl,rfl⟩:=zm G c;rfl
theorem oQ:OkD P w base T.aa6 2 (rf):=by
 refine okD bB (by walk_at"ln") ?_;rintro _ _ _ x ⟨a,b,g,s,t,rfl,y,e,G,rfl⟩;refine ac (nD (av fX (aa 1 rfl) ah) (λz=>?_) (λu=>(ay ?_)))
 .have d:=dTb z;subst d;refine ac (aN (bE (aq (aw mB rfl T.aaU PyProof.Rows.boot_abs (ae (aa 0 rfl) aj af)) (aq (aQ (vY T) x (ae (aa 0 rfl) aj af) ⟨_,rfl,rfl⟩) (aq ah bG aJ) br) br)) ?_);exact rg (nY a) G
 .have d:=dFb u;have f:=iW d;refine ac (ax 2 bB.nd (aw mB rfl T.aaU PyProof.Rows.boot_abs (ae (aa 1 rfl) aj af)) ?_);refine ac (ax 3 bB.nd ah ?_);refine ac (ax 4 bB.nd (dB (aa 0 rfl) (aa 2 rfl) f) ?_);refine ac (ax 5 bB.nd ah ?_);refine ac (jj (λm:Int×Int×Int×Int=>[some (.val (.int a)),some (.val (.int b)),some (.val (.int m.1)),some (.val (.int m.2.1)),some (.val (.int m.2.2.1)),some (.val (.int m.2.2.2)),none,none,none,none]) (λn m=>n=m.2.2.1.toNat/\kj a b m.1 m.2.1 m.2.2.1 m.2.2.2) PassesOwn.never ?h0 ?hs)
  case h0=>exact⟨_,(_,_,_,_),⟨rfl,qL d⟩,rfl,rfl,rfl,rfl,rfl,rfl,trivial⟩
  case hs=>
   rintro m ⟨c,D,low,lt⟩ ⟨rfl,I⟩;dsimp only at I |-;have A:=I.lo0;have J:=I.lolt;have l:=e.natle I.hi;have H:Sz 4000 low:=l.natle (by lia);have q:=e.natle (HK I);refine⟨_,(av kE (aa 4 rfl) ah),λh=>?_,λh L p=>?_⟩
   .have i:=nTb h;obtain⟨B,k⟩:=v_ I i;have o:(c-c/low*low).toNat<low.toNat:=by clear h;lia
    refine ac (ax 6 bB.nd (ir (aa 2 rfl) (aa 4 rfl) (by walk_at"div")) ?_);refine ac (ax 7 bB.nd (bp (aa 2 rfl) (aV (aa 6 rfl) (aa 4 rfl) (by walk_at"mul"))) ?_);refine ac (ax 8 bB.nd (bp (aa 3 rfl) (aV (aa 6 rfl) (aa 5 rfl) (by walk_at"mul"))) ?_);refine ac (ax 2 bB.nd (aa 4 rfl) ?_);refine ac (ax 3 bB.nd (aa 5 rfl) ?_);refine ac (ax 4 bB.nd (aa 7 rfl) ?_);refine ac (ax 5 bB.nd (aa 8 rfl) (ay ?_));exact⟨_,(_,_,_,_),o,⟨rfl,B⟩,rfl,rfl,rfl,rfl,rfl,rfl,trivial⟩
   .have i:=nFb h;subst i;refine eC ?_ p;have j:=Bj d I;obtain⟨E,K,M⟩:=j.nz d;have r:0<b6 b/c:=by lia
    have v:=I.hp
    have C:Sz 4000 (D%(b6 b/c)):=by
     refine e.natle ?_;have F:b6 b/c<=b6 b:=SR _ (by lia);have N:=dq b;lia
    refine ac (ax 9 bB.nd (dB (aa 3 rfl) (ir (aw mB rfl T.aaU PyProof.Rows.boot_abs (ae (aa 1 rfl) aj af)) (aa 2 rfl) ⟨v,l.mono (by decide)⟩) r) ?_);refine ac (aN (bE (aq (aa 2 rfl) (aq (aa 9 rfl) (aq (Gc (bp (aa 2 rfl) (aV (aa 9 rfl) (aa 0 rfl) (Sz.ok C y (by decide)))) (aa 1 rfl) ⟨d,e.mono (by decide)⟩) bG bi) af) af)) ?_);exact rg j G
theorem y_(G:fB a b g s t):g=((Oa a b:Nat):Int):=by
 have c:=Rc G.da G.db
 have d:((Oa a b):Int) ∣ g:=by
  rw[<-G.eq];exact NR (KC (QG ..) (KF _ _)) (KC (Qg ..) (KF _ _))
 exact QF G.g0 (Int.natCast_nonneg _) c d
theorem qT(a b):∃s t,fB a b ((Oa a b:Nat):Int) s t:=by
 obtain⟨g,s,t,G⟩:=pQ a b;have e:=y_ G;subst e;exact⟨s,t,G⟩
noncomputable abbrev mv(a b c d e f:Int):U:=.tup [.int a,.int b,.int c,.int d,.int e,.int f]
structure Mv(a b c d e f:Int):Prop where
 u:a*d-b*c=1\/a*d-b*c=-1
 a:Sz 30000 a
 b:Sz 30000 b
 c:Sz 30000 c
 d:Sz 30000 d
 e:Sz 30000 e
 f:Sz 30000 f
def um:List U->Out->Prop:=λa o=>∃n:Int,a=[.int n]/\o=.val (.bl true)
theorem qQ:OkD P w base T.aaX 1 (um):=by
 refine okD sY (by walk_at"ln") ?_;rintro _ _ _ b ⟨n,rfl,rfl⟩;refine ac (aN (Ig (aw (eX (by intro _ h;cases h) (by walk_at"kit")) rfl T.aaf NS (ae (aa 0 rfl) (ae (yk rfl T.aa3 SX) aj af) af)) (λa=>(EU (Ii (aw (eX (by intro _ h;cases h) (by walk_at"kit")) rfl T.aaf NS (ae (aa 0 rfl) (ae (yk rfl T.abu boot_bool) aj af) af)))))) ?_);exact rfl
def yr:List U->Out->Prop:=λg o=>∃a b c d e f,g=[mv a b c d e f]/\Sz 30000 a/\Sz 30000 b/\Sz 30000 c/\Sz 30000 d/\o=.val (.int (a*d-b*c))
theorem wZ:OkD P w base T.abp 1 (yr):=by
 refine okD DJ (by walk_at"ln") ?_;rintro _ _ _ k ⟨a,b,c,d,e,f,rfl,g,h,i,j,rfl⟩;refine ac (aN (bp (aV (aC (aa 0 rfl) ah rfl rfl) (aC (aa 0 rfl) ah rfl rfl) (by walk_at"mul")) (aV (aC (aa 0 rfl) ah rfl rfl) (aC (aa 0 rfl) ah rfl rfl) (by walk_at"mul"))) ?_);exact rfl
def ql:List U->Out->Prop:=λg o=>∃a b c d e f,g=[mv a b c d e f]/\Mv a b c d e f/\o=.val (.bl true)
theorem vg:OkD P w base T.aa2 2 (ql):=by
 refine okD m8 (by walk_at"ln") ?_;rintro _ _ _ g ⟨a,b,c,d,e,f,rfl,M,rfl⟩;refine ac (aL (Tw.t (jv (jp (ik (aw (eX (by intro _ h;cases h) rfl) rfl T.aaf NS (ae (aa 0 rfl) (ae (yk rfl T.aa4 boot_tuple) aj af) af)))) (λj=>(io (av kE (aw (bF rfl) rfl T.aac J5 (ae (aa 0 rfl) aj af)) ah))))) rfl (ay ?_));refine ac (aL (jp (ik (aw (ER rfl (bs:=[true,true,true,true,true,true])) rfl T.abt boot_all (ae (EvN.ev (cZ  rfl (blk (ai jY) ["thing","number"] [1] rfl rfl rfl rfl (by decide+kernel)) (EO (aa 0 rfl)) (λ_ _ _ _=>aR (i:=1) m8.nd rfl (Or.inl rfl)) (bN (by decide)) ?clen ?csz (λ_ _=>trivial) ?celt)) aj cN)))) rfl (ay ?_))
 case clen=>rfl
 case csz=>show 6<=sizeLine;decide
 case celt=>
  intro C l m fp i x y hx hy
  have k:∃n:Int,x=.int n/\y=.bl true:=by
   match i,hx,hy with
   |0,hx,hy=>cases hx;cases hy;exact⟨a,rfl,rfl⟩
   |1,hx,hy=>cases hx;cases hy;exact⟨b,rfl,rfl⟩
   |2,hx,hy=>cases hx;cases hy;exact⟨c,rfl,rfl⟩
   |3,hx,hy=>cases hx;cases hy;exact⟨d,rfl,rfl⟩
   |4,hx,hy=>cases hx;cases hy;exact⟨e,rfl,rfl⟩
   |5,hx,hy=>cases hx;cases hy;exact⟨f,rfl,rfl⟩
   |i+6,hx,hy=>cases hx
  obtain⟨n,rfl,rfl⟩:=k;exact (aQ (qQ T) g (ae (aa 1 rfl) aj af) ⟨n,rfl,rfl⟩)
 refine ac (aN (lX (vn rfl rfl rfl) (aQ (wZ T) g (ae (aa 0 rfl) aj af) ⟨a,b,c,d,e,f,rfl,M.a,M.b,M.c,M.d,rfl⟩) (bE (aq ah (aq (bU ah) bG fG) aJ))) ?_);refine vB ?_;rcases M.u with h |h <;>rw[h] <;>rfl
def xV:List U->Out->Prop:=λg o=>∃a b c d e f,g=[mv a b c d e f]/\Mv a b c d e f/\o=.val .non
theorem dD:OkD P w base T.aaL 3 (xV):=by
 refine okD p_ (by walk_at"ln") ?_;rintro _ _ _ g ⟨a,b,c,d,e,f,rfl,M,rfl⟩;refine ac (aL (jp (ik (aQ (vg T) g (ae (aa 0 rfl) aj af) ⟨a,b,c,d,e,f,rfl,M,rfl⟩))) rfl (ay (ay ?_)));exact rfl
def rD:List U->Out->Prop:=λg o=>∃x y a b c d e f,g=[pt x y,mv a b c d e f]/\(Sz 30000 x/\Sz 30000 y/\Sz 30000 a/\Sz 30000 b/\Sz 30000 c/\Sz 30000 d)/\o=.val (pt (a*x+b*y) (c*x+d*y))
theorem jR:OkD P w base T.aa7 1 (rD):=by
 refine okD xC (by walk_at"ln") ?_;rintro _ _ _ m ⟨x,y,a,b,c,d,e,f,rfl,⟨g,h,i,j,k,l⟩,rfl⟩;refine ac (aN (bE (aq (bT (aV (aC (aa 1 rfl) ah rfl rfl) (aC (aa 0 rfl) ah rfl rfl) (by walk_at"mul")) (aV (aC (aa 1 rfl) ah rfl rfl) (aC (aa 0 rfl) ah rfl rfl) (by walk_at"mul"))) (aq (bT (aV (aC (aa 1 rfl) ah rfl rfl) (aC (aa 0 rfl) ah rfl rfl) (by walk_at"mul")) (aV (aC (aa 1 rfl) ah rfl rfl) (aC (aa 0 rfl) ah rfl rfl) (by walk_at"mul"))) bG bi) bi)) ?_);exact rfl
def vo:List U->Out->Prop:=λg o=>∃x y a b c d e f,g=[pt x y,mv a b c d e f]/\Mv a b c d e f/\Sz 30000 x/\Sz 30000 y/\o=.val (pt (a*x+b*y+e) (c*x+d*y+f))
theorem e8:OkD P w base T.abg 4 (vo):=by
 refine okD rV (by walk_at"ln") ?_;rintro _ _ _ g ⟨x,y,a,b,c,d,e,f,rfl,M,h,i,rfl⟩;refine ac (gX (aQ (dD T) g (ae (aa 1 rfl) aj af) ⟨a,b,c,d,e,f,rfl,M,rfl⟩) ?_);refine ac (ax 2 rV.nd (aQ (jR T) g (ae (aa 0 rfl) (ae (aa 1 rfl) aj af) af) ⟨x,y,a,b,c,d,e,f,rfl,⟨h,i,M.a,M.b,M.c,M.d⟩,rfl⟩) ?_);refine ac (aN (bE (aq (bT (aC (aa 2 rfl) ah rfl rfl) (aC (aa 1 rfl) ah rfl rfl)) (aq (bT (aC (aa 2 rfl) ah rfl rfl) (aC (aa 1 rfl) ah rfl rfl)) bG bi) bi)) ?_);exact rfl
noncomputable def beh(a b c d e f j h g i k l:Int):U:=mv (j*a+h*c) (j*b+h*d) (g*a+i*c) (g*b+i*d) (j*e+h*f+k) (g*e+i*f+l)
def tq:List U->Out->Prop:=λm o=>∃a b c d e f l i g j h k,m=[mv a b c d e f,mv l i g j h k]/\Mv a b c d e f/\Mv l i g j h k/\o=.val (beh a b c d e f l i g j h k)
theorem hU:OkD P w base T.aa8 5 (tq):=by
 refine okD gZ (by walk_at"ln") ?_;rintro _ _ _ h ⟨a,b,c,d,e,f,n,k,i,l,j,m,rfl,M,g,rfl⟩;refine ac (gX (aQ (dD T) h (ae (aa 0 rfl) aj af) ⟨a,b,c,d,e,f,rfl,M,rfl⟩) ?_);refine ac (gX (aQ (dD T) h (ae (aa 1 rfl) aj af) ⟨n,k,i,l,j,m,rfl,g,rfl⟩) ?_);refine ac (ax 2 gZ.nd (aQ (jR T) h (ae (bE (aq (aC (aa 0 rfl) ah rfl rfl) (aq (aC (aa 0 rfl) ah rfl rfl) bG aU) aU)) (ae (aa 1 rfl) aj af) iL) ⟨_,_,_,_,_,_,_,_,rfl,⟨M.a,M.c,g.a,g.b,g.c,g.d⟩,rfl⟩) ?_);refine ac (ax 3 gZ.nd (aQ (jR T) h (ae (bE (aq (aC (aa 0 rfl) ah rfl rfl) (aq (aC (aa 0 rfl) ah rfl rfl) bG aU) aU)) (ae (aa 1 rfl) aj af) iL) ⟨_,_,_,_,_,_,_,_,rfl,⟨M.b,M.d,g.a,g.b,g.c,g.d⟩,rfl⟩) ?_);refine ac (ax 4 gZ.nd (aQ (e8 T) h (ae (bE (aq (aC (aa 0 rfl) ah rfl rfl) (aq (aC (aa 0 rfl) ah rfl rfl) bG aU) aU)) (ae (aa 1 rfl) aj af) iL) ⟨_,_,_,_,_,_,_,_,rfl,g,M.e,M.f,rfl⟩) ?_);refine ac (aN (bE (aq (aC (aa 2 rfl) ah rfl rfl) (aq (aC (aa 3 rfl) ah rfl rfl) (aq (aC (aa 2 rfl) ah rfl rfl) (aq (aC (aa 3 rfl) ah rfl rfl) (aq (aC (aa 4 rfl) ah rfl rfl) (aq (aC (aa 4 rfl) ah rfl rfl) bG aU) aU) aU) aU) aU) aU)) ?_);exact rfl
end
section
variable {P:J2}{w:Kt}{K:JI}{mg:Str→Option J0}{base:Mf} (T:Txt w K mg)
noncomputable def Jo(a b c d e f:Int):U:=
 mv ((a*d-b*c) *d) (-(a*d-b*c) *b) (-(a*d-b*c) *c) ((a*d-b*c) *a) (-((a*d-b*c) *d*e+-(a*d-b*c) *b*f)) (-(-(a*d-b*c) *c*e+(a*d-b*c) *a*f))
def xt:List U->Out->Prop:=λg o=>∃a b c d e f,g=[mv a b c d e f]/\Mv a b c d e f/\o=.val (Jo a b c d e f)
theorem qF:OkD P w base T.aaY 4 (xt):=by
 refine okD cS (by walk_at"ln") ?_;rintro _ _ _ k ⟨a,b,c,d,e,f,rfl,M,rfl⟩;obtain⟨n,g,h,i,j,m,l⟩:=M;have M:Mv a b c d e f:=⟨n,g,h,i,j,m,l⟩;refine ac (gX (aQ (dD T) k (ae (aa 0 rfl) aj af) ⟨a,b,c,d,e,f,rfl,M,rfl⟩) ?_);refine ac (ax 1 cS.nd (aQ (wZ T) k (ae (aa 0 rfl) aj af) ⟨a,b,c,d,e,f,rfl,g,h,i,j,rfl⟩) ?_);refine ac (ax 2 cS.nd (aV (aa 1 rfl) (aC (aa 0 rfl) ah rfl rfl) (by walk_at"mul")) ?_);refine ac (ax 3 cS.nd (aV (bU (aa 1 rfl)) (aC (aa 0 rfl) ah rfl rfl) (by walk_at"mul")) ?_);refine ac (ax 4 cS.nd (aV (bU (aa 1 rfl)) (aC (aa 0 rfl) ah rfl rfl) (by walk_at"mul")) ?_);refine ac (ax 5 cS.nd (aV (aa 1 rfl) (aC (aa 0 rfl) ah rfl rfl) (by walk_at"mul")) ?_);refine ac (aN (bE (aq (aa 2 rfl) (aq (aa 3 rfl) (aq (aa 4 rfl) (aq (aa 5 rfl) (aq (bU (bT (aV (aa 2 rfl) (aC (aa 0 rfl) ah rfl rfl) (by walk_at"mul")) (aV (aa 3 rfl) (aC (aa 0 rfl) ah rfl rfl) (by walk_at"mul")))) (aq (bU (bT (aV (aa 4 rfl) (aC (aa 0 rfl) ah rfl rfl) (by walk_at"mul")) (aV (aa 5 rfl) (aC (aa 0 rfl) ah rfl rfl) (by walk_at"mul")))) bG fG) fG) af) af) af) af)) ?_);exact rfl
theorem xN(G:fB a b g s t)(o:0<g)(c:fB (a/g) (b/g) g' s' t'):g'=1:=by
 obtain⟨i,k⟩:=G.da;obtain⟨f,j⟩:=G.db;have n:a/g=i:=by rw[k,Nh _ (by lia)]
 have l:b/g=f:=by rw[j,Nh _ (by lia)]
 rw[n,l]at c;have e:=G.eq
 have k1:s*i+t*f=1:=by
  have:g*(s*i+t*f)=g*1:=by rw[k,j]at e;grind
  exact LP (by lia) this
 have d:g' ∣ 1:=by rw[<-k1];exact NR (KC c.da (KF _ _)) (KC c.db (KF _ _))
 have:=Ui (by decide) d;have m:=c.g0;rcases Oo m with h |h
 .lia
 .rw[<-h]at d;exact absurd (Sx.mp d) (by decide)
theorem xJ(G:fB (x1-x0) (y1-y0) g s t)(h:g=0):x0=x1/\y0=y1:=by
 subst h;have a:=Sx.mp G.da;have b:=Sx.mp G.db;lia
structure Dk(x0 y0 x1 y1:Int):Prop where
 s0:Sz 3000 x0
 t0:Sz 3000 y0
 s1:Sz 3000 x1
 t1:Sz 3000 y1
def uR:List U->Out->Prop:=λe o=>∃a d c b g s t:Int,e=[pt a d,pt c b]/\Dk a d c b/\fB (c-a) (b-d) g s t/\o=.val (.int g)
theorem mW:OkD P w base T.abh 3 (uR):=by
 refine okD A0 (by walk_at"ln") ?_;rintro _ _ _ a ⟨c,h,f,e,g,s,t,rfl,⟨i,t0,d,b⟩,G,rfl⟩;refine ac (aN (aC (aQ (oQ T) a (ae (bp (aC (aa 1 rfl) ah rfl rfl) (aC (aa 0 rfl) ah rfl rfl)) (ae (bp (aC (aa 1 rfl) ah rfl rfl) (aC (aa 0 rfl) ah rfl rfl)) aj bi) bi) ⟨_,_,g,s,t,rfl,by walk_at"szb",by walk_at"szb",G,rfl⟩) ah rfl rfl) ?_);exact rfl
def uC:List U->Out->Prop:=λh o=>∃c d f e g a b s t:Int,h=[pt c d,pt f e]/\Dk c d f e/\fB (f-c) (e-d) g a b/\g≠0/\fB ((f-c)/g) ((e-d)/g) 1 s t/\
  o=.val (mv s t (-((e-d)/g)) ((f-c)/g) (-s*c-t*d) ((e-d)/g*c-(f-c)/g*d))
theorem rh:OkD P w base T.abi 4 (uC):=by
 refine okD dM (by walk_at"ln") ?_;rintro _ _ _ k ⟨d,f,c,e,g,a,b,s,t,rfl,two,G,n,l,rfl⟩;have gp:0<g:=by have:=G.g0;lia
 obtain⟨o,t0,q,p⟩:=two;have two:Dk d f c e:=⟨o,t0,q,p⟩;have i:Sz 3001 (c-d):=by walk_at"szb"
 have j:Sz 3001 (e-f):=by walk_at"szb"
 obtain⟨sg,_,_⟩:=i0 G i j;have m:Sz 3001 ((c-d)/g):=i.ediv;have h:Sz 3001 ((e-f)/g):=j.ediv;obtain⟨_,r,u⟩:=i0 l m h;refine ac (ax 2 dM.nd (aQ (mW T) k (ae (aa 0 rfl) (ae (aa 1 rfl) aj af) af) ⟨d,f,c,e,g,a,b,rfl,two,G,rfl⟩) ?_);refine ac (aL (av fX (aa 2 rfl) ah) (decide_eq_false n) (ay ?_));refine ac (ax 3 dM.nd (ir (bp (aC (aa 1 rfl) ah rfl rfl) (aC (aa 0 rfl) ah rfl rfl)) (aa 2 rfl) ⟨gp,sg.mono (by decide)⟩) ?_);refine ac (ax 4 dM.nd (ir (bp (aC (aa 1 rfl) ah rfl rfl) (aC (aa 0 rfl) ah rfl rfl)) (aa 2 rfl) ⟨gp,sg.mono (by decide)⟩) ?_);refine ac (ax 5 dM.nd (aQ (oQ T) k (ae (aa 3 rfl) (ae (aa 4 rfl) aj af) af) ⟨_,_,1,s,t,rfl,m.mono (by decide),h.mono (by decide),l,rfl⟩) ?_);refine ac (ax 6 dM.nd (aC (aa 5 rfl) ah rfl rfl) ?_);refine ac (ax 7 dM.nd (aC (aa 5 rfl) ah rfl rfl) ?_);refine ac (aN (bE (aq (aa 6 rfl) (aq (aa 7 rfl) (aq (bU (aa 4 rfl)) (aq (aa 3 rfl) (aq (bp (aV (bU (aa 6 rfl)) (aC (aa 0 rfl) ah rfl rfl) (by walk_at"mul")) (aV (aa 7 rfl) (aC (aa 0 rfl) ah rfl rfl) (by walk_at"mul"))) (aq (bp (aV (aa 4 rfl) (aC (aa 0 rfl) ah rfl rfl) (by walk_at"mul")) (aV (aa 3 rfl) (aC (aa 0 rfl) ah rfl rfl) (by walk_at"mul"))) bG bi) bi) af) fG) af) af)) ?_);exact rfl
structure LvG(a b:P2)(g u v s t s1 t1:Int):Prop where
 G:fB (b.1-a.1) (b.2-a.2) g s1 t1
 gn:g≠0
 hu:u=(b.1-a.1)/g
 hv:v=(b.2-a.2)/g
 G1:fB u v 1 s t
theorem BS(h:a≠b):∃g u v s t d c,LvG a b g u v s t d c:=by
 obtain⟨g,d,c,G⟩:=pQ (b.1-a.1) (b.2-a.2)
 have j:g≠0:=λe=>h (by
  obtain⟨i,k⟩:=xJ G e;exact L7 i k)
 have gp:0<g:=by have:=G.g0;lia
 obtain⟨l,s,t,f⟩:=pQ ((b.1-a.1)/g) ((b.2-a.2)/g);have:=xN G gp f;subst this;exact⟨g,_,_,s,t,d,c,G,j,rfl,rfl,f⟩
end
section
variable {P:J2}{w:Kt}{K:JI}{mg:Str→Option J0}{base:Mf} (T:Txt w K mg)
noncomputable abbrev Pt:=Int×Int
def plt(p q:Pt):Prop:=p.1<q.1\/(p.1=q.1/\p.2<q.2)
noncomputable def aA(a b p:Pt):Int:=(b.1-a.1) *(p.2-a.2)-(b.2-a.2) *(p.1-a.1)
theorem cq(d:plt a b)(e:plt b c):plt a c:=by unfold plt at *;lia
theorem bv(a):¬ plt a a:=by unfold plt;lia
theorem p8(a b):plt a b\/a=b\/plt b a:=by
 unfold plt;by_cases c:a.1=b.1
 .by_cases d:a.2=b.2
  .exact .inr (.inl (L7 c d))
  .lia
 .lia
def lpos(x y:Int):Prop:=0<x\/(x=0/\0<y)
theorem bq(h:plt a b):lpos (b.1-a.1) (b.2-a.2):=by unfold plt lpos at *;lia
theorem gK(m:lpos u1 u2)(j:lpos v1 v2)(i:lpos w1 w2)(d:0<=u1*v2-u2*v1)(h:0<=v1*w2-v2*w1):0<=u1*w2-u2*w1:=by
 unfold lpos at *;by_cases b:v1=0
 .subst b;have a:0<v2:=by lia
  have c:w1=0:=by
   by_cases g:0<w1
   .have:=L9 a g;lia
   .lia
  subst c;have:=Li (show 0<=u1 by lia) (show 0<=w2 by lia);simp;lia
 .have f:0<v1:=by lia
  have e:v1*(u1*w2-u2*w1)=u1*(v1*w2-v2*w1)+w1*(u1*v2-u2*v1):=by grind
  have l:=Li (show 0<=u1 by lia) h;have k:=Li (show 0<=w1 by lia) d;have:0<=v1*(u1*w2-u2*w1):=by lia
  exact Int.nonneg_of_mul_nonneg_right this f
theorem mH(i:lpos u1 u2)(o:lpos v1 v2)(n:lpos w1 w2)(f:0<u1*v2-u2*v1)(m:0<=v1*w2-v2*w1):0<u1*w2-u2*w1:=by
 unfold lpos at *;by_cases g:v1=0
 .subst g;have c:0<v2:=by lia
  have b:w1=0:=by
   by_cases l:0<w1
   .have:=L9 c l;lia
   .lia
  subst b;have a:0<w2:=by lia
  have d:0<u1:=by
   rcases i with h |⟨h,_⟩
   .exact h
   .subst h;simp at f
  have:=L9 d a;simp;lia
 .have k:0<v1:=by lia
  have e:v1*(u1*w2-u2*w1)=u1*(v1*w2-v2*w1)+w1*(u1*v2-u2*v1):=by grind
  have q:=Li (show 0<=u1 by lia) m;by_cases b:w1=0
  .subst b;have a:0<w2:=by lia
   have d:0<u1:=by
    rcases i with h |⟨h,j⟩
    .exact h
    .subst h;have:=L9 j k;simp at f;lia
   have:=L9 d a;simp;lia
  .have p:=L9 (show 0<w1 by lia) f;have:0<v1*(u1*w2-u2*w1):=by lia
   exact Og this (by lia)
noncomputable def pf:List Pt->Prop
 |b::a::r=>plt a b/\pf (a::r)
 |_=>True
noncomputable def Turns:List Pt->Prop
 |c::b::a::r=>0<aA a b c/\Turns (b::a::r)
 |_=>True
noncomputable def iq(c:List Pt):List Pt->Prop
 |b::a::r=>(∀q∈c,0<=aA a b q)/\iq c (a::r)
 |_=>True
theorem Turns.tail:∀{b}{a},Turns (b::a)->Turns a
 |_,[],_=>trivial
 |_,[_],_=>trivial
 |_,_::_::_,h=>h.2
theorem pf.tail:∀{b}{a},pf (b::a)->pf a
 |_,[],_=>trivial
 |_,_::_,h=>h.2
theorem iq.tail:∀{b}{a},iq done (b::a)->iq done a
 |_,[],_=>trivial
 |_,_::_,h=>h.2
noncomputable def a_(P:Pt):List Pt->List Pt
 |b::a::r=>if aA a b P<=0 then a_ P (a::r) else b::a::r
 |st=>st
noncomputable def ao(a:List Pt):List Pt:=a.foldl (λb P=>P::a_ P b) []
structure Kept(done st:List Pt):Prop where
 ne:st≠[]
 desc:pf st
 turns:Turns st
 cover:iq done st
 sub:∀p∈st,p∈done
structure yw(done st:List Pt)(P:Pt):Prop extends Kept done st where
 pend:∀h r,st=h::r->∀q∈done,plt h q->0<=aA h P q
theorem yB{P b a:Pt}(k:∀q∈done,plt q P)(D:yw done (b::a::r) P)(h:aA a b P<=0):yw done (a::r) P:=by
 refine⟨⟨by simp,D.desc.tail,D.turns.tail,D.cover.tail,λp j=>D.sub p (JL _ j)⟩,?_⟩;intro n m e q d g;cases e;have f:=D.desc.1;have i:=D.cover.1 q d;have c:=k b (D.sub b JP);rcases p8 q b with z |z |z
 .have l1:=bq g;have l2:=bq f;have l:=bq (cq f c);have:=gK l l2 l1 (by unfold aA at h;grind) (by unfold aA at i;grind);unfold aA;grind
 .subst z;unfold aA at *;grind
 .have p:=D.pend b _ rfl q d z;unfold aA at *;grind
theorem r_{P:Pt}(d:∀q∈done,plt q P):∀c,yw done c P->yw done (a_ P c) P/\(∀b a r,a_ P c=b::a::r->0<aA a b P)/\(c.getLast?=(a_ P c).getLast?)
 |[],D=>absurd rfl D.ne
 |[b],D=>⟨D,λ_ _ _ e=>by simp[a_]at e,rfl⟩
 |b::a::r,D=>by
  by_cases h:aA a b P<=0
  .rw[a_,if_pos h];obtain⟨g,i,f⟩:=r_ d (a::r) (yB d D h);exact⟨g,i,by rw[<-f];simp⟩
  .rw[a_,if_neg h];refine⟨D,λj l k e=>?_,rfl⟩;cases e;lia
theorem yW{d st:List Pt}{P:Pt}(A:∀q∈d,plt q P)(D:yw d st P)(o:∀b a r,st=b::a::r->0<aA a b P)(C:∀x,st=[x]->∀q∈d,q=x\/plt x q):Kept (d++[P]) (P::st):=by
 have E:∀b r,pf (b::r)->Turns (b::r)->iq d (b::r)->plt b P->(∀a f,r=a::f->0<=aA a b P)->iq (d++[P]) (b::r):=by
  intro b r
  induction r generalizing b with
  |nil=>intro _ _ _ _ _;trivial
  |cons a r B=>
   intro j k u l s;refine⟨λq m=>?_,?_⟩
   .rcases Lm.mp m with z |z
    .exact u.1 q z
    .rw[Kq.mp z];exact s a r rfl
   .refine B a j.tail k.tail u.tail (cq j.1 l) (λc f e=>?_);subst e;have t:=k.1;have g:=s a _ rfl;have l1:=bq j.2.1;have l2:=bq j.1;have n:=bq (cq j.1 l);have:=gK l1 l2 n (by unfold aA at t;grind) (by unfold aA at g;grind);unfold aA;grind
 obtain⟨h,r,e⟩:∃h r,st=h::r:=by
  cases VE:st with
  |nil=>exact absurd VE D.ne
  |cons h r=>exact⟨h,r,rfl⟩
 subst e;have i:=A h (D.sub h JP);refine⟨by simp,⟨i,D.desc⟩,?_,⟨λq m=>?_,?_⟩,λp v=>?_⟩
 .cases r with
  |nil=>trivial
  |cons a f=>exact⟨o h a f rfl,D.turns⟩
 .rcases Lm.mp m with z |z
  .rcases p8 q h with y |y |y
   .cases r with
    |nil=>
     rcases C h rfl q z with w |w
     .subst w;exact absurd y (bv _)
     .exact absurd (cq y w) (bv _)
    |cons a f=>
     have t:=o h a f rfl;have c:=D.cover.1 q z;have l1:=bq D.desc.1;have l2:=bq y;have n:=bq i;have:=gK l2 l1 n (by unfold aA at c;grind) (by unfold aA at t;grind);unfold aA;grind
   .subst y;unfold aA;grind
   .exact D.pend h r rfl q z y
  .rw[Kq.mp z];unfold aA;grind
 .exact E h r D.desc D.turns D.cover i (λa f e=>Int.le_of_lt (o h a f (by rw[e])))
 .rcases JN.mp v with z |z
  .subst z;exact J1 _ JP
  .exact LF _ (D.sub p z)
theorem lH(row)(P):ao (row++[P])=P::a_ P (ao row):=by
 unfold ao;rw[List.foldl_append];rfl
theorem ml{row:List Pt}(hs:row.Pairwise plt):∀n,0<n->n<=row.length->Kept (row.take n) (ao (row.take n))/\(ao (row.take n)).getLast?=row.head?/\(ao (row.take n)).head?=row[n-1]?
 |0,h,_=>absurd h (by decide)
 |1,_,h=>by
  cases row with
  |nil=>simp at h
  |cons a r=>
   simp only[Pm,OJ];exact⟨⟨by simp[ao],trivial,trivial,trivial,λp v=>by simpa [ao,a_] using v⟩,rfl,rfl⟩
 |n+2,_,h=>by
  obtain⟨K,t,f⟩:=ml hs (n+1) (by lia) (by lia);have g:n+1<row.length:=by lia
  have w:row.take (n+2)=row.take (n+1)++[row[n+1]]:=by rw[List.take_succ_eq_append_getElem g]
  have m:∀q∈row.take (n+1),plt q row[n+1]:=λq b=>by
   obtain⟨i,s,e⟩:=N6.mp b;subst e;exact Kp.mp hs i (n+1) (by lia) g (by lia)
  have D:yw (row.take (n+1)) (ao (row.take (n+1))) row[n+1]:=⟨K,λB r e q b j=>by
   exfalso
   rw[e]at f;simp only[Tr,RX]at f;have c:n<row.length:=by lia
   rw[JG c]at f;have k:=KG f;obtain⟨i,s,l⟩:=N6.mp b;subst l;rw[k]at j;rcases L1 i n with z |z
   .exact bv _ (cq j (Kp.mp hs i n (by lia) c z))
   .have:i=n:=by lia
    subst this;exact bv _ j⟩
  obtain⟨y,A,d⟩:=r_ m _ D;rw[w,lH];refine⟨yW m y A (λx e q b=>?_),?_,?_⟩
  .rw[e,t]at d;obtain⟨i,s,l⟩:=N6.mp b;have o:0<row.length:=by lia
   have u:row[0]=x:=by
    rw[NB,JG o]at d;exact KG d
   subst l;rcases PJ i with z |z
   .subst z;exact .inl u
   .right;rw[<-u];exact Kp.mp hs 0 i o (by lia) z
  .rw[List.getLast?_cons,<-d,t];cases row with
   |nil=>simp at g
   |cons a r=>rfl
  .simp only[Tr,RX];rw[show n+2-1=n+1 by lia,JG g]
theorem cx(hs:row.Pairwise plt)(h:row≠[]):Kept row (ao row)/\(ao row).getLast?=row.head?/\(ao row).head?=row.getLast?:=by
 have d:=K_.mpr h;obtain⟨b,c,a⟩:=ml hs row.length d (JR _);rw[MY]at b c a;exact⟨b,c,by rw[a,LQ]⟩
theorem kL(i:lpos u1 u2)(k:lpos v1 v2)(j:lpos w1 w2)(b:0<=u1*v2-u2*v1)(d:0<v1*w2-v2*w1):0<u1*w2-u2*w1:=by
 unfold lpos at *;by_cases a:v1=0
 .subst a;have:=Li (show 0<=v2 by lia) (show 0<=w1 by lia);simp at d;lia
 .have c:0<v1:=by lia
  have g:0<u1:=by
   rcases i with h |⟨h,f⟩
   .exact h
   .subst h;have:=L9 f c;simp at b;lia
  have e:v1*(u1*w2-u2*w1)=u1*(v1*w2-v2*w1)+w1*(u1*v2-u2*v1):=by grind
  have m:=L9 g d;have l:=Li (show 0<=w1 by lia) b;have q:0<v1*(u1*w2-u2*w1):=by lia
  exact Og q c
def low(c:List Pt)(p:Pt):Prop:=∀a∈c,∀b∈c,plt a p->plt p b->0<aA a p b
theorem E2:∀a n,pf (n::a)->Turns (n::a)->iq row (n::a)->p∈a->(∀l,(n::a).getLast?=some l->plt l p)->
  ∃b q,0<aA q p b/\plt q p/\plt p b/\(∀x∈row,0<=aA p b x)/\(∀x∈row,0<=aA q p x)
 |[],n,_,_,_,c,_=>by simp at c
 |h::r,n,D,T,C,c,hl=>by
  by_cases e:h=p
  .subst e;cases r with
   |nil=>exact absurd (hl h (by simp)) (bv h)
   |cons q f=>exact⟨n,q,T.1,D.2.1,D.1,C.1,C.2.1⟩
  .have V3:p∈r:=by
    rcases JN.mp c with z |z
    .exact absurd z.symm e
    .exact z
   exact E2 r h D.tail T.tail C.tail V3 (λl d=>hl l (by rw[Nq];exact d))
theorem qv(hs:row.Pairwise plt)(u:p∈ao row):low row p:=by
 intro a o b E c e;have F:row≠[]:=λz=>by rw[z]at o;simp at o
 obtain⟨K,w,v⟩:=cx hs F
 have L:∀x∈row,∀m,row.head?=some m->x=m\/plt m x:=λx h m d=>by
  cases row with
  |nil=>simp at h
  |cons y r=>
   cases d;rcases JN.mp h with z |z
   .exact .inl z
   .exact .inr ((KM.mp hs).1 x z)
 have J:∀x∈row,∀m,row.getLast?=some m->x=m\/plt x m:=λx h m d=>by
  obtain⟨i,g⟩:=KJ.mp h;have k:=(JV.mp g).1;rw[LQ]at d;have I:=(JV.mp d).1;rcases Kl (show i<=row.length-1 by lia) with z |z
  .right
   have s:=Kp.mp hs i (row.length-1) k I z;rw[(JV.mp g).2,(JV.mp d).2]at s;exact s
  .left;rw[z,d]at g;exact (KG g).symm
 cases VE:ao row with
 |nil=>exact absurd VE K.ne
 |cons n B=>
  rw[VE]at K w v u;have N:row.getLast?=some n:=by rw[<-v];rfl
  have j:p∈B:=by
   rcases JN.mp u with z |z
   .rcases J b E n N with y |y
    .rw[y,<-z]at e;exact absurd e (bv p)
    .rw[z]at e;exact absurd (cq e y) (bv n)
   .exact z
  obtain⟨f,q,t,C,G,Q,O⟩:=E2 B n K.desc K.turns K.cover j (λl A=>by
   rw[w]at A;rcases L a o l A with y |y
   .rw[<-y];exact c
   .exact cq y c)
  unfold aA at *;have k1:0<=(p.1-a.1) *(p.2-q.2)-(p.2-a.2) *(p.1-q.1):=by grind
  have M:0<(p.1-q.1) *(f.2-p.2)-(p.2-q.2) *(f.1-p.1):=by grind
  have H:0<=(f.1-p.1) *(b.2-p.2)-(f.2-p.2) *(b.1-p.1):=by grind
  have D:=mH (bq C) (bq G) (bq e) M H;have P:=kL (bq c) (bq C) (bq e) k1 D;grind
theorem zh:∀c h,pf (h::c)->iq row (h::c)->p∈row->p ∉ h::c->plt p h->(∀l,(h::c).getLast?=some l->plt l p)->∃a∈h::c,∃b∈h::c,plt a p/\plt p b/\0<=aA a b p
 |[],h,_,_,_,_,d,e=>absurd (cq d (e h (by simp))) (bv p)
 |a::r,h,D,C,hr,V2,d,e=>by
  rcases p8 p a with z |z |z
  .obtain⟨x,g,y,hy,k⟩:=zh r a D.tail C.tail hr (λw=>V2 (JL _ w)) z (λl f=>e l (by rw[Nq];exact f));exact⟨x,JL _ g,y,JL _ hy,k⟩
  .exact absurd (by rw[z];simp) V2
  .exact⟨a,by simp,h,by simp,z,d,C.1 p hr⟩
theorem gap(hs:row.Pairwise plt)(c:p∈row)(e:p ∉ ao row):∃a∈ao row,∃b∈ao row,plt a p/\plt p b/\aA a p b<=0:=by
 have o:row≠[]:=λz=>by rw[z]at c;simp at c
 obtain⟨K,m,k⟩:=cx hs o;cases VE:ao row with
 |nil=>exact absurd VE K.ne
 |cons n u=>
  rw[VE]at K m k e;have f:row.getLast?=some n:=by rw[<-k];rfl
  have q:plt p n:=by
   obtain⟨i,d⟩:=KJ.mp c;have g:=(JV.mp d).1;rw[LQ]at f;have t:=(JV.mp f).1;rcases Kl (show i<=row.length-1 by lia) with z |z
   .have j:=Kp.mp hs i (row.length-1) g t z;rw[(JV.mp d).2,(JV.mp f).2]at j;exact j
   .rw[z,f]at d;exact absurd (by rw[<-KG d];simp) e
  obtain⟨a,w,b,s,k1,v,A⟩:=zh u n K.desc K.cover c e q (λl h=>by
   have x:=h;rw[m]at h;cases row with
   |nil=>simp at c
   |cons y r=>
    cases h;rcases JN.mp c with z |z
    .exact absurd (by rw[z];exact N0 x) e
    .exact (KM.mp hs).1 p z)
  refine⟨a,w,b,s,k1,v,?_⟩;unfold aA at *;grind
theorem yF(hs:row.Pairwise plt)(k:V0.Pairwise plt)(h:∀p∈V0,p∈row)(j:∀p∈ao row,p∈V0)(c:∀r q,q∈ao r->q∈r)(p):p∈ao V0↔p∈ao row:=by
 constructor
 .intro d;refine LM λe=>?_;obtain⟨a,i,b,f,k1,g,l⟩:=gap hs (h p (c _ _ d)) e;have:=qv k d a (j a i) b (j b f) k1 g;lia
 .intro d;refine LM λe=>?_;obtain⟨a,i,b,f,k1,g,l⟩:=gap k (j p d) e;have:=qv hs d a (h a (c _ _ i)) b (h b (c _ _ f)) k1 g;lia
abbrev Szp(m:Nat)(p:P2):Prop:=Sz m p.1/\Sz m p.2
theorem EN(b)(r):atI ((b::r).reverse.map pu) (-1)=some (pu b):=by
 have h:ixN ((b::r).reverse.map pu).length (-1)=some r.length:=by
  unfold ixN;simp;lia
 unfold atI;rw[h];simp
theorem EZ(b a)(r):atI ((b::a::r).reverse.map pu) (-2)=some (pu a):=by
 have h:ixN ((b::a::r).reverse.map pu).length (-2)=some r.length:=by
  unfold ixN;simp;lia
 unfold atI;rw[h];simp
theorem k7(P):∀c,(a_ P c).length<=c.length
 |[]=>JR _
 |[_]=>JR _
 |b::a::r=>by
  unfold a_;split
  .have:=k7 P (a::r);simp only[JX]at *;lia
  .exact JR _
theorem vM(P):∀c q,q∈a_ P c->q∈c
 |[],_,h=>h
 |[_],_,h=>h
 |b::a::r,q,h=>by
  unfold a_ at h;split at h
  .exact JL _ (vM P (a::r) q h)
  .exact h
theorem fK{a:List P2}{P:P2}(h:a[i]?=some P):ao (a.take (i+1))=P::a_ P (ao (a.take i)):=by
 rw[M9,h];exact lH _ _
theorem hJ(a:List P2):∀i,(ao (a.take i)).length<=i
 |0=>by simp[ao]
 |i+1=>by
  have ih:=hJ a i;cases h:a[i]? with
  |none=>rw[M9,h];simp;lia
  |some P=>
   rw[fK h];have:=k7 P (ao (a.take i));simp only[JX];lia
theorem eZ(a:List P2):∀i q,q∈ao (a.take i)->q∈a
 |0,q,h=>by simp[ao]at h
 |i+1,q,h=>by
  cases hi:a[i]? with
  |none=>rw[M9,hi]at h;exact eZ a i q (by simpa using h)
  |some P=>
   rw[fK hi]at h;rcases JN.mp h with e |e
   .rw[e];exact J8 hi
   .exact eZ a i q (vM P _ q e)
theorem Ad(n):decide (sgn n<1)=decide (n<=0):=by
 have h:sgn n<1↔n<=0:=by
  unfold sgn;split
  .lia
  .split <;>lia
 exact decide_eq_decide.mpr h
theorem fF(l:List P2):eK (l.map pu) none (some (-1))=l.dropLast.map pu:=by
 unfold eK HT.sIx;rw[Qh,List.dropLast_eq_take];simp
 try lia
noncomputable def ak(a:List P2):List P2:=if (ST.srt a).length=1 then ST.srt a else (ao (ST.srt a)).reverse.dropLast++(ao (ST.srt a).reverse).reverse.dropLast
theorem pZ(a b):plt a b↔ST.ltP a b=true:=by unfold plt ST.ltP;simp
theorem jd:ST.Asc l↔l.Pairwise plt:=⟨λh=>h.imp λ{a b} k=>(pZ a b).mpr k,λh=>h.imp λ{a b} k=>(pZ a b).mp k⟩
theorem og:∀{st},pf st->st.Pairwise (λx y=>plt y x)
 |[],_=>NV
 |[_],_=>by simp
 |b::a::r,h=>by
  have ih:=og h.2;refine KM.mpr ⟨λx c=>?_,ih⟩;rcases JN.mp c with z |z
  .rw[z];exact h.1
  .exact cq ((KM.mp ih).1 x z) h.1
theorem b_(row)(q)(h:q∈ao row):q∈row:=by
 have:=eZ row row.length q;rw[MY]at this;exact this h
theorem dE(hs:row.Pairwise plt):ST.Asc (ao row).reverse:=by
 by_cases a:row=[]
 .subst a;exact NV
 .exact jd.mpr (OR.mpr (og (cx hs a).1.desc))
theorem sW(hs:row.Pairwise plt)(a:V0.Pairwise plt)(b:∀p∈V0,p∈row)(c:∀p∈ao row,p∈V0):ao V0=ao row:=by
 have e:=ST.asc_one (dE a) (dE hs) λz=>by
  rw[J7,J7];exact yF hs a b c b_ z
 exact List.reverse_inj.mp e
noncomputable def ng(p:Pt):Pt:=(-p.1,-p.2)
theorem ix(p):ng (ng p)=p:=by unfold ng;simp
theorem Gw(l:List Pt):(l.map ng).map ng=l:=by
 rw[Ka,show ng ∘ ng=id from funext ix,UP]
theorem mG(a b c):aA (ng a) (ng b) (ng c)=aA a b c:=by unfold aA ng;grind
theorem lU(h:plt a b):plt (ng b) (ng a):=by unfold plt ng at *;simp;lia
theorem BK(P):∀c,a_ (ng P) (c.map ng)=(a_ P c).map ng
 |[]=>rfl
 |[_]=>rfl
 |b::a::r=>by
  show a_ (ng P) (ng b::ng a::r.map ng)=_;unfold a_;rw[mG];split
  .exact BK P (a::r)
  .rfl
theorem f6:∀a,ao (a.map ng)=(ao a).map ng:=λa=>by
 have c:∀(l:List Pt) b,(l.map ng).foldl (λb P=>P::a_ P b) (b.map ng)=(l.foldl (λb P=>P::a_ P b) b).map ng:=by
  intro l
  induction l with
  |nil=>intro b;rfl
  |cons p r d=>
   intro b;rw[J6,MP,MP,BK];exact d (p::a_ p b)
 exact c a []
theorem cY{row:List Pt}(hs:row.Pairwise plt):(row.reverse.map ng).Pairwise plt:=by
 rw[Lq,OR];exact hs.imp λ{a b} h=>lU h
theorem bO(a:List Pt):ao a.reverse=(ao (a.reverse.map ng)).map ng:=by rw[f6,Gw]
theorem pX{row V0:List Pt}(hs:row.Pairwise plt)(c:V0.Pairwise plt)(d:∀p∈V0,p∈row)(e:∀p∈ao row.reverse,p∈V0):ao V0.reverse=ao row.reverse:=by
 rw[bO row,bO V0];congr 1;refine sW (cY hs) (cY c) (λp a=>?_) (λp a=>?_)
 .obtain⟨q,b,rfl⟩:=JS.mp a;exact JS.mpr ⟨q,J7.mpr (d q (J7.mp b)),rfl⟩
 .rw[f6]at a;obtain⟨q,b,rfl⟩:=JS.mp a;exact JS.mpr ⟨q,J7.mpr (e q b),rfl⟩
theorem Az(hs:row.Pairwise plt)(C:2<=row.length):∃b a g f,ao row=a::g/\ao row.reverse=b::f/\b∈g/\a∈f/\(∀p∈row,p=b\/plt b p)/\(∀p∈row,p=a\/plt p a)/\b∈row/\a∈row:=by
 have A:row≠[]:=λz=>by rw[z]at C;simp at C
 obtain⟨K,c,h⟩:=cx hs A;have e:row.reverse.map ng≠[]:=by simpa using A
 obtain⟨D,l,o⟩:=cx (cY hs) e;have w:row.head?=some row[0]:=by rw[NB];exact JG (by lia)
 have s:row.getLast?=some row[row.length-1]:=by rw[LQ];exact JG (by lia)
 have j:=Kp.mp hs 0 (row.length-1) (by lia) (by lia) (by lia)
 have u:∀p∈row,p=row[0]\/plt row[0] p:=λp n=>by
  obtain⟨i,q,rfl⟩:=N2.mp n;rcases PJ i with z |z
  .left;subst z;rfl
  .right;exact Kp.mp hs 0 i (by lia) q z
 have m:∀p∈row,p=row[row.length-1]\/plt p row[row.length-1]:=λp n=>by
  obtain⟨i,q,rfl⟩:=N2.mp n;rcases Kl (show i<=row.length-1 by lia) with z |z
  .right;exact Kp.mp hs i (row.length-1) q (by lia) z
  .left;subst z;rfl
 have B:row[0]≠row[row.length-1]:=λz=>by rw[z]at j;exact bv _ j
 generalize row[0]=b at *;generalize row[row.length-1]=a at *;have t:=List.mem_of_head? w;have v:=N0 s;rw[w]at c;rw[s]at h
 have d:(ao row.reverse).getLast?=some a:=by
  rw[bO,OB,l,P4,RY,s];simp[ix]
 have k:(ao row.reverse).head?=some b:=by
  rw[bO,P4,o,OB,OS,w];simp[ix]
 cases hb:ao row with
 |nil=>rw[hb]at h;cases h
 |cons x g=>
  rw[hb]at h c;cases h;cases hbR:ao row.reverse with
  |nil=>rw[hbR]at k;cases k
  |cons y f=>
   rw[hbR]at k d;cases k;refine⟨_,_,g,f,rfl,rfl,?_,?_,u,m,t,v⟩
   .cases g with
    |nil=>simp at c;exact absurd c.symm B
    |cons z r=>rw[Nq]at c;exact N0 c
   .cases f with
    |nil=>simp at d;exact absurd d B
    |cons z r=>rw[Nq]at d;exact N0 d
theorem AC(st:List Pt):st.reverse.dropLast=st.tail.reverse:=by
 cases st with
 |nil=>rfl
 |cons h t=>simp
theorem gY{l:List Pt}:l.reverse.Nodup↔l.Nodup:=by
 unfold List.Nodup;rw[OR];exact⟨λh=>h.imp λk=>Ne.symm k,λh=>h.imp λk=>Ne.symm k⟩
theorem jZ:∀{l m:List Pt},l.Nodup->(∀x∈l,x∈m)->l.length<=m.length
 |[],_,_,_=>Kv _
 |x::l,m,h,hs=>by
  obtain⟨c,d⟩:=LL.mp h;have a:=hs x JP;have b:=jZ (m:=m.erase x) d λy hy=>(Pa (λe=>c (by rw[<-e];exact hy))).mpr (hs y (JL _ hy));rw[Oh a]at b;have:=Md a;simp only[JX];lia
theorem dC(pts):(ST.srt pts).Pairwise plt:=jd.mp (ST.srt_asc pts)
theorem gg(h:2<=(ST.srt pts).length):ak pts=(ao (ST.srt pts)).tail.reverse++(ao (ST.srt pts).reverse).tail.reverse:=by
 unfold ak;rw[if_neg (by lia),AC,AC]
theorem kR(h:pts≠[]):ak pts≠[]:=by
 have b:ST.srt pts≠[]:=λz=>by
  obtain⟨p,r,rfl⟩:=List.exists_cons_of_ne_nil h;have:=(ST.srt_mem p (p::r)).mpr JP;rw[z]at this;simp at this
 by_cases e:(ST.srt pts).length=1
 .unfold ak;rw[if_pos e];exact b
 .have c:2<=(ST.srt pts).length:=by have:=K_.mpr b;lia
  obtain⟨j,k,d,l,f,g,a,i,_⟩:=Az (dC pts) c;rw[gg c,f,g];intro z;have:d.reverse=[]:=(List.append_eq_nil_iff.mp z).1;rw[List.reverse_eq_nil_iff.mp this]at a;simp at a
theorem bo(pts):(ak pts).Nodup:=by
 have i:∀{l:List Pt},l.Pairwise plt->l.Nodup:=λh=>h.imp λ{a b} k e=>by rw[e]at k;exact bv b k
 by_cases r:2<=(ST.srt pts).length
 .have c:=dC pts;obtain⟨f,d,J,I,m,j,N,M,L,g,u,t⟩:=Az c r;have F:(d::J).Nodup:=by rw[<-m];exact gY.mp (i (jd.mp (dE c)))
  have K:(f::I).Nodup:=by
   rw[<-j,bO];have:=gY.mp (i (jd.mp (dE (cY c))));refine Lq.mpr (this.imp λ{a b} C e=>C ?_);rw[<-ix a,e,ix]
  obtain⟨y,D⟩:=LL.mp F;obtain⟨A,x⟩:=LL.mp K;rw[gg r,m,j,M_,M_,OA];refine⟨gY.mpr D,gY.mpr x,λp z q B=>?_⟩;rintro rfl;have w:=J7.mp z;have n:=J7.mp B;have v:p∈ao (ST.srt pts):=by rw[m];exact JL _ w
  have E:p∈ao (ST.srt pts).reverse:=by rw[j];exact JL _ n
  have o:=b_ _ _ v;have l1:=(L p o).resolve_left λe=>A (by rw[<-e];exact n);have l2:=(g p o).resolve_left λe=>y (by rw[<-e];exact w);have G:=qv c v f u d t l1 l2;have H:ng p∈ao ((ST.srt pts).reverse.map ng):=by rw[f6];exact JS.mpr ⟨p,E,rfl⟩
  have s:=qv (cY c) H (ng d) (JS.mpr ⟨d,J7.mpr t,rfl⟩) (ng f) (JS.mpr ⟨f,J7.mpr u,rfl⟩) (lU l2) (lU l1);rw[mG]at s;unfold aA at G s;grind
 .unfold ak;split
  .exact i (dC pts)
  .have e:ST.srt pts=[]:=LB.mp (by lia);rw[e];exact TN
theorem aZ(pts):∀p∈ak pts,p∈pts:=λp a=>by
 unfold ak at a;split at a
 .exact (ST.srt_mem p pts).mp a
 .rcases Lm.mp a with h |h
  .exact (ST.srt_mem p pts).mp (b_ _ _ (J7.mp (Rr _ h)))
  .exact (ST.srt_mem p pts).mp (J7.mp (b_ _ _ (J7.mp (Rr _ h))))
theorem cR(pts):ak (ak pts)=ak pts:=by
 by_cases n:2<=(ST.srt pts).length
 .have j:=dC pts;obtain⟨h,f,E,C,c,g,k,q,D,r,B,F⟩:=Az j n;have i:=gg n
  have b:∀p∈ao (ST.srt pts),p∈ak pts:=λp a=>by
   rw[i,c,g,M_,M_];rw[c]at a;rcases JN.mp a with z |z
   .rw[z];exact J1 _ (J7.mpr q)
   .exact LF _ (J7.mpr z)
  have d:∀p∈ao (ST.srt pts).reverse,p∈ak pts:=λp a=>by
   rw[i,c,g,M_,M_];rw[g]at a;rcases JN.mp a with z |z
   .rw[z];exact LF _ (J7.mpr k)
   .exact J1 _ (J7.mpr z)
  have o:=dC (ak pts);have sub:∀p∈ST.srt (ak pts),p∈ST.srt pts:=λp a=>(ST.srt_mem p pts).mpr (aZ pts p ((ST.srt_mem p _).mp a));have u:=sW j o sub λp a=>(ST.srt_mem p _).mpr (b p a);have v:=pX j o sub λp a=>(ST.srt_mem p _).mpr (d p a)
  have len:2<=(ST.srt (ak pts)).length:=by
   have t:=(ST.srt_mem _ _).mpr (b h (by rw[c];exact JL _ k));have A:=(ST.srt_mem _ _).mpr (b f (by rw[c];exact JP))
   have s:h≠f:=λz=>by
    have m:=bo pts;rw[i,c,g,M_,M_,OA]at m;exact m.2.2 h (J7.mpr k) f (J7.mpr q) z
   have:=jZ (l:=[h,f]) (by simp[s]) (λx w=>by
    rcases JN.mp w with z |z
    .rw[z];exact t
    .rw[Kq.mp z];exact A)
   exact this
  rw[gg len,u,v,<-i]
 .have e:ak pts=ST.srt pts:=by
   unfold ak;split
   .rfl
   .have e:ST.srt pts=[]:=LB.mp (by lia);rw[e];rfl
  rw[e];have y:=ST.asc_srt (ST.srt_asc pts);unfold ak;rw[y];split
  .rfl
  .have e:ST.srt pts=[]:=LB.mp (by lia);rw[e];rfl
end
section
variable {P:J2}{w:Kt}{K:JI}{mg:Str→Option J0}{base:Mf} (T:Txt w K mg)
def x9:List U->Out->Prop:=λa o=>∃P Q R:P2,a=[pu P,pu Q,pu R]/\Szp 5000 P/\Szp 5000 Q/\Szp 5000 R/\o=.val (.int (sgn (aA P Q R)))
theorem Dq:OkD P w base T.abq 2 (x9):=by
 refine okD DZ (by walk_at"ln") ?_;rintro _ _ _ a ⟨P,Q,R,rfl,⟨f,e⟩,⟨d,g⟩,⟨b,c⟩,rfl⟩;refine ac (aN (aQ (vY T) a (ae (bp (aV (bp (aC (aa 1 rfl) ah rfl rfl) (aC (aa 0 rfl) ah rfl rfl)) (bp (aC (aa 2 rfl) ah rfl rfl) (aC (aa 0 rfl) ah rfl rfl)) (by walk_at"mul")) (aV (bp (aC (aa 1 rfl) ah rfl rfl) (aC (aa 0 rfl) ah rfl rfl)) (bp (aC (aa 2 rfl) ah rfl rfl) (aC (aa 0 rfl) ah rfl rfl)) (by walk_at"mul"))) aj bi) ⟨_,rfl,rfl⟩) ?_);exact rfl
def mf:List U->Out->Prop:=λb o=>∃a:List P2,b=[lp a]/\(∀p∈a,Szp 5000 p)/\a.length<=900/\o=.new ((ao a).reverse.map pu)
theorem iu:OkD P w base T.aaE 3 (mf):=by
 refine okD eO (by walk_at"ln") ?_;rintro _ _ _ hr ⟨row,rfl,sz,hl,rfl⟩;refine ac (oy (i:=1) eO.nd rfl (Or.inl rfl) (fA bG) ?_);refine ac (jL (λst:List P2=>[some (.val (lp row)),some (.own (st.reverse.map pu)),none]) (λi st=>st=ao (row.take i)) rfl PassesOwn.never (df (aa 0 rfl) (.inl rfl)) ?h0 ?hs ?hd)
 case h0=>exact⟨[],rfl,rfl,rfl,trivial⟩
 case hs=>
  rintro H0 i x _ hx rfl;obtain⟨P,hP,mP,rfl⟩:=A7 hx;have hi:=aT hP;have sP:=sz P mP;refine⟨_,(j4 (i:=2) eO.nd rfl (Or.inl rfl)),?_⟩;have len0:=hJ row i;refine o0 (λps=>SubP [some (.val (lp row)),some (.own ((a_ P (ao (row.take i))).reverse.map pu)),some (.val (pu P))] ps) (jj (λs2:List P2=>[some (.val (lp row)),some (.own (s2.reverse.map pu)),some (.val (pu P))]) (λm s2=>m=s2.length/\a_ P s2=a_ P (ao (row.take i))/\(∀p∈s2,p∈row)/\s2.length<=i) PassesOwn.never ?h0 ?hs) ?hj
  case h0=>exact⟨_,_,⟨rfl,rfl,λq hq=>eZ row i q hq,len0⟩,rfl,rfl,rfl,trivial⟩
  case hs=>
   rintro m s2 ⟨rfl,e2,sub,len2⟩
   match s2,e2,sub,len2 with
   |[],e2,sub,len2=>
    refine⟨false,?_,λh=>(nomatch h),λh ps VH=>e2 ▸ VH⟩;exact (Tw.t (pN (av j0 (gF 1 rfl rfl T.aac) ah) rfl))
   |[b],e2,sub,len2=>
    refine⟨false,?_,λh=>(nomatch h),λh ps VH=>e2 ▸ VH⟩;exact (Tw.t (pN (av j0 (gF 1 rfl rfl T.aac) ah) rfl))
   |b::a::r,e2,sub,len2=>
    have sa:=sz a (sub a (by simp));have sb:=sz b (sub b (by simp));have e1:decide (1<((((b::a::r).reverse.map pu).length:Nat):Int))=true:=decide_eq_true (by simp;lia);refine⟨decide (1<((((b::a::r).reverse.map pu).length:Nat):Int)) && decide (sgn (aA a b P)<1),?_,λh=>?_,λh ps VH=>?_⟩
    .exact (Tw.t (zG (av j0 (gF 1 rfl rfl T.aac) ah) (λhz=>(zY (av h_ (aQ (Dq T) hr (ae (v7 1 rfl (bU ah) (EZ b a r)) (ae (v7 1 rfl (bU ah) (EN b (a::r))) (ae (aa 2 rfl) aj af) aU) aU) ⟨a,b,P,rfl,sa,sb,sP,rfl⟩) ah)))))
    .rw[e1,Ol,Ad]at h;have hd:=dTb h;refine ac (Fh 1 rfl (by simp) (ay ?_))
     refine⟨_,a::r,?_,⟨rfl,?_,λq hq=>sub q (JL _ hq),?_⟩,rfl,?_,rfl,trivial⟩
     .simp
     .rw[←e2];conv=>rhs;unfold a_
      rw[if_pos hd]
     .simp only[JX]at *;lia
     .exact congrArg (λl=>some (Sl.own l)) (by simp)
    .rw[e1,Ol,Ad]at h;have hd:=dFb h
     have e3:a_ P (b::a::r)=b::a::r:=by conv=>lhs;unfold a_
                                        rw[if_neg hd]
     rw[<-e2,e3];exact VH
  case hj=>
   intro ps VH;refine eC ?_ VH;have e4:=fK hP;have len3:=k7 P (ao (row.take i));refine ac (gN 1 rfl (aa 2 rfl) (by rw[JK,KD];exact aB (by lia)) (ay ?_));refine⟨_,rfl,rfl,?_,trivial⟩;exact congrArg (λl=>some (Sl.own l)) (by rw[e4];simp)
 case hd=>
  rintro st ps VE VH;refine eC ?_ VH;refine ac (mh 1 rfl ?_);rw[VE];simp
theorem uY(h:ST.srt l=ST.srt m):ak l=ak m:=by unfold ak;rw[h]
theorem oE(h:∀z,z∈l↔z∈m):ST.srt l=ST.srt m:=ST.asc_one (ST.srt_asc l) (ST.srt_asc m) λz=>by rw[ST.srt_mem,ST.srt_mem];exact h z
theorem fE(h:¬ 2<=(ST.srt pts).length):ak pts=ST.srt pts:=by
 unfold ak;split
 .rfl
 .have e:ST.srt pts=[]:=LB.mp (by lia);rw[e];rfl
section
variable {f:Pt→Pt}
theorem DV(d:∀a b,plt a b->plt (f a) (f b))(l):ST.srt (l.map f)=(ST.srt l).map f:=by
 refine ST.asc_one (ST.srt_asc _) (jd.mpr (Lq.mpr ((dC l).imp λ{a b} h=>d a b h))) λz=>?_;rw[ST.srt_mem,JS,JS];exact⟨λ⟨x,c,e⟩=>⟨x,(ST.srt_mem x l).mpr c,e⟩,λ⟨x,c,e⟩=>⟨x,(ST.srt_mem x l).mp c,e⟩⟩
theorem ww(d:∀a b c,aA (f a) (f b) (f c)<=0↔aA a b c<=0)(P):∀e,a_ (f P) (e.map f)=(a_ P e).map f
 |[]=>rfl
 |[_]=>rfl
 |b::a::r=>by
  show a_ (f P) (f b::f a::r.map f)=_;unfold a_;by_cases h:aA a b P<=0
  .rw[if_pos h,if_pos ((d a b P).mpr h)];exact ww d P (a::r)
  .rw[if_neg h,if_neg λz=>h ((d a b P).mp z)];rfl
theorem oC(g:∀a b c,aA (f a) (f b) (f c)<=0↔aA a b c<=0)(row):ao (row.map f)=(ao row).map f:=by
 have e:∀(l:List Pt) d,(l.map f).foldl (λd P=>P::a_ P d) (d.map f)=(l.foldl (λd P=>P::a_ P d) d).map f:=by
  intro l
  induction l with
  |nil=>intro d;rfl
  |cons p r h=>
   intro d;rw[J6,MP,MP,ww g];exact h (p::a_ p d)
 exact e row []
theorem rS(e:∀a b,plt a b->plt (f a) (f b))(d:∀a b c,aA (f a) (f b) (f c)<=0↔aA a b c<=0)(l):ak (l.map f)=(ak l).map f:=by
 unfold ak;rw[DV e,JK,<-Mb,oC d,oC d];split
 .rfl
 .rw[Kx,Qh,Qh,Mb,Mb]
end
theorem rE:∀{c},iq done c->∀k {a b},c[k]?=some b->c[k+1]?=some a->∀q∈done,0<=aA a b q
 |[],_,k,_,_,h,_=>by simp at h
 |[_],_,k,_,_,_,h=>by simp at h
 |x::y::r,C,0,a,b,h1,h2=>by
  simp at h1 h2;subst h1;subst h2;exact C.1
 |x::y::r,C,k+1,a,b,h1,h2=>rE C.2 k (by simpa using h1) (by simpa using h2)
theorem rH:∀{d},Turns d->∀k {a b c},d[k]?=some c->d[k+1]?=some b->d[k+2]?=some a->0<aA a b c
 |[],_,k,_,_,_,h,_,_=>by simp at h
 |[_],_,k,_,_,_,_,h,_=>by simp at h
 |[_,_],_,k,_,_,_,_,_,h=>by simp at h
 |x::y::z::r,C,0,a,b,c,h1,h2,h3=>by
  simp at h1 h2 h3;subst h1;subst h2;subst h3;exact C.1
 |x::y::z::r,C,k+1,a,b,c,h1,h2,h3=>rH C.2 k (by simpa using h1) (by simpa using h2) (by simpa using h3)
theorem AS{st:List Pt}(d:st.reverse[i]?=some a)(c:st.reverse[i+1]?=some b):∃k,st[k]?=some b/\st[k+1]?=some a:=by
 have l2:i+1<st.length:=by have:=(JV.mp c).1;simpa using this
 rw[Ly (by lia)]at d
 rw[Ly l2]at c;exact⟨st.length-1-(i+1),c,by rw[<-d];congr 1;lia⟩
theorem yf{st:List Pt}(e:st.reverse[i]?=some a)(f:st.reverse[i+1]?=some b)(d:st.reverse[i+2]?=some c):∃k,st[k]?=some c/\st[k+1]?=some b/\st[k+2]?=some a:=by
 have g:i+2<st.length:=by have:=(JV.mp d).1;simpa using this
 rw[Ly (by lia)]at e
 rw[Ly (by lia)]at f
 rw[Ly g]at d;exact⟨st.length-1-(i+2),d,by rw[<-f];congr 1;lia,by rw[<-e];congr 1;lia⟩
theorem gh(hs:row.Pairwise plt)(h:row≠[])(c:(ao row).reverse[i]?=some a)(d:(ao row).reverse[i+1]?=some b):∀q∈row,0<=aA a b q:=by
 obtain⟨k,e,f⟩:=AS c d;exact rE (cx hs h).1.cover k e f
theorem iI(hs:row.Pairwise plt)(h:row≠[])(e:(ao row).reverse[i]?=some a)(g:(ao row).reverse[i+1]?=some b)(d:(ao row).reverse[i+2]?=some c):0<aA a b c:=by
 obtain⟨k,j,l,f⟩:=yf e g d;exact rH (cx hs h).1.turns k j l f
theorem fD{b:List Pt}{i:Nat}(c:(ao b.reverse).reverse[i]?=some a):(ao (b.reverse.map ng)).reverse[i]?=some (ng a):=by
 rw[bO,<-Mb,JQ]at c;cases e:(ao (b.reverse.map ng)).reverse[i]? with
 |none=>rw[e]at c;cases c
 |some z=>rw[e]at c;cases c;rw[ix]
theorem me{row:List Pt}(hs:row.Pairwise plt)(h:row≠[]){i:Nat}{a b:Pt}(d:(ao row.reverse).reverse[i]?=some a)(e:(ao row.reverse).reverse[i+1]?=some b):∀q∈row,0<=aA a b q:=λq c=>by
 have:=gh (cY hs) (by simpa using h) (fD d) (fD e) (ng q) (Po (J7.mpr c))
 rwa [mG]at this
theorem n6(hs:row.Pairwise plt)(h:row≠[])(e:(ao row.reverse).reverse[i]?=some a)(f:(ao row.reverse).reverse[i+1]?=some b)(d:(ao row.reverse).reverse[i+2]?=some c):0<aA a b c:=by
 have:=iI (cY hs) (by simpa using h) (fD e) (fD f) (fD d)
 rwa [mG]at this
theorem AJ(c:lpos u1 u2)(a:lpos v1 v2)(g:u1*v2-u2*v1=0)(f:u1*w2-u2*w1<=0)(i:0<=v1*w2-v2*w1):u1*w2-u2*w1=0/\v1*w2-v2*w1=0:=by
 have n:v1*(u1*w2-u2*w1)=u1*(v1*w2-v2*w1):=by grind
 have m:v2*(u1*w2-u2*w1)=u2*(v1*w2-v2*w1):=by grind
 have h:∀{s t A B:Int},0<s->0<t->s*A=t*B->A<=0->0<=B->A=0/\B=0:=λ{s t A B} p r e o j=>by
  have k1:s*A<=0:=Int.mul_nonpos_of_nonneg_of_nonpos (by lia) o;have q:0<=t*B:=Li (by lia) j;have k:s*A=0:=by lia
  have l:t*B=0:=by lia
  refine⟨(Lh.mp k).resolve_left (by lia),(Lh.mp l).resolve_left (by lia)⟩
 rcases c with c |⟨c,d⟩
 .rcases a with a |⟨a,b⟩
  .exact h a c n f i
  .rw[a]at g;have:=L9 c b;lia
 .rcases a with a |⟨a,b⟩
  .rw[c]at g;have:=L9 d a;lia
  .exact h b d m f i
theorem xP(d:plt a m)(e:plt c m)(h:aA a m c=0)(b:0<=aA a m q)(f:0<=aA m c q):aA a m q=0/\aA m c q=0:=by
 have k:=AJ (w1:=m.1-q.1) (w2:=m.2-q.2) (bq d) (bq e) (by unfold aA at h;grind) (by unfold aA at b;grind) (by unfold aA at f;grind);unfold aA;exact⟨by grind,by grind⟩
theorem C3(a b c):aA a b c=aA b c a:=by unfold aA;grind
theorem Iy(hs:row.Pairwise plt)(g:row≠[])(l:(ao row).reverse[i]?=some a)(o:(ao row).reverse[i+1]?=some m)(w:(ao row).length=i+2)
  (h3:(ao row.reverse).reverse[0]?=some m) (h4:(ao row.reverse).reverse[1]?=some c) (ha:plt a m) (hc:plt c m) (big:2<(ao row).length\/2<(ao row.reverse).length):0<aA a m c:=by
 have mem:∀{j}{p},(ao row).reverse[j]?=some p->p∈row:=λh=>b_ row _ (J7.mp (J8 h));have f:∀{j}{p},(ao row.reverse).reverse[j]?=some p->p∈row:=λh=>J7.mp (b_ _ _ (J7.mp (J8 h)));have r:=gh hs g l o;have v:=me hs g h3 h4;have s:=r c (f h4);rcases Oo s with z |z
 .exact z
 .exfalso
  have d:∀q∈row,aA a m q=0/\aA m c q=0:=λq n=>xP ha hc z.symm (r q n) (v q n);rcases big with b |b
  .have u:0<i:=by lia
   have k:i-1<(ao row).reverse.length:=by simp;lia
   have e:=JG k;have t:=iI hs g e (by rw[Nat.sub_add_cancel u];exact l) (by rw[show i-1+2=i+1 by lia];exact o);rw[C3,(d _ (mem e)).1]at t;lia
  .have k:2<(ao row.reverse).reverse.length:=by simpa using b
   have e:=JG k;have t:=n6 hs g h3 h4 e;rw[(d _ (f e)).2]at t;lia
structure FU(row T B:List Pt)(mn mx:Pt):Prop where
 t0:T[0]?=some mn
 t1:T[T.length-1]?=some mx
 b0:B[0]?=some mx
 b1:B[B.length-1]?=some mn
 lt:2<=T.length
 lb:2<=B.length
 least:∀p∈row,p=mn\/plt mn p
 most:∀p∈row,p=mx\/plt p mx
theorem EG{l:List Pt}:l.reverse[0]?=l.getLast?:=by rw[List.getLast?_eq_head?_reverse,NB]
theorem E4{l:List Pt}:l.reverse[l.reverse.length-1]?=l.head?:=by rw[<-LQ,OS]
theorem Iq(hs:row.Pairwise plt)(g:2<=row.length):∃c b,FU row (ao row).reverse (ao row.reverse).reverse c b:=by
 have j:row≠[]:=λz=>by rw[z]at g;simp at g
 obtain⟨c,b,u,t,n,h,r,q,least,a,_,_⟩:=Az hs g;obtain⟨K,p,i⟩:=cx hs j;obtain⟨s,d,f⟩:=cx (cY hs) (by simpa using j);have l1:2<=(ao row).length:=by rw[n];have:=Md r;simp;lia
 have l2:2<=(ao row.reverse).length:=by rw[h];have:=Md q;simp;lia
 have l:row.head?=some row[0]:=by rw[NB];exact JG (by lia)
 have e:row.getLast?=some row[row.length-1]:=by rw[LQ];exact JG (by lia)
 have o:row[0]=c:=by
  have k:=f;rw[OB,OS,l]at k;have:(ao row.reverse).head?=some row[0]:=by rw[bO,P4,k];simp[ix]
  rw[h]at this;exact (KG this).symm
 have m:row[row.length-1]=b:=by
  rw[e,n]at i;exact (KG i).symm
 refine⟨c,b,?_,?_,?_,?_,by simpa using l1,by simpa using l2,least,a⟩
 .rw[EG,p,l,o]
 .rw[E4,i,e,m]
 .rw[EG,bO,OB,d,P4,RY,e,m];simp[ix]
 .rw[E4,h];rfl
section
variable {row T B:List Pt}{mn mx:Pt}
theorem gV(W:FU row T B mn mx)(b:k<=T.length-1):(T.dropLast++B.dropLast)[k%(T.dropLast++B.dropLast).length]?=T[k]?:=by
 have c:=W.lb;have a:(T.dropLast++B.dropLast).length=T.length-1+(B.length-1):=by simp
 rw[a,Km (by lia)];by_cases h:k<T.length-1
 .rw[JZ (by simpa using h),MU,if_pos h]
 .obtain rfl:k=T.length-1:=by lia
  rw[J3 (by simp),Ls,Uu,MU,if_pos (by lia),W.b0,W.t1]
theorem kO(W:FU row T B mn mx)(b:T.length-1<=k)(c:k<=T.length-1+(B.length-1)):(T.dropLast++B.dropLast)[k%(T.dropLast++B.dropLast).length]?=B[k-(T.length-1)]?:=by
 have a:(T.dropLast++B.dropLast).length=T.length-1+(B.length-1):=by simp
 by_cases h:k<T.length-1+(B.length-1)
 .rw[a,Km h,J3 (by simpa using b),Ls,MU,if_pos (by lia)]
 .obtain rfl:k=T.length-1+(B.length-1):=by lia
  have:=gV W (k:=0) (by lia);rw[Nat.zero_mod]at this;rw[a,Ni,this,W.t0,show T.length-1+(B.length-1)-(T.length-1)=B.length-1 by lia,W.b1]
end
theorem some_of{l:List Pt}(h:i<l.length):∃a,l[i]?=some a:=⟨_,JG h⟩
theorem dY(K:2<=(ST.srt pts).length)(J:i<(ak pts).length):∃a b,(ak pts)[i]?=some a/\(ak pts)[(i+1)%(ak pts).length]?=some b/\(∀p∈pts,0<=aA a b p)/\(2<(ak pts).length->∃c,(ak pts)[(i+2)%(ak pts).length]?=some c/\0<aA a b c):=by
 have o:=dC pts;have y:ST.srt pts≠[]:=λz=>by rw[z]at K;simp at K
 obtain⟨mn,Y,W⟩:=Iq o K;have s:∀p∈pts,p∈ST.srt pts:=λp A=>(ST.srt_mem p pts).mpr A
 have hc:ak pts=(ao (ST.srt pts)).reverse.dropLast++(ao (ST.srt pts).reverse).reverse.dropLast:=by
  unfold ak;rw[if_neg (by lia)]
 have tc:∀{j}{a b},(ao (ST.srt pts)).reverse[j]?=some a->(ao (ST.srt pts)).reverse[j+1]?=some b->∀q∈ST.srt pts,0<=aA a b q:=λh w=>gh o y h w;have X:∀{j}{a b c},(ao (ST.srt pts)).reverse[j]?=some a->(ao (ST.srt pts)).reverse[j+1]?=some b->(ao (ST.srt pts)).reverse[j+2]?=some c->0<aA a b c:=λh w x=>iI o y h w x;have V:∀{j}{a b},(ao (ST.srt pts).reverse).reverse[j]?=some a->(ao (ST.srt pts).reverse).reverse[j+1]?=some b->∀q∈ST.srt pts,0<=aA a b q:=λh w=>me o y h w;have Z:∀{j}{a b c},(ao (ST.srt pts).reverse).reverse[j]?=some a->(ao (ST.srt pts).reverse).reverse[j+1]?=some b->(ao (ST.srt pts).reverse).reverse[j+2]?=some c->0<aA a b c:=λh w x=>n6 o y h w x;have r:∀{j}{p},(ao (ST.srt pts)).reverse[j]?=some p->p∈ST.srt pts:=λh=>b_ _ _ (J7.mp (J8 h));have t:∀{j}{p},(ao (ST.srt pts).reverse).reverse[j]?=some p->p∈ST.srt pts:=λh=>J7.mp (b_ _ _ (J7.mp (J8 h)));have O:(ao (ST.srt pts)).reverse.Nodup:=(dE o).imp λ{a b} h e=>by subst e;exact bv _ ((pZ _ _).mpr h)
 have M:(ao (ST.srt pts).reverse).reverse.Nodup:=by
  rw[bO,<-Mb];have F:(ao ((ST.srt pts).reverse.map ng)).reverse.Nodup:=(dE (cY o)).imp λ{a b} h e=>by subst e;exact bv _ ((pZ _ _).mpr h)
  exact ML _ (λa b (h:a≠b) e=>h (by have:=congrArg ng e;rwa [ix,ix]at this)) F
 have m1:∀{j}{a m c},(ao (ST.srt pts)).reverse[j]?=some a->(ao (ST.srt pts)).reverse[j+1]?=some m->(ao (ST.srt pts)).length=j+2->(ao (ST.srt pts).reverse).reverse[0]?=some m->(ao (ST.srt pts).reverse).reverse[1]?=some c->plt a m->plt c m->2<(ao (ST.srt pts)).length\/2<(ao (ST.srt pts).reverse).length->0<aA a m c:=λn v u N I E Q P=>Iy o y n v u N I E Q P
 have m2:∀{j}{a m c},(ao (ST.srt pts).reverse).reverse[j]?=some a->(ao (ST.srt pts).reverse).reverse[j+1]?=some m->(ao (ST.srt pts).reverse).length=j+2->(ao (ST.srt pts)).reverse[0]?=some m->(ao (ST.srt pts)).reverse[1]?=some c->plt m a->plt m c->2<(ao (ST.srt pts)).length\/2<(ao (ST.srt pts).reverse).length->0<aA a m c:=λ{j a m c} n v u N I E Q P=>by
  have U:((ST.srt pts).reverse.map ng).reverse=(ST.srt pts).map ng:=by rw[<-Mb,List.reverse_reverse]
  have S:∀{k}{p},(ao (ST.srt pts)).reverse[k]?=some p->(ao ((ST.srt pts).reverse.map ng).reverse).reverse[k]?=some (ng p):=λ{k p} h=>by
   rw[U,f6,<-Mb,JQ,h];rfl
  have R:(ao ((ST.srt pts).reverse.map ng)).length=(ao (ST.srt pts).reverse).length:=by rw[bO,JK]
  have lt:(ao ((ST.srt pts).reverse.map ng).reverse).length=(ao (ST.srt pts)).length:=by rw[U,f6,JK]
  have:=Iy (cY o) (by simpa using y) (fD n) (fD v) (by rw[R];exact u) (S N) (S I) (lU E) (lU Q) (by rw[R,lt];exact P.symm)
  rwa [mG]at this
 rw[hc]at J |-;have lT:(ao (ST.srt pts)).reverse.length=(ao (ST.srt pts)).length:=KD;have lB:(ao (ST.srt pts).reverse).reverse.length=(ao (ST.srt pts).reverse).length:=KD;generalize (ao (ST.srt pts)).reverse=T at *;generalize (ao (ST.srt pts).reverse).reverse=B at *;have h1:=W.lt;have h3:=W.lb;have hn:(T.dropLast++B.dropLast).length=T.length-1+(B.length-1):=by simp
 have own:∀k,k<(T.dropLast++B.dropLast).length->(T.dropLast++B.dropLast)[k]?=(T.dropLast++B.dropLast)[k%(T.dropLast++B.dropLast).length]?:=λk hk=>by rw[Km hk]
 have D:∀{j k}{p q},T[j]?=some p->T[k]?=some q->j≠k->p≠q:=λ{j k p q} n v u e=>u ((OC (aT n) O).mp (by rw[n,v,e]));have C:∀{j k}{p q},B[j]?=some p->B[k]?=some q->j≠k->p≠q:=λ{j k p q} n v u e=>u ((OC (aT n) M).mp (by rw[n,v,e]));by_cases c1:i<T.length-1
 .obtain⟨a,g⟩:=some_of (l:=T) (i:=i) (by lia);obtain⟨b,f⟩:=some_of (l:=T) (i:=i+1) (by lia);refine⟨a,b,by rw[own i J,gV W (by lia)];exact g,by rw[gV W (by lia)];exact f,λp A=>tc g f p (s p A),λbig=>?_⟩;by_cases G:i+2<=T.length-1
  .obtain⟨c,d⟩:=some_of (l:=T) (i:=i+2) (by lia);exact⟨c,by rw[gV W G];exact d,X g f d⟩
  .have e:i+1=T.length-1:=by lia
   obtain⟨c,d⟩:=some_of (l:=B) (i:=1) (by lia);have H:b=Y:=by have:=W.t1;rw[<-e,f]at this;exact KG this
   subst H;refine⟨c,by rw[kO W (by lia) (by lia),show i+2-(T.length-1)=1 by lia];exact d,m1 g f (by lia) W.b0 d ?_ ?_ (by lia)⟩
   .exact (W.most a (r g)).resolve_left (D g f (by lia))
   .exact (W.most c (t d)).resolve_left (C d W.b0 (by lia))
 .obtain⟨a,g⟩:=some_of (l:=B) (i:=i-(T.length-1)) (by lia);obtain⟨b,f⟩:=some_of (l:=B) (i:=i-(T.length-1)+1) (by lia);refine⟨a,b,by rw[own i J,kO W (by lia) (by lia)];exact g,by rw[kO W (by lia) (by lia),show i+1-(T.length-1)=i-(T.length-1)+1 by lia];exact f,λp A=>V g f p (s p A),λbig=>?_⟩;by_cases G:i+2<=T.length-1+(B.length-1)
  .obtain⟨c,d⟩:=some_of (l:=B) (i:=i-(T.length-1)+2) (by lia);exact⟨c,by rw[kO W (by lia) G,show i+2-(T.length-1)=i-(T.length-1)+2 by lia];exact d,Z g f d⟩
  .have e:i-(T.length-1)+1=B.length-1:=by lia
   obtain⟨c,d⟩:=some_of (l:=T) (i:=1) (by lia);have L:b=mn:=by have:=W.b1;rw[<-e,f]at this;exact KG this
   subst L;refine⟨c,?_,m2 g f (by lia) W.t0 d ?_ ?_ (by lia)⟩
   .have:=gV W (k:=1) (by lia);rw[show (i+2)%(T.dropLast++B.dropLast).length=1%(T.dropLast++B.dropLast).length by rw[hn,show i+2=1+(T.length-1+(B.length-1)) by lia,OD],this];exact d
   .exact (W.least a (t g)).resolve_left (C g f (by lia))
   .exact (W.least c (r d)).resolve_left (D d W.t0 (by lia))
noncomputable abbrev gp(l:List P2)(i:Nat):P2:=l.getD i (0,0)
theorem c9(h:i<l.length):l[i]?=some (gp l i):=by simp[gp,h]
theorem bW(h:i<l.length):gp l i∈l:=J8 (c9 h)
theorem qM(l):eK l (some 1) none=l.drop 1:=by
 unfold eK HT.sIx;cases l with
 |nil=>simp
 |cons a l=>simp
theorem B8(l):eK l none (some 1)=l.take 1:=by
 unfold eK HT.sIx;cases l with
 |nil=>simp
 |cons a l=>simp
noncomputable def nxt(l:List P2)(i:Nat):P2:=gp l ((i+1)%l.length)
noncomputable def sdl(l:List P2):List (P2×P2):=(Kr l.length).map λi=>(gp l i,nxt l i)
theorem di(h:s∈sdl l):s.1∈l/\s.2∈l:=by
 obtain⟨i,b,rfl⟩:=JS.mp h;have a:=J_.mp b;exact⟨bW a,bW (Lw _ (by lia))⟩
noncomputable def wth(a b:Int)(p:Pt):Int:=a*p.1+b*p.2
theorem FV(k:b<=0)(f:plt u p)(i:plt p v)(h:aA u p v<=0):wth a b p<=wth a b u\/wth a b p<=wth a b v:=by
 rcases Nj (wth a b u) (wth a b p) with g |g
 .rcases Nj (wth a b v) (wth a b p) with c |c
  .exfalso
   have e:(v.1-p.1) *(wth a b p-wth a b u)+(p.1-u.1) *(wth a b p-wth a b v)=-((-b) *(-(aA u p v))):=by unfold wth aA;grind
   have n:0<=(-b) *(-(aA u p v)):=Li (by lia) (by lia);have m:0<=p.1-u.1:=by unfold plt at f;lia
   have j:0<=v.1-p.1:=by unfold plt at i;lia
   have o:0<=(v.1-p.1) *(wth a b p-wth a b u):=Li j (by lia);rcases Nj 0 (p.1-u.1) with d |d
   .have:=L9 d (show 0<wth a b p-wth a b v by lia);lia
   .have ex:u.1=p.1:=by lia
    have l:u.2<p.2:=by unfold plt at f;lia
    have:0<=(-b) *(p.2-u.2):=Li (by lia) (by lia);have q:wth a b p-wth a b u=-((-b) *(p.2-u.2)):=by unfold wth;rw[ex];grind
    lia
  .exact .inr c
 .exact .inl g
theorem wM(hs:row.Pairwise plt)(d:b<=0)(j:p∈row):∃c∈ao row,wth a b p<=wth a b c:=by
 by_cases h:p∈ao row
 .exact⟨p,h,Ts _⟩
 .obtain⟨u,k,v,f,k1,i,g⟩:=gap hs j h;rcases FV d k1 i g with e |e
  .exact⟨u,k,e⟩
  .exact⟨v,f,e⟩
theorem Gs(a b)(p):wth (-a) (-b) (ng p)=wth a b p:=by unfold wth ng;grind
theorem CT(a b)(p):wth a b (ng p)=wth (-a) (-b) p:=by unfold wth ng;grind
theorem AM{row:List Pt}(hs:row.Pairwise plt)(f:0<=b)(e:p∈row):∃c∈ao row.reverse,wth a b p<=wth a b c:=by
 obtain⟨c,d,k⟩:=wM (cY hs) (b:=-b) (by lia) (JS.mpr ⟨p,J7.mpr e,rfl⟩);refine⟨ng c,by rw[bO];exact JS.mpr ⟨c,d,rfl⟩,?_⟩;rw[Gs]at k;rw[CT];exact k
theorem jA(a b)(l:p∈pts):∃c∈ak pts,wth a b p<=wth a b c:=by
 have h:=(ST.srt_mem p pts).mpr l;by_cases f:2<=(ST.srt pts).length
 .have g:=dC pts;obtain⟨s,o,r,q,j,i,n,m,_⟩:=Az g f;have big:=gg f;rw[j,i]at big;rcases Uz b 0 with e |e
  .obtain⟨c,d,k⟩:=wM g e h;refine⟨c,?_,k⟩;rw[big];rw[j]at d;rcases JN.mp d with rfl |d
   .exact J1 _ (J7.mpr m)
   .exact LF _ (J7.mpr d)
  .obtain⟨c,d,k⟩:=AM g e h;refine⟨c,?_,k⟩;rw[big];rw[i]at d;rcases JN.mp d with rfl |d
   .exact LF _ (J7.mpr n)
   .exact J1 _ (J7.mpr d)
 .exact⟨p,by rw[fE f];exact h,Ts _⟩
noncomputable def crs(s:P2×P2):Int:=s.1.1*s.2.2-s.1.2*s.2.1
noncomputable def area(l:List P2):Int:=((sdl l).map crs).sum
theorem qy(l):(sdl l).map (·.1)=l:=by
 apply L3;intro i;unfold sdl;rw[Ka];by_cases a:i<l.length
 .rw[JQ,LV a,c9 a];rfl
 .rw[Kg (by simp;lia),Kg (by lia)]
theorem wt(l):(sdl l).map (·.2)=l.drop 1++l.take 1:=by
 apply L3;intro i;unfold sdl;rw[Ka];by_cases b:i<l.length
 .rw[JQ,LV b];show some (nxt l i)=_;unfold nxt;by_cases a:i+1<l.length
  .rw[JZ (by simp;lia),Ms,show 1+i=i+1 by lia,Km a,c9 a]
  .have e:i+1=l.length:=by lia
   rw[J3 (by simp;lia),e,Ni];rw[show i-(l.drop 1).length=0 by simp;lia,LY (by lia),c9 (by lia)]
 .rw[Kg (by simp;lia),Kg (by simp;lia)]
theorem tm{α:Type}(f g:α->Int):∀l:List α,(l.map λs=>f s-g s).sum=(l.map f).sum-(l.map g).sum
 |[]=>rfl
 |a::l=>by simp only[J6,NX,tm f g l];lia
theorem s_{α:Type}(f g:α->Int):∀l:List α,(l.map λs=>f s+g s).sum=(l.map f).sum+(l.map g).sum
 |[]=>rfl
 |a::l=>by simp only[J6,NX,s_ f g l];lia
theorem GL(f:l.Nodup)(j:2<=l.length):∀s∈sdl l,s.1≠s.2:=λs d e=>by
 obtain⟨i,g,rfl⟩:=JS.mp d;have a:=J_.mp g;have h:(i+1)%l.length<l.length:=Lw _ (by lia);have b:gp l i=gp l ((i+1)%l.length):=e;have:l[i]?=l[(i+1)%l.length]?:=by rw[c9 a,c9 h,b]
 have:=(OC a f).mp this;by_cases c:i+1<l.length
 .rw[Km c]at this;lia
 .have e:i+1=l.length:=by lia
  rw[e,Ni]at this;lia
theorem jI(a:3<=(ak l).length):2<=(ST.srt l).length:=by
 rcases L1 (ST.srt l).length 2 with h |h
 .rw[fE (by lia)]at a;lia
 .exact h
theorem rM(h:i<l.length):(gp l i,gp l ((i+1)%l.length))∈sdl l:=JS.mpr ⟨i,J_.mpr h,rfl⟩
theorem j6(h:l[i]?=some a):gp l i=a:=by simp[gp,h]
theorem Cd:((i+1)%n+1)%n=(i+2)%n:=by rw[QV]
theorem fe(e:3<=(ak l).length)(hs:s∈sdl (ak l)):∀q∈l,0<=aA s.1 s.2 q:=by
 obtain⟨i,f,rfl⟩:=JS.mp hs;obtain⟨a,b,g,d,c,_⟩:=dY (jI e) (J_.mp f);show ∀q∈l,0<=aA (gp (ak l) i) (gp (ak l) ((i+1)%(ak l).length)) q;rw[j6 g,j6 d];exact c
theorem kW(j:3<=(ak l).length)(hs:(A,B)∈sdl (ak l)):∃C,(B,C)∈sdl (ak l)/\0<aA A B C:=by
 obtain⟨i,o,e⟩:=JS.mp hs;have n:=J_.mp o;obtain⟨a,b,p,g,_,m⟩:=dY (jI j) n;obtain⟨c,k,d⟩:=m (by lia);have h:A=a:=by rw[<-j6 p];exact (congrArg Nt e).symm
 have f:B=b:=by rw[<-j6 g];exact (congrArg NI e).symm
 refine⟨c,?_,by rw[h,f];exact d⟩;have:=rM (i:=(i+1)%(ak l).length) (Lw _ (by lia));rw[Cd,j6 g,j6 k]at this;rw[f];exact this
theorem HP(h:A∈l):∃B,(A,B)∈sdl l:=by
 obtain⟨i,a⟩:=KJ.mp h;have b:=(JV.mp a).1;have:=rM b;rw[j6 a]at this;exact⟨_,this⟩
theorem EH(h:A∈l):∃Z,(Z,A)∈sdl l:=by
 obtain⟨i,a⟩:=KJ.mp h;have b:=(JV.mp a).1;have c:(i+l.length-1)%l.length<l.length:=Lw _ (by lia);have:=rM c
 have e:((i+l.length-1)%l.length+1)%l.length=i:=by
  rw[QV,show i+l.length-1+1=i+l.length by lia,OD,Km b]
 rw[e,j6 a]at this;exact⟨_,this⟩
theorem Bc(g:l.Nodup)(f:(A,B)∈sdl l)(k:(A,C)∈sdl l):B=C:=by
 obtain⟨i,h,e⟩:=JS.mp f;obtain⟨j,m,b⟩:=JS.mp k;have c:=J_.mp h;have a:=J_.mp m;have d:gp l i=gp l j:=(congrArg Nt e).trans (congrArg Nt b).symm;have:i=j:=(OC c g).mp (by rw[c9 c,c9 a,d]);subst this;exact (congrArg NI e).symm.trans (congrArg NI b)
theorem GT{c a b d w1 w2:Int}(j:0<c*d-a*b)(e:c*w2-a*w1=0)(f:b*w2-d*w1=0):w1=0/\w2=0:=by
 have g:(c*d-a*b) *w1=0:=by
  have:(c*d-a*b) *w1=b*(c*w2-a*w1)-c*(b*w2-d*w1):=by grind
  rw[this,e,f];simp
 have i:(c*d-a*b) *w2=0:=by
  have:(c*d-a*b) *w2=d*(c*w2-a*w1)-a*(b*w2-d*w1):=by grind
  rw[this,e,f];simp
 refine⟨?_,?_⟩
 .rcases Lh.mp g with h |h
  .lia
  .exact h
 .rcases Lh.mp i with h |h
  .lia
  .exact h
def o3(l:List P2)(p:P2):Prop:=p∈l/\∃a b:Int,∀q∈l,q≠p->wth a b q<wth a b p
theorem dr(h:o3 l p):p∈ak l:=by
 obtain⟨g,a,b,k⟩:=h;obtain⟨c,f,e⟩:=jA a b g;by_cases d:c=p
 .rw[<-d];exact f
 .have:=k c (aZ _ c f) d;lia
theorem dw(a:3<=(ak l).length)(i:p∈ak l):o3 l p:=by
 obtain⟨Z,g⟩:=EH i;obtain⟨B,m,b⟩:=kW a g;refine⟨aZ _ p i,B.2-Z.2,Z.1-B.1,λq c k=>?_⟩;have f:=fe a g q c;have d:=fe a m q c;dsimp only at f d;have e:wth (B.2-Z.2) (Z.1-B.1) q-wth (B.2-Z.2) (Z.1-B.1) p=-(aA Z p q+aA p B q):=by unfold wth aA;grind
 rcases Oo (Int.add_nonneg f d) with h |h
 .lia
 .exfalso
  have j:aA Z p q=0:=by lia
  have n:aA p B q=0:=by lia
  have:=GT (w1:=q.1-p.1) (w2:=q.2-p.2) (by rw[<-(show aA Z p B=(p.1-Z.1) *(B.2-p.2)-(p.2-Z.2) *(B.1-p.1) by unfold aA;grind)];exact b) (by rw[<-j];unfold aA;grind) (by rw[<-n];unfold aA;grind);exact k (L7 (by lia) (by lia))
theorem F8{c a b d w1 w2:Int}(h:c*w2-a*w1=0):(c*d-a*b) *w1=(w1*d-w2*b) *c/\(c*d-a*b) *w2=(w1*d-w2*b) *a:=by
 constructor
 .have:(c*d-a*b) *w1-(w1*d-w2*b) *c=b*(c*w2-a*w1):=by grind
  rw[h]at this;simp at this;lia
 .have:(c*d-a*b) *w2-(w1*d-w2*b) *a=d*(c*w2-a*w1):=by grind
  rw[h]at this;simp at this;lia
theorem jT(g:3<=(ak l).length):(A,B)∈sdl (ak l)↔A∈ak l/\B∈ak l/\A≠B/\∀q∈ak l,0<=aA A B q:=by
 constructor
 .intro h;exact⟨(di h).1,(di h).2,GL (bo l) (by lia) _ h,λq H=>fe g h q (aZ _ q H)⟩
 .rintro ⟨n,E,v,t⟩;obtain⟨C,k⟩:=HP n;obtain⟨Z,y⟩:=EH n;by_cases f:B=C
  .rw[f];exact k
  .exfalso
   obtain⟨D,F,G⟩:=kW g k;obtain⟨c,p,M⟩:=kW g y;have:c=C:=Bc (bo l) p k;subst this;have r:=(di k).2;have K:=(di F).2;have o:=aZ _ B E;have k1:=fe g k B o;have k2:=t c r;have w:=fe g y B o;have u:=fe g F B o;dsimp only at k1 w u r K
   have z:(c.1-A.1) *(B.2-A.2)-(c.2-A.2) *(B.1-A.1)=0:=by
    have m:aA A c B=(c.1-A.1) *(B.2-A.2)-(c.2-A.2) *(B.1-A.1):=rfl;have S:aA A B c=-((c.1-A.1) *(B.2-A.2)-(c.2-A.2) *(B.1-A.1)):=by unfold aA;grind
    omega
   obtain⟨j,i⟩:=F8 z
   have x:0<(c.1-A.1) *(Z.2-A.2)-(c.2-A.2) *(Z.1-A.1):=by
    rw[<-(show aA Z A c=(c.1-A.1) *(Z.2-A.2)-(c.2-A.2) *(Z.1-A.1) by unfold aA;grind)];exact M
   have R:0<=(B.1-A.1) *(Z.2-A.2)-(B.2-A.2) *(Z.1-A.1):=by
    rw[<-(show aA Z A B=(B.1-A.1) *(Z.2-A.2)-(B.2-A.2) *(Z.1-A.1) by unfold aA;grind)];exact w
   generalize (c.1-A.1) *(Z.2-A.2)-(c.2-A.2) *(Z.1-A.1)=d at *;generalize (B.1-A.1) *(Z.2-A.2)-(B.2-A.2) *(Z.1-A.1)=s at *
   have X:s≠0:=λe=>by
    rw[e,Rb]at j i;have I:=(Lh.mp j).resolve_left (by lia)
    have L:=(Lh.mp i).resolve_left (by lia);exact v (L7 (by lia) (by lia))
   have s1:s≠d:=λe=>by
    rw[e]at j i;have I:=LP (by lia) j
    have L:=LP (by lia) i;exact f (L7 (by lia) (by lia))
   have P:s<=d:=by
    have e:d*aA c D B=(d-s) *aA A c D:=by
     have m:d*aA c D B=(D.1-c.1) *(d*(B.2-A.2)-d*(c.2-A.2))-(D.2-c.2) *(d*(B.1-A.1)-d*(c.1-A.1)):=by unfold aA;grind
     rw[m,j,i];unfold aA;grind
    have:0<=d*aA c D B:=Li (by lia) u;rcases Nj d s with h |h
    .have:0<(s-d) *aA A c D:=L9 (by lia) G;have N:(d-s) *aA A c D=-((s-d) *aA A c D):=by grind
     lia
    .exact h
   obtain⟨_,a,b,top⟩:=dw g E;have Y:=top A (aZ _ A n) v;have W:=top c (aZ _ c r) (λe=>f e.symm)
   have O:d*(wth a b B-wth a b A)=s*(wth a b c-wth a b A):=by
    have m:d*(wth a b B-wth a b A)=a*(d*(B.1-A.1))+b*(d*(B.2-A.2)):=by unfold wth;grind
    rw[m,j,i];unfold wth;grind
   have U:0<d*(wth a b B-wth a b A):=L9 (by lia) (by lia)
   have J:0<wth a b c-wth a b A:=by
    rcases Nj 0 (wth a b c-wth a b A) with h |h
    .exact h
    .have:0<=s* -(wth a b c-wth a b A):=Li (by lia) (by lia);have N:s*(wth a b c-wth a b A)=-(s* -(wth a b c-wth a b A)):=by grind
     lia
   have Q:0<(d-s) *(wth a b c-wth a b A):=L9 (by lia) J
   have V:d*(wth a b B-wth a b c)=-((d-s) *(wth a b c-wth a b A)):=by
    have:d*(wth a b B-wth a b c)=d*(wth a b B-wth a b A)-d*(wth a b c-wth a b A):=by grind
    rw[this,O];grind
   have T:0<d*(wth a b B-wth a b c):=L9 (by lia) (by lia);lia
structure Lin(f:P2->P2)(d:Int):Prop where
 one:d=1\/d=-1
 ex:∃a b c e:Int,a*e-b*c=d/\∀p,f p=(a*p.1+b*p.2,c*p.1+e*p.2)
theorem Lin.det(L:Lin f d)(A B q):aA (f A) (f B) (f q)=d*aA A B q:=by
 obtain⟨a,b,c,e,h,k⟩:=L.ex;rw[k,k,k,<-h];unfold aA;grind
theorem vU(L:Lin f d)(A B):crs (f A,f B)=d*crs (A,B):=by
 obtain⟨a,b,c,e,h,k⟩:=L.ex;rw[k,k,<-h];unfold crs;grind
theorem pS(L:Lin f d)(x y):∃i j,∀p,wth i j (f p)=wth x y p:=by
 obtain⟨a,b,c,e,h,k⟩:=L.ex;refine⟨d*(x*e-y*c),d*(y*a-x*b),λp=>?_⟩;rw[k];have g:d*d=1:=by rcases L.one with z |z <;>rw[z] <;>rfl
 have:wth (d*(x*e-y*c)) (d*(y*a-x*b)) (a*p.1+b*p.2,c*p.1+e*p.2)=d*(a*e-b*c) *wth x y p:=by unfold wth;grind
 rw[this,h,g,Lu]
theorem Lin.inj(L:Lin f d)(e:f p=f q):p=q:=by
 obtain⟨x,y,h⟩:=pS L 1 0;obtain⟨g,i,a⟩:=pS L 0 1;have b:wth 1 0 p=wth 1 0 q:=by rw[<-h,<-h,e]
 have c:wth 0 1 p=wth 0 1 q:=by rw[<-a,<-a,e]
 unfold wth at b c;exact L7 (by lia) (by lia)
theorem vz(L:Lin f d)(h:o3 l p):o3 (l.map f) (f p):=by
 obtain⟨j,a,b,k⟩:=h;obtain⟨x,y,e⟩:=pS L a b;refine⟨Po j,x,y,λq c g=>?_⟩;obtain⟨r,i,rfl⟩:=JS.mp c;rw[e,e];exact k r i λz=>g (by rw[z])
theorem BY(L:Lin f d)(j:p∈l)(h:o3 (l.map f) (f p)):o3 l p:=by
 obtain⟨_,a,b,k⟩:=h;obtain⟨u,v,w,z,_,i⟩:=L.ex;refine⟨j,a*u+b*w,a*v+b*z,λq c g=>?_⟩;have e:∀r,wth (a*u+b*w) (a*v+b*z) r=wth a b (f r):=λr=>by rw[i];unfold wth;grind
 rw[e,e];exact k (f q) (Po c) λz=>g (L.inj z)
theorem g_(L:Lin f d)(c:3<=(ak l).length):3<=(ak (l.map f)).length:=by
 have g:((ak l).map f).Nodup:=ML _ (λa b (h:a≠b) e=>h (L.inj e)) (bo l)
 have:=jZ g λx i=>by
  obtain⟨p,j,rfl⟩:=JS.mp i;exact dr (vz L (dw c j))
 rw[JK]at this;lia
theorem cE(L:Lin f d)(b:3<=(ak l).length)(x):x∈ak (l.map f)↔∃p∈ak l,f p=x:=by
 constructor
 .intro h;obtain⟨p,a,rfl⟩:=JS.mp (aZ _ x h);exact⟨p,dr (BY L a (dw (g_ L b) h)),rfl⟩
 .rintro ⟨p,a,rfl⟩;exact dr (vz L (dw b a))
noncomputable def sdf(f:P2->P2)(d:Int)(s:P2×P2):P2×P2:=if d=1 then (f s.1,f s.2) else (f s.2,f s.1)
theorem BC(L:Lin f d)(a:3<=(ak l).length)(t):t∈sdl (ak (l.map f))↔∃s∈sdl (ak l),sdf f d s=t:=by
 have m:=g_ L a;have n:∀A B q,aA B A q=-aA A B q:=λA B q=>by unfold aA;grind
 constructor
 .intro h;obtain⟨x,y⟩:=t;obtain⟨u,hy,i,c⟩:=(jT m).mp h;obtain⟨A,g,rfl⟩:=(cE L a x).mp u;obtain⟨B,k,rfl⟩:=(cE L a y).mp hy
  have j:∀q∈ak l,0<=d*aA A B q:=λq b=>by
   have:=c (f q) ((cE L a _).mpr ⟨q,b,rfl⟩)
   rwa [L.det]at this
  rcases L.one with z |z
  .refine⟨(A,B),(jT a).mpr ⟨g,k,λe=>i (by rw[e]),λq b=>?_⟩,by unfold sdf;rw[if_pos z]⟩;have:=j q b;rw[z]at this;lia
  .refine⟨(B,A),(jT a).mpr ⟨k,g,λe=>i (by rw[e]),λq b=>?_⟩,by unfold sdf;rw[if_neg (by lia)]⟩;have:=j q b;rw[n];rw[z]at this;lia
 .rintro ⟨⟨A,B⟩,r,rfl⟩;obtain⟨g,k,i,c⟩:=(jT a).mp r
  have j:∀q∈ak (l.map f),0<=d*aA (f A) (f B) q:=λq b=>by
   obtain⟨p,o,rfl⟩:=(cE L a q).mp b;have:=c p o;rw[L.det,<-Ml,show d*d=1 by rcases L.one with z |z <;>rw[z] <;>rfl];lia
  unfold sdf;rcases L.one with z |z
  .rw[if_pos z];refine (jT m).mpr ⟨(cE L a _).mpr ⟨A,g,rfl⟩,(cE L a _).mpr ⟨B,k,rfl⟩,λe=>i (L.inj e),λq b=>?_⟩;have:=j q b;dsimp only;rw[z]at this;lia
  .rw[if_neg (by lia)];refine (jT m).mpr ⟨(cE L a _).mpr ⟨B,k,rfl⟩,(cE L a _).mpr ⟨A,g,rfl⟩,λe=>i (L.inj e.symm),λq b=>?_⟩;have:=j q b;dsimp only;rw[n];rw[z]at this;lia
theorem zj(c:l.Nodup):(sdl l).Nodup:=by
 have h:((sdl l).map (·.1)).Nodup:=by rw[qy];exact c
 exact (Lq.mp h).imp λ{a b} k e=>k (by rw[e])
theorem Dc(L:Lin f d)(e:sdf f d s=sdf f d t):s=t:=by
 unfold sdf at e;split at e
 .exact L7 (L.inj (congrArg Nt e)) (L.inj (congrArg NI e))
 .exact L7 (L.inj (congrArg NI e)) (L.inj (congrArg Nt e))
theorem vF(L:Lin f d)(c:3<=(ak l).length):Th (sdl (ak (l.map f))) ((sdl (ak l)).map (sdf f d)):=by
 refine (Pw (zj (bo _)) ?_).mpr λt=>?_
 .exact ML _ (λa b (h:a≠b) e=>h (Dc L e)) (zj (bo l))
 .rw[BC L c,JS]
end
section
variable {P:J2}{w:Kt}{K:JI}{mg:Str→Option J0}{base:Mf} (T:Txt w K mg)
noncomputable def ap(a b c d e f:Int)(p:P2):P2:=(a*p.1+b*p.2+e,c*p.1+d*p.2+f)
structure Stn(C A B:P2)(a b c d e f:Int):Prop where
 dt:a*d-b*c=1\/a*d-b*c=-1
 at0:ap a b c d e f C=(0,0)
 nx:0<(ap a b c d e f A).1
 ny:(ap a b c d e f A).2=0
 f0:0<=(ap a b c d e f B).1
 f1:(ap a b c d e f B).1<(ap a b c d e f B).2
theorem F0(f:0<g)(m:A.1-C.1=g*u)(n:A.2-C.2=g*v)(h:s*u+t*v=1)
  (hx:x=s*B.1+t*B.2+(-s*C.1-t*C.2)) (hy:y=-v*B.1+u*B.2+(v*C.1-u*C.2)) (hk:k=1\/k=-1) (ky:0<k*y) (hq:q=x/(k*y)):
  Stn C A B (s-q*(k* -v)) (t-q*(k*u)) (k* -v) (k*u) ((-s*C.1-t*C.2)-q*(k*(v*C.1-u*C.2))) (k*(v*C.1-u*C.2)):=by
 have a:A.1=C.1+g*u:=by lia
 have c:A.2=C.2+g*v:=by lia
 have e:=Int.mul_ediv_add_emod x (k*y);have i:=On x (show k*y≠0 by lia);have l:=NH x ky;rw[<-hq]at e
 have b:(ap (s-q*(k* -v)) (t-q*(k*u)) (k* -v) (k*u) ((-s*C.1-t*C.2)-q*(k*(v*C.1-u*C.2))) (k*(v*C.1-u*C.2)) B).1=x-q*(k*y):=by
  unfold ap;dsimp only;rw[hx,hy];grind
 have d:(ap (s-q*(k* -v)) (t-q*(k*u)) (k* -v) (k*u) ((-s*C.1-t*C.2)-q*(k*(v*C.1-u*C.2))) (k*(v*C.1-u*C.2)) B).2=k*y:=by
  unfold ap;dsimp only;rw[hy];grind
 have j:k*y*q=q*(k*y):=Of _ _;refine⟨?_,?_,?_,?_,by rw[b];lia,by rw[b,d];lia⟩
 .have:(s-q*(k* -v)) *(k*u)-(t-q*(k*u)) *(k* -v)=k*(s*u+t*v):=by grind
  rw[this,h,Qm];exact hk
 .unfold ap;exact L7 (by dsimp only;grind) (by dsimp only;grind)
 .have:(ap (s-q*(k* -v)) (t-q*(k*u)) (k* -v) (k*u) ((-s*C.1-t*C.2)-q*(k*(v*C.1-u*C.2))) (k*(v*C.1-u*C.2)) A).1=g*(s*u+t*v):=by
   unfold ap;dsimp only;rw[a,c];grind
  rw[this,h];lia
 .unfold ap;dsimp only;rw[a,c];grind
theorem z_(h:a*d-b*c=1\/a*d-b*c=-1)(k:ap a b c d e f p=ap a b c d e f q):p=q:=by
 unfold ap at k;have k1:=congrArg Nt k;have j:=congrArg NI k;have g:(a*d-b*c) *(p.1-q.1)=0:=by grind
 have i:(a*d-b*c) *(p.2-q.2)=0:=by grind
 rcases h with h |h <;>rw[h]at g i <;>exact L7 (by lia) (by lia)
noncomputable def pI(n k:Nat):Nat:=(k+n-1)%n
noncomputable def nI(n k:Nat):Nat:=(k+1)%n
theorem nV(h:k<n):pI n k=if k=0 then n-1 else k-1:=by
 unfold pI;split
 .rename_i z;rw[z,UA];exact Km (by lia)
 .rw[show k+n-1=(k-1)+n by lia,OD];exact Km (by lia)
theorem BZ(h:k<n):nI n k=if k+1=n then 0 else k+1:=by
 unfold nI;split
 .rename_i z;rw[z,Ni]
 .exact Km (by lia)
theorem v8(h:k<n):pI n k<n:=Lw _ (by lia)
theorem Fa(h:k<n):nI n k<n:=Lw _ (by lia)
theorem IF(a:3<=n)(h:k<n):pI n k≠nI n k:=by
 rw[nV h,BZ h];split <;>split <;>lia
structure Pr(l:List P2)(a b c d e f:Int)(i j:Nat):Prop where
 hi:i<l.length
 nd:l.Nodup
 n3:3<=l.length
 st:(j=pI l.length i/\Stn (gp l i) (gp l (pI l.length i)) (gp l (nI l.length i)) a b c d e f)\/(j=nI l.length i/\Stn (gp l i) (gp l (nI l.length i)) (gp l (pI l.length i)) a b c d e f)
section
variable {l:List P2}{a b c d e f:Int}{i j i' j':Nat}
theorem Pr.dt(P:Pr l a b c d e f i j):a*d-b*c=1\/a*d-b*c=-1:=by
 rcases P.st with ⟨_,S⟩ |⟨_,S⟩ <;>exact S.dt
theorem Pr.at0(P:Pr l a b c d e f i j):ap a b c d e f (gp l i)=(0,0):=by
 rcases P.st with ⟨_,S⟩ |⟨_,S⟩ <;>exact S.at0
theorem EC(c:l.Nodup)(a:i<l.length)(b:j<l.length)(h:gp l i=gp l j):i=j:=by
 have d:gp l i=l[i]:=by simp[gp,a]
 have e:gp l j=l[j]:=by simp[gp,b]
 rw[d,e]at h;rcases Mh i j with z |z |z
 .exact absurd h (Kp.mp c i j a b z)
 .exact z
 .exact absurd h.symm (Kp.mp c j i b a z)
theorem Pr.only(P:Pr l a b c d e f i j)(g:k<l.length)(h:ap a b c d e f (gp l k)=(0,0)):k=i:=EC P.nd g P.hi (z_ P.dt (h.trans P.at0.symm))
theorem Pr.one(P:Pr l a b c d e f i j)(m:Pr l a b c d e f i' j'):i=i'/\j=j':=by
 have e:=m.only P.hi P.at0;subst e;refine⟨rfl,?_⟩;rcases P.st with ⟨h,S⟩ |⟨h,S⟩ <;>rcases m.st with ⟨k,g⟩ |⟨k,g⟩
 .rw[h,k]
 .have:=S.ny;have:=g.f0;have:=g.f1;lia
 .have:=S.ny;have:=g.f0;have:=g.f1;lia
 .rw[h,k]
end
def PrL(l:List P2)(m:List Int)(p:Nat×Nat):Prop:=∃a b c d e f,m=[a,b,c,d,e,f]/\Pr l a b c d e f p.1 p.2
theorem PrL.one(h:PrL l m p)(h':PrL l m p'):p=p':=by
 obtain⟨a,b,c,d,e,f,rfl,P⟩:=h;obtain⟨o,n,s,t,r,k,q,i⟩:=h';cases q;obtain⟨g,j⟩:=P.one i;exact L7 g j
noncomputable def prs(n x:Nat):Nat×Nat:=(x/2,if x%2=0 then pI n (x/2) else nI n (x/2))
theorem Em(c:3<=n)(f:x<2*n)(e:y<2*n)(h:prs n x=prs n y):x=y:=by
 unfold prs at h;have d:x/2=y/2:=congrArg Nt h;have a:=congrArg NI h;have b:=IF c (show x/2<n by lia);rw[<-d]at a;split at a <;>split at a
 .lia
 .exact absurd a b
 .exact absurd a.symm b
 .lia
structure All(l:List P2)(ms:List (List Int)):Prop where
 n3:3<=l.length
 len:ms.length=2*l.length
 at_:∀x,(h:x<ms.length)->PrL l ms[x] (prs l.length x)
theorem All.six(A:All l ms):∀m∈ms,m.length=6:=λm g=>by
 obtain⟨x,i,rfl⟩:=N2.mp g;obtain⟨a,b,c,d,e,f,h,_⟩:=A.at_ x i;rw[h];rfl
theorem All.inj(A:All l ms)(b:x<ms.length)(a:y<ms.length)(h:prs l.length x=prs l.length y):x=y:=Em A.n3 (by rw[<-A.len];exact b) (by rw[<-A.len];exact a) h
theorem All.nodup(A:All l ms):ms.Nodup:=by
 refine Kp.mpr λx y b hy c e=>?_;have a:=A.at_ x b;rw[e]at a;have:=A.inj b hy (a.one (A.at_ y hy));lia
theorem Gr(k:l.Nodup)(j:3<=l.length)(F G:Nat->List Int)
  (hF:∀i,i<l.length->∃a b c d e f,F i=[a,b,c,d,e,f]/\Stn (gp l i) (gp l (pI l.length i)) (gp l (nI l.length i)) a b c d e f)
  (hG:∀i,i<l.length->∃a b c d e f,G i=[a,b,c,d,e,f]/\Stn (gp l i) (gp l (nI l.length i)) (gp l (pI l.length i)) a b c d e f):
  All l ((Kr (2*l.length)).map λx=>if x%2=0 then F (x/2) else G (x/2)):=by
 refine⟨j,by simp,λx m=>?_⟩;have n:x<2*l.length:=by simpa using m
 have g:x/2<l.length:=by lia
 rw[List.getElem_map,List.getElem_range];unfold prs;split
 .obtain⟨a,b,c,d,e,f,h,S⟩:=hF _ g;exact⟨a,b,c,d,e,f,h,g,k,j,.inl ⟨rfl,S⟩⟩
 .obtain⟨a,b,c,d,e,f,h,S⟩:=hG _ g;exact⟨a,b,c,d,e,f,h,g,k,j,.inr ⟨rfl,S⟩⟩
theorem x8(n:3<=(ak pts).length)(l:2<=(ST.srt pts).length)(d:i<(ak pts).length):0<aA (gp (ak pts) (pI (ak pts).length i)) (gp (ak pts) i) (gp (ak pts) (nI (ak pts).length i)):=by
 obtain⟨a,b,m,f,_,h⟩:=dY l (v8 d);obtain⟨c,e,h⟩:=h (by lia)
 have k1:(pI (ak pts).length i+1)%(ak pts).length=i:=by
  rw[nV d];split
  .rename_i z;rw[show (ak pts).length-1+1=(ak pts).length by lia,Ni,z]
  .rw[show i-1+1=i by lia];exact Km d
 have k:(pI (ak pts).length i+2)%(ak pts).length=nI (ak pts).length i:=by
  rw[nV d,BZ d];split
  .rename_i z;rw[show (ak pts).length-1+2=1+(ak pts).length by lia,OD,z,Km (by lia),if_neg (by lia)]
  .rw[show i-1+2=i+1 by lia];split
   .rename_i z;rw[z,Ni]
   .exact Km (by lia)
 rw[k1]at f;rw[k]at e;have g:∀{j}{p},(ak pts)[j]?=some p->gp (ak pts) j=p:=λh=>by simp[gp,h]
 rw[g m,g f,g e];exact h
noncomputable def trn(e f:Int)(p:P2):P2:=(p.1+e,p.2+f)
noncomputable def lnr(a b c d:Int)(p:P2):P2:=(a*p.1+b*p.2,c*p.1+d*p.2)
theorem t_(a b c d e f)(l:List P2):l.map (ap a b c d e f)=(l.map (lnr a b c d)).map (trn e f):=by
 rw[Ka];rfl
theorem mV(e f)(l):ak (l.map (trn e f))=(ak l).map (trn e f):=
 rS (λa b h=>by unfold plt trn at *;dsimp only;lia) (λa b c=>by
  have:aA (trn e f a) (trn e f b) (trn e f c)=aA a b c:=by unfold aA trn;dsimp only;grind
  rw[this]) l
theorem qd(h:a*d-b*c=1\/a*d-b*c=-1):Lin (lnr a b c d) (a*d-b*c):=⟨h,a,b,c,d,rfl,λ_=>rfl⟩
section
variable {a b c d e f:Int}{l:List P2}
theorem ja(h:a*d-b*c=1\/a*d-b*c=-1)(i:3<=(ak l).length)(x):x∈ak (l.map (ap a b c d e f))↔∃p∈ak l,ap a b c d e f p=x:=by
 rw[t_,mV,JS];constructor
 .rintro ⟨y,hy,rfl⟩;obtain⟨p,g,rfl⟩:=(cE (qd h) i y).mp hy;exact⟨p,g,rfl⟩
 .rintro ⟨p,g,rfl⟩;exact⟨lnr a b c d p,(cE (qd h) i _).mpr ⟨p,g,rfl⟩,rfl⟩
theorem rZ(h:a*d-b*c=1\/a*d-b*c=-1)(g:3<=(ak l).length):3<=(ak (l.map (ap a b c d e f))).length:=by
 rw[t_,mV,JK];exact g_ (qd h) g
theorem Ag(g)(l):(A,B)∈sdl l->(g A,g B)∈sdl (l.map g):=by
 intro h;obtain⟨i,f,e⟩:=JS.mp h;have b:=J_.mp f;have a:∀j,j<l.length->gp (l.map g) j=g (gp l j):=λj k=>by simp[gp,k]
 have c:=congrArg Nt e;have d:=congrArg NI e;dsimp only at c d;refine JS.mpr ⟨i,J_.mpr (by simpa using b),?_⟩;unfold nxt at *;rw[a i b,JK,a _ (Lw _ (by lia)),c,d]
theorem ED(h:a*d-b*c=1\/a*d-b*c=-1)(i:3<=(ak l).length)(hs:(A,B)∈sdl (ak l)):if a*d-b*c=1 then (ap a b c d e f A,ap a b c d e f B)∈sdl (ak (l.map (ap a b c d e f))) else (ap a b c d e f B,ap a b c d e f A)∈sdl (ak (l.map (ap a b c d e f))):=by
 have g:=(BC (qd h) i (sdf (lnr a b c d) (a*d-b*c) (A,B))).mpr ⟨(A,B),hs,rfl⟩;rw[t_,mV];unfold sdf at g;by_cases z:a*d-b*c=1
 .rw[if_pos z]at g |-;exact Ag (trn e f) _ g
 .rw[if_neg z]at g |-;exact Ag (trn e f) _ g
end
def Cn(l:List P2)(C A B:P2):Prop:=(A,C)∈sdl l/\(C,B)∈sdl l
def Nb(l:List P2)(C A B:P2):Prop:=Cn l C A B\/Cn l C B A
theorem EV(a:i<l.length):Cn l (gp l i) (gp l (pI l.length i)) (gp l (nI l.length i)):=by
 refine⟨?_,rM a⟩;have:=rM (v8 a)
 have e:(pI l.length i+1)%l.length=i:=by
  rw[nV a];split
  .rename_i z;rw[show l.length-1+1=l.length by lia,Ni,z]
  .rw[show i-1+1=i by lia];exact Km a
 rwa [e]at this
theorem EI(g:l.Nodup)(h:Cn l C A B):∃i,i<l.length/\C=gp l i/\A=gp l (pI l.length i)/\B=gp l (nI l.length i):=by
 obtain⟨d,p⟩:=h;obtain⟨i,m,e⟩:=JS.mp p;have a:=J_.mp m;have c:=congrArg Nt e;have n:=congrArg NI e;obtain⟨j,f,k⟩:=JS.mp d;have o:=J_.mp f;have k1:=congrArg Nt k;have b:=congrArg NI k;dsimp only at k1 b;have q:=EC g (Lw _ (by lia)) a (b.trans c.symm);refine⟨i,a,c.symm,?_,n.symm⟩;rw[<-k1];congr 1;rw[<-q];have lt:(j+1)%l.length<l.length:=Lw _ (by lia);rw[nV lt];by_cases z:j+1=l.length
 .rw[z,Ni,if_pos rfl];lia
 .rw[Km (by lia),if_neg (by lia)];lia
section
variable {a b c d e f:Int}{l:List P2}
theorem HQ(h:a*d-b*c=1\/a*d-b*c=-1)(i:3<=(ak l).length)(j:Nb (ak l) C A B):Nb (ak (l.map (ap a b c d e f))) (ap a b c d e f C) (ap a b c d e f A) (ap a b c d e f B):=by
 have one:∀{A B},Cn (ak l) C A B->Nb (ak (l.map (ap a b c d e f))) (ap a b c d e f C) (ap a b c d e f A) (ap a b c d e f B):=λ{A B} q=>by
  have k1:=ED (e:=e) (f:=f) h i q.1;have g:=ED (e:=e) (f:=f) h i q.2;by_cases z:a*d-b*c=1
  .rw[if_pos z]at k1 g;exact .inl ⟨k1,g⟩
  .rw[if_neg z]at k1 g;exact .inr ⟨g,k1⟩
 rcases j with q |q
 .exact one q
 .rcases one q with z |z
  .exact .inr z
  .exact .inl z
end
theorem o_(a b c d e f a' b' c' d' e' f')(p):ap a' b' c' d' e' f' (ap a b c d e f p)=ap (a'*a+b'*c) (a'*b+b'*d) (c'*a+d'*c) (c'*b+d'*d) (a'*e+b'*f+e') (c'*e+d'*f+f') p:=by
 unfold ap;exact L7 (by dsimp only;grind) (by dsimp only;grind)
theorem qD(h:x*y=1\/x*y=-1)(a:0<x):x=1:=by
 have:x ∣ 1:=by
  rcases h with h |h
  .exact⟨y,h.symm⟩
  .exact⟨-y,by rw[UQ,h];rfl⟩
 have:=Ui (by decide) this;lia
theorem Cw(hd:aA C A B≠0)(S:Stn C A B a b c d e f)(S':Stn C A B a' b' c' d' e' f'):a'=a/\b'=b/\c'=c/\d'=d/\e'=e/\f'=f:=by
 obtain⟨dt,z0,N,O,f0,f1⟩:=S;obtain⟨U,G,F,o,f0',K⟩:=S';unfold ap at *;have z1:=congrArg Nt z0;have z2:=congrArg NI z0;have y1:=congrArg Nt G;have y2:=congrArg NI G;obtain⟨s,t⟩:=C;obtain⟨L,J⟩:=A;obtain⟨M,E⟩:=B;dsimp only at *;have W:e=-(a*s+b*t):=by lia
 have X:f=-(c*s+d*t):=by lia
 have q:e'=-(a'*s+b'*t):=by lia
 have r:f'=-(c'*s+d'*t):=by lia
 generalize X8:L-s=j at *;generalize X9:J-t=l at *;generalize Wu:M-s=i at *;generalize WT:E-t=g at *;have gA:a*L+b*J+e=a*j+b*l:=by rw[W,<-X8,<-X9];grind
 have T:c*L+d*J+f=c*j+d*l:=by rw[X,<-X8,<-X9];grind
 have gB:a*M+b*E+e=a*i+b*g:=by rw[W,<-Wu,<-WT];grind
 have V:c*M+d*E+f=c*i+d*g:=by rw[X,<-Wu,<-WT];grind
 have Y:a'*L+b'*J+e'=a'*j+b'*l:=by rw[q,<-X8,<-X9];grind
 have u:c'*L+d'*J+f'=c'*j+d'*l:=by rw[r,<-X8,<-X9];grind
 have Z:a'*M+b'*E+e'=a'*i+b'*g:=by rw[q,<-Wu,<-WT];grind
 have I:c'*M+d'*E+f'=c'*i+d'*g:=by rw[r,<-Wu,<-WT];grind
 rw[gA]at N;rw[T]at O;rw[gB]at f0 f1;rw[V]at f1;rw[Y]at F;rw[u]at o;rw[Z]at f0' K;rw[I]at K;have p:(a*d-b*c) *(a*d-b*c)=1:=by rcases dt with h |h <;>rw[h] <;>rfl
 generalize hD:a*d-b*c=D at *;generalize hD':a'*d'-b'*c'=D' at *;generalize hP:a'*d-b'*c=P at *;generalize hR:d'*a-c'*b=R at *;generalize hQ:b'*a-a'*b=Q at *
 have v:(c'*d-d'*c) *j=0/\(c'*d-d'*c) *l=0:=by
  constructor
  .have:(c'*d-d'*c) *j=d*(c'*j+d'*l)-d'*(c*j+d*l):=by grind
   rw[this,O,o];simp
  .have:(c'*d-d'*c) *l=c'*(c*j+d*l)-c*(c'*j+d'*l):=by grind
   rw[this,O,o];simp
 have pn:j≠0\/l≠0:=by
  by_cases z:j=0
  .right;intro w
   rw[z,w]at N;simp at N
  .exact .inl z
 have n:c'*d-d'*c=0:=by
  rcases pn with z |z
  .exact (Lh.mp v.1).resolve_right z
  .exact (Lh.mp v.2).resolve_right z
 have pr:P*R=D'*D:=by
  have:P*R-Q*(c'*d-d'*c)=D'*D:=by rw[<-hP,<-hR,<-hQ,<-hD,<-hD'];grind
  rw[n,NT,Int.sub_zero]at this;exact this
 have un:(D*P) *(D*R)=1\/(D*P) *(D*R)=-1:=by
  have:(D*P) *(D*R)=(D*D) *(P*R):=by grind
  rw[this,p,Lu,pr];rcases dt with h |h <;>rcases U with h' |h' <;>rw[h,h'] <;>decide
 have gx:(a'*j+b'*l)=D*P*(a*j+b*l):=by
  have:P*(a*j+b*l)+Q*(c*j+d*l)=(a'*j+b'*l) *D:=by rw[<-hP,<-hQ,<-hD];grind
  rw[O,NT,Sy]at this;have k:D*P*(a*j+b*l)=D*(P*(a*j+b*l)):=Ml _ _ _;rw[k,this,Of (a'*j+b'*l) D,<-Ml,p,Lu]
 have Xy:∀{x y z:Int},0<y->0<z->z=x*y->0<x:=λ{x y z} hy hz e=>by
  rcases Sk 0 x with w |w |w
  .exact w
  .rw[<-w,Rb]at e;lia
  .have:=Int.mul_neg_of_neg_of_pos w hy;lia
 have dP:=qD un (Xy N F gx)
 have gy:(c'*i+d'*g)=D*R*(c*i+d*g):=by
  have:(c'*d-d'*c) *(a*i+b*g)+R*(c*i+d*g)=(c'*i+d'*g) *D:=by rw[<-hR,<-hD];grind
  rw[n,Rb,SA]at this;have k:D*R*(c*i+d*g)=D*(R*(c*i+d*g)):=Ml _ _ _;rw[k,this,Of (c'*i+d'*g) D,<-Ml,p,Lu]
 have dR:=qD (by rw[Of];exact un) (Xy (by lia) (by lia) gy);rw[dR,Lu]at gy
 have gz:a'*i+b'*g=(a*i+b*g)+D*Q*(c*i+d*g):=by
  have:P*(a*i+b*g)+Q*(c*i+d*g)=(a'*i+b'*g) *D:=by rw[<-hP,<-hQ,<-hD];grind
  have k:D*(P*(a*i+b*g)+Q*(c*i+d*g))=D*P*(a*i+b*g)+D*Q*(c*i+d*g):=by grind
  rw[dP,Lu]at k;rw[<-k,this,Of (a'*i+b'*g) D,<-Ml,p,Lu]
 have dQ:D*Q=0:=by
  generalize D*Q=w at *;generalize a*i+b*g=x at *;generalize c*i+d*g=y at *;rcases Sk 0 w with z |z |z
  .have:1*y<=w*y:=OT (by lia) (by lia);lia
  .exact z.symm
  .have:w*y<=-1*y:=OT (by lia) (by lia);lia
 have H:∀{x},D*x=1->x=D:=λ{x} h=>by
  have:D*(D*x)=D*1:=by rw[h]
  rw[<-Ml,p,Lu,Qm]at this;exact this
 have eP:=H dP;have eR:=H dR
 have eQ:Q=0:=by
  have:D*(D*Q)=D*0:=by rw[dQ]
  rw[<-Ml,p,Lu,NT]at this;exact this
 have m:∀{x y},x*D=y*D->x=y:=λ{x y} h=>by
  have:x*D*D=y*D*D:=by rw[h]
  rw[Ml,Ml,p,Qm,Qm]at this;exact this
 have ra:a'=a:=m (by
  have:a*P+c*Q=a'*D:=by rw[<-hP,<-hQ,<-hD];grind
  rw[<-this,eP,eQ,NT,Sy])
 have rb:b'=b:=m (by
  have:b*P+d*Q=b'*D:=by rw[<-hP,<-hQ,<-hD];grind
  rw[<-this,eP,eQ,NT,Sy])
 have rc:c'=c:=m (by
  have:a*(c'*d-d'*c)+c*R=c'*D:=by rw[<-hR,<-hD];grind
  rw[<-this,eR,n,NT,SA])
 have rd:d'=d:=m (by
  have:b*(c'*d-d'*c)+d*R=d'*D:=by rw[<-hR,<-hD];grind
  rw[<-this,eR,n,NT,SA])
 exact⟨ra,rb,rc,rd,by rw[W,q,ra,rb],by rw[X,r,rc,rd]⟩
theorem jB(h:∀z,z∈A↔z∈B):ak A=ak B:=uY (oE h)
noncomputable def apL(m:List Int)(p:P2):P2:=ap (m.getD 0 0) (m.getD 1 0) (m.getD 2 0) (m.getD 3 0) (m.getD 4 0) (m.getD 5 0) p
structure uU(l:List P2)(ms:List (List Int)):Prop where
 mem:∀m∈ms,∃C A B a b c d e f,Nb l C A B/\m=[a,b,c,d,e,f]/\Stn C A B a b c d e f
 all:∀C A B,Nb l C A B->∃a b c d e f,[a,b,c,d,e,f]∈ms/\Stn C A B a b c d e f
theorem G3(a:3<=(ak l).length)(h:Nb (ak l) C A B):aA C A B≠0:=by
 have one:∀{A B},Cn (ak l) C A B->0<aA A C B:=λ{A B} q=>by
  obtain⟨D,b,c⟩:=kW a q.1;rw[Bc (bo l) q.2 b];exact c
 rcases h with q |q
 .have:=one q;unfold aA at *;grind
 .have:=one q;unfold aA at *;grind
section
variable {a b c d e f:Int}
noncomputable def jr(a b c d e f:Int)(p:P2):P2:=ap ((a*d-b*c) *d) (-((a*d-b*c) *b)) (-((a*d-b*c) *c)) ((a*d-b*c) *a) (-((a*d-b*c) *d*e-(a*d-b*c) *b*f)) (-(-((a*d-b*c) *c) *e+(a*d-b*c) *a*f)) p
theorem vh(h:a*d-b*c=1\/a*d-b*c=-1):((a*d-b*c) *d) *((a*d-b*c) *a)-(-((a*d-b*c) *b)) *(-((a*d-b*c) *c))=1\/((a*d-b*c) *d) *((a*d-b*c) *a)-(-((a*d-b*c) *b)) *(-((a*d-b*c) *c))=-1:=by
 have:((a*d-b*c) *d) *((a*d-b*c) *a)-(-((a*d-b*c) *b)) *(-((a*d-b*c) *c))=(a*d-b*c) *(a*d-b*c) *(a*d-b*c):=by grind
 rw[this];rcases h with h |h <;>rw[h] <;>decide
theorem vW(h:a*d-b*c=1\/a*d-b*c=-1)(p):jr a b c d e f (ap a b c d e f p)=p:=by
 have g:(a*d-b*c) *(a*d-b*c)=1:=by rcases h with h |h <;>rw[h] <;>rfl
 unfold jr ap;refine L7 ?_ ?_
 .have:(a*d-b*c) *d*(a*p.1+b*p.2+e)+-((a*d-b*c) *b) *(c*p.1+d*p.2+f)+-((a*d-b*c) *d*e-(a*d-b*c) *b*f)=(a*d-b*c) *(a*d-b*c) *p.1:=by grind
  rw[this,g,Lu]
 .have:-((a*d-b*c) *c) *(a*p.1+b*p.2+e)+(a*d-b*c) *a*(c*p.1+d*p.2+f)+-(-((a*d-b*c) *c) *e+(a*d-b*c) *a*f)=(a*d-b*c) *(a*d-b*c) *p.2:=by grind
  rw[this,g,Lu]
theorem DP(h:a*d-b*c=1\/a*d-b*c=-1)(p):ap a b c d e f (jr a b c d e f p)=p:=by
 have g:(a*d-b*c) *(a*d-b*c)=1:=by rcases h with h |h <;>rw[h] <;>rfl
 unfold jr ap;refine L7 ?_ ?_
 .dsimp only;have:a*((a*d-b*c) *d*p.1+-((a*d-b*c) *b) *p.2+-((a*d-b*c) *d*e-(a*d-b*c) *b*f))+b*(-((a*d-b*c) *c) *p.1+(a*d-b*c) *a*p.2+-(-((a*d-b*c) *c) *e+(a*d-b*c) *a*f))+e=(a*d-b*c) *(a*d-b*c) *p.1+(1-(a*d-b*c) *(a*d-b*c)) *e:=by grind
  rw[this,g];lia
 .dsimp only;have:c*((a*d-b*c) *d*p.1+-((a*d-b*c) *b) *p.2+-((a*d-b*c) *d*e-(a*d-b*c) *b*f))+d*(-((a*d-b*c) *c) *p.1+(a*d-b*c) *a*p.2+-(-((a*d-b*c) *c) *e+(a*d-b*c) *a*f))+f=(a*d-b*c) *(a*d-b*c) *p.2+(1-(a*d-b*c) *(a*d-b*c)) *f:=by grind
  rw[this,g];lia
variable {l:List P2}
theorem oJ(h:a*d-b*c=1\/a*d-b*c=-1)(g:ak l=l)(j:3<=l.length):ak ((ak (l.map (ap a b c d e f))).map (jr a b c d e f))=l:=by
 have i:3<=(ak l).length:=by rw[g];exact j
 conv=>rhs;rw[←g]
 refine jB λz=>?_;rw[JS];constructor
 .rintro ⟨x,m,rfl⟩;obtain⟨p,n,rfl⟩:=(ja h i x).mp m;rw[vW h,<-g];exact n
 .intro k;exact⟨ap a b c d e f z,(ja h i _).mpr ⟨z,by rw[g];exact k,rfl⟩,vW h z⟩
theorem DX(h:a*d-b*c=1\/a*d-b*c=-1)(j:ak l=l)(g:3<=l.length)(i:Nb (ak (l.map (ap a b c d e f))) C A B):Nb l (jr a b c d e f C) (jr a b c d e f A) (jr a b c d e f B):=by
 have k:3<=(ak l).length:=by rw[j];exact g
 have m:3<=(ak (ak (l.map (ap a b c d e f)))).length:=by rw[cR];exact rZ h k
 rw[<-cR]at i;have:=HQ (e:=-((a*d-b*c) *d*e-(a*d-b*c) *b*f)) (f:=-(-((a*d-b*c) *c) *e+(a*d-b*c) *a*f)) (vh h) m i;have bk:=oJ (e:=e) (f:=f) h j g;unfold jr at bk |-;rw[bk]at this;exact this
theorem shp(h:a*d-b*c=1\/a*d-b*c=-1)(u:ak l=l)(v:3<=l.length)(W:uU l ms)(G:uU (ak (l.map (ap a b c d e f))) ms'):∀t∈ms',∃m∈ms,∀p,apL m p=apL t (ap a b c d e f p):=by
 intro t L;obtain⟨H,y,x,i,g,j,k,s,r,R,rfl,S⟩:=G.mem t L;have n:=DX h u v R;obtain⟨T,E,B,I,J,F,mem,N⟩:=W.all _ _ _ n;have M:3<=(ak l).length:=by rw[u];exact v
 have P:=G3 M (by rw[u];exact n)
 have Q:Stn (jr a b c d e f H) (jr a b c d e f y) (jr a b c d e f x) (i*a+g*c) (i*b+g*d) (j*a+k*c) (j*b+k*d) (i*e+g*f+s) (j*e+k*f+r):=by
  have o:∀p,ap (i*a+g*c) (i*b+g*d) (j*a+k*c) (j*b+k*d) (i*e+g*f+s) (j*e+k*f+r) (jr a b c d e f p)=ap i g j k s r p:=λp=>by rw[<-o_,DP h]
  refine⟨?_,by rw[o];exact S.at0,by rw[o];exact S.nx,by rw[o];exact S.ny,by rw[o];exact S.f0,by rw[o];exact S.f1⟩;have:(i*a+g*c) *(j*b+k*d)-(i*b+g*d) *(j*a+k*c)=(i*k-g*j) *(a*d-b*c):=by grind
  rw[this];rcases S.dt with q |q <;>rcases h with z |z <;>rw[q,z] <;>decide
 obtain⟨A,C,D,O,w,K⟩:=Cw P N Q;refine⟨_,mem,λp=>?_⟩;show ap T E B I J F p=ap i g j k s r (ap a b c d e f p);rw[o_,A,C,D,O,w,K]
theorem qU(h:a*d-b*c=1\/a*d-b*c=-1)(g:ak l=l)(n:3<=l.length)(k:∀p,apL m p=apL m' (ap a b c d e f p)):ak ((ak (l.map (ap a b c d e f))).map (apL m'))=ak (l.map (apL m)):=by
 have j:3<=(ak l).length:=by rw[g];exact n
 refine jB λz=>?_;rw[JS,JS];constructor
 .rintro ⟨x,o,rfl⟩;obtain⟨p,i,rfl⟩:=(ja h j x).mp o;exact⟨p,by rw[<-g];exact i,k p⟩
 .rintro ⟨p,i,rfl⟩;exact⟨_,(ja h j _).mpr ⟨p,by rw[g];exact i,rfl⟩,(k p).symm⟩
end
theorem lY:∀l,ST.ltLs l l=false
 |[]=>rfl
 |a::l=>by rw[ST.ltLs,if_pos rfl];exact lY l
theorem vC:∀{x y z},ST.ltLs x y=true->ST.ltLs y z=true->ST.ltLs x z=true
 |[],[],_,h,_=>by cases h
 |[],_::_,[],_,k=>by cases k
 |[],_::_,_::_,_,_=>rfl
 |_::_,[],_,h,_=>by cases h
 |_::_,_::_,[],_,k=>by cases k
 |a::r,b::t,c::u,h,k=>by
  rw[ST.ltLs]at h k |-;by_cases e:a=b
  .rw[if_pos e]at h;by_cases g:b=c
   .rw[if_pos g]at k;rw[if_pos (e.trans g)];exact vC h k
   .rw[if_neg g]at k;rw[if_neg (by rw[e];exact g),e];exact k
  .rw[if_neg e]at h;by_cases g:b=c
   .rw[if_neg (by rw[<-g];exact e),<-g];exact h
   .rw[if_neg g]at k;have q:=ST.ltP_tr h k;rw[if_neg (λz=>by rw[z]at q;have:=ST.ltP_asy q;rw[q]at this;cases this)];exact q
theorem tp:∀{x y},ST.ltLs x y=false->ST.ltLs y x=false->x=y
 |[],[],_,_=>rfl
 |[],_::_,h,_=>by cases h
 |_::_,[],_,k=>by cases k
 |a::r,b::t,h,k=>by
  rw[ST.ltLs]at h k;by_cases e:a=b
  .rw[if_pos e]at h;rw[if_pos e.symm]at k;rw[e,tp h k]
  .rw[if_neg e]at h;rw[if_neg (Ne.symm e)]at k;have:=ST.ltP_tot e h;rw[k]at this;cases this
theorem qh(kf:Nat->List P2):∀n j,j<=n->ST.ltLs (kf j) (kf (L2.abK kf n))=false
 |0,j,h=>by
  obtain rfl:j=0:=by lia
  exact lY _
 |n+1,j,h=>by
  rw[L2.abK];by_cases e:ST.ltLs (kf (n+1)) (kf (L2.abK kf n))=true
  .rw[if_pos e];rcases L1 j (n+1) with z |z
   .have a:=qh kf n j (by lia);cases q:ST.ltLs (kf j) (kf (n+1)) with
    |false=>rfl
    |true=>rw[vC q e]at a;cases a
   .obtain rfl:j=n+1:=by lia
    exact lY _
  .rw[if_neg e];rcases L1 j (n+1) with z |z
   .exact qh kf n j (by lia)
   .obtain rfl:j=n+1:=by lia
    simpa using e
structure Fm(l:List P2)(ms:List (List Int))(x:List P2):Prop where
 mem:∃m∈ms,x=ak (l.map (apL m))
 low:∀m∈ms,ST.ltLs (ak (l.map (apL m))) x=false
theorem Fr(h:a*d-b*c=1\/a*d-b*c=-1)(i:ak l=l)(g:3<=l.length)(W:uU l ms)(p:uU (ak (l.map (ap a b c d e f))) ms')(X:Fm l ms x)(o:Fm (ak (l.map (ap a b c d e f))) ms' x'):x'=x:=by
 have u:3<=(ak l).length:=by rw[i];exact g
 have bk:=oJ (e:=e) (f:=f) h i g;refine tp ?_ ?_
 .-- x is a shape of the moved UL
  obtain⟨j,n,rfl⟩:=o.mem;obtain⟨v,z,y⟩:=shp h i g W p j n;rw[qU h i g y];exact X.low v z
 .obtain⟨m,t,rfl⟩:=X.mem;have r:ak (ak (l.map (ap a b c d e f)))=ak (l.map (ap a b c d e f)):=cR _;have s:3<=(ak (l.map (ap a b c d e f))).length:=rZ h u;unfold jr at bk
  have w:uU (ak ((ak (l.map (ap a b c d e f))).map (ap ((a*d-b*c) *d) (-((a*d-b*c) *b)) (-((a*d-b*c) *c)) ((a*d-b*c) *a) (-((a*d-b*c) *d*e-(a*d-b*c) *b*f)) (-(-((a*d-b*c) *c) *e+(a*d-b*c) *a*f))))) ms:=by
   rw[bk];exact W
  obtain⟨j,n,k⟩:=shp (vh h) r s p w m t;have:=o.low j n;have q:=qU (vh h) r s k;rw[bk]at q;rw[q];exact this
structure M6 where
 a:Int
 b:Int
 c:Int
 d:Int
 e:Int
 f:Int
noncomputable abbrev M6.go(m:M6):P2->P2:=ap m.a m.b m.c m.d m.e m.f
noncomputable abbrev M6.D(m:M6):Int:=m.a*m.d-m.b*m.c
abbrev M6.U(m:M6):Prop:=m.a*m.d-m.b*m.c=1\/m.a*m.d-m.b*m.c=-1
noncomputable def M6.bk(m:M6):M6:=⟨(m.a*m.d-m.b*m.c) *m.d,-(m.a*m.d-m.b*m.c) *m.b,-(m.a*m.d-m.b*m.c) *m.c,(m.a*m.d-m.b*m.c) *m.a,-((m.a*m.d-m.b*m.c) *m.d*m.e+-(m.a*m.d-m.b*m.c) *m.b*m.f),-(-(m.a*m.d-m.b*m.c) *m.c*m.e+(m.a*m.d-m.b*m.c) *m.a*m.f)⟩
noncomputable def M6.bh(m n:M6):M6:=⟨n.a*m.a+n.b*m.c,n.a*m.b+n.b*m.d,n.c*m.a+n.d*m.c,n.c*m.b+n.d*m.d,n.a*m.e+n.b*m.f+n.e,n.c*m.e+n.d*m.f+n.f⟩
noncomputable def M6.one:M6:=⟨1,0,0,1,0,0⟩
theorem M6.bh_go(m n:M6)(p):(m.bh n).go p=n.go (m.go p):=(o_ _ _ _ _ _ _ _ _ _ _ _ _ p).symm
theorem M6.bh_U{m n:M6}(h:m.U)(k:n.U):(m.bh n).U:=by
 have:(m.bh n).a*(m.bh n).d-(m.bh n).b*(m.bh n).c=(m.a*m.d-m.b*m.c) *(n.a*n.d-n.b*n.c):=by unfold M6.bh;dsimp only;grind
 unfold M6.U;rw[this];rcases h with h |h <;>rcases k with k |k <;>rw[h,k] <;>decide
theorem M6.bk_go{m:M6}(h:m.U)(p):m.bk.go (m.go p)=p:=by
 have g:(m.a*m.d-m.b*m.c) *(m.a*m.d-m.b*m.c)=1:=by rcases h with h |h <;>rw[h] <;>rfl
 unfold M6.bk M6.go ap;generalize hD:m.a*m.d-m.b*m.c=D at *;refine L7 ?_ ?_ <;>dsimp only
 .have:D*m.d*(m.a*p.1+m.b*p.2+m.e)+-D*m.b*(m.c*p.1+m.d*p.2+m.f)+-(D*m.d*m.e+-D*m.b*m.f)=D*(m.a*m.d-m.b*m.c) *p.1:=by grind
  rw[this,hD,g,Lu]
 .have:-D*m.c*(m.a*p.1+m.b*p.2+m.e)+D*m.a*(m.c*p.1+m.d*p.2+m.f)+-(-D*m.c*m.e+D*m.a*m.f)=D*(m.a*m.d-m.b*m.c) *p.2:=by grind
  rw[this,hD,g,Lu]
theorem M6.bk_U{m:M6}(h:m.U):m.bk.U:=by
 have:m.bk.a*m.bk.d-m.bk.b*m.bk.c=(m.a*m.d-m.b*m.c) *(m.a*m.d-m.b*m.c) *(m.a*m.d-m.b*m.c):=by unfold M6.bk;dsimp only;grind
 unfold M6.U;rw[this];rcases h with h |h <;>rw[h] <;>decide
theorem M6.inj{m:M6}(h:m.U)(k:m.go p=m.go q):p=q:=z_ h k
theorem fU{α:Type}[DecidableEq α]:∀{l m:List α},l.Nodup->(∀x∈l,x∈m)->l.length<=m.length
 |[],m,_,_=>Kv _
 |a::l,m,h,s=>by
  obtain⟨f,g⟩:=LL.mp h;have c:=s a (by simp);have e:=fU g λx d=>(Pa (b:=a) (λz=>f (by rw[<-z];exact d))).mpr (s x (JL _ d));rw[Oh c]at e;have:=Md c;rw[JX];lia
theorem Ib(h:ST.ltP a b=true):ST.srt [a,b]=[a,b]:=by
 refine ST.asc_srt ?_;simp[h]
theorem jP(h:ST.ltP a b=true):ak [a,b]=[a,b]:=by
 unfold ak;rw[Ib h];rfl
theorem oG(h:a≠b):ak [a,b]=if ST.ltP a b=true then [a,b] else [b,a]:=by
 split
 .rename_i k;exact jP k
 .rename_i k
  have c:=ST.ltP_tot h (by simpa using k);rw[jB (B:=[b,a]) (λz=>by simp;exact Or.comm)];exact jP c
theorem g9(h:ak l=l):l.Nodup:=by rw[<-h];exact bo l
theorem pJ{m:M6}(u:m.U)(a:ak l=l)(g:l≠[])(y):y∈ak (l.map m.go)↔∃p∈l,m.go p=y:=by
 match l,a,g with
 |[p],_,_=>
  show y∈ak [m.go p]↔_;rw[show ak [m.go p]=[m.go p] from rfl];simp[eq_comm]
 |[p,q],a,_=>
  have b:=g9 a;have d:p≠q:=λz=>by rw[z]at b;simp at b
  show y∈ak [m.go p,m.go q]↔_;rw[oG (λz=>d (M6.inj u z))];split <;>simp[eq_comm,or_comm]
 |p::q::r::t,a,_=>
  have c:3<=(ak (p::q::r::t)).length:=by rw[a];simp
  have:=ja (e:=m.e) (f:=m.f) u c y;rw[a]at this;exact this
theorem lN{m:M6}(u:m.U)(b:ak l=l)(c:l≠[]):(ak (l.map m.go)).length=l.length:=by
 have d:=g9 b;have nm:(l.map m.go).Nodup:=ML _ (λp q (h:p≠q) k=>h (M6.inj u k)) d;refine Q8 ?_ ?_
 .have:=fU (bo (l.map m.go)) λx a=>aZ _ x a
  rwa [JK]at this
 .have:=fU nm λx a=>by
   obtain⟨p,e,rfl⟩:=JS.mp a;exact (pJ u b c _).mpr ⟨p,e,rfl⟩
  rwa [JK]at this
structure FP(l x:List P2)(m:M6):Prop where
 hl:ak l=l
 ne:l≠[]
 u:m.U
 ex:x=ak (l.map m.go)
 k:(l.length=1/\x=[(0,0)])\/(l.length=2/\∃g:Int,0<g/\x=[(0,0),(g,0)])\/(3<=l.length/\∃ms,uU l ms/\Fm l ms x)
section
variable {l l' x x':List P2}{m m' N:M6}
theorem FP.len(h:FP l x m):x.length=l.length:=by rw[h.ex];exact lN h.u h.hl h.ne
theorem FP.mem(h:FP l x m)(y):y∈x↔∃p∈l,m.go p=y:=by rw[h.ex];exact pJ h.u h.hl h.ne y
theorem Ep{K:M6}(e:K.go (0,0)=(0,0)\/K.go (0,0)=(g',0))(f:K.go (g,0)=(0,0)\/K.go (g,0)=(g',0))(c:K.go (0,0)≠K.go (g,0)):g ∣ g':=by
 have d:(K.go (g,0)).1-(K.go (0,0)).1=g*K.a:=by unfold M6.go ap;dsimp only;grind
 rcases e with a |a <;>rcases f with b |b
 .exact absurd (a.trans b.symm) c
 .rw[a,b]at d;exact⟨K.a,by dsimp only at d;lia⟩
 .rw[a,b]at d;exact⟨-K.a,by dsimp only at d;rw[UQ];lia⟩
 .exact absurd (a.trans b.symm) c
theorem FP.same(h:FP l x m)(h':FP l' x' m')(u:N.U)(e:l'=ak (l.map N.go)):x'=x:=by
 have len:l'.length=l.length:=by rw[e];exact lN u h.hl h.ne
 have b:∀{l l' x x'}{m m' N:M6}{g c},FP l x m->FP l' x' m'->N.U->(∀q,q∈l'↔∃p∈l,N.go p=q)->0<g->x=[(0,0),(g,0)]->x'=[(0,0),(c,0)]->g ∣ c:=λ{l l' x x' m m' N g c} h h' u e gp ex a=>by
  have r:=M6.bh_U (M6.bh_U (M6.bk_U h.u) u) h'.u
  have j:∀y∈x,((m.bk.bh N).bh m').go y∈x':=λy hy=>by
   obtain⟨p,d,rfl⟩:=(h.mem y).mp hy;rw[M6.bh_go,M6.bh_go,M6.bk_go h.u];exact (h'.mem _).mpr ⟨_,(e _).mpr ⟨p,d,rfl⟩,rfl⟩
  refine Ep (by simpa [a] using j (0,0) (by simp[ex])) (by simpa [a] using j (g,0) (by simp[ex])) λz=>?_;have:=congrArg Nt (M6.inj r z);dsimp only at this;lia
 have i:∀q,q∈l'↔∃p∈l,N.go p=q:=λq=>by rw[e];exact pJ u h.hl h.ne q
 rcases h.k with ⟨n,ex⟩ |⟨n,g,gp,ex⟩ |⟨n,E,G,F⟩ <;>rcases h'.k with ⟨o,a⟩ |⟨o,c,f,a⟩ |⟨o,s,t,A⟩ <;>try omega
 .rw[ex,a]
 .have B:=b h h' u i gp ex a
  have w:=b h' h (M6.bk_U u) (λq=>by
   constructor
   .intro v;exact⟨N.go q,(i _).mpr ⟨q,v,rfl⟩,M6.bk_go u q⟩
   .rintro ⟨p,d,rfl⟩;obtain⟨D,C,rfl⟩:=(i p).mp d;rw[M6.bk_go u];exact C) f a ex
  have:g=c:=QF (by lia) (by lia) B w;rw[ex,a,this]
 .subst e;exact Fr u h.hl n G t F A
theorem FP.conv (h:FP l x m) (h':FP l' x m') (q):q∈l'↔∃p∈l,(m.bh m'.bk).go p=q:=by
 constructor
 .intro a;have:=(h'.mem (m'.go q)).mpr ⟨q,a,rfl⟩;obtain⟨p,b,e⟩:=(h.mem _).mp this;exact⟨p,b,by rw[M6.bh_go,e,M6.bk_go h'.u]⟩
 .rintro ⟨p,b,rfl⟩;rw[M6.bh_go];obtain⟨q,a,e⟩:=(h'.mem _).mp ((h.mem (m.go p)).mpr ⟨p,b,rfl⟩);rw[<-e,M6.bk_go h'.u];exact a
theorem FP.srt(h:FP l x m)(h':FP l' x m'):ST.srt (l.map (m.bh m'.bk).go)=ST.srt l':=oE λz=>by
 rw[JS,h.conv h']
end
noncomputable def b7(p q:P2):P2:=(p.1-q.1,p.2-q.2)
noncomputable def crT(u v:P2):Int:=u.1*v.2-u.2*v.1
theorem AT(b:2<=(ST.srt pts).length):2<=(ak pts).length:=by
 obtain⟨c,d,W⟩:=Iq (dC pts) b
 have a:ak pts=(ao (ST.srt pts)).reverse.dropLast++(ao (ST.srt pts).reverse).reverse.dropLast:=by
  unfold ak;rw[if_neg (by lia)]
 have:=W.lt;have:=W.lb;rw[a,Ko,Ls,Ls];lia
theorem DC(x:Int):0<=x*x:=by
 rcases Uz 0 x with h |h
 .exact Li h h
 .exact Int.mul_nonneg_of_nonpos_of_nonpos h h
theorem CI(h:u≠(0,0))(f:u.1*z.1+u.2*z.2=0)(j:crT u z=0):z=(0,0):=by
 have d:(u.1*u.1+u.2*u.2) *z.1=u.1*(u.1*z.1+u.2*z.2)-u.2*crT u z:=by unfold crT;grind
 have e:(u.1*u.1+u.2*u.2) *z.2=u.2*(u.1*z.1+u.2*z.2)+u.1*crT u z:=by unfold crT;grind
 rw[f,j]at d e
 have c:u.1*u.1+u.2*u.2≠0:=λk=>by
  have a:=DC u.1;have b:=DC u.2;have g:u.1*u.1=0:=by omega
  have i:u.2*u.2=0:=by omega
  refine h (L7 ?_ ?_)
  .rcases Lh.mp g with z |z <;>exact z
  .rcases Lh.mp i with z |z <;>exact z
 refine L7 ?_ ?_
 .rcases Lh.mp (d.trans (by simp)) with k |k
  .exact absurd k c
  .exact k
 .rcases Lh.mp (e.trans (by simp)) with k |k
  .exact absurd k c
  .exact k
theorem Gp{u:P2}(d:u≠(0,0)):0<u.1*u.1+u.2*u.2:=by
 have a:=DC u.1;have b:=DC u.2;rcases Nj 0 (u.1*u.1+u.2*u.2) with k |k
 .exact k
 .exfalso
  have c:u.1*u.1=0:=by omega
  have e:u.2*u.2=0:=by omega
  refine d (L7 ?_ ?_)
  .rcases Lh.mp c with z |z <;>exact z
  .rcases Lh.mp e with z |z <;>exact z
theorem Gf(a b q):aA a b q=crT (b7 b a) (b7 q b):=by unfold aA crT b7;grind
theorem qN(d:p∈ak l):o3 l p:=by
 refine⟨aZ l p d,?_⟩;by_cases n:2<=(ST.srt l).length
 .rcases L1 (ak l).length 3 with h |h
  .have P:(ak l).length=2:=by have:=AT n;lia
   obtain⟨A,B,f⟩:∃A B,ak l=[A,B]:=by
    match g:ak l,P with
    |[A,B],_=>exact⟨A,B,rfl⟩
   have C:=bo l;rw[f]at C;have I:A≠B:=by simp at C;exact C
   obtain⟨Q,T,v,w,u,_⟩:=dY n (i:=0) (by lia);obtain⟨S,U,z,E,D,_⟩:=dY n (i:=1) (by lia);rw[f]at v w z E;simp at v w z E;subst v w z E
   have s:∀o p,p≠o->(∀c∈ak l,c=p\/c=o)->(∀q∈l,aA o p q=0)->∃a b:Int,∀q∈l,q≠p->wth a b q<wth a b p:=by
    intro o p L g t
    have J:b7 p o≠(0,0):=λk=>L (by
     have k1:=congrArg Nt k;have G:=congrArg NI k;unfold b7 at k1 G;exact L7 (by lia) (by lia))
    have N:=Gp J;refine⟨(b7 p o).1,(b7 p o).2,λq j m=>?_⟩;have V:wth (b7 p o).1 (b7 p o).2 p-wth (b7 p o).1 (b7 p o).2 o=(b7 p o).1*(b7 p o).1+(b7 p o).2*(b7 p o).2:=by unfold wth b7;grind
    obtain⟨c,O,R⟩:=jA (b7 p o).1 (b7 p o).2 j
    have le:wth (b7 p o).1 (b7 p o).2 q<=wth (b7 p o).1 (b7 p o).2 p:=by
     rcases g c O with rfl |rfl <;>lia
    rcases Oo le with k |k
    .exact k
    .exfalso
     have M:(b7 p o).1*(b7 q p).1+(b7 p o).2*(b7 q p).2=0:=by
      have:wth (b7 p o).1 (b7 p o).2 q-wth (b7 p o).1 (b7 p o).2 p=(b7 p o).1*(b7 q p).1+(b7 p o).2*(b7 q p).2:=by unfold wth b7;grind
      lia
     have H:=t q j;rw[Gf]at H;have:=CI J M H;have k1:=congrArg Nt this;have G:=congrArg NI this;unfold b7 at k1 G;exact m (L7 (by lia) (by lia))
   have K:∀q∈l,aA A B q=0:=λq j=>by
    have a:=u q j;have b:=D q j;have:aA A B q=- aA B A q:=by unfold aA;grind
    lia
   rw[f]at d;rcases JN.mp d with rfl |d
   .exact s B p I (λc g=>by rw[f]at g;simpa using g) λq j=>by
     have:aA p B q=- aA B p q:=by unfold aA;grind
     have:=K q j;lia
   .have e:p=B:=by simpa using d
    subst e;exact s A p I.symm (λc g=>by rw[f]at g;simp at g;exact g.symm) K
  .exact (dw h d).2
 .rw[fE n]at d;refine⟨0,0,λq j m=>absurd ?_ m⟩
  have F:=(ST.srt_mem q l).mpr j
  match hA:ST.srt l with
  |[]=>rw[hA]at d;simp at d
  |[x]=>rw[hA]at d F;simp at d F;exact F.trans d.symm
  |x::y::r=>rw[hA]at n;simp at n
theorem pV(m:M6)(a b)(p):wth a b (m.go p)=wth (a*m.a+b*m.c) (a*m.b+b*m.d) p+(a*m.e+b*m.f):=by
 unfold wth M6.go ap;dsimp only;grind
theorem wy{m:M6}(u:m.U)(h:o3 X p):o3 (X.map m.go) (m.go p):=by
 obtain⟨n,a,b,k⟩:=h;refine⟨JS.mpr ⟨p,n,rfl⟩,a*m.bk.a+b*m.bk.c,a*m.bk.b+b*m.bk.d,λq g i=>?_⟩;obtain⟨e,j,rfl⟩:=JS.mp g;have l:=pV m.bk a b (m.go e);have f:=pV m.bk a b (m.go p);rw[M6.bk_go u]at l f;have:=k e j λz=>i (by rw[z])
 lia
theorem DO{m:M6}(u:m.U)(c):c∈ak (X.map m.go)↔∃p∈ak X,m.go p=c:=by
 constructor
 .intro a;obtain⟨p,b,rfl⟩:=JS.mp (aZ _ c a);refine⟨p,dr ?_,rfl⟩;have:=wy (M6.bk_U u) (qN a);rw[M6.bk_go u,Ka,show (m.bk.go ∘ m.go)=id from funext λq=>M6.bk_go u q,UP]at this
  exact this
 .rintro ⟨p,b,rfl⟩;exact dr (wy u (qN b))
theorem An{m:M6}(u:m.U):ak (X.map m.go)=ak ((ak X).map m.go):=by
 rw[<-cR (X.map m.go)];exact jB λz=>by rw[DO u,JS]
end
section
variable {P:J2}{w:Kt}{K:JI}{mg:Str→Option J0}{base:Mf} (T:Txt w K mg)
theorem zZ(h:∀p∈pts,Szp m p):∀p∈ST.srt pts,Szp m p:=λp a=>h p ((ST.srt_mem p pts).mp a)
theorem jc(row):(ao row).length<=row.length:=by
 have:=hJ row row.length
 rwa [MY]at this
def ub:List U->Out->Prop:=λa o=>∃pts:List P2,a=[lp pts]/\(∀p∈pts,Szp 5000 p)/\pts.length<64/\pts≠[]/\o=.new ((ak pts).map pu)
theorem rN:OkD P w base T.aaM 4 (ub):=by
 refine okD gC (by walk_at"ln") ?_;rintro _ _ _ c ⟨pts,rfl,sz,d,g,rfl⟩;have j:((pts.map pu).length)=pts.length:=by rw[JK]
 have f:=K_.mpr g;refine ac (aL (av fX (aw (bF rfl) rfl T.aac J5 (ae (aa 0 rfl) aj af)) ah) (by rw[j];exact decide_eq_false (by lia)) (ay ?_));have m:=ST.srt_len pts;have b:(((ST.srt pts).map pu).length)=((ST.srt pts).length):=by rw[JK]
 have a:=zZ sz;by_cases e:(ST.srt pts).length=1
 .refine ac (oy (i:=1) gC.nd rfl (Or.inl rfl) (fJ rfl (iG c) rfl T.aak rfl T.abc (aa 0 rfl) d af) ?_);refine ac (cA (av fX (gF 1 rfl rfl T.aac) ah) (by rw[b];exact decide_eq_true (by lia)) ?_);refine ac (mh 1 rfl ?_);unfold ak;rw[if_pos e]
 .refine ac (ax 1 gC.nd (EvN.ev (fJ rfl (iG c) rfl T.aak rfl T.abc (aa 0 rfl) d af)) ?_);refine ac (aL (av fX (aw (bF rfl) rfl T.aac J5 (ae (aa 1 rfl) aj af)) ah) (by rw[b];exact decide_eq_false (by lia)) (ay ?_));have l:=jc (ST.srt pts);have h:=jc (ST.srt pts).reverse;rw[KD]at h;refine ac (ax 2 gC.nd (EvN.ev (eJ (iu T) c (ae (aa 1 rfl) aj af) ⟨ST.srt pts,rfl,a,by lia,rfl⟩)) ?_)
  refine ac (ax 3 gC.nd (EvN.ev (eJ (iu T) c (ae (EvN.ev (IJ (aa 1 rfl) (bU ah) (.inl rfl))) aj aU) ⟨(ST.srt pts).reverse,by rw[lp,Mb],λp k=>a p (J7.mp k),by rw[KD];lia,rfl⟩)) ?_);refine ac (dZ (kq (EvN.ev (bY (aa 2 rfl) cj (ck (bU ah)) (.inl rfl))) (EvN.ev (bY (aa 3 rfl) cj (ck (bU ah)) (.inl rfl))) (by rw[fF,fF,JK,JK,Ls,Ls,KD,KD];exact Kd (aB (by lia)))) ?_);unfold ak;rw[if_neg e,fF,fF,<-Kx]
def ji:List U->Out->Prop:=λg o=>∃(pts:List P2) (a b c d e f:Int),g=[lp pts,mv a b c d e f]/\Mv a b c d e f/\(∀p∈pts,Szp 3000 p)/\(∀p∈pts,Szp 5000 (ap a b c d e f p))/\pts≠[]/\pts.length<64/\o=.new ((ak (pts.map (ap a b c d e f))).map pu)
theorem bD:OkD P w base T.aah 5 (ji):=by
 refine okD f_ (by walk_at"ln") ?_;rintro _ _ _ k ⟨pts,a,b,c,d,e,f,rfl,M,sz,n,l,o,rfl⟩;refine ac (dZ (eJ (rN T) k (ae (EvN.ev (cZ (ys:=(pts.map λp=>pu (ap a b c d e f p))) rfl (blk (ai eM) ["land","move","P"] [2] rfl rfl rfl rfl (by decide+kernel)) (df (aa 0 rfl) (.inl rfl)) (λ_ _ _ _=>aR (i:=2) f_.nd rfl (Or.inl rfl)) (bN (by decide)) ?clen ?csz (λ_ _=>trivial) ?celt)) aj cN) ⟨pts.map (ap a b c d e f),by rw[lp,Ka];rfl,λp g=>by obtain⟨q,m,rfl⟩:=JS.mp g;exact n q m,by rw[JK];exact o,by simpa using l,rfl⟩) ?_)
 case clen=>simp
 case csz=>rw[JK];exact Kd (aB (by lia))
 case celt=>
  intro C s t fp j x y r hy;obtain⟨p,g,h,rfl,rfl⟩:=bZ r hy;exact (aQ (e8 T) k (ae (aa 2 rfl) (ae (aa 1 rfl) aj af) af) ⟨p.1,p.2,a,b,c,d,e,f,rfl,M,(sz p h).1.mono (by decide),(sz p h).2.mono (by decide),rfl⟩)
 exact rfl
end
section
variable {P:J2}{w:Kt}{K:JI}{mg:Str→Option J0}{base:Mf} (T:Txt w K mg)
structure SM(C A B:P2)(a b c d e f:Int)(g u v s t s1 t1 k q x y:Int):Prop where
 L:LvG C A g u v s t s1 t1
 hx:x=s*B.1+t*B.2+(-s*C.1-t*C.2)
 hy:y=-v*B.1+u*B.2+(v*C.1-u*C.2)
 hk:(k=1/\0<y)\/(k=-1/\y<0)
 hq:q=x/(k*y)
 ea:a=s-q*(k* -v)
 eb:b=t-q*(k*u)
 ec:c=k* -v
 ed:d=k*u
 ee:e=(-s*C.1-t*C.2)-q*(k*(v*C.1-u*C.2))
 ef:f=k*(v*C.1-u*C.2)
def SMx(C A B:P2)(a b c d e f:Int):Prop:=∃g u v s t i h k q x y,SM C A B a b c d e f g u v s t i h k q x y
theorem EK(h:C≠A)(l:aA C A B≠0):∃a b c d e f,SMx C A B a b c d e f:=by
 obtain⟨g,u,v,s,t,j,i,L⟩:=BS h;have n:A.1-C.1=g*u:=by rw[L.hu];exact (MB L.G.da).symm
 have m:A.2-C.2=g*v:=by rw[L.hv];exact (MB L.G.db).symm
 have o:-v*B.1+u*B.2+(v*C.1-u*C.2)≠0:=λz=>l (by
  unfold aA;rw[n,m];have:g*u*(B.2-C.2)-g*v*(B.1-C.1)=g*(-v*B.1+u*B.2+(v*C.1-u*C.2)):=by grind
  rw[this,z,NT])
 by_cases k:0 < -v*B.1+u*B.2+(v*C.1-u*C.2)
 .exact⟨_,_,_,_,_,_,g,u,v,s,t,j,i,1,_,_,_,L,rfl,rfl,.inl ⟨rfl,k⟩,rfl,rfl,rfl,rfl,rfl,rfl,rfl⟩
 .exact⟨_,_,_,_,_,_,g,u,v,s,t,j,i,-1,_,_,_,L,rfl,rfl,.inr ⟨rfl,by lia⟩,rfl,rfl,rfl,rfl,rfl,rfl,rfl⟩
section
variable {C A B:P2}{a b c d e f g u v s t s1 t1 k q x y:Int}
theorem SM.stn(h:SM C A B a b c d e f g u v s t s1 t1 k q x y):Stn C A B a b c d e f:=by
 have gp:0<g:=by have:=h.L.G.g0;have:=h.L.gn;lia
 have i:A.1-C.1=g*u:=by rw[h.L.hu];exact (MB h.L.G.da).symm
 have j:A.2-C.2=g*v:=by rw[h.L.hv];exact (MB h.L.G.db).symm
 rw[h.ea,h.eb,h.ec,h.ed,h.ee,h.ef];refine F0 gp i j h.L.G1.eq h.hx h.hy ?_ ?_ h.hq
 .rcases h.hk with ⟨z,_⟩ |⟨z,_⟩
  .exact .inl z
  .exact .inr z
 .rcases h.hk with ⟨z,w⟩ |⟨z,w⟩ <;>rw[z] <;>lia
structure SMz(m:Nat)(u v s t x y e0 f0 q:Int):Prop where
 u:Sz (m+1) u
 v:Sz (m+1) v
 s:Sz (m+9) s
 t:Sz (2*m+10) t
 e0:Sz (3*m+11) e0
 f0:Sz (2*m+2) f0
 x:Sz (3*m+13) x
 y:Sz (2*m+4) y
 q:Sz (3*m+13) q
theorem SM.sz(h:SM C A B a b c d e f g u v s t s1 t1 k q x y)(i:Szp m C)(D:Szp m A)(l:Szp m B):SMz m u v s t x y (-s*C.1-t*C.2) (v*C.1-u*C.2) q:=by
 have j:Sz (m+1) u:=by rw[h.L.hu];exact ((L2.Sz.sub' D.1 i.1).mono (by lia)).ediv
 have n:Sz (m+1) v:=by rw[h.L.hv];exact ((L2.Sz.sub' D.2 i.2).mono (by lia)).ediv
 obtain⟨_,p,o⟩:=i0 h.L.G1 j n;have z:Sz (3*m+11) (-s*C.1-t*C.2):=(L2.Sz.sub' (L2.Sz.mul (L2.Sz.neg p) i.1) (L2.Sz.mul o i.2)).mono (by lia);have r:Sz (2*m+2) (v*C.1-u*C.2):=(L2.Sz.sub' (L2.Sz.mul n i.1) (L2.Sz.mul j i.2)).mono (by lia);have w:Sz (3*m+13) x:=by rw[h.hx];exact (L2.Sz.add' (L2.Sz.add' (L2.Sz.mul p l.1) (L2.Sz.mul o l.2)) z).mono (by lia)
 have E:Sz (2*m+4) y:=by rw[h.hy];exact (L2.Sz.add' (L2.Sz.add' (L2.Sz.mul (L2.Sz.neg n) l.1) (L2.Sz.mul j l.2)) r).mono (by lia)
 exact⟨j,n,p.mono (by lia),o.mono (by lia),z,r,w,E,by rw[h.hq];exact w.ediv⟩
theorem SM.k1(h:SM C A B a b c d e f g u v s t s1 t1 k q x y):Sz 1 k:=by
 rcases h.hk with ⟨z,_⟩ |⟨z,_⟩ <;>rw[z] <;>decide
structure Mz(m:Nat)(a b c d e f:Int):Prop where
 u:a*d-b*c=1\/a*d-b*c=-1
 a:Sz (4*m+16) a
 b:Sz (4*m+16) b
 c:Sz (m+2) c
 d:Sz (m+2) d
 e:Sz (5*m+17) e
 f:Sz (2*m+3) f
theorem SM.mz(h:SM C A B a b c d e f g u v s t s1 t1 k q x y)(n:Szp m C)(j:Szp m A)(l:Szp m B):Mz m a b c d e f:=by
 have Z:=h.sz n j l;have i:=h.k1;refine⟨h.stn.dt,?_,?_,?_,?_,?_,?_⟩
 .rw[h.ea];exact (L2.Sz.sub' Z.s (L2.Sz.mul Z.q (L2.Sz.mul i (L2.Sz.neg Z.v)))).mono (by lia)
 .rw[h.eb];exact (L2.Sz.sub' Z.t (L2.Sz.mul Z.q (L2.Sz.mul i Z.u))).mono (by lia)
 .rw[h.ec];exact (L2.Sz.mul i (L2.Sz.neg Z.v)).mono (by lia)
 .rw[h.ed];exact (L2.Sz.mul i Z.u).mono (by lia)
 .rw[h.ee];exact (L2.Sz.sub' Z.e0 (L2.Sz.mul Z.q (L2.Sz.mul i Z.f0))).mono (by lia)
 .rw[h.ef];exact (L2.Sz.mul i Z.f0).mono (by lia)
theorem Mz.mv(h:Mz m a b c d e f)(g:m<=1000):Mv a b c d e f:=
 ⟨h.u,h.a.mono (by lia),h.b.mono (by lia),h.c.mono (by lia),h.d.mono (by lia),h.e.mono (by lia),h.f.mono (by lia)⟩
theorem Mz.ap{m:Nat}(h:Mz m a b c d e f){p:P2}(z:Szp m p):Szp (5*m+30) (ap a b c d e f p):=
 ⟨(L2.Sz.add' (L2.Sz.add' (L2.Sz.mul h.a z.1) (L2.Sz.mul h.b z.2)) h.e).mono (by lia),(L2.Sz.add' (L2.Sz.add' (L2.Sz.mul h.c z.1) (L2.Sz.mul h.d z.2)) h.f).mono (by lia)⟩
end
theorem Ga(a b c d e f):beh a b c d e f 1 0 0 (-1) 0 0=mv a b (-c) (-d) e (-f):=by
 unfold beh;rw[show (1*a+0*c)=a by lia,show (1*b+0*d)=b by lia,show (0*a+-1*c)=-c by lia,show (0*b+-1*d)=-d by lia,show (1*e+0*f+0)=e by lia,show (0*e+-1*f+0)=-f by lia]
theorem AO(a b c d e f q):beh a b c d e f 1 (-q) 0 1 0 0=mv (a-q*c) (b-q*d) c d (e-q*f) f:=by
 unfold beh;rw[show (1*a+-q*c)=a-q*c by grind,show (1*b+-q*d)=b-q*d by grind,show (0*a+1*c)=c by lia,show (0*b+1*d)=d by lia,show (1*e+-q*f+0)=e-q*f by grind,show (0*e+1*f+0)=f by lia]
theorem G5:Mv 1 0 0 (-1) 0 0:=by
 have k:∀{x},Sz 8 x->Sz 30000 x:=λh=>h.mono (by decide);exact⟨.inr (by decide),k (by decide),k (by decide),k (by decide),k (by decide),k (by decide),k (by decide)⟩
theorem BA(z:Sz 4000 q):Mv 1 (-q) 0 1 0 0:=by
 have k:∀{x},Sz 8 x->Sz 30000 x:=λh=>h.mono (by decide);exact⟨.inl (by lia),k (by decide),(L2.Sz.neg z).mono (by decide),k (by decide),k (by decide),k (by decide),k (by decide)⟩
def uE:List U->Out->Prop:=λg o=>∃(C A B:P2) (a b c d e f:Int),g=[pu C,pu A,pu B]/\Szp 400 C/\Szp 400 A/\Szp 400 B/\SMx C A B a b c d e f/\o=.val (mv a b c d e f)
theorem rQ:OkD P w base T.abl 6 (uE):=by
 refine okD gU (by walk_at"ln") ?_;rintro _ _ _ j ⟨C,A,B,a,b,c,d,e,f,rfl,r,o,z,⟨g,u,v,h,t,O,N,k,q,x,y,S⟩,rfl⟩;have Z:=S.sz r o z;have L:=S.L;have I:=L.G1;rw[L.hu,L.hv]at I;have two:Dk C.1 C.2 A.1 A.2:=⟨r.1.mono (by decide),r.2.mono (by decide),o.1.mono (by decide),o.2.mono (by decide)⟩
 have i:Mv h t (-v) u (-h*C.1-t*C.2) (v*C.1-u*C.2):=⟨.inl (by have:=L.G1.eq;grind),Z.s.mono (by decide),Z.t.mono (by decide),(L2.Sz.neg Z.v).mono (by decide),Z.u.mono (by decide),Z.e0.mono (by decide),Z.f0.mono (by decide)⟩
 have n:Sz 30000 B.1:=z.1.mono (by decide);have m:Sz 30000 B.2:=z.2.mono (by decide);have H:=S.hx;have hy:=S.hy;have l:=S.hq;have F:=Z.y;have E:=Z.q;refine ac (ax 3 gU.nd (aQ (rh T) j (ae (aa 0 rfl) (ae (aa 1 rfl) aj af) af) ⟨C.1,C.2,A.1,A.2,g,O,N,h,t,rfl,two,L.G,L.gn,I,rfl⟩) ?_);rw[<-L.hu,<-L.hv];rcases S.hk with ⟨D,K⟩ |⟨D,M⟩
 .subst D;refine ac (aL (av h_ (aC (aQ (e8 T) j (ae (aa 2 rfl) (ae (aa 3 rfl) aj af) af) ⟨B.1,B.2,h,t,-v,u,_,_,rfl,i,n,m,rfl⟩) ah rfl rfl) ah) (decide_eq_false (show ¬ (-v*B.1+u*B.2+(v*C.1-u*C.2)<0) by rw[<-hy];lia)) (ay ?_));refine ac (ax 4 gU.nd (aQ (e8 T) j (ae (aa 2 rfl) (ae (aa 3 rfl) aj af) af) ⟨B.1,B.2,h,t,-v,u,_,_,rfl,i,n,m,rfl⟩) ?_);rw[<-H,<-hy];rw[Lu]at l;refine ac (aN (aQ (hU T) j (ae (aa 3 rfl) (ae (bE (aq ah (aq (bU (ir (aC (aa 4 rfl) ah rfl rfl) (aC (aa 4 rfl) ah rfl rfl) ⟨K,F.mono (by decide)⟩)) (EQ (.cons (.int _ _ _) (.cons (.int _ _ _) (.cons (.int _ _ _) (.cons (.int _ _ _) yH.nil))))) fG) aJ)) aj iL) af) ⟨h,t,-v,u,_,_,1,-(x/y),0,1,0,0,rfl,i,BA (by rw[<-l];exact E.mono (by decide)),rfl⟩) ?_)
  rw[<-l];refine congrArg Out.val ((AO _ _ _ _ _ _ _).trans ?_);rw[S.ea,S.eb,S.ec,S.ed,S.ee,S.ef,Lu,Lu,Lu]
 .subst D;have J:-1*y=-y:=by lia
  rw[J]at l;have M1:Mv h t (- -v) (-u) (-h*C.1-t*C.2) (-(v*C.1-u*C.2)):=⟨.inr (by have:=L.G1.eq;grind),i.a,i.b,L2.Sz.neg i.c,L2.Sz.neg i.d,i.e,L2.Sz.neg i.f⟩
  refine ac (cA (av h_ (aC (aQ (e8 T) j (ae (aa 2 rfl) (ae (aa 3 rfl) aj af) af) ⟨B.1,B.2,h,t,-v,u,_,_,rfl,i,n,m,rfl⟩) ah rfl rfl) ah) (decide_eq_true (show -v*B.1+u*B.2+(v*C.1-u*C.2)<0 by rw[<-hy];exact M)) ?_);refine ac (ax 3 gU.nd (aQ (hU T) j (ae (aa 3 rfl) (ae (bE (aq ah (aq ah (aq ah (aq (bU ah) (aq ah (aq ah bG aJ) aJ) fG) aJ) aJ) aJ)) aj iL) af) ⟨h,t,-v,u,_,_,1,0,0,-1,0,0,rfl,i,G5,(congrArg Out.val (Ga _ _ _ _ _ _)).symm⟩) (ay ?_));have p:- -v*B.1+-u*B.2+-(v*C.1-u*C.2)=-y:=by rw[hy];grind
  refine ac (ax 4 gU.nd (aQ (e8 T) j (ae (aa 2 rfl) (ae (aa 3 rfl) aj af) af) ⟨B.1,B.2,h,t,- -v,-u,_,_,rfl,M1,n,m,rfl⟩) ?_);rw[<-H,p];refine ac (aN (aQ (hU T) j (ae (aa 3 rfl) (ae (bE (aq ah (aq (bU (ir (aC (aa 4 rfl) ah rfl rfl) (aC (aa 4 rfl) ah rfl rfl) ⟨(by lia),(L2.Sz.neg F).mono (by decide)⟩)) (EQ (.cons (.int _ _ _) (.cons (.int _ _ _) (.cons (.int _ _ _) (.cons (.int _ _ _) yH.nil))))) fG) aJ)) aj iL) af) ⟨h,t,- -v,-u,_,_,1,-(x / -y),0,1,0,0,rfl,M1,BA (by rw[<-l];exact E.mono (by decide)),rfl⟩) ?_);rw[<-l];refine congrArg Out.val ((AO _ _ _ _ _ _ _).trans ?_);rw[S.ea,S.eb,S.ec,S.ed,S.ee,S.ef,show -1* -v=- -v by lia,show -1*u=-u by lia,show -1*(v*C.1-u*C.2)=-(v*C.1-u*C.2) by lia]
end
section
variable {P:J2}{w:Kt}{K:JI}{mg:Str→Option J0}{base:Mf} (T:Txt w K mg)
theorem BV(h:0<l.length):eK (l.map pu) (some (-1)) none++eK (l.map pu) none (some (-1))=((Kr l.length).map λi=>gp l (pI l.length i)).map pu:=by
 rw[fF]
 have e:eK (l.map pu) (some (-1)) none=[pu (gp l (l.length-1))]:=by
  unfold eK HT.sIx
  have d:l=l.dropLast++[gp l (l.length-1)]:=by
   have a:l≠[]:=λz=>by rw[z]at h;simp at h
   have:=(List.dropLast_concat_getLast a).symm;rw[List.getLast_eq_getElem]at this
   have g:gp l (l.length-1)=l[l.length-1]:=by
    show l.getD (l.length-1) (0,0)=_;rw[JW,JG (by lia)];rfl
   rw[g];exact this
  have b:(-1+((l.map pu).length:Int)).toNat=l.length-1:=by rw[JK];lia
  simp only[show (-1<0)=True by simp,if_true,b];rw[JK,<-RT]
  have c:l.drop (l.length-1)=[gp l (l.length-1)]:=by
   have:=congrArg (U5 (l.length-1)) d;rw[this,List.drop_append_of_le_length (by simp),NA (by simp)];rfl
  rw[c];rw[show l.length-(l.length-1)=1 by lia];rfl
 rw[e];apply L3;intro i;by_cases hi:i<l.length
 .rw[Ka,JQ,LV hi];show _=some (pu (gp l (pI l.length i)));rw[nV hi]
  match i,hi with
  |0,hi=>rfl
  |i+1,hi=>
   rw[if_neg (by lia)];show (List.map pu l.dropLast)[i]?=_;rw[JQ,MU,if_pos (by lia)];rw[show i+1-1=i by lia,c9 (show i<l.length by lia)];rfl
 .rw[Kg (by simp;lia),Kg (by simp;lia)]
theorem AD(h:0<l.length):eK (l.map pu) (some 1) none++eK (l.map pu) none (some 1)=((Kr l.length).map λi=>gp l (nI l.length i)).map pu:=by
 rw[qM,B8];apply L3;intro i;by_cases a:i<l.length
 .rw[Ka,JQ,LV a];show _=some (pu (gp l (nI l.length i)));rw[BZ a];by_cases k:i+1=l.length
  .rw[if_pos k,J3 (by simp;lia),SD,JK,show i-(l.length-1)=0 by lia,List.getElem?_take,if_pos (by decide),JQ,c9 h];rfl
  .rw[if_neg k,JZ (by simp;lia),Ms,JQ,show 1+i=i+1 by lia,c9 (show i+1<l.length by lia)];rfl
 .rw[Kg (by simp;lia),Kg (by simp;lia)]
structure Gen(l:List P2)(F G:Nat->List Int):Prop where
 n3:3<=l.length
 n64:l.length<=31
 nd:l.Nodup
 sz:∀p∈l,Szp 400 p
 F:∀i,i<l.length->∃a b c d e f,F i=[a,b,c,d,e,f]/\SMx (gp l i) (gp l (pI l.length i)) (gp l (nI l.length i)) a b c d e f
 G:∀i,i<l.length->∃a b c d e f,G i=[a,b,c,d,e,f]/\SMx (gp l i) (gp l (nI l.length i)) (gp l (pI l.length i)) a b c d e f
noncomputable def msU(n:Nat)(F G:Nat->List Int):List (List Int):=(Kr (2*n)).map λx=>if x%2=0 then F (x/2) else G (x/2)
theorem Gen.all{F G:Nat->List Int}(h:Gen l F G):All l (msU l.length F G):=by
 refine Gr h.nd h.n3 F G (λi j=>?_) (λi j=>?_)
 .obtain⟨a,b,c,d,e,f,m,g,u,v,s,t,o,n,k,q,x,y,S⟩:=h.F i j;exact⟨a,b,c,d,e,f,m,S.stn⟩
 .obtain⟨a,b,c,d,e,f,m,g,u,v,s,t,o,n,k,q,x,y,S⟩:=h.G i j;exact⟨a,b,c,d,e,f,m,S.stn⟩
theorem Bp(n)(F G):msU (n+1) F G=msU n F G++[F n]++[G n]:=by
 unfold msU;rw[show 2*(n+1)=2*n+1+1 by lia,Oq,Oq,Kx,Kx];congr 1
 .congr 1;show [if 2*n%2=0 then F (2*n/2) else G (2*n/2)]=_;rw[if_pos (by lia),show 2*n/2=n by lia]
 .show [if (2*n+1)%2=0 then F ((2*n+1)/2) else G ((2*n+1)/2)]=_;rw[if_neg (by lia),show (2*n+1)/2=n by lia]
theorem kQ(n)(F G):(msU n F G).length=2*n:=by unfold msU;simp
def sE:List U->Out->Prop:=λa o=>∃(l:List P2) (F G:Nat->List Int),a=[lp l]/\Gen l F G/\o=.new ((ST6.srtL (msU l.length F G)).map sxU)
theorem xT:OkD P w base T.aa9 7 (sE):=by
 refine okD e7 (by walk_at"ln") ?_;rintro _ _ _ n ⟨l,F,G,rfl,W,rfl⟩;have M:=W.n3;have H:=W.n64;have p:0<l.length:=by lia
 have h:=BV p;have k:=AD p;refine ac (aL (av h_ (aw (bF rfl) rfl T.aac J5 (ae (aa 0 rfl) aj af)) ah) (by rw[JK];exact decide_eq_false (by lia)) (ay ?_));refine ac (oy (i:=1) e7.nd rfl (Or.inl rfl) (fA bG) ?_);refine ac (CM (λi:Nat=>[some (.val (lp l)),some (.own ((msU i F G).map sxU)),none,none,none]) (λi j=>i=j) rfl PassesOwn.never (GJ rfl T.abd (EvN.ev (kq (EvN.ev (bY (aa 0 rfl) (ck (bU ah)) cj (.inl rfl))) (EvN.ev (bY (aa 0 rfl) cj (ck (bU ah)) (.inl rfl))) (by rw[<-Ko,h];simp;exact Kd (aB (by lia))))) (.inl rfl) (aa 0 rfl) (.inl rfl) (EvN.ev (kq (EvN.ev (bY (aa 0 rfl) (ck ah) cj (.inl rfl))) (EvN.ev (bY (aa 0 rfl) cj (ck ah) (.inl rfl))) (by rw[<-Ko,k];simp;exact Kd (aB (by lia))))) (.inl rfl) (by rw[h];simp) (by rw[h,k];simp) bi af bi) ?h0 ?hs ?hd)
 case h0=>exact⟨0,rfl,rfl,rfl,trivial⟩
 case hs=>
  rintro N i x _ m rfl;rw[h,k]at m
  have g:i<l.length:=by
   have:=aT m
   rwa [hV (by simp) (by simp),JK,JK,Qd]at this
  have at1:∀f,(((Kr l.length).map f).map pu)[i]?=some (pu (f i)):=λf=>by rw[Ka,JQ,LV g];rfl
  have o:(l.map pu)[i]?=some (pu (gp l i)):=by rw[JQ,c9 g];rfl
  rw[mQ (at1 _) o (at1 _)]at m;cases m;have r:=W.sz _ (bW g);have t:=W.sz _ (bW (v8 g));have s:=W.sz _ (bW (Fa g));obtain⟨a,b,c,d,e,f,I,C⟩:=W.F i g;obtain⟨D,B,K,L,E,v,J,SG⟩:=W.G i g;refine⟨_,(Iz [2,3,4] rfl (be (aR e7.nd rfl (Or.inl rfl)) (be (aR e7.nd rfl (Or.inl rfl)) (be (aR e7.nd rfl (Or.inl rfl)) fH))) rfl),?_⟩;refine ac (gN 1 rfl (aQ (rQ T) n (ae (aa 3 rfl) (ae (aa 2 rfl) (ae (aa 4 rfl) aj af) af) af) ⟨_,_,_,a,b,c,d,e,f,rfl,r,t,s,C,rfl⟩) (by rw[JK,kQ];exact aB (by lia)) ?_)
  refine ac (gN 1 rfl (aQ (rQ T) n (ae (aa 3 rfl) (ae (aa 4 rfl) (ae (aa 2 rfl) aj af) af) af) ⟨_,_,_,D,B,K,L,E,v,rfl,r,s,t,SG,rfl⟩) (by rw[Ko,JK,kQ];exact aB (by simp;lia)) (ay ?_));refine⟨i+1,rfl,rfl,?_,trivial⟩;refine congrArg (λz=>some (Sl.own z)) ?_;rw[Bp,Kx,Kx,I,J];rfl
 case hd=>
  rintro q O y u;refine eC ?_ u;have:q=l.length:=by rw[<-y,h,k,hV (by simp) (by simp)];simp
  subst this;have A:=W.all;refine Fy 1 rfl ?_;refine ac (dZ (Ah rfl T.aak (iG n) (aa 1 rfl) ⟨by rw[kQ];lia,A.nodup,A.six⟩ af) ?_);exact rfl
end
section
variable {P:J2}{w:Kt}{K:JI}{mg:Str→Option J0}{base:Mf} (T:Txt w K mg)
noncomputable def stL(l:List P2)(F G:Nat->List Int):List (List Int):=ST6.srtL (msU l.length F G)
noncomputable def shK(l:List P2)(F G:Nat->List Int)(j:Nat):List P2:=ak (l.map (apL ((stL l F G).getD j [])))
noncomputable def lA(l:List P2)(F G:Nat->List Int):Nat:=abK (shK l F G) ((stL l F G).length-1)
noncomputable def wK(l:List P2)(F G:Nat->List Int):List Int:=(stL l F G).getD (lA l F G) []
theorem uw{α:Type}[DecidableEq α]:∀{l m:List α},l.Nodup->(∀x∈l,x∈m)->l.length<=m.length
 |[],m,_,_=>Kv _
 |a::l,m,h,s=>by
  obtain⟨f,g⟩:=LL.mp h;have c:=s a (by simp);have e:=uw g λx d=>(Pa (b:=a) (λz=>f (by rw[<-z];exact d))).mpr (s x (JL _ d));rw[Oh c]at e;have:=Md c;rw[JX];lia
theorem Cc(f:ms.Nodup):(ST6.srtL ms).length=ms.length:=by
 have d:(ST6.srtL ms).Nodup:=(ST6.srtL_ascL ms).imp λ{a b} h e=>by subst e;rw[ST6.ascL_irr]at h;cases h
 exact Q8 (uw d λx c=>(ST6.srtL_mem x ms).mp c) (uw f λx c=>(ST6.srtL_mem x ms).mpr c)
theorem Gen.len{F G:Nat->List Int}(W:Gen l F G):(stL l F G).length=2*l.length:=by
 unfold stL;rw[Cc W.all.nodup,kQ]
theorem Gen.mz{F G:Nat->List Int}(W:Gen l F G)(j:∀p∈l,Szp m p)(h:x∈msU l.length F G):∃a b c d e f,x=[a,b,c,d,e,f]/\Mz m a b c d e f:=by
 obtain⟨x,B,rfl⟩:=JS.mp h;have i:x/2<l.length:=by have:=J_.mp B;lia
 have o:=j _ (bW i);have w:=j _ (bW (v8 i));have r:=j _ (bW (Fa i));split
 .obtain⟨a,b,c,d,e,f,n,g,u,v,s,t,A,z,k,q,x,y,S⟩:=W.F _ i;exact⟨a,b,c,d,e,f,n,S.mz o w r⟩
 .obtain⟨a,b,c,d,e,f,n,g,u,v,s,t,A,z,k,q,x,y,S⟩:=W.G _ i;exact⟨a,b,c,d,e,f,n,S.mz o r w⟩
theorem Gen.at_{F G:Nat->List Int}(W:Gen l F G)(h:j<(stL l F G).length):(stL l F G).getD j []∈msU l.length F G:=by
 rw[JW,JG h];exact (ST6.srtL_mem _ _).mp (OX h)
theorem Gen.fm{F G:Nat->List Int}(W:Gen l F G)(h:j<(stL l F G).length):ji [lp l,sxU ((stL l F G).getD j [])] (.new ((shK l F G j).map pu)):=by
 obtain⟨a,b,c,d,e,f,m,M⟩:=W.mz W.sz (W.at_ h);unfold shK;rw[m];have i:=W.n3;have k:=W.n64;refine⟨l,a,b,c,d,e,f,rfl,M.mv (by decide),λp g=>⟨(W.sz p g).1.mono (by decide),(W.sz p g).2.mono (by decide)⟩,λp g=>?_,λz=>by rw[z]at i;simp at i,by lia,rfl⟩;have:=M.ap (W.sz p g);exact⟨this.1.mono (by decide),this.2.mono (by decide)⟩
theorem Gen.best{F G:Nat->List Int}(W:Gen l F G):lA l F G<(stL l F G).length:=by
 have:=Ay (shK l F G) ((stL l F G).length-1);have a:=W.n3;have e:=W.len;unfold lA;lia
theorem Szp.mono(h:Szp m p)(a:m<=n):Szp n p:=⟨h.1.mono a,h.2.mono a⟩
theorem vP{i:Nat}(e:k=(i:Int))(h:i<l.length):atI (l.map pu) k=some (pu (gp l i)):=cf e (by rw[JQ,c9 h];rfl)
theorem Gx(l:3<=(ak pts).length)(r:(ak pts).length<=31)(t:∀p∈ak pts,Szp 400 p):∃F G,Gen (ak pts) F G:=by
 have E:=jI l;have v:=bo pts
 have g:∀i,i<(ak pts).length->∃m n,(∃a b c d e f,m=[a,b,c,d,e,f]/\SMx (gp (ak pts) i) (gp (ak pts) (pI (ak pts).length i)) (gp (ak pts) (nI (ak pts).length i)) a b c d e f)/\
   ∃a b c d e f,n=[a,b,c,d,e,f]/\SMx (gp (ak pts) i) (gp (ak pts) (nI (ak pts).length i)) (gp (ak pts) (pI (ak pts).length i)) a b c d e f:=λi k=>by
  have j:=x8 l E k
  have u:gp (ak pts) i≠gp (ak pts) (pI (ak pts).length i):=λz=>by
   rw[<-z]at j;unfold aA at j;rw[UB,UB]at j;simp at j
  have A:gp (ak pts) i≠gp (ak pts) (nI (ak pts).length i):=λz=>by
   rw[<-z]at j;unfold aA at j;generalize gp (ak pts) i=p at *;generalize gp (ak pts) (pI (ak pts).length i)=q at *;have:(p.1-q.1) *(p.2-q.2)-(p.2-q.2) *(p.1-q.1)=0:=by grind
   lia
  obtain⟨a,b,c,d,e,f,S⟩:=EK (B:=gp (ak pts) (nI (ak pts).length i)) u (λz=>by
   unfold aA at j z;grind)
  obtain⟨w,s,y,D,x,o,C⟩:=EK (B:=gp (ak pts) (pI (ak pts).length i)) A (λz=>by
   unfold aA at j z;grind)
  exact⟨_,_,⟨a,b,c,d,e,f,rfl,S⟩,w,s,y,D,x,o,rfl,C⟩
 refine⟨λi=>if h:i<(ak pts).length then (g i h).choose else [],λi=>if h:i<(ak pts).length then (g i h).choose_spec.choose else [],l,r,v,t,λi k=>?_,λi k=>?_⟩
 .rw[dif_pos k];exact (g i k).choose_spec.choose_spec.1
 .rw[dif_pos k];exact (g i k).choose_spec.choose_spec.2
theorem Gen.p{F G:Nat->List Int}(W:Gen l F G):uU l (msU l.length F G):=by
 refine⟨λm r=>?_,λC A B w=>?_⟩
 .unfold msU at r;obtain⟨x,z,rfl⟩:=JS.mp r;have h:x/2<l.length:=by have:=J_.mp z;lia
  split
  .obtain⟨a,b,c,d,e,f,j,g,u,v,s,t,o,n,k,q,x,y,S⟩:=W.F _ h;exact⟨_,_,_,a,b,c,d,e,f,.inl (EV h),j,S.stn⟩
  .obtain⟨a,b,c,d,e,f,j,g,u,v,s,t,o,n,k,q,x,y,S⟩:=W.G _ h;exact⟨_,_,_,a,b,c,d,e,f,.inr (EV h),j,S.stn⟩
 .rcases w with q |q
  .obtain⟨i,h,rfl,rfl,rfl⟩:=EI W.nd q;obtain⟨a,b,c,d,e,f,j,g,u,v,s,t,o,n,k,q,x,y,S⟩:=W.F _ h;refine⟨a,b,c,d,e,f,?_,S.stn⟩;refine JS.mpr ⟨2*i,J_.mpr (by lia),?_⟩;rw[if_pos (by lia),show 2*i/2=i by lia,j]
  .obtain⟨i,h,rfl,rfl,rfl⟩:=EI W.nd q;obtain⟨a,b,c,d,e,f,j,g,u,v,s,t,o,n,k,q,x,y,S⟩:=W.G _ h;refine⟨a,b,c,d,e,f,?_,S.stn⟩;refine JS.mpr ⟨2*i+1,J_.mpr (by lia),?_⟩;rw[if_neg (by lia),show (2*i+1)/2=i by lia,j]
theorem Gen.f{F G:Nat->List Int}(W:Gen l F G):Fm l (msU l.length F G) (shK l F G (lA l F G)):=by
 refine⟨⟨_,W.at_ W.best,rfl⟩,λm b=>?_⟩;have a:m∈stL l F G:=(ST6.srtL_mem m _).mpr b;obtain⟨j,c,rfl⟩:=N2.mp a;have:=qh (shK l F G) ((stL l F G).length-1) j (by lia)
 have e:shK l F G j=ak (l.map (apL (stL l F G)[j])):=by
  unfold shK;rw[JW,JG c];rfl
 rw[<-e];exact this
noncomputable abbrev mvM(m:M6):U:=mv m.a m.b m.c m.d m.e m.f
abbrev MvM(m:M6):Prop:=Mv m.a m.b m.c m.d m.e m.f
inductive TF:List P2->M6->List P2->Prop
 |one (p:P2):Szp 400 p->TF [p] ⟨1,0,0,1,-p.1,-p.2⟩ [(0,0)]
 |two (p q:P2) (g u v s t s1 t1:Int):Szp 400 p->Szp 400 q->LvG p q g u v s t s1 t1->TF [p,q] ⟨s,t,-v,u,-s*p.1-t*p.2,v*p.1-u*p.2⟩ [(0,0),(g,0)]
 |more (l:List P2) (F G:Nat->List Int) (m:M6):Gen l F G->wK l F G=[m.a,m.b,m.c,m.d,m.e,m.f]->TF l m (shK l F G (lA l F G))
structure Sz6(n:Nat)(m:M6):Prop where
 a:Sz n m.a
 b:Sz n m.b
 c:Sz n m.c
 d:Sz n m.d
 e:Sz n m.e
 f:Sz n m.f
theorem Sz6.mv(h:Sz6 n m)(u:m.U)(g:n<=30000):MvM m:=⟨u,h.a.mono g,h.b.mono g,h.c.mono g,h.d.mono g,h.e.mono g,h.f.mono g⟩
theorem Sz6.bk(h:Sz6 n m)(u:m.U):Sz6 (2*n+4) m.bk:=by
 have z:Sz 1 (m.a*m.d-m.b*m.c):=by rcases u with q |q <;>rw[q] <;>decide
 exact⟨(L2.Sz.mul z h.d).mono (by lia),(L2.Sz.mul (L2.Sz.neg z) h.b).mono (by lia),(L2.Sz.mul (L2.Sz.neg z) h.c).mono (by lia),(L2.Sz.mul z h.a).mono (by lia),
  (L2.Sz.neg (L2.Sz.add' (L2.Sz.mul (L2.Sz.mul z h.d) h.e) (L2.Sz.mul (L2.Sz.mul (L2.Sz.neg z) h.b) h.f))).mono (by lia),(L2.Sz.neg (L2.Sz.add' (L2.Sz.mul (L2.Sz.mul (L2.Sz.neg z) h.c) h.e) (L2.Sz.mul (L2.Sz.mul z h.a) h.f))).mono (by lia)⟩
section
variable {l x:List P2}{m:M6}
theorem TF.u(h:TF l m x):m.U:=by
 cases h with
 |one p k=>exact .inl (show 1*1-0*0=1 by decide)
 |two p q g u v s t C B k z L=>exact .inl (by have:=L.G1.eq;dsimp only;grind)
 |more _ F G _ W n=>
  obtain⟨a,b,c,d,e,f,w,M⟩:=W.mz W.sz (W.at_ W.best);have:[m.a,m.b,m.c,m.d,m.e,m.f]=[a,b,c,d,e,f]:=n.symm.trans w;simp only[Om,and_true]at this;obtain⟨j,r,i,o,y,A⟩:=this;unfold M6.U;rw[j,r,i,o];exact M.u
theorem TF.sz(h:TF l m x):Sz6 2100 m:=by
 have j:∀{x},Sz 8 x->Sz 2100 x:=λh=>h.mono (by decide);cases h with
 |one p i=>exact⟨j (show Sz 8 1 by decide),j (show Sz 8 0 by decide),j (show Sz 8 0 by decide),j (show Sz 8 1 by decide),(L2.Sz.neg i.1).mono (by decide),(L2.Sz.neg i.2).mono (by decide)⟩
 |two p q g u v s t J I i r L=>
  have k:Sz 401 u:=by rw[L.hu];exact ((L2.Sz.sub' r.1 i.1).mono (by decide)).ediv
  have n:Sz 401 v:=by rw[L.hv];exact ((L2.Sz.sub' r.2 i.2).mono (by decide)).ediv
  obtain⟨_,o,w⟩:=i0 L.G1 k n;refine⟨o.mono (by decide),w.mono (by decide),(L2.Sz.neg n).mono (by decide),k.mono (by decide),?_,?_⟩
  .exact (L2.Sz.sub' (L2.Sz.mul (L2.Sz.neg o) i.1) (L2.Sz.mul w i.2)).mono (by decide)
  .exact (L2.Sz.sub' (L2.Sz.mul n i.1) (L2.Sz.mul k i.2)).mono (by decide)
 |more _ F G _ W C=>
  obtain⟨a,b,c,d,e,f,H,M⟩:=W.mz W.sz (W.at_ W.best);have:[m.a,m.b,m.c,m.d,m.e,m.f]=[a,b,c,d,e,f]:=C.symm.trans H;simp only[Om,and_true]at this;obtain⟨z,E,y,D,A,B⟩:=this;exact⟨by rw[z];exact M.a.mono (by decide),by rw[E];exact M.b.mono (by decide),by rw[y];exact M.c.mono (by decide),by rw[D];exact M.d.mono (by decide),by rw[A];exact M.e.mono (by decide),by rw[B];exact M.f.mono (by decide)⟩
theorem TF.mv(h:TF l m x):MvM m:=h.sz.mv h.u (by decide)
theorem vS(L:LvG p q g u v s t s1 t1):[p,q].map (ap s t (-v) u (-s*p.1-t*p.2) (v*p.1-u*p.2))=[(0,0),(g,0)]/\0<g:=by
 have gp:0<g:=by have:=L.G.g0;have:=L.gn;lia
 have c:=L.G1.eq;have d:q.1-p.1=g*u:=by rw[L.hu];exact (MB L.G.da).symm
 have e:q.2-p.2=g*v:=by rw[L.hv];exact (MB L.G.db).symm
 have a:q.1=p.1+g*u:=by lia
 have b:q.2=p.2+g*v:=by lia
 refine⟨?_,gp⟩;show [(s*p.1+t*p.2+(-s*p.1-t*p.2),-v*p.1+u*p.2+(v*p.1-u*p.2)),(s*q.1+t*q.2+(-s*p.1-t*p.2),-v*q.1+u*q.2+(v*p.1-u*p.2))]=[(0,0),(g,0)];rw[show s*p.1+t*p.2+(-s*p.1-t*p.2)=0 by grind,show -v*p.1+u*p.2+(v*p.1-u*p.2)=0 by grind,show s*q.1+t*q.2+(-s*p.1-t*p.2)=g by rw[a,b];grind,show -v*q.1+u*q.2+(v*p.1-u*p.2)=0 by rw[a,b];grind]
theorem DA(p):[p].map (ap 1 0 0 1 (-p.1) (-p.2))=[(0,0)]:=by
 show [(1*p.1+0*p.2+-p.1,0*p.1+1*p.2+-p.2)]=[(0,0)];rw[show (1*p.1+0*p.2+-p.1)=0 by lia,show (0*p.1+1*p.2+-p.2)=0 by lia]
theorem I_(h:0<g):ST.ltP (0,0) (g,0)=true:=by unfold ST.ltP;exact decide_eq_true (.inl h)
theorem TF.ex(h:TF l m x):x=ak (l.map m.go):=by
 cases h with
 |one p b=>
  rw[DA];rfl
 |two p q g u v s t f d b c L=>
  obtain⟨e,gp⟩:=vS L;rw[e,jP (I_ gp)]
 |more _ F G _ W a=>show ak _=_;unfold wK at a;rw[a];rfl
theorem TF.pts(h:TF l m x):(∀p∈l,Szp 400 p)/\l≠[]/\l.length<=31:=by
 cases h with
 |one p a=>exact⟨λq b=>by rw[Kq.mp b];exact a,by simp,by simp⟩
 |two p q g u v s t f d a b L=>
  refine⟨λz c=>?_,by simp,by simp⟩;simp only[JN,Kz,or_false]at c;rcases c with e |e <;>rw[e] <;>assumption
 |more _ F G _ W i=>
  have:=W.n3;exact⟨W.sz,λz=>by rw[z]at this;simp at this,W.n64⟩
theorem TF.fm(h:TF l m x):ji [lp l,mvM m] (.new (x.map pu)):=by
 obtain⟨z,i,j⟩:=h.pts;have s:=h.sz;refine⟨l,m.a,m.b,m.c,m.d,m.e,m.f,rfl,h.mv,λp g=>⟨(z p g).1.mono (by decide),(z p g).2.mono (by decide)⟩,λp g=>?_,i,by lia,by rw[h.ex]⟩;exact⟨(L2.Sz.add' (L2.Sz.add' (L2.Sz.mul s.a (z p g).1) (L2.Sz.mul s.b (z p g).2)) (s.e.mono (n:=2501) (by decide))).mono (by decide),(L2.Sz.add' (L2.Sz.add' (L2.Sz.mul s.c (z p g).1) (L2.Sz.mul s.d (z p g).2)) (s.f.mono (n:=2501) (by decide))).mono (by decide)⟩
theorem TF.fp(b:ak l=l)(h:TF l m x):FP l x m:=by
 refine⟨b,h.pts.2.1,h.u,h.ex,?_⟩;cases h with
 |one p a=>exact .inl ⟨rfl,rfl⟩
 |two p q g u v s t e d a c L=>exact .inr (.inl ⟨rfl,g,(vS L).2,rfl⟩)
 |more _ F G _ W i=>exact .inr (.inr ⟨W.n3,_,W.p,W.f⟩)
theorem TF.exists{h:List P2}(w:h≠[])(k:(ak h).length<=31)(i:∀p∈ak h,Szp 400 p):∃m x,TF (ak h) m x:=by
 have y:=kR w;have j:=cR h;generalize hc:ak h=l at *
 match l,y,j,i,k,hc with
 |[p],_,_,i,_,_=>exact⟨_,_,TF.one p (i p (by simp))⟩
 |[p,q],_,j,i,_,_=>
  have n:=g9 j;obtain⟨g,u,v,s,t,B,A,L⟩:=BS (a:=p) (b:=q) (λz=>by rw[z]at n;simp at n);exact⟨_,_,TF.two p q g u v s t B A (i p (by simp)) (i q (by simp)) L⟩
 |p::q::r::t,_,j,i,k,hc=>
  have o:3<=(ak h).length:=by rw[hc];simp
  obtain⟨F,G,W⟩:=Gx o (by rw[hc];exact k) (by rw[hc];exact i);rw[hc]at W;obtain⟨a,b,c,d,e,f,C,M⟩:=W.mz W.sz (W.at_ W.best);exact⟨⟨a,b,c,d,e,f⟩,_,TF.more _ F G _ W C⟩
end
end
section
variable {P:J2}{w:Kt}{K:JI}{mg:Str→Option J0}{base:Mf} (T:Txt w K mg)
def rJ:List U->Out->Prop:=λa o=>∃(l x:List P2) (m:M6),a=[lp l]/\TF l m x/\o=.val (mvM m)
theorem iO  :bV P w K mg base (CXF P w) 8 T.aao.a T.aao.d ["land"] (spU K (rJ)):=by
 refine FJ T.aao.F uQ (λR o h=>?_) (λA n s H E O R o c h=>?_)
 .obtain⟨l,x,m,rfl,h,rfl⟩:=h;rfl
 obtain⟨l,x,m,rfl,h,rfl⟩:=h;refine Ws.nox ?_;cases h with
 |one p k=>
  refine ac (cA (av fX (aw (bF rfl) rfl T.aac J5 (ae (aa 0 rfl) aj af)) ah) rfl ?_);refine ac (aN (bE (aq ah (aq ah (aq ah (aq ah (aq (bU (aC (aC (aa 0 rfl) ah rfl rfl) ah rfl rfl)) (aq (bU (aC (aC (aa 0 rfl) ah rfl rfl) ah rfl rfl)) bG fG) fG) aJ) aJ) aJ) aJ)) ?_);exact rfl
 |two p q g u v C t U S k r L=>
  have J:=L.G1;rw[L.hu,L.hv]at J;refine ac (aL (av fX (aw (bF rfl) rfl T.aac J5 (ae (aa 0 rfl) aj af)) ah) rfl (ay ?_));refine ac (cA (av fX (aw (bF rfl) rfl T.aac J5 (ae (aa 0 rfl) aj af)) ah) rfl ?_);refine ac (aN (aQ (rh T) c (ae (aC (aa 0 rfl) ah rfl rfl) (ae (aC (aa 0 rfl) ah rfl rfl) aj aU) aU) ⟨p.1,p.2,q.1,q.2,g,U,S,C,t,rfl,⟨k.1.mono (by decide),k.2.mono (by decide),r.1.mono (by decide),r.2.mono (by decide)⟩,L.G,L.gn,J,rfl⟩) ?_)
  rw[L.hu,L.hv]
 |more _ F G _ W V=>
  obtain⟨_,_,_,Q,f⟩:=T.tf.ex;have N:mvM m=sxU (wK l F G):=by rw[V];rfl
  rw[N];have Y:=W.n3;have B:((l.map pu).length:Int)=(l.length:Int):=by rw[JK]
  have X:=W.len;refine ac (aL (av fX (aw (bF rfl) rfl T.aac J5 (ae (aa 0 rfl) aj af)) ah) (by rw[B];exact decide_eq_false (by lia)) (ay ?_));refine ac (aL (av fX (aw (bF rfl) rfl T.aac J5 (ae (aa 0 rfl) aj af)) ah) (by rw[B];exact decide_eq_false (by lia)) (ay ?_));refine ac (aN (Ce (items:=(stL l F G).map sxU) (kf:=shK l F G) (y:="land") (z:="move") (iy:=0) (landU:=lp l) rfl (iG c) c.depth rfl T.abm Q (EvN.ev (eJ (xT T) c (ae (aa 0 rfl) aj af) ⟨l,F,G,rfl,W,rfl⟩)) (by rw[JK];lia) rfl rfl rfl rfl f (show (("to_form":Str)++".<locals>.")++"<lambda>"=jQ by decide+kernel) rfl rfl ⟨rfl,rfl,rfl,by decide,rfl,rfl,by decide⟩ (by decide) (λ_ _ _ _=>rfl) (λC H' q c' Z j x I=>?he)) ?_)
  case he=>
   rw[JQ]at I;obtain⟨m,D,rfl⟩:=Ou.mp I;have M:=aT D;have e:(stL l F G).getD j []=m:=by rw[JW,D];rfl
   rw[<-e];exact BG ((bD T).mono (by decide)) (c.in1.deeper _) rfl T.aah.m T.aah.F.kp T.aah.b c7 (ae (aa 0 rfl) (ae (aa 1 rfl) aj af) af) (W.fm M)
  show Out.val _=Out.val _;unfold wK lA;rw[JK];have i:=W.best;unfold lA at i;rw[JW,JQ,JG i,JW,JG i];rfl
end
section
variable {P:J2}{w:Kt}{K:JI}{mg:Str→Option J0}{base:Mf} (T:Txt w K mg)
open Classical in
def ud:List U->Out->Prop:=λd o=>∃(l b x c:List P2) (m a:M6),d=[lp l,lp b]/\TF l m x/\TF b a c/\o=.val (if x=c then mvM (m.bh a.bk) else .non)
theorem sZ:OkD P w base T.aaw 9 (ud):=by
 refine okD lC (by walk_at"ln") ?_;rintro _ _ _ i ⟨l,o,x,n,m,g,rfl,h,j,rfl⟩;refine ac (ax 2 lC.nd (aQ (iO T) i (ae (aa 0 rfl) aj af) ⟨l,x,m,rfl,h,rfl⟩) ?_);refine ac (ax 3 lC.nd (aQ (iO T) i (ae (aa 1 rfl) aj af) ⟨o,n,g,rfl,j,rfl⟩) ?_);by_cases k:x=n
 .rw[if_pos k];subst k;refine ac (aL (av (fi i (oP _) (oP _)) (EvN.ev (eJ (bD T) i (ae (aa 0 rfl) (ae (aa 2 rfl) aj af) af) h.fm)) (EvN.ev (eJ (bD T) i (ae (aa 1 rfl) (ae (aa 3 rfl) aj af) af) j.fm))) (by rw[show eqW (U.lst (x.map pu)) (U.lst (x.map pu))=decide (x=x) from uo _ _];simp) (ay ?_));refine ac (aN (aQ (hU T) i (ae (aa 2 rfl) (ae (aQ (qF T) i (ae (aa 3 rfl) aj af) ⟨g.a,g.b,g.c,g.d,g.e,g.f,rfl,j.mv,rfl⟩) aj br) af) ⟨m.a,m.b,m.c,m.d,m.e,m.f,g.bk.a,g.bk.b,g.bk.c,g.bk.d,g.bk.e,g.bk.f,rfl,h.mv,(j.sz.bk j.u).mv (M6.bk_U j.u) (by decide),rfl⟩) ?_);exact rfl
 .rw[if_neg k];refine ac (cA (av (fi i (oP _) (oP _)) (EvN.ev (eJ (bD T) i (ae (aa 0 rfl) (ae (aa 2 rfl) aj af) af) h.fm)) (EvN.ev (eJ (bD T) i (ae (aa 1 rfl) (ae (aa 3 rfl) aj af) af) j.fm))) (by rw[show eqW (U.lst (x.map pu)) (U.lst (n.map pu))=decide (x=n) from uo _ _];simp;exact k) ?_);refine ac (aN wc ?_);exact rfl
end
section
variable {P:J2}{w:Kt}{K:JI}{mg:Str→Option J0}{base:Mf} (T:Txt w K mg)
noncomputable def gst(s:P2×P2):Int:=((Oa (s.2.1-s.1.1) (s.2.2-s.1.2):Nat):Int)
noncomputable def h9(l:List P2):Int:=((sdl l).map gst).sum
noncomputable def d_(l:List P2):Int:=if l.length<3 then gst (gp l 0,gp l (l.length-1))+1 else h9 l
theorem wL(h:a*e-b*c=1\/a*e-b*c=-1):Oa (a*x+b*y) (c*x+e*y)=Oa x y:=by
 apply Nat.dvd_antisymm
 .have d:((Oa (a*x+b*y) (c*x+e*y)):Int) ∣ a*x+b*y:=QG ..;have f:((Oa (a*x+b*y) (c*x+e*y)):Int) ∣ c*x+e*y:=Qg ..;generalize Oa (a*x+b*y) (c*x+e*y)=g at *
  have k1:(g:Int) ∣ (a*e-b*c) *x:=by
   have:(a*e-b*c) *x=e*(a*x+b*y)-b*(c*x+e*y):=by grind
   rw[this];exact Qw (KC d (KF ..)) (KC f (KF ..))
  have j:(g:Int) ∣ (a*e-b*c) *y:=by
   have:(a*e-b*c) *y=a*(c*x+e*y)-c*(a*x+b*y):=by grind
   rw[this];exact Qw (KC f (KF ..)) (KC d (KF ..))
  have i:∀z,(g:Int) ∣ (a*e-b*c) *z->(g:Int) ∣ z:=λz k=>by
   rcases h with w |w <;>rw[w]at k
   .rwa [Lu]at k
   .rw[Int.neg_one_mul]at k;exact RF.mp k
  exact Uj.mp (Rc (i x k1) (i y j))
 .have d:((Oa x y):Int) ∣ x:=QG ..;have f:((Oa x y):Int) ∣ y:=Qg ..;exact Uj.mp (Rc (NR (KC d (KF ..)) (KC f (KF ..))) (NR (KC d (KF ..)) (KC f (KF ..))))
theorem lx(A B):gst (B,A)=gst (A,B):=by
 unfold gst;rw[show A.1-B.1=-(B.1-A.1) by lia,show A.2-B.2=-(B.2-A.2) by lia,Int.gcd_neg,Int.neg_gcd]
theorem CO(L:Lin f d)(s):gst (sdf f d s)=gst s:=by
 obtain⟨A,B⟩:=s
 have g:gst (f A,f B)=gst (A,B):=by
  obtain⟨a,b,c,e,h,k⟩:=L.ex;unfold gst;rw[k,k];rw[show a*B.1+b*B.2-(a*A.1+b*A.2)=a*(B.1-A.1)+b*(B.2-A.2) by grind,show c*B.1+e*B.2-(c*A.1+e*A.2)=c*(B.1-A.1)+e*(B.2-A.2) by grind];rw[wL (by rw[h];exact L.one)]
 unfold sdf;split
 .exact g
 .exact (lx _ _).trans g
theorem C4(L:Lin f d)(s):crs (sdf f d s)=crs s:=by
 unfold sdf;rcases L.one with z |z
 .rw[if_pos z,vU L];rw[z];exact Lu _
 .rw[if_neg (by lia),vU L,z];unfold crs;grind
theorem rC{l m:List Int}(h:Th l m):l.sum=m.sum:=by
 induction h with
 |nil=>rfl
 |cons _ _ a=>rw[NX,NX,a]
 |swap=>simp only[NX];lia
 |trans _ _ b c=>exact b.trans c
theorem Ec(L:Lin f d)(a:3<=(ak l).length):h9 (ak (l.map f))=h9 (ak l):=by
 unfold h9;rw[rC ((vF L a).map gst),Ka];exact congrArg UW (Np λs _=>CO L s)
theorem Ab(L:Lin f d)(a:3<=(ak l).length):area (ak (l.map f))=area (ak l):=by
 unfold area;rw[rC ((vF L a).map crs),Ka];exact congrArg UW (Np λs _=>C4 L s)
noncomputable def sfo(e f:Int)(p:P2):P2:=(p.1+e,p.2+f)
theorem vZ(l):sdl l=l.zip (l.drop 1++l.take 1):=by
 rw[<-wt l]
 conv=>rhs;arg 1;rw[←qy l]
 generalize sdl l=m
 induction m with
 |nil=>rfl
 |cons a m b=>rw[J6,J6,NG,<-b]
theorem vG(f)(l):sdl (l.map f)=(sdl l).map λs=>(f s.1,f s.2):=by
 rw[vZ,vZ,<-RT,<-Qp,<-Kx];generalize l.drop 1++l.take 1=m
 induction l generalizing m with
 |nil=>rfl
 |cons a l c=>
  cases m with
  |nil=>simp
  |cons b m=>simp only[J6,NG];rw[c]
theorem qz{α:Type}(f g)(k:Int):∀l:List α,(l.map λs=>k*(f s-g s)).sum=k*((l.map f).sum-(l.map g).sum)
 |[]=>by simp
 |a::l=>by
  simp only[J6,NX,qz f g k l];grind
theorem om(w:P2->Int)(l):((sdl l).map λs=>w s.2).sum=((sdl l).map λs=>w s.1).sum:=by
 have e1:((sdl l).map λs=>w s.2)=(l.drop 1++l.take 1).map w:=by rw[<-wt,Ka];rfl
 have e2:((sdl l).map fun s=>w s.1)=(l.take 1++l.drop 1).map w:=by rw[ON];conv=>rhs;rw[←qy l]
                                                                   rw[Ka];rfl
 rw[e1,e2,Kx,Kx,Tu,Tu];lia
theorem Ao(e f)(l):area (l.map (sfo e f))=area l:=by
 unfold area;rw[vG,Ka]
 have h:∀s,(crs ∘ λs:P2×P2=>(sfo e f s.1,sfo e f s.2)) s=(crs s+e*(s.2.2-s.1.2))-f*(s.2.1-s.1.1):=λs=>by
  simp only[Function.comp,crs,sfo];grind
 rw[Np (λs _=>h s),tm,s_,qz (λs:P2×P2=>s.2.2) (λs:P2×P2=>s.1.2),qz (λs:P2×P2=>s.2.1) (λs:P2×P2=>s.1.1),om (λp=>p.2),om (λp=>p.1)];simp
theorem oX(e f)(a b):gst (sfo e f a,sfo e f b)=gst (a,b):=by
 unfold gst sfo;dsimp only;congr 2 <;>lia
theorem DG(e f)(l):h9 (l.map (sfo e f))=h9 l:=by
 unfold h9;rw[vG,Ka];exact congrArg UW (Np λs _=>oX e f s.1 s.2)
theorem Bv(e f)(l):ak (l.map (sfo e f))=(ak l).map (sfo e f):=rS (λp q h=>by unfold plt sfo at *;dsimp only;lia) (λp q r=>by
 have:aA (sfo e f p) (sfo e f q) (sfo e f r)=aA p q r:=by unfold aA sfo;grind
 rw[this]) l
noncomputable def lnM(m:M6)(p:P2):P2:=(m.a*p.1+m.b*p.2,m.c*p.1+m.d*p.2)
theorem G0(u:m.U):Lin (lnM m) (m.a*m.d-m.b*m.c):=⟨u,m.a,m.b,m.c,m.d,rfl,λ_=>rfl⟩
theorem BP(m:M6)(l:List P2):l.map m.go=(l.map (lnM m)).map (sfo m.e m.f):=by rw[Ka];rfl
theorem F2(A):ak [A]=[A]:=by simp[ak,ST.srt,ST.ins]
theorem yz(b:ak l=l)(a:l≠[]):(∃A,l=[A])\/(∃A B,A≠B/\l=[A,B])\/3<=l.length:=by
 match l,a with
 |[A],_=>exact .inl ⟨A,rfl⟩
 |[A,B],_=>
  have:=g9 b;exact .inr (.inl ⟨A,B,λz=>by rw[z]at this;simp at this,rfl⟩)
 |_::_::_::_,_=>exact .inr (.inr (by simp))
theorem zX(A B):area [A,B]=0:=by
 have:area [A,B]=crs (A,B)+crs (B,A):=by simp[area,sdl,Oq,nxt,gp]
 rw[this];unfold crs;grind
theorem F9(A):area [A]=0:=by
 have:area [A]=crs (A,A):=by simp[area,sdl,nxt,gp]
 rw[this];unfold crs;grind
theorem Gh(A):d_ [A]=1:=by
 unfold d_;rw[if_pos (by simp)];unfold gst;simp
theorem Af(A B):d_ [A,B]=gst (A,B)+1:=rfl
theorem vO(u:m.U)(A B):gst (lnM m A,lnM m B)=gst (A,B):=by
 have h:=wL (x:=B.1-A.1) (y:=B.2-A.2) u;show (((Oa (m.a*B.1+m.b*B.2-(m.a*A.1+m.b*A.2)) (m.c*B.1+m.d*B.2-(m.c*A.1+m.d*A.2)))):Int)=_;rw[show m.a*B.1+m.b*B.2-(m.a*A.1+m.b*A.2)=m.a*(B.1-A.1)+m.b*(B.2-A.2) by grind,show m.c*B.1+m.d*B.2-(m.c*A.1+m.d*A.2)=m.c*(B.1-A.1)+m.d*(B.2-A.2) by grind,h];rfl
theorem DQ{m:M6}(u:m.U)(b:ak l=l)(g:l≠[]):area (ak (l.map m.go))=area l/\d_ (ak (l.map m.go))=d_ l:=by
 have L:=G0 u;rw[BP,Bv,Ao];rcases yz b g with ⟨A,rfl⟩ |⟨A,B,f,rfl⟩ |e
 .simp only[J6,PL,F2,F9,Gh,and_self]
 .simp only[J6,PL];rw[oG (λz=>f (L.inj z))];split
  .simp only[J6,PL,zX,Af,oX,vO u,and_self]
  .simp only[J6,PL,zX,Af,oX,lx (lnM m A),vO u,and_self]
 .have a:3<=(ak l).length:=by rw[b];exact e
  have l1:=g_ L a;have d:=Ab L a;have c:=Ec L a;rw[b]at d c;refine⟨d,?_⟩;unfold d_;rw[JK,if_neg (by lia),if_neg (by lia),DG,c]
theorem iS:∀l:List Int,(∀x∈l,x.natAbs<=c)->l.sum.natAbs<=c*l.length
 |[],_=>by simp
 |x::l,h=>by
  have h1:=h x JP;have a:=iS l λy hy=>h y (JL _ hy);rw[NX,JX,Nat.mul_add,Nat.mul_one];lia
def Wn(p:P2):Prop:=(0<=p.1/\p.1<=4)/\0<=p.2/\p.2<=4
theorem qq(a:Wn A)(b:Wn B):(gst (A,B)).natAbs<=8:=by
 unfold Wn at a b
 have:Oa (B.1-A.1) (B.2-A.2)<=(B.1-A.1).natAbs+(B.2-A.2).natAbs:=by
  by_cases h:(B.1-A.1).natAbs=0
  .rw[show B.1-A.1=0 by lia];simp
  .exact KH (Nat.gcd_le_left _ (by lia)) (by lia)
 show (((Oa (B.1-A.1) (B.2-A.2)):Int)).natAbs<=8;lia
theorem w16{x y:Int}(b:0<=x/\x<=4)(a:0<=y/\y<=4):0<=x*y/\x*y<=16:=
 ⟨Li b.1 a.1,UC (T5 b.2 a.2 a.1 (by decide)) (by decide)⟩
theorem FB(h:∀p∈l,Wn p)(m:l.length<=31)(j:l≠[]):(area l).natAbs<=1000/\(d_ l).natAbs<=1000:=by
 have f:(sdl l).length=l.length:=by simp[sdl]
 refine⟨?_,?_⟩
 .have:=iS ((sdl l).map crs) λx d=>by
   obtain⟨s,c,rfl⟩:=JS.mp d;obtain⟨b,a⟩:=di c;have e:=h _ b;have g:=h _ a;have o:=w16 e.1 g.2;have n:=w16 e.2 g.1;show (s.1.1*s.2.2-s.1.2*s.2.1).natAbs<=32;lia
  rw[JK,f]at this;unfold area;lia
 .unfold d_;have k:=K_.mpr j;split
  .have:=qq (h _ (bW k)) (h _ (bW (i:=l.length-1) (by lia)));lia
  .have:=iS ((sdl l).map gst) λx d=>by
    obtain⟨s,c,rfl⟩:=JS.mp d;obtain⟨b,a⟩:=di c;exact qq (h _ b) (h _ a)
   rw[JK,f]at this;unfold h9;lia
def inH(l:List P2)(p:P2):Prop:=∀a b:Int,∃c∈l,wth a b p<=wth a b c
theorem G8{N:M6}(u:N.U)(h:∀q∈k,∃p∈l,N.go p=q)(i:inH k p):inH l (N.bk.go p):=λa b=>by
 obtain⟨c,j,w⟩:=i (a*N.bk.a+b*N.bk.c) (a*N.bk.b+b*N.bk.d);obtain⟨e,g,rfl⟩:=h c j;refine⟨e,g,?_⟩;have m:=pV N.bk a b p;have f:=pV N.bk a b (N.go e);rw[M6.bk_go u]at f;lia
noncomputable def W14:List P2:=(Kr 196).map λk=>(((k%14:Nat):Int)-2,((k/14:Nat):Int)-2)
theorem zD:W14.Nodup:=by
 refine ML _ (λa b (h:a≠b) e=>h ?_) QB;have c:=congrArg Nt e;have d:=congrArg NI e;lia
theorem Ez(h:(-2<=p.1/\p.1<=11)/\-2<=p.2/\p.2<=11):p∈W14:=by
 refine JS.mpr ⟨(p.1+2).toNat+14*(p.2+2).toNat,J_.mpr (by lia),L7 ?_ ?_⟩ <;>dsimp only <;>lia
theorem w_(h:∀p∈l,(-2<=p.1/\p.1<=11)/\-2<=p.2/\p.2<=11)(a:inH l p):p∈W14:=by
 obtain⟨o,j,i⟩:=a 1 0;obtain⟨k,g,e⟩:=a (-1) 0;obtain⟨r,c,b⟩:=a 0 1;obtain⟨n,d,f⟩:=a 0 (-1);have s:=h _ j;have m:=h _ g;have q:=h _ c;have t:=h _ d;unfold wth at i e b f;exact Ez (by lia)
open Classical in
theorem DI(i:∀p∈q::pts,(-2<=p.1/\p.1<=11)/\-2<=p.2/\p.2<=11)(k:∀p∈pts,p.1<q.1)(A:FP (ak pts) x m)(B:FP (ak (q::pts)) x m'):False:=by
 have u:=M6.bh_U A.u (M6.bk_U B.u)
 have t:=A.conv B
 generalize m.bh m'.bk=N at *;have v:∀p∈ak pts,(-2<=p.1/\p.1<=11)/\-2<=p.2/\p.2<=11:=λp d=>i p (JL _ (aZ _ p d));have n:∀p∈ak (q::pts),(-2<=p.1/\p.1<=11)/\-2<=p.2/\p.2<=11:=λp d=>i p (aZ _ p d)
 have k1:=fU (l:=(W14.filter λp=>decide (inH (ak (q::pts)) p)).map N.bk.go) (m:=W14.filter λp=>decide (inH (ak pts) p)) (ML _ (λa b (h:a≠b) e=>h (M6.inj (M6.bk_U u) e)) (zD.filter _)) λz f=>by
  obtain⟨p,d,rfl⟩:=JS.mp f;have:=G8 u (λr j=>(t r).mp j) (of_decide_eq_true (KN.mp d).2);exact KN.mpr ⟨w_ v this,decide_eq_true this⟩
 have y:=fU (l:=q::W14.filter λp=>decide (inH (ak pts) p)) (LL.mpr ⟨λz=>by
  obtain⟨c,g,w⟩:=of_decide_eq_true (KN.mp z).2 1 0;have:=k c (aZ _ c g);unfold wth at w;lia,zD.filter _⟩) λz f=>by
  have:inH (ak (q::pts)) z:=by
   rcases JN.mp f with e |e
   .exact λa b=>jA a b (by rw[e];exact JP)
   .intro a b;obtain⟨c,g,w⟩:=of_decide_eq_true (KN.mp e).2 a b;obtain⟨s,C,o⟩:=jA a b (JL q (aZ _ c g));exact⟨s,C,UC w o⟩
  exact KN.mpr ⟨w_ n this,decide_eq_true this⟩
 rw[JK]at k1;rw[JX]at y;lia
end
section
variable {P:J2}{w:Kt}{K:JI}{mg:Str→Option J0}{base:Mf} (T:Txt w K mg)
noncomputable abbrev pq(s:P2×P2):U:=.tup [pu s.1,pu s.2]
theorem AV(l):Q6 (λa b=>U.tup [a,b]) (l.map pu) (eK (l.map pu) (some 1) none++eK (l.map pu) none (some 1))=(sdl l).map pq:=by
 rw[qM,B8];apply L3;intro i;unfold sdl;by_cases c:i<l.length
 .have f:(l.map pu)[i]?=some (pu (gp l i)):=by rw[JQ,c9 c];rfl
  have g:((l.map pu).drop 1++(l.map pu).take 1)[i]?=some (pu (nxt l i)):=by
   unfold nxt;by_cases d:i+1<l.length
   .rw[JZ (by simp;lia),Ms,Ul,Km d,JQ,c9 d];rfl
   .have e:i+1=l.length:=by lia
    rw[J3 (by simp;lia),e,Ni];rw[show i-((l.map pu).drop 1).length=0 by simp;lia,LY (by lia),JQ,c9 (by lia)];rfl
  rw[Mw.mpr ⟨_,_,f,g,rfl⟩,Ka,JQ,LV c];rfl
 .rw[Kg (by simp;lia),Kg (by simp;lia)]
theorem wS(l):(sdl l).length=l.length:=by simp[sdl]
def ue:List U->Out->Prop:=λa o=>∃l:List P2,a=[lp l]/\l.length<=900/\o=.new ((sdl l).map pq)
theorem sA:OkD P w base T.abj 1 (ue):=by
 refine okD Cu (by walk_at"ln") ?_;rintro _ _ _ b ⟨l,rfl,c,rfl⟩;have a:(eK (l.map pu) (some 1) none++eK (l.map pu) none (some 1)).length=l.length:=by rw[qM,B8];simp;lia
 refine ac (dZ (xu rfl rfl T.abf rfl T.abd (aa 0 rfl) (.inl rfl) (EvN.ev (kq (EvN.ev (bY (aa 0 rfl) (ck ah) cj (.inl rfl))) (EvN.ev (bY (aa 0 rfl) cj (ck ah) (.inl rfl))) (by rw[<-Ko,a];exact Kd (aB (by lia))))) (.inl rfl) (by rw[a,JK]) (by rw[JK];lia) af bi) ?_);rw[AV]
theorem Jc(h:0<l.length):atI (l.map pu) 0=some (pu (gp l 0)):=cf rfl (by rw[JQ,c9 h];rfl)
theorem C9(h:0<l.length):atI (l.map pu) (-1)=some (pu (gp l (l.length-1))):=by
 have e:ixN (l.map pu).length (-1)=some (l.length-1):=by
  unfold ixN;simp;lia
 unfold atI;rw[e];show (l.map pu)[l.length-1]?=_;rw[JQ,c9 (by lia)];rfl
theorem Br{l:List P2}(h:m<=n)(k:∀p∈l,Szp m p):∀p∈l,Szp n p:=λp a=>⟨(k p a).1.mono h,(k p a).2.mono h⟩
def xS:List U->Out->Prop:=λa o=>∃l:List P2,a=[lp l]/\l.length<=900/\(∀p∈l,Szp 2500 p)/\o=.val (.int (area l))
theorem lh:OkD P w base T.aav 2 (xS):=by
 refine okD dW (by walk_at"ln") ?_;rintro _ _ _ d ⟨l,rfl,e,sz,rfl⟩;refine ac (aN (aw (AW rfl ) rfl T.abw boot_sum (ae (EvN.ev (cZ (ys:=(((sdl l).map crs).map U.int)) rfl (blk (ai eI) ["land","A","B"] [1,2] rfl rfl rfl rfl (by decide+kernel)) (df (EvN.ev (eJ (sA T) d (ae (aa 0 rfl) aj af) ⟨l,rfl,e,rfl⟩)) (.inl rfl)) (λ_ _ _ _=>jO rfl (be (aR dW.nd rfl (Or.inl rfl)) (be (aR dW.nd rfl (Or.inl rfl)) fH))) (i7 (js:=[1,2]) (by decide)) ?clen ?csz ?dom ?celt)) aj cN)) ?_)
 case clen=>simp
 case csz=>simp only[wS,JK];exact Kd (aB (by lia))
 case dom=>
  intro x a;obtain⟨s,_,rfl⟩:=JS.mp a;exact⟨_,rfl,rfl⟩
 case celt=>
  intro C m o fp j x y a hy;rw[Ka]at hy;obtain⟨s,n,f,rfl,rfl⟩:=bZ a hy;obtain⟨c,b⟩:=di f;have i:=(sz _ c).1;have k:=(sz _ c).2;have h:=(sz _ b).1;have g:=(sz _ b).2;exact (bp (aV (aC (aa 1 rfl) ah rfl rfl) (aC (aa 2 rfl) ah rfl rfl) (by walk_at"mul")) (aV (aC (aa 1 rfl) ah rfl rfl) (aC (aa 2 rfl) ah rfl rfl) (by walk_at"mul")))
 exact rfl
def Cj:List U->Out->Prop:=λa o=>∃l:List P2,a=[lp l]/\0<l.length/\l.length<=900/\(∀p∈l,Szp 2500 p)/\o=.val (.int (d_ l))
theorem G_:OkD P w base T.abk 4 (Cj):=by
 refine okD ug (by walk_at"ln") ?_;rintro _ _ _ d ⟨l,rfl,b,o,sz,rfl⟩;have k:((l.map pu).length)=l.length:=by rw[JK]
 unfold d_;by_cases f:l.length<3
 .rw[if_pos f];refine ac (cA (av h_ (aw (bF rfl) rfl T.aac J5 (ae (aa 0 rfl) aj af)) ah) (by rw[k];exact decide_eq_true (by lia)) ?_);have n:=sz _ (bW b);have g:=sz _ (bW (i:=l.length-1) (by lia));obtain⟨a,c,G⟩:=qT ((gp l (l.length-1)).1-(gp l 0).1) ((gp l (l.length-1)).2-(gp l 0).2);refine ac (aN (bT (aQ (mW T) d (ae (aC (aa 0 rfl) ah rfl (Jc b)) (ae (aC (aa 0 rfl) (bU ah) rfl (C9 b)) aj aU) aU) ⟨_,_,_,_,_,a,c,rfl,⟨n.1.mono (by decide),n.2.mono (by decide),g.1.mono (by decide),g.2.mono (by decide)⟩,G,rfl⟩) ah) ?_);exact rfl
 .rw[if_neg f];refine ac (aL (av h_ (aw (bF rfl) rfl T.aac J5 (ae (aa 0 rfl) aj af)) ah) (by rw[k];exact decide_eq_false (by lia)) (ay ?_));refine ac (aN (aw (AW rfl ) rfl T.abw boot_sum (ae (EvN.ev (cZ (ys:=(((sdl l).map gst).map U.int)) rfl (blk (ai Ap) ["land","A","B"] [1,2] rfl rfl rfl rfl (by decide+kernel)) (df (EvN.ev (eJ (sA T) d (ae (aa 0 rfl) aj af) ⟨l,rfl,o,rfl⟩)) (.inl rfl)) (λ_ _ _ _=>jO rfl (be (aR ug.nd rfl (Or.inl rfl)) (be (aR ug.nd rfl (Or.inl rfl)) fH))) (i7 (js:=[1,2]) (by decide)) ?clen ?csz ?dom ?celt)) aj cN)) ?_)
  case clen=>simp
  case csz=>simp only[wS,JK];exact Kd (aB (by lia))
  case dom=>
   intro x e;obtain⟨s,_,rfl⟩:=JS.mp e;exact⟨_,rfl,rfl⟩
  case celt=>
   intro C q t fp j x y e hy;rw[Ka]at hy;obtain⟨s,r,p,rfl,rfl⟩:=bZ e hy;obtain⟨h,m⟩:=di p;obtain⟨a,c,G⟩:=qT (s.2.1-s.1.1) (s.2.2-s.1.2);exact (aQ (mW T) d (ae (aa 1 rfl) (ae (aa 2 rfl) aj af) af) ⟨_,_,_,_,_,a,c,rfl,⟨(sz _ h).1.mono (by decide),(sz _ h).2.mono (by decide),(sz _ m).1.mono (by decide),(sz _ m).2.mono (by decide)⟩,G,rfl⟩)
  exact rfl
end
section
variable {P:J2}{w:Kt}{K:JI}{mg:Str→Option J0}{base:Mf} (T:Txt w K mg)
noncomputable def D10:List Nat:=[48,49,50,51,52,53,54,55,56,57]
theorem qg(c):c∈D10↔48<=c/\c<=57:=by unfold D10;simp;omega
noncomputable def bw(l:List Nat):List Nat:=if l.head?=some 45 then l.drop 1 else l
theorem jb(h:l.head?=some 45):l=45::bw l:=by
 unfold bw;rw[if_pos h];cases l with
 |nil=>simp at h
 |cons a r=>simp at h;subst h;rfl
theorem gH(h:¬ l.head?=some 45):bw l=l:=if_neg h
theorem Al(l):(bw l).length<=l.length:=by unfold bw;split <;>simp
noncomputable def ul(l:List Nat):Bool:=l.all λc=>decide (c∈D10)
theorem sr(l):ul l=true↔NumText.AllDigits l:=by
 unfold ul NumText.AllDigits;rw[Nv];exact⟨λh c a=>(qg c).mp (of_decide_eq_true (h c a)),λh c a=>decide_eq_true ((qg c).mpr (h c a))⟩
noncomputable def okL(l:List Nat):Bool:=(decide (1<=(bw l).length) && decide ((bw l).length<=60)) && (ul (bw l) && !(decide ((bw l).head?=some 48) && (decide (1<(bw l).length) ||decide (l≠bw l))))
structure Num(l:List Nat):Prop where
 l1:1<=(bw l).length
 l2:(bw l).length<=60
 ad:NumText.AllDigits (bw l)
 h0:(bw l).head?=some 48->(bw l).length=1/\l=bw l
theorem k9(l):okL l=true↔Num l:=by
 unfold okL;simp only[K3,decide_eq_true_eq,Bool.not_eq_true',sr];constructor
 .rintro ⟨⟨a,b⟩,c,d⟩;refine⟨a,b,c,λh=>?_⟩;rw[decide_eq_true h,Ol,Bool.or_eq_false_iff]at d;have i:=of_decide_eq_false d.1;have e:=of_decide_eq_false d.2;exact⟨by lia,Classical.not_not.mp e⟩
 .intro h;refine⟨⟨h.l1,h.l2⟩,h.ad,?_⟩;by_cases z:(bw l).head?=some 48
  .obtain⟨g,f⟩:=h.h0 z;rw[decide_eq_false (show ¬ 1<(bw l).length by lia),decide_eq_false (show ¬ l≠bw l from λk=>k f)];simp
  .rw[decide_eq_false z];rfl
noncomputable def AR(l:List Nat):Int:=if l.head?=some 45 then -((NumText.digitsVal (bw l):Nat):Int) else ((NumText.digitsVal (bw l):Nat):Int)
theorem wT:∀b a,NumText.AllDigits b->b.foldl (λe c=>e*10+(c-48)) a<(a+1) *10 ^ b.length
 |[],a,_=>by simp
 |c::b,a,h=>by
  have h1:=h c JP;have f:=wT b (a*10+(c-48)) λd g=>h d (JL _ g);rw[MP,JX,ME];refine Kc f ?_;rw[Sv (10 ^ b.length) 10,<-Nat.mul_assoc];exact O_ _ (by lia)
theorem mt(h:m<10 ^ 62):m.log2<1920:=by
 by_cases z:m=0
 .subst z;decide
 .rw[S8 z];exact Ma h (by decide+kernel)
theorem Num.text(h:Num l):Ry (T' l)=some (AR l):=by
 have c:bw l≠[]:=λe=>by have:=h.l1;rw[e]at this;simp at this
 unfold AR;by_cases z:l.head?=some 45
 .rw[if_pos z];have e:=jb z;refine intText_neg (by simpa using e) h.ad c ?_;rw[bg];have:=congrArg S6 e;rw[JX]at this;have:=h.l2;lia
 .rw[if_neg z,gH z];have a:=h.ad;have b:=h.l2;rw[gH z]at a b c;have:=T6 (x:=T' l) (by simpa using a) (by simpa using c) (by rw[bg];lia)
  simpa using this
noncomputable def ds(n:Int):List Nat:=(Str.ofString (OE n)).cps.toList
theorem nE(n):Str.ofString (OE n)=T' (ds n):=AG _
theorem fO(m:Nat):ds (m:Int)=(Re 10 m).map Char.toNat:=UD m
theorem vd{m:Nat}(h:0<m):ds (-(m:Int))=45::ds (m:Int):=by
 unfold ds;rw[toString_neg (show (-(m:Int))<0 by lia),T7,T7,show 0 - -m=(m:Int) by lia,String.toList_append,Kx];rfl
theorem cW(a:1<=k)(h:n.natAbs<10 ^ k):(ds n).length<=k+1:=by
 rcases Nj n 0 with z |z
 .obtain⟨m,rfl⟩:∃m:Nat,n=-m:=⟨n.natAbs,by lia⟩
  rw[vd (by lia),JX,fO,JK];have:=Tv a (n:=m) (by lia);lia
 .obtain⟨m,rfl⟩:∃m:Nat,n=m:=⟨n.toNat,by lia⟩
  rw[fO,JK];have:=Tv a (n:=m) (by lia);lia
theorem GA:∀d,d<10->48<=(Uk d).toNat/\(Uk d).toNat<=57:=by decide
theorem gJ(m:Nat):NumText.AllDigits (ds (m:Int)):=by
 induction m using Tc with
 |_ m b=>
  by_cases h:m<10
  .rw[fO,Nat.toDigits_of_lt_base h];intro c a;simp at a;rw[a];exact GA m h
  .have d:m%10<10:=Lw m (by decide);have t:Re 10 (m/10)++Re 10 (m%10)=Re 10 (10*(m/10)+m%10):=Nat.toDigits_append_toDigits (by decide) (by lia) d;rw[Nat.div_add_mod]at t;rw[fO,<-t,Kx];intro c a;rcases Lm.mp a with k |k
   .exact b (m/10) (by lia) c (by rw[fO];exact k)
   .exact b (m%10) (by lia) c (by rw[fO];exact k)
theorem o9(m:Nat):NumText.digitsVal (ds (m:Int))=m:=by rw[fO];exact UF m
theorem tD(m:Nat):ds (m:Int)≠[]:=λe=>by
 have h:=fO m;rw[e]at h;have:=Nat.toDigits_ne_nil (b:=10) (n:=m);exact this (by simpa using h.symm)
theorem pj{m k:Nat}(a:1<=k)(h:m<10 ^ k):(ds (m:Int)).length<=k:=by
 rw[fO,JK];exact Tv a h
theorem Da{m:Nat}(h:(ds (m:Int)).head?=some 48):m=0:=by
 cases e:ds m with
 |nil=>rw[e]at h;simp at h
 |cons c r=>
  rw[e]at h;simp at h;subst h;have d:=gJ m;have v:=o9 m;rw[e]at d v;have b:=v;cases r with
  |nil=>rw[<-b];rfl
  |cons a r=>
   have:=wT (a::r) 0 (λc f=>d c (JL _ f));rw[UA,Tx]at this;have l:=pj (m:=m) (k:=(a::r).length) (by simp) (by rw[<-b];exact this)
   rw[e]at l;simp at l;lia
theorem kS(n):bw (ds n)=ds (n.natAbs:Int)/\((ds n).head?=some 45↔n<0):=by
 rcases Nj n 0 with z |z
 .obtain⟨m,rfl⟩:∃m:Nat,n=-m:=⟨n.natAbs,by lia⟩
  have e:=vd (m:=m) (by lia);rw[e];refine⟨?_,by simp;lia⟩;unfold bw;rw[if_pos (show (45::ds m).head?=some 45 from rfl)];simp
 .obtain⟨m,rfl⟩:∃m:Nat,n=m:=⟨n.natAbs,by lia⟩
  have a:(ds m).head?≠some 45:=λh=>by
   cases e:ds m with
   |nil=>exact tD m e
   |cons c r=>
    rw[e]at h;simp at h;have:=gJ m c (by rw[e];exact JP)
    lia
  refine⟨?_,by simp[a]⟩;rw[gH a];simp
theorem qa(n):AR (ds n)=n:=by
 obtain⟨e,h⟩:=kS n;unfold AR;rw[e,o9];by_cases z:n<0
 .rw[if_pos (h.mpr z)];lia
 .rw[if_neg λk=>z (h.mp k)];lia
theorem zW(h:n.natAbs<10 ^ 60):okL (ds n)=true:=by
 refine (k9 _).mpr ?_;obtain⟨e,b⟩:=kS n;refine⟨?_,?_,?_,λk=>?_⟩
 .rw[e];exact K_.mpr (tD _)
 .rw[e];exact pj (by decide) h
 .rw[e];exact gJ _
 .rw[e]at k |-;have z:=Da k;have a:n=0:=by lia
  subst a;exact⟨by decide+kernel,by rfl⟩
theorem w6(h:n.natAbs<10 ^ 300):Ry (T' (ds n))=some n:=by
 obtain⟨e,b⟩:=kS n;have l:=cW (by decide) h;by_cases z:n<0
 .have a:=jb (b.mpr z);rw[e]at a;have:=intText_neg (x:=T' (ds n)) (by simpa using a) (gJ _) (tD _) (by rw[bg];lia)
  rw[this,o9];congr 1;lia
 .obtain⟨m,rfl⟩:∃m:Nat,n=m:=⟨n.natAbs,by lia⟩
  have:=T6 (x:=T' (ds m)) (by simpa using gJ m) (by simpa using tD m) (by rw[bg];lia);rw[this];simp[o9]
theorem dg(n)(a:c<45\/57<c\/c=47\/c=46):c ∉ ds n:=λh=>by
 rcases Nj n 0 with z |z
 .obtain⟨m,rfl⟩:∃m:Nat,n=-m:=⟨n.natAbs,by lia⟩
  rw[vd (by lia)]at h
  rcases JN.mp h with k |k
  .lia
  .have:=gJ m c k;lia
 .obtain⟨m,rfl⟩:∃m:Nat,n=m:=⟨n.natAbs,by lia⟩
  have:=gJ m c h;lia
noncomputable def ptD(p:P2):List Nat:=ds p.1++44::ds p.2
def B60(p:P2):Prop:=p.1.natAbs<10 ^ 60/\p.2.natAbs<10 ^ 60
theorem Cr(p):32 ∉ ptD p:=λh=>by
 rcases Lm.mp h with k |k
 .exact dg p.1 (by lia) k
 .rcases JN.mp k with k |k
  .lia
  .exact dg p.2 (by lia) k
theorem kX(h:B60 p):(ptD p).length<=123:=by
 have a:=cW (by decide) h.1;have b:=cW (by decide) h.2;unfold ptD;simp;lia
noncomputable def jn:List (List Nat)->List Nat
 |[]=>[]
 |[w]=>w
 |w::r=>w++32::jn r
theorem bQ(w)(h:r≠[]):jn (w::r)=w++32::jn r:=by
 cases r with
 |nil=>exact absurd rfl h
 |cons a r=>rfl
theorem qi:∀{b},b≠[]->(∀w∈b,32 ∉ w)->spl 32 (jn b)=b
 |[],h,_=>absurd rfl h
 |[w],_,h=>jg (h w JP)
 |w::a::r,_,h=>by
  rw[bQ w (by simp),kU _ (h w JP),qi (by simp) λx c=>h x (JL _ c)]
theorem Am:∀b,Txt.join (T' [32]) (b.map T')=T' (jn b):=λb=>by
 show Builtin.Str.glued _ _=_;rw[StrLaws.glued_eq_join]
 induction b with
 |nil=>rfl
 |cons w r c=>
  cases r with
  |nil=>rfl
  |cons a r=>
   rw[bQ w (by simp)];show T' w++T' [32]++Str.join (T' [32]) ((a::r).map T')=_;rw[c,mK,mK];refine congrArg T' ?_;simp
theorem vp:∀b,(∀w∈b,w.length<=c)->(jn b).length<=b.length*(c+1)
 |[],_=>by simp[jn]
 |[w],h=>by have:=h w JP;simp[jn];lia
 |w::a::r,h=>by
  have e:=vp (a::r) λx d=>h x (JL _ d);have:=h w JP;rw[bQ w (by simp),Ko,JX,JX,UR,Tx];lia
noncomputable def cC(l:List Nat):List Nat:=l.map λc=>if c=44 then 32 else c
theorem AB:∀l,jn (spl 44 l)=cC l
 |[]=>by simp[spl,jn,cC]
 |c::l=>by
  have ih:=AB l;obtain⟨p,r,e⟩:=Fz 44 l;unfold spl;rw[e]at ih |-;by_cases h:c=44
  .subst h;simp only[if_true,beq_self_eq_true];rw[bQ _ (by simp),ih];simp[cC]
  .simp only[beq_iff_eq,h,if_false];cases r with
   |nil=>unfold jn at ih |-;rw[ih];simp[cC,h]
   |cons a r=>
    rw[bQ _ (by simp)]at ih |-
    show c::(p++32::jn (a::r))=_;rw[ih];simp[cC,h]
theorem Hn(l):Txt.replace (T' l) (Str.ofString ",") (Str.ofString " ")=T' (cC l):=by
 rw[show (Str.ofString ",")=⟨#[44]⟩ from rfl,StrLaws.replace_one,ux,←StrLaws.glued_eq_join];show Txt.join (T' [32]) _=_;rw[Am,AB]
theorem lR(h:44 ∉ l):cC l=l:=by
 unfold cC
 induction l with
 |nil=>rfl
 |cons a r b=>
  rw[J6,b λz=>h (JL _ z),if_neg λz=>h (by rw[z];exact JP)]
end
section
variable {P:J2}{w:Kt}{K:JI}{mg:Str→Option J0}{base:Mf} (T:Txt w K mg)
theorem gd(K):OF K (.type "str") (.type "str")=some true:=rfl
def uv:List U->Out->Prop:=λa o=>∃x,a=[.str x]/\o=.val .non
theorem jk:OkD P w base T.aaN 1 (uv):=by
 refine okD oZ (by walk_at"ln") ?_;rintro _ _ _ a ⟨x,rfl,rfl⟩;refine ac (aL (jp (ik (aw (eX (by intro _ h;cases h) (gd _)) rfl T.aaf NS (ae (aa 0 rfl) (ae (yk rfl T.aas Pc) aj af) af)))) rfl (ay (ay ?_)));exact rfl
theorem sz1(h:l.length<=8200):(T' l).length<=sizeLine:=by rw[bg];exact Kd (qe (by lia))
theorem hy:((Str.ofString "-"):Str)=⟨#[45]⟩:=rfl
theorem fg:((Str.ofString "0123456789"):Str)=T' D10:=rfl
theorem eqS(x y):eqW (.str x) (.str y)=decide (x=y):=by
 show (x==y)=_;by_cases h:x=y
 .subst h;simp
 .rw[decide_eq_false h];simpa using h
theorem pT(h:T' l=T' m):l=m:=by
 have:=congrArg (λx:Str=>x.cps.toList) h;simpa using this
def xj:List U->Out->Prop:=λa o=>∃l:List Nat,a=[.str (T' l)]/\l.length<=8200/\o=.val (.bl (okL l))
theorem f9:OkD P w base T.aam 1 (xj):=by
 refine okD b8 (by walk_at"ln") ?_;rintro _ _ _ v ⟨l,rfl,J,rfl⟩;have fl:=Al l;have A:=Dj l 45;have p:∀{X}{s}{E}{B}{e} x y,x=y->Ev X s E B e (.str x)->Ev X s E B e (.str y):=λx y h=>by subst h;exact id
 have k1:Txt.startswith (T' l) (Str.ofString "-")=true→StrLaws.sliceText (T' l) (some 1) none=T' (bw l):=λh=>by
  rw[hy,A]at h;rw[show 1=((1:Nat):Int) from rfl,lM]
  unfold bw;rw[if_pos (of_decide_eq_true h)]
 have L:Txt.startswith (T' l) (Str.ofString "-")=false→T' l=T' (bw l):=λh=>by
  rw[hy,A]at h;rw[gH (of_decide_eq_false h)]
 refine ac (ax 1 b8.nd (Hl (ik (zF (aa 0 rfl) aE aJ)) (λd=>(p _ _ (k1 d) (lW (aa 0 rfl) (ck ah) cj (sz1 J)))) (λd=>(p _ _ (L d) (aa 0 rfl)))) ?_);have q:((T' (bw l)).length)=((bw l).length):=by rw[bg]
 by_cases f:1<=(bw l).length/\(bw l).length<=60
 .refine ac (aL (Tw.t (jv (av h_ (aw (gr (sz1 (by lia))) rfl T.aac J5 (ae (aa 1 rfl) aj af)) ah) (λd=>(io (av j0 (aw (gr (sz1 (by lia))) rfl T.aac J5 (ae (aa 1 rfl) aj af)) (qZ rfl T.aal)))))) (by rw[q,decide_eq_false (show ¬ ((bw l).length:Int)<1 by lia),decide_eq_false (show ¬ ((bw l).length:Int) >60 by lia)];rfl) (ay ?_));have O:∀c,(!(Builtin.Str.occurrences (Str.ofString "0123456789") ⟨#[c]⟩ 0 (Str.ofString "0123456789").length 1).isEmpty)=decide (c∈D10):=λc=>by rw[fg];exact in1 D10 c
  have b:((bw l).map λc=>decide (c∈D10)).all id=ul (bw l):=by unfold ul;rw[Um];rfl
  refine ac (nD (jp (ik (aw (ER rfl (bs:=(bw l).map λc=>decide (c∈D10))) rfl T.abt boot_all (ae (EvN.ev (cZ rfl (blk (ai cD) ["text","figures","sign"] [2] rfl rfl rfl rfl (by decide+kernel)) (A4 (aa 1 rfl)) (λ_ _ _ _=>aR (i:=2) b8.nd rfl (Or.inl rfl)) (bN (by decide)) ?clen ?csz (λ_ _=>trivial) ?celt)) aj cN)))) (λD=>?_) (λu=>(ay ?_)))
  case clen=>simp
  case csz=>simp;exact Kd (qe (by lia))
  case celt=>
   intro C S V fp j x y Q F;have G:(T' (bw l)).cps.toList=bw l:=by simp
   rw[Ka]at F;obtain⟨c,R,U,rfl,rfl⟩:=bZ Q F;show Ev _ _ _ _ _ (.bl (decide (c∈D10)));rw[<-O c];exact (lX E8 (aa 2 rfl) (IH rfl T.aa5))
  .refine ac (aN Gu ?_);refine vB ?_
   symm
   rw[b]at D;unfold okL;have:ul (bw l)=false:=by simpa using D
   rw[this];simp
  .rw[b]at u;have M:ul (bw l)=true:=by simpa using u
   obtain⟨c,r,a⟩:∃c r,bw l=c::r:=by
    cases e:bw l with
    |nil=>rw[e]at f;simp at f
    |cons c r=>exact⟨c,r,rfl⟩
   have at0:atI (T' (bw l)).cps.toList 0=some c:=cf rfl (by simp[a]);refine ac (aN (Jz (lX (aX v) (aa 0 rfl) aE) (λd=>(EU (lX (fi v) (IK (aa 1 rfl) ah (sz1 (by lia)) at0) aE)))) ?_);refine vB ?_
   have G:eqW (.str (T' l)) (.str (Str.ofString "0"))=decide (l=[48]):=by
    rw[eqS];refine decide_eq_decide.mpr ⟨λh=>pT h,λh=>by rw[h];rfl⟩
   have I:eqW (sg c) (.str (Str.ofString "0"))=decide (c=48):=by
    rw[eqS];refine decide_eq_decide.mpr ⟨λh=>?_,λh=>by rw[h];rfl⟩;have:=pT (m:=[48]) h;simpa using this
   rw[G,I,NN,k9];have o:(bw l).head?=some c:=by rw[a];rfl
   constructor
   .intro h;refine⟨f.1,f.2,(sr _).mp M,λk=>?_⟩;rw[o]at k;cases k;have H:l=[48]:=by simpa using h
    subst H;exact⟨rfl,rfl⟩
   .intro N;by_cases z:c=48
    .subst z;obtain⟨g,K⟩:=N.h0 o
     have:l=[48]:=by
      rw[K,a];rw[a]at g;simp at g;rw[g]
     rw[decide_eq_true this];rfl
    .rw[decide_eq_false z];simp
 .have n:(decide (((bw l).length:Int)<1) ||decide (((bw l).length:Int) >60))=true:=by
   by_cases z:((bw l).length:Int)<1
   .rw[decide_eq_true z];rfl
   .rw[decide_eq_true (show ((bw l).length:Int) >60 by lia)];simp
  refine ac (cA (Tw.t (jv (av h_ (aw (gr (sz1 (by lia))) rfl T.aac J5 (ae (aa 1 rfl) aj af)) ah) (λd=>(io (av j0 (aw (gr (sz1 (by lia))) rfl T.aac J5 (ae (aa 1 rfl) aj af)) (qZ rfl T.aal)))))) (by rw[q];exact n) ?_);refine ac (aN Gu ?_);refine vB ?_
  symm
  cases e:okL l with
  |false=>rfl
  |true=>
   have N:=(k9 l).mp e;exact absurd ⟨N.l1,N.l2⟩ f
theorem yS(N:Num l):l.length<=61:=by
 have h:=N.l2;by_cases z:l.head?=some 45
 .have e:=congrArg S6 (jb z);rw[JX]at e;lia
 .rw[gH z]at h;lia
def yM:List U->Out->Prop:=λa o=>∃l:List Nat,a=[.str (T' l)]/\l.length<=8200/\okL l=true/\o=.val (.int (AR l))
theorem dL:OkD P w base T.aax 2 (yM):=by
 refine okD mX (by walk_at"ln") ?_;rintro _ _ _ b ⟨l,rfl,c,a,rfl⟩;have N:=(k9 l).mp a;refine ac (gX (aQ (jk T) b (ae (aa 0 rfl) aj af) ⟨_,rfl,rfl⟩) ?_);refine ac (aL (jp (ik (aQ (f9 T) b (ae (aa 0 rfl) aj af) ⟨l,rfl,c,rfl⟩))) (by rw[a];rfl) (ay ?_));refine ac (aN (cP (uF N.text (by rw[bg];exact KH (yS N) (by decide))) rfl T.aa3 SX (ae (aa 0 rfl) aj af)) ?_);exact rfl
def vq:List U->Out->Prop:=λa o=>∃n:Int,a=[.int n]/\n.natAbs<10 ^ 300/\o=.val (.str (T' (ds n)))
theorem Ik(h:m<10 ^ 300):m.log2<1920:=by
 by_cases z:m=0
 .subst z;decide
 .rw[S8 z];exact Ma h (by decide+kernel)
theorem ci:OkD P w base T.aay 1 (vq):=by
 refine okD mI (by walk_at"ln") ?_;rintro _ _ _ b ⟨n,rfl,a,rfl⟩;refine ac (aN (cP (iH (Ik a)) rfl T.aas Pc (ae (aa 0 rfl) aj af)) ?_);rw[nE]
theorem vR(x y:Str):(x++y).length=x.length+y.length:=by
 show (x.cps++y.cps).size=_;rw[Array.size_append];rfl
theorem rY(a b):T' a++(Str.ofString ",":Str)++T' b=T' (a++44::b):=by
 rw[show (Str.ofString ",")=T' [44] from rfl,mK,mK];refine congrArg T' ?_;simp
theorem sz2(h:l.length<=8200):(T' l).length+2<=sizeLine:=by rw[bg];exact Kd (qe (by lia))
def Bi:List U->Out->Prop:=λa o=>∃p:P2,a=[.str (T' (ptD p))]/\B60 p/\o=.val (pu p)
theorem nA:OkD P w base T.aaF 3 (Bi):=by
 refine okD iB (by walk_at"ln") ?_;rintro _ _ _ b ⟨p,rfl,a,rfl⟩;have d:=kX a;have e:spl 44 (ptD p)=[ds p.1,ds p.2]:=by unfold ptD;rw[kU _ (dg p.1 (by lia)),jg (dg p.2 (by lia))]
 have l1:=cW (by decide) a.1;have l2:=cW (by decide) a.2;refine ac (gX (aQ (jk T) b (ae (aa 0 rfl) aj af) ⟨_,rfl,rfl⟩) ?_);refine ac (ax 1 iB.nd (EvN.ev (rL (c:=44) (aa 0 rfl) aE aJ (sz2 (by lia)) rfl)) ?_);rw[e];refine ac (aL (av kE (aw (bF rfl) rfl T.aac J5 (ae (aa 1 rfl) aj af)) ah) rfl (ay ?_));refine ac (aN (bE (aq (aQ (dL T) b (ae (aC (aa 1 rfl) ah rfl rfl) aj aU) ⟨ds p.1,rfl,by lia,zW a.1,rfl⟩) (aq (aQ (dL T) b (ae (aC (aa 1 rfl) ah rfl rfl) aj aU) ⟨ds p.2,rfl,by lia,zW a.2,rfl⟩) bG br) br)) ?_);rw[qa,qa]
def xz:List U->Out->Prop:=λa o=>∃p:P2,a=[pu p]/\p.1.natAbs<10 ^ 300/\p.2.natAbs<10 ^ 300/\o=.val (.str (T' (ptD p)))
theorem nt:OkD P w base T.aaG 2 (xz):=by
 refine okD nj (by walk_at"ln") ?_;rintro _ _ _ c ⟨p,rfl,a,d,rfl⟩;have l1:=cW (by decide) a;have l2:=cW (by decide) d;have b:(Str.ofString ",").length=1:=rfl;refine ac (aN (iE (iE (aQ (ci T) c (ae (aC (aa 0 rfl) ah rfl rfl) aj aU) ⟨p.1,rfl,a,rfl⟩) aE (by rw[b,bg];exact Kd (aB (by lia)))) (aQ (ci T) c (ae (aC (aa 0 rfl) ah rfl rfl) aj aU) ⟨p.2,rfl,d,rfl⟩) (by rw[vR,b,bg,bg];exact Kd (aB (by lia)))) ?_);rw[rY];rfl
end
section
variable {P:J2}{w:Kt}{K:JI}{mg:Str→Option J0}{base:Mf} (T:Txt w K mg)
noncomputable abbrev sT(x:List Nat):U:=.str (T' x)
noncomputable def d7:List Nat:=[102,105,101,108,100]
noncomputable def nT:List Nat:=[109,111,118,101]
noncomputable def lV:List Nat:=[102,111,114,109]
noncomputable def iZ:List Nat:=[115,104,111,119]
noncomputable def yg:List Nat:=[114,105,109]
noncomputable def ou:List Nat:=[97,114,101,97]
noncomputable def iJ:List Nat:=[97,108,105,107,101]
def DR:List U->Out->Prop:=λb o=>∃(w:List Nat) (a:List (List Nat)),b=[sT (jn (w::a))]/\(∀x∈w::a,32 ∉ x)/\(jn (w::a)).length<=8200/\(gu fT (T' w)).isSome=true/\o=.val (.lst ((w::a).map sT))
theorem iX:OkD P w base T.aaO 1 (DR):=by
 refine okD jw (by walk_at"ln") ?_;rintro _ _ _ i ⟨w,g,rfl,f,b,e,rfl⟩;obtain⟨j,d,a⟩:=T.abe;refine ac (aL (jp (ik (aw (eX (by intro _ h;cases h) (gd _)) rfl T.aaf NS (ae (aa 0 rfl) (ae (yk rfl T.aas Pc) aj af) af)))) rfl (ay ?_));refine ac (ax 1 jw.nd (EvN.ev (rL (c:=32) (aa 0 rfl) aE aJ (sz2 b) rfl)) ?_);rw[qi (by simp) f];refine ac (aL (zN a rfl d (aC (aa 1 rfl) ah rfl (cf rfl rfl))) (by rw[e];rfl) (ay ?_));refine ac (aN (aa 1 rfl) ?_);exact rfl
structure i_(w:List Nat)(ks:List Str):Prop where
 nf:eqW (sT w) (.str "field")=false
 ex:∃x:Str,gu fT (T' w)=some x/\Txt.words x=ks/\x.length<=sizeLine/\(Builtin.Str.spaceWords x (x.length+1)).length<=sizeLine
noncomputable def kP:Str:=Str.ofString "P"
noncomputable def gQ:Str:=Str.ofString "NEW"
noncomputable def eW:Str:=Str.ofString "ONE"
noncomputable def o5:Str:=Str.ofString "OTHER"
noncomputable def kA:List Str:=[Str.ofString "A",Str.ofString "B",Str.ofString "C",Str.ofString "D",Str.ofString "E",Str.ofString "F"]
theorem GK:i_ nT (gQ::eW::kA):=⟨by decide+kernel,Str.ofString "NEW ONE A B C D E F",by decide+kernel,by decide+kernel,by decide+kernel,by decide+kernel⟩
theorem zd:i_ lV [gQ,eW]:=⟨by decide+kernel,Str.ofString "NEW ONE",by decide+kernel,by decide+kernel,by decide+kernel,by decide+kernel⟩
theorem u_:i_ iZ [eW]:=⟨by decide+kernel,Str.ofString "ONE",by decide+kernel,by decide+kernel,by decide+kernel,by decide+kernel⟩
theorem Hm:i_ yg [eW]:=⟨by decide+kernel,Str.ofString "ONE",by decide+kernel,by decide+kernel,by decide+kernel,by decide+kernel⟩
theorem Ha:i_ ou [eW]:=⟨by decide+kernel,Str.ofString "ONE",by decide+kernel,by decide+kernel,by decide+kernel,by decide+kernel⟩
theorem vx:i_ iJ [eW,o5]:=⟨by decide+kernel,Str.ofString "ONE OTHER",by decide+kernel,by decide+kernel,by decide+kernel,by decide+kernel⟩
def k_:List U->Out->Prop:=λc o=>(∃(w:List Nat) (a:List (List Nat)) (b:List Str),c=[.lst ((w::a).map sT)]/\i_ w b/\b.length=a.length/\o=.val (.lst (b.map U.str)))\/∃a:List (List Nat),c=[.lst ((d7::a).map sT)]/\2<=a.length/\a.length<=61/\o=.val (.lst (.str gQ::Kn (a.length-1) (.str kP)))
theorem nR:OkD P w base T.aa_ 1 (k_):=by
 refine okD c_ (by rintro B o (⟨_,_,_,rfl,_⟩ |⟨_,rfl,_⟩) <;>rfl) ?_;intro _ _ _ l h;obtain⟨A,k,j⟩:=T.abe;rcases h with ⟨w,a,t,rfl,⟨s,x,i,f,q,p⟩,v,rfl⟩ |⟨a,rfl,y,r,rfl⟩
 .refine ac (ax 1 c_.nd (EvN.ev (qY (Fe j rfl k (aC (aa 0 rfl) ah rfl (cf rfl rfl)) i) q p)) ?_);rw[f];have e:(((w::a).map sT).length)=a.length+1:=by simp
  have g:((t.map U.str).length)=a.length:=by rw[JK,v]
  refine ac (ax 2 c_.nd (bp (aw (bF rfl) rfl T.aac J5 (ae (aa 0 rfl) aj af)) ah) ?_);refine ac (aL (av (aX l) (aC (aa 0 rfl) ah rfl (cf rfl rfl)) aE) s (ay ?_));refine ac (aL (av kE (aw (bF rfl) rfl T.aac J5 (ae (aa 1 rfl) aj af)) (aa 2 rfl)) (by rw[e,g];simp) (ay ?_));refine ac (aN (aa 1 rfl) ?_);exact rfl
 .have i:gu fT (T' d7)=some (Str.ofString "NEW P"):=by decide+kernel
  have f:Txt.words (Str.ofString "NEW P")=[gQ,kP]:=by decide+kernel
  refine ac (ax 1 c_.nd (EvN.ev (qY (Fe j rfl k (aC (aa 0 rfl) ah rfl (cf rfl rfl)) i) (by decide+kernel) (by decide+kernel))) ?_);rw[f];have e:(((d7::a).map sT).length:Int)=a.length+1:=by simp
  have g:((([gQ,kP]).map U.str).length:Int)=2:=rfl;refine ac (ax 2 c_.nd (bp (aw (bF rfl) rfl T.aac J5 (ae (aa 0 rfl) aj af)) ah) ?_);rw[e]
  have c:(if 60-1<a.length+1-1-((([gQ,kP]).map U.str).length:Int) then 60-1 else a.length+1-1-((([gQ,kP]).map U.str).length:Int))=((a.length-2:Nat)):=by
   rw[g,if_neg (by lia)];lia
  have b:([gQ,kP]).map U.str++Kn (a.length-2) (.str kP)=.str gQ::Kn (a.length-1) (.str kP):=by
   rw[show a.length-1=(a.length-2)+1 by lia,Lx];rfl
  refine o0 (λm=>SubP [some (.val (.lst ((d7::a).map sT))),some (.val (.lst (.str gQ::Kn (a.length-1) (.str kP)))),some (.val (.int (a.length+1-1))),none] m) (nD (av (aX l) (aC (aa 0 rfl) ah rfl (cf rfl rfl)) aE) (λC=>?_) (λu=>(ay ?_))) ?hj
  .refine ac (ax 3 c_.nd (bp (aa 2 rfl) (aw (bF rfl) rfl T.aac J5 (ae (aa 1 rfl) aj af))) ?_);refine ac (ax 1 c_.nd (EvN.ev (kq (aa 1 rfl) (EvN.ev (Gq (EvN.ev (fA (aq aE bG aJ))) (aw (Fd rfl) rfl T.abm boot_min (ae (aa 3 rfl) (ae (bp (qZ rfl T.aaD) ah) aj bi) af)) (by rw[c];lia) (by rw[c];lia) (by rw[c];exact Kd (aB (by lia))))) (by rw[Lj,c];exact Kd (aB (by simp;lia))))) (ay ?_));refine⟨rfl,?_,rfl,trivial⟩;refine congrArg (λz=>some (Sl.val (.lst z))) ?_;rw[c,Mj];exact b
  .exact absurd u (by decide+kernel)
  case hj=>
   intro m n;refine eC ?_ n;have d:((U.str gQ::Kn (a.length-1) (U.str kP)).length)=a.length+1-1:=by simp;lia
   refine ac (aL (av kE (aw (bF rfl) rfl T.aac J5 (ae (aa 1 rfl) aj af)) (aa 2 rfl)) (by rw[d];simp) (ay ?_));refine ac (aN (aa 1 rfl) ?_);exact rfl
structure Nm(l:List Nat):Prop where
 h1:1<=l.length
 h8:l.length<=8
 az:∀c∈l,97<=c/\c<=122
theorem Nm.free(h:Nm l):32 ∉ l:=λz=>by have:=h.az 32 z;lia
theorem lt1(c d):decide (([c]:List Nat) < [d])=decide (c<d):=by
 refine decide_eq_decide.mpr ⟨λh=>?_,λh=>?_⟩
 .cases h with
  |rel h=>exact h
  |cons h=>cases h
 .exact .rel h
theorem uJ{α b:Type}{f:α->b}{l:List α}{j:Nat}{x:b}(h:(l.map f)[j]?=some x):∃c,l[j]?=some c/\c∈l/\x=f c:=by
 rw[JQ]at h;obtain⟨c,a,rfl⟩:=Ou.mp h;exact⟨c,a,J8 a,rfl⟩
def D7:List U->Out->Prop:=λa o=>∃l:List Nat,a=[sT l]/\Nm l/\o=.val .non
theorem oY:OkD P w base T.aaP 1 (D7):=by
 refine okD ft (by walk_at"ln") ?_;rintro _ _ _ s ⟨l,rfl,d,rfl⟩;have r:=d.h1;have u:=d.h8;have h:(T' l).cps.toList=l:=by simp
 have a:=bg l;refine ac (tU ((T' l).cps.toList.map λc=>some (sg c)) (j:=1) false rfl ft.nd rfl (Or.inl rfl) (blk (ai gv) ["word","letters","sign"] [2] rfl rfl rfl rfl (by decide+kernel)) (A4 (aa 0 rfl)) (λ_ _ _ _=>aR (i:=2) ft.nd rfl (Or.inl rfl)) (bN (by decide)) ?clen ?csz (λ_ _=>trivial) ?ctest ?celt ?_)
 case clen=>simp
 case csz=>simp[h];exact Kd (aB (by lia))
 case ctest=>
  intro C n q fp j x o e f;obtain⟨c,b,g,rfl⟩:=uJ e;rw[JQ,b]at f;cases f;have z:=d.az c g
  have k1:(!decide ((⟨#[c]⟩:Str).cps.toList<(Str.ofString "a").cps.toList))=true:=by
   show (!decide ([c] < [97]))=true;rw[lt1,decide_eq_false (by lia)];rfl
  have p:(!decide ((Str.ofString "z").cps.toList<(⟨#[c]⟩:Str).cps.toList))=true:=by
   show (!decide ([122] < [c]))=true;rw[lt1,decide_eq_false (by lia)];rfl
  rw[show (some (sg c)).isSome=((!decide ((⟨#[c]⟩:Str).cps.toList<(Str.ofString "a").cps.toList)) && (!decide ((Str.ofString "z").cps.toList<(⟨#[c]⟩:Str).cps.toList))) by rw[k1,p];rfl];exact (Dl E9 E9 aE (aa 2 rfl) aE)
 case celt=>
  intro C n q fp j x y e hy;obtain⟨c,b,g,rfl⟩:=uJ e;rw[JQ,b]at hy;cases hy;exact (aa 2 rfl)
 have k:((((T' l).cps.toList.map λc=>some (sg c)).filterMap id).length)=l.length:=by rw[h];simp[List.filterMap_map]
 refine ac (aL (Tw.t (jv (av h_ (aw (gr (by rw[a];exact Kd (aB (by lia)))) rfl T.aac J5 (ae (aa 0 rfl) aj af)) ah) (λm=>(jv (av j0 (aw (gr (by rw[a];exact Kd (aB (by lia)))) rfl T.aac J5 (ae (aa 0 rfl) aj af)) (qZ rfl T.aau)) (λm=>(io (av h_ (aw (bF rfl) rfl T.aac J5 (ae (aa 1 rfl) aj af)) (aw (gr (by rw[a];exact Kd (aB (by lia)))) rfl T.aac J5 (ae (aa 0 rfl) aj af))))))))) (by rw[k,a,decide_eq_false (by lia),decide_eq_false (by lia),decide_eq_false (by lia)];rfl) (ay (ay ?_)));exact rfl
end
section
variable {P:J2}{w:Kt}{K:JI}{mg:Str→Option J0}{base:Mf} (T:Txt w K mg)
theorem v9:∀{l:List Int},l≠[]->∃M,M∈l/\∀a∈l,a<=M
 |[],h=>absurd rfl h
 |[a],_=>⟨a,JP,λb f=>by simp at f;lia⟩
 |a::b::r,_=>by
  obtain⟨M,g,e⟩:=v9 (l:=b::r) (by simp);by_cases h:a<=M
  .exact⟨M,JL _ g,λc d=>by
    rcases JN.mp d with k |k
    .rw[k];exact h
    .exact e c k⟩
  .exact⟨a,JP,λc d=>by
    rcases JN.mp d with k |k
    .rw[k];exact Ts _
    .have:=e c k;lia⟩
def Ex:List U->Out->Prop:=λa o=>∃l:List P2,a=[lp l]/\l≠[]/\l.length<=60/\(∀p∈l,B60 p)/\o=.val .non
theorem qX:OkD P w base T.aaZ 1 (Ex):=by
 refine okD dj (by walk_at"ln") ?_;rintro _ _ _ D ⟨l,rfl,q,B,g,rfl⟩;refine ac (vL (i:=1) dj.nd rfl (Or.inl rfl) (EvN.ev (kq (xs:=l.map λp=>U.int p.1) (ys:=l.map λp=>U.int p.2) ?eA ?eB (by rw[JK,JK];exact Kd (aB (by lia))))) ?_)
 case eA=>
  refine EvN.ev ?_;refine (cZ rfl (blk (ai d8) ["land","numbers","P","number"] [2] rfl rfl rfl rfl (by decide+kernel)) (df (aa 0 rfl) (.inl rfl)) (λ_ _ _ _=>aR (i:=2) dj.nd rfl (Or.inl rfl)) (bN (by decide)) ?clen ?csz (λ_ _=>trivial) ?celt)
  case clen=>simp
  case csz=>rw[JK];exact Kd (aB (by lia))
  case celt=>
   intro C m o fp j x y d hy;obtain⟨p,b,u,rfl,rfl⟩:=bZ d hy;exact (aC (aa 2 rfl) ah rfl rfl)
 case eB=>
  refine EvN.ev ?_;refine (cZ rfl (blk (ai d8) ["land","numbers","P","number"] [2] rfl rfl rfl rfl (by decide+kernel)) (df (aa 0 rfl) (.inl rfl)) (λ_ _ _ _=>aR (i:=2) dj.nd rfl (Or.inl rfl)) (bN (by decide)) ?clen ?csz (λ_ _=>trivial) ?celt)
  case clen=>simp
  case csz=>rw[JK];exact Kd (aB (by lia))
  case celt=>
   intro C m o fp j x y d hy;obtain⟨p,b,u,rfl,rfl⟩:=bZ d hy;exact (aC (aa 2 rfl) ah rfl rfl)
 have c:(l.map λp=>U.int p.1)++(l.map λp=>U.int p.2)=(l.map (·.1)++l.map (·.2)).map U.int:=by rw[Kx,Ka,Ka];rfl
 rw[c]
 have v:∀n∈l.map (·.1)++l.map (·.2),n.natAbs<10 ^ 60:=λn a=>by
  rcases Lm.mp a with k |k
  .obtain⟨p,b,rfl⟩:=JS.mp k;exact (g p b).1
  .obtain⟨p,b,rfl⟩:=JS.mp k;exact (g p b).2
 have A:(l.map (·.1)++l.map (·.2)).length<=120:=by simp;lia
 have a:l.map (·.1)++l.map (·.2)≠[]:=by simp[q]
 generalize l.map (·.1)++l.map (·.2)=L at *;obtain⟨M,h,f⟩:=v9 (l:=L.map λn=>n.natAbs) (by simp[a])
 have r:M<10 ^ 60:=by
  obtain⟨n,a,rfl⟩:=JS.mp h;have:=v n a
  exact_mod_cast this
 have s:((l.map pu).length)=l.length:=by rw[JK]
 have e:(10:Int) ^ (60:Int).toNat=10 ^ 60:=rfl;refine ac (aL (Tw.t (jv (av j0 (aw (bF rfl) rfl T.aac J5 (ae (aa 0 rfl) aj af)) (qZ rfl T.aat)) (λz=>(io (av IU (aw (Fs rfl ⟨h,f⟩) rfl T.abv boot_max (ae (EvN.ev (cZ rfl (blk (ai d8) ["land","numbers","P","number"] [3] rfl rfl rfl rfl (by decide+kernel)) (df (aa 1 rfl) (.inl rfl)) (λ_ _ _ _=>aR (i:=3) dj.nd rfl (Or.inl rfl)) (bN (by decide)) ?clen ?csz (λ_ _=>trivial) ?celt)) aj cN)) (iT ah ah ⟨by decide,by decide,by decide⟩)))))) (by rw[s,decide_eq_false (show ¬ (l.length:Int) >60 by lia),e,decide_eq_false (show ¬ M ≥ 10 ^ 60 by lia)];rfl) (ay (ay ?_)))
 case clen=>simp
 case csz=>rw[JK];exact Kd (aB (by lia))
 case celt=>
  intro C m o fp j x y d hy;rw[Ka]at hy;obtain⟨n,a,E,rfl,rfl⟩:=bZ d hy;show Ev _ _ _ _ _ (.int n.natAbs);rw[show n.natAbs=(if n<0 then -n else n) by split <;>lia]
  exact (aw mB rfl T.aaU PyProof.Rows.boot_abs (ae (aa 3 rfl) aj af))
 exact rfl
end
section
variable {P:J2}{w:Kt}{K:JI}{mg:Str→Option J0}{base:Mf} (T:Txt w K mg)
def xq:List U->Out->Prop:=λa o=>∃(l x:List P2) (m:M6),a=[lp l]/\TF l m x/\o=.new (x.map pu)
theorem DL:OkD P w base T.aaW 9 (xq):=by
 refine okD CW (by walk_at"ln") ?_;rintro _ _ _ a ⟨l,x,m,rfl,h,rfl⟩;refine ac (dZ (eJ (bD T) a (ae (aa 0 rfl) (ae (aQ (iO T) a (ae (aa 0 rfl) aj af) ⟨l,x,m,rfl,h,rfl⟩) aj br) af) h.fm) ?_);exact rfl
def oK:List U->Out->Prop:=λg o=>(∃pts:List P2,g=[sT d7,lp pts]/\(∀p∈pts,Szp 5000 p)/\pts.length<64/\pts≠[]/\o=.new ((ak pts).map pu))\/(∃(l x:List P2) (m:M6),g=[sT lV,.lst [lp l]]/\TF l m x/\o=.new (x.map pu))\/
 ∃(l:List P2) (m:M6),g=[sT nT,.lst [lp l,.int m.a,.int m.b,.int m.c,.int m.d,.int m.e,.int m.f]]/\ji [lp l,mvM m] (.new ((ak (l.map m.go)).map pu))/\o=.new ((ak (l.map m.go)).map pu)
theorem JA(a)(r):eK (a::r) (some 1) none=r:=by rw[qM];rfl
theorem Dh:OkD P w base T.abr 10 (oK):=by
 refine okD Db (by rintro d o (⟨_,rfl,_⟩ |⟨_,_,_,rfl,_⟩ |⟨_,_,rfl,_⟩) <;>rfl) ?_;intro _ _ _ a h;rcases h with ⟨pts,rfl,sz,c,b,rfl⟩ |⟨l,x,m,rfl,h,rfl⟩ |⟨l,m,rfl,h,rfl⟩
 .refine ac (cA (av (aX a) (aa 0 rfl) aE) (by decide+kernel) ?_);refine ac (dZ (eJ (rN T) a (ae (aa 1 rfl) aj af) ⟨pts,rfl,sz,c,b,rfl⟩) ?_);exact rfl
 .refine ac (aL (av (aX a) (aa 0 rfl) aE) (by decide+kernel) (ay ?_));refine ac (aL (av (aX a) (aa 0 rfl) aE) (by decide+kernel) (ay ?_));refine ac (aL (av (aX a) (aa 0 rfl) aE) (by decide+kernel) (ay ?_));refine ac (aL (av (aX a) (aa 0 rfl) aE) (by decide+kernel) (ay ?_));refine ac (cA (av (aX a) (aa 0 rfl) aE) (by decide+kernel) ?_);refine ac (dZ (eJ (DL T) a (ae (aC (aa 1 rfl) ah rfl rfl) aj aU) ⟨l,x,m,rfl,h,rfl⟩) ?_);exact rfl
 .refine ac (aL (av (aX a) (aa 0 rfl) aE) (by decide+kernel) (ay ?_));refine ac (cA (av (aX a) (aa 0 rfl) aE) (by decide+kernel) ?_);refine ac (dZ (eJ (bD T) a (ae (aC (aa 1 rfl) ah rfl rfl) (ae (cP (CN (.inl rfl)) rfl T.aa4 boot_tuple (ae (EvN.ev (bY (aa 1 rfl) (ck ah) cj (.inl rfl))) aj aU)) aj br) aU) (by rw[JA];exact h)) ?_);exact rfl
structure Fit(l:List P2):Prop where
 ne:l≠[]
 hl:l.length<=60
 sz:∀p∈l,Szp 150 p
 b:∀p∈l,B60 p
def B_:List U->Out->Prop:=λa o=>∃l:List P2,Fit l/\((a=[sT yg,.lst [lp l]]/\o=.val (.int (d_ l)))\/(a=[sT ou,.lst [lp l]]/\o=.val (.int (area l))))
theorem km:OkD P w base T.aa0 5 (B_):=by
 refine okD rR (by rintro d o ⟨_,_,(⟨rfl,_⟩ |⟨rfl,_⟩)⟩ <;>rfl) ?_;intro _ _ _ a h;obtain⟨l,b,h⟩:=h;have c:=K_.mpr b.ne;have e:=b.hl;rcases h with ⟨rfl,rfl⟩ |⟨rfl,rfl⟩
 .refine ac (aL (av (aX a) (aa 0 rfl) aE) (by decide+kernel) (ay ?_));refine ac (cA (av (aX a) (aa 0 rfl) aE) (by decide+kernel) ?_);refine ac (aN (aQ (G_ T) a (ae (aC (aa 1 rfl) ah rfl rfl) aj aU) ⟨l,rfl,c,by lia,Br (by decide) b.sz,rfl⟩) ?_);exact rfl
 .refine ac (cA (av (aX a) (aa 0 rfl) aE) (by decide+kernel) ?_);refine ac (aN (aQ (lh T) a (ae (aC (aa 1 rfl) ah rfl rfl) aj aU) ⟨l,rfl,by lia,Br (by decide) b.sz,rfl⟩) ?_);exact rfl
theorem pA(c):∀(l:List Str) a,(∀x∈l,x.length≤c)→l.foldl (λn x=>n+x.length+(Str.ofString " ":Str).length) a≤a+l.length*(c+1)
 |[],a,_=>by simp
 |x::l,a,h=>by
  have h1:=h x JP;have b:=pA c l (a+x.length+(Str.ofString " ").length) λy hy=>h y (JL _ hy);have d:(Str.ofString " ").length=1:=rfl;rw[MP,JX,UR,Tx];generalize l.length*(c+1)=z at *;exact KH b (by lia)
theorem wQ{a:List P2}(h:∀p∈a,B60 p)(c:a.length≤61):Ux (Str.ofString " ") (a.map λp=>T' (ptD p))=true:=by
 have b:∀x∈a.map (λp=>T' (ptD p)),x.length<=123:=λx b=>by
  obtain⟨p,e,rfl⟩:=JS.mp b;have:=kX (h p e);rw[bg];exact this
 have:=pA 123 (a.map λp=>T' (ptD p)) 0 b;unfold Ux;rw[<-PH];have f:(a.map λp=>T' (ptD p)).length*(123+1)<=61*124:=T8 (by rw[JK];exact c) (JR _)
 have d:Builtin.Str.tooLong ((a.map λp=>T' (ptD p)).foldl (λn x=>n+x.length+(Str.ofString " ").length) 0)=false:=by
  unfold Builtin.Str.tooLong;rw[Lg];exact decide_eq_false (by lia)
 rw[d];rfl
theorem HH(a:List P2):(a.map λp=>sT (ptD p))=(a.map λp=>T' (ptD p)).map U.str:=by rw[Ka];rfl
theorem GD(h:B60 p):p.1.natAbs<10 ^ 300/\p.2.natAbs<10 ^ 300:=⟨Ma h.1 (by decide+kernel),Ma h.2 (by decide+kernel)⟩
def uB:List U->Out->Prop:=λa o=>∃pts:List P2,a=[lp pts]/\(∀p∈pts,B60 p)/\pts.length<=61/\o=.val (sT (jn (pts.map ptD)))
theorem mZ:OkD P w base T.aaz 3 (uB):=by
 refine okD gG (by walk_at"ln") ?_;rintro _ _ _ d ⟨pts,rfl,a,c,rfl⟩;refine ac (aN (qu aE ?ej cN (wQ a c)) ?_)
 case ej=>
  rw[<-HH];refine EvN.ev ?_;refine (cZ rfl (blk (ai eE) ["points","P"] [1] rfl rfl rfl rfl (by decide+kernel)) (df (aa 0 rfl) (.inl rfl)) (λ_ _ _ _=>aR (i:=1) gG.nd rfl (Or.inl rfl)) (bN (by decide)) ?clen ?csz (λ_ _=>trivial) ?celt)
  case clen=>simp
  case csz=>rw[JK];exact Kd (aB (by lia))
  case celt=>
   intro C g h fp j x y e hy;obtain⟨p,f,b,rfl,rfl⟩:=bZ e hy;exact (aQ (nt T) d (ae (aa 1 rfl) aj af) ⟨p,rfl,(GD (a p b)).1,(GD (a p b)).2,rfl⟩)
 rw[show (pts.map λp=>T' (ptD p))=(pts.map ptD).map T' by rw[Ka];rfl];refine congrArg (λz=>Out.val (.str z)) ?_;exact Am (pts.map ptD)
noncomputable def bP(m:M6):List Int:=[m.a,m.b,m.c,m.d,m.e,m.f]
theorem rq{ns:List Int}(h:∀n∈ns,n.natAbs<10 ^ 300)(b:ns.length≤61):Ux (Str.ofString " ") (ns.map λn=>T' (ds n))=true:=by
 have a:∀x∈ns.map (λn=>T' (ds n)),x.length<=301:=λx a=>by
  obtain⟨n,d,rfl⟩:=JS.mp a;have:=cW (by decide) (h n d);rw[bg];exact this
 have:=pA 301 (ns.map λn=>T' (ds n)) 0 a;unfold Ux;rw[<-PH];have e:(ns.map λn=>T' (ds n)).length*(301+1)<=61*302:=T8 (by rw[JK];exact b) (JR _)
 have c:Builtin.Str.tooLong ((ns.map λn=>T' (ds n)).foldl (λn x=>n+x.length+(Str.ofString " ").length) 0)=false:=by
  unfold Builtin.Str.tooLong;rw[Lg];exact decide_eq_false (by lia)
 rw[c];rfl
theorem Hf(ns:List Int):(ns.map λn=>sT (ds n))=(ns.map λn=>T' (ds n)).map U.str:=by rw[Ka];rfl
open Classical in
noncomputable def uc(x a:List P2)(k:M6):List Nat:=if x=a then jn ((bP k).map ds) else [110,111]
def zg:List U->Out->Prop:=λd o=>∃(l c x b:List P2) (m a:M6),d=[lp l,lp c]/\TF l m x/\TF c a b/\(x=b->∀n∈bP (m.bh a.bk),n.natAbs<10 ^ 300)/\o=.val (sT (uc x b (m.bh a.bk)))
theorem nJ:OkD P w base T.aaH 10 (zg):=by
 refine okD dh (by walk_at"ln") ?_;rintro _ _ _ c ⟨l,e,x,d,m,b,rfl,h,f,a,rfl⟩;unfold uc;by_cases k:x=d
 .rw[if_pos k];refine ac (ax 2 dh.nd (aQ (sZ T) c (ae (aa 0 rfl) (ae (aa 1 rfl) aj af) af) ⟨l,e,x,d,m,b,rfl,h,f,rfl⟩) ?_);rw[if_pos k];refine ac (aL (E5 (aa 2 rfl) (AX _)) rfl (ay ?_));have a:=a k;generalize m.bh b.bk=n at *;refine ac (aN (qu aE ?ej cN (rq a (by simp[bP]))) ?_)
  case ej=>
   rw[<-Hf];refine EvN.ev ?_;refine (cZ rfl (blk (ai fC) ["one","other","move","number"] [3] rfl rfl rfl rfl (by decide+kernel)) (EO (aa 2 rfl)) (λ_ _ _ _=>aR (i:=3) dh.nd rfl (Or.inl rfl)) (bN (by decide)) ?clen ?csz (λ_ _=>trivial) ?celt)
   case clen=>rfl
   case csz=>exact (show 6<=sizeLine by decide+kernel)
   case celt=>
    intro C r s fp j x y o hy;obtain⟨p,q,g,rfl,rfl⟩:=bZ o hy;exact (aQ (ci T) c (ae (aa 3 rfl) aj af) ⟨p,rfl,a p g,rfl⟩)
  rw[show ((bP n).map λn=>T' (ds n))=((bP n).map ds).map T' by rw[Ka];rfl];refine congrArg (λz=>Out.val (.str z)) ?_;exact Am ((bP n).map ds)
 .rw[if_neg k];refine ac (ax 2 dh.nd (aQ (sZ T) c (ae (aa 0 rfl) (ae (aa 1 rfl) aj af) af) ⟨l,e,x,d,m,b,rfl,h,f,rfl⟩) ?_);rw[if_neg k];refine ac (cA (E5 (aa 2 rfl) (AX _)) rfl ?_);refine ac (aN aE ?_);exact rfl
inductive Ans:List U->List Nat->Prop
 |show_ (l:List P2):Fit l->Ans [sT iZ,.lst [lp l]] (jn (l.map ptD))
 |rim (l:List P2):Fit l->(d_ l).natAbs<10 ^ 300->Ans [sT yg,.lst [lp l]] (ds (d_ l))
 |area (l:List P2):Fit l->(area l).natAbs<10 ^ 300->Ans [sT ou,.lst [lp l]] (ds (area l))
 |alike (l l' x x':List P2) (m m':M6):TF l m x->TF l' m' x'->(x=x'->∀n∈bP (m.bh m'.bk),n.natAbs<10 ^ 300)->Ans [sT iJ,.lst [lp l,lp l']] (uc x x' (m.bh m'.bk))
def AF:List U->Out->Prop:=λa o=>∃t:List Nat,Ans a t/\o=.val (sT t)
theorem yt:OkD P w base T.aba 11 (AF):=by
 refine okD yO (by rintro k o ⟨_,h,_⟩;cases h <;>rfl) ?_;intro _ _ _ a h;obtain⟨t,h,rfl⟩:=h;cases h with
 |show_ l c=>
  have n:=c.hl;refine ac (cA (av (aX a) (aa 0 rfl) aE) (by decide+kernel) ?_);refine ac (aN (aQ (mZ T) a (ae (aC (aa 1 rfl) ah rfl rfl) aj aU) ⟨l,rfl,c.b,by lia,rfl⟩) ?_);exact rfl
 |alike l i x j m g h e f=>
  refine ac (aL (av (aX a) (aa 0 rfl) aE) (by decide+kernel) (ay ?_));refine ac (aL (av (aX a) (aa 0 rfl) aE) (by decide+kernel) (ay ?_));refine ac (aL (av (aX a) (aa 0 rfl) aE) (by decide+kernel) (ay ?_));refine ac (cA (av (aX a) (aa 0 rfl) aE) (by decide+kernel) ?_);refine ac (aN (aQ (nJ T) a (ae (aC (aa 1 rfl) ah rfl rfl) (ae (aC (aa 1 rfl) ah rfl rfl) aj aU) aU) ⟨l,i,x,j,m,g,rfl,h,e,f,rfl⟩) ?_);exact rfl
 |rim l c d=>
  refine ac (aL (av (aX a) (aa 0 rfl) aE) (by decide+kernel) (ay ?_));refine ac (aL (av (aX a) (aa 0 rfl) aE) (by decide+kernel) (ay ?_));refine ac (aL (av (aX a) (aa 0 rfl) aE) (by decide+kernel) (ay ?_));refine ac (aL (av (aX a) (aa 0 rfl) aE) (by decide+kernel) (ay ?_));refine ac (aL (av (aX a) (aa 0 rfl) aE) (by decide+kernel) (ay ?_));refine ac (aN (aQ (ci T) a (ae (aQ (km T) a (ae (aa 0 rfl) (ae (aa 1 rfl) aj af) af) ⟨l,c,.inl ⟨rfl,rfl⟩⟩) aj br) ⟨_,rfl,d,rfl⟩) ?_);exact rfl
 |area l c d=>
  refine ac (aL (av (aX a) (aa 0 rfl) aE) (by decide+kernel) (ay ?_));refine ac (aL (av (aX a) (aa 0 rfl) aE) (by decide+kernel) (ay ?_));refine ac (aL (av (aX a) (aa 0 rfl) aE) (by decide+kernel) (ay ?_));refine ac (aL (av (aX a) (aa 0 rfl) aE) (by decide+kernel) (ay ?_));refine ac (aL (av (aX a) (aa 0 rfl) aE) (by decide+kernel) (ay ?_));refine ac (aN (aQ (ci T) a (ae (aQ (km T) a (ae (aa 0 rfl) (ae (aa 1 rfl) aj af) af) ⟨l,c,.inr ⟨rfl,rfl⟩⟩) aj br) ⟨_,rfl,d,rfl⟩) ?_);exact rfl
end
section
variable {P:J2}{w:Kt}{K:JI}{mg:Str→Option J0}{base:Mf} (T:Txt w K mg)
inductive Rd (Va:List (Str×U)):Str->Str->U->Prop
 |new (l:List Nat):Nm l->Rd Va gQ (T' l) (sT l)
 |one (n:Str) (u:U):L2.valU Va n=some u->Rd Va eW n u
 |oth (n:Str) (u:U):L2.valU Va n=some u->Rd Va o5 n u
 |pnt (p:P2):B60 p->Rd Va kP (T' (ptD p)) (pu p)
 |num (kd:Str) (k:Int):kd∈kA->k.natAbs<10 ^ 60->Rd Va kd (T' (ds k)) (.int k)
def xm:Kb->List (Str×U)->List U->Out->Prop:=λ_ d c o=>∃b a u,c=[.str b,.str a]/\Rd d b a u/\o=.val u
theorem HJ:∀a∈kA,eqW (.str a) (.str "NEW")=false∧inV (fl (.str a)) [fl (.str "ONE"),fl (.str "OTHER")]=false∧eqW (.str a) (.str "P")=false:=by decide+kernel
theorem i9  :bV P w K mg base (CXF P w) 4 T.aan.a T.aan.d ["self","kind","word"] (spD K false T.aag (xm)):=by
 refine jh T.aan.F pP (λd x B o h=>?_) (λv A g s H I E O a d x B o b h=>?_)
 .obtain⟨c,f,u,rfl,m,rfl⟩:=h;rfl
 obtain⟨c,f,u,rfl,m,rfl⟩:=h;refine Ws.nox ?_;cases m with
 |new l z=>
  refine ac (cA (av (aX b) (aa 1 rfl) aE) (by decide+kernel) ?_);refine ac (gX (aQ (oY T) b (ae (aa 2 rfl) aj af) ⟨l,rfl,z,rfl⟩) ?_);refine ac (aN (aa 2 rfl) ?_);exact rfl
 |one n u e=>
  refine ac (aL (av (aX b) (aa 1 rfl) aE) (by decide+kernel) (ay ?_));refine ac (cA (av (vn rfl rfl rfl) (aa 1 rfl) (bE (aq aE (aq aE bG aJ) aJ))) (by decide+kernel) ?_);refine ac (aL (Bf (i:=0) rfl (gD (i:=0) rfl T.aad T.aap) (aa 2 rfl) (iG b)) (by rw[e];rfl) (ay ?_));refine ac (aN (zI (i:=0) rfl (gD (i:=0) rfl T.aad T.aap) (aa 2 rfl) (iG b) e) ?_);exact rfl
 |oth n u e=>
  refine ac (aL (av (aX b) (aa 1 rfl) aE) (by decide+kernel) (ay ?_));refine ac (cA (av (vn rfl rfl rfl) (aa 1 rfl) (bE (aq aE (aq aE bG aJ) aJ))) (by decide+kernel) ?_);refine ac (aL (Bf (i:=0) rfl (gD (i:=0) rfl T.aad T.aap) (aa 2 rfl) (iG b)) (by rw[e];rfl) (ay ?_));refine ac (aN (zI (i:=0) rfl (gD (i:=0) rfl T.aad T.aap) (aa 2 rfl) (iG b) e) ?_);exact rfl
 |pnt p r=>
  refine ac (aL (av (aX b) (aa 1 rfl) aE) (by decide+kernel) (ay ?_));refine ac (aL (av (vn rfl rfl rfl) (aa 1 rfl) (bE (aq aE (aq aE bG aJ) aJ))) (by decide+kernel) (ay ?_));refine ac (cA (av (aX b) (aa 1 rfl) aE) (by decide+kernel) ?_);refine ac (aN (aQ (nA T) b (ae (aa 2 rfl) aj af) ⟨p,rfl,r,rfl⟩) ?_);exact rfl
 |num D k j q=>
  obtain⟨t,C,y⟩:=HJ c j;have G:=cW (by decide) q;refine ac (aL (av (aX b) (aa 1 rfl) aE) t (ay ?_));refine ac (aL (av (vn rfl rfl rfl) (aa 1 rfl) (bE (aq aE (aq aE bG aJ) aJ))) (by exact C) (ay ?_));refine ac (aL (av (aX b) (aa 1 rfl) aE) y (ay ?_));refine ac (aN (aQ (dL T) b (ae (aa 2 rfl) aj af) ⟨ds k,rfl,by lia,zW q,rfl⟩) ?_);rw[qa]
def xr:Kb→List (Str×U)→List U→Out→Prop:=λd a b o=>∃(n:Str) (l:List P2),b=[.str n,lp l]∧l≠[]∧l.length≤60∧(∀p∈l,B60 p)∧a.length<1000∧o=.dsk d (.str "ok") (dU a n (lp l))
theorem o8  :bV P w K mg base (CXF P w) 2 T.aaj.a T.aaj.d ["self","name","land"] (spD K true T.aag (xr)):=by
 refine jh T.aaj.F qm (λd k m o h=>?_) (λj A b s H q E O a d k m o f h=>?_)
 .obtain⟨n,l,rfl,c,g,e,p,rfl⟩:=h;rfl
 obtain⟨n,l,rfl,c,g,e,p,rfl⟩:=h;refine Ws.nox ?_;refine ac (gX (aQ (qX T) f (ae (aa 2 rfl) aj af) ⟨l,rfl,c,g,e,rfl⟩) ?_);refine ac (F_ (i:=0) rfl (gD (i:=0) rfl T.aad T.aap) (aa 1 rfl) (aa 2 rfl) (iG f) (aB (by lia)) ?_);refine ac (G7 (i:=0) rfl aE ?_);exact rfl
end
section
variable {P:J2}{w:Kt}{K:JI}{mg:Str→Option J0}{base:Mf} (T:Txt w K mg)
theorem Ck(h:∀w∈ws,w.length<=123)(a:ws.length<=62):(jn ws).length<=8200:=by
 have:=vp ws h;lia
structure Row(Va:List (Str×U))(w:List Nat)(ws:List (List Nat))(ks:List Str)(gs:List U):Prop where
 kn:k_ [.lst ((w::ws).map sT)] (.val (.lst (ks.map U.str)))
 fr:∀x∈w::ws,32 ∉ x
 ln:∀x∈w::ws,x.length<=123
 nw:ws.length<=61
 l1:ks.length=ws.length
 l2:gs.length=ws.length
 rd:∀(i:Nat) (k:Str) (wd:List Nat) (g:U),ks[i]?=some k->ws[i]?=some wd->gs[i]?=some g->Rd Va k (T' wd) g
 tb:(gu fT (T' w)).isSome=true
 nn:eqW (sT w) (.str "names")=false
 nd:eqW (sT w) (.str "drop")=false
theorem gl:∀a b,a.length=b.length->(fh a b).length=a.length
 |[],[],_=>rfl
 |_::a,_::b,h=>by rw[fh,JX,gl a b (by simpa using h),JX]
theorem gM:∀c d (i:Nat) x,(fh c d)[i]?=some x->∃a b,c[i]?=some a/\d[i]?=some b/\x=.tup [a,b]
 |[],_,i,x,h=>by simp[fh]at h
 |_::_,[],i,x,h=>by simp[fh]at h
 |a::c,b::d,0,x,h=>by cases h;exact⟨a,b,rfl,rfl,rfl⟩
 |a::c,b::d,i+1,x,h=>gM c d i x h
theorem lF(a)(r):eK (a::r) (some 1) none=r:=by rw[qM];rfl
end
section
variable {P:J2}{w:Kt}{K:JI}{mg:Str→Option J0}{base:Mf} (T:Txt w K mg)
def cT:Kb→List (Str×U)→List U→Out→Prop:=λ_ f d o=>∃(w:List Nat) (b:List (List Nat)) (a:Str) (e:List Str) (c:List U) (t:List Nat),d=[sT (jn (w::b))]∧Row f w b (a::e) c∧eqW (.str a) (.str "NEW")=false∧Ans [sT w,.lst c] t∧o=.val (sT t)
theorem fM  :bV P w K mg base (CXF P w) 12 T.aaa.a T.aaa.d ["self","row"] (spD K false T.aag (cT)):=by
 refine jh T.aaa.F bj (λd p D o h=>?_) (λz A g s H N E O a d p D o b h=>?_)
 .obtain⟨w,e,u,n,r,t,rfl,R,c,m,rfl⟩:=h;rfl
 obtain⟨w,e,u,n,r,t,rfl,R,c,m,rfl⟩:=h;refine Ws.nox ?_;have J:=R.nw;have l1:=R.l1;have l2:=R.l2;refine ac (ax 2 bj.nd (aQ (iX T) b (ae (aa 1 rfl) aj af) ⟨w,e,rfl,R.fr,Ck R.ln (by simp;lia),R.tb,rfl⟩) ?_);refine ac (ax 3 bj.nd (aQ (nR T) b (ae (aa 2 rfl) aj af) R.kn) ?_);show Ws _ _ _ _ _ _ [some (.dsk false T.aag a d p),some (.val (sT (jn (w::e)))),some (.val (.lst (sT w::e.map sT))),some (.val (.lst ((u::n).map U.str))),none,none,none];refine ac (mE (ys:=r) (j:=4) false rfl bj.nd rfl (Or.inl rfl) (blk (ai fP) ["self","row","words","kinds","given","kind","word"] [5,6] rfl rfl rfl rfl (by decide+kernel)) (A8 rfl T.abd (aa 3 rfl) (.inl rfl) (EvN.ev (bY (aa 2 rfl) (ck ah) cj (.inl rfl))) (.inl rfl) ?l12 af aU) (λ_ _ _ _=>jO rfl (be (aR (i:=5) bj.nd rfl (Or.inl rfl)) (be (aR (i:=6) bj.nd rfl (Or.inl rfl)) fH))) (i7 (js:=[5,6]) (by decide)) ?clen ?csz ?dom ?celt ?_)
 case l12=>rw[lF,JK,JK,l1]
 case clen=>rw[lF,gl _ _ (by rw[JK,JK,l1]),JK,l1,l2]
 case csz=>rw[lF,gl _ _ (by rw[JK,JK,l1]),JK,l1];exact Kd (aB (by lia))
 case dom=>
  rw[lF];intro x l;obtain⟨i,B⟩:=KJ.mp l;obtain⟨_,_,_,_,rfl⟩:=gM _ _ _ _ B;exact⟨_,rfl,rfl⟩
 case celt=>
  rw[lF];intro C L M fp j x y l hy;obtain⟨_,_,I,v,rfl⟩:=gM _ _ _ _ l;obtain⟨k,G,_,rfl⟩:=uJ I;obtain⟨q,f,_,rfl⟩:=uJ v;exact xo (i9 T) 0 T.aad b rfl (ae (aa 5 rfl) (ae (aa 6 rfl) aj af) af) ⟨k,T' q,y,rfl,R.rd j k q y G f hy,rfl⟩
 refine ac (aL (av (aX b) (aC (aa 2 rfl) ah rfl (cf (i:=0) rfl rfl)) aE) R.nn (ay ?_));refine ac (aL (av (aX b) (aC (aa 2 rfl) ah rfl (cf (i:=0) rfl rfl)) aE) R.nd (ay ?_));refine ac (aL (av (aX b) (aC (aa 3 rfl) ah rfl (cf (i:=0) rfl rfl)) aE) c (ay ?_));refine ac (aN (aQ (yt T) b (ae (aC (aa 2 rfl) ah rfl (cf (i:=0) rfl rfl)) (ae (aa 4 rfl) aj af) aU) ⟨t,m,rfl⟩) ?_);exact rfl
end
section
variable {P:J2}{w:Kt}{K:JI}{mg:Str→Option J0}{base:Mf} (T:Txt w K mg)
def xO:Kb→List (Str×U)→List U→Out→Prop:=λd a e o=>∃(w y:List Nat) (b:List (List Nat)) (f:List Str) (c:List U) (l:List P2),e=[sT (jn (w::y::b))]∧Row a w (y::b) (gQ::f) (sT y::c)∧a.length<1000∧oK [sT w,.lst c] (.new (l.map pu))∧l≠[]∧l.length≤60∧(∀p∈l,B60 p)∧o=.dsk d (.str "ok") (dU a (T' y) (lp l))
theorem i6  :bV P w K mg base (CXF P w) 12 T.aaa.a T.aaa.d ["self","row"] (spD K true T.aag (xO)):=by
 refine jh T.aaa.F bj (λd z M o h=>?_) (λI A p s H V E O a d z M o c h=>?_)
 .obtain⟨w,y,f,u,D,l,rfl,R,g,v,r,G,e,rfl⟩:=h;rfl
 obtain⟨w,y,f,u,D,l,rfl,R,g,v,r,G,e,rfl⟩:=h;refine Ws.nox ?_;have J:=R.nw;have l1:=R.l1;have l2:=R.l2;refine ac (ax 2 bj.nd (aQ (iX T) c (ae (aa 1 rfl) aj af) ⟨w,y::f,rfl,R.fr,Ck R.ln (by simp;simp at J;lia),R.tb,rfl⟩) ?_);refine ac (ax 3 bj.nd (aQ (nR T) c (ae (aa 2 rfl) aj af) R.kn) ?_);show Ws _ _ _ _ _ _ [some (.dsk true T.aag a d z),some (.val (sT (jn (w::y::f)))),some (.val (.lst (sT w::(y::f).map sT))),some (.val (.lst ((gQ::u).map U.str))),none,none,none];refine ac (mE (ys:=sT y::D) (j:=4) false rfl bj.nd rfl (Or.inl rfl) (blk (ai fP) ["self","row","words","kinds","given","kind","word"] [5,6] rfl rfl rfl rfl (by decide+kernel)) (A8 rfl T.abd (aa 3 rfl) (.inl rfl) (EvN.ev (bY (aa 2 rfl) (ck ah) cj (.inl rfl))) (.inl rfl) ?l12 af aU) (λ_ _ _ _=>jO rfl (be (aR (i:=5) bj.nd rfl (Or.inl rfl)) (be (aR (i:=6) bj.nd rfl (Or.inl rfl)) fH))) (i7 (js:=[5,6]) (by decide)) ?clen ?csz ?dom ?celt ?_)
 case l12=>rw[lF,JK,JK,l1]
 case clen=>rw[lF,gl _ _ (by rw[JK,JK,l1]),JK,l1,l2]
 case csz=>rw[lF,gl _ _ (by rw[JK,JK,l1]),JK,l1];exact Kd (aB (by lia))
 case dom=>
  rw[lF];intro x q;obtain⟨i,L⟩:=KJ.mp q;obtain⟨_,_,_,_,rfl⟩:=gM _ _ _ _ L;exact⟨_,rfl,rfl⟩
 case celt=>
  rw[lF];intro C Q S fp j x t q hy;obtain⟨_,_,N,e,rfl⟩:=gM _ _ _ _ q;obtain⟨k,g,_,rfl⟩:=uJ N;obtain⟨B,n,_,rfl⟩:=uJ e;exact xo (i9 T) 0 T.aad c rfl (ae (aa 5 rfl) (ae (aa 6 rfl) aj af) af) ⟨k,T' B,t,rfl,R.rd j k B t g n hy,rfl⟩
 refine ac (aL (av (aX c) (aC (aa 2 rfl) ah rfl (cf (i:=0) rfl rfl)) aE) R.nn (ay ?_));refine ac (aL (av (aX c) (aC (aa 2 rfl) ah rfl (cf (i:=0) rfl rfl)) aE) R.nd (ay ?_));refine ac (cA (av (aX c) (aC (aa 3 rfl) ah rfl (cf (i:=0) rfl rfl)) aE) (by decide+kernel) ?_);refine ac (Di (i:=0) rfl (jK (i:=0) rfl T.aad T.aaj.m ((o8 T).mono (by decide)) c T.aaj.b c7 (ae (aC (aa 2 rfl) ah rfl (cf (i:=1) rfl rfl)) (ae (EvN.ev (eJ (Dh T) c (ae (aC (aa 2 rfl) ah rfl (cf (i:=0) rfl rfl)) (ae (EvN.ev (bY (aa 4 rfl) (ck ah) cj (.inl rfl))) aj aU) aU) (by rw[lF];exact v))) aj br) aU) ⟨T' y,l,rfl,r,G,e,g,rfl⟩) ?_);exact rfl
theorem CQ:bV P w K mg base (CXF P w) 1 T.aai.a T.aai.d ["self"] (spI T.aag):=
 DF T.aai.F pK rfl rfl rfl T.aad T.aap rfl
end
section
variable {P:J2}{w:Kt}{K:JI}{mg:Str→Option J0}{base:Mf} (T:Txt w K mg)
noncomputable def cel(ns:List Int)(k:Int):Int:=if k<(ns.length:Int) then ns.getD k.toNat 0 else 7*k*k+3*k+1
theorem lI(h:∀m∈ns,Sz 1048576 m)(a:0<=k)(b:k<1000):Sz 1048576 (cel ns k):=by
 unfold cel;split
 .exact Dw h _
 .refine Sz.mono (m:=100) ?_ (by decide)
  have:7*k*k<=7*1000*1000:=by
   have:k*k<=1000*1000:=T5 (by lia) (by lia) a (by lia);rw[Ml];lia
  have c:0<=7*k*k:=Li (by lia) a;unfold Sz;lia
def xF:List U->Out->Prop:=λa o=>∃(ns:List Int) (k:Int),a=[.scr (ns.map U.int),.int k]/\ns.length<=63/\0<=k/\k<1000/\o=.val (.int (cel ns k))
theorem bz:OkD P w base T.aaQ 1 (xF):=by
 refine okD o7 (by walk_at"ln") ?_;rintro _ _ _ i ⟨ns,k,rfl,g,e,h,rfl⟩;have f:Sz 64 k:=by unfold Sz;lia
 have b:((ns.map U.int).length)=ns.length:=by rw[JK]
 refine ac (nD (av h_ (aa 1 rfl) (aw (bF rfl) rfl T.aac J5 (ae (aa 0 rfl) aj af))) (λc=>?_) (λd=>(ay ?_)))
 .rw[b]at c;have a:=dTb c;refine ac (aN (aC (aa 0 rfl) (aa 1 rfl) rfl (zE e a)) ?_);exact vIO (by unfold cel;rw[if_pos a])
 .rw[b]at d;have a:=dFb d;refine ac (aN (bT (bT (aV (aV ah (aa 1 rfl) (by walk_at"mul")) (aa 1 rfl) (by walk_at"mul")) (aV ah (aa 1 rfl) (by walk_at"mul"))) ah) ?_)
  exact vIO (by unfold cel;rw[if_neg a])
def yb:List U->Out->Prop:=λa o=>∃P Q R:P2,a=[pu P,pu Q,pu R]/\Szp 5000 P/\Szp 5000 Q/\Szp 5000 R/\o=.val (.int (aA P Q R))
theorem qw:OkD P w base T.aaR 1 (yb):=by
 refine okD pM (by walk_at"ln") ?_;rintro _ _ _ f ⟨P,Q,R,rfl,⟨e,d⟩,⟨c,g⟩,⟨a,b⟩,rfl⟩;refine ac (aN (bp (aV (bp (aC (aa 1 rfl) ah rfl rfl) (aC (aa 0 rfl) ah rfl rfl)) (bp (aC (aa 2 rfl) ah rfl rfl) (aC (aa 0 rfl) ah rfl rfl)) (by walk_at"mul")) (aV (bp (aC (aa 1 rfl) ah rfl rfl) (aC (aa 0 rfl) ah rfl rfl)) (bp (aC (aa 2 rfl) ah rfl rfl) (aC (aa 0 rfl) ah rfl rfl)) (by walk_at"mul"))) ?_);exact rfl
theorem jt:OkD P w base T.aaS 2 (mf):=by
 refine okD fv (by walk_at"ln") ?_;rintro _ _ _ hr ⟨row,rfl,sz,hl,rfl⟩;refine ac (oy (i:=1) fv.nd rfl (Or.inl rfl) (fA bG) ?_);refine ac (jL (λst:List P2=>[some (.val (lp row)),some (.own (st.reverse.map pu)),none]) (λi st=>st=ao (row.take i)) rfl PassesOwn.never (df (aa 0 rfl) (.inl rfl)) ?h0 ?hs ?hd)
 case h0=>exact⟨[],rfl,rfl,rfl,trivial⟩
 case hs=>
  rintro H0 i x _ hx rfl;obtain⟨P,hP,mP,rfl⟩:=A7 hx;have hi:=aT hP;have sP:=sz P mP;refine⟨_,(j4 (i:=2) fv.nd rfl (Or.inl rfl)),?_⟩;have len0:=hJ row i;refine o0 (λps=>SubP [some (.val (lp row)),some (.own ((a_ P (ao (row.take i))).reverse.map pu)),some (.val (pu P))] ps) (jj (λs2:List P2=>[some (.val (lp row)),some (.own (s2.reverse.map pu)),some (.val (pu P))]) (λm s2=>m=s2.length/\a_ P s2=a_ P (ao (row.take i))/\(∀p∈s2,p∈row)/\s2.length<=i) PassesOwn.never ?h0 ?hs) ?hj
  case h0=>exact⟨_,_,⟨rfl,rfl,λq hq=>eZ row i q hq,len0⟩,rfl,rfl,rfl,trivial⟩
  case hs=>
   rintro m s2 ⟨rfl,e2,sub,len2⟩
   match s2,e2,sub,len2 with
   |[],e2,sub,len2=>
    refine⟨false,?_,λh=>(nomatch h),λh ps VH=>e2 ▸ VH⟩;exact (Tw.t (pN (av j0 (gF 1 rfl rfl T.aac) ah) rfl))
   |[b],e2,sub,len2=>
    refine⟨false,?_,λh=>(nomatch h),λh ps VH=>e2 ▸ VH⟩;exact (Tw.t (pN (av j0 (gF 1 rfl rfl T.aac) ah) rfl))
   |b::a::r,e2,sub,len2=>
    have sa:=sz a (sub a (by simp));have sb:=sz b (sub b (by simp));have e1:decide (1<((((b::a::r).reverse.map pu).length:Nat):Int))=true:=decide_eq_true (by simp;lia);refine⟨decide (1<((((b::a::r).reverse.map pu).length:Nat):Int)) && decide (aA a b P<=0),?_,λh=>?_,λh ps VH=>?_⟩
    .exact (Tw.t (zG (av j0 (gF 1 rfl rfl T.aac) ah) (λhz=>(zY (av IS (aQ (qw T) hr (ae (v7 1 rfl (bU ah) (EZ b a r)) (ae (v7 1 rfl (bU ah) (EN b (a::r))) (ae (aa 2 rfl) aj af) aU) aU) ⟨a,b,P,rfl,sa,sb,sP,rfl⟩) ah)))))
    .rw[e1,Ol]at h;have hd:=dTb h;refine ac (Fh 1 rfl (by simp) (ay ?_))
     refine⟨_,a::r,?_,⟨rfl,?_,λq hq=>sub q (JL _ hq),?_⟩,rfl,?_,rfl,trivial⟩
     .simp
     .rw[←e2];conv=>rhs;unfold a_
      rw[if_pos hd]
     .simp only[JX]at *;lia
     .exact congrArg (λl=>some (Sl.own l)) (by simp)
    .rw[e1,Ol]at h;have hd:=dFb h
     have e3:a_ P (b::a::r)=b::a::r:=by conv=>lhs;unfold a_
                                        rw[if_neg hd]
     rw[<-e2,e3];exact VH
  case hj=>
   intro ps VH;refine eC ?_ VH;have e4:=fK hP;have len3:=k7 P (ao (row.take i));refine ac (gN 1 rfl (aa 2 rfl) (by rw[JK,KD];exact aB (by lia)) (ay ?_));refine⟨_,rfl,rfl,?_,trivial⟩;exact congrArg (λl=>some (Sl.own l)) (by rw[e4];simp)
 case hd=>
  rintro st ps VE VH;refine eC ?_ VH;refine ac (mh 1 rfl ?_);rw[VE];simp
def pF:List U->Out->Prop:=λa o=>∃pts:List P2,a=[lp pts]/\(∀p∈pts,Szp 5000 p)/\pts.length<64/\o=.new ((ak pts).map pu)
theorem AQ(h:(ST.srt pts).length=2):ak pts=ST.srt pts:=by
 obtain⟨a,b,e⟩:=L2.len2 h;unfold ak;rw[e];simp[ao,a_]
theorem fY:OkD P w base T.aaq 3 (pF):=by
 refine okD dy (by walk_at"ln") ?_;rintro _ _ _ c ⟨pts,rfl,sz,d,rfl⟩;have l:=ST.srt_len pts;have b:(((ST.srt pts).map pu).length)=((ST.srt pts).length):=by rw[JK]
 have a:=zZ sz;by_cases k:(ST.srt pts).length<3
 .refine ac (oy (i:=1) dy.nd rfl (Or.inl rfl) (fJ rfl (iG c) rfl T.aak rfl T.abc (aa 0 rfl) d af) ?_);refine ac (cA (av h_ (gF 1 rfl rfl T.aac) ah) (by rw[b];exact decide_eq_true (by lia)) ?_);refine ac (mh 1 rfl ?_)
  have f:ak pts=ST.srt pts:=by
   by_cases g:(ST.srt pts).length=2
   .exact AQ g
   .exact fE (by lia)
  rw[f]
 .refine ac (ax 1 dy.nd (EvN.ev (fJ rfl (iG c) rfl T.aak rfl T.abc (aa 0 rfl) d af)) ?_);refine ac (aL (av h_ (aw (bF rfl) rfl T.aac J5 (ae (aa 1 rfl) aj af)) ah) (by rw[b];exact decide_eq_false (by lia)) (ay ?_));have j:=jc (ST.srt pts);have e:=jc (ST.srt pts).reverse;rw[KD]at e;refine ac (dZ (kq (EvN.ev (bY (EvN.ev (eJ (jt T) c (ae (aa 1 rfl) aj af) ⟨ST.srt pts,rfl,a,by lia,rfl⟩)) cj (ck (bU ah)) (.inl rfl))) (EvN.ev (bY (EvN.ev (eJ (jt T) c (ae (EvN.ev (yd rfl rfl T.abf rfl T.aa1 (aa 1 rfl) af)) aj br) ⟨(ST.srt pts).reverse,by rw[lp,Mb],λp h=>a p (J7.mp h),by rw[KD];lia,rfl⟩)) cj (ck (bU ah)) (.inl rfl))) (by rw[fF,fF,JK,JK,Ls,Ls,KD,KD];exact Kd (aB (by lia)))) ?_)
  unfold ak;rw[if_neg (by lia),fF,fF,<-Kx]
end
section
variable {P:J2}{w:Kt}{K:JI}{mg:Str→Option J0}{base:Mf} (T:Txt w K mg)
noncomputable def pB(c l:Int):P2:=(c%5,if l%5=1 then (if l/5%3=0 then 2 else if l/5%3=1 then c%5 else 4-c%5) else c/5%5)
theorem IO(c l):Wn (pB c l):=by
 unfold Wn pB;refine⟨⟨by lia,by lia⟩,?_,?_⟩ <;>(repeat' split) <;>lia
theorem IY(x l):atI ([.int 2,.int x,.int (4-x)]:List U) (l/5%3)=some (.int (if l/5%3=0 then 2 else if l/5%3=1 then x else 4-x)):=by
 have h:l/5%3=0\/l/5%3=1\/l/5%3=2:=by lia
 rcases h with h |h |h <;>rw[h] <;>rfl
noncomputable def nP(ns:List Int):Nat:=max 12 (min ns.length 60)-10
noncomputable def ptI(ns:List Int)(i:Nat):P2:=pB (cel ns (10+(i:Int))) (cel ns 0)
noncomputable def tL(ns:List Int):List P2:=(Kr (nP ns)).map (ptI ns)
theorem Ht(ns):2<=nP ns/\nP ns<=50:=by unfold nP;lia
def Av:List U->Out->Prop:=λa o=>∃ns:List Int,a=[.scr (ns.map U.int)]/\ns.length<=63/\(∀m∈ns,Sz 1048576 m)/\o=.new ((tL ns).map pu)
theorem Jy(ns:List Int):(if (if (60:Int)<((ns.map U.int).length:Int) then (60:Int) else ((ns.map U.int).length:Int)) >12 then (if (60:Int)<((ns.map U.int).length:Int) then (60:Int) else ((ns.map U.int).length:Int)) else 12)=((max 12 (min ns.length 60):Nat):Int):=by
 rw[JK];split <;>split <;>lia
theorem lj:OkD P w base T.aaA 2 (Av):=by
 refine okD bC (by walk_at"ln") ?_;rintro _ _ _ d ⟨ns,rfl,e,s,rfl⟩;have b:=Jy ns;refine ac (ax 1 bC.nd (aQ (bz T) d (ae (aa 0 rfl) (ae ah aj aJ) af) ⟨ns,_,rfl,e,by decide,by decide,rfl⟩) ?_);refine ac (oy (i:=2) bC.nd rfl (Or.inl rfl) (fA bG) ?_);refine ac (jL (λi:Nat=>[some (.val (.scr (ns.map U.int))),some (.val (.int (cel ns 0))),some (.own (((Kr i).map (ptI ns)).map pu)),none,none,none]) (λi j=>i=j) rfl PassesOwn.never (Ai rfl T.aaV (ae ah (ae (aw (HU rfl) rfl T.abv boot_max (ae ah (ae (aw (Fd rfl) rfl T.abm boot_min (ae (aw (bF rfl) rfl T.aac J5 (ae (aa 0 rfl) aj af)) (ae ah aj aJ) br)) aj br) aJ)) aj br) aJ) ⟨by decide,by decide,by rw[b];lia,by rw[b];lia⟩) ?h0 ?hs ?hd)
 case h0=>exact⟨0,rfl,rfl,rfl,rfl,trivial⟩
 case hs=>
  rintro r i x _ o rfl;obtain⟨p,rfl⟩:=iC o;refine⟨_,(j4 (i:=3) bC.nd rfl (Or.inl rfl)),?_⟩;refine ac (ax 4 bC.nd (dB (aQ (bz T) d (ae (aa 0 rfl) (ae (aa 3 rfl) aj af) af) ⟨ns,_,rfl,e,by lia,by lia,rfl⟩) ah (by walk_at"mod")) ?_);refine ac (ax 5 bC.nd (dB (ir (aQ (bz T) d (ae (aa 0 rfl) (ae (aa 3 rfl) aj af) af) ⟨ns,_,rfl,e,by lia,by lia,rfl⟩) ah (by walk_at"div")) ah (by walk_at"mod")) ?_)
  have k:((Kr i).map (ptI ns)).map pu++[pu (ptI ns i)]=((Kr (i+1)).map (ptI ns)).map pu:=by
   rw[Oq,Kx,Kx];rfl
  have a:(((Kr i).map (ptI ns)).map pu).length<=1000:=by simp;lia
  refine o0 (λf=>SubP [some (.val (.scr (ns.map U.int))),some (.val (.int (cel ns 0))),some (.own (((Kr i).map (ptI ns)).map pu)),some (.val (.int (10+i))),some (.val (.int (ptI ns i).1)),some (.val (.int (ptI ns i).2))] f) (nD (av fX (dB (aa 1 rfl) ah (by walk_at"mod")) ah) (λn=>?_) (λm=>(ay ?_))) ?hj
  .refine ac (ax 5 bC.nd (aC (EvN.ev (fA (aq ah (aq (aa 4 rfl) (aq (bp ah (aa 4 rfl)) bG bi) af) aJ))) (dB (ir (aa 1 rfl) ah (by walk_at"div")) ah (by walk_at"mod")) rfl (IY _ _)) (ay ?_));refine⟨rfl,rfl,rfl,rfl,rfl,?_,trivial⟩;exact congrArg (λz=>some (Sl.val (.int z))) (show _=(ptI ns i).2 by unfold ptI pB;dsimp only;rw[if_pos (dTb n)])
  .refine⟨rfl,rfl,rfl,rfl,rfl,?_,trivial⟩;exact congrArg (λz=>some (Sl.val (.int z))) (show _=(ptI ns i).2 by unfold ptI pB;dsimp only;rw[if_neg (dFb m)])
  case hj=>
   intro f c;refine eC ?_ c;refine ac (gN 2 rfl (bE (aq (aa 4 rfl) (aq (aa 5 rfl) bG af) af)) (aB a) (ay ?_));refine⟨i+1,rfl,rfl,rfl,?_,trivial⟩;exact congrArg (λl=>some (Sl.own l)) k
 case hd=>
  rintro q f h c;refine eC ?_ c;rw[dX,b]at h;have g:q=nP ns:=by unfold nP;lia
  subst g;refine ac (mh 2 rfl ?_);exact rfl
end
section
variable {P:J2}{w:Kt}{K:JI}{mg:Str→Option J0}{base:Mf} (T:Txt w K mg)
noncomputable def t10(c f:Int):Int:=c*f%(2*10 ^ (10:Int).toNat+1)-10 ^ (10:Int).toNat
noncomputable def t40(c f:Int):Int:=c*f%(2*10 ^ (40:Int).toNat+1)-10 ^ (40:Int).toNat
theorem ET(b:0<=m)(h:Sz k m)(z):Sz k (z%(2*m+1)-m):=by
 have a:=On z (show 2*m+1≠0 by lia);have c:=NH z (show 0<2*m+1 by lia);unfold Sz at *;lia
theorem pe(c f):Sz 34 (t10 c f):=ET (by decide+kernel) (by decide+kernel) _
theorem Co(c f):Sz 133 (t40 c f):=ET (by decide+kernel) (by decide+kernel) _
noncomputable def Ej(m n o d q:Int):M6:=if q%2=1 then ⟨m,1+m*n,1,n,o,d⟩ else ⟨1+m*n,m,n,1,o,d⟩
noncomputable def AL(ns:List Int):M6:=Ej (t10 (cel ns 1) 48271) (t10 (cel ns 2) 16807) (t40 (cel ns 4) 982451653) (t40 (cel ns 5) 69621) (cel ns 3)
structure Tb6(m:M6):Prop where
 a:Sz 72 m.a
 b:Sz 72 m.b
 c:Sz 72 m.c
 d:Sz 72 m.d
 e:Sz 133 m.e
 f:Sz 133 m.f
 u:m.U
theorem F5(ns):Tb6 (AL ns):=by
 have m:=pe (cel ns 1) 48271;have n:=pe (cel ns 2) 16807;have o:=Co (cel ns 4) 982451653;have d:=Co (cel ns 5) 69621;have k:Sz 8 1:=by decide
 have a:Sz 72 (1+t10 (cel ns 1) 48271*t10 (cel ns 2) 16807):=(L2.Sz.add' k (L2.Sz.mul m n)).mono (by decide);unfold AL Ej;split
 .exact⟨m.mono (by decide),a,k.mono (by decide),n.mono (by decide),o,d,.inr (by dsimp only;grind)⟩
 .exact⟨a,m.mono (by decide),n.mono (by decide),k.mono (by decide),o,d,.inl (by dsimp only;grind)⟩
noncomputable abbrev six(m:M6):List U:=[.int m.a,.int m.b,.int m.c,.int m.d,.int m.e,.int m.f]
def Ba:List U->Out->Prop:=λa o=>∃ns:List Int,a=[.scr (ns.map U.int)]/\ns.length<=63/\(∀m∈ns,Sz 1048576 m)/\o=.new (six (AL ns))
theorem nN:OkD P w base T.aaI 2 (Ba):=by
 refine okD cF (by walk_at"ln") ?_;rintro _ _ _ a ⟨ns,rfl,b,c,rfl⟩;have l:=lI c (k:=1) (by decide) (by decide);have h:=lI c (k:=2) (by decide) (by decide);have i:=lI c (k:=4) (by decide) (by decide);have g:=lI c (k:=5) (by decide) (by decide);refine ac (ax 1 cF.nd (bp (dB (aV (aQ (bz T) a (ae (aa 0 rfl) (ae ah aj aJ) af) ⟨ns,_,rfl,b,by decide,by decide,rfl⟩) ah (by walk_at"mul")) (bT (aV ah (iT ah ah ⟨by decide,by decide,by decide⟩) (by walk_at"mul")) ah) (by decide+kernel)) (iT ah ah ⟨by decide,by decide,by decide⟩)) ?_);refine ac (ax 2 cF.nd (bp (dB (aV (aQ (bz T) a (ae (aa 0 rfl) (ae ah aj aJ) af) ⟨ns,_,rfl,b,by decide,by decide,rfl⟩) ah (by walk_at"mul")) (bT (aV ah (iT ah ah ⟨by decide,by decide,by decide⟩) (by walk_at"mul")) ah) (by decide+kernel)) (iT ah ah ⟨by decide,by decide,by decide⟩)) ?_);refine ac (ax 3 cF.nd (bp (dB (aV (aQ (bz T) a (ae (aa 0 rfl) (ae ah aj aJ) af) ⟨ns,_,rfl,b,by decide,by decide,rfl⟩) ah (by walk_at"mul")) (bT (aV ah (iT ah ah ⟨by decide,by decide,by decide⟩) (by walk_at"mul")) ah) (by decide+kernel)) (iT ah ah ⟨by decide,by decide,by decide⟩)) ?_);refine ac (ax 4 cF.nd (bp (dB (aV (aQ (bz T) a (ae (aa 0 rfl) (ae ah aj aJ) af) ⟨ns,_,rfl,b,by decide,by decide,rfl⟩) ah (by walk_at"mul")) (bT (aV ah (iT ah ah ⟨by decide,by decide,by decide⟩) (by walk_at"mul")) ah) (by decide+kernel)) (iT ah ah ⟨by decide,by decide,by decide⟩)) ?_);show Ws _ _ _ _ _ _ [some (.val (.scr (ns.map U.int))),some (.val (.int (t10 (cel ns 1) 48271))),some (.val (.int (t10 (cel ns 2) 16807))),some (.val (.int (t40 (cel ns 4) 982451653))),some (.val (.int (t40 (cel ns 5) 69621)))];have j:=pe (cel ns 1) 48271;have p:=pe (cel ns 2) 16807;unfold AL;generalize t10 (cel ns 1) 48271=m at *;generalize t10 (cel ns 2) 16807=n at *;generalize t40 (cel ns 4) 982451653=o at *;generalize t40 (cel ns 5) 69621=d at *;refine ac (nD (av fX (dB (aQ (bz T) a (ae (aa 0 rfl) (ae ah aj aJ) af) ⟨ns,_,rfl,b,by decide,by decide,rfl⟩) ah (by walk_at"mod")) ah) (λe=>?_) (λf=>(ay ?_)))
 .refine ac (dZ (fA (aq (aa 1 rfl) (aq (bT ah (aV (aa 1 rfl) (aa 2 rfl) (by walk_at"mul"))) (aq ah (aq (aa 2 rfl) (aq (aa 3 rfl) (aq (aa 4 rfl) bG af) af) af) aJ) bi) af)) ?_);unfold Ej;rw[if_pos (dTb e)]
 .refine ac (dZ (fA (aq (bT ah (aV (aa 1 rfl) (aa 2 rfl) (by walk_at"mul"))) (aq (aa 1 rfl) (aq (aa 2 rfl) (aq ah (aq (aa 3 rfl) (aq (aa 4 rfl) bG af) af) aJ) af) af) bi)) ?_);unfold Ej;rw[if_neg (dFb f)]
def Be:List U->Out->Prop:=λa o=>∃(m:M6) (p:P2),a=[.lst (six m),pu p]/\Sz6 1000 m/\Szp 400 p/\o=.val (pu (m.go p))
theorem im:OkD P w base T.aaJ 1 (Be):=by
 refine okD bL (by walk_at"ln") ?_;rintro _ _ _ k ⟨m,p,rfl,s,z,rfl⟩;have e:=s.a;have f:=s.b;have h:=s.c;have i:=s.d;have j:=z.1;have g:=z.2;refine ac (Ie (aa 0 rfl) (HD [2,3,4,5,6,7] rfl (be (aR bL.nd rfl (Or.inl rfl)) (be (aR bL.nd rfl (Or.inl rfl)) (be (aR bL.nd rfl (Or.inl rfl)) (be (aR bL.nd rfl (Or.inl rfl)) (be (aR bL.nd rfl (Or.inl rfl)) (be (aR bL.nd rfl (Or.inl rfl)) fH)))))) (.inl rfl) rfl) ?_);refine ac (aN (bE (aq (bT (bT (aV (aa 2 rfl) (aC (aa 1 rfl) ah rfl rfl) (by walk_at"mul")) (aV (aa 3 rfl) (aC (aa 1 rfl) ah rfl rfl) (by walk_at"mul"))) (aa 6 rfl)) (aq (bT (bT (aV (aa 4 rfl) (aC (aa 1 rfl) ah rfl rfl) (by walk_at"mul")) (aV (aa 5 rfl) (aC (aa 1 rfl) ah rfl rfl) (by walk_at"mul"))) (aa 7 rfl)) bG bi) bi)) ?_);exact rfl
end
section
variable {P:J2}{w:Kt}{K:JI}{mg:Str→Option J0}{base:Mf} (T:Txt w K mg)
def ye:List U->Out->Prop:=λa o=>∃n:Int,a=[sT (ds n)]/\n.natAbs<10 ^ 300/\o=.val (.int n)
theorem Js:(Str.ofString "0123456789":Str)=T' D10:=rfl
theorem mM:OkD P w base T.aaB 1 (ye):=by
 refine okD dJ (by walk_at"ln") ?_;rintro _ _ _ f ⟨n,rfl,b,rfl⟩;have C:=cW (by decide) b;have E:=pj (by decide) b;obtain⟨B,a⟩:=kS n
 have q:StrLaws.sliceText (T' (ds n)) (some (if eqW (.str (StrLaws.sliceText (T' (ds n)) none (some 1))) (.str (Str.ofString "-"))=true then 1 else 0)) none=T' (ds (n.natAbs:Int)):=by
  have j:StrLaws.sliceText (T' (ds n)) none (some 1)=T' ((ds n).take 1):=Ft (ds n) 1
  have v:eqW (.str (T' ((ds n).take 1))) (.str (Str.ofString "-"))=decide (n<0):=by
   rw[eqS];refine decide_eq_decide.mpr ⟨λh=>a.mp ?_,λh=>?_⟩
   .have:=pT (m:=[45]) h;cases e:ds n with
    |nil=>rw[e]at this;cases this
    |cons c r=>rw[e]at this;simp at this;rw[this];rfl
   .have:=a.mpr h;cases e:ds n with
    |nil=>rw[e]at this;cases this
    |cons c r=>rw[e]at this;simp at this;rw[this];rfl
  rw[j,v];by_cases z:n<0
  .rw[decide_eq_true z,if_pos rfl];have:=lM (ds n) 1;rw[show ((1:Nat):Int)=1 from rfl]at this
   rw[this,<-B,jb (a.mpr z)];simp[bw]
  .rw[decide_eq_false z,if_neg (by simp)];have:=lM (ds n) 0;rw[show ((0:Nat):Int)=0 from rfl]at this
   rw[this,Ru,show n=(n.natAbs:Int) by lia];simp
 have k:(T' (ds n)).length<=sizeLine:=by rw[bg];exact Kd (aB (by lia))
 refine ac (ax 1 dJ.nd (lW (aa 0 rfl) (ck (cP F7 rfl T.aa3 SX (ae (lX (aX f) (lW (aa 0 rfl) cj (ck ah) k) aE) aj F3))) cj k) ?_);rw[q];have g:(T' (ds (n.natAbs:Int))).length<=sizeLine:=by rw[bg];exact Kd (aB (by lia))
 have j:(T' (ds (n.natAbs:Int))).cps.toList=ds (n.natAbs:Int):=by simp
 refine ac (jL (λ_:Unit=>[some (.val (sT (ds n))),some (.val (sT (ds (n.natAbs:Int)))),none]) (λ_ _=>True) rfl PassesOwn.never (A4 (aa 1 rfl)) ?h0 ?hs ?hd)
 case h0=>exact⟨(),trivial,rfl,rfl,trivial⟩
 case hs=>
  intro D i x _ l _;rw[j]at l;obtain⟨c,G,y,rfl⟩:=uJ l;refine⟨_,(j4 (i:=2) dJ.nd rfl (Or.inl rfl)),?_⟩
  have A:(!(!(Builtin.Str.occurrences (Str.ofString "0123456789") ⟨#[c]⟩ 0 (Str.ofString "0123456789").length 1).isEmpty))=false:=by
   rw[Js,in1 D10 c,decide_eq_true ((qg c).mpr (gJ _ c y))];rfl
  refine ac (aL (av GR (aa 2 rfl) aE) A (ay (ay ?_)));exact⟨(),trivial,rfl,rfl,trivial⟩
 case hd=>
  intro _ F _ p;refine eC ?_ p
  have o:eqW (sT (ds (n.natAbs:Int))) (.str (Str.ofString ""))=false:=by
   rw[eqS];exact decide_eq_false λh=>tD n.natAbs (pT (m:=[]) h)
  have s:((T' (ds (n.natAbs:Int))).length:Int)=((ds (n.natAbs:Int)).length:Int):=by rw[bg]
  have d:eqW (.str (Str.ofString (OE n))) (sT (ds n))=true:=by rw[nE,eqS];exact decide_eq_true rfl
  refine ac (aL (Tw.t (jv (av (aX f) (aa 1 rfl) aE) (λu=>(jv (av j0 (aw (gr g) rfl T.aac J5 (ae (aa 1 rfl) aj af)) ah) (λu=>(io (av (fi f) (cP (iH (Ik b)) rfl T.aas Pc (ae (cP (uF (w6 b) (by rw[bg];lia)) rfl T.aa3 SX (ae (aa 0 rfl) aj af)) aj br)) (aa 0 rfl)))))))) (by rw[o,s,decide_eq_false (by lia),d];rfl) (ay ?_));refine ac (aN (cP (uF (w6 b) (by rw[bg];lia)) rfl T.aa3 SX (ae (aa 0 rfl) aj af)) ?_);exact rfl
def Ak:List U->Out->Prop:=λa o=>∃l:List P2,a=[lp l]/\(∀p∈l,B60 p)/\l.length<=61/\o=.val (sT (jn (l.map ptD)))
theorem eS:OkD P w base T.aaK 1 (Ak):=by
 refine okD eN (by walk_at"ln") ?_;rintro _ _ _ n ⟨l,rfl,a,h,rfl⟩;refine ac (aN (qu (l:=l.map λp=>T' (ptD p)) aE ?ej cN (wQ a h)) ?_)
 case ej=>
  rw[<-HH];refine EvN.ev ?_;refine (cZ (ys:=(l.map λp=>sT (ptD p))) rfl (blk (ai fQ) ["points","x","y"] [1,2] rfl rfl rfl rfl (by decide+kernel)) (df (aa 0 rfl) (.inl rfl)) (λ_ _ _ _=>jO rfl (be (aR (i:=1) eN.nd rfl (Or.inl rfl)) (be (aR (i:=2) eN.nd rfl (Or.inl rfl)) fH))) (i7 (js:=[1,2]) (by decide)) ?clen ?csz ?dom ?celt)
  case clen=>simp
  case csz=>rw[JK];exact Kd (aB (by lia))
  case dom=>
   intro x b;obtain⟨i,g⟩:=KJ.mp b;obtain⟨p,e,d,rfl⟩:=A7 g;exact⟨_,rfl,rfl⟩
  case celt=>
   intro C m o fp j x y b hy;obtain⟨p,e,d,rfl,rfl⟩:=bZ b hy;have a:=a p d;have k:=mt (Ma a.1 (show 10 ^ 60<10 ^ 62 by decide+kernel));have f:=mt (Ma a.2 (show 10 ^ 60<10 ^ 62 by decide+kernel));have l1:=cW (by decide) a.1;have l2:=cW (by decide) a.2;have c:(Str.ofString ",":Str).length=1:=rfl;show Ev _ _ _ _ _ (.str (T' (ptD p)));rw[show T' (ptD p)=Str.ofString (OE p.1)++(Str.ofString ",":Str)++Str.ofString (OE p.2) by rw[nE,nE,rY];rfl];exact (iE (iE (cP (iH k) rfl T.aas Pc (ae (aa 1 rfl) aj af)) aE (by rw[c,nE,bg];exact Kd (aB (by lia)))) (cP (iH f) rfl T.aas Pc (ae (aa 2 rfl) aj af)) (by rw[vR,c,nE,nE,bg,bg];exact Kd (aB (by lia))))
 rw[show (l.map λp=>T' (ptD p))=(l.map ptD).map T' by rw[Ka];rfl];refine congrArg (λz=>Out.val (.str z)) ?_;exact Am (l.map ptD)
end
section
variable {P:J2}{w:Kt}{K:JI}{mg:Str→Option J0}{base:Mf} (T:Txt w K mg)
def lP:List U->Out->Prop:=λa o=>∃(x:List Nat) (ns:List Int),a=[sT x]/\spl 32 (cC x)=ns.map ds/\(∀n∈ns,n.natAbs<10 ^ 300)/\x.length<=8200/\ns.length<=900/\o=.new (ns.map U.int)
theorem dz  :eu P w K mg base (CXF P w) 2 T.aab.a T.aab.d ["answer_v"] (spU K (lP)):=by
 refine Bs T.aab.F fW (λq o h=>?_) (λk A e s H E O q o p h=>?_)
 .obtain⟨x,ns,rfl,b,f,m,g,rfl⟩:=h;rfl
 obtain⟨x,ns,rfl,b,f,m,g,rfl⟩:=h;have u:(cC x).length=x.length:=by unfold cC;simp
 refine Jd ?_;refine (aL (jp (ik (aw (eX (by intro _ h;cases h) (gd _)) rfl T.aaf NS (ae (aa 0 rfl) (ae (yk rfl T.aas Pc) aj af) af)))) rfl (ay ?_));refine xh (CY (Dy (ys:=ns.map U.int) rfl (blk (ai dN) ["answer_v","word"] [1] rfl rfl rfl rfl (by decide+kernel)) (xM (c:=32) (l:=cC x) (zQ (congrArg U.str (Hn x)) (Fu (i:=0) rfl (by decide+kernel) ?hz)) aE aJ ?hy rfl) (λ_ _ _ _=>aR (i:=1) fW.nd rfl (Or.inl rfl)) (bN (by decide)) ?clen ?csz (λ_ _=>trivial) ?celt) ?_)
 case hz=>rw[bg,show (Str.ofString " ":Str).length=1 from rfl];lia
 case hy=>exact sz2 (by lia)
 case clen=>rw[b];simp
 case csz=>rw[b];simp;exact Kd (aB (by lia))
 case celt=>
  rw[b,Ka];intro C v z fp j x y t hy;obtain⟨n,g,r,rfl,rfl⟩:=bZ t hy;exact (aQ (mM T) p (ae (aa 1 rfl) aj af) ⟨n,rfl,f n r,rfl⟩)
 exact rfl
end
section
variable {P:J2}{w:Kt}{K:JI}{mg:Str→Option J0}{base:Mf} (T:Txt w K mg)
noncomputable def flt:List P2->List Int
 |[]=>[]
 |p::r=>p.1::p.2::flt r
theorem ph:∀l,(flt l).length=2*l.length
 |[]=>rfl
 |p::r=>by unfold flt;rw[JX,JX,ph r,JX];lia
theorem vX{q:Int->Prop}:∀{l},(∀p∈l,q p.1/\q p.2)->∀n∈flt l,q n
 |[],_,n,h=>by simp[flt]at h
 |p::r,hq,n,h=>by
  rcases JN.mp h with k |k
  .rw[k];exact (hq p JP).1
  .rcases JN.mp k with k |k
   .rw[k];exact (hq p JP).2
   .exact vX (λx a=>hq x (JL _ a)) n k
theorem vD(p):cC (ptD p)=ds p.1++32::ds p.2:=by
 have b:=lR (dg p.1 (by lia));have a:=lR (dg p.2 (by lia));unfold ptD;unfold cC at *;rw[Kx,J6,b,a];rfl
theorem BH:∀l,l≠[]->cC (jn (l.map ptD))=jn ((flt l).map ds)
 |[],h=>absurd rfl h
 |[p],_=>by
  show cC (ptD p)=jn [ds p.1,ds p.2];rw[vD];rfl
 |p::q::r,_=>by
  have ih:=BH (q::r) (by simp);rw[J6,bQ _ (by simp)]
  have e:cC (ptD p++32::jn ((q::r).map ptD))=cC (ptD p)++32::cC (jn ((q::r).map ptD)):=by
   unfold cC;rw[Kx,J6];rfl
  rw[e,ih,vD];show _=jn (ds p.1::ds p.2::(flt (q::r)).map ds);rw[bQ _ (by simp),bQ _ (by simp[flt])];simp
theorem D9(h:l≠[]):spl 32 (cC (jn (l.map ptD)))=(flt l).map ds:=by
 rw[BH l h];refine qi ?_ λw a=>?_
 .cases l with
  |nil=>exact absurd rfl h
  |cons p r=>simp[flt]
 .obtain⟨n,_,rfl⟩:=JS.mp a;exact dg _ (by lia)
theorem Aa:∀ns:List Int,inV (fl .non) ((ns.map U.int).map fl)=false
 |[]=>rfl
 |n::r=>by
  have:=Aa r;simp only[J6,inV]at this |-;rw[Nl,this];rfl
theorem Io(ns:List Int):(ns.map U.int).all xU=true:=by
 rw[Nv];intro x a;obtain⟨n,_,rfl⟩:=JS.mp a;rfl
def Bn:List U->Out->Prop:=λc o=>∃a b:Int,c=[.int a,.int b]/\o=.val (.int (Oa a b))
theorem zU(a):(if a<0 then -a else a)=(a.natAbs:Int):=by split <;>lia
theorem kK:OkD P w base T.aar 1 (Bn):=by
 refine okD cO (by walk_at"ln") ?_;rintro _ _ _ g ⟨a,b,rfl,rfl⟩;refine ac (ax 0 cO.nd (aw mB rfl T.aaU PyProof.Rows.boot_abs (ae (aa 0 rfl) aj af)) ?_);refine ac (ax 1 cO.nd (aw mB rfl T.aaU PyProof.Rows.boot_abs (ae (aa 1 rfl) aj af)) ?_);rw[zU,zU];refine ac (jj (λq:Nat×Nat=>[some (.val (.int q.1)),some (.val (.int q.2))]) (λm q=>m=q.2/\Nat.gcd q.1 q.2=Oa a b) PassesOwn.never ?h0 ?hs)
 case h0=>exact⟨_,(a.natAbs,b.natAbs),⟨rfl,rfl⟩,rfl,rfl,trivial⟩
 case hs=>
  rintro m ⟨x,y⟩ ⟨d,c⟩;refine⟨decide (0<(y:Int)),(av j0 (aa 1 rfl) ah),λh=>?_,λh f e=>?_⟩
  .have hy:=dTb h;refine ac (HC (i:=0) (j:=1) rfl cO.nd rfl rfl (by decide) rfl rfl (ae (aa 1 rfl) (ae (dB (aa 0 rfl) (aa 1 rfl) (by walk_at"mod")) aj bi) af) rfl (ay ?_));refine⟨x%y,(y,x%y),by rw[d];exact Lw _ (by lia),⟨rfl,?_⟩,?_,?_,trivial⟩
   .rw[<-c,UE y,<-Nat.gcd_rec,UE]
   .rfl
   .exact congrArg (λz=>some (Sl.val (.int z))) (by simp)
  .have hy:y=0:=by have:=dFb h;lia
   refine eC ?_ e;refine ac (aN (aa 0 rfl) ?_);subst hy;exact vIO (by rw[<-c];simp)
theorem Cm(h:i<l.length):(sdl l)[i]?=some (gp l i,gp l ((i+1)%l.length)):=by
 unfold sdl;rw[JQ,LV h];rfl
theorem r8{α:Type}{l:List α}{x:α}(f:α->Int)(h:l[i]?=some x):((l.take (i+1)).map f).sum=((l.take i).map f).sum+f x:=by
 rw[M9,h];simp
theorem wm{l:List Int}(h:∀x∈l,x.natAbs<=c)(i)(b:l.length<=31):(l.take i).sum.natAbs<=c*31:=by
 refine KH (iS (l.take i) λx a=>h x (List.mem_of_mem_take a)) (RH _ ?_);rw[Qy];lia
structure Nr(l:List P2):Prop where
 ne:l≠[]
 hl:l.length<=31
 w:∀p∈l,Wn p
theorem Nr.crs{l:List P2}(h:Nr l):∀x∈(sdl l).map crs,x.natAbs<=32:=λx d=>by
 obtain⟨s,c,rfl⟩:=JS.mp d;obtain⟨b,a⟩:=di c;have f:=w16 (h.w _ b).1 (h.w _ a).2;have e:=w16 (h.w _ b).2 (h.w _ a).1;show (s.1.1*s.2.2-s.1.2*s.2.1).natAbs<=32;lia
theorem Nr.gst{l:List P2}(h:Nr l):∀x∈(sdl l).map gst,x.natAbs<=8:=λx d=>by
 obtain⟨s,c,rfl⟩:=JS.mp d;obtain⟨b,a⟩:=di c;exact qq (h.w _ b) (h.w _ a)
theorem Wn.sz(h:Wn p):Szp 8 p:=by
 unfold Wn at h;constructor <;>unfold Sz <;>lia
def z8:List U->Out->Prop:=λa o=>∃l:List P2,a=[lp l]/\Nr l/\o=.val (.int (area l))
theorem lQ:OkD P w base T.aaC 1 (z8):=by
 refine okD bM (by walk_at"ln") ?_;rintro _ _ _ E ⟨l,rfl,N,rfl⟩;have a:((l.map pu).length)=l.length:=by rw[JK]
 have u:=N.hl;have m:((sdl l).map crs).length=l.length:=by simp[sdl]
 refine ac (ax 1 bM.nd ah ?_);refine ac (jL (λi:Nat=>[some (.val (lp l)),some (.val (.int (((sdl l).take i).map crs).sum)),none,none,none]) (λi j=>i=j) rfl PassesOwn.never (sO rfl T.aaV (ae (aw (bF rfl) rfl T.aac J5 (ae (aa 0 rfl) aj af)) aj br) (by rw[a];lia) (by rw[a];lia)) ?h0 ?hs ?hd)
 case h0=>exact⟨0,rfl,rfl,rfl,trivial⟩
 case hs=>
  rintro D i x _ v rfl;obtain⟨r,rfl⟩:=iC v;have c:i<l.length:=by rw[a]at r;lia
  have d:(i+1)%l.length<l.length:=Lw _ (by lia);have f:=(N.w _ (bW c)).sz;have e:=(N.w _ (bW d)).sz;have k:=f.1;have t:=f.2;have p:=e.1;have s:=e.2;refine⟨_,(j4 (i:=2) bM.nd rfl (Or.inl rfl)),?_⟩;have b:(0+i+1)%((l.map pu).length)=(((i+1)%l.length:Nat):Int):=by rw[a,show (0+i+1)=((i+1:Nat):Int) by lia];exact (SU _ _).symm
  have n:=r8 crs (Cm c)
  have C:Sz 64 (((sdl l).take i).map crs).sum:=by
   have:=wm N.crs i (by rw[m];exact u);rw[<-Qp]at this;unfold Sz;lia
  generalize (((sdl l).take i).map crs).sum=y at *;refine ac (ax 3 bM.nd (aC (aa 0 rfl) (aa 2 rfl) rfl (vP (by lia) c)) ?_);refine ac (ax 4 bM.nd (aC (aa 0 rfl) (dB (bT (aa 2 rfl) ah) (aw (bF rfl) rfl T.aac J5 (ae (aa 0 rfl) aj af)) (by rw[a];lia)) rfl (vP b d)) ?_);generalize gp l i=A at *;generalize gp l ((i+1)%l.length)=B at *;refine ac (ax 1 bM.nd (bp (bT (aa 1 rfl) (aV (aC (aa 3 rfl) ah rfl rfl) (aC (aa 4 rfl) ah rfl rfl) (by walk_at"mul"))) (aV (aC (aa 3 rfl) ah rfl rfl) (aC (aa 4 rfl) ah rfl rfl) (by walk_at"mul"))) (ay ?_));refine⟨i+1,rfl,rfl,?_,trivial⟩;refine congrArg (λz=>some (Sl.val (.int z))) ?_;rw[n];show y+A.1*B.2-A.2*B.1=y+(A.1*B.2-A.2*B.1);lia
 case hd=>
  rintro q F o h;refine eC ?_ h;rw[dX,a]at o;have g:q=l.length:=by lia
  subst g;refine ac (aN (aa 1 rfl) ?_);refine congrArg (λz=>Out.val (.int z)) ?_;rw[LH (by simp[sdl])];rfl
theorem Bk(a:l≠[])(h:l.length<3):h9 l/2+1=d_ l:=by
 unfold d_;rw[if_pos h];rcases (show l.length=1\/l.length=2 by have:=K_.mpr a;lia) with e |e
 .obtain⟨A,rfl⟩:=L2.len1 e;have:h9 [A]=gst (A,A):=by simp[h9,sdl,nxt,gp]
  rw[this];unfold gst;simp
 .obtain⟨A,B,rfl⟩:=L2.len2 e;have:h9 [A,B]=gst (A,B)+gst (B,A):=by simp[h9,sdl,Oq,nxt,gp]
  rw[this,lx A B];show (gst (A,B)+gst (A,B))/2+1=gst (A,B)+1;lia
def zb:List U->Out->Prop:=λa o=>∃l:List P2,a=[lp l]/\Nr l/\o=.val (.int (d_ l))
theorem pL:OkD P w base T.aaT 2 (zb):=by
 refine okD cp (by walk_at"ln") ?_;rintro _ _ _ r ⟨l,rfl,N,rfl⟩;have a:((l.map pu).length)=l.length:=by rw[JK]
 have p:=N.hl;have h:((sdl l).map gst).length=l.length:=by simp[sdl]
 refine ac (ax 1 cp.nd ah ?_);refine ac (jL (λi:Nat=>[some (.val (lp l)),some (.val (.int (((sdl l).take i).map gst).sum)),none,none,none]) (λi j=>i=j) rfl PassesOwn.never (sO rfl T.aaV (ae (aw (bF rfl) rfl T.aac J5 (ae (aa 0 rfl) aj af)) aj br) (by rw[a];lia) (by rw[a];lia)) ?h0 ?hs ?hd)
 case h0=>exact⟨0,rfl,rfl,rfl,trivial⟩
 case hs=>
  rintro C i x _ s rfl;obtain⟨o,rfl⟩:=iC s;have c:i<l.length:=by rw[a]at o;lia
  have d:(i+1)%l.length<l.length:=Lw _ (by lia);have F:=(N.w _ (bW c)).sz;have t:=(N.w _ (bW d)).sz;refine⟨_,(j4 (i:=2) cp.nd rfl (Or.inl rfl)),?_⟩;have b:(0+i+1)%((l.map pu).length)=(((i+1)%l.length:Nat):Int):=by rw[a,show (0+i+1)=((i+1:Nat):Int) by lia];exact (SU _ _).symm
  have k:=r8 gst (Cm c)
  have v:Sz 64 (((sdl l).take i).map gst).sum:=by
   have:=wm N.gst i (by rw[h];exact p);rw[<-Qp]at this;unfold Sz;lia
  have u:Sz 64 (gst (gp l i,gp l ((i+1)%l.length))):=by
   have:=qq (N.w _ (bW c)) (N.w _ (bW d));unfold Sz;lia
  generalize (((sdl l).take i).map gst).sum=y at *;refine ac (ax 3 cp.nd (aC (aa 0 rfl) (aa 2 rfl) rfl (vP (by lia) c)) ?_);refine ac (ax 4 cp.nd (aC (aa 0 rfl) (dB (bT (aa 2 rfl) ah) (aw (bF rfl) rfl T.aac J5 (ae (aa 0 rfl) aj af)) (by rw[a];lia)) rfl (vP b d)) ?_);generalize gp l i=A at *;generalize gp l ((i+1)%l.length)=B at *;refine ac (ax 1 cp.nd (bT (aa 1 rfl) (aQ (kK T) r (ae (bp (aC (aa 4 rfl) ah rfl rfl) (aC (aa 3 rfl) ah rfl rfl)) (ae (bp (aC (aa 4 rfl) ah rfl rfl) (aC (aa 3 rfl) ah rfl rfl)) aj bi) bi) ⟨_,_,rfl,rfl⟩)) (ay ?_));refine⟨i+1,rfl,rfl,?_,trivial⟩;refine congrArg (λz=>some (Sl.val (.int z))) ?_;rw[k];rfl
 case hd=>
  rintro q E m g;refine eC ?_ g;rw[dX,a]at m;have f:q=l.length:=by lia
  subst f;have n:(((sdl l).take l.length).map gst).sum=h9 l:=by rw[LH (by simp[sdl])];rfl
  have D:Sz 64 (h9 l):=by
   have:=iS ((sdl l).map gst) N.gst;unfold h9 Sz;lia
  rw[n];by_cases e:l.length<3
  .refine ac (cA (av h_ (aw (bF rfl) rfl T.aac J5 (ae (aa 0 rfl) aj af)) ah) (by rw[a];exact decide_eq_true (by lia)) ?_);refine ac (aN (bT (ir (aa 1 rfl) ah (by walk_at"div")) ah) ?_);exact congrArg (λz=>Out.val (.int z)) (Bk N.ne e)
  .refine ac (aL (av h_ (aw (bF rfl) rfl T.aac J5 (ae (aa 0 rfl) aj af)) ah) (by rw[a];exact decide_eq_false (by lia)) (ay ?_));refine ac (aN (aa 1 rfl) ?_);refine congrArg (λz=>Out.val (.int z)) ?_;unfold d_;rw[if_neg e]
end
section
variable {P:J2}{w:Kt}{K:JI}{mg:Str→Option J0}{base:Mf} (T:Txt w K mg)
theorem nm1(c)(a:97<=c)(b:c<=122):Nm [c]:=⟨JR 1,show 1<=8 by decide,λx d=>by rw[Kq.mp d];exact⟨a,b⟩⟩
structure Fst(w:List Nat):Prop where
 fr:32 ∉ w
 ln:w.length<=123
 tb:(gu fT (T' w)).isSome=true
 nn:eqW (sT w) (.str "names")=false
 nd:eqW (sT w) (.str "drop")=false
theorem aaM:Fst d7:=⟨by decide,by decide,by decide+kernel,by decide+kernel,by decide+kernel⟩
theorem FG:Fst nT:=⟨by decide,by decide,by decide+kernel,by decide+kernel,by decide+kernel⟩
theorem aaW:Fst lV:=⟨by decide,by decide,by decide+kernel,by decide+kernel,by decide+kernel⟩
theorem uG:Fst iZ:=⟨by decide,by decide,by decide+kernel,by decide+kernel,by decide+kernel⟩
theorem abk:Fst yg:=⟨by decide,by decide,by decide+kernel,by decide+kernel,by decide+kernel⟩
theorem Gz:Fst ou:=⟨by decide,by decide,by decide+kernel,by decide+kernel,by decide+kernel⟩
theorem aaw:Fst iJ:=⟨by decide,by decide,by decide+kernel,by decide+kernel,by decide+kernel⟩
inductive Rds (Va:List (Str×U)):List Str->List (List Nat)->List U->Prop
 |nil:Rds Va [] [] []
 |cons {k:Str}{w:List Nat}{g:U}{ks:List Str}{ws:List (List Nat)}{gs:List U}:32 ∉ w->w.length<=123->Rd Va k (T' w) g->Rds Va ks ws gs->Rds Va (k::ks) (w::ws) (g::gs)
section
variable {Va:List (Str×U)}{ks:List Str}{w nm:List Nat}{ws:List (List Nat)}{gs:List U}{u:U}
theorem Rds.ok(h:Rds Va ks ws gs):ks.length=ws.length/\gs.length=ws.length/\(∀x∈ws,32 ∉ x/\x.length<=123)/\∀(i:Nat) k f g,ks[i]?=some k->ws[i]?=some f->gs[i]?=some g->Rd Va k (T' f) g:=by
 induction h with
 |nil=>exact⟨rfl,rfl,by simp,λi k f g j=>by simp at j⟩
 |cons a b c d p=>
  obtain⟨q,s,n,o⟩:=p;refine⟨by simp[q],by simp[s],λx r=>?_,λi k f g j m l=>?_⟩
  .rcases JN.mp r with e |e
   .rw[e];exact⟨a,b⟩
   .exact n x e
  .cases i with
   |zero=>cases j;cases m;cases l;exact c
   |succ i=>exact o i k f g j m l
theorem iD(F:Fst w)(k:k_ [.lst ((w::ws).map sT)] (.val (.lst (ks.map U.str))))(n:ws.length<=61)(h:Rds Va ks ws gs):Row Va w ws ks gs:=by
 obtain⟨d,f,b,c⟩:=h.ok;refine⟨k,λx a=>?_,λx a=>?_,n,d,f,c,F.tb,F.nn,F.nd⟩
 .rcases JN.mp a with e |e
  .rw[e];exact F.fr
  .exact (b x e).1
 .rcases JN.mp a with e |e
  .rw[e];exact F.ln
  .exact (b x e).2
theorem ox(k:i_ w ks)(e:ks.length=ws.length):k_ [.lst ((w::ws).map sT)] (.val (.lst (ks.map U.str))):=.inl ⟨w,ws,ks,rfl,k,e,rfl⟩
theorem rd1(n:Nm nm)(a:L2.valU Va (T' nm)=some u)(h:Rds Va ks ws gs):Rds Va (eW::ks) (nm::ws) (u::gs):=.cons n.free (by have:=n.h8;lia) (.one _ _ a) h
theorem rdN(n:Nm nm)(h:Rds Va ks ws gs):Rds Va (gQ::ks) (nm::ws) (sT nm::gs):=.cons n.free (by have:=n.h8;lia) (.new _ n) h
theorem ju(F:Fst w)(k:i_ w [eW])(n:Nm nm)(a:L2.valU Va (T' nm)=some u):Row Va w [nm] [eW] [u]:=iD F (ox k rfl) (by simp) (rd1 n a .nil)
theorem w9:∀{pts:List P2},(∀p∈pts,B60 p)->Rds Va (Kn pts.length kP) (pts.map ptD) (pts.map pu)
 |[],_=>.nil
 |p::r,h=>by
  have hp:=h p JP;exact .cons (Cr p) (kX hp) (.pnt _ hp) (w9 λq a=>h q (JL _ a))
theorem oa(d:Nm nm)(b:pts≠[])(e:pts.length<=60)(c:∀p∈pts,B60 p):Row Va d7 (nm::pts.map ptD) (gQ::Kn pts.length kP) (sT nm::pts.map pu):=by
 have a:=K_.mpr b;refine iD aaM (.inr ⟨nm::pts.map ptD,rfl,by simp;lia,by simp;lia,?_⟩) (by simp;lia) (rdN d (w9 c));rw[J6,List.map_replicate];simp
theorem jX(b:k∈kA)(a:n.natAbs<10 ^ 60)(h:Rds Va ks ws gs):Rds Va (k::ks) (ds n::ws) (.int n::gs):=.cons (dg n (by lia)) (by have:=cW (by decide) a;lia) (.num _ _ b a) h
theorem B0(c:Nm y)(i:Nm nm)(a:L2.valU Va (T' nm)=some u)(e:∀n∈bP m,n.natAbs<10 ^ 60):Row Va nT (y::nm::(bP m).map ds) (gQ::eW::kA) (sT y::u::six m):=by
 have q:=e;unfold bP at q;simp only[JN,Kz,or_false,forall_eq_or_imp,forall_eq]at q;obtain⟨b,j,d,g,f,h⟩:=q;exact iD FG (ox GK rfl) (show 8<=61 by decide) (rdN c (rd1 i a (jX (by decide+kernel) b (jX (by decide+kernel) j (jX (by decide+kernel) d (jX (by decide+kernel) g (jX (by decide+kernel) f (jX (by decide+kernel) h .nil))))))))
end
theorem vt(a:m<=160)(h:Szp m p):B60 p:=by
 have k:∀{n},Sz m n->n.natAbs<10 ^ 60:=λ{n} h=>Kc (by have:=h.mono a;unfold Sz at this;omega) (by decide+kernel);exact⟨k h.1,k h.2⟩
theorem tQ(a)(b)(h:b≠[]):∀c,T' (a++32::(c.flatMap λw=>w++[32]))++T' (jn b)=T' (jn (a::(c++b))):=λc=>by
 rw[mK];refine congrArg T' ?_
 induction c generalizing a with
 |nil=>rw[List.nil_append,bQ _ h];simp
 |cons w c d=>
  rw[List.cons_append,bQ _ (by simp),<-d w];simp
theorem IC:(Str.ofString "field a ":Str)=T' (d7++32::([[97]].flatMap λw=>w++[32])):=by decide+kernel
theorem HA:(Str.ofString "field e ":Str)=T' (d7++32::([[101]].flatMap λw=>w++[32])):=by decide+kernel
theorem Hy:(Str.ofString "move b a ":Str)=T' (nT++32::([[98],[97]].flatMap λw=>w++[32])):=by decide+kernel
theorem Ix:(Str.ofString "form c a":Str)=T' (jn [lV,[99],[97]]):=by decide+kernel
theorem Ir:(Str.ofString "form d b":Str)=T' (jn [lV,[100],[98]]):=by decide+kernel
theorem Hb:(Str.ofString "show b":Str)=T' (jn [iZ,[98]]):=by decide+kernel
theorem HM:(Str.ofString "show c":Str)=T' (jn [iZ,[99]]):=by decide+kernel
theorem Hh:(Str.ofString "show d":Str)=T' (jn [iZ,[100]]):=by decide+kernel
theorem IG:(Str.ofString "rim b":Str)=T' (jn [yg,[98]]):=by decide+kernel
theorem HI:(Str.ofString "area b":Str)=T' (jn [ou,[98]]):=by decide+kernel
theorem Ih:(Str.ofString "alike a b":Str)=T' (jn [iJ,[97],[98]]):=by decide+kernel
theorem Id:(Str.ofString "alike a e":Str)=T' (jn [iJ,[97],[101]]):=by decide+kernel
noncomputable def kv1(u:U):List (Str×U):=dU [] (T' [97]) u
noncomputable def kv2(u v:U):List (Str×U):=dU (kv1 u) (T' [98]) v
noncomputable def kv3(u v x:U):List (Str×U):=dU (kv2 u v) (T' [99]) x
noncomputable def kv4(u v x:U):List (Str×U):=dU (kv3 u v x) (T' [100]) x
noncomputable def kv5(u v x y:U):List (Str×U):=dU (kv4 u v x) (T' [101]) y
theorem v1a(u):L2.valU (kv1 u) (T' [97])=some u:=by simp[kv1,dU,L2.valU]
theorem v2a(u v:U):L2.valU (kv2 u v) (T' [97])=some u:=by simp[kv2,kv1,dU,L2.valU]
theorem v2b(u v):L2.valU (kv2 u v) (T' [98])=some v:=by simp[kv2,kv1,dU,L2.valU]
theorem v3b(u v x:U):L2.valU (kv3 u v x) (T' [98])=some v:=by simp[kv3,kv2,kv1,dU,L2.valU]
theorem v4c(u v x:U):L2.valU (kv4 u v x) (T' [99])=some x:=by simp[kv4,kv3,kv2,kv1,dU,L2.valU]
theorem v4d(u v x:U):L2.valU (kv4 u v x) (T' [100])=some x:=by simp[kv4,kv3,kv2,kv1,dU,L2.valU]
theorem v5a(u v x y:U):L2.valU (kv5 u v x y) (T' [97])=some u:=by simp[kv5,kv4,kv3,kv2,kv1,dU,L2.valU]
theorem v5e(u v x y:U):L2.valU (kv5 u v x y) (T' [101])=some y:=by simp[kv5,kv4,kv3,kv2,kv1,dU,L2.valU]
end
section
variable {P:J2}{w:Kt}{K:JI}{mg:Str→Option J0}{base:Mf} (T:Txt w K mg)
theorem TF.mz(h:TF l m x)(j:∀p∈l,Szp n p):Mz n m.a m.b m.c m.d m.e m.f:=by
 have k1:Sz 1 1:=by decide
 have A:Sz 1 0:=by decide
 cases h with
 |one p D=>
  have z:=j p (by simp);exact⟨.inl (show 1*1-0*0=1 by decide),k1.mono (by lia),A.mono (by lia),A.mono (by lia),k1.mono (by lia),(L2.Sz.neg z.1).mono (by lia),(L2.Sz.neg z.2).mono (by lia)⟩
 |two p q g u v s t R Q D P L=>
  have i:=j p (by simp);have w:=j q (by simp);have k:Sz (n+1) u:=by rw[L.hu];exact ((L2.Sz.sub' w.1 i.1).mono (by lia)).ediv
  have o:Sz (n+1) v:=by rw[L.hv];exact ((L2.Sz.sub' w.2 i.2).mono (by lia)).ediv
  obtain⟨_,r,y⟩:=i0 L.G1 k o;have H:(⟨s,t,-v,u,-s*p.1-t*p.2,v*p.1-u*p.2⟩:M6).U:=.inl (by have:=L.G1.eq;dsimp only;grind);exact⟨H,r.mono (by lia),y.mono (by lia),(L2.Sz.neg o).mono (by lia),k.mono (by lia),(L2.Sz.sub' (L2.Sz.mul (L2.Sz.neg r) i.1) (L2.Sz.mul y i.2)).mono (by lia),(L2.Sz.sub' (L2.Sz.mul o i.1) (L2.Sz.mul k i.2)).mono (by lia)⟩
 |more _ F G _ W J=>
  obtain⟨a,b,c,d,e,f,O,M⟩:=W.mz j (W.at_ W.best);have:[m.a,m.b,m.c,m.d,m.e,m.f]=[a,b,c,d,e,f]:=J.symm.trans O;simp only[Om,and_true]at this;obtain⟨C,N,B,K,E,I⟩:=this;rw[C,N,B,K,E,I];exact M
theorem nX(h:Sz 900 n):n.natAbs<10 ^ 300:=Kc h (by decide+kernel)
theorem Hd{m g:M6}(h:Mz 3 m.a m.b m.c m.d m.e m.f)(h':Mz 140 g.a g.b g.c g.d g.e g.f):Sz6 900 (m.bh g.bk):=by
 have z:Sz 1 (g.a*g.d-g.b*g.c):=by rcases h'.u with q |q <;>rw[q] <;>decide
 have a:=L2.Sz.mul z h'.d;have b:=L2.Sz.mul (L2.Sz.neg z) h'.b;have c:=L2.Sz.mul (L2.Sz.neg z) h'.c;have d:=L2.Sz.mul z h'.a;have e:=L2.Sz.neg (L2.Sz.add' (L2.Sz.mul a h'.e) (L2.Sz.mul b h'.f));have f:=L2.Sz.neg (L2.Sz.add' (L2.Sz.mul c h'.e) (L2.Sz.mul d h'.f))
 exact⟨(L2.Sz.add' (L2.Sz.mul a h.a) (L2.Sz.mul b h.c)).mono (by decide),(L2.Sz.add' (L2.Sz.mul a h.b) (L2.Sz.mul b h.d)).mono (by decide),(L2.Sz.add' (L2.Sz.mul c h.a) (L2.Sz.mul d h.c)).mono (by decide),(L2.Sz.add' (L2.Sz.mul c h.b) (L2.Sz.mul d h.d)).mono (by decide),
  (L2.Sz.add' (L2.Sz.add' (L2.Sz.mul a h.e) (L2.Sz.mul b h.f)) e).mono (by decide),(L2.Sz.add' (L2.Sz.add' (L2.Sz.mul c h.e) (L2.Sz.mul d h.f)) f).mono (by decide)⟩
theorem Sz6.l300(h:Sz6 900 m):∀n∈bP m,n.natAbs<10 ^ 300:=λn g=>by
 simp only[bP,JN,Kz,or_false]at g;rcases g with e |e |e |e |e |e <;>rw[e]
 .exact nX h.a
 .exact nX h.b
 .exact nX h.c
 .exact nX h.d
 .exact nX h.e
 .exact nX h.f
theorem Tb6.l60(h:Tb6 m):∀n∈bP m,n.natAbs<10 ^ 60:=λn g=>by
 have k:∀{x},Sz 133 x->x.natAbs<10 ^ 60:=λh=>Kc h (by decide+kernel);simp only[bP,JN,Kz,or_false]at g;rcases g with e |e |e |e |e |e <;>rw[e]
 .exact k (h.a.mono (by decide))
 .exact k (h.b.mono (by decide))
 .exact k (h.c.mono (by decide))
 .exact k (h.d.mono (by decide))
 .exact k h.e
 .exact k h.f
theorem Tb6.go(h:Tb6 m)(w:Szp 3 p):Szp 140 (m.go p):=
 ⟨(L2.Sz.add' (L2.Sz.add' (L2.Sz.mul h.a w.1) (L2.Sz.mul h.b w.2)) h.e).mono (by decide),(L2.Sz.add' (L2.Sz.add' (L2.Sz.mul h.c w.1) (L2.Sz.mul h.d w.2)) h.f).mono (by decide)⟩
theorem Wn.sz3(h:Wn p):Szp 3 p:=by
 unfold Wn at h;constructor <;>unfold Sz <;>lia
theorem Tb6.sz(h:Tb6 m):Sz6 1000 m:=⟨h.a.mono (by decide),h.b.mono (by decide),h.c.mono (by decide),h.d.mono (by decide),h.e.mono (by decide),h.f.mono (by decide)⟩
noncomputable def W25:List P2:=(Kr 25).map λk=>(((k%5:Nat):Int),((k/5:Nat):Int))
theorem Ic(h:∀p∈l,Wn p):(ak l).length<=25:=by
 have:=fU (bo l) (m:=W25) λp a=>by
  have w:=h p (aZ _ p a);unfold Wn at w;exact JS.mpr ⟨p.1.toNat+5*p.2.toNat,J_.mpr (by lia),L7 (by dsimp only;lia) (by dsimp only;lia)⟩
 have e:W25.length=25:=by simp[W25]
 lia
theorem HN(h:∀p∈l,Wn p):(ak (q::l)).length<=26:=by
 have:=fU (bo (q::l)) (m:=q::W25) λp a=>by
  rcases JN.mp (aZ _ p a) with e |e
  .rw[e];exact JP
  .have w:=h p e;unfold Wn at w;exact JL _ (JS.mpr ⟨p.1.toNat+5*p.2.toNat,J_.mpr (by lia),L7 (by dsimp only;lia) (by dsimp only;lia)⟩)
 have e:W25.length=25:=by simp[W25]
 exact this
end
section
variable {P:J2}{w:Kt}{K:JI}{mg:Str→Option J0}{base:Mf} (T:Txt w K mg)
theorem zK(m:M6):44 ∉ jn ((bP m).map ds):=by
 show 44 ∉ jn [ds m.a,ds m.b,ds m.c,ds m.d,ds m.e,ds m.f];have k:∀n,44 ∉ ds n:=λn=>dg n (by lia);rw[bQ _ (by simp),bQ _ (by simp),bQ _ (by simp),bQ _ (by simp),bQ _ (by simp)];show 44 ∉ ds m.a++32::(ds m.b++32::(ds m.c++32::(ds m.d++32::(ds m.e++32::ds m.f))));simp[k]
theorem CU(m:M6):spl 32 (cC (jn ((bP m).map ds)))=(bP m).map ds:=by
 rw[lR (zK m)]
 exact qi (by simp[bP]) λw a=>by
  obtain⟨n,_,rfl⟩:=JS.mp a;exact dg _ (by lia)
theorem wC(h:∀n∈bP m,n.natAbs<10 ^ 300):(jn ((bP m).map ds)).length<=8200:=by
 have:=vp ((bP m).map ds) λw a=>by
  obtain⟨n,b,rfl⟩:=JS.mp a;exact cW (by decide) (h n b)
 have e:((bP m).map ds).length=6:=rfl;lia
def CG:List U->Out->Prop:=λa o=>∃(m:M6) (l k:List P2),a=[sT (jn ((bP m).map ds)),lp l,lp k]/\m.U/\Sz6 900 m/\l.length<64/\k.length<64/\(∀p∈l,Szp 400 p)/\l.Nodup/\k.Nodup/\ST.srt (l.map m.go)=ST.srt k/\o=.val (.bl true)
theorem nK  :eu P w K mg base (CXF P w) 3 T.aae.a T.aae.d ["answer_v","one","other"] (spU K (CG)):=by
 refine Bs T.aae.F eL (λQ o h=>?_) (λM A v s H E O Q o g h=>?_)
 .obtain⟨m,l,k,rfl,u,s,G,J,I,D,n,B,rfl⟩:=h;rfl
 obtain⟨m,l,k,rfl,u,s,G,J,I,D,n,B,rfl⟩:=h;have x:(l.map m.go).Nodup:=ML _ (λp q (h:p≠q) k=>h (M6.inj u k)) D;refine xh (GH (i:=3) eL.nd rfl (Or.inr rfl) (rA.ev (C5 ((dz T).mono (by decide)) g rfl T.aab.m T.aab.F.kp T.aab.b c7 (ae (aa 0 rfl) aj af) ⟨jn ((bP m).map ds),bP m,rfl,CU m,s.l300,wC s.l300,by simp[bP],rfl⟩)) ?_);refine Ws.nox ?_
 have R:(!(Builtin.Str.occurrences (T' (jn ((bP m).map ds))) (Str.ofString ",") 0 (T' (jn ((bP m).map ds))).length 1).isEmpty)=false:=by
  rw[show (Str.ofString ",")=⟨#[44]⟩ from rfl,in1,decide_eq_false (zK m)]
 have Z:=s.a;have S:=s.b;have V:=s.c;have X:=s.d;refine ac (aL (Tw.t (jv (av kE (aw (bF rfl) rfl T.aac J5 (ae (aa 3 rfl) aj af)) ah) (λr=>(jv (av (vn rfl rfl rfl) wc (aa 3 rfl)) (λr=>(io (av E8 aE (aa 0 rfl)))))))) (by rw[R];rfl) (ay ?_))
 have L:(if m.a*m.d-m.b*m.c<0 then -(m.a*m.d-m.b*m.c) else m.a*m.d-m.b*m.c)=1:=by
  rcases u with q |q <;>rw[q] <;>rfl
 refine ac (aL (av kE (aw mB rfl T.aaU PyProof.Rows.boot_abs (ae (bp (aV (aC (aa 3 rfl) ah rfl rfl) (aC (aa 3 rfl) ah rfl rfl) (by walk_at"mul")) (aV (aC (aa 3 rfl) ah rfl rfl) (aC (aa 3 rfl) ah rfl rfl) (by walk_at"mul"))) aj bi)) ah) (by rw[L];rfl) (ay ?_));refine ac (aN (lX (aX g (oP _) (oP _)) (EvN.ev (tE rfl T.aak (iG g) (EvN.ev (cZ rfl (blk (ai fu) ["answer_v","one","other","table","p"] [4] rfl rfl rfl rfl (by decide+kernel)) (df (aa 1 rfl) (.inl rfl)) (λ_ _ _ _=>aR (i:=4) eL.nd rfl (Or.inl rfl)) (bN (by decide)) ?clen ?csz (λ_ _=>trivial) ?celt)) ⟨by rw[JK];exact G,x⟩ cN)) (EvN.ev (tE rfl T.aak (iG g) (aa 2 rfl) ⟨J,n⟩ af))) ?_)
 case clen=>simp
 case csz=>rw[JK];exact Kd (aB (by lia))
 case celt=>
  intro C Y H' fp j y z hy r;rw[Ka]at r;obtain⟨p,W,N,rfl,rfl⟩:=bZ hy r;exact (aQ (im T) g (ae (aa 3 rfl) (ae (aa 4 rfl) aj af) af) ⟨m,p,rfl,⟨s.a.mono (by decide),s.b.mono (by decide),s.c.mono (by decide),s.d.mono (by decide),s.e.mono (by decide),s.f.mono (by decide)⟩,I p N,rfl⟩)
 refine vB ?_;rw[show eqW (U.lst ((ST.srt (l.map m.go)).map pu)) (U.lst ((ST.srt k).map pu))=decide (ST.srt (l.map m.go)=ST.srt k) from uo _ _,B];simp
end
section
variable {P:J2}{w:Kt}{K:JI}{mg:Str→Option J0}{base:Mf} (T:Txt w K mg)
theorem BL(l:List Int):eqW (.lst (l.map U.int)) (.lst (l.map U.int))=true:=sL 9 _ (iU λ_=>rfl)
theorem evS(y)(h:Ev X H0 O0 ps e (.str y)):Ev X H0 O0 ps e (.str y):=h
structure Hj(pts l k x:List P2)(N m m':M6):Prop where
 ne:l≠[]
 l25:l.length<=25
 w:∀p∈l,Wn p
 lz:∀p∈l,Szp 3 p
 cc:ak l=l
 ek:k=ak (l.map N.go)
 kn:k≠[]
 k25:k.length=l.length
 kz:∀p∈k,Szp 140 p
 kc:ak k=k
 T1:TF l m x
 T2:TF k m' x
 s:Sz6 900 (m.bh m'.bk)
 es:ST.srt (l.map (m.bh m'.bk).go)=ST.srt k
 ar:area k=area l
 rm:d_ k=d_ l
 xn:x≠[]
 x25:x.length=l.length
 xb:∀p∈x,Szp 45 p
 f:ji [lp l,mvM N] (.new (k.map pu))
theorem C6(o:pts≠[])(B:∀p∈pts,Wn p)(h:Tb6 N):∃x m s,Hj pts (ak pts) (ak (pts.map N.go)) x N m s:=by
 have D:∀p∈ak pts,Wn p:=λp g=>B p (aZ _ p g);have k:∀p∈ak pts,Szp 3 p:=λp g=>(D p g).sz3;have t:=Ic B;have j:=cR pts;have l:=kR o;have n:ak (pts.map N.go)=ak ((ak pts).map N.go):=An h.u
 have y:∀p∈ak (pts.map N.go),Szp 140 p:=λp g=>by
  obtain⟨q,w,rfl⟩:=JS.mp (aZ _ p g);exact h.go (B q w).sz3
 have E:(ak (pts.map N.go)).length=(ak pts).length:=by rw[n];exact lN h.u j l
 have F:ak (pts.map N.go)≠[]:=kR (by simpa using o);obtain⟨m,x,i⟩:=TF.exists o (by lia) λp g=>Szp.mono (k p g) (by decide);obtain⟨s,G,r⟩:=TF.exists (by simpa using o) (by lia) λp g=>Szp.mono (y p g) (by decide);have A:=cR (pts.map N.go);have ex:=(i.fp j).same (r.fp A) h.u n;subst ex;have v:=DQ h.u j l;rw[<-n]at v;have M1:=i.mz k;have M2:=r.mz y;have C:=(i.fp j).len;refine⟨G,m,s,l,t,D,k,j,n,F,E,y,A,i,r,Hd M1 M2,(i.fp j).srt (r.fp A),v.1,v.2,λz=>?_,C,λp g=>?_,?_⟩
 .have:=K_.mpr l;rw[z]at C;simp at C;lia
 .rw[i.ex]at g;obtain⟨q,w,rfl⟩:=JS.mp (aZ _ p g);exact M1.ap (k q w)
 .refine⟨ak pts,N.a,N.b,N.c,N.d,N.e,N.f,rfl,h.sz.mv h.u (by decide),λp g=>Szp.mono (k p g) (by decide),λp g=>Szp.mono (h.go (k p g)) (by decide),l,by lia,by rw[n]⟩
noncomputable def gE(c:Int):P2:=(5+c%7,c/7%9-2)
theorem Fk(d:∀p∈pts,Wn p)(n:l=ak pts)(A:Hj pts l k x N m m')(c):∃g b,TF (ak (gE c::pts)) g b/\x≠b/\(ak (gE c::pts)).length<=26/\(∀p∈gE c::pts,Szp 8 p):=by
 have j:∀p∈gE c::pts,Szp 8 p:=λp a=>by
  rcases JN.mp a with e |e
  .rw[e];unfold gE;constructor <;>unfold Sz <;>dsimp only <;>lia
  .exact (d p e).sz
 have f:=HN (q:=gE c) d;obtain⟨g,b,h⟩:=TF.exists (by simp) (by lia) λp a=>Szp.mono (j p (aZ _ p a)) (by decide);refine⟨g,b,h,λe=>?_,f,j⟩;subst e;have i:=A.T1.fp A.cc;rw[n]at i;refine DI (λp a=>?_) (λp a=>?_) i (h.fp (cR _))
 .rcases JN.mp a with e |e
  .rw[e];unfold gE;dsimp only;lia
  .have:=d p e;unfold Wn at this;lia
 .have:=d p a;unfold Wn at this;unfold gE;dsimp only;lia
theorem ur(c:n<=150)(b:l≠[])(d:l.length<=60)(h:∀p∈l,Szp n p):Fit l:=⟨b,d,λp a=>Szp.mono (h p a) c,λp a=>vt (by lia) (h p a)⟩
theorem zJ{l:List P2}(h:∀p∈l,B60 p)(c:l.length<=61):(jn (l.map ptD)).length<=8200:=Ck (λw a=>by obtain⟨p,b,rfl⟩:=JS.mp a;exact kX (h p b)) (by simp;lia)
theorem DK(x)(k:M6):uc x x k=jn ((bP k).map ds):=by unfold uc;rw[if_pos rfl]
theorem Eo(h:x≠y)(k:M6):uc x y k=[110,111]:=by unfold uc;rw[if_neg h]
theorem C8(b:x≠[])(d:x.length<=60)(a:∀p∈x,B60 p):lP [sT (jn (x.map ptD))] (.new ((flt x).map U.int)):=⟨jn (x.map ptD),flt x,rfl,D9 b,vX λp c=>GD (a p c),zJ a (by lia),by rw[ph];lia,rfl⟩
end
section
variable {P:J2}{w:Kt}{K:JI}{mg:Str→Option J0}{base:Mf} (T:Txt w K mg)
theorem Gm:OkD P w base T.abb 13 (jy):=by
 refine okD eT (by walk_at"ln") ?_;rintro _ _ _ a ⟨ns,rfl,E,hB,rfl⟩;have hN:=Ht ns;have W:=F5 ns;have c6:=lI hB (k:=6) (by decide) (by decide)
 have wp:∀p∈tL ns,Wn p:=λp d=>by
  obtain⟨i,_,rfl⟩:=JS.mp d;exact IO _ _
 have pl:(tL ns).length<=50/\0<(tL ns).length:=by unfold tL;simp;lia
 have Y:=K_.mp pl.2;have Vm:=pl.1;refine ac (ax 1 eT.nd (EvN.ev (eJ (lj T) a (ae (aa 0 rfl) aj af) ⟨ns,rfl,E,hB,rfl⟩)) ?_);refine ac (ax 2 eT.nd (EvN.ev (eJ (fY T) a (ae (aa 1 rfl) aj af) ⟨tL ns,rfl,λp d=>Szp.mono (wp p d).sz (by decide),by lia,rfl⟩)) ?_);refine ac (vL (i:=3) eT.nd rfl (Or.inr rfl) (EvN.ev (eJ (nN T) a (ae (aa 0 rfl) aj af) ⟨ns,rfl,E,hB,rfl⟩)) ?_);generalize AL ns=N at *;generalize tL ns=pts at *;obtain⟨x,m,Z,A⟩:=C6 Y wp W;refine ac (ax 4 eT.nd (EvN.ev (eJ (fY T) a (ae (EvN.ev (cZ (ys:=((pts.map N.go).map pu)) rfl (blk (ai xg) ["script","points","near","table","far","p","desk","number","one","cell"] [5] rfl rfl rfl rfl (by decide+kernel)) (df (aa 1 rfl) (.inl rfl)) (λ_ _ _ _=>aR (i:=5) eT.nd rfl (Or.inl rfl)) (bN (by decide)) ?clen ?csz (λ_ _=>trivial) ?celt)) aj cN) ⟨pts.map N.go,rfl,λp d=>by obtain⟨q,hq,rfl⟩:=JS.mp d;exact Szp.mono (W.go (wp q hq).sz3) (by decide),by rw[JK];lia,rfl⟩)) ?_)
 case clen=>simp
 case csz=>rw[JK];exact Kd (aB (by lia))
 case celt=>
  intro C s' H' fp j y z hy r;rw[Ka]at r;obtain⟨p,d,mp,rfl,rfl⟩:=bZ hy r;exact (aQ (im T) a (ae (aa 3 rfl) (ae (aa 5 rfl) aj af) af) ⟨N,p,rfl,W.sz,Szp.mono (wp p mp).sz (by decide),rfl⟩)
 generalize hl:ak pts=l at *;generalize ak (pts.map N.go)=k at *;have fl:=ur (by decide) A.ne (by have:=A.l25;lia) A.lz;have D:=ur (by decide) A.kn (by have:=A.l25;have:=A.k25;lia) A.kz;have B:=ur (by decide) A.xn (by have:=A.l25;have:=A.x25;lia) A.xb;have l25:=A.l25;have k25:=A.k25;have x25:=A.x25;have pb:∀p∈pts,B60 p:=λp d=>vt (by decide) (wp p d).sz;have jl:=zJ pb (by lia);have h:(!eqW (.str "ok") (.str "ok"))=false:=by decide+kernel
 have G:∀x:Str,eqW (.str x) (.str x)=true:=λx=>by rw[eqS];exact decide_eq_true rfl
 have J:=nm1 97 (by decide) (by decide);have I:=nm1 98 (by decide) (by decide);have nc:=nm1 99 (by decide) (by decide);have S:=nm1 100 (by decide) (by decide);have K:=nm1 101 (by decide) (by decide);refine ac (FO (i:=6) T.aai.m ((CQ T).mono (by decide)) a rfl T.abn T.aai.b c7 eT.nd rfl (Or.inl rfl) (λL g=>?_));show Ws _ _ _ _ _ _ [some (.val (.scr (ns.map U.int))),some (.val (lp pts)),some (.val (lp l)),some (.val (.lst (six N))),some (.val (lp k)),none,some (.dsk true T.aag L g []),none,none,none];refine ac (wA (gf h (m9 (fi a) (jK (i:=6) rfl T.aad T.aaa.m ((i6 T).mono (by decide)) a T.aaa.b c7 (ae (iE aE (aQ (eS T) a (ae (aa 1 rfl) aj af) ⟨pts,rfl,pb,by lia,rfl⟩) (by rw[bg];exact KH (Pp jl _) (by decide+kernel))) aj bi) ⟨d7,[97],pts.map ptD,_,_,l,by rw[IC,tQ _ _ (by simpa using Y)] <;>rfl,oa J Y (by lia) pb,by decide,.inl ⟨pts,rfl,λp d=>Szp.mono (wp p d).sz (by decide),by lia,Y,by rw[hl]⟩,A.ne,fl.hl,fl.b,rfl⟩) aE)) ?_);refine ay ?_;show Ws _ _ _ _ _ _ [some (.val (.scr (ns.map U.int))),some (.val (lp pts)),some (.val (lp l)),some (.val (.lst (six N))),some (.val (lp k)),none,some (.dsk true T.aag L g (kv1 (lp l))),none,none,none];have H:=W.l60;have v:∀n∈bP N,n.natAbs<10 ^ 300:=λn hn=>Ma (H n hn) (by decide+kernel);refine ac (wA (gf h (m9 (fi a) (jK (i:=6) rfl T.aad T.aaa.m ((i6 T).mono (by decide)) a T.aaa.b c7 (ae (iE aE (evS (T' (jn ((bP N).map ds))) ?cJ) (by rw[bg];exact KH (Pp (wC v) _) (by decide+kernel))) aj bi) ⟨nT,[98],[97]::(bP N).map ds,eW::kA,lp l::six N,k,by rw[Hy,tQ _ _ (by simp[bP])] <;>rfl,B0 I J (v1a (lp l)) H,by simp[kv1,dU],.inr (.inr ⟨l,N,rfl,by rw[<-A.ek];exact A.f,by rw[<-A.ek]⟩),A.kn,D.hl,D.b,rfl⟩) aE)) ?_)
 case cJ=>
  rw[<-Am ((bP N).map ds),Ka];refine qu (l:=(bP N).map λn=>T' (ds n)) aE ?ej cN (rq v (by simp[bP]))
  case ej=>
   rw[<-Hf];refine EvN.ev ?_;refine (cZ (ys:=((bP N).map λn=>sT (ds n))) rfl (blk (ai xg) ["script","points","near","table","far","p","desk","number","one","cell"] [7] rfl rfl rfl rfl (by decide+kernel)) (df (aa 3 rfl) (.inl rfl)) (λ_ _ _ _=>aR (i:=7) eT.nd rfl (Or.inl rfl)) (bN (by decide)) ?clen ?csz (λ_ _=>trivial) ?celt)
   case clen=>rfl
   case csz=>exact (show 6<=sizeLine by decide+kernel)
   case celt=>
    intro C s' H' fp j x y hx hy;obtain⟨p,d,mp,rfl,rfl⟩:=bZ (l:=bP N) (f:=U.int) hx hy;have b1:=mt (Ma (H p mp) (show 10 ^ 60<10 ^ 62 by decide+kernel));show Ev _ _ _ _ _ (.str (T' (ds p)));rw[<-nE];exact (cP (iH b1) rfl T.aas Pc (ae (aa 7 rfl) aj af))
 refine ay ?_;show Ws _ _ _ _ _ _ [some (.val (.scr (ns.map U.int))),some (.val (lp pts)),some (.val (lp l)),some (.val (.lst (six N))),some (.val (lp k)),none,some (.dsk true T.aag L g (kv2 (lp l) (lp k))),none,none,none];have va:=v2a (lp l) (lp k);have X:=v2b (lp l) (lp k);have o:=FB A.w (by lia) A.ne;have Q:(area k).natAbs<10 ^ 300:=by rw[A.ar];exact Mr o.1 (by decide+kernel)
 have O:(d_ k).natAbs<10 ^ 300:=by rw[A.rm];exact Mr o.2 (by decide+kernel)
 have sb:cT g (kv2 (lp l) (lp k)) [.str "show b"] (.val (sT (jn (k.map ptD)))):=⟨iZ,[[98]],eW,[],[lp k],_,by rw[Hb],ju uG u_ I X,by decide+kernel,.show_ k D,rfl⟩
 have ab:cT g (kv2 (lp l) (lp k)) [.str "area b"] (.val (sT (ds (area k)))):=⟨ou,[[98]],eW,[],[lp k],_,by rw[HI],ju Gz Ha I X,by decide+kernel,.area k D Q,rfl⟩
 have rb:cT g (kv2 (lp l) (lp k)) [.str "rim b"] (.val (sT (ds (d_ k)))):=⟨yg,[[98]],eW,[],[lp k],_,by rw[IG],ju abk Hm I X,by decide+kernel,.rim k D O,rfl⟩
 have lb:cT g (kv2 (lp l) (lp k)) [.str "alike a b"] (.val (sT (jn ((bP (m.bh Z.bk)).map ds)))):=⟨iJ,[[97],[98]],eW,[o5],[lp l,lp k],_,by rw[Ih],iD aaw (ox vx rfl) (by simp) (rd1 J va (.cons I.free (by decide) (.oth _ _ X) .nil)),by decide+kernel,.alike l k x x m Z A.T1 A.T2 (λ_=>A.s.l300),by rw[DK]⟩
 have uK:=M6.bh_U A.T1.u (M6.bk_U A.T2.u);refine ac (aL (Tw.t (jv (av (fi a) (xo (fM T) 6 T.aad a rfl (ae aE aj aJ) sb) (aQ (eS T) a (ae (aa 4 rfl) aj af) ⟨k,rfl,D.b,by have:=D.hl;lia,rfl⟩)) (λr=>(io (jp (ik (Ct ((nK T).mono (by decide)) a rfl T.aae.m T.aae.F.kp T.aae.b c7 (hW (pE (i:=6) rfl T.aad T.aaa.m ((fM T).mono (by decide)) a T.aaa.b c7 (hW uH aj aJ) lb) (ae (aa 2 rfl) (ae (aa 4 rfl) aj af) af) br) ⟨m.bh Z.bk,l,k,rfl,uK,A.s,by lia,by lia,λp d=>Szp.mono (A.lz p d) (by decide),g9 A.cc,g9 A.kc,A.es,rfl⟩))))))) (by rw[G];rfl) (ay ?_));have N1:Nr l:=⟨A.ne,by lia,A.w⟩
 have b1:=mt (m:=(area l).natAbs) (Mr o.1 (by decide+kernel));have b2:=mt (m:=(d_ l).natAbs) (Mr o.2 (by decide+kernel));refine ac (aL (Tw.t (jv (av (fi a) (xo (fM T) 6 T.aad a rfl (ae aE aj aJ) ab) (cP (iH b1) rfl T.aas Pc (ae (aQ (lQ T) a (ae (aa 2 rfl) aj af) ⟨l,rfl,N1,rfl⟩) aj br))) (λr=>(io (av (fi a) (xo (fM T) 6 T.aad a rfl (ae aE aj aJ) rb) (cP (iH b2) rfl T.aas Pc (ae (aQ (pL T) a (ae (aa 2 rfl) aj af) ⟨l,rfl,N1,rfl⟩) aj br))))))) (by rw[nE,nE,A.ar,A.rm,G,G];rfl) (ay ?_));refine ac (wA (TwK.t (HL (gf h (m9 (fi a) (jK (i:=6) rfl T.aad T.aaa.m ((i6 T).mono (by decide)) a T.aaa.b c7 (ae aE aj aJ) ⟨lV,[99],[[97]],[eW],[lp l],x,by rw[Ix],iD aaW (ox zd rfl) (by simp) (rdN nc (rd1 J va .nil)),by simp[kv2,kv1,dU],.inr (.inl ⟨l,x,m,rfl,A.T1,rfl⟩),A.xn,B.hl,B.b,rfl⟩) aE)) (GU (gf h (m9 (fi a) (jK (i:=6) rfl T.aad T.aaa.m ((i6 T).mono (by decide)) a T.aaa.b c7 (ae aE aj aJ) ⟨lV,[100],[[98]],[eW],[lp k],x,by rw[Ir],iD aaW (ox zd rfl) (by simp) (rdN S (rd1 I (v3b (lp l) (lp k) (lp x)) .nil)),by simp[kv2,kv1,dU],.inr (.inl ⟨k,x,Z,rfl,A.T2,rfl⟩),A.xn,B.hl,B.b,rfl⟩) aE))))) ?_);refine ay ?_;show Ws _ _ _ _ _ _ [some (.val (.scr (ns.map U.int))),some (.val (lp pts)),some (.val (lp l)),some (.val (.lst (six N))),some (.val (lp k)),none,some (.dsk true T.aag L g (kv4 (lp l) (lp k) (lp x))),none,none,none];have scc:cT g (kv4 (lp l) (lp k) (lp x)) [.str "show c"] (.val (sT (jn (x.map ptD)))):=⟨iZ,[[99]],eW,[],[lp x],_,by rw[HM],ju uG u_ nc (v4c _ _ _),by decide+kernel,.show_ x B,rfl⟩
 have sdd:cT g (kv4 (lp l) (lp k) (lp x)) [.str "show d"] (.val (sT (jn (x.map ptD)))):=⟨iZ,[[100]],eW,[],[lp x],_,by rw[Hh],ju uG u_ S (v4d _ _ _),by decide+kernel,.show_ x B,rfl⟩
 have hk4:(kv4 (lp l) (lp k) (lp x)).length<1000:=by simp[kv4,kv3,kv2,kv1,dU]
 have v5:=v5a (lp l) (lp k) (lp x);have R:=v5e (lp l) (lp k) (lp x);unfold kv5 at v5 R;generalize kv4 (lp l) (lp k) (lp x)=k4 at *;have nx:=C8 A.xn B.hl B.b;refine ac (vL (i:=8) (u:=.lst ((flt x).map U.int)) eT.nd rfl (Or.inl rfl) (EvN.ev (sI ((dz T).mono (by decide)) a rfl T.aab.m T.aab.F.kp T.aab.b c7 (hW (pE (i:=6) rfl T.aad T.aaa.m ((fM T).mono (by decide)) a T.aaa.b c7 (hW uH aj aJ) scc) aj br) nx)) ?_);show Ws _ _ _ _ _ _ [some (.val (.scr (ns.map U.int))),some (.val (lp pts)),some (.val (lp l)),some (.val (.lst (six N))),some (.val (lp k)),none,some (.dsk true T.aag L g k4),none,some (.val (.lst ((flt x).map U.int))),none];have hm1:(((flt x).map U.int).length:Int)=2*(l.length:Int):=by rw[JK,ph];lia
 have XM:((l.map pu).length:Int)=(l.length:Int):=by rw[JK]
 have zl:Sz 64 ((l.map pu).length:Int):=by rw[XM];unfold Sz;lia
 refine ac (aL (Tw.t (jv (av (vn rfl rfl (Io _)) wc (aa 8 rfl)) (λr=>(jv (av (fi a (iU λ_=>rfl) (iU λ_=>rfl)) (EvN.ev (sI ((dz T).mono (by decide)) a rfl T.aab.m T.aab.F.kp T.aab.b c7 (hW (pE (i:=6) rfl T.aad T.aaa.m ((fM T).mono (by decide)) a T.aaa.b c7 (hW uH aj aJ) sdd) aj br) nx)) (aa 8 rfl)) (λr=>(io (av kE (aw (bF rfl) rfl T.aac J5 (ae (aa 8 rfl) aj af)) (aV ah (aw (bF rfl) rfl T.aac J5 (ae (aa 2 rfl) aj af)) (by walk_at"mul"))))))))) (by rw[Aa,BL,hm1,XM];simp) (ay ?_));refine ac (ax 9 eT.nd (aQ (bz T) a (ae (aa 0 rfl) (ae ah aj aJ) af) ⟨ns,_,rfl,E,by decide,by decide,rfl⟩) ?_);generalize cel ns 6=c at *;obtain⟨m3,x3,T3,M,d26,r⟩:=Fk wp hl.symm A c;have V:∀p∈gE c::pts,B60 p:=λp d=>vt (by decide) (r p d);have je:=zJ V (by simp;lia);have en:ak (gE c::pts)≠[]:=kR (by simp);have ee:∀p∈ak (gE c::pts),B60 p:=λp d=>V p (aZ _ p d);refine ac (wA (gf h (m9 (fi a) (jK (i:=6) rfl T.aad T.aaa.m ((i6 T).mono (by decide)) a T.aaa.b c7 (ae (iE aE (aQ (eS T) a (ae (EvN.ev (kq (EvN.ev (fA (aq (bE (aq (bT ah (dB (aa 9 rfl) ah (by walk_at"mod"))) (aq (bp (dB (ir (aa 9 rfl) ah (by walk_at"div")) ah (by walk_at"mod")) ah) bG bi) bi)) bG iL))) (aa 1 rfl) (by simp;exact Kd (aB (by lia))))) aj bi) ⟨gE c::pts,rfl,V,by simp;lia,rfl⟩) (by rw[bg];exact KH (Pp je _) (by decide+kernel))) aj bi) ⟨d7,[101],(gE c::pts).map ptD,_,_,ak (gE c::pts),by rw[HA,tQ _ _ (by simp)] <;>rfl,oa K (by simp) (by simp;lia) V,hk4,.inl ⟨gE c::pts,rfl,λp d=>Szp.mono (r p d) (by decide),by simp;lia,by simp,rfl⟩,en,by lia,ee,rfl⟩) aE)) ?_);refine ay ?_;have lee:cT g (dU k4 (T' [101]) (lp (ak (gE c::pts)))) [.str "alike a e"] (.val (sT [110,111])):=⟨iJ,[[97],[101]],eW,[o5],[lp l,lp (ak (gE c::pts))],_,by rw[Id],iD aaw (ox vx rfl) (by simp) (rd1 J (v5 _) (.cons K.free (by decide) (.oth _ _ (R _)) .nil)),by decide+kernel,.alike l _ x x3 m m3 A.T1 T3 (λe=>absurd e M),by rw[Eo M]⟩
 refine ac (aN (lX (aX a) (xo (fM T) 6 T.aad a rfl (ae aE aj aJ) lee) aE) ?_);exact vB (by decide+kernel)
end
theorem ar1{d:MT}{b:List Str}{a:List J0}(h:a.length=1)(q:∀c,OG d ⟨[c],[]⟩=pure (b.zip [c])):OG d ⟨a,[]⟩=pure (b.zip a):=by obtain⟨_,rfl⟩:=L2.len1 h;exact q _
theorem ar2{e:MT}{b:List Str}{a:List J0}(h:a.length=2)(q:∀d c,OG e ⟨[d,c],[]⟩=pure (b.zip [d,c])):OG e ⟨a,[]⟩=pure (b.zip a):=by obtain⟨_,_,rfl⟩:=L2.len2 h;exact q _ _
theorem ar3{e:MT}{b:List Str}{a:List J0}(h:a.length=3)(q:∀d c f,OG e ⟨[d,c,f],[]⟩=pure (b.zip [d,c,f])):OG e ⟨a,[]⟩=pure (b.zip a):=by obtain⟨_,_,_,rfl⟩:=L2.len3 h;exact q _ _ _
theorem tm_ROWS{w:Kt}{K:JI}{h:Mf}{P:Str→Option J0}(X:K.In h)(G:h.Ns K1 P){a:Kb}{n:Nat}{C F O R L x S J E Q A z D H v M B N y I j r i b o u c t k q l e d m f p s g:Tok}(ta:PySem.W.nsIn K K1 "ROWS"=some (some (.ref a)))(T:K.lookup a=some ⟨.type "dict",none,.dict #[⟨PyData.keyHash w.params "field",.str "field" C,.str "NEW P" F⟩,⟨PyData.keyHash w.params "move",.str "move" O,.str "NEW ONE A B C D E F" R⟩,⟨PyData.keyHash w.params "fold",.str "fold" L,.str "NEW ONE K" x⟩,⟨PyData.keyHash w.params "sum",.str "sum" S,.str "NEW ONE OTHER" J⟩,⟨PyData.keyHash w.params "form",.str "form" E,.str "NEW ONE" Q⟩,⟨PyData.keyHash w.params "facing",.str "facing" A,.str "NEW ONE" z⟩,⟨PyData.keyHash w.params "drop",.str "drop" D,.str "ONE" H⟩,⟨PyData.keyHash w.params "names",.str "names" v,.str "" M⟩,⟨PyData.keyHash w.params "show",.str "show" B,.str "ONE" N⟩,⟨PyData.keyHash w.params "area",.str "area" y,.str "ONE" I⟩,⟨PyData.keyHash w.params "rim",.str "rim" j,.str "ONE" r⟩,⟨PyData.keyHash w.params "count",.str "count" i,.str "ONE K" b⟩,⟨PyData.keyHash w.params "inner",.str "inner" o,.str "ONE K" u⟩,⟨PyData.keyHash w.params "mixed",.str "mixed" c,.str "ONE OTHER" t⟩,⟨PyData.keyHash w.params "share",.str "share" k,.str "ONE A B C" q⟩,⟨PyData.keyHash w.params "where",.str "where" l,.str "ONE P" e⟩,⟨PyData.keyHash w.params "tell",.str "tell" d,.str "ONE K P" m⟩,⟨PyData.keyHash w.params "alike",.str "alike" f,.str "ONE OTHER" p⟩,⟨PyData.keyHash w.params "thin",.str "thin" s,.str "ONE" g⟩] n,#[]⟩)(U:(a==Nc)=false):∃a,P "ROWS"=some (.ref a)∧q0 w K a fT:=
 ⟨a,Uc X G ta,U,[("field",C,"NEW P",F),("move",O,"NEW ONE A B C D E F",R),("fold",L,"NEW ONE K",x),("sum",S,"NEW ONE OTHER",J),("form",E,"NEW ONE",Q),("facing",A,"NEW ONE",z),("drop",D,"ONE",H),("names",v,"",M),("show",B,"ONE",N),("area",y,"ONE",I),("rim",j,"ONE",r),("count",i,"ONE K",b),("inner",o,"ONE K",u),("mixed",c,"ONE OTHER",t),("share",k,"ONE A B C",q),("where",l,"ONE P",e),("tell",d,"ONE K P",m),("alike",f,"ONE OTHER",p),("thin",s,"ONE",g)],n,rfl,by decide+kernel,T⟩
noncomputable abbrev spLaw(K:JI):Sp:=spU K jy
theorem law_start(K:JI)(H:Hp)(a:Kb)(ns:List Int)(c:ns.length<=63)(d:∀m∈ns,Sz 1048576 m)(b:SqL K H a (ns.map V.int)):spLaw K [.ref a] H (λv _=>v=.bl true) λ_ _ _=>False:=x5 c d b
theorem law_ok{P:J2}{w:Kt}{a:Str→Option J0}{e:Kb}{h:Mf}{K2:JI}{f c tb:Kb}(i:K2.In h)(k:tZ K2 a f c tb)(b:a "law"=some (.ref e))(T:Txt w (b5 tb K2) a):
  ∃(K2:JI) (f c tb:Kb) (g:MT),K2.In h∧tZ K2 a f c tb∧(∀(s:JY) (u:J0),S4 s g ⟨[u],[]⟩ [("script",u)])∧∀base:Mf,(b5 tb K2).In base→base.Ns K1 a→bV P w (b5 tb K2) a base CX0 13 e g ["script"] (spLaw (b5 tb K2)):=by
 cases b.symm.trans T.abb.m;obtain⟨_,_,_,_,_,_,_,_,_,j,_⟩:=T.abb.F.ex;exact⟨K2,f,c,tb,T.abb.d,i,k,λs v=>by rw[j];exact .of_eq rfl,λbase _ _=>(Gm T).calm Cb⟩
end My
namespace PySem.W.Fast
theorem tw12512671080656445396:0=0:=rfl
theorem tw3812123591386687118:0=0:=rfl
theorem tw10655403531309398382:0=0:=rfl
theorem tw8393806209983581487:0=0:=rfl
theorem tw16313323476688759668:0=0:=rfl
theorem tw2136698626745501296:0=0:=rfl
theorem tw15128269695603959073:0=0:=rfl
theorem tw12554062881193899928:0=0:=rfl
theorem tw12410519391316770733:0=0:=rfl
theorem tw11776622281549050995:0=0:=rfl
theorem tw13740828814034728801:0=0:=rfl
theorem tw17182962963809509095:0=0:=rfl
theorem tw8758464081814579446:0=0:=rfl
theorem tw7484170293745751543:0=0:=rfl
theorem tw14469278782562306054:0=0:=rfl
theorem tw10133398347503648274:0=0:=rfl
theorem tw17563610296026257693:0=0:=rfl
theorem tw1524913657998354116:0=0:=rfl
theorem tw17149853092062063384:0=0:=rfl
theorem tw17728697577637140518:0=0:=rfl
theorem tw3974718508661113189:0=0:=rfl
theorem tw16170882778975255869:0=0:=rfl
theorem tw13649165559288079119:0=0:=rfl
theorem tw846877541215625463:0=0:=rfl
theorem tw8972006627565194366:0=0:=rfl
theorem tw9341058348553799508:0=0:=rfl
theorem tw15003928852842882324:0=0:=rfl
theorem tw14514104357466285014:0=0:=rfl
theorem tw7270309906072564750:0=0:=rfl
theorem tw4063060138951755322:0=0:=rfl
theorem tw17647034373440434285:0=0:=rfl
theorem tw7559495103906521599:0=0:=rfl
theorem tw5245727732601752156:0=0:=rfl
theorem tw6370588600412446692:0=0:=rfl
theorem tw16013743936334261308:0=0:=rfl
theorem tw17770253853890467425:0=0:=rfl
theorem tw13677957208976326014:0=0:=rfl
theorem tw4398569070364383344:0=0:=rfl
theorem tw10456921540886291805:0=0:=rfl
theorem tw11418990484493372287:0=0:=rfl
theorem tw205869822826340057:0=0:=rfl
theorem tw8993375184855239712:0=0:=rfl
theorem tw15394429208675646737:0=0:=rfl
theorem tw9282281403822682344:0=0:=rfl
theorem tw15739225001850753714:0=0:=rfl
theorem tw17082967722171548857:0=0:=rfl
theorem tw11484049933518605012:0=0:=rfl
theorem tw16278029492456614246:0=0:=rfl
theorem tw3097721625957912573:0=0:=rfl
theorem tw11761824800606166996:0=0:=rfl
theorem tw288847531987848148:0=0:=rfl
theorem tw13491255586094378228:0=0:=rfl
theorem tw12838912290380548047:0=0:=rfl
theorem tw8759493280110877045:0=0:=rfl
theorem tw4377424299312104099:0=0:=rfl
theorem tw6781046176346693985:0=0:=rfl
theorem tw7887444575394441733:0=0:=rfl
theorem tw9898058129345716182:0=0:=rfl
theorem tw5522867871486770994:0=0:=rfl
theorem tw9633984112609740820:0=0:=rfl
theorem tw8039707761160334861:0=0:=rfl
theorem tw10635801865903542039:0=0:=rfl
theorem tw2797545158699600260:0=0:=rfl
theorem tw9221917259480815735:0=0:=rfl
theorem tw1930074344466386583:0=0:=rfl
theorem tw10377175492082912317:0=0:=rfl
theorem tw2225173975833887763:0=0:=rfl
theorem tw15041807668374385139:0=0:=rfl
theorem tw6476069872133620140:0=0:=rfl
theorem tw6658226640737895715:0=0:=rfl
theorem tw14169227897984557468:0=0:=rfl
theorem tw181903612481791803:0=0:=rfl
theorem tw10843036443266627258:0=0:=rfl
theorem tw10547299849950538799:0=0:=rfl
theorem tw16875283667024866073:0=0:=rfl
theorem tw3796292904976090254:0=0:=rfl
theorem tw3664570823921191418:0=0:=rfl
theorem tw5787081967265267323:0=0:=rfl
theorem tw18146297035653865113:0=0:=rfl
theorem tw17237787600144640511:0=0:=rfl
theorem tw13242842894920550251:0=0:=rfl
theorem tw11101779605611904756:0=0:=rfl
theorem tw11364342739694517073:0=0:=rfl
theorem tw14442915065164578050:0=0:=rfl
theorem tw3408665675705789813:0=0:=rfl
theorem tw8820193564124973383:0=0:=rfl
theorem tw18242232951307520191:0=0:=rfl
theorem tw9462138527802701518:0=0:=rfl
theorem tw13400833066347203182:0=0:=rfl
theorem tw10962275882092196758:0=0:=rfl
theorem tw2467835842488454998:0=0:=rfl
theorem tw6843034015787707198:0=0:=rfl
theorem tw9693776989014625443:0=0:=rfl
theorem tw11485182826932309979:0=0:=rfl
theorem tw476491905361709643:0=0:=rfl
theorem tw4213348525071723168:0=0:=rfl
theorem tw2340250636321216714:0=0:=rfl
theorem tw16291812941737359112:0=0:=rfl
theorem tw14077350799323308367:0=0:=rfl
theorem tw7417949670744500302:0=0:=rfl
theorem tw11390924264499042610:0=0:=rfl
theorem tw15076500778962999700:0=0:=rfl
theorem tw4107431953751061135:0=0:=rfl
theorem tw8850695556969971253:0=0:=rfl
theorem tw2584529803105725029:0=0:=rfl
theorem tw9251664856407022316:0=0:=rfl
theorem tw6454022253528964961:0=0:=rfl
theorem tw10487636278524270630:0=0:=rfl
theorem tw13405393614828168288:0=0:=rfl
theorem tw9122878044399742777:0=0:=rfl
theorem tw7638968676047690705:0=0:=rfl
theorem tw16252510216532314459:0=0:=rfl
theorem tw9966808100943186905:0=0:=rfl
theorem tw18151266260505594208:0=0:=rfl
theorem tw6865482095829084712:0=0:=rfl
theorem tw330808666402125260:0=0:=rfl
theorem tw10463536391409212600:0=0:=rfl
theorem tw6476008061754090112:0=0:=rfl
theorem tw2440182525311570309:0=0:=rfl
theorem tw7678057904698282620:0=0:=rfl
theorem tw10441957053300728665:0=0:=rfl
theorem tw16395698241447401123:0=0:=rfl
theorem tw14313075424732696363:0=0:=rfl
theorem tw10856576521988706771:0=0:=rfl
theorem tw813460343935839596:0=0:=rfl
theorem tw9814750631414542459:0=0:=rfl
theorem tw15807979674194703123:0=0:=rfl
theorem tw217028374089406801:0=0:=rfl
theorem tw8035274498408137315:0=0:=rfl
theorem tw16235449436132885436:0=0:=rfl
theorem tw7178689779443769600:0=0:=rfl
theorem tw10998154236687309321:0=0:=rfl
theorem tw15389534436242570614:0=0:=rfl
theorem tw283080431211591753:0=0:=rfl
theorem tw8138775835946045422:0=0:=rfl
theorem tw11252048750285577639:0=0:=rfl
theorem tw5680715079588813402:0=0:=rfl
theorem tw3901292022557912602:0=0:=rfl
theorem tw3279296106379017601:0=0:=rfl
theorem tw5173905415976766157:0=0:=rfl
theorem tw4642724932754573236:0=0:=rfl
theorem tw15779166048252585103:0=0:=rfl
theorem tw12496306533571915913:0=0:=rfl
theorem tw15461005466782297458:0=0:=rfl
theorem tw913299847723312460:0=0:=rfl
theorem tw3519663527434372731:0=0:=rfl
theorem tw18238255906938600484:0=0:=rfl
theorem tw11424793127380062894:0=0:=rfl
theorem tw7812732506920836676:0=0:=rfl
theorem tw9033524095515498370:0=0:=rfl
theorem tw14112152564898841591:0=0:=rfl
theorem tw183297854977496084:0=0:=rfl
theorem tw1090709708463954752:0=0:=rfl
theorem tw17817306146574058582:0=0:=rfl
theorem tw5958801687783816456:0=0:=rfl
theorem tw14061237863749458920:0=0:=rfl
theorem tw8094631382474841716:0=0:=rfl
theorem tw15545378393137375383:0=0:=rfl
theorem tw13667810895273650012:0=0:=rfl
theorem tw13902285090381760167:0=0:=rfl
theorem tw3701695682428114052:0=0:=rfl
theorem tw4388550235669517326:0=0:=rfl
theorem tw9475597427634939677:0=0:=rfl
theorem tw15483204480469941067:0=0:=rfl
theorem tw10275050740496876304:0=0:=rfl
theorem tw5099241832817033622:0=0:=rfl
theorem tw6936086611930657918:0=0:=rfl
theorem tw9616554443055621160:0=0:=rfl
theorem tw9028750513347343308:0=0:=rfl
theorem tw16813009593731323392:0=0:=rfl
theorem tw14496471571898978473:0=0:=rfl
theorem tw13826448705576758846:0=0:=rfl
theorem tw16710370848263520236:0=0:=rfl
theorem tw6826456284180760713:0=0:=rfl
theorem tw780711586315856180:0=0:=rfl
theorem tw6823217098260114018:0=0:=rfl
theorem tw1119147281197948815:0=0:=rfl
theorem tw2962059878462515558:0=0:=rfl
theorem tw16578755207818275349:0=0:=rfl
theorem tw11442064139819556460:0=0:=rfl
theorem tw15062309247536604212:0=0:=rfl
theorem tw15104020895936732391:0=0:=rfl
theorem tw3328273621208004512:0=0:=rfl
theorem tw1869001146788688549:0=0:=rfl
theorem tw1492762069254247668:0=0:=rfl
theorem tw891761438032961391:0=0:=rfl
theorem tw6170765373502599610:0=0:=rfl
theorem tw15478122481651252925:0=0:=rfl
theorem tw15460078621472305942:0=0:=rfl
theorem tw463548474124810901:0=0:=rfl
theorem tw11085646089102634359:0=0:=rfl
theorem tw18008197343148950720:0=0:=rfl
theorem tw16002098876150418037:0=0:=rfl
theorem tw12699497890978106681:0=0:=rfl
theorem tw2463282076010070643:0=0:=rfl
theorem tw6302539790388079545:0=0:=rfl
theorem tw16526568851345247022:0=0:=rfl
theorem tw7139792671393574254:0=0:=rfl
theorem tw12359606569819770218:0=0:=rfl
theorem tw8304779330111946574:0=0:=rfl
theorem tw9968512639365187943:0=0:=rfl
theorem tw736878091497554208:0=0:=rfl
theorem tw8224813492760322277:0=0:=rfl
theorem tw1810454197690285842:0=0:=rfl
theorem tw12993529121013511317:0=0:=rfl
theorem tw3793489754396166437:0=0:=rfl
theorem tw6660734379837668345:0=0:=rfl
theorem tw11551059208240961026:0=0:=rfl
theorem tw2578280299291401990:0=0:=rfl
theorem tw14317934507549835391:0=0:=rfl
theorem tw12399835078652238087:0=0:=rfl
theorem tw6243928401076171116:0=0:=rfl
theorem tw12832839518629769758:0=0:=rfl
theorem tw15624259995172407501:0=0:=rfl
theorem tw12422708528805209426:0=0:=rfl
theorem tw8561044673941966422:0=0:=rfl
theorem tw6969510651675543459:0=0:=rfl
theorem tw3503979214645524298:0=0:=rfl
theorem tw6894942675858605440:0=0:=rfl
theorem tw9354483435122939216:0=0:=rfl
theorem tw7295555951484770685:0=0:=rfl
theorem tw16907429410123265352:0=0:=rfl
theorem tw15551629793895141125:0=0:=rfl
theorem tw10086051118139968514:0=0:=rfl
theorem tw7877881996336170708:0=0:=rfl
theorem tw1405153999837824393:0=0:=rfl
theorem tw284987322075058849:0=0:=rfl
theorem tw415241488530448965:0=0:=rfl
theorem tw4951013741908884897:0=0:=rfl
theorem tw15118221175308254421:0=0:=rfl
theorem tw13375010689899320956:0=0:=rfl
theorem tw7402509284960355923:0=0:=rfl
theorem tw6303918046639796723:0=0:=rfl
theorem tw4141798111678363310:0=0:=rfl
theorem tw14171208526770674525:0=0:=rfl
theorem tw9987174624732655673:0=0:=rfl
theorem tw6249035847498685262:0=0:=rfl
theorem tw16698770003830245717:0=0:=rfl
theorem tw12689943185493556020:0=0:=rfl
theorem tw5604201716962408335:0=0:=rfl
theorem tw17288848414593715433:0=0:=rfl
theorem tw18268552788344648172:0=0:=rfl
theorem tw16548116786025556419:0=0:=rfl
theorem tw816260809028210184:0=0:=rfl
theorem tw15911410275769447774:0=0:=rfl
theorem tw2264444100084670304:0=0:=rfl
theorem tw205619874579804424:0=0:=rfl
theorem tw5482323879413414003:0=0:=rfl
theorem tw387171206110234895:0=0:=rfl
theorem tw16253823356933510185:0=0:=rfl
theorem tw5687534650558421674:0=0:=rfl
theorem tw4934679990642159455:0=0:=rfl
theorem tw6066636105122713895:0=0:=rfl
theorem tw15924157379320158043:0=0:=rfl
theorem tw9558392836827306585:0=0:=rfl
theorem tw11225141485171273251:0=0:=rfl
theorem tw2412288273143345587:0=0:=rfl
theorem tw666549438103506788:0=0:=rfl
theorem tw318456537671295934:0=0:=rfl
theorem tw12317084323334551667:0=0:=rfl
theorem tw5044910371316260934:0=0:=rfl
theorem tw9285375156439029864:0=0:=rfl
theorem tw2926114843915924782:0=0:=rfl
theorem tw7046747335283190754:0=0:=rfl
theorem tw9620259468706706879:0=0:=rfl
theorem tw11999481668481548758:0=0:=rfl
theorem tw12151034537944520823:0=0:=rfl
theorem tw8243207819319802216:0=0:=rfl
theorem tw1675085427676686588:0=0:=rfl
theorem tw9485929889320616168:0=0:=rfl
theorem tw9110809683122605327:0=0:=rfl
theorem tw7003077526182718659:0=0:=rfl
theorem tw9053565181589733752:0=0:=rfl
theorem tw4808562987940000899:0=0:=rfl
theorem tw2000449542665105148:0=0:=rfl
theorem tw4866132704012157861:0=0:=rfl
theorem tw11277249337838452251:0=0:=rfl
theorem tw9888736354138178664:0=0:=rfl
theorem tw8380587071078145257:0=0:=rfl
theorem tw16719841818030923863:0=0:=rfl
theorem tw5362308555261212559:0=0:=rfl
theorem tw1187732466682048290:0=0:=rfl
theorem tw10723881716339133311:0=0:=rfl
theorem tw235552170898888517:0=0:=rfl
theorem tw5398484137260687478:0=0:=rfl
theorem tw4384454269209629477:0=0:=rfl
theorem tw13525674015801264405:0=0:=rfl
theorem tw6977565803618871444:0=0:=rfl
theorem tw16445164479404128158:0=0:=rfl
theorem tw5277903478173335387:0=0:=rfl
theorem tw27641906339153649:0=0:=rfl
theorem tw440430315243248768:0=0:=rfl
theorem tw6027956677454897861:0=0:=rfl
theorem tw16635071910032605105:0=0:=rfl
theorem tw11435931087912829345:0=0:=rfl
theorem tw5327916020353120354:0=0:=rfl
theorem tw15192563704573381672:0=0:=rfl
theorem tw12420882738174631947:0=0:=rfl
theorem tw6885794679266403593:0=0:=rfl
theorem tw13910409784662869898:0=0:=rfl
theorem tw11871978105861373201:0=0:=rfl
theorem tw15497081635075906435:0=0:=rfl
theorem tw13635799944991413581:0=0:=rfl
theorem tw667763871413331548:0=0:=rfl
theorem tw10728690143485696186:0=0:=rfl
theorem tw4181424954985061397:0=0:=rfl
theorem tw18286836309677411912:0=0:=rfl
theorem tw3151294102984763682:0=0:=rfl
theorem tw7699483570850775939:0=0:=rfl
theorem tw4516844470418316843:0=0:=rfl
theorem tw13402811063745405084:0=0:=rfl
theorem tw858223264547772580:0=0:=rfl
theorem tw10040428146179929831:0=0:=rfl
theorem tw4505944069034909733:0=0:=rfl
theorem tw15618198171175641079:0=0:=rfl
theorem tw10336668589392540860:0=0:=rfl
theorem tw1359775102436079408:0=0:=rfl
theorem tw2945545811876243155:0=0:=rfl
theorem tw7207721950447870372:0=0:=rfl
theorem tw2859676254321753769:0=0:=rfl
theorem tw14780046159737292667:0=0:=rfl
theorem tw12922852720938474597:0=0:=rfl
theorem tw12634628533345576158:0=0:=rfl
theorem tw14509924486789091204:0=0:=rfl
theorem tw3778026146241623964:0=0:=rfl
theorem tw11204005675606013397:0=0:=rfl
theorem tw10696211840649697972:0=0:=rfl
theorem tw11782650666256251012:0=0:=rfl
theorem tw10695536564395409609:0=0:=rfl
theorem tw351824173343553829:0=0:=rfl
theorem tw1941914492149662332:0=0:=rfl
theorem tw6141859743670659351:0=0:=rfl
theorem tw8047297725411255828:0=0:=rfl
theorem tw9063780620448653082:0=0:=rfl
theorem tw9571360375166350527:0=0:=rfl
theorem tw10694063509454572299:0=0:=rfl
theorem tw10832010812654082963:0=0:=rfl
theorem tw15802935442832923271:0=0:=rfl
theorem tw18146591392755543114:0=0:=rfl
theorem tw9492176900990305635:0=0:=rfl
theorem tw9787422113269565374:0=0:=rfl
theorem tw334611387550388847:0=0:=rfl
theorem tw7748694491080993905:0=0:=rfl
theorem tw17527476108357786769:0=0:=rfl
theorem tw13429142402259998894:0=0:=rfl
theorem tw15232706677947449071:0=0:=rfl
theorem tw5890704058369605140:0=0:=rfl
theorem tw6511700877448641758:0=0:=rfl
theorem tw16583745491667734849:0=0:=rfl
theorem tw4882086261290427189:0=0:=rfl
theorem tw7817240009584446975:0=0:=rfl
theorem tw10665331015468409840:0=0:=rfl
theorem tw11418931919801642625:0=0:=rfl
theorem tw7374199648787026639:0=0:=rfl
theorem tw684849214239310669:0=0:=rfl
theorem tw12077108804419276017:0=0:=rfl
theorem tw8360389521659373230:0=0:=rfl
theorem tw861593819593269329:0=0:=rfl
theorem tw13645123838797930789:0=0:=rfl
theorem tw6922842715011843752:0=0:=rfl
theorem tw5928296077856699046:0=0:=rfl
theorem tw6376894109432883640:0=0:=rfl
theorem tw10903124169813465717:0=0:=rfl
theorem tw5893159120492665925:0=0:=rfl
theorem tw18008411885250573843:0=0:=rfl
theorem tw1485023218807086229:0=0:=rfl
theorem tw7624964389948844522:0=0:=rfl
theorem tw9023842413959231896:0=0:=rfl
theorem tw10436073953291905589:0=0:=rfl
theorem tw11427642187961314128:0=0:=rfl
theorem tw1107049127058149912:0=0:=rfl
theorem tw13559426711254334364:0=0:=rfl
theorem tw9484121246753670947:0=0:=rfl
theorem tw662251134686707779:0=0:=rfl
theorem tw9874968522428594752:0=0:=rfl
theorem tw16430948655945332227:0=0:=rfl
theorem tw1678345941290716245:0=0:=rfl
theorem tw17922911926186515015:0=0:=rfl
theorem tw5163125423757456810:0=0:=rfl
theorem tw3455143867616334700:0=0:=rfl
theorem tw5348516929668459172:0=0:=rfl
theorem tw488134672411221885:0=0:=rfl
theorem tw7340686292830476498:0=0:=rfl
theorem tw2855004339337826432:0=0:=rfl
theorem tw11898790246602500235:0=0:=rfl
theorem tw15854888066302722262:0=0:=rfl
theorem tw17152349017624150600:0=0:=rfl
theorem tw14050371370524102137:0=0:=rfl
theorem tw5274631919167414323:0=0:=rfl
theorem tw3486324835155826304:0=0:=rfl
theorem tw2188147716603310895:0=0:=rfl
theorem tw18233528951997651057:0=0:=rfl
theorem tw3282549817917171193:0=0:=rfl
theorem tw12674836455390687976:0=0:=rfl
theorem tw6049054372240956005:0=0:=rfl
theorem tw12668028683153951439:0=0:=rfl
theorem tw16921212032826510045:0=0:=rfl
theorem tw5558356982697011302:0=0:=rfl
theorem tw15708382078358078979:0=0:=rfl
theorem tw4195794754619920856:0=0:=rfl
theorem tw18042417514139311033:0=0:=rfl
theorem tw9830661943262214677:0=0:=rfl
theorem tw7013303064368718396:0=0:=rfl
theorem tw16250207005820519043:0=0:=rfl
theorem tw12368599087295287084:0=0:=rfl
theorem tw9308072888647169253:0=0:=rfl
theorem tw8942138235651666562:0=0:=rfl
theorem tw13508258572459387776:0=0:=rfl
theorem tw5669146068055567537:0=0:=rfl
theorem tw641490017010008965:0=0:=rfl
theorem tw3926021323081125879:0=0:=rfl
theorem tw5113054206577564638:0=0:=rfl
theorem tw15301318781831712040:0=0:=rfl
theorem tw11453821280092686350:0=0:=rfl
theorem tw10155701099512859692:0=0:=rfl
theorem tw6765943692724997799:0=0:=rfl
theorem tw15532336986500058307:0=0:=rfl
theorem tw9346043277945881674:0=0:=rfl
theorem tw8286268009073223521:0=0:=rfl
theorem tw5719209688950439063:0=0:=rfl
theorem tw8110049861086438612:0=0:=rfl
theorem tw15023205370208047684:0=0:=rfl
theorem tw11345871642798252353:0=0:=rfl
theorem tw91350293810361311:0=0:=rfl
theorem tw14337803898703723610:0=0:=rfl
theorem tw12349830033023965185:0=0:=rfl
theorem tw2776244515586942475:0=0:=rfl
theorem tw1704338588673632033:0=0:=rfl
theorem tw13680774363247484445:0=0:=rfl
theorem tw9686598381664551273:0=0:=rfl
theorem tw1794502401068785570:0=0:=rfl
theorem tw2549479767620344872:0=0:=rfl
theorem tw7906307477448984867:0=0:=rfl
theorem tw17922443752317759152:0=0:=rfl
theorem tw2862178690354797716:0=0:=rfl
theorem tw3513825351163236347:0=0:=rfl
theorem tw8813504404828738631:0=0:=rfl
theorem tw1269045152728330192:0=0:=rfl
theorem tw5803601590986542002:0=0:=rfl
theorem tw11680543628963537982:0=0:=rfl
theorem tw9553791713932837354:0=0:=rfl
theorem tw13955529331731404825:0=0:=rfl
theorem tw11011111193951635294:0=0:=rfl
theorem tw9471697247358007755:0=0:=rfl
theorem tw14001533548694944445:0=0:=rfl
theorem tw7026133392076048297:0=0:=rfl
theorem tw1413955667883986689:0=0:=rfl
theorem tw14438431509664083680:0=0:=rfl
theorem tw12824565145608279688:0=0:=rfl
theorem tw2849189411186808035:0=0:=rfl
theorem tw8688505661097880112:0=0:=rfl
theorem tw2302417305163718315:0=0:=rfl
theorem tw13953714826989503503:0=0:=rfl
theorem tw12678024205212501665:0=0:=rfl
theorem tw3494933235775270418:0=0:=rfl
theorem tw13765813930193419210:0=0:=rfl
theorem tw2490852868369999395:0=0:=rfl
theorem tw6741403793333632006:0=0:=rfl
theorem tw15959451715105052120:0=0:=rfl
theorem tw9247942284980822962:0=0:=rfl
theorem tw17238508446601605761:0=0:=rfl
theorem tw3666699059876430302:0=0:=rfl
theorem tw10853177682504604246:0=0:=rfl
theorem tw7300679466647349664:0=0:=rfl
theorem tw5747361946669068287:0=0:=rfl
theorem tw2279614055429796040:0=0:=rfl
theorem tw705420595786265858:0=0:=rfl
theorem tw3339834010014986907:0=0:=rfl
theorem tw11436645464300068986:0=0:=rfl
theorem tw6710935415788965238:0=0:=rfl
theorem tw2798214060820552072:0=0:=rfl
theorem tw11748767836254389940:0=0:=rfl
theorem tw4557592120823066336:0=0:=rfl
theorem tw14407137598984512854:0=0:=rfl
theorem tw17726347664305314078:0=0:=rfl
theorem tw16232792393950895490:0=0:=rfl
theorem tw8033258098898900889:0=0:=rfl
theorem tw3994726584135705550:0=0:=rfl
theorem tw514159613189342695:0=0:=rfl
theorem tw17130328068322158542:0=0:=rfl
theorem tw10217746126534806360:0=0:=rfl
theorem tw7575739493049430613:0=0:=rfl
theorem tw18106646704936115157:0=0:=rfl
theorem tw8154378160484911459:0=0:=rfl
theorem tw11095905586599199507:0=0:=rfl
theorem tw4416904300323674733:0=0:=rfl
theorem tw5089042625949490088:0=0:=rfl
theorem tw16605464055675610053:0=0:=rfl
theorem tw3401926486197675399:0=0:=rfl
theorem tw3653084428861287921:0=0:=rfl
end PySem.W.Fast
open PySem PySem.W PyProof.Rows L2
set_option maxRecDepth 100000 in
set_option maxHeartbeats 0 in
set_option maxHeartbeats 0 in
theorem PySem.Challenge.cw_stakefield_k82_whole_alike_by_text_holds : PySem.Challenge.rw_stakefield_k82_whole_alike_by_text.Holds := by
 w_on;o_law;k_head;(case hw=>w_witness2)
 k_fill
 refine L2.walk_ofT2 (l:=PySem.Challenge.rw_stakefield_k82_whole_alike_by_text) (n:=63) (k:=13) (x:="script") (CX:=CX0) (sp:=My.spLaw) rfl (by decide) rfl ⟨rfl,by decide,by decide⟩ (λw h Y=>⟨PySem.W.km_in_of Y,PySem.W.km_tabs_of Y⟩) ?F My.law_start (λ_ _ _ _ z=>z)
 case F=>
  intro w mg fa h KX TS BM G hmg
  refine' L2.tf_start (st:=My.s_to_form) KX TS BM G ?a ?l ?u0 ?w1 ?w2 ?w3 ?u2 ?k
  (case a=>k_is);(case l=>k_is);(case u0=>exact rfl);(case w1=>k_is);(case w2=>exact rfl);(case w3=>exact rfl);(case u2=>decide)
  intro K2 X2 TA S b TF
  refine' My.law_ok X2 TA hmg ⟨_,L2.c_m KX G ?_,S.clsOk ⟨?_,?_,?_,?_⟩,S.find (id (α:=L4 _ _ _=_) ?_),(My.tm_ROWS KX G ?_ ?_ ?_).imp λ_ z=>⟨z.1,S.tab z.2⟩,L2.dfnJ S KX G (by walk_at"b1") ?_ ?_ ?_ ?_,L2.dfnJ S KX G (by walk_at"b1") ?_ ?_ ?_ ?_,L2.dfnJ S KX G (by walk_at"b2") ?_ ?_ ?_ ?_,L2.dfnJ S KX G (by walk_at"b1") ?_ ?_ ?_ ?_,L2.dfnJ S KX G (by walk_at"b1") ?_ ?_ ?_ ?_,L2.dfnJ S KX G (by walk_at"b1") ?_ ?_ ?_ ?_,L2.dfnJ S KX G (by walk_at"b2") ?_ ?_ ?_ ?_,L2.dfnJ S KX G (by walk_at"b2") ?_ ?_ ?_ ?_,L2.dfnJ S KX G (by walk_at"b2") ?_ ?_ ?_ ?_,L2.dfnJ S KX G (by walk_at"b1") ?_ ?_ ?_ ?_,L2.dfnJ S KX G (by walk_at"b2") ?_ ?_ ?_ ?_,L2.dfnJ S KX G (by walk_at"b2") ?_ ?_ ?_ ?_,L2.dfnJ S KX G (by walk_at"b3") ?_ ?_ ?_ ?_,L2.dfnJ S KX G (by walk_at"b1") ?_ ?_ ?_ ?_,L2.dfnJ S KX G (by walk_at"b1") ?_ ?_ ?_ ?_,L2.dfnJ S KX G (by walk_at"b1") ?_ ?_ ?_ ?_,L2.dfnJ S KX G (by walk_at"b1") ?_ ?_ ?_ ?_,L2.dfnJ S KX G (by walk_at"b1") ?_ ?_ ?_ ?_,L2.dfnJ S KX G (by walk_at"b2") ?_ ?_ ?_ ?_,L2.dfnJ S KX G (by walk_at"b3") ?_ ?_ ?_ ?_,L2.dfnJ S KX G (by walk_at"b1") ?_ ?_ ?_ ?_,L2.dfnJ S KX G (by walk_at"b1") ?_ ?_ ?_ ?_,L2.dfnJ S KX G (by walk_at"b1") ?_ ?_ ?_ ?_,L2.dfnJ S KX G (by walk_at"b2") ?_ ?_ ?_ ?_,L2.dfnJ S KX G (by walk_at"b1") ?_ ?_ ?_ ?_,L2.dfnJ S KX G (by walk_at"b1") ?_ ?_ ?_ ?_,L2.dfnJ S KX G (by walk_at"b1") ?_ ?_ ?_ ?_,L2.dfnJ S KX G (by walk_at"b1") ?_ ?_ ?_ ?_,L2.dfnJ S KX G (by walk_at"b1") ?_ ?_ ?_ ?_,L2.dfnJ S KX G (by walk_at"b1") ?_ ?_ ?_ ?_,L2.dfnJ S KX G (by walk_at"b1") ?_ ?_ ?_ ?_,L2.dfnJ S KX G (by walk_at"b1") ?_ ?_ ?_ ?_,L2.dfnJ S KX G (by walk_at"b1") ?_ ?_ ?_ ?_,L2.dfnJ S KX G (by walk_at"b1") ?_ ?_ ?_ ?_,L2.dfnJ S KX G (by walk_at"b1") ?_ ?_ ?_ ?_,L2.dfnJ S KX G (by walk_at"b2") ?_ ?_ ?_ ?_,L2.dfnJ S KX G (by walk_at"b2") ?_ ?_ ?_ ?_,L2.dfnJ S KX G (by walk_at"b2") ?_ ?_ ?_ ?_,L2.dfnJ S KX G (by walk_at"b2") ?_ ?_ ?_ ?_,L2.dfnJ S KX G (by walk_at"b2") ?_ ?_ ?_ ?_,L2.dfnJ S KX G (by walk_at"b3") ?_ ?_ ?_ ?_,L2.dfnJ S KX G (by walk_at"b1") ?_ ?_ ?_ ?_,L2.dfnJ S KX G (by walk_at"b1") ?_ ?_ ?_ ?_,L2.dfnJ S KX G (by walk_at"b1") ?_ ?_ ?_ ?_,L2.dfnJ S KX G (by walk_at"b1") ?_ ?_ ?_ ?_,L2.dfnJ S KX G (by walk_at"b2") ?_ ?_ ?_ ?_,L2.dfnJ S KX G (by walk_at"b1") ?_ ?_ ?_ ?_,L2.dfnJ S KX G (by walk_at"b1") ?_ ?_ ?_ ?_,L2.dfnJ S KX G (by walk_at"b1") ?_ ?_ ?_ ?_,L2.dfnJ S KX G (by walk_at"b2") ?_ ?_ ?_ ?_,L2.dfnJ S KX G (by walk_at"b1") ?_ ?_ ?_ ?_,L2.dfnJ S KX G (by walk_at"b1") ?_ ?_ ?_ ?_,L2.dfnJ S KX G (by walk_at"b3") ?_ ?_ ?_ ?_,L2.dfnJ S KX G (by walk_at"b1") ?_ ?_ ?_ ?_,L2.idfJ S (by walk_at"b1") ?_ ?_ ?_ ?_ ?_ ?_ ?_,L2.mdfJ S (by walk_at"b3") ?_ ?_ ?_ ?_ ?_,L2.mdfJ S (by walk_at"b3") ?_ ?_ ?_ ?_ ?_,L2.mdfJ S (by walk_at"b2") ?_ ?_ ?_ ?_ ?_,⟨_,_,_,TF,?_⟩,Ks KX G ?_,Ks KX G ?_,Ks KX G ?_,Ks KX G ?_,Ks KX G ?_,Ks KX G ?_,Ks KX G ?_,Ks KX G ?_,Ks KX G ?_,Ks KX G ?_,Ks KX G ?_,Ks KX G ?_,Ks KX G ?_,Ks KX G ?_,Ks KX G ?_,Ks KX G ?_,Ks KX G ?_,L2.g_s KX G ?_,L2.g_i KX G ?_,L2.g_i KX G ?_,L2.g_i KX G ?_,L2.g_i KX G ?_⟩
  all_goals try first |k_is | (dsimp only[L2.exn];first |k_is |k_exc |kit_is) |rfl
