import PyProof.Rows.All
import Wide.All
import OpenK.AllK
import Wide.FinOn
import Lean
import PyProof.EqAt
import PyProof.EqKinds
import PyProof.NeKinds
import PyProof.TupleCall
import KE.KDictSum
import KE.KSortTup
import KE.KRevIter
import KE.KRevSl
import PySem.Challenge.RW_stakefield_k83_whole_counts_by_text
set_option compiler.extract_closed false
set_option genInjectivity false
theorem zM0(h:0=0:=by rfl):0=0:=h
def zM:=zM0._auto_1
theorem zR0(h:0=0:=by decide):0=0:=h
def zR:=zR0._auto_1
theorem z00(h:0=0:=by first |exact .inl rfl |exact .inr rfl |assumption):0=0:=h
def z0:=z00._auto_1
theorem vN0(h:0=0:=by first |exact Or.inl rfl |exact Or.inr (Or.inl rfl) |exact Or.inr (Or.inr rfl)):0=0:=h
def vN:=vN0._auto_1
theorem k40(h:0=0:=by intro _;rfl):0=0:=h
def k4:=k40._auto_1
open List renaming getElem?_eq_getElem->Ld,length_map->Lg,mem_cons_of_mem->Li,mem_cons->Ll,mem_map->Ln,mem_cons_self->Lo,getElem?_map->Lq,getElem?_eq_some_iff->Ls,mem_singleton->Lz,mem_reverse->LA,pairwise_iff_getElem->LD,length_cons->LF,length_append->LG,append_assoc->LH,map_cons->LK,getElem?_append_left->LO,getD_eq_getElem?_getD->LP,length_pos_iff->LQ,mem_append_right->LR,getElem?_append_right->LS,size_toArray->LV,mem_of_getElem?->LW,getElem?_set_ne->L0,map_map->L4,replicate->L7,drop_eq_getElem_cons->L8,mem_map_of_mem->L9,take_append_drop->Mb,mem_range->Mc,map_append->Md,take_of_length_le->Mf,mem_append->Mm,mem_iff_getElem?->Mn,mem_filter->Mr,mem_append_left->Ms,length_reverse->Mw,getElem_mem->MA,getElem?_eq_none->MD,pairwise_map->MF,pairwise_cons->MG,range->MK,pairwise_append->MT,length_dropLast->M4,getElem_of_mem->Nb,foldl_cons->Nd,replicate_succ->Nh,getElem?_reverse->Nj,getElem?_replicate->Nn,length_eq_zero_iff->Np,getElem?_cons_succ->Nq,length_pos_of_mem->Nu,append_nil->Ny,getLast?_eq_getElem?->NA,tail_cons->NB,length_drop->ND,not_mem_nil->NG,sum_cons->NH,take_succ_cons->NJ,getElem?_take_of_lt->NK,length_replicate->NL,filter_cons_of_pos->NW,length_take->NZ,map_reverse->N2,flatten_cons->N7,getElem?_range->N8,map_congr_left->Oc,pairwise_reverse->Oi,find?_cons->Oj,zip_cons_cons->Om,mem_of_mem_drop->Ot,take_succ->Oz,filterMap_cons->OJ,reverse_append->OQ,getElem?_dropLast->OS,length_take_of_le->OT,perm_ext_iff_of_nodup->OY,all_eq_true->O5,getElem?_drop->O_,exists_mem_of_ne_nil->Po,take_succ_eq_append_getElem->Pp,nodup_cons->Py,drop_sublist->PH,getElem?_inj->PM,any_cons->PV,getLast?_cons_cons->P4,lookup_cons->P7,take_length->P8,head?_eq_getElem?->Qb,length_set->Qd,length_nil->Qe,getElem?_toArray->Qg,perm_append_comm->Qk,nodup_append->Qq,ext_getElem?->Qr,getElem_take->Qt,getElem_drop->Qu,exists_cons_of_ne_nil->Qw,mem_of_mem_take->Qx,mem_of_getLast?->Qy,mem_take_iff_getElem->QA,drop_length->QF,lookup->QI,takeWhile_cons->QK,drop_eq_nil_of_le->Q4,getLast?_map->Rf,take_zero->Rl,zipWith->Ru,getLast?_reverse->Rz,getElem?_zipWith_eq_some->RH,cons_append->RL,reverse_reverse->RS,all_cons->RU,forIn_cons->R6,length_zipWith->R9,range_succ->Se,nodup_iff_pairwise_ne->Sg,mem_filterMap->Sm,drop_zero->Sw,head?_map->SB,getElem?_set->SJ,length_range->SN,reverse_perm->SQ,map_dropLast->SV,map_take->S8,filter_cons_of_neg->Te,getElem_inj->Tf,mem_flatMap->Tu,getElem?_set_self->Tv,pairwise_lt_range->TL,length_eq_one_iff->TN,filter_eq_nil_iff->T3,of_mem_zip->T9,length_singleton->T_,set_append_right->Us,map_nil->Uv,pairwise_flatten->Uw,mem_iff_getElem->UF,dropLast_subset->UG,forIn_nil->UN,length_take_le->UW,map_eq_nil_iff->U1,filterMap_map->Vb,map_drop->Vf,head?_reverse->Vj,take_sublist->Vq,reverse_cons->Vx,zip_nil_left->Vz,all_map->VN,filter_cons->VW,nodup_range->VX,perm_middle->VY,mem_flatten->V6,length->Wg,head?_cons->Wt,map_id->Wu,sum_append->Wz,drop_drop->WK,foldl->WY,zip->Xe,range'->Xx,Perm->XT
open PySem.W renaming Frag->Le,mg_none_of->Ml,kia_one->Nc,keepIn->Nx,findIn->NR,fnOf->N0,emptyDict->N6,instObj->OH,cellsFrom_some->Q2,kitOne->Rg,codeIn->Rj,plainGet->RD,plainGet_of->R5,lookIn->Sv,hasDictIn->SE,kitx_list->SF,takerIn->T8,kitx_tuple->U7,callWith_K->U8,plainOver->Vo,kitx_dict->Vp,isFn->VJ,handedIn->VU,makesIn->We,OpenLaw->Wj,kIn_of->WD,mg_of->W8,WalkO->W9
open PySem renaming wpAny_bind->Lh,wpAny_pure->Lm,starEach->Lr,Value->Lw,Shared->LB,Program->LJ,boot_len->LL,Addr->LX,model->L6,wpAny->Me,World->Mp,compareOp->MC,Around->ML,mainGlobals->MY,wpAny_Call_Name_kw->M8,wpAny_holding->Na,foldedSetIterable->Nf,wpAny_truthy_bool->Nl,attributeBase->NC,mem_of_lookup->NI,backTo->NT,bootBuiltins->NY,eval->N4,wpAny_pyIter_list->N5,wpAny_setState_of->N9,Stmt->Od,behindInMarks->Oe,FuncData->Of,builtinLookup_eq_fast->Oh,sizeLine_eq->Oq,wpAny_call_entry->Os,intKind_is->OF,Heap->OG,swapsWith->OK,wpAny_specialOf->OM,codeAny_builtin->OO,wpAny_isInstance->O6,plainId_quiet->Pa,keywordEach->Pm,sysModules->Pu,wpAny_mono->Pv,wpAny_newObj_type->Pw,wpAny_passesOwn->Px,wpAny_updateSeq->PF,argBest->P1,cLine->P6,assignEach->P9,wpAny_seqItems->P_,typeLookup_type->Qh,wpAny_ite_split->Qi,binaryOp->QB,wpAny_askSetting->QE,codeAny_mono->QL,wpAny_callSpecial?_slot->QV,wpAny_tupleItemsOf->QW,sliceBounds->Q8,Keyword->Q9,call_meets->Q_,ofAClassStatement->Rb,bindArgs->Rh,backToKw->Ri,isSubtype_type->Rm,codeAny->RE,valueAt->RI,wpAny_pyNext_zip_end->RR,wpAny_rule->RY,typeIs_int->RZ,wpAny_execs_nil->R3,wpAny_setEntries_of->R8,wpAny_richCompare_same_room->R_,GenState->Sj,tupleKind_room_in1->Sr,wpAny_tryCatch->Sx,wpAny_getItem_list_slice->SI,intKind->SX,swapsWithSole->SZ,swappedStores->S0,wpAny_standAt->S6,wpAny_attempt->S9,wpAny_letGo->S_,Builtin->Ta,strIterType->Td,rawInt->Tg,wpAny_forIn_list->Tn,wpAny_pyIter_zip->Tp,wpAny_pyNext_list_item->Tx,wpAny_pyNext_range_end->Tz,wpAny_pyIter_rangeiter->TC,wpAny_nextOf_list_item->TM,wpAny_isTrue_Compare1->T4,PassesOwn->T5,wpAny_pyNext_list_end->T6,getMethod->T7,wpAny_eqIsQuiet_tuple->Ud,wpAny_pyNext_zip_item->Uj,wpAny_nextOf_list_end->Ul,isSubtype_tuple_tuple->Um,strValues->Uu,NameKind->UB,typeLookup->UC,wpAny_loadName_local->UE,wpAny_setField->UL,isSubtype_stop->UM,intText?->UO,wpAny_loadName_cell->UP,holding->UQ,subscripted->US,hashByValue->UT,wpAny_field->UU,richCompare->UV,tupleKind->U5,wpAny_pyIter_range->U6,evalPart_none->U9,setSearchFrom->Ve,pickOrder->Vg,wpAny_assign_Name->Vm,getItem->Vr,callerA->Vt,wpAny_storeSet_of->Vu,wpAny_pyIter_slot->Vv,richCompare_gives->Vy,Within->VH,wpAny_typeOf->VP,Scope->VS,wpAny_execs_cons->VT,wpAny_getItem_of->V2,ZipApart->V7,standAt->V_,pyNext->Wa,letOwnedTupleGo->Wb,pyIter->Wc,IsRangeIter->Wd,cellsFrom->Wf,seqItems?->Wk,putSet_of->Wl,codeAny_of_tree->Wm,wpAny_of_eq->Wn,wpAny_bindName->WB,recursionLimit->WC,entryFor_alias->WH,wpAny_fieldsOf->WI,wpAny_newTuple->WJ,numbered_texts->WL,wpAny_notIn_of->WM,intText_digits->WQ,builtinsNs->WT,wpAny_Name->WU,wpAny_call->WW,typeIs_str->WX,closureFor->WZ,IsPair->W0,BindsTo->W4,callWith->W5,storeName->Xg,Result->Xh,JoinOk->Xl,atKey->XA,revObj->XI,bindL->XM,bindC->XN,call->XO
open PySem.Heap renaming get?_push_of_some->Lj,lt_size->Lx,get?_push_size->LC,get?_update_other->M0,get?_update_self->M_,size_push->NS,SameBut->O8,ExtBut->Xu
open Nat renaming le_refl->Lk,lt_of_lt_of_le->Lp,le_of_lt->Lu,le_trans->LN,lt_or_eq_of_le->LY,mod_eq_of_lt->LZ,ne_of_lt->L3,le_add_right->L5,lt_of_succ_lt->Mg,lt_irrefl->Mh,le_of_lt_succ->Mt,zero_le->Mu,add_sub_cancel'->Mx,lt_succ_self->Mz,lt_of_le_of_lt->ME,lt_trans->MP,lt_of_le_of_ne->MR,add_le_add_left->MZ,mod_lt->M5,add_lt_add_left->Nk,lt_or_ge->NN,one_pos->NV,le_of_not_lt->N1,add_sub_assoc->N_,zero_lt_of_lt->Oa,min_eq_left->Og,sub_lt->On,pos_of_ne_zero->Oo,le_sub_one_of_lt->Ou,sub_one_lt_of_le->Ov,le_of_eq->Ox,pow_succ->Oy,lt_succ_of_lt->OD,not_lt_zero->ON,le_antisymm->OP,eq_zero_or_pos->Pc,zero_add->Pf,sub_add_cancel->Pg,mod_self->Pj,lt_trichotomy->Pz,ne_of_gt->PR,add_assoc->PX,lt_of_lt_of_eq->Qc,add_zero->Qf,add_lt_of_lt_sub'->Qj,sub_pos_of_lt->Qs,min_eq_right->QD,add_sub_cancel_left->QX,sub_zero->Rt,le_sub_of_add_le'->Rv,pow_le_pow_right->RN,mul_le_mul_right->RQ,mod_add_mod->R7,zero_mod->Ss,mul_le_mul->SD,succ_add_eq_add_succ->SL,sub_le->SR,le_max_right->Ti,sub_sub_self->Tq,max_eq_right->Tr,div_div_eq_div_mul->TJ,sub_add_sub_cancel->TV,le_of_succ_le_succ->TZ,add_comm->Ua,strongRecOn->Uc,add_le_of_le_sub'->Ur,le_add_left->Ut,toDigits->UA,one_mul->U2,add_mul->U3,mod_eq_sub_mod->Vc,mod_mod_of_dvd->Vd,add_sub_cancel->Vi,succ_le_of_lt->VB,le_succ_of_le->VD,lt_of_succ_le->VE,lt_succ_of_le->VF,add_mod_right->VG,mul_comm->VM,succ_le_succ->V0,min_le_right->V1,lt_of_not_le->V4,le_max_left->Wh,log2_lt->Wi,one_ne_zero->Wv,le_of_dvd->Xc,digitChar->Xf,zero_max->Xi,sub_self->Xk,gcd_comm->Xo,le_succ->Xr,pow_add->Xt,add_mod->Xw,sub_sub->Xz,not_lt->XR
open Int renaming mul_nonneg->Lv,lt_or_eq_of_le->L_,mul_eq_zero->Mo,dvd_trans->Mq,eq_of_mul_eq_mul_left->MB,dvd_mul_left->MJ,emod_add_mul_ediv->MX,lt_or_le->M3,mul_pos->M6,emod_lt_of_pos->M9,dvd_mul_right->Nr,mul_ediv_cancel'->Nt,ediv_eq_zero_of_lt->Nw,emod_nonneg->Nz,toNat_natCast->NM,mul_ediv_cancel_left->NO,pos_of_mul_pos_right->NP,le_of_lt->NQ,sub_pos_of_lt->Ob,eq_of_sub_eq_zero->Ol,lt_ediv_add_one_mul_self->Ow,le_refl->OR,le_ediv_iff_mul_le->OW,mul_lt_mul_of_pos_left->OZ,max_eq_right->O7,mul_comm->Pi,ne_of_gt->Pk,mul_zero->Pl,natAbs_of_nonneg->Pr,gcd->PJ,min_eq_left->PL,le_total->PU,dvd_add->Ql,add_mul_ediv_left->Qn,le_of_eq->Qo,gcd_dvd_right->Qv,gcd_dvd_left->QG,min_eq_right->QH,toNat_of_nonneg->QJ,dvd_refl->QQ,le_trans->QR,ediv_nonneg->QT,dvd_of_emod_eq_zero->QZ,max_eq_left->Q1,natAbs_mul->Rk,zero_mul->Rw,natAbs_dvd_natAbs->Rx,add_comm->Ry,add_zero->RA,sub_self->RB,le_max_right->RJ,min_le_right->RK,mul_assoc->RW,lt_irrefl->RX,dvd_sub->Sa,dvd_coe_gcd->Sb,add_mul_emod_self_left->Si,lt_of_lt_of_le->Su,emod_eq_of_lt->SU,ediv_le_self->Tj,dvd_antisymm->Ts,add_mul_ediv_right->TY,min_le_left->Ux,le_max_left->Uy,zero_dvd->Uz,le_of_sub_nonneg->UH,sub_nonneg_of_le->UI,mul_one->UR,dvd_neg->UX,mul_neg->UY,one_mul->UZ,mul_sub->U0,add_sub_cancel->Vk,zero_add->VR,sub_left_inj->V5,mul_add->Wr,gcd_neg->Ww,neg_mul->Wx,le_antisymm->Wy,add_nonneg->WN,sub_nonneg->WO,ofNat_dvd->Xd,dvd_zero->Xm,sub_mul->XB,sub_sub->XC,neg_gcd->XD,neg_sub->XE,not_lt->XS
open Array renaming length_toList->Ly,toList_append->Mj,getElem?_toList->MN,getElem?_eq_getElem->MQ,getD_eq_getD_getElem?->Ni,toList_push->OE,getElem?_eq_some_iff->OX,toList_reverse->Pq,getD->Qp,getElem?_replicate->QO,toList_inj->RF,mem_toList_iff->RM,toList_setIfInBounds->Sh,foldl_toList->So,forIn_toList->Sq,toList_map->To,toList->VI,toList_zip->V3,size_map->WG
open PyProof.Rows renaming wpS_bind->LI,wpS_pure->LU,arrOf->Mi,Keyed->MU,SortSt->OA,wpS_forRange->OB,pendingOf->Pe,boot_str->P5,boot_isinstance->Qm,wpS_modify->Re,wpS_mono->Rn,SortKind->Ro,failedOf->RV,assignInOrder_cons->Sk,wpS_get->Sy,envOfC->SH,AllBare->SY,gallopOf->Tc,subscriptTail_builtinR->TF,IsTup->UD,listUpdate_at->Vh,boot_max->Vl,assignInOrder_nil->Vn,Subscript_->Vs,boot_int->V8,boot_min->V9,seqEpoch_at->Wq,digits10_le->WA,signs_ofString->WR,boot_range->WV,mirror->W2,seqObj->W3,IntsAre->W7,bubble->Xj,tuples'->Xy
open Bool renaming false_eq_true->LM,and_eq_true->MW,false_ne_true->M7,not_true->NF,true_and->PZ,not_false->Qz,eq_iff_iff->QU,beq_eq_decide_eq->Rr,and_eq_false_iff->RC,and_eq_true_iff->RO,eq_false_iff->SS,or_eq_true->Ub,or_eq_false_iff->UJ,not_eq_true'->VA,and_false->WE,or_false->W6,false_or->W_
open Option.some renaming inj->Ma
open PySem.Value renaming ref->MM,type->OC,isInt_shape->Q5,none->Q6,int->Rq,isStrOf->SW,str->U4,bool->WS,isInt->Xq
open Prod renaming ext->MS,snd->OV,fst->Ph
open Classical renaming byContradiction->Ng,choose_spec->Ui,choose->VZ
open PySem.F renaming plain_max_loop->Nv,called_set->NU,slot_str_split->N3,plainAttrs_str->OU,plain_extend_loop->Pn,entry_str_split->P3,args_str_split_2->QP,entry_max_loop->Q3,slot_dict_getitem->SA,plainAttrs_list->S7,type_str_split->TX,plain_set_new->Ue,slot_set_iter->Ug,slot_zip_next->Uk,slot_tuple_lt->Uo,slot_tuple_gt->Uq
open PySem.Around renaming under_plainId->NX,under->VL
open PySem.Obj renaming mapSeq->O4,data_mapFields->Pd,putSet->Rc,isFreed_of_fields->Uh,cls_mapFields->Vw
open ToString renaming toString->O9
open List.Perm renaming append_left->Pb,append_right->TU,refl->UK,trans->Wp
open List.Pairwise renaming map->PN,imp_of_mem->QN,nil->Ra,filter->RT
open PySem.Heap.SameBut renaming update->PY,refl->SK
open Option renaming map_eq_some_iff->Qa,getD_some->QC,isSome_iff_exists->QM,getD_none->Th,toList_some->Va,isSome_map->VC,none->Xs,map->XQ
open PySem.Calls renaming spliced_cons->QS,spliced_nil->Q7,Name_function_global->Sf,callWith_builtin->TH
open List.cons renaming inj->QY,injEq->Wo
open PySem.Heap.IsSliceOf renaming new->U_
open List.Nodup renaming length_le_of_subset->VO
open Nat.succ renaming inj->VQ
open MonadExcept renaming tryCatch->Xa
open Prod.mk renaming injEq->Xb
open PySem.W.KIN renaming signs_num->Xn,val_back->Xp
open PySem.W.Looks renaming here->XF
open PySem.W.Dflts renaming none->XG,noKw->XH
open PySem.Within renaming cons->XJ
open PySem.Heap.DictOf renaming new->XU
set_option hygiene false
set_option hygiene true
set_option hygiene false
local macro_rules|`(tactic|walk_at"sC")=>`(tactic|exact⟨rfl,rfl,rfl,by decide+kernel,rfl,by decide+kernel,by decide+kernel⟩)
local macro_rules|`(tactic|walk_at"b1")=>`(tactic|exact λ_ _ _ _ _ _ _ h=>My.ar1 h λ_=>rfl)
local macro_rules|`(tactic|walk_at"b2")=>`(tactic|exact λ_ _ _ _ _ _ _ h=>My.ar2 h λ_ _=>rfl)
local macro_rules|`(tactic|walk_at"b3")=>`(tactic|exact λ_ _ _ _ _ _ _ h=>My.ar3 h λ_ _ _=>rfl)
set_option hygiene true
set_option maxHeartbeats 8000000
set_option Elab.async false
set_option linter.all false
set_option maxRecDepth 100000
namespace L2
open PySem PySem.Spec PyProof.Rows
abbrev Key:=Sum Int Str
def qv:Key->Lw->Bool
 | .inl k,v=>Xq k v
 | .inr x,v=>SW x v
def Kt(w:Mp):Key->Int
 | .inl k=>hashInt k
 | .inr x=>hashStr w x
theorem b6:∀{k}{v},qv k v=true->(∃i t,k=Sum.inl i/\v=Rq i t)\/(∃x t,k=Sum.inr x/\v=U4 x t)
 | .inl i,v,h=>by
  obtain⟨t,e⟩:=Q5 h;exact .inl ⟨i,t,rfl,e⟩
 | .inr x,v,h=>by
  obtain⟨t,e⟩:=Value.isStrOf_shape h;exact .inr ⟨x,t,rfl,e⟩
theorem AH(i)(t:Tok):qv (.inl i) (.int i t)=true:=by simp[qv,Xq]
theorem zi(x)(t:Tok):qv (.inr x) (.str x t)=true:=by simp[qv,SW]
theorem G0(a b):decide ((Sum.inl a:Key)=Sum.inl b)=(a==b):=by
 by_cases e:a=b
 .subst e;simp
 .have h:¬ (Sum.inl a:Key)=Sum.inl b:=λq=>e (Sum.inl.inj q);rw[decide_eq_false h];exact (beq_eq_false_iff_ne.mpr e).symm
theorem Hg(a b):decide ((Sum.inr a:Key)=Sum.inr b)=decide (a=b):=by
 by_cases e:a=b
 .subst e;simp
 .have h:¬ (Sum.inr a:Key)=Sum.inr b:=λq=>e (Sum.inr.inj q);rw[decide_eq_false h,decide_eq_false e]
theorem Hu(a)(b):decide ((Sum.inl a:Key)=Sum.inr b)=false:=decide_eq_false (λq=>nomatch q)
theorem HB(a)(b):decide ((Sum.inr a:Key)=Sum.inl b)=false:=decide_eq_false (λq=>nomatch q)
def cR(prog:LJ)(w:Mp):PySem.KeyKind prog w Key where
 is:=qv
 hash:=Kt w
 inj:=λv a b ha hb=>by
  rcases b6 ha with ⟨i,t,rfl,rfl⟩ |⟨x,t,rfl,rfl⟩
  .rcases b6 hb with ⟨j,u,rfl,e⟩ |⟨y,u,rfl,e⟩
   .injection e with e1 _;rw[e1]
   .exact nomatch e
  .rcases b6 hb with ⟨j,u,rfl,e⟩ |⟨y,u,rfl,e⟩
   .exact nomatch e
   .injection e with e1 _;rw[e1]
 byValue:=λk v h=>by
  rcases b6 h with ⟨i,t,rfl,rfl⟩ |⟨x,t,rfl,rfl⟩ <;>rfl
 pyHash:=λc h=>by
  rcases b6 c with ⟨i,t,rfl,rfl⟩ |⟨x,t,rfl,rfl⟩
  .exact wpAny_pyHash_int h
  .exact wpAny_pyHash_str h
 eqBool:=λd c h=>by
  rcases b6 d with ⟨i,t,rfl,rfl⟩ |⟨x,t,rfl,rfl⟩
  .rcases b6 c with ⟨j,u,rfl,rfl⟩ |⟨y,u,rfl,rfl⟩
   .rw[G0]at h;exact wpAny_eqBool_int h
   .rw[Hu]at h;exact SeqAt.EqAt.int_str i t y u _ _ _ _ h
  .rcases b6 c with ⟨j,u,rfl,rfl⟩ |⟨y,u,rfl,rfl⟩
   .rw[HB]at h;exact SeqAt.EqAt.str_int x t j u _ _ _ _ h
   .rw[Hg]at h;exact wpAny_eqBool_str h
 «strs»:=λk x t v h=>by
  rcases b6 h with ⟨i,u,rfl,e⟩ |⟨y,u,rfl,e⟩
  .exact nomatch e
  .injection e with e1 _;subst e1;cases v <;>rfl
theorem uf(prog)(w)(i)(t:Tok):(cR prog w).is (.inl i) (.int i t)=true:=AH i t
theorem uX(prog)(w)(x)(t:Tok):(cR prog w).is (.inr x) (.str x t)=true:=zi x t
inductive V where
 |non |bl (b:Bool) |int (i:Int) |str (x:Str) |byt (b:Array UInt8) |flt (b:UInt64) |ref (a:LX) |ty (n:String)
 deriving DecidableEq
def aS:V->Lw->Prop
 | .non,u=>u=Q6
 | .bl b,u=>u=WS b
 | .int i,u=>∃t,u=Rq i t
 | .str x,u=>∃t,u=U4 x t
 | .byt b,u=>∃t,u=Value.bytes b t
 | .flt b,u=>∃t,u=Value.float b t
 | .ref a,u=>u=MM a
 | .ty n,u=>u=OC n
abbrev aW:List V->List Lw->Prop:=Paired aS
theorem aW.length(r:aW xs us):xs.length=us.length:=Paired.length r
theorem aW.get:∀{b}{a}{i:Nat}{x},aW b a->b[i]?=some x->∃u,a[i]?=some u/\aS x u
 |_,_,_,_,.nil,e=>by simp at e
 |_,_,0,_,.cons r _,e=>by simp at e;subst e;exact⟨_,rfl,r⟩
 |_,_,i+1,x,.cons _ t,e=>by
  obtain⟨u,c,d⟩:=aW.get t (by simpa using e);exact⟨u,by simpa using c,d⟩
theorem aW.append:∀{d c}{b a},aW d b->aW c a->aW (d++c) (b++a):=by
 intro d c b a h s
 induction h with
 |nil=>exact s
 |cons r t e=>exact .cons r e
theorem aW.take:∀{b}{a} n,aW b a->aW (b.take n) (a.take n)
 |_,_,0,_=>.nil
 |_,_,_+1,.nil=>.nil
 |_,_,n+1,.cons r t=>.cons r (aW.take n t)
theorem aW.drop:∀{b}{a} n,aW b a->aW (b.drop n) (a.drop n)
 |_,_,0,r=>r
 |_,_,_+1,.nil=>.nil
 |_,_,n+1,.cons _ t=>aW.drop n t
def je:Option V->Option Lw->Prop
 |some v,some u=>aS v u
 |none,none=>True
 |_,_=>False
def KV{a:Type}:List (a×V)->List (a×Lw)->Prop:=Paired λ(p:a×V) (q:a×Lw)=>p.1=q.1/\aS p.2 q.2
def kV:Key->V
 | .inl i=>.int i
 | .inr x=>.str x
inductive HO where
 /-- a list -/
 |lst (xs:List V)
 /-- a tuple (never changes) -/
 |tup (xs:List V)
 /-- a dict whose keys are ints and texts;one whose keys are tuples of ints and texts (the empty one is both) -/
 |dK (XZ:List (Key×V)) |dT (XZ:List (List Key×V))
 /-- a set of ints:its members,its size -/
 |set (S:Int->Bool) (n:Nat)
 /-- an instance of the class at C,its dict at dx,its attributes -/
 |ins (C dx:LX) (fs:List (Str×V))
 /-- the dict of the instance at x -/
 |own (x:LX)
 /-- the dict of an exception -/
 |xd (fs:List (Str×V))
 /-- a bound method,f of x -/
 |met (f x:LX)
 /-- a range object lo,lo+1,.. below hi -/
 |rng (lo hi:Int)
 /-- a thing that is known to the object (the script;a dict while a loop walks it):read,never written while it is so -/
 |frz (o:Obj) (u:HO)
 /-- a code object's table -/
 |tbl (ps:Array Lw)
 /-- any other thing,by what is true of its one object (a def of one's own:SetO a S n:=HO.ext λh=>..) -/
 |ext (φ:OG->Prop)
abbrev Hp:=LX->Option HO
def upd(H:Hp)(a:LX)(o:HO):Hp:=λb=>if b=a then some o else H b
theorem aK:upd H a o a=some o:=by unfold upd;rw[if_pos rfl]
theorem aI(h:b≠a):upd H a o b=H b:=by unfold upd;rw[if_neg h]
theorem Kq{H:Hp}(h:H a=some o)(h':H b=some u)(d:o≠u):a≠b:=by
 intro e;subst e;rw[h]at h';exact d (Ma h')
theorem c9{H:Hp}(h:H a=some o)(h':H b=none):a≠b:=by
 intro e;subst e;rw[h]at h';cases h'
section
variable (P:LJ) (w:Mp)
def de(H:Hp)(h:OG)(a:LX):HO->Prop
 | .lst xs=>xs.length≤sizeLine∧∃(its:List Lw) (n:Nat),aW xs its∧h.get? a=some {cls:=.type "list",data:=.seq its.toArray n }
 | .tup xs=>xs.length<=sizeLine/\∃its:List Lw,aW xs its/\UD h a its.toArray
 | .dK XZ=>XZ.length<=sizeLine/\(a==Pu)=false/\∃i,KV XZ i/\h.DictOf (cR P w) a i
 | .dT XZ=>XZ.length<=sizeLine/\(a==Pu)=false/\∃xs:List (List Key×LX×Lw),
   Paired (λ(p:List Key×V) (q:List Key×LX×Lw)=>p.1=q.1/\H q.2.1=some (.tup (p.1.map kV))/\aS p.2 q.2.2) XZ xs/\
   ∃o g j,h.get? a=some o/\o.ExactDict/\o.data=.dict g j/\g.toList=xs.map (entryOfKey (U5 (cR P w)))/\(xs.map (·.1)).Nodup
 | .set S n=>h.SetOf (SX P w) a S n
 | .ins C c fs=>H c=some (.own a)/\fs.length<=1000/\c≠a/\h.get? a=some (OH C c)/\
   ∃b,h.Ns1 c b/\(∀f,je (fs.lookup f) (b f))/\VH b (fs.map (·.1))
 | .own _=>∃o,h.get? a=some o
 | .xd fs=>∃b,h.Ns1 a b/\∀f,je (fs.lookup f) (b f)
 | .rng lo k=>∃t u v,h.get? a=some {cls:=.type "range",data:=.fields #[.int lo t,.int k u,.int 1 v] }
 | .frz o u=>h.get? a=some o/\de H h a u
 | .tbl ps=>h.get? a=some {cls:=.none,data:=.fields ps }
 | .met f x=>h.get? a=some (PySem.W.methodObj (.ref f) (.ref x))
 | .ext φ=>φ h/\(∃o,h.get? a=some o)/\∀e d:OG,φ e->(∀o,e.get? a=some o->d.get? a=some o)->φ d
def HOk(H:Hp)(h:OG):Prop:=∀a o,H a=some o->de P w H h a o
end
section
variable {P:LJ}{w:Mp}{H H':Hp}{h h':OG}{a:LX}{o:HO}
theorem de.lt(x:de P w H h a o):a<h.objs.size:=by
 cases o with
 |lst b=>obtain⟨_,_,_,_,e⟩:=x;exact Lx e
 |tup b=>obtain⟨_,_,_,p⟩:=x;exact p.lt
 |dK c=>obtain⟨_,_,_,_,o,_,_,e,_⟩:=x;exact Lx e
 |dT c=>obtain⟨_,_,_,_,o,_,_,e,_⟩:=x;exact Lx e
 |set S n=>obtain⟨o,_,_,_,e,_⟩:=x;exact Lx e
 |ins C i fs=>obtain⟨_,_,_,e,_⟩:=x;exact Lx e
 |own y=>obtain⟨_,e⟩:=x;exact Lx e
 |xd fs=>obtain⟨_,⟨_,_,_,e,_⟩,_⟩:=x;exact Lx e
 |rng j l=>obtain⟨_,_,_,e⟩:=x;exact Lx e
 |frz k u=>obtain⟨e,_⟩:=x;exact Lx e
 |tbl d=>exact Lx x
 |met f y=>exact Lx x
 |ext g=>obtain⟨_,⟨_,e⟩,_⟩:=x;exact Lx e
theorem Paired.mapP{α g:Type}{F G:α->g->Prop}:∀{c}{d},Paired F c d->(∀a b,F a b->G a b)->Paired G c d:=by
 intro c d h f
 induction h with
 |nil=>exact .nil
 |cons r t e=>exact .cons (f _ _ r) e
theorem de.stay(x:de P w H h a o)(k:∀b u,(b=a\/H b=some (.own a))->h.get? b=some u->h'.get? b=some u)
  (ho:∀b,H b=some (.own a)->H' b=some (.own a)) (ht:∀b l,H b=some (.tup l)->H' b=some (.tup l)):de P w H' h' a o:=by
 induction o with
 |lst l=>obtain⟨z,its,n,r,e⟩:=x;exact⟨z,its,n,r,k _ _ (.inl rfl) e⟩
 |tup l=>obtain⟨z,its,r,g,e,c⟩:=x;exact⟨z,its,r,g,k _ _ (.inl rfl) e,c⟩
 |dK G=>obtain⟨z,y,F,r,g,j,i,e,c⟩:=x;exact⟨z,y,F,r,g,j,i,k _ _ (.inl rfl) e,c⟩
 |dT G=>
  obtain⟨z,y,l,r,g,j,i,e,c⟩:=x;exact⟨z,y,l,Paired.mapP r λp q z=>⟨z.1,ht _ _ z.2.1,z.2.2⟩,g,j,i,k _ _ (.inl rfl) e,c⟩
 |set S n=>obtain⟨g,j,i,t,e,c⟩:=x;exact⟨g,j,i,t,k _ _ (.inl rfl) e,c⟩
 |ins C K fs=>
  obtain⟨d,z,D,e,m,⟨s,j,i,E,c⟩,r⟩:=x;exact⟨ho _ d,z,D,k _ _ (.inl rfl) e,m,⟨s,j,i,k _ _ (.inr d) E,c⟩,r⟩
 |own y=>obtain⟨g,e⟩:=x;exact⟨g,k _ _ (.inl rfl) e⟩
 |xd fs=>obtain⟨m,⟨s,j,i,e,c⟩,r⟩:=x;exact⟨m,⟨s,j,i,k _ _ (.inl rfl) e,c⟩,r⟩
 |rng L M=>obtain⟨t,u,v,e⟩:=x;exact⟨t,u,v,k _ _ (.inl rfl) e⟩
 |frz g u B=>obtain⟨e,q⟩:=x;exact⟨k _ _ (.inl rfl) e,B q⟩
 |tbl I=>
  have e:=x;exact k a _ (.inl rfl) e
 |met f y=>
  have e:=x;exact k a _ (.inl rfl) e
 |ext J=>obtain⟨p,⟨o,e⟩,A⟩:=x;exact⟨A _ _ p λo q=>k _ _ (.inl rfl) q,⟨o,k _ _ (.inl rfl) e⟩,A⟩
theorem HOk.lt(x:HOk P w H h)(e:H a=some o):a<h.objs.size:=(x a o e).lt
theorem HOk.fresh(x:HOk P w H h)(e:h.objs.size<=a):H a=none:=by
 cases q:H a with
 |none=>rfl
 |some u=>exact absurd (Lp (x.lt q) e) (Mh _)
theorem HOk.kept(x:HOk P w H h)(k:∀b u,h.get? b=some u->h'.get? b=some u):HOk P w H h':=λa o e=>
 (x a o e).stay (λb u _ q=>k b u q) (λ_ q=>q) λ_ _ q=>q
theorem HOk.laid(x:HOk P w H h)(k:∀b u,h.get? b=some u->h'.get? b=some u)(g:h.objs.size<=a)(d:de P w (upd H a o) h' a o):HOk P w (upd H a o) h':=λb u e=>by
 have f:=x.fresh g;by_cases hb:b=a
 .subst hb;rw[aK]at e;cases e;exact d
 .rw[aI hb]at e;exact (x b u e).stay (λc v _ q=>k c v q) (λc q=>by rw[aI (c9 q f)];exact q) λc i q=>by rw[aI (c9 q f)];exact q
end
def Rd(H:Hp)(a:LX)(u:HO):Prop:=H a=some u\/∃o,H a=some (.frz o u)
theorem Rd.ok(r:Rd H a u)(x:HOk P w H h):de P w H h a u:=by
 rcases r with r |⟨o,r⟩
 .exact x a u r
 .obtain⟨_,q⟩:=x a _ r;exact q
def Mut:Option HO->Prop
 |some (.lst _)=>True
 |some (.dK _)=>True
 |some (.dT _)=>True
 |some (.set _ _)=>True
 |some (.ins _ _ _)=>True
 |some (.ext _)=>True
 |_=>False
section
variable {P:LJ}{w:Mp}{H:Hp}{h h':OG}{x e:LX}{o':HO}
theorem HOk.write(p:HOk P w H h)(g:Mut (H x))(n:e=x\/H e=some (.own x))(k:∀b u,b≠e->h.get? b=some u->h'.get? b=some u)(l:∃u,h'.get? e=some u)
  (new:de P w (upd H x o') h' x o'):HOk P w (upd H x o') h':=λb u q=>by
 have d:∀c y,H c=some (.own y)->c≠x:=λc y r z=>by subst z;rw[r]at g;exact g
 have f:∀c i,H c=some (.tup i)->c≠x:=λc i r z=>by subst z;rw[r]at g;exact g
 by_cases hb:b=x
 .subst hb;rw[aK]at q;cases q;exact new
 .rw[aI hb]at q;by_cases a:b=e
  .have m:H b=some (.own x):=by
    rcases n with z |z
    .exact absurd (a.trans z) hb
    .rw[a];exact z
   rw[q]at m;cases m;obtain⟨v,o⟩:=l;exact⟨v,by rw[a];exact o⟩
  .refine (p b u q).stay (λc v j r=>k c v ?_ r) (λc r=>by rw[aI (d c b r)];exact r) λc i r=>by rw[aI (f c i r)];exact r
   rcases j with rfl |j
   .exact a
   .rintro rfl;rcases n with z |z
    .exact d c b j z
    .rw[j]at z;cases z;exact hb rfl
end
structure Un(fs ex:List LX)(H H':Hp)(h h':OG):Prop where
 keep:∀b o,h.get? b=some o->H b=none->b ∉ fs->b ∉ ex->h'.get? b=some o
 slot:∀b o,h.get? b=some o->H b=none->b∈fs->b ∉ ex->∃sl,h'.get? b=some {o with slots:=sl }
 free:∀b o,h.get? b=some o->H b=none->b ∉ ex->H' b=none
 there:∀b o,h.get? b=some o->b ∉ ex->∃o',h'.get? b=some o'
 tups:∀b xs,H b=some (.tup xs)->H' b=some (.tup xs)
 frzs:∀b o u,H b=some (.frz o u)->H' b=some (.frz o u)
 tbls:∀b ps,H b=some (.tbl ps)->∃more,H' b=some (.tbl (ps++more))
section
variable {fs fs' ex ex':List LX}{H H1 H2:Hp}{h h1 h2 h':OG}{a x e:LX}{o:HO}
theorem Un.any(u:Un fs ex H H1 h h1)(q:h.get? b=some ob)(n:H b=none)(a:b ∉ ex):∃c,h1.get? b=some {ob with slots:=c }:=by
 by_cases hb:b∈fs
 .exact u.slot b ob q n hb a
 .exact⟨ob.slots,u.keep b ob q n hb a⟩
theorem Un.kept(k:∀b u,h.get? b=some u->h'.get? b=some u):Un fs ex H H h h':=
 ⟨λb a q _ _ _=>k b a q,λb a q _ _ _=>⟨a.slots,k b a q⟩,λ_ _ _ n _=>n,λb a q _=>⟨a,k b a q⟩,λ_ _ q=>q,λ_ _ _ q=>q,λ_ c q=>⟨#[],by rw[q];simp⟩⟩
theorem Un.refl:Un fs ex H H h h:=Un.kept λ_ _ q=>q
theorem Un.laid(k:∀b u,h.get? b=some u->h'.get? b=some u)(e:h.objs.size<=a)(c:H a=none):Un fs ex H (upd H a o) h h' where
 keep:=λb u q _ _ _=>k b u q
 slot:=λb u q _ _ _=>⟨u.slots,k b u q⟩
 free:=λb u q n _=>by rw[aI (L3 (Lp (Lx q) e))];exact n
 there:=λb u q _=>⟨u,k b u q⟩
 tups:=λb d q=>by rw[aI (c9 q c)];exact q
 frzs:=λb u d q=>by rw[aI (c9 q c)];exact q
 tbls:=λb f q=>⟨#[],by rw[aI (c9 q c),q];simp⟩
theorem Un.write(c:Mut (H x))(i:e=x\/H e=some (.own x))(k:∀b u,b≠e->h.get? b=some u->h'.get? b=some u)(f:∃u,h'.get? e=some u):Un fs ex H (upd H x o) h h':=by
 have g:∀b,H b=none->b≠x:=λb n z=>by subst z;rw[n]at c;exact c
 have hb:∀b,H b=none->b≠e:=λb n z=>by
  subst z;rcases i with r |r
  .exact g b n r
  .rw[n]at r;cases r
 have d:∀b u,H b=some u->¬ Mut (some u)->b≠x:=λb u q nm z=>by subst z;rw[q]at c;exact nm c
 refine⟨λb u q n _ _=>k b u (hb b n) q,λb u q n _ _=>⟨u.slots,k b u (hb b n) q⟩,λb u q n _=>by rw[aI (g b n)];exact n,λb u q _=>?_,
  λb j q=>by rw[aI (d b _ q λz=>z)];exact q,λb u j q=>by rw[aI (d b _ q λz=>z)];exact q,λb l q=>⟨#[],by rw[aI (d b _ q λz=>z),q];simp⟩⟩
 by_cases a:b=e
 .subst a;exact f
 .exact⟨u,k b u a q⟩
end
def trk(h:OG)(H:Hp):List LX:=(MK h.objs.size).filter λa=>(H a).isSome
def qR(h:OG)(H:Hp):OG:=PySem.W.hideAll h (trk h H)
theorem zy(h)(H):(qR h H).objs.size=h.objs.size:=PySem.W.hideAll_size _ _
theorem BR(e:h.get? b=some o)(n:H b=none):(qR h H).get? b=some o:=
 PySem.W.hideAll_get _ e λa=>by
  have q:=(Mr.mp a).2;rw[n]at q;simp at q
theorem EM(e:(qR h H).get? b=some o):h.get? b=some o/\H b=none:=by
 have a:=PySem.W.of_hideAll (trk h H) e;refine⟨a,?_⟩;cases q:H b with
 |none=>rfl
 |some x=>
  have c:b∈trk h H:=Mr.mpr ⟨Mc.mpr (Lx a),by simp[q]⟩;have z:(qR h H).get? b=none:=PySem.W.hideAll_none (trk h H) c;rw[z]at e;cases e
def FO(g h:OG)(L:LX):List (LX×Obj):=(MK h.objs.size).filterMap λa=>if a=L\/(g.get? a).isSome=true then none else (h.get? a).map λo=>(a,o)
def rest(g h:OG)(L d:LX):List (LX×Obj):=(FO g h L).filter λp=>decide (p.1≠d)
structure Mod(K:Le)(mg:Str->Option Lw)(base:OG):Prop where
 kin:K.In base
 glob:base.Ns MY mg
 blt:∃mb,base.Ns WT mb∧∀x:Str,x≠"__name__"→mb x=NY x
 nolimit:base.NoLimit
structure Cx where
 prog:LJ
 w:Mp
 K:Le
 mg:Str->Option Lw
 base:OG
 A:ML
 N:List Str
 s₀:LB
 H₀:Hp
 env:Env
 outer:List Env
 stack:List Env
 ex:List LX
 fn:Str->Bool
 calm:Bool
 pn:List (LX×Obj)
 xe:Lw->LB->Prop
def frs(l:List Env):List LX:=l.filterMap (·.frame)
abbrev Cx.fs(X:Cx):List LX:=frs X.outer
def Vis(a:VS)(x:Str):Prop:=a.names.lookup x=some .local\/a.names.lookup x=some .cell\/a.names.lookup x=some .free
def Loc(a:VS)(x:Str):Prop:=a.names.lookup x=some .local\/a.names.lookup x=some .cell
def K0(a:Env)(h:OG)(m:Str->Option Lw)(x:Str)(u:Lw):Prop:=
 (a.kindOf x=some .local/\m x=some u)\/((a.kindOf x=some .cell\/a.kindOf x=some .free)/\∃c,a.cells.lookup x=some c/\h.IsCell c (some u))
structure Cx.Ok(X:Cx):Prop where
 mod:Mod X.K X.mg X.base
 kind:X.env.scope.kind=.function
 glob:X.env.globals=MY
 blt:X.env.builtins=WT
 above:X.s₀.heap.objs.size<=X.env.locals
 inj:∀x y c,X.env.cells.lookup x=some c->X.env.cells.lookup y=some c->x=y
 has:∀x,(X.env.kindOf x=some .cell\/X.env.kindOf x=some .free)->∃c,X.env.cells.lookup x=some c
 cab:∀x c,X.fn x=true->X.env.cells.lookup x=some c->X.s₀.heap.objs.size<=c
 hd:X.calm=true->X.A.handled=none
 frames:X.A.frames=some X.stack
 stk:X.stack=X.outer\/(X.stack=X.env::X.outer/\X.env.frame=some X.env.locals)
 exf:∀b∈X.ex,b≠X.env.locals/\∀x c,X.env.cells.lookup x=some c->c≠b
 bs:∀b o,X.base.get? b=some o->X.s₀.heap.get? b=some o/\X.H₀ b=none
 bsz:X.base.objs.size<=X.s₀.heap.objs.size
 noex:∀b o,X.base.get? b=some o->b ∉ X.ex
 exfs:∀b∈X.ex,b ∉ X.fs
 funs:X.s₀.heap.FunFrames X.base X.outer
 frf:∀b∈X.fs,X.H₀ b=none
structure Inv(X:Cx)(XW:List (LX×Obj))(σ:List (Option V))(H:Hp)(s:LB):Prop where
 ok:X.Ok
 os:s.os=X.s₀.os
 bare:SY s.gens
 base:Un X.fs X.ex X.H₀ H X.s₀.heap s.heap
 loc:∃m,s.heap.Ns X.env.locals m/\∀(i:Nat) (x:Str) (v:V),X.N[i]?=some x->σ[i]?=some (some v)->Vis X.env.scope x->∃u,aS v u/\K0 X.env s.heap m x u
 cell:∀x c,X.env.cells.lookup x=some c->∃v,s.heap.IsCell c v
 free:H X.env.locals=none
 freeC:∀x c,X.env.cells.lookup x=some c->H c=none
 pin:∀p∈X.pn++XW,s.heap.get? p.1=some p.2/\H p.1=none/\p.1≠X.env.locals/\p.1 ∉ X.fs/\∀v,p.2.data≠.cell v
 hok:HOk X.prog X.w H s.heap
 len:σ.length=X.N.length
section
variable {X:Cx}{XW:List (LX×Obj)}{σ:List (Option V)}{H H':Hp}{s:LB}{h':OG}
theorem Cx.Ok.nofr(a:X.Ok)(e:X.base.get? b=some o):b ∉ X.fs:=λhb=>by
 have:=(a.funs.mem hb).1;rw[e]at this;cases this
theorem Inv.bs(I:Inv X XW σ H s):∀b o,X.base.get? b=some o->s.heap.get? b=some o/\H b=none:=λb o e=>
 ⟨I.base.keep b o (I.ok.bs b o e).1 (I.ok.bs b o e).2 (I.ok.nofr e) (I.ok.noex b o e),I.base.free b o (I.ok.bs b o e).1 (I.ok.bs b o e).2 (I.ok.noex b o e)⟩
theorem Inv.bk(I:Inv X XW σ H s):∀b o,X.base.get? b=some o->s.heap.get? b=some o:=λb o e=>(I.bs b o e).1
theorem Inv.mod(I:Inv X XW σ H s):Mod X.K X.mg X.base:=I.ok.mod
theorem Inv.kIn(I:Inv X XW σ H s):X.K.In s.heap:=I.ok.mod.kin.keeps I.bk
theorem Inv.lt(I:Inv X XW σ H s):X.env.locals<s.heap.objs.size:=let ⟨_,hn,_⟩:=I.loc;hn.lt
theorem Inv.sz(I:Inv X XW σ H s):X.s₀.heap.objs.size<=s.heap.objs.size:=LN I.ok.above (Lu I.lt)
theorem Inv.nofs(I:Inv X XW σ H s)(h:s.heap.objs.size<=a):a ∉ X.fs:=λhb=>by
 obtain⟨_,o,b,_⟩:=I.ok.funs.mem hb;exact absurd (Lp (Lx b) (LN I.sz h)) (Mh _)
theorem Inv.cne(I:Inv X XW σ H s):∀x c,X.env.cells.lookup x=some c->c≠X.env.locals:=λx c e z=>by
 obtain⟨v,o,b,a⟩:=I.cell x c e;obtain⟨m,⟨h,g,i,d,f,_⟩,_⟩:=I.loc;rw[z,d]at b;cases b;rw[f]at a;cases a
theorem Inv.funs(I:Inv X XW σ H s):s.heap.FunFrames X.base X.outer:=by
 have all:∀l,(∀b∈frs l,b∈X.fs)->X.s₀.heap.FunFrames X.base l->s.heap.FunFrames X.base l:=by
  intro l
  induction l with
  |nil=>intro _ _;trivial
  |cons n r g=>
   intro d j;obtain⟨m,⟨L,o,c,k,f,h⟩,i⟩:=j;have a:=d L (by unfold frs;rw[OJ,c];exact Lo);obtain⟨p,e⟩:=I.base.slot L o f (I.ok.frf L a) a λz=>I.ok.exfs L z a;exact⟨m,⟨L,_,c,k,e,h⟩,g (λb hb=>d b (by unfold frs;rw[OJ,c];exact Li _ hb)) i⟩
 exact all X.outer (λ_ hb=>hb) I.ok.funs
theorem Inv.stack(I:Inv X XW σ H s):s.heap.FunFrames X.base X.stack:=by
 rcases I.ok.stk with e |⟨e,a⟩
 .rw[e];exact I.funs
 .rw[e];obtain⟨m,b,_⟩:=I.loc;refine .cons (by rw[I.ok.kind];decide) a b ?_ I.funs;exact Heap.get?_none_of_le (LN I.ok.bsz I.ok.above)
theorem Inv.stkSub(I:Inv X XW σ H s):∀b∈frs X.stack,b∈X.env.locals::X.fs:=λb hb=>by
 rcases I.ok.stk with e |⟨e,a⟩
 .rw[e]at hb;exact Li _ hb
 .rw[e]at hb;unfold frs at hb;rw[OJ,a]at hb;exact hb
theorem Inv.stkFree(I:Inv X XW σ H s):∀b∈frs X.stack,H b=none:=λb hb=>by
 rcases Ll.mp (I.stkSub b hb) with e |hb
 .rw[e];exact I.free
 .obtain⟨_,o,a,_⟩:=I.ok.funs.mem hb;exact I.base.free b o a (I.ok.frf b hb) λz=>I.ok.exfs b z hb
theorem Inv.step{g':Array Sj}{t':Nat}{d':Drawn}{ch:List LX}(I:Inv X XW σ H s)
  (hch:∀b∈ch,(b∈X.ex\/X.s₀.heap.objs.size<=b)/\b≠X.env.locals/\(∀x c,X.env.cells.lookup x=some c->c≠b)/\∀p∈X.pn++XW,p.1≠b)
  (keep:∀b o,b≠X.env.locals->b ∉ X.fs->b ∉ ch->s.heap.get? b=some o->H b=none->h'.get? b=some o)
  (slot:∀b o,b≠X.env.locals->b∈X.fs->b ∉ ch->s.heap.get? b=some o->H b=none->∃F,h'.get? b=some {o with slots:=F }) (free:∀b o,b ∉ ch->s.heap.get? b=some o->H b=none->H' b=none)
  (there:∀b o,b ∉ ch->s.heap.get? b=some o->∃A,h'.get? b=some A)
  (tups:∀b t,H b=some (.tup t)->H' b=some (.tup t)) (frzs:∀b o u,H b=some (.frz o u)->H' b=some (.frz o u)) (tbls:∀b D,H b=some (.tbl D)->∃more,H' b=some (.tbl (D++more)))
  (ns:∀m,s.heap.Ns X.env.locals m->h'.Ns X.env.locals m) (hok:HOk X.prog X.w H' h') (hg:SY g'):
  Inv X XW σ H' {s with heap:=h',gens:=g',drawn:=d',toks:=t' }:=by
 have C:∀b o,X.s₀.heap.get? b=some o->b≠X.env.locals:=λb o e=>L3 (Lp (Lx e) I.ok.above)
 have h:∀b o,X.s₀.heap.get? b=some o->b ∉ X.ex->b ∉ ch:=λb o e a hb=>by
  rcases (hch b hb).1 with z |z
  .exact a z
  .exact absurd (Lp (Lx e) z) (Mh _)
 have g:∀x c,X.env.cells.lookup x=some c->∀v,s.heap.IsCell c v->h'.IsCell c v:=λx c e v O=>by
  obtain⟨o,y,E⟩:=O;have f:c ∉ ch:=λz=>(hch c z).2.2.1 x c e rfl;by_cases K:c∈X.fs
  .obtain⟨F,q⟩:=slot c o (I.cne x c e) K f y (I.freeC x c e);exact⟨_,q,E⟩
  .exact⟨o,keep c o (I.cne x c e) K f y (I.freeC x c e),E⟩
 refine⟨I.ok,I.os,hg,⟨λb o e n hb a=>?_,λb o e n hb a=>?_,λb o e n a=>?_,λb o e a=>?_,λb t e=>tups b t (I.base.tups b t e),λb o t e=>frzs b o t (I.base.frzs b o t e),λb D e=>?_⟩,?_,λx c e=>?_,?_,λx c e=>?_,λp L=>?_,hok,I.len⟩
 .exact keep b o (C b o e) hb (h b o e a) (I.base.keep b o e n hb a) (I.base.free b o e n a)
 .obtain⟨F,j⟩:=I.base.slot b o e n hb a;obtain⟨G,B⟩:=slot b _ (C b o e) hb (h b o e a) j (I.base.free b o e n a);exact⟨G,B⟩
 .obtain⟨A,j⟩:=I.base.there b o e a;exact free b A (h b o e a) j (I.base.free b o e n a)
 .obtain⟨A,j⟩:=I.base.there b o e a;exact there b A (h b o e a) j
 .obtain⟨N,j⟩:=I.base.tbls b D e;obtain⟨S,B⟩:=tbls b _ j;exact⟨N++S,by rw[B,Array.append_assoc]⟩
 .obtain⟨m,Q,P⟩:=I.loc;refine⟨m,ns m Q,λi x v j B R=>?_⟩;obtain⟨u,r,l⟩:=P i x v j B R;refine⟨u,r,?_⟩;rcases l with l |⟨k,c,e,z⟩
  .exact .inl l
  .exact .inr ⟨k,c,e,g x c e _ z⟩
 .obtain⟨v,z⟩:=I.cell x c e;exact⟨v,g x c e v z⟩
 .obtain⟨m,⟨o,_,_,y,_⟩,_⟩:=I.loc;exact free _ o (λz=>(hch _ z).2.1 rfl) y I.free
 .obtain⟨v,o,y,E⟩:=I.cell x c e;exact free c o (λz=>(hch c z).2.2.1 x c e rfl) y (I.freeC x c e)
 .obtain⟨e,n,J,M,d⟩:=I.pin p L;have f:p.1 ∉ ch:=λz=>(hch p.1 z).2.2.2 p L rfl;exact⟨keep p.1 p.2 J M f e n,free p.1 p.2 f e n,J,M,d⟩
theorem Inv.un(I:Inv X XW σ H s)(u:Un X.fs [] H H' s.heap h')(c:HOk X.prog X.w H' h'):Inv X XW σ H' {s with heap:=h',toks:=t' }:=by
 obtain⟨m,⟨o,q,l,f,r⟩,_⟩:=id I.loc;obtain⟨p,h⟩:=u.any f I.free (by simp)
 exact I.step (ch:=[]) (λ_ z=>nomatch z) (λb o _ hb _ e n=>u.keep b o e n hb (by simp)) (λb o _ hb _ e n=>u.slot b o e n hb (by simp)) (λb o _ e n=>u.free b o e n (by simp)) (λb o _ e=>u.there b o e (by simp)) u.tups u.frzs u.tbls (λt j=>by
  obtain⟨k,d,a,g,i⟩:=j;rw[f]at g;cases g;exact⟨_,d,a,h,i⟩) c I.bare
theorem Inv.call(I:Inv X XW σ H s)(u:Un (frs X.stack) ch H H' s.heap h')(g:HOk X.prog X.w H' h')(k:SY g')
  (hch:∀b∈ch,(b∈X.ex\/X.s₀.heap.objs.size<=b)/\b≠X.env.locals/\(∀x c,X.env.cells.lookup x=some c->c≠b)/\∀p∈X.pn++XW,p.1≠b):
  Inv X XW σ H' {s with heap:=h',gens:=g',drawn:=d',toks:=t' }:=by
 obtain⟨m,⟨o,A,v,i,r⟩,_⟩:=id I.loc;obtain⟨y,f⟩:=u.any i I.free λz=>(hch _ z).2.1 rfl
 exact I.step hch (λb o f hb a e n=>u.keep b o e n (λz=>(Ll.mp (I.stkSub b z)).elim f hb) a) (λb o _ _ a e n=>u.any e n a) (λb o a e n=>u.free b o e n a) (λb o a e=>u.there b o e a) u.tups u.frzs u.tbls (λB q=>by
  obtain⟨t,h,d,j,l⟩:=q;rw[i]at j;cases j;exact⟨_,h,d,f,l⟩) g k
theorem Inv.turned(I:Inv X XW σ H s)(k:∀b o,b≠it->s.heap.get? b=some o->h'.get? b=some o)(l:H it=none)(f:it≠X.env.locals)
  (h1:it∈X.ex\/X.s₀.heap.objs.size<=it) (h2:∀x c,X.env.cells.lookup x=some c->c≠it) (h3:∀p∈X.pn++XW,p.1≠it):Inv X XW σ H {s with heap:=h',toks:=t' }:=by
 have d:∀b u,H b=some u->b≠it:=λb u e z=>by rw[z,l]at e;cases e
 refine I.step (ch:=[it]) (λb hb=>?_) (λb o _ _ a e _=>k b o (λz=>a (by simp[z])) e) (λb o _ _ a e _=>⟨o.slots,k b o (λz=>a (by simp[z])) e⟩) (λ_ _ _ _ n=>n)
  (λb o a e=>⟨o,k b o (λz=>a (by simp[z])) e⟩) (λ_ _ e=>e) (λ_ _ _ e=>e) (λb t e=>⟨#[],by rw[e];simp⟩) (λm j=>?_) (λb u e=>?_) I.bare
 .have e:b=it:=by simpa using hb
  subst e;exact⟨h1,f,h2,h3⟩
 .obtain⟨o,i,h,g,r⟩:=j;exact⟨o,i,h,k _ o (Ne.symm f) g,r⟩
 .refine (I.hok b u e).stay (λc v a q=>k c v ?_ q) (λ_ q=>q) λ_ _ q=>q;rcases a with z |z
  .rw[z];exact d b u e
  .exact d c _ z
theorem Inv.tok(I:Inv X XW σ H s)(t):Inv X XW σ H {s with toks:=t }:=I.un Un.refl I.hok
theorem Inv.kept(I:Inv X XW σ H s)(k:∀b u,s.heap.get? b=some u->h'.get? b=some u):Inv X XW σ H {s with heap:=h',toks:=t' }:=I.un (Un.kept k) (I.hok.kept k)
theorem Inv.laid(I:Inv X XW σ H s)(k:∀b u,s.heap.get? b=some u->h'.get? b=some u)(d:s.heap.objs.size<=a)(c:de X.prog X.w (upd H a o) h' a o):
  Inv X XW σ (upd H a o) {s with heap:=h',toks:=t' }:=I.un (Un.laid k d (I.hok.fresh d)) (I.hok.laid k d c)
theorem Inv.write(I:Inv X XW σ H s)(d:Mut (H x))(c:e=x\/H e=some (.own x))(k:∀b u,b≠e->s.heap.get? b=some u->h'.get? b=some u)(a:∃u,h'.get? e=some u)
  (new:de X.prog X.w (upd H x o) h' x o):Inv X XW σ (upd H x o) {s with heap:=h',toks:=t' }:=I.un (Un.write d c k a) (I.hok.write d c k a new)
theorem Inv.weak(I:Inv X XW σ H s)(c:X8.length=σ.length)(w:∀(i:Nat) v,X8[i]?=some (some v)->σ[i]?=some (some v)):Inv X XW X8 H s:=
 ⟨I.ok,I.os,I.bare,I.base,let ⟨m,hn,YT⟩:=I.loc;⟨m,hn,λi x v d b a=>YT i x v d (w i v b) a⟩,I.cell,I.free,I.freeC,I.pin,I.hok,c.trans I.len⟩
theorem Inv.pins_of(I:Inv X XW σ H s)(h:∀p∈pins',s.heap.get? p.1=some p.2/\H p.1=none/\p.1≠X.env.locals/\p.1 ∉ X.fs/\∀v,p.2.data≠.cell v):Inv X pins' σ H s:=
 ⟨I.ok,I.os,I.bare,I.base,I.loc,I.cell,I.free,I.freeC,λp a=>(Mm.mp a).elim (λz=>I.pin p (Ms _ z)) (h p),I.hok,I.len⟩
theorem ug{N:List Str}(d:N.Nodup){i j:Nat}(a:N[i]?=some x)(b:N[j]?=some x):i=j:=by
 obtain⟨g,e⟩:=Ls.mp a;obtain⟨f,c⟩:=Ls.mp b;exact (Tf d).mp (e.trans c.symm)
theorem qE(I:Inv X XW σ H s)(hN:X.N.Nodup)(S:X.N[i]?=some x)(t:Loc X.env.scope x)(r:aS v u)
  (h:∀Y,Inv X XW (σ.set i (some v)) H Y->(∃a,O8 a s.heap Y.heap/\(a=X.env.locals\/X.env.cells.lookup x=some a))->Q () Y) (hf:autoParam (X.fn x=true\/X.env.scope.names.lookup x=some .local) z0):Me M A (Xg X.env x u) Q E s:=by
 obtain⟨m,hn,hl⟩:=id I.loc;have O:(X.env.scope.kind==.class || (X.env.scope.kind==.module && X.env.locals !=X.env.globals))=false:=by rw[I.ok.kind];rfl
 have D:i<σ.length:=by rw[I.len];exact (Ls.mp S).1
 have cne:=I.cne
 have ZG:∀{a}{h'},(∃o,s.heap.get? a=some o/\H a=none)->O8 a s.heap h'->HOk X.prog X.w H h':=λ{a h'} ha f b ob e=>by
  obtain⟨_,_,B⟩:=ha;refine (I.hok b ob e).stay (λc T l q=>(f.2 c ?_).trans q) (λ_ q=>q) λ_ _ q=>q;rintro rfl;rcases l with rfl |l
  .rw[B]at e;cases e
  .rw[B]at l;cases l
 rcases t with F |F
 .refine wpAny_storeName_local F hn (λh' hn' f=>?_) O;obtain⟨oL,_,_,hoL,_⟩:=id hn;refine h _ ⟨I.ok,I.os,I.bare,⟨λb o e n hb t=>?_,λb o e n hb t=>?_,I.base.free,λb o e t=>?_,I.base.tups,I.base.frzs,I.base.tbls⟩,⟨_,hn',λj y W g C e3=>?_⟩,λy c e=>?_,I.free,I.freeC,λp hp=>?_,ZG ⟨oL,hoL,I.free⟩ f,by simpa using I.len⟩ ⟨_,f,.inl rfl⟩
  .exact (f.2 b (L3 (Lp (Lx e) I.ok.above))).trans (I.base.keep b o e n hb t)
  .obtain⟨sl,g⟩:=I.base.slot b o e n hb t;exact⟨sl,(f.2 b (L3 (Lp (Lx e) I.ok.above))).trans g⟩
  .obtain⟨Z,g⟩:=I.base.there b o e t;exact⟨Z,(f.2 b (L3 (Lp (Lx e) I.ok.above))).trans g⟩
  .by_cases G:j=i
   .subst G;rw[S]at g;cases g;rw[Tv D]at C;cases C;exact⟨u,r,.inl ⟨F,by simp⟩⟩
   .rw[L0 (Ne.symm G)]at C;obtain⟨u',r',q⟩:=hl j y W g C e3;refine⟨u',r',?_⟩;rcases q with ⟨k,e⟩ |⟨k,c,e,z⟩
    .refine .inl ⟨k,?_⟩;have:y≠x:=λe=>G (ug hN g (e ▸ S));simp[this,e]
    .exact .inr ⟨k,c,e,z.sameBut f (cne y c e)⟩
  .obtain⟨T,z⟩:=I.cell y c e;exact⟨T,z.sameBut f (cne y c e)⟩
  .obtain⟨e,n,U,nf,d⟩:=I.pin p hp;exact⟨(f.2 p.1 U).trans e,n,U,nf,d⟩
 .have J:X.fn x=true:=by
   rcases hf with z |z
   .exact z
   .rw[z]at F;cases F
  obtain⟨c,l⟩:=I.ok.has x (.inl F);obtain⟨T,z⟩:=I.cell x c l;refine wpAny_storeName_cell I.ok.kind F l z (λh' L f=>?_);obtain⟨oc,R,K⟩:=id z;refine h {s with heap:=h' } ⟨I.ok,I.os,I.bare,⟨λb o e n hb t=>?_,λb o e n hb t=>?_,I.base.free,λb o e t=>?_,I.base.tups,I.base.frzs,I.base.tbls⟩,⟨m,hn.sameBut f (Ne.symm (cne x c l)),λj y W g C e3=>?_⟩,λy V e=>?_,I.free,I.freeC,λp hp=>?_,ZG ⟨oc,R,I.freeC x c l⟩ f,by simpa using I.len⟩ ⟨c,f,.inr l⟩
  .exact (f.2 b (L3 (Lp (Lx e) (I.ok.cab x c J l)))).trans (I.base.keep b o e n hb t)
  .obtain⟨sl,g⟩:=I.base.slot b o e n hb t;exact⟨sl,(f.2 b (L3 (Lp (Lx e) (I.ok.cab x c J l)))).trans g⟩
  .obtain⟨Z,g⟩:=I.base.there b o e t;exact⟨Z,(f.2 b (L3 (Lp (Lx e) (I.ok.cab x c J l)))).trans g⟩
  .by_cases G:j=i
   .subst G;rw[S]at g;cases g;rw[Tv D]at C;cases C;exact⟨u,r,.inr ⟨.inl F,c,l,L⟩⟩
   .rw[L0 (Ne.symm G)]at C;obtain⟨u',r',q⟩:=hl j y W g C e3;refine⟨u',r',?_⟩;rcases q with q |⟨k,V,e,z'⟩
    .exact .inl q
    .refine .inr ⟨k,V,e,z'.sameBut f ?_⟩;rintro rfl;exact G (ug hN g (I.ok.inj _ _ _ e l ▸ S))
  .by_cases P:V=c
   .subst P;exact⟨_,L⟩
   .obtain⟨w2,z2⟩:=I.cell y V e;exact⟨w2,z2.sameBut f P⟩
  .obtain⟨e,n,U,nf,d⟩:=I.pin p hp;refine⟨(f.2 p.1 ?_).trans e,n,U,nf,d⟩;intro q;rw[q,R]at e;have q':=Ma e;exact d T (by rw[<-q'];exact K)
theorem iP(I:Inv X XW σ H s)(c:X.N.Nodup)(d:X.N[i]?=some x)(e:Loc X.env.scope x)(r:aS v u)
  (h:∀a,Inv X XW (σ.set i (some v)) H a->Q () a) (hf:autoParam (X.fn x=true\/X.env.scope.names.lookup x=some .local) z0):Me M A (Xg X.env x u) Q E s:=
 qE I c d e r (λa b _=>h a b) hf
theorem Inv.call'(I:Inv X XW σ H s)(f:s'.os=s.os)(u:Un (frs X.stack) ch H H' s.heap s'.heap)(a:HOk X.prog X.w H' s'.heap)(d:SY s'.gens)
  (hch:∀b∈ch,(b∈X.ex\/X.s₀.heap.objs.size<=b)/\b≠X.env.locals/\(∀x c,X.env.cells.lookup x=some c->c≠b)/\∀p∈X.pn++XW,p.1≠b):Inv X XW σ H' s':=by
 obtain⟨h',i,h,g,j⟩:=s';have e:=f;subst e;exact I.call u a d hch
end
abbrev XK:=Lw->Option LX->Hp->Prop
abbrev St:=List (Option V)
abbrev VK:=V->Hp->Prop
abbrev TE:=St->Hp->VK->Prop
abbrev TT:=St->Hp->(Bool->Hp->Prop)->Prop
abbrev TA:=St->Hp->(List V->Hp->Prop)->Prop
structure ui where
 nx:St->Hp->Prop
 rt:VK
 bk:St->Hp->Prop:=λ_ _=>False
 ct:St->Hp->Prop:=λ_ _=>False
abbrev TS:=ui->St->Hp->Prop
def EP(X:Cx)(c:List (LX×Obj))(b:St)(Q:VK)(u:Lw)(d:LB):Prop:=∃v a,Inv X c b a d/\aS v u/\Q v a
def TP(X:Cx)(d:List (LX×Obj))(c:St)(Q:Bool->Hp->Prop)(b:Bool)(e:LB):Prop:=∃a,Inv X d c a e/\Q b a
def AP(X:Cx)(d:List (LX×Obj))(c:St)(Q:List V->Hp->Prop)(e:List Lw)(f:LB):Prop:=∃a b,Inv X d c b f/\aW a e/\Q a b
def SP(X:Cx)(c:List (LX×Obj))(D:ui)(f:Flow)(d:LB):Prop:=
 match f with
 | .next=>∃b a,Inv X c b a d/\D.nx b a
 | .brk=>∃b a,Inv X c b a d/\D.bk b a
 | .cont=>∃b a,Inv X c b a d/\D.ct b a
 | .ret u=>∃v b a,Inv X c b a d/\aS v u/\D.rt v a
def PE(X:Cx)(e:Expr)(t:TE):Prop:=
 ∀(b:List (LX×Obj)) (s:LB) (a:St) (H:Hp) (Q:VK),Inv X b a H s->t a H Q->Me (L6 X.prog X.w) X.A (N4 e X.env) (EP X b a Q) X.xe s
def PT(X:Cx)(e:Expr)(t:TT):Prop:=
 ∀(b:List (LX×Obj)) (s:LB) (a:St) (H:Hp) (Q:Bool->Hp->Prop),Inv X b a H s->t a H Q->Me (L6 X.prog X.w) X.A (isTrue e X.env (N4 e X.env)) (TP X b a Q) X.xe s
def PW(X:Cx)(e:Expr)(t:TT):Prop:=
 ∀(c:Sem Lw) (b:List (LX×Obj)) (s:LB) (a:St) (H:Hp) (Q:Bool->Hp->Prop),Inv X b a H s->t a H Q->Me (L6 X.prog X.w) X.A (isTrue e X.env c) (TP X b a Q) X.xe s
theorem PW.pt(h:PW X e t):PT X e t:=h _
def PA(X:Cx)(c:List Expr)(t:TA):Prop:=
 ∀(d:Pos) (b:List (LX×Obj)) (s:LB) (a:St) (H:Hp) (Q:List V->Hp->Prop),Inv X b a H s->t a H Q->Me (L6 X.prog X.w) X.A (spliced (NT d (Lr c X.env))) (AP X b a Q) X.xe s
def PS(X:Cx)(st:Od)(t:TS):Prop:=
 ∀(b:List (LX×Obj)) (s:LB) (a:St) (H:Hp) (D:ui),Inv X b a H s->t D a H->Me (L6 X.prog X.w) X.A (exec st X.env) (SP X b D) X.xe s
def PSs(X:Cx)(st:List Od)(t:TS):Prop:=
 ∀(b:List (LX×Obj)) (s:LB) (a:St) (H:Hp) (D:ui),Inv X b a H s->t D a H->Me (L6 X.prog X.w) X.A (execs st X.env) (SP X b D) X.xe s
theorem thn{α:Type}{t:Sem α}{Q b:α->LB->Prop}(h:Me M A t Q E s)(c:∀a s,Q a s->b a s):Me M A t b E s:=Pv h c λ_ _ x=>x
section
variable {X:Cx}
def Kr(i:Nat):TE:=λa H Q=>∃v,a[i]?=some (some v)/\Q v H
def tC(v:V):TE:=λ_ H Q=>Q v H
theorem eE(j:X.N[i]?=some x)(w:Vis X.env.scope x)(d:autoParam ((x==("__debug__":Str))=false) zR)(k:autoParam ((x==("__classdict__":Str))=false) zR):PE X (.Name x XY) (Kr i):=by
 intro p s n H Q I h;obtain⟨v,e,h⟩:=h;obtain⟨m,t,o⟩:=I.loc;obtain⟨u,r,l⟩:=o i x v j e w;have a:EP X p n Q u s:=⟨v,H,I,r,h⟩;rcases l with ⟨b,q⟩ |⟨b,c,g,f⟩
 .exact WU (UE I.ok.kind b t q a) d
 .rcases b with b |b
  .exact WU (UP I.ok.kind b g f a) d
  .exact WU (wpAny_loadName_free I.ok.kind b g f a k) d
theorem G8{i j XY}:PE X (.Constant (.int i) j XY) (tC (.int i)):=λ_ _ _ H _ I h=>wpAny_Constant_int ⟨.int i,H,I.tok _,⟨_,rfl⟩,h⟩
theorem JF{b j XY}:PE X (.Constant (.bool b) j XY) (tC (.bl b)):=λ_ _ _ H _ I h=>Constant_bool ⟨.bl b,H,I,rfl,h⟩
theorem HF{j XY}:PE X (.Constant .none j XY) (tC .non):=λ_ _ _ H _ I h=>Constant_none ⟨.non,H,I,rfl,h⟩
theorem Ir{x j XY}:PE X (.Constant (.str x) j XY) (tC (.str x)):=λ_ _ _ H _ I h=>Calls.Constant_str ⟨.str x,H,I.tok _,⟨_,rfl⟩,h⟩
def Gl(X:Cx)(x:Str):Prop:=X.env.kindOf x=some .globalImplicit
theorem kl(I:Inv X XW σ H s)(b:Gl X x)(a:X.mg x=some u)(h:Q u s)
  (hd:autoParam ((x==("__debug__":Str))=false) zR):Me (L6 X.prog X.w) X.A (N4 (.Name x XY) X.env) Q E s:=
 Sf I.ok.kind b (Calls.loadGlobal_global (by rw[I.ok.glob];exact I.mod.glob.keeps I.bk) a h) hd
theorem dD(I:Inv X XW σ H s)(a:Gl X x)(c:X.mg x=none)(b:NY x=some u)(h:Q u s)
  (hn:autoParam (x≠"__name__") zR) (hd:autoParam ((x==("__debug__":Str))=false) zR):Me (L6 X.prog X.w) X.A (N4 (.Name x XY) X.env) Q E s:=by
 obtain⟨f,e,d⟩:=I.mod.blt;exact Sf I.ok.kind a (Calls.loadGlobal_builtin (by rw[I.ok.glob];exact I.mod.glob.keeps I.bk) c (by rw[I.ok.blt];exact e.keeps I.bk) ((d x hn).trans b) h) hd
theorem xF(a:Gl X x)(b:X.mg x=some u)(r:aS v u)(c:autoParam ((x==("__debug__":Str))=false) zR):PE X (.Name x XY) (tC v):=
 λ_ _ _ H _ I h=>kl I a b ⟨v,H,I,r,h⟩ c
theorem EN(a:Gl X x)(c:X.mg x=none)(b:NY x=some u)(r:aS v u)(e:autoParam (x≠"__name__") zR)(d:autoParam ((x==("__debug__":Str))=false) zR):PE X (.Name x XY) (tC v):=
 λ_ _ _ H _ I h=>dD I a c b ⟨v,H,I,r,h⟩ e d
variable {a b:Expr}{ta tb:TE}{XY:Pos}
def PC(X:Cx)(op:CmpOp)(a b:Expr)(t:TE):Prop:=
 ∀(d:List (LX×Obj)) (s:LB) (c:St) (H:Hp) (Q:VK),Inv X d c H s->t c H Q->
  Me (L6 X.prog X.w) X.A (N4 a X.env) (λv e=>Me (L6 X.prog X.w) X.A (N4 b X.env) (λu f=>Me (L6 X.prog X.w) X.A (MC op v u) (EP X d c Q) X.xe f) X.xe e) X.xe s
def tB(t:TE):TT:=λa H Q=>t a H λx b=>∃c,x=.bl c/\Q c b
theorem Dr(h:PC X op a b t)(e:Oe op b=false:=by first |exact nobehind _ (by decide) (by decide) |rfl):PT X (.Compare a [op] [b] XY) (tB t):=by
 intro m s j H Q I k;refine T4 (thn (h m s j H _ I k) λv r e=>thn e λu p i=>thn i λc w l=>?_) e;obtain⟨x,n,g,f,o⟩:=l;obtain⟨d,rfl,q⟩:=o;cases f;exact Nl ⟨n,g,q⟩
theorem HM(h:PE X e t)(i:autoParam (∀a,isTrue e X.env a=(do let v <-a;V_ e.pos;UQ [v] (truthy v))) k4):PT X e (tB t):=by
 intro k s f H Q I g;refine isTrue_plain (thn (h k s f H _ I g) λv n j=>?_) (i _);obtain⟨x,l,c,b,m⟩:=j;obtain⟨d,rfl,q⟩:=m;cases b;exact Nl ⟨l,c,q⟩
variable {tA tB':TT}{rest:List Expr}
def KB(t u:TT):TT:=λa H Q=>t a H λc b=>if c=true then u a b Q else Q false b
def tOr(t u:TT):TT:=λa H Q=>t a H λc b=>if c=true then Q true b else u a b Q
def K3(t:TT):TT:=λa H Q=>t a H λc b=>Q (!c) b
theorem ED(f:PT X a tA):PW X (.BoolOp .And [a] XY) tA:=by
 intro g d s b H Q I h;refine isTrue_and (thn (f d s b H Q I h) λc i e=>?_);cases c with
 |true=>exact isTrue_and_nil e
 |false=>exact e
theorem CW(f:PT X a tA):PW X (.BoolOp .Or [a] XY) tA:=by
 intro g d s b H Q I h;refine isTrue_or (thn (f d s b H Q I h) λc i e=>?_);cases c with
 |false=>exact isTrue_or_nil e
 |true=>exact e
theorem Cu(n:PT X a tA)(j:PW X (.BoolOp .And (b::rest) XY) tB'):PW X (.BoolOp .And (a::b::rest) XY) (KB tA tB'):=by
 intro k e s d H Q I h;refine isTrue_and (thn (n e s d H _ I h) λc m l=>?_);obtain⟨i,f,g⟩:=l;cases c with
 |true=>exact j k e m d i Q f g
 |false=>exact⟨i,f,g⟩
theorem CH(n:PT X a tA)(j:PW X (.BoolOp .Or (b::rest) XY) tB'):PW X (.BoolOp .Or (a::b::rest) XY) (tOr tA tB'):=by
 intro k e s d H Q I h;refine isTrue_or (thn (n e s d H _ I h) λc m l=>?_);obtain⟨i,f,g⟩:=l;cases c with
 |true=>exact⟨i,f,g⟩
 |false=>exact j k e m d i Q f g
theorem G3(e:PT X a tA):PT X (.UnaryOp .Not a XY) (K3 tA):=by
 intro d s b H Q I h;exact isTrue_not (e d s b H (λc f=>Q (!c) f) I h)
def IN(ta tb:TE):TE:=λa H Q=>ta a H λx b=>∃c,x=.bl c/\if c=true then tb a b Q else Q (.bl false) b
def Ku(ta tb:TE):TE:=λa H Q=>ta a H λx b=>∃c,x=.bl c/\if c=true then Q (.bl true) b else tb a b Q
def Ki(ta:TE):TE:=λa H Q=>ta a H λx b=>∃c,x=.bl c/\Q (.bl (!c)) b
theorem Hz{op}(h:PE X a t):PE X (.BoolOp op [a] XY) t:=λd s b H Q I c=>BoolOp_one (h d s b H Q I c)
theorem AZ(l:PE X a ta)(j:PE X (.BoolOp .And (b::rest) XY) tb):PE X (.BoolOp .And (a::b::rest) XY) (IN ta tb):=by
 intro g s f H Q I h;refine BoolOp_and (thn (l g s f H _ I h) λv m n=>?_);obtain⟨x,i,e,k,d⟩:=n;obtain⟨c,rfl,d⟩:=d;cases k;refine Nl ?_;cases c with
 |true=>exact j g m f i Q e d
 |false=>exact⟨.bl false,i,e,rfl,d⟩
theorem Gs(l:PE X a ta)(j:PE X (.BoolOp .Or (b::rest) XY) tb):PE X (.BoolOp .Or (a::b::rest) XY) (Ku ta tb):=by
 intro g s f H Q I h;refine BoolOp_or (thn (l g s f H _ I h) λv m n=>?_);obtain⟨x,i,e,k,d⟩:=n;obtain⟨c,rfl,d⟩:=d;cases k;refine Nl ?_;cases c with
 |false=>exact j g m f i Q e d
 |true=>exact⟨.bl true,i,e,rfl,d⟩
theorem HA(j:PE X a ta):PE X (.UnaryOp .Not a XY) (Ki ta):=by
 intro f s e H Q I h;refine UnaryOp_ (thn (j f s e H _ I h) λv l d=>?_);obtain⟨x,k,g,i,b⟩:=d;obtain⟨c,rfl,b⟩:=b;cases i;exact not_of (Nl ⟨.bl (!c),k,g,rfl,b⟩)
def tIf(t:TT)(ta tb:TE):TE:=λa H Q=>t a H λc b=>if c=true then ta a b Q else tb a b Q
theorem vz(o:PT X c tA)(n:PE X a ta)(l:PE X b tb):PE X (.IfExp c a b XY) (tIf tA ta tb):=by
 intro f s e H Q I h;refine wpAny_IfExp (thn (o f s e H _ I h) λd g m=>?_);obtain⟨k,i,j⟩:=m;cases d with
 |true=>exact n f g e k Q i j
 |false=>exact l f g e k Q i j
end
def SqL(K:Le)(H:Hp)(a:LX)(xs:List V):Prop:=
 Rd H a (.lst xs)\/
  ∃(o:Obj) (its:Array Lw) (n:Nat),K.lookup a=some o∧o.cls=.type "list"∧o.dict=none∧o.data=.seq its n∧its.size≤sizeLine∧aW xs its.toList
def SqT(K:Le)(H:Hp)(a:LX)(xs:List V):Prop:=
 Rd H a (.tup xs)\/
  ∃(o:Obj) (its:Array Lw) (n:Nat),K.lookup a=some o∧o.cls=.type "tuple"∧o.data=.seq its n∧its.size≤sizeLine∧aW xs its.toList
def K6:Lw->Option V
 | .none=>some .non
 | .bool b=>some (.bl b)
 | .int i _=>some (.int i)
 | .str x _=>some (.str x)
 | .bytes b _=>some (.byt b)
 | .float b _=>some (.flt b)
 | .ref a=>some (.ref a)
 | .type n=>some (.ty n)
 |_=>none
theorem aS.abs(r:aS x u):K6 u=some x:=by
 cases x with
 |non=>cases r;rfl
 |bl _=>cases r;rfl
 |int _=>obtain⟨t,rfl⟩:=r;rfl
 |str _=>obtain⟨t,rfl⟩:=r;rfl
 |byt _=>obtain⟨t,rfl⟩:=r;rfl
 |flt _=>obtain⟨t,rfl⟩:=r;rfl
 |ref _=>cases r;rfl
 |ty _=>cases r;rfl
theorem aS.inj(r:aS x u)(q:aS y u):x=y:=Ma (r.abs.symm.trans q.abs)
theorem aW.inj:∀{c a}{b},aW c b->aW a b->c=a:=by
 intro c a b h
 induction h generalizing a with
 |nil=>intro h;cases h;rfl
 |cons r t d=>
  intro h;cases h with
  |cons q k=>rw[r.inj q,d k]
section
variable {X:Cx}{XW:List (LX×Obj)}{σ:St}{H:Hp}{s:LB}{a:LX}{xs ys:List V}
theorem SqL.of{K:Le}(h:H a=some (.lst xs)):SqL K H a xs:=.inl (.inl h)
theorem SqT.of{K:Le}(h:H a=some (.tup xs)):SqT K H a xs:=.inl (.inl h)
theorem Inv.list(I:Inv X XW σ H s)(h:SqL X.K H a xs):∃its,aW xs its/\PlainL s.heap a its.toArray/\xs.length<=sizeLine:=by
 rcases h with h |⟨o,its,n,d,c,b,f,g,r⟩
 .obtain⟨z,its,n,r,e⟩:=h.ok I.hok;exact⟨its,r,⟨_,n,e,rfl,rfl,rfl⟩,z⟩
 .refine⟨its.toList,r,⟨o,n,I.kIn a o d,c,b,by simpa using f⟩,?_⟩;have e:=r.length;simp only[Ly]at e;lia
theorem Inv.tuple(I:Inv X XW σ H s)(h:SqT X.K H a xs):∃its,aW xs its/\UD s.heap a its.toArray/\xs.length<=sizeLine:=by
 rcases h with h |⟨o,its,n,c,b,d,f,r⟩
 .obtain⟨z,its,r,p⟩:=h.ok I.hok;exact⟨its,r,p,z⟩
 .refine⟨its.toList,r,⟨o,I.kIn a o c,b,n,by simpa using d⟩,?_⟩;have e:=r.length;simp only[Ly]at e;lia
theorem Inv.list_inj(I:Inv X XW σ H s)(h:SqL X.K H a xs)(h':SqL X.K H a ys):xs=ys:=by
 obtain⟨its,r,⟨o,n,e,_,_,d⟩,_⟩:=I.list h;obtain⟨b,g,⟨j,i,c,_,_,f⟩,_⟩:=I.list h';rw[e]at c;cases c;rw[d]at f;injection f with d1 _
 have:its=b:=by simpa using congrArg VI d1
 subst this;exact r.inj g
theorem Inv.tuple_inj(I:Inv X XW σ H s)(h:SqT X.K H a xs)(h':SqT X.K H a ys):xs=ys:=by
 obtain⟨its,r,⟨o,e,_,n,d⟩,_⟩:=I.tuple h;obtain⟨b,g,⟨j,c,_,i,f⟩,_⟩:=I.tuple h';rw[e]at c;cases c;rw[d]at f;injection f with d1 _
 have:its=b:=by simpa using congrArg VI d1
 subst this;exact r.inj g
end
abbrev Cx.wish(X:Cx)(E:Lw->LB->Prop):Cx:={X with xe:=E }
abbrev Cx.nox(X:Cx):Cx:=X.wish λ_ _=>False
theorem Cx.Ok.wish{X:Cx}(a:X.Ok)(E):(X.wish E).Ok:=
 ⟨a.mod,a.kind,a.glob,a.blt,a.above,a.inj,a.has,a.cab,a.hd,a.frames,a.stk,a.exf,a.bs,a.bsz,a.noex,a.exfs,a.funs,a.frf⟩
theorem Cx.Ok.unwish{X:Cx}(a:(X.wish E).Ok):X.Ok:=
 ⟨a.mod,a.kind,a.glob,a.blt,a.above,a.inj,a.has,a.cab,a.hd,a.frames,a.stk,a.exf,a.bs,a.bsz,a.noex,a.exfs,a.funs,a.frf⟩
section
variable {X:Cx}{XW:List (LX×Obj)}{σ:St}{H:Hp}{s:LB}{E:Lw→LB→Prop}
theorem Inv.wish(I:Inv X XW σ H s)(E):Inv (X.wish E) XW σ H s:=⟨I.ok.wish E,I.os,I.bare,I.base,I.loc,I.cell,I.free,I.freeC,I.pin,I.hok,I.len⟩
theorem Inv.unwish(I:Inv (X.wish E) XW σ H s):Inv X XW σ H s:=⟨I.ok.unwish,I.os,I.bare,I.base,I.loc,I.cell,I.free,I.freeC,I.pin,I.hok,I.len⟩
theorem SP.unwish(h:SP (X.wish E) XW D f s'):SP X XW D f s':=by
 cases f with
 |next=>obtain⟨a,b,I,q⟩:=h;exact⟨a,b,I.unwish,q⟩
 |brk=>obtain⟨a,b,I,q⟩:=h;exact⟨a,b,I.unwish,q⟩
 |cont=>obtain⟨a,b,I,q⟩:=h;exact⟨a,b,I.unwish,q⟩
 |ret u=>obtain⟨v,a,b,I,r,q⟩:=h;exact⟨v,a,b,I.unwish,r,q⟩
theorem PSs.nox{st:List Od}(h:PSs X.nox st t):PSs X st t:=λXW s σ H D I a=>
 Pv (h XW s σ H D (I.wish _) a) (λ_ _ q=>q.unwish) λ_ _ z=>False.elim z
end
section
variable {X:Cx}{st:Od}{rest:List Od}{t u:TS}{e:Expr}{te:TE}{XY:Pos}
def J8:TS:=λD a H=>D.nx a H
def K1(t u:TS):TS:=λD a H=>t {D with nx:=u D } a H
theorem Fb:PSs X [] J8:=λ_ _ a H _ I h=>R3 ⟨a,H,I,h⟩
theorem BE(j:PS X st t)(g:PSs X rest u):PSs X (st::rest) (K1 t u):=by
 intro a s c H D I h;refine VT (thn (j a s c H {D with nx:=u D } I h) λf e q=>?_);cases f with
 |next=>
  obtain⟨b,i,d,q⟩:=q;exact g a e b i D d q
 |ret v=>exact q
 |brk=>exact q
 |cont=>exact q
theorem FR(c:PS X st t):PSs X [st] t:=by
 intro b s a H D I h;refine VT (thn (c b s a H D I h) λf d q=>?_);cases f with
 |next=>exact R3 q
 |ret v=>exact q
 |brk=>exact q
 |cont=>exact q
theorem Inv.quiet(I:Inv X XW σ H s):interactive X.env=false:=by simp[interactive,I.ok.kind]
def Kh(te:TE):TS:=λD a H=>te a H λ_ b=>D.nx a b
theorem r9(f:PE X e te)(hs:autoParam (OK e none XY.line X.env=pure false) zM):PS X (.Expr e XY) (Kh te):=by
 intro b s a H D I h;exact wpAny_Expr_any (thn (f b s a H _ I h) λv i ⟨x,g,c,j,d⟩=>⟨a,g,c,d⟩) I.quiet hs
def KI(te:TE):TS:=λD a H=>te a H D.rt
theorem nN(g:PE X e te):PS X (.Return (some e) XY) (KI te):=by
 intro b s a H D I h;exact wpAny_Return_some (thn (g b s a H _ I h) λv j ⟨x,i,c,d,f⟩=>⟨x,a,i,c,d,f⟩)
def Kx(c:TT)(t u:TS):TS:=λD a H=>c a H λb d=>if b=true then t D a d else u D a d
theorem B6(o:PT X c tc)(n:PSs X a t)(l:PSs X b u):PS X (.If c a b XY) (Kx tc t u):=by
 intro f s e H D I h;refine wpAny_If (thn (o f s e H _ I h) λd g m=>?_);obtain⟨k,i,j⟩:=m;cases d with
 |true=>exact n f g e k D i j
 |false=>exact l f g e k D i j
end
abbrev TG:=V->St->Hp->(St->Hp->Prop)->Prop
abbrev TGs:=List V->St->Hp->(St->Hp->Prop)->Prop
def PG(X:Cx)(a:Expr)(t:TG):Prop:=
 ∀(d:List (LX×Obj)) (s:LB) (c:St) (H:Hp) (v:V) (u:Lw) (Q:St->Hp->Prop),Inv X d c H s->aS v u->t v c H Q->
  Me (L6 X.prog X.w) X.A (assign a X.env u) (λ_ f=>∃b e,Inv X d b e f/\Q b e) X.xe s
def PGs(X:Cx)(g:List Expr)(t:TGs):Prop:=
 ∀(d:List (LX×Obj)) (s:LB) (b:St) (H:Hp) (c:List V) (e:List Lw) (Q:St->Hp->Prop),Inv X d b H s->aW c e->t c b H Q->
  Me (L6 X.prog X.w) X.A (assignInOrder ((P9 g X.env).map (·.2)) e) (λ_ h=>∃a f,Inv X d a f h/\Q a f) X.xe s
abbrev TIp:=V->V->Hp->VK->Prop
def PIp(X:Cx)(op:Operator)(t:TIp):Prop:=
 ∀(b:List (LX×Obj)) (s:LB) (a:St) (H:Hp) (x y:V) (v u:Lw) (Q:VK),Inv X b a H s->aS x v->aS y u->t x y H Q->
  Me (L6 X.prog X.w) X.A (inplaceOp op v u) (EP X b a Q) X.xe s
section
variable {X:Cx}{XY:Pos}
def tW(i:Nat):TG:=λv a H Q=>Q (a.set i (some v)) H
theorem aM(b:X.N.Nodup)(e:X.N[i]?=some x)(c:Loc X.env.scope x)(d:autoParam (X.fn x=true\/X.env.scope.names.lookup x=some .local) z0):PG X (.Name x XY) (tW i):=by
 intro g s f H v u Q I r h;exact Vm (iP I b e c r (λj a=>⟨_,H,a,h⟩) d)
def J_:TGs:=λb a H Q=>b=[]/\Q a H
def Gj(t:TG)(u:TGs):TGs:=λc b H Q=>∃v r,c=v::r/\t v b H λa d=>u r a d Q
theorem ft:PGs X [] J_:=by
 intro c s a H b d Q I r h;obtain⟨e,h⟩:=h;subst e;cases r;exact Vn ⟨a,H,I,h⟩
theorem bJ(f:PG X e t)(d:PGs X es u)
  (hs:autoParam ((P9 (e::es) X.env).map (·.2)=assign e X.env::(P9 es X.env).map (·.2)) zM):PGs X (e::es) (Gj t u):=by
 intro b s g H q p Q I r h;obtain⟨v,o,k,h⟩:=h;subst k;cases r with
 |cons r m=>
  rw[hs];refine Sk (thn (f b s g H _ _ _ I r h) λ_ i j=>?_);obtain⟨a,l,c,n⟩:=j;exact d b i a l _ _ Q c m n
def Jy(K:Le)(n:Nat)(t:TGs):TG:=λv c H Q=>∃a b,v=.ref a/\SqT K H a b/\b.length=n/\t b c H Q
theorem jI(q:X.calm=true)(h:PGs X es t)
  (hn:autoParam ((P9 es X.env).length=n) zM) (YH:autoParam ((P9 es X.env).findIdx? (·.1)=none) zM):PG X (.Tuple es k XY) (Jy X.K n t):=by
 intro m s g H v u Q I r c;obtain⟨a,j,p,w,l,c⟩:=c;subst p;cases r;obtain⟨its,d,x,z⟩:=I.tuple w;refine assign_Tuple_tuple (I.ok.hd q) x (by simp[hn,<-l,d.length]) YH λy i=>?_;have f:=I.kept (t':=s.toks) λb o e=>i b o (L3 (Lx e)) e;exact h m _ g H j _ Q f (by simpa using d) c
def Hm(b:TE)(g:TG):TS:=λD a H=>b a H λx c=>g x a c D.nx
theorem GX(k:PE X e te)(f:PG X tg g)(hs:autoParam (SZ [tg] e XY.line X.env=pure false) zM)(i:autoParam (S0 [tg] e X.env=pure none) zM)
  (h1:autoParam ((P9 [tg] X.env).map (·.2)=[assign tg X.env]) zM):PS X (.Assign [tg] e XY) (Hm te g):=by
 intro b s a H D I h;refine wpAny_Assign_stores (thn (k b s a H _ I h) λv j l=>?_) hs i;obtain⟨x,m,d,c,n⟩:=l;rw[h1];exact thn (f b j a m x v _ d c n) λ_ o q=>q
theorem xg(b:X.N.Nodup)(l:X.N[i]?=some x)(p:Loc X.env.scope x)(g:PE X e te)(hs:autoParam (OK e (some (.Name x Yd)) XY.line X.env=pure false) zM)(n:autoParam (X.fn x=true\/X.env.scope.names.lookup x=some .local) z0):
  PS X (.Assign [.Name x Yd] e XY) (Hm te (tW i)):=by
 intro k s f H D I h;refine wpAny_Assign_Name (thn (g k s f H _ I h) λv r j=>?_) hs;obtain⟨y,m,d,c,o⟩:=j;exact iP d b l p c (λq a=>⟨_,m,a,o⟩) n
def K9(i j:Nat)(ta:TA):TS:=λD a H=>ta a H λb c=>∃v w,b=[v,w]/\D.nx ((a.set i (some v)).set j (some w)) c
theorem Hj{kt k2 pt2}(O:X.calm=true)(k:X.N.Nodup)(M:X.N[i]?=some x)(G:X.N[j]?=some y)(Q:i≠j)
  (hx:X.env.scope.names.lookup x=some .local) (hy:X.env.scope.names.lookup y=some .local) (ha:PA X [a,b] ta)
  (hw:S0 [.Tuple [.Name x px,.Name y py] kt pt] (.Tuple [a,b] k2 pt2) X.env=pure (some [x,y]))
  (hs:autoParam (SZ [.Tuple [.Name x px,.Name y py] kt pt] (.Tuple [a,b] k2 pt2) XY.line X.env=pure false) zM):
  PS X (.Assign [.Tuple [.Name x px,.Name y py] kt pt] (.Tuple [a,b] k2 pt2) XY) (K9 i j ta):=by
 intro m s l H D I h;rw[exec_Assign_arm];refine Lh (S6 ?_);rw[hs];refine Lh (Lm ?_);rw[if_neg (by decide)];refine Lh (Tuple_ (thn (ha _ m s l H _ I h) λC f F=>?_));obtain⟨U,n,z,u,g⟩:=F;obtain⟨v,w,L,g⟩:=g;subst L
 obtain⟨d,c,rfl,R,A⟩:∃d c,C=[d,c]/\aS v d/\aS w c:=by
  cases u with
  |cons p q=>
   cases q with
   |cons P B=>
    cases B;exact⟨_,_,rfl,p,P⟩
 refine Pw ?_ (by show 2<=sizeLine;decide);have t:Inv X m l n {f with heap:=f.heap.push {cls:=.type "tuple",data:=.seq [d,c].toArray } }:=z.kept λb o e=>Lj _ e;rw[hw];refine Lh (Lm ?_);refine Lh (RY (Lh (unpackItems_tuple (items:=#[d,c]) (I.ok.hd O) (IsTup.new f.heap _) λV K=>?_)));have J:=t.kept (t':=f.toks) λb o e=>K b o (L3 (Lx e)) e;refine Lh (Sk (WB (iP J k G (.inl hy) A (λS E=>?_) (.inr hy))));refine Sk (WB (iP E k M (.inl hx) R (λT r=>Vn (Lm ?_)) (.inr hx)));rw[List.set_comm _ _ (Ne.symm Q)]at r;exact⟨_,n,r,g⟩
def K7(i:Nat)(d:TE)(c:TIp):TS:=λD a H=>∃x,a[i]?=some (some x)/\d a H λy e=>c x y e λz b=>D.nx (a.set i (some z)) b
theorem HP(E:X.N.Nodup)(o:X.N[i]?=some x)(j:Loc X.env.scope x)(L:PE X e te)(F:PIp X op ti)(V:autoParam (X.fn x=true\/X.env.scope.names.lookup x=some .local) z0):
  PS X (.AugAssign (.Name x Yd) op e XY) (K7 i te ti):=by
 intro g s n H D I h;obtain⟨v,R,h⟩:=h;obtain⟨m,S,O⟩:=I.loc;have d:Vis X.env.scope x:=by rcases j with k |k;exact .inl k;exact .inr (.inl k)
 obtain⟨u,r,l⟩:=O i x v o R d;refine wpAny_AugAssign_Name ?_
 have go:Me (L6 X.prog X.w) X.A (N4 e X.env) (λw P=>Me (L6 X.prog X.w) X.A (inplaceOp op u w) (λr b=>Me (L6 X.prog X.w) X.A (Xg X.env x r) (λ_=>SP X g D .next) X.xe b) X.xe P) X.xe s:=by
  refine thn (L g s n H _ I h) λw K f=>?_;obtain⟨y,U,C,B,W⟩:=f;refine thn (F g K n U v y u w _ C r B W) λz Y f=>?_;obtain⟨zv,q,p,G,J⟩:=f;exact iP p E o j G (λZ M=>⟨_,q,M,J⟩) V
 rcases l with ⟨a,Q⟩ |⟨a,c,T,t⟩
 .exact UE I.ok.kind a S Q go
 .rcases a with a |a
  .exact UP I.ok.kind a T t go
  .rcases j with k |k
   .have:X.env.scope.names.lookup x=some .free:=a;rw[k]at this;cases this
   .have:X.env.scope.names.lookup x=some .free:=a;rw[k]at this;cases this
def ipI(f:Int->Int->Int):TIp:=λx y H Q=>∃i j,x=.int i/\y=.int j/\Q (.int (f i j)) H
theorem CM:PIp X .Add (ipI λi j=>i+j):=by
 intro f s e H x y v u Q I a b h;obtain⟨i,j,d,c,q⟩:=h;subst d;subst c;obtain⟨t,rfl⟩:=a;obtain⟨g,rfl⟩:=b;exact iadd_int ⟨.int _,H,I.tok _,⟨_,rfl⟩,q⟩
def HQ(c:TT)(tb:TS):TS:=λD a H=>∃W:Nat->St->Hp->Prop,(∃m,W m a H)/\∀m a H,W m a H->
 c a H λb g=>if b=true then ∃N:St->Hp->Prop,(∀e f,N e f->∃d,d<m/\W d e f)/\tb {D with nx:=N,ct:=N,bk:=D.nx } a g else D.nx a g
theorem Cq(z:T5 (L6 X.prog X.w) X.A X.env X.xe)(Q:PT X c tc)(C:PSs X Ym tb):PS X (.While c Ym [] XY) (HQ tc tb):=by
 intro o s J H D I h;obtain⟨W,⟨P,K⟩,e⟩:=h;refine wpAny_While (codeAny_whileLoop (λn F=>∃x y,Inv X o x y F/\W n x y) ?_ P ⟨J,H,I,K⟩);rintro n L ⟨a,B,E,O⟩;refine Px z (thn (Q o L a B _ E (e n a B O)) λb G M=>?_);obtain⟨t,r,i⟩:=M;cases b with
 |true=>
  obtain⟨N,u,i⟩:=i;rw[if_pos rfl];refine Px z (thn (C o G a t _ r i) λf R j=>?_);cases f with
  |next=>
   obtain⟨d,g,m,k⟩:=j;obtain⟨q,p,l⟩:=u d g k;exact⟨q,p,d,g,m,l⟩
  |cont=>
   obtain⟨d,g,m,k⟩:=j;obtain⟨q,p,l⟩:=u d g k;exact⟨q,p,d,g,m,l⟩
  |brk=>exact j
  |ret v=>exact j
 |false=>
  rw[if_neg M7];exact R3 ⟨a,t,r,i⟩
end
structure It where
 go:Nat->Hp->Prop
 yld:Nat->Hp->V->Hp->Prop
 stop:Nat->Hp->Prop
def mw(X:Cx)(a:List (LX×Obj))(H:Hp)(b:LX):Prop:=
 H b=none/\b≠X.env.locals/\b ∉ X.fs/\(b∈X.ex\/X.s₀.heap.objs.size<=b)/\(∀x c,X.env.cells.lookup x=some c->c≠b)/\∀p∈X.pn++a,p.1≠b
theorem Inv.fpOk(I:Inv X XW σ H s)(a:s.heap.objs.size<=b)(d:H' b=none):mw X XW H' b:=by
 refine⟨d,PR (Lp I.lt a),I.nofs a,.inr (LN I.sz a),λx c e z=>?_,λp f z=>?_⟩
 .obtain⟨v,q⟩:=I.cell x c e;exact absurd (Lp q.lt (by rw[z];exact a)) (Mh _)
 .exact absurd (Lp (Lx (I.pin p f).1) (by rw[z];exact a)) (Mh _)
structure vP(P:LJ)(w:Mp)(K:Le)(tg:Expr)(J:It)(fp:List LX)(it:LX)(tn:Nat->OG->Prop):Prop where
 mem:it∈fp
 obj:∀i h,tn i h->∀b∈fp,∃o,h.get? b=some o/\∀v,o.data≠.cell v
 keep:∀i h h',tn i h->(∀b∈fp,∀o,h.get? b=some o->h'.get? b=some o)->tn i h'
 item:∀(X:Cx),X.prog=P->X.w=w->X.K=K->X.calm=true->∀(i:Nat) (XW:List (LX×Obj)) (s:LB) (σ:St) (H:Hp) (E:Lw->LB->Prop),Inv X XW σ H s->(∀b∈fp,mw X XW H b)->tn i s.heap->J.go i H->
  Me (L6 P w) X.A (Wa (.ref it)) (λr s1=>∃u,r=some u/\
   Me (L6 P w) X.A (Wb tg (.ref it) u) (λ_ s2=>∃x H',Inv X XW σ H' s2/\aS x u/\J.yld i H x H'/\tn (i+1) s2.heap/\∀b∈fp,H' b=none) E s1) E s
 done:∀(X:Cx),X.prog=P->X.w=w->X.K=K->X.calm=true->∀(i:Nat) (XW:List (LX×Obj)) (s:LB) (σ:St) (H:Hp) (E:Lw->LB->Prop),Inv X XW σ H s->(∀b∈fp,mw X XW H b)->tn i s.heap->J.stop i H->
  Me (L6 P w) X.A (Wa (.ref it)) (λr s1=>r=none/\Inv X XW σ H s1) E s
 self:∀(A:ML) (i:Nat) (s:LB) (Q:Lw->LB->Prop) (E:Lw->LB->Prop),tn i s.heap->Q (.ref it) s->Me (L6 P w) A (Wc (.ref it)) Q E s
abbrev TI:=St->Hp->(It->Hp->Prop)->Prop
def PIE(X:Cx)(f:List (LX×Obj))(i:St)(j:Expr)(R:It->Hp->Prop)(a:Lw)(d:LB):Prop:=
 ∃(e:LX) (h:List LX) (g:Nat->OG->Prop) (J:It) (c:Hp),a=.ref e/\Inv X f i c d/\vP X.prog X.w X.K j J h e g/\g 0 d.heap/\(∀b∈h,mw X f c b)/\R J c
def PI(X:Cx)(f a:Expr)(d:TI):Prop:=
 ∀(c:List (LX×Obj)) (s:LB) (b:St) (H:Hp) (R:It->Hp->Prop),Inv X c b H s->d b H R->
  Me (L6 X.prog X.w) X.A (N4 a X.env) (λv e=>Me (L6 X.prog X.w) X.A (Wc v) (PIE X c b f R) X.xe e) X.xe s
theorem vn(c:s.heap.get? it=some o)(a:o.cls=.type n)(b:o.data=.fields vs)
  (hn:["enumerate","zip","dict_itemiterator","dict_reverseitemiterator","odict_iterator","itertools.zip_longest","itertools.pairwise"].contains n=false) (hQ:Q () s):Me M A (Wb tg (.ref it) u) Q E s:=by
 cases tg <;>first
  |exact Lm hQ
  | (cases u <;>first
    |exact Lm hQ
    | (refine Lh (wpAny_load c ?_)
       rw[a,b];show Me M A (if (["enumerate","zip","dict_itemiterator","dict_reverseitemiterator","odict_iterator","itertools.zip_longest","itertools.pairwise"].contains n && vs[0]?==some (Tg _))=true then _ else _) Q E s;rw[if_neg (by intro h;rw[hn,Bool.false_and]at h;cases h)];exact Lm hQ))
def Itl(K:Le)(a:LX):It:=
 ⟨λi H=>∃b x,SqL K H a b/\b[i]?=some x,λi H x c=>c=H/\∀b,SqL K H a b->b[i]?=some x,λi H=>∃b,SqL K H a b/\b.length<=i⟩
def Itt(K:Le)(a:LX):It:=
 ⟨λi H=>∃b x,SqT K H a b/\b[i]?=some x,λi H x c=>c=H/\∀b,SqT K H a b->b[i]?=some x,λi H=>∃b,SqT K H a b/\b.length<=i⟩
def Itr(lo:Int)(n:Nat):It:=⟨λi _=>i<n,λi H x a=>a=H/\x=.int (lo+i),λi _=>n<=i⟩
theorem Ak{P:LJ}{w:Mp}{K:Le}{U:Expr}(a g:LX):vP P w K U (Itl K a) [g] g (λi h=>h.IsListIter g a i) where
 mem:=by simp
 obj:=λi h f b hb=>by
  have e:b=g:=by simpa using hb
  subst e;obtain⟨o,e,c,d⟩:=f;exact⟨o,e,λv z=>by rw[d]at z;cases z⟩
 keep:=λi h L f k=>f.at λo e=>k g (by simp) o e
 item:=by
  intro X D r C J i S s O H E I l f q;subst D r C;obtain⟨Q,x,j,F⟩:=q;obtain⟨its,t,p,W⟩:=I.list j;obtain⟨u,V,ru⟩:=t.get F;obtain⟨y,B,T,m,A,n⟩:=l g (by simp);refine Tx f p.isList (by simpa using V) λL G M=>?_;have N:=I.turned (t':=s.toks) (λb o hb e=>(M.2 b hb).trans e) y B m A n;obtain⟨o,e,c,d⟩:=id G;exact⟨u,rfl,vn e c d (by decide) ⟨x,H,N,ru,⟨rfl,λZ hy=>by rw[I.list_inj hy j];exact F⟩,G,λb hb=>(l b hb).1⟩⟩
 done:=by
  intro X D r C J i S s O H E I l f q;subst D r C;obtain⟨Q,j,F⟩:=q;obtain⟨its,t,p,W⟩:=I.list j;obtain⟨y,B,T,m,A,n⟩:=l g (by simp);have Y:=t.length;exact T6 (I.ok.hd J) f p.isList (by simp;lia) λL R=>⟨rfl,I.turned (λb o hb e=>R b o hb e) y B m A n⟩
 self:=λ_ _ _ _ _ f h=>wpAny_pyIter_listiter f h
theorem wy{P:LJ}{w:Mp}{K:Le}{U:Expr}(a g:LX):vP P w K U (Itt K a) [g] g (λi h=>h.IsTupleIter g a i) where
 mem:=by simp
 obj:=λi h f b hb=>by
  have e:b=g:=by simpa using hb
  subst e;obtain⟨o,e,c,d⟩:=f;exact⟨o,e,λv z=>by rw[d]at z;cases z⟩
 keep:=λi h L f k=>f.at λo e=>k g (by simp) o e
 item:=by
  intro X D r C J i S s O H E I l f q;subst D r C;obtain⟨Q,x,j,F⟩:=q;obtain⟨its,t,p,W⟩:=I.tuple j;obtain⟨u,V,ru⟩:=t.get F;obtain⟨y,B,T,m,A,n⟩:=l g (by simp);refine wpAny_pyNext_tuple_item f p (by simpa using V) λL G M=>?_;have N:=I.turned (t':=s.toks) (λb o hb e=>(M.2 b hb).trans e) y B m A n;obtain⟨o,e,c,d⟩:=id G;exact⟨u,rfl,vn e c d (by decide) ⟨x,H,N,ru,⟨rfl,λZ hy=>by rw[I.tuple_inj hy j];exact F⟩,G,λb hb=>(l b hb).1⟩⟩
 done:=by
  intro X D r C J i S s O H E I l f q;subst D r C;obtain⟨Q,j,F⟩:=q;obtain⟨its,t,p,W⟩:=I.tuple j;obtain⟨y,B,T,m,A,n⟩:=l g (by simp);have Y:=t.length;exact wpAny_pyNext_tuple_end (I.ok.hd J) f p (by simp;omega) λL R=>⟨rfl,I.turned (λb o hb e=>R b o hb e) y B m A n⟩
 self:=λ_ _ _ _ _ f h=>wpAny_pyIter_tupleiter f h
theorem wF{P:LJ}{w:Mp}{K:Le}{N:Expr}(c:LX)(lo:Int)(n:Nat):vP P w K N (Itr lo n) [c] c (λi h=>Wd h c (lo+(i:Nat) *1) ((n:Int)-(i:Nat)) 1) where
 mem:=by simp
 obj:=λi h a b hb=>by
  have e:b=c:=by simpa using hb
  subst e
  exact⟨_,a,λv z=>by
   have G:=z;cases G⟩
 keep:=λi h r a k=>k c (by simp) _ a
 item:=by
  intro X C y B q i A s x H E I d a j;subst C y B;obtain⟨l,p,M,f,m,g⟩:=d c (by simp);have W:=Walks.range (prog:=X.prog) (w:=X.w) (I.ok.hd q) c lo 1 n;refine W.item i s _ _ j a λv r D O u J=>?_;obtain⟨t,rfl⟩:=O;have F:Inv X A x H {s with heap:=r,toks:=D }:=I.turned (λb o hb e=>J b o (by simpa using hb) e) l p f m g;refine⟨_,rfl,vn u rfl rfl (by decide) ⟨.int (lo+i),H,F,⟨t,?_⟩,⟨rfl,rfl⟩,u,λb hb=>(d b hb).1⟩⟩;rw[UR]
 done:=by
  intro X C y B q i A s x H E I d a j;obtain⟨l,p,M,f,m,g⟩:=d c (by simp);exact Tz (I.ok.hd q) a (by have:n<=i:=j;lia) λr L=>⟨rfl,I.turned (λb o hb e=>L b o hb e) l p f m g⟩
 self:=λ_ _ _ _ _ a h=>TC a h
section
variable {X:Cx}{tg:Expr}
def Jr(K:Le)(d:TE):TI:=λc H R=>d c H λx b=>∃a,x=.ref a/\(∃e,SqL K b a e)/\R (Itl K a) b
def KA(K:Le)(d:TE):TI:=λc H R=>d c H λx b=>∃a,x=.ref a/\(∃e,SqT K b a e)/\R (Itt K a) b
theorem FK(j:PE X l tl):PI X tg l (Jr X.K tl):=by
 intro k s g H R I h;refine thn (j k s g H _ I h) λv d i=>?_;obtain⟨x,m,c,f,r⟩:=i;obtain⟨a,e,⟨t,n⟩,q⟩:=r;subst e;cases f;obtain⟨its,u,p,w⟩:=c.list n;refine N5 p.isList ?_;refine⟨d.heap.objs.size,[d.heap.objs.size],_,_,m,rfl,c.kept λb o e=>Lj _ e,Ak a _,⟨_,LC _ rfl,rfl,rfl⟩,λb hb=>?_,q⟩;have e:b=d.heap.objs.size:=by simpa using hb
 subst e;exact c.fpOk (Lk _) (c.hok.fresh (Lk _))
theorem Ie(j:PE X l tl):PI X tg l (KA X.K tl):=by
 intro k s g H R I h;refine thn (j k s g H _ I h) λv d i=>?_;obtain⟨x,m,c,f,r⟩:=i;obtain⟨a,e,⟨t,n⟩,q⟩:=r;subst e;cases f;obtain⟨its,u,p,w⟩:=c.tuple n;refine wpAny_pyIter_tuple p ?_;refine⟨d.heap.objs.size,[d.heap.objs.size],_,_,m,rfl,c.kept λb o e=>Lj _ e,wy a _,⟨_,LC _ rfl,rfl,rfl⟩,λb hb=>?_,q⟩;have e:b=d.heap.objs.size:=by simpa using hb
 subst e;exact c.fpOk (Lk _) (c.hok.fresh (Lk _))
theorem tR{lo a:Int}(I:Inv X XW σ H s)(j:-(2 ^ 62)<=lo)(i:lo<2 ^ 62)(f:-(2 ^ 62)<=a)(d:a<2 ^ 62)
  (q:R (Itr lo (a-lo).toNat) H):Me (L6 X.prog X.w) X.A (Wc (.ref s.heap.objs.size)) (PIE X XW σ tg R) E {s with heap:=s.heap.push {cls:=.type "range",data:=.fields #[.int lo t,.int a u,.int 1 v] },toks:=tk }:=by
 refine U6 (IsRange.new ..) (small_one j i f d) ?_;have c:Inv X XW σ H {s with heap:=s.heap.push {cls:=.type "range",data:=.fields #[.int lo t,.int a u,.int 1 v] },toks:=tk }:=I.kept λb o e=>Lj _ e
 refine⟨(s.heap.push {cls:=.type "range",data:=.fields #[.int lo t,.int a u,.int 1 v] }).objs.size,[(s.heap.push {cls:=.type "range",data:=.fields #[.int lo t,.int a u,.int 1 v] }).objs.size],_,_,H,rfl,
  c.kept λb o e=>Lj _ e,wF _ lo (a-lo).toNat,?_,λb hb=>?_,q⟩
 .have h:lo+((0:Nat)) *1=lo:=by simp
  have g:(((a-lo).toNat:Nat))-((0:Nat))=Builtin.Range.rangeSize lo a 1:=by rw[rangeSize_one];split <;>lia
  rw[h,g];exact LC _ rfl
 .have e:b=(s.heap.push {cls:=.type "range",data:=.fields #[.int lo t,.int a u,.int 1 v] }).objs.size:=by simpa using hb
  subst e;exact c.fpOk (Lk _) (c.hok.fresh (Lk _))
def Kf(ta:TA):TI:=λa H R=>ta a H λb c=>∃j:Int,b=[.int j]/\-(2 ^ 62)<=j/\j<2 ^ 62/\R (Itr 0 j.toNat) c
def Ji(ta:TA):TI:=λa H R=>ta a H λb c=>∃i j:Int,b=[.int i,.int j]/\(-(2 ^ 62)<=i/\i<2 ^ 62/\-(2 ^ 62)<=j/\j<2 ^ 62)/\R (Itr i (j-i).toNat) c
theorem zQ(g:Gl X "range")(n:X.mg "range"=none)(f:PA X [a] ta)(hs:autoParam (Lr [a] X.env=[(false,N4 a X.env)]) zM):PI X tg (.Call (.Name "range" p) [a] [] XY) (Kf ta):=by
 intro m s i H R I h;refine Call_ (dD I g n WV (PyProof.Rows.callWith_type1 (thn (f XY m s i H _ I h) λv u l=>?_) hs rfl));obtain⟨x,w,d,c,b⟩:=l;obtain⟨j,e,b,k,q⟩:=b;subst e;cases c with
 |cons r o=>
  cases o;obtain⟨t,rfl⟩:=r;exact call_range_1 (tR d (by lia) (by lia) b k (by simpa using q))
theorem zF(m:Gl X "range")(y:X.mg "range"=none)(l:PA X [a,b] ta)(hs:autoParam (Lr [a,b] X.env=[(false,N4 a X.env),(false,N4 b X.env)]) zM)(f:autoParam (Lr [b] X.env=[(false,N4 b X.env)]) zM):
  PI X tg (.Call (.Name "range" p) [a,b] [] XY) (Ji ta):=by
 intro x s n H R I h;refine Call_ (dD I m y WV (PyProof.Rows.callWith_type1 (thn (l XY x s n H _ I h) λA z ⟨D,B,k,g,d⟩=>?_) (by rw[hs,f]) (by rw[f];rfl)));obtain⟨i,j,e,⟨d,u,w,o⟩,q⟩:=d;subst e;cases g with
 |cons r c=>
  cases c with
  |cons v c=>
   cases c;obtain⟨t,rfl⟩:=r;obtain⟨C,rfl⟩:=v;exact call_range_2 (tR k d u w o q)
def KW(h:TI)(g:TG)(tb:TS):TS:=λD a H=>h a H λJ j=>∃W:Nat->Nat->St->Hp->Prop,(∃m,W 0 m a j)/\∀i m a H,W i m a H->
 (J.stop i H/\D.nx a H)\/(J.go i H/\∃N:St->Hp->Prop,(∀e b,N e b->∃d,d<m/\W (i+1) d e b)/\∀x b,J.yld i H x b->g x a b λc f=>tb {D with nx:=N,ct:=N,bk:=D.nx } c f)
def kS(a:List LX)(h:OG):List (LX×Obj):=a.filterMap λb=>(h.get? b).map λo=>(b,o)
theorem gq(a:b∈fp)(e:h.get? b=some o):(b,o)∈kS fp h:=Sm.mpr ⟨b,a,by rw[e];rfl⟩
theorem y9(c:p∈kS fp h):p.1∈fp/\h.get? p.1=some p.2:=by
 obtain⟨b,hb,e⟩:=Sm.mp c;cases q:h.get? b with
 |none=>rw[q]at e;cases e
 |some o=>
  rw[q]at e;have a:=Ma e;subst a;exact⟨hb,q⟩
theorem Inv.pinned(I:Inv X XW σ H s)(g:∀b∈fp,mw X XW H b)(h:∀b∈fp,∃o,s.heap.get? b=some o/\∀v,o.data≠.cell v):Inv X (XW++kS fp s.heap) σ H s:=
 I.pins_of λp i=>(Mm.mp i).elim (λz=>I.pin p (LR _ z)) λz=>by
  obtain⟨hb,e⟩:=y9 z;obtain⟨j,c,f,_⟩:=g p.1 hb;obtain⟨o,a,d⟩:=h p.1 hb;rw[e]at a;cases a;exact⟨e,j,c,f,d⟩
theorem Inv.unpinned(I:Inv X (XW++pl) σ H s):Inv X XW σ H s:=I.pins_of λp a=>I.pin p (LR _ (Ms _ a))
theorem HC(E:T5 (L6 X.prog X.w) X.A X.env X.xe)(hc:X.calm=true)(hi:PI X tg iter wi)(hg:PG X tg g)(a:PSs X Ym tb)
  (hs:autoParam (∀x,Nf iter X.env x=pure x) k4):PS X (.For tg iter Ym [] XY) (KW wi g tb):=by
 intro y s σ H D I h;refine wpAny_For (thn (hi y s σ H _ I h) λv s1 h1=>thn h1 λitv s2 h2=>?_) hs;obtain⟨it,F,tn,J,H2,e,I2,T,st2,Z,W,⟨m0,w0⟩,B⟩:=h2;subst e;have j:∀{q},(∀b∈F,q b=none)->∀b∈F,mw X y q b:=λhn b a=>⟨hn b a,(Z b a).2⟩
 refine codeAny_forLoop_any (λn s'=>∃i z q,Inv X y z q s'/\tn i s'.heap/\(∀b∈F,q b=none)/\W i n z q) ?_ m0 ⟨0,σ,H2,I2,st2,λb a=>(Z b a).1,w0⟩;rintro n s3 ⟨i,G,O,Y,st3,M,w3⟩;rcases B i n G O w3 with ⟨K,qn⟩ |⟨go,N,hN,step⟩
 .refine Px E (thn (T.done X rfl rfl rfl hc i y s3 G O X.xe Y (j M) st3 K) λr s4 ⟨S,I4⟩=>?_);subst S;exact R3 ⟨G,O,I4,qn⟩
 .refine Px E (thn (T.item X rfl rfl rfl hc i y s3 G O X.xe Y (j M) st3 go) λr s4 C=>?_);obtain⟨u,S,h4⟩:=C;subst S;refine Px E (thn h4 λ_ V C=>?_);obtain⟨x,H5,I5,r5,y5,st5,R⟩:=C;have P:=I5.pinned (j R) (T.obj _ _ st5);refine Px E (thn (hg _ V G H5 x u _ P r5 (step x H5 y5)) λ_ s6 C=>?_);obtain⟨U,H6,I6,q6⟩:=C;refine Px E (thn (a _ s6 U H6 _ I6 q6) λf Q t=>?_)
  have c:∀{p}{l},Inv X (y++kS F V.heap) p l Q->N p l->∃m,m<n/\∃i z q,Inv X y z q Q/\tn i Q.heap/\(∀b∈F,q b=none)/\W i m z q:=λ{p l} k L=>by
   obtain⟨m',hm,w7⟩:=hN p l L;refine⟨m',hm,i+1,p,l,k.unpinned,T.keep _ _ _ st5 λb a o e=>(k.pin (b,o) (LR _ (LR _ (gq a e)))).1,λb a=>?_,w7⟩;obtain⟨o,e,d⟩:=T.obj _ _ st5 b a;exact (k.pin (b,o) (LR _ (LR _ (gq a e)))).2.1
  cases f with
  |next=>obtain⟨p,l,k,L⟩:=t;exact c k L
  |cont=>obtain⟨p,l,k,L⟩:=t;exact c k L
  |brk=>obtain⟨p,l,k,t⟩:=t;exact⟨p,l,k.unpinned,t⟩
  |ret v=>obtain⟨x7,p,l,k,r7,t⟩:=t;exact⟨x7,p,l,k.unpinned,r7,t⟩
end
abbrev R2:=V->V->Hp->VK->Prop
def OpR(X:Cx)(f:Lw->Lw->Sem Lw)(r:R2):Prop:=
 ∀(b:List (LX×Obj)) (s:LB) (a:St) (H:Hp) (x y:V) (v u:Lw) (Q:VK),Inv X b a H s->aS x v->aS y u->r x y H Q->
  Me (L6 X.prog X.w) X.A (f v u) (EP X b a Q) X.xe s
def UnR(X:Cx)(f:Lw->Sem Lw)(r:V->Hp->VK->Prop):Prop:=
 ∀(b:List (LX×Obj)) (s:LB) (a:St) (H:Hp) (x:V) (v:Lw) (Q:VK),Inv X b a H s->aS x v->r x H Q->
  Me (L6 X.prog X.w) X.A (f v) (EP X b a Q) X.xe s
def cZ(X:Cx)(f:Lw)(r:List V->Hp->VK->Prop):Prop:=
 ∀(b:List (LX×Obj)) (s:LB) (a:St) (H:Hp) (d:List V) (c:List Lw) (Q:VK),Inv X b a H s->aW d c->r d H Q->
  Me (L6 X.prog X.w) X.A (call f c) (EP X b a Q) X.xe s
def tOp(r:R2)(ta tb:TE):TE:=λa H Q=>ta a H λx c=>tb a c λy b=>r x y b Q
def tUn(r:V->Hp->VK->Prop)(ta:TE):TE:=λa H Q=>ta a H λx b=>r x b Q
def rI(C:Int->Int->Prop)(g:Int->Int->V):R2:=λx y H Q=>∃i j,x=.int i/\y=.int j/\C i j/\Q (g i j) H
def rI0(g:Int->Int->V):R2:=λx y H Q=>∃i j,x=.int i/\y=.int j/\Q (g i j) H
def rU(g:Int->V):V->Hp->VK->Prop:=λx H Q=>∃i,x=.int i/\Q (g i) H
section
variable {X:Cx}{a b c:Expr}{ta tb tc:TE}{XY:Pos}
theorem Hw(m:PE X a ta)(i:PE X b tb){R:V->V->Hp->Prop}(I:Inv X XW σ H s)
  (h:ta σ H λx g=>tb σ g λy c=>R x y c) {f:Lw->Lw->Sem Lw}
  (hf:∀v u d x y c,Inv X XW σ c d->aS x v->aS y u->R x y c->Me (L6 X.prog X.w) X.A (f v u) Q X.xe d):
  Me (L6 X.prog X.w) X.A (N4 a X.env) (λv r=>Me (L6 X.prog X.w) X.A (N4 b X.env) (λu q=>Me (L6 X.prog X.w) X.A (f v u) Q X.xe q) X.xe r) X.xe s:=by
 refine thn (m XW s σ H _ I h) λv p e=>?_;obtain⟨x,g,l,k,t⟩:=e;refine thn (i XW p σ g _ l t) λu d e=>?_;obtain⟨y,c,j,n,o⟩:=e;exact hf v u d x y c j k n o
theorem uI(i:OpR X (QB op) r)(g:PE X a ta)(c:PE X b tb):PE X (.BinOp a op b XY) (tOp r ta tb):=by
 intro l s k H Q I h;exact wpAny_BinOp (Hw g c I h λv u j x y e d f m q=>i l j k e x y v u Q d f m q)
theorem Jt(i:UnR X (unaryOp op) r)(j:PE X a ta):PE X (.UnaryOp op a XY) (tUn r ta):=by
 intro c s b H Q I h;exact UnaryOp_ (thn (j c s b H _ I h) λv d ⟨x,k,e,f,g⟩=>i c d b k x v Q e f g)
theorem opI{g:Int->Int->Int}
  (rule:∀i j (t u:Tok) s Q E,C i j->Q (.int (g i j) s.toks) {s with toks:=s.toks+1 }->Me (L6 X.prog X.w) X.A (f (.int i t) (.int j u)) Q E s):
  OpR X f (rI C λi j=>.int (g i j)):=by
 intro k s e H x y v u Q I a b h;obtain⟨i,j,rfl,rfl,c,q⟩:=h;obtain⟨t,rfl⟩:=a;obtain⟨d,rfl⟩:=b;exact rule i j t d s _ _ c ⟨.int (g i j),H,I.tok _,⟨_,rfl⟩,q⟩
theorem JR{g:Int->Int->Int}
  (rule:∀i j (t u:Tok) s Q E,Q (.int (g i j) s.toks) {s with toks:=s.toks+1 }->Me (L6 X.prog X.w) X.A (f (.int i t) (.int j u)) Q E s):
  OpR X f (rI0 λi j=>.int (g i j)):=by
 intro e s d H x y v u Q I a b h;obtain⟨i,j,rfl,rfl,q⟩:=h;obtain⟨t,rfl⟩:=a;obtain⟨c,rfl⟩:=b;exact rule i j t c s _ _ ⟨.int (g i j),H,I.tok _,⟨_,rfl⟩,q⟩
theorem Ej{g:Int->Int->Bool}
  (rule:∀i j (t u:Tok) s Q E,Q (.bool (g i j)) s->Me (L6 X.prog X.w) X.A (f (.int i t) (.int j u)) Q E s):
  OpR X f (rI0 λi j=>.bl (g i j)):=by
 intro e s d H x y v u Q I a b h;obtain⟨i,j,rfl,rfl,q⟩:=h;obtain⟨t,rfl⟩:=a;obtain⟨c,rfl⟩:=b;exact rule i j t c s _ _ ⟨.bl (g i j),H,I,rfl,q⟩
def J0(i j:Int):Prop:=0<=j/\j<=1000000/\i.natAbs<2 ^ 64
theorem IB:OpR X (QB .Add) (rI0 λi j=>.int (i+j)):=JR λ_ _ _ _ _ _ _ q=>add_int q
theorem Ha:OpR X (QB .Sub) (rI0 λi j=>.int (i-j)):=JR λ_ _ _ _ _ _ _ q=>sub_int q
theorem IC:OpR X (QB .Mod) (rI (λ_ j=>0<j) λi j=>.int (i%j)):=opI λi j _ _ _ _ _ a q=>by
 exact mod_int' (by lia) (by rw[Int.fmod_eq_emod_of_nonneg i (by lia)];exact q)
theorem GS:OpR X (QB .Pow) (rI J0 λi j=>.int (i ^ j.toNat)):=opI λ_ _ _ _ _ _ _ a q=>pow_int_small a.1 a.2.1 a.2.2 q
theorem unI{g:Int->Int}
  (rule:∀i (t:Tok) s Q E,Q (.int (g i) s.toks) {s with toks:=s.toks+1 }->Me (L6 X.prog X.w) X.A (f (.int i t)) Q E s):
  UnR X f (rU λi=>.int (g i)):=by
 intro c s b H x v Q I a h;obtain⟨i,rfl,q⟩:=h;obtain⟨t,rfl⟩:=a;exact rule i t s _ _ ⟨.int (g i),H,I.tok _,⟨_,rfl⟩,q⟩
theorem HI:UnR X (unaryOp .USub) (rU λi=>.int (-i)):=unI λ_ _ _ _ _ q=>neg_int q
theorem lH(I:Inv X XW σ H s)(q:Q (.bl k) H)(e:k=k'):EP X XW σ Q (.bool k') s:=by
 subst e;exact⟨.bl k,H,I,rfl,q⟩
theorem Kl:OpR X (MC .Lt) (rI0 λi j=>.bl (decide (i<j))):=Ej λ_ _ _ _ _ _ _ q=>lt_int q
theorem IU:OpR X (MC .LtE) (rI0 λi j=>.bl (decide (i<=j))):=Ej λ_ _ _ _ _ _ _ q=>le_int q
theorem IW:OpR X (MC .Gt) (rI0 λi j=>.bl (decide (j<i))):=Ej λ_ _ _ _ _ _ _ q=>gt_int q
theorem JP:OpR X (MC .GtE) (rI0 λi j=>.bl (decide (j<=i))):=Ej λ_ _ _ _ _ _ _ q=>ge_int q
theorem Ax:OpR X (MC .In) (λx y H Q=>∃i j,x=.str i/\y=.str j/\Q (.bl (!(Builtin.Str.occurrences j i 0 j.length 1).isEmpty)) H):=by
 intro d s c H x y v u Q I a b h;obtain⟨i,j,rfl,rfl,q⟩:=h;obtain⟨t,rfl⟩:=a;obtain⟨e,rfl⟩:=b;exact in_str (lH I q rfl)
theorem k7(b)(h:autoParam (op≠.In) zR)(d:autoParam (op≠.NotIn) zR):Oe op b=false:=by
 have c:(op==CmpOp.In)=false:=by cases op <;>first |rfl |exact absurd rfl h
 have a:(op==CmpOp.NotIn)=false:=by cases op <;>first |rfl |exact absurd rfl d
 cases b <;>simp[Oe,c,a]
theorem Ex(i:OpR X (MC op) r)(g:PE X a ta)(c:PE X b tb)(m:Oe op b=false):PE X (.Compare a [op] [b] XY) (tOp r ta tb):=by
 intro l s k H Q I h;exact wpAny_Compare1 (Hw g c I h λv u j x y e d f n q=>i l j k e x y v u Q d f n q) m
def Gi(t:TE):TT:=λa H Q=>t a H λx b=>∃k,x=.bl k/\Q k b
theorem yB(n:OpR X (MC op) r)(o:PE X a ta)(g:PE X b tb)(D:Oe op b=false):PT X (.Compare a [op] [b] XY) (Gi (tOp r ta tb)):=by
 intro f s d H Q I h
 refine T4 (thn (o f s d H _ I h) λv A ⟨x,E,m,l,F⟩=>thn (g f A d E _ m F) λu q ⟨y,j,i,p,t⟩=>
  thn (n f q d j x y v u _ i l p t) λc J z9=>?_) D
 obtain⟨z,G,C,w,k,e,B⟩:=z9
 subst e;cases w;exact Nl ⟨G,C,B⟩
def GN(r f:R2)(ta tb tc:TE):TE:=λa H Q=>ta a H λx g=>tb a g λy c=>r x y c λz b=>∃k,z=.bl k/\
 (if k=true then tc a b λd e=>f y d e Q else Q (.bl false) b)
theorem A4(C:OpR X (MC op) r)(U:OpR X (MC op') r')(B:PE X a ta)(n:PE X b tb)(Z:PE X c tc)
  (hm:lastMarks [op,op'] [b,c]=false:=by with_unfolding_all rfl):PT X (.Compare a [op,op'] [b,c] XY) (Gi (GN r r' ta tb tc)):=by
 intro g s f H Q I h
 refine isTrue_chain (thn (B g s f H _ I h) λv R ⟨x,H1,A,w,q1⟩=>test_link (thn (n g R f H1 _ A q1) λu E ⟨y,q,o,i,O⟩=>
  thn (C g E f q x y v u _ o w i O) λd S z9=>?_)) hm
 obtain⟨z,m,l,P,k,e,j⟩:=z9
 subst e;cases P;refine Nl ?_;cases k with
 |false=>
  obtain⟨k',e',D⟩:=j;cases e';exact ite_ff ⟨m,l,D⟩
 |true=>
  refine ite_tt (test_last (thn (Z g S f m _ l j) λK t ⟨F,L,T,p,M⟩=>thn (U g t f L y F u K _ T i p M) λd' s5 V=>?_));obtain⟨z2,G,N,J,k2,W,Y⟩:=V;subst W;cases J;exact Nl ⟨G,N,Y⟩
theorem mX:(sizeLine:Nat)<2 ^ 63:=by rw[Oq];decide
theorem vK:OpR X (QB .Add) (λx y H Q=>∃i j,x=.str i/\y=.str j/\i.length+j.length<=sizeLine/\Q (.str (i++j)) H):=by
 intro f s e H x y v u Q I a b h;obtain⟨i,j,rfl,rfl,d,q⟩:=h;obtain⟨t,rfl⟩:=a;obtain⟨c,rfl⟩:=b;exact add_str (λc g=>⟨.str (i++j),H,I.tok _,⟨_,rfl⟩,q⟩) d
theorem dW(r:aW [x] us):∃u,us=[u]/\aS x u:=by
 cases r with
 |cons a b=>cases b;exact⟨_,rfl,a⟩
theorem p_(r:aW [x,y] us):∃u a,us=[u,a]/\aS x u/\aS y a:=by
 cases r with
 |cons d e=>
  cases e with
  |cons c b=>cases b;exact⟨_,_,rfl,d,c⟩
theorem BB:cZ X (.builtin "abs") (λa H Q=>∃i,a=[.int i]∧Q (.int (if i<0 then -i else i)) H):=by
 intro c s b H a d Q I r h;obtain⟨i,rfl,q⟩:=h;obtain⟨u,rfl,t,rfl⟩:=dW r;exact call_abs_int λu e=>⟨.int (if i<0 then -i else i),H,I.tok _,⟨_,rfl⟩,q⟩
theorem yY(c:X.calm=true):cZ X (.builtin "max") (λb H Q=>∃i j,b=[.int i,.int j]∧Q (.int (if j >i then j else i)) H):=by
 intro g s d H b f Q I r h;obtain⟨i,j,rfl,q⟩:=h;obtain⟨u,e,rfl,⟨t,rfl⟩,⟨l,rfl⟩⟩:=p_ r;refine max_two_ints (I.ok.hd c) λm n k=>⟨_,H,I.kept k,?_,q⟩
 by_cases a:j >i
 .rw[if_pos a,if_pos a];exact⟨_,rfl⟩
 .rw[if_neg a,if_neg a];exact⟨_,rfl⟩
theorem zD(c:X.calm=true):cZ X (.builtin "min") (λb H Q=>∃i j,b=[.int i,.int j]∧Q (.int (if j<i then j else i)) H):=by
 intro g s d H b f Q I r h;obtain⟨i,j,rfl,q⟩:=h;obtain⟨u,e,rfl,⟨t,rfl⟩,⟨l,rfl⟩⟩:=p_ r;refine min_two_ints (I.ok.hd c) λm n k=>⟨_,H,I.kept k,?_,q⟩
 by_cases a:j<i
 .rw[if_pos a,if_pos a];exact⟨_,rfl⟩
 .rw[if_neg a,if_neg a];exact⟨_,rfl⟩
theorem AM:cZ X (.type "int") (λa H Q=>(∃i,a=[.int i]∧Q (.int i) H)∨∃k,a=[.bl k]∧Q (.int (if k then 1 else 0)) H):=by
 intro d s c H a e Q I r h;rcases h with ⟨i,rfl,q⟩ |⟨k,rfl,q⟩
 .obtain⟨u,rfl,t,rfl⟩:=dW r;exact call_int_int ⟨.int i,H,I,⟨_,rfl⟩,q⟩
 .obtain⟨u,rfl,b⟩:=dW r;cases b;exact call_int_bool ⟨.int (if k then 1 else 0),H,I.tok _,⟨_,rfl⟩,q⟩
theorem rg:cZ X (.type "str") (λa H Q=>∃i,a=[.int i]∧i.natAbs.log2<1920∧Q (.str (O9 i)) H):=by
 intro d s c H a e Q I r h;obtain⟨i,rfl,b,q⟩:=h;obtain⟨u,rfl,t,rfl⟩:=dW r;exact PySem.P.str_of_int b ⟨.str _,H,I.tok _,⟨_,rfl⟩,q⟩
end
structure v7(h:OG)(x dx C:LX)(mA:Str->Option Lw):Prop where
 obj:h.get? x=some (OH C dx)
 ns:h.Ns1 dx mA
 ne:dx≠x
theorem yW{h:OG}(n:h.Ns1 dx mA):∃f,h.get? dx=some f/\∀b,Sv b f=some (mA b):=by
 obtain⟨o,d,m,i,j,l,_,k⟩:=n;refine⟨o,i,λb=>?_⟩;have e:=k b;unfold nsFind findBy at e;rw[<-Array.find?_toList]at e;unfold Sv;rw[j];dsimp only;split
 .rename_i y q
  rw[q]at e;exact congrArg some e
 .rename_i q
  rw[q]at e
  have a:d.toList.any (·.refKey)=false:=by
   rw[List.any_eq_false];intro y hy;obtain⟨z,t,c⟩:=l y (RM.mp hy);simp[DictEntry.refKey,c]
  have g:¬ d.toList.any (·.refKey)=true:=by rw[a];exact M7
  rw[if_neg g];exact congrArg some e
theorem v7.look(I:v7 h x dx C mA):∃b,PySem.W.InstAt h x (OH C dx) C (some b)/\∀a,Sv a b=some (mA a):=
 let ⟨b,ho,hl⟩:=yW I.ns
 ⟨b,⟨I.obj,rfl,rfl,ho⟩,hl⟩
section
variable {prog:LJ}{w:Mp}{A:ML}{E:Lw→LB→Prop}{s:LB}{K:Le}{x dx C f:LX}{mA:Str→Option Lw}{name:Str}{v:Lw}
theorem FC(X:K.In s.heap)(I:v7 s.heap x dx C mA)(a:RD K C name=true)(c:SE K C=true)
  (ha:NR K (.ref C) name=some none) (hv:mA name=some v) (hv':VU v=true) (h:Q v {s with toks:=s.toks+1 }):
  Me (L6 prog w) A (getAttr (.ref x) name expr) Q E s:=by
 obtain⟨d,J,b⟩:=I.look;exact PySem.W.get_value X J (R5 a).1 (PySem.W.findObj_own c ha rfl (by rw[b,hv])) hv' h
theorem BP(X:K.In s.heap)(I:v7 s.heap x dx C mA)(a:RD K C name=true)
  (hf:NR K (.ref C) name=some (some (.ref f))) (ht:VJ K (.ref f)=true) (hv:mA name=none) (h:Q (.ref f,[.ref x]) s):
  Me (L6 prog w) A (T7 (.ref x) name pl) Q E s:=by
 obtain⟨c,J,b⟩:=I.look;exact PySem.W.method_fn X J (R5 a).1 (R5 a).2 hf (beq_iff_eq.mp ht) (by show (Sv name c).map (·.isSome)=some false;rw[b,hv];rfl) h
theorem Fq(X:K.In s.heap)(I:v7 s.heap x dx C mA)
  (hs:NR K (.ref C) "__setattr__"=some (some (.builtin "object.__setattr__"))) (hp:Vo K C=true) (ht:T8 K C name=some none) (hh:SE K C=true)
  (hw:VH mA ns) (YE:ns.length<=sizeLine)
  (h:∀c,v7 c x dx C (λy=>if y=name then some v else mA y)->O8 dx s.heap c->Q () {s with heap:=c,toks:=s.toks+2 }):
  Me (L6 prog w) A (setAttr (.ref x) name v) Q E s:=by
 obtain⟨p,J,o⟩:=I.look;refine PySem.W.set_plain X J hs (PySem.W.osa_open X J hp ht λb=>?_);obtain⟨cd,l,k⟩:=PySem.W.any_some hh;have j:=I.obj;refine Lh (Lm (Lh (Lh (wpAny_loadPart j (Lh (XF (PySem.W.looks_clsIn X l) ?_))))));rw[k];refine Lm (Lh (Lm (Lh ?_)));refine wpAny_nsSet1 I.ns λc a g=>?_;obtain⟨n,m,i,f,e,d⟩:=a.count (XJ name v hw);refine Lh (wpAny_lookBehind f (by rw[e];exact pastItsLine_dict (LN d (by rw[LF];lia))) ?_);exact Lm (h _ ⟨(g.2 _ (Ne.symm I.ne)).trans I.obj,a,I.ne⟩ g)
theorem BQ(X:K.In s.heap)(b:We K C=true)
  (hi:NR K (.ref C) "__init__"=some (some (.ref f))) (hf:PySem.W.typeIn K (.ref f)=some (.type "function"))
  (h:RE (L6 prog w) (A.under (.builtin "type.__call__" ⟨.ref C::vs,kw⟩)) (.call (.ref f) ⟨.ref (s.heap.objs.size+1)::vs,kw⟩) (PySem.W.InitBack (s.heap.objs.size+1) R)
   {s with heap:=(s.heap.push N6).push (OH C s.heap.objs.size) }):
  RE (L6 prog w) A (.call (.ref C) ⟨vs,kw⟩) R s:=by
 exact PySem.W.make_core (PySem.W.makes_of X b) (PySem.W.looks_findIn X hi) (λa=>PySem.W.bind_fn X a hf) (.inl rfl) h
end
def jc(f:Str)(v:V):List (Str×V)->List (Str×V)
 |[]=>[(f,v)]
 | (g,x)::r=>if g=f then (g,v)::r else (g,x)::jc f v r
theorem md(f g)(v):∀fs,(jc f v fs).lookup g=if g=f then some v else fs.lookup g
 |[]=>by
  show QI g [(f,v)]=_;by_cases h:g=f
  .have hb:=beq_iff_eq.mpr h;simp only[QI,hb,if_pos h]
  .have hb:=beq_eq_false_iff_ne.mpr h;simp only[QI,hb,if_neg h]
 | (k,x)::r=>by
  have b:=md f g v r;rw[show jc f v ((k,x)::r)=(if k=f then (k,v)::r else (k,x)::jc f v r) from rfl];by_cases a:k=f
  .rw[if_pos a];by_cases h:g=k
   .have hb:=beq_iff_eq.mpr h;simp only[QI,hb,if_pos (h.trans a)]
   .have hb:=beq_eq_false_iff_ne.mpr h;simp only[QI,hb,if_neg (λe:g=f=>h (e.trans a.symm))]
  .rw[if_neg a];by_cases h:g=k
   .have hb:=beq_iff_eq.mpr h;simp only[QI,hb,if_neg (λe:g=f=>a (h.symm.trans e))]
   .have hb:=beq_eq_false_iff_ne.mpr h;simp only[QI,hb];exact b
theorem lf(f)(v):∀fs,f∈(jc f v fs).map (·.1)/\∀g,g∈fs.map (·.1)->g∈(jc f v fs).map (·.1)
 |[]=>⟨by simp[jc],λg h=>by simp at h⟩
 | (k,x)::r=>by
  obtain⟨c,b⟩:=lf f v r;rw[show jc f v ((k,x)::r)=(if k=f then (k,v)::r else (k,x)::jc f v r) from rfl];by_cases a:k=f
  .rw[if_pos a];subst a;exact⟨by simp,λg h=>by simpa using h⟩
  .rw[if_neg a];refine⟨?_,λg h=>?_⟩
   .rw[LK];exact Li _ c
   .rw[LK]at h |-;rcases Ll.mp h with e |e
    .exact Ll.mpr (.inl e)
    .exact Li _ (b g e)
theorem lO(f)(v):∀fs,(jc f v fs).length<=fs.length+1
 |[]=>by simp[jc]
 | (k,x)::r=>by
  have ih:=lO f v r;rw[show jc f v ((k,x)::r)=(if k=f then (k,v)::r else (k,x)::jc f v r) from rfl];by_cases a:k=f
  .rw[if_pos a,LF,LF];lia
  .rw[if_neg a,LF,LF];lia
theorem je.some_of(r:je (some v) o):∃u,o=some u/\aS v u:=by
 cases o with
 |none=>exact r.elim
 |some u=>exact⟨u,rfl,r⟩
theorem je.none_of(r:je none o):o=none:=by
 cases o with
 |none=>rfl
 |some u=>exact r.elim
theorem Au(r:aS v u):VU u=true:=by
 cases v with
 |non=>cases r;rfl
 |bl b=>cases r;rfl
 |int i=>obtain⟨t,e⟩:=r;cases e;rfl
 |str x=>obtain⟨t,e⟩:=r;cases e;rfl
 |byt b=>obtain⟨t,e⟩:=r;cases e;rfl
 |flt b=>obtain⟨t,e⟩:=r;cases e;rfl
 |ref a=>cases r;rfl
 |ty n=>cases r;rfl
section
variable {P:LJ}{w:Mp}{H H':Hp}{h h':OG}{a C dx:LX}{fs fs':List (Str×V)}
theorem mK(c:HOk P w H h)(e:H a=some (.ins C dx fs)):∃b,v7 h a dx C b/\(∀f,je (fs.lookup f) (b f))/\VH b (fs.map (·.1))/\fs.length<=1000/\H dx=some (.own a):=by
 obtain⟨d,z,g,i,b,n,r,q⟩:=(c a _ e);exact⟨b,⟨i,n,g⟩,r,q,z,d⟩
end
structure Cls(K:Le)(C:LX):Prop where
 pg:RD K C Str.empty=true
 hd:SE K C=true
 po:Vo K C=true
 sa:NR K (.ref C) "__setattr__"=some (some (.builtin "object.__setattr__"))
theorem Cls.get{K:Le}(c:Cls K C)(f):RD K C f=true:=c.pg
def gh(K:Le)(C:LX)(f:Str):Prop:=NR K (.ref C) f=some none
theorem gh.taker{K:Le}(n:gh K C f):T8 K C f=some none:=by
 unfold T8;rw[show NR K (.ref C) f=some none from n];rfl
structure Bl(K:Le)(C:LX)(m:Str)(f:LX):Prop where
 at_:NR K (.ref C) m=some (some (.ref f))
 fn:VJ K (.ref f)=true
 kp:Nx K (.ref f)=true
section
variable {X:Cx}{XW:List (LX×Obj)}{σ:St}{H:Hp}{s:LB}{a C dx:LX}{fs:List (Str×V)}{f:Str}{v:V}{A:ML}{E:Lw→LB→Prop}
theorem wS(I:Inv X XW σ H s)(e:H a=some (.ins C dx fs))(c:Cls X.K C)(n:gh X.K C f)(l:fs.lookup f=some v)
  (h:∀u d,Inv X XW σ H d->aS v u->Q u d):Me (L6 X.prog X.w) A (getAttr (.ref a) f b) Q E s:=by
 obtain⟨i,O,r,_,_,_⟩:=mK I.hok e;obtain⟨u,g,ru⟩:=je.some_of (by rw[<-l];exact r f);exact FC I.kIn O (c.get f) c.hd n g (Au ru) (h u _ (I.tok _) ru)
theorem wA(I:Inv X XW σ H s)(e:H a=some (.ins C dx fs))(c:Cls X.K C)(k:Bl X.K C m g)(l:fs.lookup m=none)
  (h:Q (.ref g,[.ref a]) s):Me (L6 X.prog X.w) A (T7 (.ref a) m pl) Q E s:=by
 obtain⟨d,O,r,_,_,_⟩:=mK I.hok e;have b:=je.none_of (by rw[<-l];exact r m);exact BP I.kIn O (c.get m) k.at_ k.fn b h
theorem wO(I:Inv X XW σ H s)(e:H a=some (.ins C dx fs))(c:Cls X.K C)(n:gh X.K C f)(D:fs.length<1000)(v:aS y u)
  (h:∀j,Inv X XW σ (upd H a (.ins C dx (jc f y fs))) j->Q () j):Me (L6 X.prog X.w) A (setAttr (.ref a) f u) Q E s:=by
 obtain⟨k,O,r,l,_,i⟩:=mK I.hok e;have B:(fs.map (·.1)).length<=sizeLine:=by rw[Lg,Oq];lia
 refine Fq I.kIn O c.sa c.po n.taker c.hd l B λx d m=>h _ ?_;have t:∃o,x.get? dx=some o:=let ⟨o,_,_,e',_⟩:=d.ns;⟨o,e'⟩;refine I.write (by rw[e];exact True.intro) (.inr i) (λb q hb z=>(m.2 b hb).trans z) t ?_
 refine⟨by rw[aI O.ne];exact i,?_,O.ne,d.obj,_,d.ns,λg=>?_,λg p=>?_⟩
 .have:=lO f y fs;lia
 .show je ((jc f y fs).lookup g) (if g=f then some u else k g);rw[md];by_cases q:g=f
  .rw[if_pos q,if_pos q];exact v
  .rw[if_neg q,if_neg q];exact r g
 .by_cases q:g=f
  .rw[q];exact (lf f y fs).1
  .refine (lf f y fs).2 g (l g λz=>p ?_);show (if g=f then some u else k g)=none;rw[if_neg q];exact z
theorem Inv.made(I:Inv X XW σ H s):Inv X XW σ (upd (upd H s.heap.objs.size (.own (s.heap.objs.size+1))) (s.heap.objs.size+1) (.ins C s.heap.objs.size []))
  {s with heap:=(s.heap.push N6).push (OH C s.heap.objs.size) }:=by
 have a:(s.heap.push N6).get? s.heap.objs.size=some N6:=LC s.heap rfl
 have f:((s.heap.push N6).push (OH C s.heap.objs.size)).get? (s.heap.objs.size+1)=some (OH C s.heap.objs.size):=by
  have:=LC (s.heap.push N6) (o:=OH C s.heap.objs.size) rfl
  rwa [NS]at this
 have d:(s.heap.push N6).Ns s.heap.objs.size (λ_=>none):=⟨N6,#[],_,a,rfl,(λe h=>absurd h (by simp)),λ_=>rfl⟩
 have g:=I.laid (o:=.own (s.heap.objs.size+1)) (t':=s.toks) (λb u q=>Lj _ q) (Lk _) ⟨_,a⟩;refine g.laid (λb u q=>Lj _ q) (Ox (NS _ _)) ?_;have c:s.heap.objs.size≠s.heap.objs.size+1:=L3 (Mz _);refine⟨by rw[aI c,aK],Mu _,c,f,λ_=>none,(Heap.Ns1.of_empty d).at λo q=>Lj _ q,λ_=>True.intro,λy hy=>absurd rfl hy⟩
theorem Ec(b:NC e f env (N4 e env)=N4 e env)
  (h:Me (L6 prog w) A (N4 e env) (λo a=>Me (L6 prog w) A (getAttr o f true) Q E a) E s):Me (L6 prog w) A (N4 (.Attribute e f XY) env) Q E s:=
 Attribute_any_ h (by rw[arm_eval_Attribute,b])
end
def Kz(K:Le)(ta:TE)(f:Str):TE:=λc H Q=>ta c H λx b=>∃a C d fs v,x=.ref a/\b a=some (.ins C d fs)/\Cls K C/\gh K C f/\fs.lookup f=some v/\Q v b
def KU(K:Le)(ta e:TE)(f:Str):TS:=λD b H=>e b H λy g=>ta b g λx c=>∃a C d fs,x=.ref a/\c a=some (.ins C d fs)/\Cls K C/\gh K C f/\fs.length<1000/\
 D.nx b (upd c a (.ins C d (jc f y fs)))
section
variable {X:Cx}{o e Yb:Expr}{f:Str}{XY Yd tpos:Pos}{ta tv:TE}
theorem II(m:PE X e ta)(b:NC e f X.env (N4 e X.env)=N4 e X.env):PE X (.Attribute e f XY) (Kz X.K ta f):=by
 intro p s j H Q I h;refine Ec b (thn (m p s j H _ I h) λu z o=>?_);obtain⟨x,r,g,i,a,C,y,fs,v,t,k,c,n,l,q⟩:=o;subst t;obtain rfl:u=MM a:=i;exact wS g k c n l λA w d ru=>⟨v,r,d,ru,q⟩
theorem Iw(j:PE X o ta)(z:PE X Yb tv)(hs:OK Yb (some (.Attribute o f Yd)) XY.line X.env=pure false):PS X (.Assign [.Attribute o f Yd] Yb XY) (KU X.K ta tv f):=by
 intro d s b H D I h;refine plainObj_wpAny_Assign_Attribute (thn (z d s b H _ I h) λu p ⟨y,w,g,v,q⟩=>thn (j d p b w _ g q) λB F r=>?_) hs;obtain⟨x,E,e,i,a,C,G,fs,A,k,c,n,l,m⟩:=r;subst A;obtain rfl:B=MM a:=i;exact wO e k c n l v λJ t=>⟨b,_,t,m⟩
end
section
variable {X:Cx}{XW:List (LX×Obj)}{σ:St}{H:Hp}{s:LB}{A:ML}{E:Lw→LB→Prop}{Q:Lw→LB→Prop}{c:Lw}{b:Bool}
inductive mE (K:Le) (H:Hp):V->Lw->Prop where
 |non:mE K H .non (.type "NoneType")
 |bl (x:Bool):mE K H (.bl x) (.type "bool")
 |int (i:Int):mE K H (.int i) (.type "int")
 |str (x:Str):mE K H (.str x) (.type "str")
 |flt (x:UInt64):mE K H (.flt x) (.type "float")
 |lst {a:LX}{xs:List V} (e:H a=some (.lst xs)):mE K H (.ref a) (.type "list")
 |frz {a:LX}{o:Obj}{xs:List V} (e:H a=some (.frz o (.lst xs))):mE K H (.ref a) (.type "list")
 |tup {a:LX}{xs:List V} (e:H a=some (.tup xs)):mE K H (.ref a) (.type "tuple")
 |dK {a:LX}{XZ:List (Key×V)} (e:H a=some (.dK XZ)):mE K H (.ref a) (.type "dict")
 |dT {a:LX}{XZ:List (List Key×V)} (e:H a=some (.dT XZ)):mE K H (.ref a) (.type "dict")
 |ins {a C dx:LX}{fs:List (Str×V)} (e:H a=some (.ins C dx fs)) (cl:Cls K C) (ha:NR K (.ref C) "__class__"=some (some (.builtin "object.__class__")))
   (hn:PySem.W.specialIn K (.builtin "object.__class__") "__get__"=some (some (.builtin "getset_descriptor.__get__"))) (ZP:PySem.W.takesIn K (.builtin "object.__class__")=some true)
   (hm:PySem.W.mroIn K C (.type "object")=some true):mE K H (.ref a) (.ref C)
theorem eO(I:Inv X XW σ H s)(d:aS x u)(F:mE X.K H x t)(e:Rg X.K t c=some b)(h:∀L,Q (.bool b) {s with toks:=L }):
  Me (L6 X.prog X.w) A (call (.builtin "isinstance") [u,c]) Q E s:=by
 cases F with
 |non=>cases d;exact Nc PySem.W.kitx_none I.kIn True.intro e (λz=>nomatch z) h
 |bl y=>cases d;exact Nc PySem.W.kitx_bool I.kIn True.intro e (λz=>nomatch z) h
 |int i=>obtain⟨t,q⟩:=d;cases q;exact Nc PySem.W.kitx_int I.kIn True.intro e (λz=>nomatch z) h
 |str y=>obtain⟨t,q⟩:=d;cases q;exact Nc PySem.W.kitx_str I.kIn True.intro e (λz=>nomatch z) h
 |flt y=>obtain⟨t,q⟩:=d;cases q;exact Nc PySem.W.kitx_float I.kIn True.intro e (λz=>nomatch z) h
 | @lst a k f=>
  cases d;obtain⟨_,_,n,_,g⟩:=(I.hok a _ f);exact Nc SF I.kIn ⟨_,g,rfl⟩ e (λz=>nomatch z) h
 | @frz a P k f=>
  cases d;obtain⟨_,_,_,n,_,g⟩:=(I.hok a _ f);exact Nc SF I.kIn ⟨_,g,rfl⟩ e (λz=>nomatch z) h
 | @tup a k f=>
  cases d;obtain⟨_,_,_,p⟩:=(I.hok a _ f);obtain⟨o,g,j,_⟩:=p;exact Nc U7 I.kIn ⟨o,g,j⟩ e (λz=>nomatch z) h
 | @dK a G f=>
  cases d;obtain⟨_,_,S,_,p⟩:=(I.hok a _ f);obtain⟨o,v,m,g,j,_⟩:=p;exact Nc Vp I.kIn ⟨o,g,j.1⟩ e (λz=>nomatch z) h
 | @dT a G f=>
  cases d;obtain⟨_,_,k,_,o,v,m,g,j,_⟩:=(I.hok a _ f);exact Nc Vp I.kIn ⟨o,g,j.1⟩ e (λz=>nomatch z) h
 | @ins a C M fs f l ha D r B=>
  cases d;obtain⟨N,O,_⟩:=mK I.hok f;obtain⟨R,J,_⟩:=O.look;exact Nc (PySem.W.kitx_own (l.get _) l.hd ha D r B) I.kIn J e (λz=>nomatch z) h
end
structure cq(k:Nat)(A:ML):Prop where
 hd:A.handled=none
 dp:A.depth+3*k+5<WC
 un:A.units+16*k+200<P6
theorem cq.mono(r:cq k A)(h:j<=k):cq j A:=⟨r.hd,by have:=r.dp;lia,by have:=r.un;lia⟩
theorem cq.deeper(r:cq (k+1) A)(env):cq k (A.deeper env):=
 ⟨r.hd,by have:=r.dp;show A.depth+1+3*k+5<_;lia,by have:=r.un;show A.units+3+16*k+200<_;lia⟩
theorem vY{A:ML}:(A.under (.builtin "type.__call__" ⟨.ref C::us,kw⟩)).depth=A.depth+1:=by
 first |rfl |simp[VL,Code.weight,Code.isCreation,Code.isGuard,Code.isCaller,Code.frames,Code.isFrame,guardIds]
theorem wZ{A:ML}:(A.under (.builtin "type.__call__" ⟨.ref C::us,kw⟩)).units=A.units+1:=by
 first |rfl |simp[VL,Code.cUnits,Code.frames,Code.isFrame]
theorem cq.make(r:cq (k+1) A)(C)(us)(kw):cq k (A.under (.builtin "type.__call__" ⟨.ref C::us,kw⟩)):=
 ⟨r.hd,by have:=r.dp;rw[vY];omega,by have:=r.un;rw[wZ];omega⟩
theorem cq.depth(r:cq k A):A.depth<WC:=by have:=r.dp;lia
def Km:TA:=λ_ H Q=>Q [] H
def Jm(ta:TE)(c:TA):TA:=λa H Q=>ta a H λx e=>c a e λd b=>Q (x::d) b
variable {es:List Expr}
section
variable {X:Cx}{e:Expr}{te:TE}{t:TA}{XY:Pos}
theorem fi:PA X [] Km:=λ_ _ _ _ H Q I h=>Q7 ⟨[],H,I,.nil,h⟩
theorem ci(i:PE X e te)(n:PA X es t)(hs:autoParam (Lr (e::es) X.env=(false,N4 e X.env)::Lr es X.env) zM):PA X (e::es) (Jm te t):=by
 intro XY b s a H Q I h;rw[hs];refine QS (thn (i b s a H _ I h) λu l o=>?_);obtain⟨x,p,g,f,q⟩:=o;exact thn (n XY b l a p _ g q) λv r ⟨m,d,c,j,k⟩=>⟨x::m,d,c,.cons f j,k⟩
def KK(t:TA):TE:=λc H Q=>t c H λa b=>a.length<=sizeLine/\∀p,b p=none->Q (.ref p) (upd b p (.tup a))
def KG(t:TA):TE:=λc H Q=>t c H λa b=>a.length<=sizeLine/\∀p,b p=none->Q (.ref p) (upd b p (.lst a))
theorem GV{x1}(h:PA X es t):PE X (.Tuple es x1 XY) (KK t):=by
 intro i s d H Q I k;refine wpAny_Tuple_spliced (thn (h XY i s d H _ I k) λf c ⟨g,j,a,r,z,q⟩=>⟨by rw[<-r.length];exact z,?_⟩);have l:=a.hok.fresh (Lk _);refine⟨.ref c.heap.objs.size,upd j c.heap.objs.size (.tup g),a.laid (λb u e=>Lj _ e) (Lk _) ?_,rfl,q _ l⟩;exact⟨z,f,r,⟨_,LC _ rfl,rfl,_,rfl⟩⟩
theorem H_(h:PA X es t):PE X (.List es XY) (KG t):=by
 intro i s d H Q I k;refine wpAny_List_spliced (thn (h XY i s d H _ I k) λf c ⟨g,j,a,r,z,q⟩=>⟨by rw[<-r.length];exact z,?_⟩);have l:=a.hok.fresh (Lk _);refine⟨.ref c.heap.objs.size,upd j c.heap.objs.size (.lst g),a.laid (λb u e=>Lj _ e) (Lk _) ?_,rfl,q _ l⟩;exact⟨z,f,0,r,LC _ rfl⟩
end
abbrev Sp:=List V->Hp->VK->XK->Prop
abbrev CXT:=List Env->Hp->LB->XK->Lw->LB->Prop
structure wM(P:LJ)(w:Mp)(K:Le)(mg:Str->Option Lw)(base:OG)(A:ML)(outer:List Env)(s:LB)(H:Hp):Prop where
 frames:A.frames=some outer
 mod:Mod K mg base
 bs:∀b o,base.get? b=some o->s.heap.get? b=some o/\H b=none
 bsz:base.objs.size<=s.heap.objs.size
 funs:s.heap.FunFrames base outer
 frf:∀b∈frs outer,H b=none
 hok:HOk P w H s.heap
 bare:SY s.gens
def CE(a:List Env)(P:LJ)(w:Mp)(H:Hp)(s:LB)(Q:VK)(u:Lw)(b:LB):Prop:=
 ∃v c,b.os=s.os/\SY b.gens/\Un (frs a) [] H c s.heap b.heap/\HOk P w c b.heap/\aS v u/\Q v c
def CR(CX:CXT)(a:List Env)(P:LJ)(w:Mp)(H:Hp)(s:LB)(Q:VK)(E:XK)(r:Xh)(b:LB):Prop:=
 match r with
 | .ok (.ret u)=>CE a P w H s Q u b
 | .ok _=>False
 | .error e=>CX a H s E e b
structure cj(P:LJ)(w:Mp)(K:Le)(mg:Str->Option Lw)(base:OG)(CX:CXT)(k:Nat)(f:LX)(fd:Of)(ps:List Str)(sp:Sp):Prop where
 len:∀vs H Q E,sp vs H Q E->vs.length=ps.length
 run:∀(A:ML) (outer:List Env) (s:LB) (H:Hp) (args:Args) (us:List Lw) (vs:List V) (Q:VK) (E:XK),cq k A->wM P w K mg base A outer s H->W4 s fd args (ps.zip us)->aW vs us->sp vs H Q E->
  RE (L6 P w) A (.call (.ref f) args) (CR CX outer P w H s Q E) s
theorem cj.mono{K:Le}(F:cj P w K mg base CX j f fd ps sp)(h:j<=k):
  cj P w K mg base CX k f fd ps sp:=⟨F.len,λA a s H b d c Q E e=>F.run A a s H b d c Q E (e.mono h)⟩
theorem wM.make{K:Le}(e:wM P w K mg base A outer s H)(C)(us)(kw):
  wM P w K mg base (A.under (.builtin "type.__call__" ⟨.ref C::us,kw⟩)) outer s H:=⟨by first |exact e.frames | (simpa [VL,Code.envs,Code.isFrame,pushEnvs] using e.frames),e.mod,e.bs,e.bsz,e.funs,e.frf,e.hok,e.bare⟩
section
variable {X:Cx}{XW:List (LX×Obj)}{σ:St}{H:Hp}{s s':LB}
theorem Inv.env0(I:Inv X XW σ H s):wM X.prog X.w X.K X.mg X.base X.A X.stack s H:=
 ⟨I.ok.frames,I.ok.mod,I.bs,LN I.ok.bsz I.sz,I.stack,I.stkFree,I.hok,I.bare⟩
theorem Inv.after(I:Inv X XW σ H s)(h:CE X.stack X.prog X.w H s Q u s'):EP X XW σ Q u s':=by
 obtain⟨v,i,f,a,un,c,r,q⟩:=h;obtain⟨j,g,d,t,e⟩:=s';obtain rfl:e=s.os:=f;exact⟨v,i,I.call un c a (λb z=>absurd z (by simp)),r,q⟩
end
def JB(sp:Sp)(c:List V)(E:XK)(t:TA):TE:=λa H Q=>t a H λb d=>sp (b++c) d Q E
def JZ(C:LX)(m:Str)(sp:Sp)(g:List V)(E:XK)(ta:TE)(t:TA):TE:=λb H Q=>ta b H λx c=>∃a f fs,x=.ref a/\c a=some (.ins C f fs)/\fs.lookup m=none/\
 t b c λe d=>sp (x::(e++g)) d Q E
def JQ(C:LX)(sp:Sp)(f:List V)(E:XK)(t:TA):TE:=λc H Q=>t c H λe b=>∀x a,b x=none->b a=none->a≠x->
 sp (.ref x::(e++f)) (upd (upd b a (.own x)) x (.ins C a [])) (λv d=>v=.non/\Q (.ref x) d) E
def cm(K:Le)(d:Of)(b:List Str)(c:List Lw):Prop:=
 ∀(s:LB) (a:List Lw),K.In s.heap->(a++c).length=b.length->W4 s d ⟨a,[]⟩ (b.zip (a++c))
theorem cm.all{K:Le}(h:∀a,a.length=ps.length->Rh fd ⟨a,[]⟩=pure (ps.zip a)):cm K fd ps []:=λs a _ b=>by
 rw[Ny]at b |-;exact .of_eq (h a b)
def di(CX:CXT)(X:Cx)(E:XK):Prop:=∀(c:List (LX×Obj)) (b:St) (H:Hp) (s:LB) (e:Lw) (a:LB),Inv X c b H s->CX X.stack H s E e a->X.xe e a
section
variable {X:Cx}{CX:CXT}{k:Nat}{f C:LX}{fd:Of}{ps:List Str}{sp:Sp}{Zd:List V}{ds:List Lw}{E:XK}{x m:Str}{p XY X7:Pos}{e o:Expr}{ta:TE}{t:TA}
theorem Dh(F:cj X.prog X.w X.K X.mg X.base CX k f fd ps sp)(j:cq k X.A)(c:cm X.K fd ps ds)(i:aW Zd ds)(g:di CX X E)
  (I:Inv X XW σ H s) (r:aW vs us) (h:sp (vs++Zd) H Q E):Me (L6 X.prog X.w) X.A (call (.ref f) us) (EP X XW σ Q) X.xe s:=by
 have b:=r.append i;have d:(us++ds).length=ps.length:=by rw[<-b.length];exact F.len _ _ _ _ h
 refine WW (QL (F.run X.A X.stack s H ⟨us,[]⟩ (us++ds) (vs++Zd) Q E j I.env0 (c s us I.kIn d) b h) λr l a=>?_);cases r with
 |error e=>exact g XW σ H s e l I a
 |ok fl=>
  cases fl with
  |ret u=>exact I.after a
  |next=>exact False.elim a
  |brk=>exact False.elim a
  |cont=>exact False.elim a
theorem jV(F:cj X.prog X.w X.K X.mg X.base CX k f fd ps sp)(i:cq k X.A)(c:Gl X x)(l:X.mg x=some (.ref f))(m:Nx X.K (.ref f)=true)(b:cm X.K fd ps ds)(g:aW Zd ds)(n:di CX X E)
  (ha:PA X (e::es) t) (YC:autoParam ((x==("__debug__":Str))=false) zR) (he:autoParam (Lr (e::es) X.env=(false,N4 e X.env)::Lr es X.env) zM) (Yq:autoParam ((NT XY (Lr es X.env)).any (·.1)=false) zM):
  PE X (.Call (.Name x p) (e::es) [] XY) (JB sp Zd E t):=by
 intro j s d H Q I h;refine M8 (kl I c l ?_ YC);refine U8 I.ok.mod.kin m (thn (ha XY j s d H _ I h) λu o ⟨y,v,a,r,q⟩=>⟨a.kIn,?_⟩) he Yq;exact Dh F i b g n a r q
theorem xt(L:PE X o ta)(c:Cls X.K C)(j:Bl X.K C m f)(F:cj X.prog X.w X.K X.mg X.base CX k f fd ps sp)(J:cq k X.A)(n:cm X.K fd ps ds)(G:aW Zd ds)(D:di CX X E)(v:PA X (e::es) t)
  (YH:autoParam (Lr (e::es) X.env=(false,N4 e X.env)::Lr es X.env) zM) (Yq:autoParam ((NT XY (Lr es X.env)).any (·.1)=false) zM)
  (ht:autoParam (N4 (.Call (.Attribute o m X7) (e::es) [] XY) X.env=(do
   let ov <-N4 o X.env
   V_ X7.atName
   let (f,first) <-UQ [ov] (T7 ov m pl)
   W5 XY f first (NT XY (Lr (e::es) X.env)) (Ri XY (Pm [] X.env)))) zM):
  PE X (.Call (.Attribute o m X7) (e::es) [] XY) (JZ C m sp Zd E ta t):=by
 intro i s g H Q I h;refine PySem.W.methodCall_KW (thn (L i s g H _ I h) λu B M=>?_) ht;obtain⟨x,N,d,p,a,S,fs,O,y,l,q⟩:=M;subst O;obtain rfl:u=MM a:=p;refine wA d y c j l ?_;refine U8 I.ok.mod.kin j.kp (thn (v XY i B g N _ d q) λT R ⟨vs,P,b,r,z⟩=>⟨b.kIn,?_⟩) YH Yq;exact Dh (vs:=.ref a::vs) F J n G D b (.cons rfl r) z
structure Mk(K:Le)(C f:LX):Prop where
 makes:We K C=true
 init:NR K (.ref C) "__init__"=some (some (.ref f))
 fn:VJ K (.ref f)=true
 kp:Nx K (.ref C)=true
theorem C8(M:Mk X.K C f)(F:cj X.prog X.w X.K X.mg X.base CX k f fd ps sp)(n:cq (k+1) X.A)(i:cm X.K fd ps ds)(m:aW Zd ds)
  (hx:di CX X E) (I:Inv X XW σ H s) (r:aW vs us)
  (h:∀x c,H x=none->H c=none->c≠x->sp (.ref x::(vs++Zd)) (upd (upd H c (.own x)) x (.ins C c [])) (λv j=>v=.non/\Q (.ref x) j) E):
  Me (L6 X.prog X.w) X.A (call (.ref C) us) (EP X XW σ Q) X.xe s:=by
 have g:=h (s.heap.objs.size+1) s.heap.objs.size (I.hok.fresh (Xr _)) (I.hok.fresh (Lk _)) (L3 (Mz _));have b:=Inv.made (C:=C) I;have d:aW (V.ref (s.heap.objs.size+1)::(vs++Zd)) (MM (s.heap.objs.size+1)::(us++ds)):=.cons rfl (r.append m)
 have t:(MM (s.heap.objs.size+1)::us++ds).length=ps.length:=by
  have e:=d.length;rw[F.len _ _ _ _ g]at e;exact e.symm
 refine WW (BQ I.kIn M.makes M.init (beq_iff_eq.mp M.fn) (QL (F.run _ X.stack _ _ ⟨MM (s.heap.objs.size+1)::us,[]⟩ (MM (s.heap.objs.size+1)::(us++ds)) _ _ E (n.make C us [])
  (b.env0.make C us []) (i _ (MM (s.heap.objs.size+1)::us) b.kIn t) d g) λr l a=>?_))
 cases r with
 |error e=>exact hx XW σ _ _ e l b a
 |ok fl=>
  cases fl with
  |ret u=>
   obtain⟨v,o,q,y,ev,p⟩:=b.after a;subst ev;exact⟨y,⟨V.ref (s.heap.objs.size+1),o,q,rfl,p⟩⟩
  |next=>exact False.elim a
  |brk=>exact False.elim a
  |cont=>exact False.elim a
theorem BL(M:Mk X.K C f)(F:cj X.prog X.w X.K X.mg X.base CX k f fd ps sp)(e:cq (k+1) X.A)(b:Gl X x)(c:X.mg x=some (.ref C))(a:cm X.K fd ps ds)(d:aW Zd ds)(g:di CX X E)
  (YC:autoParam ((x==("__debug__":Str))=false) zR):PE X (.Call (.Name x p) [] [] XY) (JQ C sp Zd E Km):=by
 intro j s i H Q I h;refine M8 (kl I b c ?_ YC);exact PySem.W.callWith_K0 I.kIn M.kp (C8 M F e a d g I .nil h)
end
structure av(N P:List Str)(sc:VS):Prop where
 kind:sc.kind=.function
 co:sc.isCoroutine=false
 gen:sc.isGenerator=false
 nd:N.Nodup
 pre:N.take P.length=P
 par:∀x∈P,sc.names.lookup x=some .local\/sc.names.lookup x=some .cell
 nofree:∀y∈sc.names,y.2≠.free
theorem qu{a:Str->Option UB}:∀{binds}{m},(∀v,(x,v) ∉ binds)->XM a binds m x=m x
 |[],_,_=>rfl
 | (n,v)::r,m,h=>by
  unfold XM;rw[qu λw b=>h w (Li _ b)];split
  .have:x≠n:=by rintro rfl;exact h v Lo
   simp[this]
  .rfl
theorem qe{a:Str->Option UB}:∀{binds}{m},(∀v,(x,v) ∉ binds)->XN a binds m x=m x
 |[],_,_=>rfl
 | (n,v)::r,m,h=>by
  unfold XN;rw[qe λw b=>h w (Li _ b)];split
  .rfl
  .have:x≠n:=by rintro rfl;exact h v Lo
   simp[this]
theorem pN{a:Str->Option UB}:∀{P:List Str}{b}{i:Nat}{m},P.Nodup->P[i]?=some x->b[i]?=some v->a x=some .local->
  XM a (P.zip b) m x=some v
 |[],_,_,_,_,h,_,_=>by simp at h
 |_::_,[],_,_,_,_,h,_=>by simp at h
 |p::P,w::b,0,m,nd,h1,h2,hk=>by
  simp at h1 h2;subst h1;subst h2;show XM a ((p,w)::P.zip b) m p=_;unfold XM;rw[qu λv c=>(Py.mp nd).1 (T9 c).1,if_pos hk];simp
 |p::P,w::b,i+1,m,nd,h1,h2,hk=>by
  unfold XM;exact pN (Py.mp nd).2 (by simpa using h1) (by simpa using h2) hk
theorem qa{a:Str->Option UB}:∀{P:List Str}{b}{i:Nat}{m},P.Nodup->P[i]?=some x->b[i]?=some v->a x≠some .local->
  XN a (P.zip b) m x=some v
 |[],_,_,_,_,h,_,_=>by simp at h
 |_::_,[],_,_,_,_,h,_=>by simp at h
 |p::P,w::b,0,m,nd,h1,h2,hk=>by
  simp at h1 h2;subst h1;subst h2;show XN a ((p,w)::P.zip b) m p=_;unfold XN;rw[qe λv c=>(Py.mp nd).1 (T9 c).1,if_neg hk];simp
 |p::P,w::b,i+1,m,nd,h1,h2,hk=>by
  unfold XN;exact qa (Py.mp nd).2 (by simpa using h1) (by simpa using h2) hk
def start(N:List Str)(vs:List V):St:=vs.map some++L7 (N.length-vs.length) none
def nO(CX:CXT)(P:LJ)(w:Mp)(K:Le)(mg:Str->Option Lw)(base:OG)(N:List Str)(c:Str)(b:VS)(f:LX)(d:Lw)(A:ML)(outer:List Env)(s:LB)(H:Hp)(E:XK):Cx where
 prog:=P
 w:=w
 K:=K
 mg:=mg
 base:=base
 A:=A.deeper (SH c b s.heap.objs.size f d)
 N:=N
 s₀:=s
 H₀:=H
 env:=SH c b s.heap.objs.size f d
 outer:=outer
 stack:=SH c b s.heap.objs.size f d::outer
 ex:=[]
 calm:=true
 fn:=λ_=>true
 pn:=[]
 xe:=λe g=>Me (L6 P w) (A.deeper (SH c b s.heap.objs.size f d)) (leaving (SH c b s.heap.objs.size f d) e) (λ_ a=>CX outer H s E e a) (λh a=>CX outer H s E h a) g
theorem ve{a:VS}(h:a.names.lookup x=some .cell):∃c,(Wf n a.names []).lookup x=some c:=by
 have q:=Q2 a.names n [] (.inl h);exact QM.mp q
theorem yZ{K:Le} 
  (S:av N ps XX) (hd:A.handled=none) (e0:wM P w K mg base A outer s H) (hl:vs.length=ps.length) (r:aW vs us)
  (x:InCallC s s.heap.objs.size (XM (SH X3 XX s.heap.objs.size f cd).kindOf (ps.zip us) λ_=>none) (Wf (s.heap.objs.size+1) XX.names []) (XN (SH X3 XX s.heap.objs.size f cd).kindOf (ps.zip us) λ_=>none) s1):
  Inv (nO CX P w K mg base N X3 XX f cd A outer s H E) [] (start N vs) H s1:=by
 have C:ps.length<=N.length:=by have:=congrArg Wg S.pre;rw[NZ]at this;lia
 obtain⟨m,F,rfl,o⟩:=x.done;have g:∀b,b ∉ (nO CX P w K mg base N X3 XX f cd A outer s H E).ex:=λb z=>absurd (show b∈[] from z) (by simp)
 refine⟨⟨e0.mod,S.kind,rfl,rfl,Lk _,λy z c m d=>?_,λy hy=>?_,λy c _ h=>?_,λ_=>hd,Around.frames_deeper e0.frames,.inr ⟨rfl,rfl⟩,λb z=>absurd z (g b),e0.bs,e0.bsz,λb _ _=>g b,λb z=>absurd z (g b),e0.funs,e0.frf⟩,
  rfl,e0.bare,Un.kept o,⟨_,x.toInCall.ns,λi y v m d D=>?_⟩,λy c h=>⟨_,x.cell y c h⟩,e0.hok.fresh (Lk _),λy c h=>?_,λp l=>absurd (show p∈[] from l) (by simp),e0.hok.kept o,?_⟩
 .exact name_of_addr x.apart (NI m) (NI d)
 .have hy:=hy;rcases hy with hy |hy
  .exact ve hy
  .exact absurd rfl (S.nofree _ (NI hy))
 .exact Lu (x.above y c (NI h))
 .have n:i<vs.length:=by
   unfold start at d;by_cases n:i<vs.length
   .exact n
   .rw[LS (by simpa using n)]at d
    rw[Nn]at d;split at d <;>cases d
  have ha:vs[i]?=some v:=by
   unfold start at d;rw[LO (by simpa using n),Lq]at d
   cases e:vs[i]? with
   |none=>rw[e]at d;cases d
   |some a=>rw[e]at d;cases d;rfl
  obtain⟨u,t,B⟩:=r.get ha
  have l:ps[i]?=some y:=by
   rw[<-S.pre,NK (by lia)];exact m
  have j:ps.Nodup:=by rw[<-S.pre];exact S.nd.sublist (Vq _ _)
  refine⟨u,B,?_⟩;rcases S.par y (LW l) with k |k
  .exact .inl ⟨k,pN j l t k⟩
  .obtain⟨c,e⟩:=ve k;refine .inr ⟨.inl k,c,e,?_⟩;have q:=x.cell y c e;rw[qa j l t (by show XX.names.lookup y≠_;rw[k];decide)]at q
   exact q
 .exact e0.hok.fresh (Lu (x.above y c (NI h)))
 .unfold start;show _=N.length;rw[LG,Lg,NL];lia
theorem GB{K:Le}{G T R D c F X:Lw} 
  (lk:K.lookup f=some ⟨X,od,.func (N0 name X3 params Ym XX G T R D an c F),ZQ⟩) (YB:Rj K c X3=true) (S:av N ps XX)
  (len:∀d H Q E,sp d H Q E->d.length=ps.length)
  (YF:∀A a s H d Q E,cq k (A.deeper (SH X3 XX s.heap.objs.size f c))->sp d H Q E->
   ∃t,PSs (nO CX P w K mg base N X3 XX f c A a s H E) Ym t/\t {nx:=λ_ g=>Q .non g,rt:=Q } (start N d) H):
  cj P w K mg base CX (k+1) f (N0 name X3 params Ym XX G T R D an c F) ps sp:=by
 refine⟨len,λA a s H L Y d Q E B j hb r M=>?_⟩;have hl:=len _ _ _ _ M;have U:=j.mod.kin.keeps λb o e=>(j.bs b o e).1;have p:=j.mod.nolimit.keeps λb o e=>(j.bs b o e).1
 have h:∀y∈ps.zip Y,XX.names.lookup y.1=some .local\/(XX.names.lookup y.1=some .cell/\((Wf (s.heap.objs.size+1) XX.names []).lookup y.1).isSome=true):=λ⟨n,v⟩ hy=>by
  rcases S.par n (T9 hy).1 with q |q
  .exact .inl q
  .exact .inr ⟨q,Q2 _ _ _ (.inl q)⟩
 refine codeAny_call_function B.depth (U _ _ lk) rfl S.co S.gen rfl (PySem.W.codeRec_of U YB) (hb _ _ _ _ ?_);refine wpAny_newFunctionEnv_cells S.kind h λenv Z O x=>?_;subst Z;refine⟨p.keeps x.toInCall.keep,codeAny_func ?_⟩;obtain⟨t,ht,hq⟩:=YF A a s H d Q E (B.deeper _) M;have I:Inv (nO CX P w K mg base N X3 XX f c A a s H E) [] (start N d) H O:=yZ S B.hd j hl r x;refine Pv (ht [] O (start N d) H _ I hq) (λfl z i=>?_) λe z i=>i
 have l:∀{m}{g}{v}{u},Inv (nO CX P w K mg base N X3 XX f c A a s H E) [] m g z->aS v u->Q v g->CE a P w H s Q u z:=
  λ{m g v u} J C q=>⟨v,g,J.os,J.bare,J.base,J.hok,C,q⟩
 cases fl with
 |ret u=>
  obtain⟨v,m,g,J,C,q⟩:=i;exact l J C q
 |next=>
  obtain⟨m,g,J,q⟩:=i;exact l (v:=V.non) J rfl q
 |brk=>
  obtain⟨_,_,_,q⟩:=i;exact False.elim q
 |cont=>
  obtain⟨_,_,_,q⟩:=i;exact False.elim q
section
variable {X:Cx}{x:Str}{p XY:Pos}{e:Expr}{t:TA}{id T:String}{r:List V→Hp→VK→Prop}
def tCB(r:List V->Hp->VK->Prop)(t:TA):TE:=λa H Q=>t a H λb c=>r b c Q
theorem tq(m:cZ X (.builtin id) r)(g:Gl X x)(k:X.mg x=none)(q:NY x=some (.builtin id))(f:PA X (e::es) t)(l:autoParam (x≠"__name__") zR)(v:autoParam ((x==("__debug__":Str))=false) zR)
  (he:autoParam (Lr (e::es) X.env=(false,N4 e X.env)::Lr es X.env) zM) (Yq:autoParam ((NT XY (Lr es X.env)).any (·.1)=false) zM):PE X (.Call (.Name x p) (e::es) [] XY) (tCB r t):=by
 intro b s a H Q I h;refine M8 (dD I g k q ?_ l v);exact PyProof.Rows.callWith_builtin1 (thn (f XY b s a H _ I h) λj i ⟨o,n,d,c,u⟩=>m b i a n o j Q d c u) he Yq
theorem As(m:cZ X (.type T) r)(g:Gl X x)(k:X.mg x=none)(q:NY x=some (.type T))(f:PA X (e::es) t)(l:autoParam (x≠"__name__") zR)(v:autoParam ((x==("__debug__":Str))=false) zR)
  (he:autoParam (Lr (e::es) X.env=(false,N4 e X.env)::Lr es X.env) zM) (Yq:autoParam ((NT XY (Lr es X.env)).any (·.1)=false) zM):PE X (.Call (.Name x p) (e::es) [] XY) (tCB r t):=by
 intro b s a H Q I h;refine M8 (dD I g k q ?_ l v);exact PyProof.Rows.callWith_type1 (thn (f XY b s a H _ I h) λj i ⟨o,n,d,c,u⟩=>m b i a n o j Q d c u) he Yq
end
end L2
namespace HT
open PySem PyProof.Rows
section
variable {prog:LJ}{w:Mp}{A:ML}{E:Lw→LB→Prop}{s:LB}
def sIx(n d:Nat):Option Int->Nat
 |none=>d
 |some v=>if v<0 then (v+(n:Int)).toNat else min v.toNat n
theorem sIx_none(n d):sIx n d none=d:=rfl
theorem sIx_nat(n d k:Nat):sIx n d (some (k:Int))=min k n:=by
 show (if k<0 then (k+(n:Int)).toNat else min (k:Int).toNat n)=min k n;rw[if_neg (by lia),NM]
end
end HT
namespace L2
open PySem PySem.Spec PyProof.Rows
abbrev TO:=St->Hp->(Option Int->Hp->Prop)->Prop
def PO(X:Cx)(e:Option Expr)(t:TO):Prop:=
 ∀(b:List (LX×Obj)) (s:LB) (a:St) (H:Hp) (Q:Option Int->Hp->Prop),Inv X b a H s->t a H Q->
  Me (L6 X.prog X.w) X.A (evalPart e X.env) (λu d=>∃o c,Inv X b a c d/\IsPart u o/\Q o c) X.xe s
def FQ:TO:=λ_ H Q=>Q none H
def I0(t:TE):TO:=λa H Q=>t a H λx b=>∃i,x=.int i/\Q (some i) b
section
variable {X:Cx}{e:Expr}{te:TE}{lo hi:Option Expr}{tl th:TO}{XY p2:Pos}
theorem E7:PO X none FQ:=by
 intro b s a H Q I h;rw[U9];exact Lm ⟨none,H,I,.none,h⟩
theorem D8(h:PE X e te):PO X (some e) (I0 te):=by
 intro g s c H Q I d;rw[evalPart_some];refine thn (h g s c H _ I d) λu l f=>?_;obtain⟨x,j,b,a,k⟩:=f;obtain⟨i,rfl,q⟩:=k;obtain⟨t,rfl⟩:=a;exact⟨some i,j,b,.int i t,q⟩
def SlR(X:Cx)(r:V->Option Int->Option Int->Hp->VK->Prop):Prop:=
 ∀(c:List (LX×Obj)) (s:LB) (a:St) (H:Hp) (x:V) (v b d:Lw) (lo hi:Option Int) (e:LX) (Q:VK),Inv X c a H s->aS x v->s.heap.IsSliceOf e b d .none->IsPart b lo->IsPart d hi->r x lo hi H Q->
  ∃T f,UC (.type T) "__getitem__"=pure (some (.builtin f))∧s.TypeIs v T∧Me (L6 X.prog X.w) X.A (Vr v (.ref e)) (EP X c a Q) X.xe s
def tSl(r:V->Option Int->Option Int->Hp->VK->Prop)(te:TE)(tl th:TO):TE:=λa H Q=>te a H λx d=>tl a d λl b=>th a b λu c=>r x l u c Q
theorem uw(A:SlR X r)(B:PE X e te)(F:PO X lo tl)(J:PO X hi th):PE X (.Subscript e (.Slice lo hi none p2) XY) (tSl r te tl th):=by
 intro d s a H Q I h;refine Vs (thn (B d s a H _ I h) λv z f=>?_);obtain⟨x,K,o,n,L⟩:=f;refine wpAny_Slice (thn (F d z a K _ o L) λg p ⟨l,m,k,G,y⟩=>thn (J d p a m _ k y) λi c f=>?_);obtain⟨u,j,E,pu,C⟩:=f;rw[U9];refine Lm ?_;have D:Inv X d a j {c with heap:=c.heap.push {cls:=.type "slice",data:=.fields #[g,i,.none] } }:=E.kept λb O q=>Lj _ q;obtain⟨T,N,t,M,w⟩:=A d {c with heap:=c.heap.push {cls:=.type "slice",data:=.fields #[g,i,.none] } } a j x v g i l u c.heap.objs.size Q D n (U_ ..) G pu C;exact tail_any M t w (by with_unfolding_all rfl)
def A0(xs:List V)(lo hi:Option Int):List V:=(xs.drop (HT.sIx xs.length 0 lo)).take (HT.sIx xs.length xs.length hi-HT.sIx xs.length 0 lo)
theorem uV(xs)(lo hi):(A0 xs lo hi).length<=xs.length:=by
 unfold A0;rw[NZ,ND];lia
end
def ixN(n:Nat)(i:Int):Option Nat:=if 0<=i then (if i<n then some i.toNat else none) else if -(n:Int)<=i then some (i+n).toNat else none
def atI{α:Type}(xs:List α)(i:Int):Option α:=(ixN xs.length i).bind λj=>xs[j]?
theorem D6(h:ixN n i=some j):seqIndex? i n=some j/\j<n/\-(n:Int)<=i/\i<n:=by
 unfold ixN at h;by_cases b:0<=i
 .rw[if_pos b]at h;by_cases a:i<n
  .rw[if_pos a]at h;have e:=Ma h;exact⟨by rw[seqIndex_of b a,e],by lia,by lia,a⟩
  .rw[if_neg a]at h;cases h
 .rw[if_neg b]at h;by_cases a:-n<=i
  .rw[if_pos a]at h;have e:=Ma h;exact⟨by rw[seqIndex_neg (by lia) a,e],by lia,a,by lia⟩
  .rw[if_neg a]at h;cases h
theorem q_{α:Type}{xs:List α}{v:α}(h:atI xs i=some v):∃j,seqIndex? i xs.length=some j/\xs[j]?=some v/\j<xs.length/\-(xs.length:Int)<=i/\i<xs.length:=by
 unfold atI at h;cases e:ixN xs.length i with
 |none=>rw[e]at h;cases h
 |some j=>
  rw[e]at h;obtain⟨d,c,b,a⟩:=D6 e;exact⟨j,d,h,c,b,a⟩
theorem xU{α:Type}{xs:List α}{j:Nat}{v:α}(h:xs[j]?=some v):atI xs (j:Int)=some v:=by
 have a:=(Ls.mp h).1
 have e:ixN xs.length j=some j:=by
  unfold ixN;rw[if_pos (by lia),if_pos (by lia)];simp
 unfold atI;rw[e];exact h
def mH(b:Expr):Prop:=∀o i,US b false o i=operate [o,i] (Vr o i)
def IxR(X:Cx)(r:R2):Prop:=
 ∀(d a:Expr) (c:List (LX×Obj)) (s:LB) (b:St) (H:Hp) (x y:V) (v u:Lw) (Q:VK),Inv X c b H s->aS x v->aS y u->r x y H Q->
  US a false v u=operate [v,u] (Vr v u)->Me (L6 X.prog X.w) X.A (subscriptTail d a v u) (EP X c b Q) X.xe s
def MtR(X:Cx)(e:String)(r:V->List V->Hp->VK->Prop):Prop:=
 ∀(b:List (LX×Obj)) (s:LB) (a:St) (H:Hp) (x:V) (d:List V) (v:Lw) (c:List Lw) (Q:VK),Inv X b a H s->aS x v->aW d c->r x d H Q->
  Me (L6 X.prog X.w) X.A (call (.builtin e) (v::c)) (EP X b a Q) X.xe s
section
variable {X:Cx}{a b:Expr}{ta tb:TE}{XY:Pos}
theorem IxR.or(h:IxR X r)(h':IxR X r'):IxR X (λx y H Q=>r x y H Q\/r' x y H Q):=by
 intro e a c s b H x y v u Q I d f q g;rcases q with q |q
 .exact h e a c s b H x y v u Q I d f q g
 .exact h' e a c s b H x y v u Q I d f q g
theorem AV(k:IxR X r)(g:PE X a ta)(c:PE X b tb)(hs:mH b):PE X (.Subscript a b XY) (tOp r ta tb):=by
 intro l s j H Q I h;exact Vs (Hw g c I h λv u i x y e d f m q=>k a b l i j e x y v u Q d f m q (hs _ _))
def KQ(K:Le):R2:=λx y H Q=>∃p a i v,x=.ref p/\y=.int i/\SqL K H p a/\atI a i=some v/\Q v H
def KH(K:Le):R2:=λx y H Q=>∃p a i v,x=.ref p/\y=.int i/\SqT K H p a/\atI a i=some v/\Q v H
def K_:R2:=λx y H Q=>∃z i c,x=.str z/\y=.int i/\z.length<=sizeLine/\atI z.cps.toList i=some c/\Q (.str ⟨#[c]⟩) H
theorem xA:IxR X (KQ X.K):=by
 intro O c D s A H x y v u Q I l E h f;obtain⟨p,J,i,z,rfl,rfl,G,B,q⟩:=h;cases l;obtain⟨t,rfl⟩:=E;obtain⟨its,r,e,N⟩:=I.list G;obtain⟨j,b,n,M,o,F⟩:=q_ B;obtain⟨w,g,m⟩:=r.get n;have C:=r.length;have L:=mX;have a:EP X D A Q w s:=⟨z,H,I,m,q⟩;by_cases k:0<=i
 .have d:i.toNat=j:=by
   rw[seqIndex_of k F]at b;exact Ma b
  exact item_listR e.isList k (by lia) (by rw[d];simpa using g) a f
 .have d:(i+its.toArray.size).toNat=j:=by
   rw[seqIndex_neg (by lia) o]at b
   rw[LV,<-C];exact Ma b
  exact TF e.isList.typeIs slot_list_getitem.lookup
   (wpAny_getItem_list_neg e.isList (by lia) (by rw[LV] <;>lia) (by lia) (by rw[d];simpa using g) ⟨rfl,a⟩) f
theorem Is:IxR X (KH X.K):=by
 intro M b A s l H x y v u Q I d B h g;obtain⟨p,E,i,z,rfl,rfl,C,m,q⟩:=h;cases d;obtain⟨t,rfl⟩:=B;obtain⟨its,r,c,L⟩:=I.tuple C;obtain⟨j,k,f,J,D,G⟩:=q_ m;obtain⟨w,n,e⟩:=r.get f;have o:=r.length;have F:=mX;have a:EP X A l Q w s:=⟨z,H,I,e,q⟩
 exact TF c.typeIs slot_tuple_getitem.lookup
  (getItem_tuple c (by lia) (by lia) (by rw[LV,<-o];exact k) (by simpa using n) ⟨rfl,a⟩) g
theorem Ig:IxR X K_:=by
 intro D a w s r H x y v u Q I d o h f;obtain⟨z,i,c,rfl,rfl,E,k,q⟩:=h;obtain⟨t,rfl⟩:=d;obtain⟨B,rfl⟩:=o;obtain⟨j,b,e,C,g,p⟩:=q_ k;have l:z.cps.toList.length=z.length:=by simp[Str.length]
 rw[l]at b g p;have A:=mX
 exact tail_any (WX s z t) slot_str_getitem.lookup (getItem_str (by
  have n:decide (i < -(2 ^ 63))=false:=decide_eq_false (by lia);have m:decide (i ≥ 2 ^ 63)=false:=decide_eq_false (by lia);rw[n,m,W6]) (by rw[b];simpa using e) ⟨.str ⟨#[c]⟩,H,I.tok _,⟨_,rfl⟩,q⟩) f
theorem rG(lo hi)(n):(Q8 lo hi none n).1=((HT.sIx n 0 lo:Nat):Int)/\(Q8 lo hi none n).2.1=((HT.sIx n n hi:Nat):Int)/\(Q8 lo hi none n).2.2=1:=by
 refine⟨?_,?_,rfl⟩
 .cases lo with
  |none=>simp[Q8,HT.sIx]
  |some i=>
   simp only[Q8,HT.sIx,Th,show 1 >0 by decide,if_true];by_cases h:i<0
   .simp only[h,if_true] <;>lia
   .simp only[h,if_false] <;>lia
 .cases hi with
  |none=>simp[Q8,HT.sIx]
  |some i=>
   simp only[Q8,HT.sIx,Th,show 1 >0 by decide,if_true];by_cases h:i<0
   .simp only[h,if_true] <;>lia
   .simp only[h,if_false] <;>lia
theorem pL(a:List Lw)(lo hi):slicePick a.toArray lo hi none=((a.drop (HT.sIx a.length 0 lo)).take (HT.sIx a.length a.length hi-HT.sIx a.length 0 lo)).toArray:=by
 obtain⟨d,c,b⟩:=rG lo hi a.toArray.size;unfold slicePick;rw[d,c,b];simp only[sliceRange_one,pick_run,LV] <;>rfl
def Kv(K:Le):V->Option Int->Option Int->Hp->VK->Prop:=λx c d H Q=>∃a b,x=.ref a/\SqL K H a b/\∀p,H p=none->Q (.ref p) (upd H p (.lst (A0 b c d)))
theorem E2:SlR X (Kv X.K):=by
 intro t s n H x v p w d e o Q I g i k pu h;obtain⟨a,c,rfl,m,q⟩:=h;cases g;obtain⟨its,r,f,l⟩:=I.list m;have j:=r.length;refine⟨"list",_,slot_list_getitem.lookup,f.isList.typeIs,?_⟩;refine SI f.isList i k pu .none (by simp) ?_ (by rw[LV] <;>lia);rw[pL,<-j];refine⟨.ref s.heap.objs.size,_,I.laid (λb u q=>Lj _ q) (Lk _) ?_,rfl,q _ (I.hok.fresh (Lk _))⟩;exact⟨LN (uV c d e) l,_,0,(r.drop (HT.sIx c.length 0 d)).take (HT.sIx c.length c.length e-HT.sIx c.length 0 d),LC _ rfl⟩
def jB:V->Bool
 | .non=>true
 | .bl _=>true
 | .int _=>true
 | .str _=>true
 |_=>false
def eqV:V->V->Bool
 | .non,.non=>true
 | .bl a,.bl b=>a==b
 | .bl a,.int b=>(if a then 1 else 0)==b
 | .int a,.bl b=>a==(if b then 1 else 0)
 | .int a,.int b=>a==b
 | .str a,.str b=>a==b
 |_,_=>false
theorem HG(e:aS y u)(c:aS x v)(g:jB y=true)(f:jB x=true):SeqAt.EqAt A s u v (eqV y x):=by
 cases y with
 |non=>
  cases e;cases x with
  |non=>cases c;exact SeqAt.EqAt.same _
  |bl b=>cases c;exact SeqAt.EqAt.none_bool b
  |int b=>obtain⟨t,rfl⟩:=c;exact SeqAt.EqAt.none_int b t
  |str b=>obtain⟨t,rfl⟩:=c;exact SeqAt.EqAt.none_str b t
  |_=>exact absurd f M7
 |bl a=>
  cases e;cases x with
  |non=>cases c;exact SeqAt.EqAt.bool_none a
  |bl b=>cases c;exact SeqAt.EqAt.bool_bool a b
  |int b=>obtain⟨t,rfl⟩:=c;exact SeqAt.EqAt.bool_int a b t
  |str b=>obtain⟨t,rfl⟩:=c;exact SeqAt.EqAt.bool_str a b t
  |_=>exact absurd f M7
 |int a=>
  obtain⟨d,rfl⟩:=e;cases x with
  |non=>cases c;exact SeqAt.EqAt.int_none a d
  |bl b=>cases c;exact SeqAt.EqAt.int_bool a d b
  |int b=>obtain⟨t,rfl⟩:=c;exact SeqAt.EqAt.int_int a d b t
  |str b=>obtain⟨t,rfl⟩:=c;exact SeqAt.EqAt.int_str a d b t
  |_=>exact absurd f M7
 |str a=>
  obtain⟨d,rfl⟩:=e;cases x with
  |non=>cases c;exact SeqAt.EqAt.str_none a d
  |bl b=>cases c;exact SeqAt.EqAt.str_bool a d b
  |int b=>obtain⟨t,rfl⟩:=c;exact SeqAt.EqAt.str_int a d b t
  |str b=>obtain⟨t,rfl⟩:=c;exact SeqAt.EqAt.str_str a d b t
  |_=>exact absurd f M7
 |_=>exact absurd g M7
def eqU(x:V)(u:Lw):Bool:=match u with
 | .none=>eqV .non x
 | .bool b=>eqV (.bl b) x
 | .int i _=>eqV (.int i) x
 | .str z _=>eqV (.str z) x
 |_=>false
theorem A9(r:aS y u)(f:jB y=true):eqU x u=eqV y x:=by
 cases y with
 |non=>cases r;rfl
 |bl b=>cases r;rfl
 |int i=>obtain⟨t,rfl⟩:=r;rfl
 |str z=>obtain⟨t,rfl⟩:=r;rfl
 |_=>exact absurd f M7
theorem rP:∀{a}{b},aW a b->a.all jB=true->b.any (eqU x)=a.any λy=>eqV y x
 |_,_,.nil,_=>rfl
 |y::a,u::b,.cons r t,f=>by
  rw[RU,MW]at f;rw[PV,PV,A9 r f.1,rP t f.2]
theorem oS(d:aS x v)(e:jB x=true):∀{c}{b},aW c b->c.all jB=true->∀u∈b,SeqAt.EqAt A s u v (eqU x u)
 |_,_,.nil,_=>λu a=>by cases a
 |y::c,u::b,.cons r t,f=>λg a=>by
  rw[RU,MW]at f;rcases Ll.mp a with rfl |a
  .rw[A9 r f.1];exact HG r d f.1 e
  .exact oS d e t f.2 g a
def inV(x:V)(xs:List V):Bool:=xs.any λy=>eqV y x
def rIn(K:Le)(b:Bool):R2:=λx y H Q=>∃p a,y=.ref p/\(SqL K H p a\/SqT K H p a)/\jB x=true/\a.all jB=true/\Q (.bl (if b then !inV x a else inV x a)) H
theorem zI:OpR X (MC .In) (rIn X.K false):=by
 intro k s i H x y v u Q I d f h;obtain⟨p,j,rfl,a,e,fs,q⟩:=h;cases f;rcases a with a |a
 .obtain⟨its,r,c,g⟩:=I.list a;refine SeqAt.in_listAt (eqU x) c.isList (λw b=>oS d e r fs w (by simpa using b)) ⟨.bl _,H,I,rfl,?_⟩;rw[show its.toArray.any (eqU x)=its.any (eqU x) by simp,rP r fs];exact q
 .obtain⟨its,r,c,g⟩:=I.tuple a;refine SeqAt.in_tupleAt (eqU x) c (λw b=>oS d e r fs w (by simpa using b)) ⟨.bl _,H,I,rfl,?_⟩;rw[show its.toArray.any (eqU x)=its.any (eqU x) by simp,rP r fs];exact q
theorem ko:cZ X (.builtin "len") (λf H Q=>∃p a,f=[.ref p]∧(SqL X.K H p a∨SqT X.K H p a)∧Q (.int a.length) H):=by
 intro l s j H f k Q I r h;obtain⟨p,a,rfl,b,q⟩:=h;obtain⟨u,rfl,g⟩:=dW r;cases g;have m:=mX;rcases b with b |b
 .obtain⟨its,d,e,i⟩:=I.list b;have c:=d.length;exact Calls.call_len_list e.isList (by simp only[LV] <;>lia) ⟨.int a.length,H,I.tok _,⟨s.toks+1,by rw[LV,c]⟩,q⟩
 .obtain⟨its,d,e,i⟩:=I.tuple b;have c:=d.length;exact len_tuple e (by simp only[LV] <;>lia) ⟨.int a.length,H,I.tok _,⟨s.toks+1,by rw[LV,c]⟩,q⟩
theorem qS:cZ X (.builtin "len") (λa H Q=>∃z,a=[.str z]∧z.length≤sizeLine∧Q (.int z.length) H):=by
 intro c s b H a d Q I r h;obtain⟨z,rfl,f,q⟩:=h;obtain⟨u,rfl,t,rfl⟩:=dW r;have e:=mX;exact len_str (by lia) ⟨.int z.length,H,I.tok _,⟨_,rfl⟩,q⟩
def tyV(K:Le)(T:String)(x:V)(H:Hp):Prop:=match x with
 | .str _=>T="str"
 | .int _=>T="int"
 | .ref p=>(T="list"∧∃b,SqL K H p b)∨(T="tuple"∧∃o,K.lookup p=some o∧o.cls=.type "tuple"∧o.dict=none)∨
   (T="dict"∧((∃a,H p=some (.dK a))∨∃a,H p=some (.dT a)))∨(T="set"∧∃S n,H p=some (.set S n))
 |_=>False
theorem B7(I:Inv X XW σ H s)(r:aS x v)(f:tyV X.K T x H):
  s.TypeIs v T/\∀a,v=.ref a->∃k,s.heap.get? a=some k/\k.dict=none:=by
 cases x with
 |str z=>
  obtain⟨t,rfl⟩:=r;cases f;exact⟨WX s z t,λ_ e=>nomatch e⟩
 |int i=>
  obtain⟨t,rfl⟩:=r;cases f;exact⟨RZ s i t,λ_ e=>nomatch e⟩
 |ref p=>
  cases r;rcases f with ⟨rfl,u,m⟩ |⟨rfl,o,b,l,g⟩ |⟨rfl,b⟩ |⟨rfl,S,n,b⟩
  .obtain⟨its,_,j,_⟩:=I.list m;refine⟨j.isList.typeIs,λa e=>?_⟩;cases e;obtain⟨o,n,e,c,g,_⟩:=j;exact⟨o,e,g⟩
  .refine⟨⟨o,I.kIn p o b,l⟩,λa e=>?_⟩;cases e;exact⟨o,I.kIn _ o b,g⟩
  .have z:∃o,s.heap.get? p=some o/\o.ExactDict:=by
    rcases b with ⟨q,b⟩ |⟨q,b⟩
    .obtain⟨_,_,_,_,o,_,_,e,d,_⟩:=I.hok p _ b;exact⟨o,e,d⟩
    .obtain⟨_,_,_,_,o,_,_,e,d,_⟩:=I.hok p _ b;exact⟨o,e,d⟩
   obtain⟨o,e,d⟩:=z;refine⟨⟨o,e,d.1⟩,λa h=>?_⟩;cases h;exact⟨o,e,d.2.1⟩
  .obtain⟨o,_,_,_,e,d,_⟩:=I.hok p _ b;refine⟨⟨o,e,d.1⟩,λa h=>?_⟩;cases h;exact⟨o,e,d.2.1⟩
 |_=>exact False.elim f
def KL(K:Le)(T:String)(r:V->List V->Hp->VK->Prop)(c:TE):TE:=λb H Q=>c b H λx a=>tyV K T x a/\r x [] a Q
def tBM(K:Le)(T:String)(r:V->List V->Hp->VK->Prop)(d:TE)(t:TA):TE:=λa H Q=>d a H λx b=>tyV K T x b/\t a b λe c=>r x e c Q
variable {o e:Expr}{es:List Expr}{to:TE}{t:TA}{name:Str}{X7 X4:Pos}{T id:String}{r:V→List V→Hp→VK→Prop}
theorem B2(l:PlainAttrs T)(a:Slot T name id)(b:typeOf (.builtin id)=pure (.type "method_descriptor"))(n:MtR X id r)(i:PE X o to)
  (Yf:autoParam (NC o name X.env (N4 o X.env)=N4 o X.env) zM) (Yg:autoParam ((X7.endLine==X4.line)=true) zM):PE X (.Call (.Attribute o name X7) [] [] X4) (KL X.K T r to):=by
 intro f s e H Q I h;refine wpAny_Call_method0_late Yf Yg (thn (i f s e H _ I h) λv k m=>?_);obtain⟨x,p,d,c,ty,q⟩:=m;obtain⟨j,g⟩:=B7 d c ty;exact⟨T,id,l,a,b,j,g,TH rfl (PySem.evalArgs_none (n f k e p x [] v [] Q d c .nil q))⟩
theorem uJ(A:PlainAttrs T)(a:Slot T name id)(d:typeOf (.builtin id)=pure (.type "method_descriptor"))(C:MtR X id r)(n:PE X o to)(l:PA X (e::es) t)
  (Yf:autoParam (NC o name X.env (N4 o X.env)=N4 o X.env) zM)
  (YO:autoParam (((NT X4 (Lr (e::es) X.env)).all (λx=>!x.1) && (Ri X4 (Pm [] X.env)).all (λx=>x.1.isSome)
   && decide ((e::es).length+([]:List Q9).length+(if ([]:List Q9).isEmpty then 0 else 1)<30))=true) zM)
  (Yg:autoParam ((X7.endLine==X4.line)=true) zM) (hs:autoParam (Lr (e::es) X.env=(false,N4 e X.env)::Lr es X.env) zM) (Yh:autoParam ((NT X4 (Lr es X.env)).any (·.1)=false) zM):
  PE X (.Call (.Attribute o name X7) (e::es) [] X4) (tBM X.K T r to t):=by
 intro c s b H Q I h;refine wpAny_Call_method_late Yf YO Yg rfl (thn (n c s b H _ I h) λv y B=>?_);obtain⟨x,D,g,f,ty,F⟩:=B;obtain⟨q,m⟩:=B7 g f ty;refine⟨T,id,A,a,d,q,m,?_⟩;have i:=l X4 c y b D _ g F;rw[hs]at i |-;refine TH (by show (false || (NT X4 (Lr es X.env)).any (·.1))=false;rw[Yh] <;>rfl) (Calls.evalArgs_plain ?_)
 exact thn i λz u ⟨E,k,j,p,w⟩=>C c u b k x E v z Q j f p w
end
def MtM(X:Cx)(e:String)(r:V->List V->Hp->VK->Prop):Prop:=
 ∀(b:List (LX×Obj)) (s:LB) (a:St) (H:Hp) (x:V) (d:List V) (v:Lw) (c:List Lw) (Q:VK),Inv X b a H s->aS x v->aW d c->r x d H Q->
  Me (L6 X.prog X.w) X.A (call (.builtin e) (v::c)) (EP X b a Q) X.xe s
theorem aW.one:∀{x}{a},aW [x] a->∃u,a=[u]/\aS x u:=by
 intro x a h;cases h with
 |cons r t=>cases t;exact⟨_,rfl,r⟩
theorem aW.zero:∀{a},aW [] a->a=[]
 |_,.nil=>rfl
theorem aW.dropLast(h:aW xs us):aW xs.dropLast us.dropLast:=by
 induction h with
 |nil=>exact .nil
 |cons r t a=>
  cases t with
  |nil=>exact .nil
  |cons q b=>exact .cons r a
theorem aW.rep(h:aW xs us):∀k,aW (L7 k xs).flatten (L7 k us).flatten
 |0=>.nil
 |k+1=>by
  rw[Nh,Nh,N7,N7];exact aW.append h (aW.rep h k)
theorem w4{α:Type}(l:List α):l.eraseIdx (l.length-1)=l.dropLast:=by
 induction l with
 |nil=>rfl
 |cons a r c=>
  cases r with
  |nil=>rfl
  |cons b r=>
   have e:(a::b::r).length-1=((b::r).length-1)+1:=by
    have f:(a::b::r).length=r.length+2:=rfl;have d:(b::r).length=r.length+1:=rfl;lia
   rw[e,List.eraseIdx_cons_succ,c]
   all_goals rfl
theorem qF(its):∀k (Yw:List Lw),
  WY (λa b=>a++b) Yw.toArray (L7 k its.toArray)=(Yw++(L7 k its).flatten).toArray
 |0,Yw=>by simp
 |k+1,Yw=>by
  have e:Yw.toArray++its.toArray=(Yw++its).toArray:=by simp
  have c:(Yw++its)++(L7 k its).flatten=Yw++(L7 (k+1) its).flatten:=by
   rw[Nh,N7,LH]
  rw[<-c,<-qF its k (Yw++its),<-e,Nh,Nd]
section
variable {X:Cx}{XW:List (LX×Obj)}{σ:St}{H:Hp}{s:LB}{l b:LX}{xs ys zs:List V}
theorem Inv.lset{a its':List Lw}(I:Inv X XW σ H s)(b:H l=some (.lst xs))
  (e:s.heap.get? l=some {cls:=.type "list",data:=.seq a.toArray n }) (hf:f a.toArray=its'.toArray) (hv:aW ys its') (hz:ys.length≤sizeLine):
  Inv X XW σ (upd H l (.lst ys)) {s with heap:=s.heap.update l (O4 f),toks:=t' }:=by
 have q:=PySem.IsL.update e f;rw[hf]at q;refine I.write (by rw[b];exact trivial) (.inl rfl) (λd u hb c=>(M0 s.heap (O4 f) (Ne.symm hb)).trans c) ⟨_,q⟩ ?_
 exact⟨hz,its',_,hv,q⟩
theorem Inv.lnew(I:Inv X XW σ H s)(a:aW ys its)(b:ys.length<=sizeLine):
  Inv X XW σ (upd H s.heap.objs.size (.lst ys)) {s with heap:=s.heap.push {cls:=.type "list",data:=.seq its.toArray },toks:=t' }:=
 I.laid (λ_ _ q=>Lj _ q) (Lk _) ⟨b,its,0,a,LC _ rfl⟩
theorem Inv.fresh(I:Inv X XW σ H s):H s.heap.objs.size=none:=I.hok.fresh (Lk _)
theorem Inv.lstM(I:Inv X XW σ H s)(a:H l=some (.lst xs)):xs.length≤sizeLine∧∃its n,aW xs its∧xs.length=its.length∧s.heap.get? l=some {cls:=.type "list",data:=.seq its.toArray n }:=by
 obtain⟨z,its,n,r,e⟩:=I.hok l _ a;exact⟨z,its,n,r,r.length,e⟩
theorem DF(h:n<=sizeLine):Builtin.List.listTooLong n=false:=by
 exact decide_eq_false (by lia)
end
section
variable {X:Cx}
def F4:V->List V->Hp->VK->Prop:=λx b H Q=>∃l a y,x=.ref l/\b=[y]/\H l=some (.lst a)/\a.length<sizeLine/\Q .non (upd H l (.lst (a++[y])))
theorem pT:MtM X "list.append" F4:=by
 intro j s d H x k v f Q I b c h;obtain⟨l,g,y,rfl,rfl,a,m,q⟩:=h;cases b;obtain⟨u,rfl,ru⟩:=c.one;obtain⟨z,its,n,r,i,e⟩:=I.lstM a;refine Q_ F.slot_list_append ⟨_,e,rfl⟩ F.entry_list_append (F.args_list_append_2 _ _) (PySem.list_append l its.toArray n u (by rw[LV];lia)) ⟨e,?_⟩;refine⟨.non,_,I.lset a e (by simp) (r.append (.cons ru .nil)) ?_,rfl,q⟩;rw[LG,T_];lia
def KZ:V->List V->Hp->VK->Prop:=λx b H Q=>∃l a y,x=.ref l/\b=[]/\H l=some (.lst a)/\a[a.length-1]?=some y/\Q y (upd H l (.lst a.dropLast))
theorem Hv:MtM X "list.pop" KZ:=by
 intro o s j H x p v k Q I c i h;obtain⟨l,m,y,rfl,rfl,b,hy,q⟩:=h;cases c;have a:=i.zero;subst a;obtain⟨z,its,n,r,f,e⟩:=I.lstM b;obtain⟨u,g,ru⟩:=r.get hy
 have d:its.toArray[its.toArray.size-1]?=some u:=by
  show its.toArray[its.length-1]?=some u;rw[<-MN,<-f];exact g
 refine Q_ F.slot_list_pop ⟨_,e,rfl⟩ F.entry_list_pop (F.args_list_pop_1 _) (MeetsSeq.list_pop_last l its.toArray n u d (by rw[LV];lia)) ⟨e,?_⟩;refine⟨y,_,I.lset b e ?_ r.dropLast ?_,ru,q⟩
 .show its.toArray.eraseIdxIfInBounds (its.toArray.size-1)=its.dropLast.toArray;rw[LV,List.eraseIdxIfInBounds_toArray,w4]
 .rw[M4];lia
def K5:R2:=λx y H Q=>∃l b c a,x=.ref l/\y=.ref b/\H l=some (.lst c)/\H b=some (.lst a)/\c.length+a.length<=sizeLine/\∀p,H p=none->Q (.ref p) (upd H p (.lst (c++a)))
theorem IA:OpR X (QB .Add) K5:=by
 intro A s o H x y v u Q I c k h;obtain⟨l,b,t,p,rfl,rfl,m,f,D,q⟩:=h;cases c;cases k;obtain⟨z,its,n,r,w,e⟩:=I.lstM m;obtain⟨B,a,C,d,j,i⟩:=I.lstM f;refine PySem.P.add_list e i ?_ (by rw[LV,LV];lia);have g:its.toArray++a.toArray=(its++a).toArray:=by simp
 rw[g];exact⟨.ref _,_,I.lnew (r.append d) (by rw[LG];lia),rfl,q _ I.fresh⟩
def KJ:R2:=λx y H Q=>∃l k a,x=.ref l/\y=.int k/\H l=some (.lst a)/\-(2 ^ 63)<=k/\k<2 ^ 63/\a.length*k.toNat<=sizeLine/\
 ∀p,H p=none->Q (.ref p) (upd H p (.lst (L7 k.toNat a).flatten))
theorem Fr{α:Type}(xs:List α)(k):(L7 k xs).flatten.length=k*xs.length:=by
 induction k with
 |zero=>simp
 |succ k a=>rw[Nh,N7,LG,a,Nat.succ_mul,Ua]
theorem Ih:OpR X (QB .Mult) KJ:=by
 intro M s J H x y v u Q I j E h;obtain⟨l,k,L,rfl,rfl,G,w,o,i,q⟩:=h;cases j;obtain⟨t,rfl⟩:=E;obtain⟨z,its,n,r,D,e⟩:=I.lstM G;have A:its.toArray.size*k.toNat<=sizeLine:=by rw[LV,<-D];exact i
 have d:¬ its.toArray.size*k.toNat >(2 ^ 63-1)/8:=by
  have:sizeLine<=(2 ^ 63-1)/8:=by decide
  omega
 have B:¬ (!Builtin.List.listFitsIndex k)=true:=by
  rw[fitsIndex_both w o];exact M7
 have b:¬ Builtin.List.listTooLong (its.toArray.size*k.toNat)=true:=by
  rw[DF A];exact M7
 have c:WY (λg f=>g++f) #[] (L7 (if its.toArray.isEmpty=true then 0 else k.toNat) its.toArray)=(L7 k.toNat its).flatten.toArray:=by
  have C:∀m,WY (λg f=>g++f) #[] (L7 m its.toArray)=(L7 m its).flatten.toArray:=λm=>by
   have:=qF its m [];exact this
  rw[C];cases its with
  |nil=>simp
  |cons a K=>rw[if_neg (by simp)]
 refine wpAny_binaryOp_repeat_ref (by decide) ⟨_,e,rfl⟩ (λp=>RZ p k t) noFill_list_mul F.fills_int_mul F.slot_int_rmul repeat_list F.slot_int_index.lookup
  (Q_ F.slot_int_rmul (RZ s k t) F.entry_int_rmul (F.args_int_rmul_2 _ _) (int___rmul___int_list k t l its.toArray n)
   ⟨e,rfl,⟨_,e,rfl⟩,Q_ F.slot_list_mul ⟨_,e,rfl⟩ F.entry_list_mul (F.args_list_mul_2 _ _) (AutoListH.list___mul___list_int_3 l its.toArray n k t B d b) ⟨e,?_⟩⟩)
 rw[c];exact⟨.ref _,_,I.lnew (r.rep k.toNat) (by rw[Fr,VM];exact i),rfl,q _ I.fresh⟩
end
end L2
namespace Att
open PySem PySem.W PySem.Calls PyProof.Rows
theorem my:∀c d,WellAll P h d (c.map WData.int)->W7 d c:=by
 intro c
 induction c with
 |nil=>
  intro d w;cases w;exact .nil
 |cons n c e=>
  intro d w;cases w with
  |cons a b=>
   cases a;exact .cons _ _ (e _ b)
theorem script_of{l:OpenLaw}(s:l.most=some n) 
  (Zw:l.row.toRowW.claim.pre args=true) (hwl:WellAll P h vals args):
  ∃a f b,vals=[MM a]∧args=[WData.list (b.map WData.int)]∧h.get? a=some {cls:=.type "list",data:=.seq f.toArray }∧W7 f b∧b.length≤n:=by
 have hsh:=(pre_splitW Zw).1;have t:l.pre.holds [] {args:=args }=true:=(pre_splitW Zw).2;obtain⟨d,r,rfl,j,g⟩:=hasAllW_cons hsh;obtain rfl:=hasAllW_nil g;obtain⟨v,rfl,u⟩:=hasW_list j;obtain⟨b,rfl⟩:=items_int u
 have k:b.length<=n:=by
  have c:(WTm.not (.lt (.lit (.int n)) (.len (.arg 0)))).holds [] {args:=[.list (b.map .int)] }=true:=by
   have c:=(holds_andW t).1;rw[s]at c;exact c
  have e:=condW_of c (w_not (w_lt w_lit (w_len_list (w_arg rfl))));refine N1 λq=>?_
  first
   | (rw[decide_eq_true q']at e;exact absurd e (by decide))
   | (simp at e;lia)
 cases hwl with
 |cons p m=>
  cases m;cases p with
  |list i o=>exact⟨_,_,b,rfl,rfl,i,my b _ o,k⟩
theorem post_true(l:OpenLaw)(args):l.row.toRowW.claim.post args (.bool true) args=true:=
 postW_of
  (show WShape.has [] (.bool true) .bool=true by first |rfl |decide |simp[WShape.has,WShape.arms,WShape.armsAll])
  (w_eq_bool (w_res rfl) w_lit) rfl
end Att
namespace L2
open PySem PySem.Spec PyProof.Rows
theorem ql:∀{a}{b},W7 a b->aW (b.map V.int) a
 |_,_,.nil=>.nil
 |_,_,.cons n t h=>.cons ⟨t,rfl⟩ (ql h)
def EG(H:Hp):Prop:=∀b,H b=none\/∃o a,H b=some (.frz o (.lst a))
theorem B0{K:Le} 
  (KX:K.In X2.heap) (hns:X2.heap.Ns MY mg) (hb:X2.heap.Ns WT mb) (hbb:∀x:Str,x≠"__name__"→mb x=NY x) (hlim:X2.heap.NoLimit) (hg:X2.gens=#[])
  (ha:X2.heap.get? a=some {cls:=.type "list",data:=.seq vs.toArray }) (hi:W7 vs ns) (hl:ns.length≤sizeLine) (hr:cq k Vt)
  (F:∀base,K.In base->base.Ns MY mg->cj P w K mg base CX k fa fd [x] sp) (hbind:∀s u,W4 s fd ⟨[u],[]⟩ [(x,u)])
  (Y3:∀H,EG H->SqL K H a (ns.map V.int)->sp [.ref a] H (λv _=>v=.bl true) λ_ _ _=>False)
  (hCX:∀H e c,CX [] H X2 (λ_ _ _=>False) e c->False):
  RE (L6 P w) Vt (.call (.ref fa) ⟨[.ref a],[]⟩) (λr c=>r=.ok (.ret (.bool true))/\OldK X2.heap c.heap/\c.os=X2.os/\SY c.gens) X2:=by
 have J:=ql hi;have i:=hi.length
 have g:∀H,EG H->SqL K H a (ns.map V.int)->HOk P w H X2.heap->(∀b,H b≠none->b=a)->(H a≠none->K.lookup a=none)->
   RE (L6 P w) Vt (.call (.ref fa) ⟨[.ref a],[]⟩) (λr c=>r=.ok (.ret (.bool true))/\OldK X2.heap c.heap/\c.os=X2.os/\SY c.gens) X2:=by
  intro H E S l L Y;have G:∀{b}{o},X2.heap.get? b=some o->H b=none->(qR X2.heap H).get? b=some o:=λe n=>BR e n
  have C:∀{b}{o}{B}{A},X2.heap.get? b=some o->o.data=.dict B A->H b=none:=λ{b o B A} e d=>by
   cases q:H b with
   |none=>rfl
   |some u=>
    have D:=L b (by rw[q];simp);subst D;rw[ha]at e;cases e;have M:=d;cases M
  have f:∀{b}{m},X2.heap.Ns b m->(qR X2.heap H).Ns b m:=λ{b m} ⟨o,B,A,e,d,r⟩=>⟨o,B,A,G e (C e d),d,r⟩
  have t:K.In (qR X2.heap H):=λb o e=>G (KX b o e) (by
   cases q:H b with
   |none=>rfl
   |some u=>
    have D:=L b (by rw[q];simp);subst D;rw[Y (by rw[q];simp)]at e;cases e)
  have O:Mod K mg (qR X2.heap H):=⟨t,f hns,⟨mb,f hb,hbb⟩,let ⟨mc,h1,h2⟩:=hlim;⟨mc,f h1,h2⟩⟩;have Q:wM P w K mg (qR X2.heap H) Vt [] X2 H:=⟨rfl,O,λb o e=>EM e,Ox (zy _ _),trivial,λb hb=>absurd (show b∈[] from hb) (by simp),l,.of_eq hg⟩
  refine QL ((F _ t (f hns)).run Vt [] X2 H ⟨[.ref a],[]⟩ [.ref a] [.ref a] _ _ hr Q (hbind X2 (.ref a)) (.cons rfl .nil) (Y3 H E S)) λr c h=>?_;cases r with
  |error e=>exact (hCX H e c h).elim
  |ok fl=>
   cases fl with
   |next=>exact False.elim h
   |brk=>exact False.elim h
   |cont=>exact False.elim h
   |ret u=>
    obtain⟨v,H',U,p,un,y,R,q⟩:=h;have N:=q;subst N;obtain rfl:u=WS true:=R;refine⟨rfl,OldK.of_keep λb o e=>?_,U,p⟩;cases q:H b with
    |none=>exact un.keep b o e q (by intro z;exact absurd (show b∈[] from z) (by simp)) (by simp)
    |some u=>
     rcases E b with z |⟨X,Z,z⟩
     .rw[q]at z;cases z
     .have W:=un.frzs b X _ z;obtain⟨I,_⟩:=l b _ z;obtain⟨T,_⟩:=y b _ W;rw[e]at I;cases I;exact T
 cases hk:K.lookup a with
 |some o=>
  have e:=KX a o hk;rw[ha]at e;cases e;refine g (λ_=>none) (λ_=>.inl rfl) (.inr ⟨_,vs.toArray,_,hk,rfl,rfl,rfl,by rw[LV,i];exact hl,by simpa using J⟩) (λb u z=>by have j:=z;cases j) (λb z=>absurd rfl z) λz=>absurd rfl z
 |none=>
  refine g (λb=>if b=a then some (.frz {cls:=.type "list",data:=.seq vs.toArray } (.lst (ns.map V.int))) else none) (λb=>?_) (.inl (.inr ⟨{cls:=.type "list",data:=.seq vs.toArray },if_pos rfl⟩)) (λb u z=>?_) (λb z=>?_) λ_=>hk
  .by_cases hb:b=a
   .exact .inr ⟨_,_,if_pos hb⟩
   .exact .inl (if_neg hb)
  .by_cases hb:b=a
   .have j:=(if_pos hb).symm.trans z;cases j;subst hb;exact⟨ha,by rw[Lg];exact hl,vs,_,J,ha⟩
   .have j:=(if_neg hb).symm.trans z;cases j
  .by_cases hb:b=a
   .exact hb
   .exact absurd (if_neg hb) z
abbrev KOf{K:Le}{h:OG}(_:K.In h):Le:=K
end L2
namespace L2
open PySem PySem.Spec PyProof.Rows
def bY(s:Od):Arguments:=match s with
 | .FunctionDef _ a _ _ _ _ _ _ _ _=>a
 |_=>{posonlyargs:=[],args:=[],vararg:=none,kwonlyargs:=[],kw_defaults:=[],kwarg:=none,defaults:=[] }
def bm(s:Od):List Od:=match s with
 | .FunctionDef _ _ b _ _ _ _ _ _ _=>b
 |_=>[]
def ai(s:Od):VS:=match s with
 | .FunctionDef _ _ _ _ _ _ a _ _ _=>a
 |_=>{kind:=.function,names:=[],isGenerator:=false,isCoroutine:=false }
abbrev CX0:CXT:=λ_ _ _ _ _ _=>False
abbrev E0:XK:=λ_ _ _=>False
structure Fun(K:Le)(x X3:Str)(st:Od)(f:LX)(fd:Of):Prop where
 ex:∃(oc:Lw) (od:Option LX) (kV YM pm:Lw) (an:Option LX) (cdv ct:Lw) (ZQ:Array (Option Lw)),
  fd=N0 x X3 (bY st) (bm st) (ai st) .none kV YM pm an cdv ct/\K.lookup f=some ⟨oc,od,.func fd,ZQ⟩/\Rj K cdv X3=true
 kp:Nx K (.ref f)=true
section
variable {P:LJ}{w:Mp}{K:Le}{mg:Str→Option Lw}{base:OG}
theorem Fun.binds{st:Od}(F:Fun K x X3 st f fd)
  (h:∀kV g b d a c e,e.length=ps.length->Rh (N0 x X3 (bY st) (bm st) (ai st) .none kV g b d a c) ⟨e,[]⟩=pure (ps.zip e)):cm K fd ps []:=by
 obtain⟨i,l,kV,g,b,d,a,c,m,rfl,k,j⟩:=F.ex;exact .all (h kV g b d a c)
theorem kX{st:Od}{e g b a d:Lw}(l:K.lookup f=some ⟨oc,od,.func (N0 x X3 (bY st) (bm st) (ai st) .none e g b an a d),ZQ⟩)
  (c:Rj K a X3=true) (k:Nx K (.ref f)=true):Fun K x X3 st f (N0 x X3 (bY st) (bm st) (ai st) .none e g b an a d):=⟨⟨oc,od,e,g,b,an,a,d,ZQ,rfl,l,c⟩,k⟩
end
theorem aB(h:n<=1000):n<sizeLine:=ME h (by decide)
theorem oF{A B:Prop}(h:B):if false=true then A else B:=by
 rw[if_neg M7];exact h
theorem rT{A B:Prop}(h:A):if true=true then A else B:=by
 rw[if_pos rfl];exact h
def aU(H a:Hp):Prop:=∀b o,H b=some o->a b=some o
theorem aU.refl(H):aU H H:=λ_ _ h=>h
theorem aU.trans(a:aU H H1)(b:aU H1 H2):aU H H2:=λc o h=>b c o (a c o h)
theorem aU.free(e:aU H H')(h:H' l=Xs):H l=Xs:=by
 cases q:H l with
 |none=>rfl
 |some o=>
  rw[e l o q]at h;cases h
theorem aU.seq{K:Le}(e:aU H H')(h:SqL K H a xs):SqL K H' a xs:=by
 rcases h with (h |⟨o,h⟩) |h
 .exact .inl (.inl (e _ _ h))
 .exact .inl (.inr ⟨o,e _ _ h⟩)
 .exact .inr h
def Sz(m:Nat)(x:Int):Prop:=x.natAbs<2 ^ m
theorem Sz.mono(h:Sz m x)(a:m<=n):Sz n x:=Lp h (RN (by decide) a)
theorem Sz.neg(h:Sz m x):Sz m (-x):=by unfold Sz at *;rw[Int.natAbs_neg];exact h
theorem Sz.add(b:Sz m x)(a:Sz m y):Sz (m+1) (x+y):=by
 unfold Sz at *;have:=Int.natAbs_add_le x y;rw[Oy];omega
theorem Sz.sub(b:Sz m x)(a:Sz m y):Sz (m+1) (x-y):=by
 rw[Int.sub_eq_add_neg];exact b.add a.neg
theorem Sz.mul(b:Sz m x)(a:Sz n y):Sz (m+n) (x*y):=by
 unfold Sz at *;rw[Rk,Xt];exact Nat.mul_lt_mul'' b a
theorem Sz.le(h:x.natAbs<=y.natAbs)(a:Sz m y):Sz m x:=ME h a
theorem Sz.ediv(a:Sz m x):Sz m (x/y):=Sz.le (Int.natAbs_ediv_le_natAbs x y) a
theorem Sz.abs(a:Sz m x):Sz m (if x<0 then -x else x):=by split;exact a.neg;exact a
instance (m:Nat) (x:Int):Decidable (Sz m x):=inferInstanceAs (Decidable (x.natAbs<2 ^ m))
theorem Sz.add'(b:Sz m x)(a:Sz n y):Sz (max m n+1) (x+y):=(b.mono (Wh m n)).add (a.mono (Ti m n))
theorem Sz.sub'(b:Sz m x)(a:Sz n y):Sz (max m n+1) (x-y):=(b.mono (Wh m n)).sub (a.mono (Ti m n))
theorem Sz.lit(h:Sz m x):Sz m x:=h
theorem Sz.ok(b:Sz m x)(a:Sz n y)(h:m+n<=134217728):IntMulOk x y:=
 PyProof.Rows.mulOk_of_bits (intBits_le_iff.mpr b) (intBits_le_iff.mpr a) h
theorem Sz.log(h:Sz m x)(a:m<=9000)(b:x≠0):x.natAbs.log2<9000:=by
 have q:=(Wi (by lia)).mpr (show x.natAbs<2 ^ m from h);lia
def Gf(_ j:Int):Prop:=0<j/\Sz 9000 j
def Gw(_ j:Int):Prop:=j≠0/\Sz 9000 j
section
variable {X:Cx}{a b c:Expr}{ta tb tc:TE}{XY:Pos}
theorem DX:OpR X (QB .Mult) (rI IntMulOk λi j=>.int (i*j)):=opI λ_ _ _ _ _ _ _ a q=>mul_int q a
theorem B3:OpR X (QB .FloorDiv) (rI Gf λi j=>.int (i/j)):=opI λi j _ _ _ _ _ a q=>by
 have b:=a.1;exact floordiv_int (by lia) (by rw[Int.fdiv_eq_ediv_of_nonneg i (by lia)];exact q) (.inl (PyProof.noPylong_of_log2 (a.2.log (by decide) (by lia))))
theorem Cv:OpR X (QB .FloorDiv) (rI Gw λi j=>.int (i.fdiv j)):=opI λi j _ _ _ _ _ a q=>
 floordiv_int a.1 q (.inl (PyProof.noPylong_of_log2 (a.2.log (by decide) a.1)))
theorem JU(a:Gl X x)(c:X.mg x=none)(b:NY x=some (.type n))(e:autoParam (x≠"__name__") zR)(d:autoParam ((x==("__debug__":Str))=false) zR):PE X (.Name x XY) (tC (.ty n)):=
 EN a c b rfl e d
theorem xf:cZ X (.type "int") (λa H Q=>∃k,a=[.bl k]∧Q (.int (if k then 1 else 0)) H):=by
 intro c s b H a d Q I r h;obtain⟨k,rfl,q⟩:=h;exact AM c s b H _ d Q I r (.inr ⟨k,rfl,q⟩)
end
theorem kit_int_int(K):Rg K (.type "int") (.type "int")=some true:=rfl
theorem kit_int_bool(K):Rg K (.type "int") (.type "bool")=some false:=rfl
def Its(lo c:Int)(n:Nat):It:=⟨λi _=>i<n,λi H x a=>a=H/\x=.int (lo+(i:Nat) *c),λi _=>n<=i⟩
theorem uh{P:LJ}{w:Mp}{K:Le}{O:Expr}(d:LX)(lo c:Int)(n:Nat):vP P w K O (Its lo c n) [d] d (λi h=>Wd h d (lo+(i:Nat) *c) ((n:Int)-(i:Nat)) c) where
 mem:=by simp
 obj:=λi h a b hb=>by
  have e:b=d:=by simpa using hb
  subst e
  exact⟨_,a,λv z=>by
   have J:Data.fields _=Data.cell v:=z;cases J⟩
 keep:=λi h f a k=>k d (by simp) _ a
 item:=by
  intro X A p y x i F s D H E I g a m;subst A p y;obtain⟨q,u,N,j,r,l⟩:=g d (by simp);have W:=Walks.range (prog:=X.prog) (w:=X.w) (I.ok.hd x) d lo c n;refine W.item i s _ _ m a λv f B Q C L=>?_;obtain⟨t,rfl⟩:=Q;have G:Inv X F D H {s with heap:=f,toks:=B }:=I.turned (λb o hb e=>L b o (by simpa using hb) e) q u j r l;exact⟨_,rfl,vn (s:={s with heap:=f,toks:=B }) (n:="range_iterator") C rfl rfl (by decide) ⟨.int (lo+(i:Nat) *c),H,G,⟨t,rfl⟩,⟨rfl,rfl⟩,C,λb hb=>(g b hb).1⟩⟩
 done:=by
  intro X A p y x i F s D H E I g a m;subst A p y;obtain⟨q,u,N,j,r,l⟩:=g d (by simp);exact Tz (I.ok.hd x) a (by have:n<=i:=m;lia) λf M=>⟨rfl,I.turned (t':=s.toks) (λb o hb e=>M b o hb e) q u j r l⟩
 self:=λ_ _ _ _ _ a h=>TC a h
def iF(i j c:Int):Nat:=if i<j then ((j-i-1)/c+1).toNat else 0
theorem vQ(k:-(2 ^ 60)<=a)(g:a<2 ^ 60)(j:-(2 ^ 60)<=b)(l:b<2 ^ 60)(d:0<c)(e:c<2 ^ 60):Builtin.Range.small a b c=true:=by
 have i:a<b->(b-a-1)/c<=b-a-1:=λh=>Tj _ (by lia);have f:a<b->0<=(b-a-1)/c:=λh=>QT (by lia) (by lia);unfold Builtin.Range.small Builtin.Range.rangeSize;simp only[Builtin.Range.rangeFitsLong,MW,Ub,decide_eq_true_eq,beq_iff_eq,show c >0 from d,if_true];split
 .have:=i (by assumption);have:=f (by assumption);lia
 .lia
section
variable {X:Cx}{tg:Expr}
def Kn(ta:TA):TI:=λa H R=>ta a H λb d=>∃i j c:Int,b=[.int i,.int j,.int c]/\(-(2 ^ 60)<=i/\i<2 ^ 60/\-(2 ^ 60)<=j/\j<2 ^ 60/\0<c/\c<2 ^ 30)/\R (Its i c (iF i j c)) d
theorem AK(C:Gl X "range")(K:X.mg "range"=none)(B:PA X [a,b,c] ta)(hs:autoParam (Lr [a,b,c] X.env=[(false,N4 a X.env),(false,N4 b X.env),(false,N4 c X.env)]) zM)
  (Zc:autoParam (Lr [b,c] X.env=[(false,N4 b X.env),(false,N4 c X.env)]) zM):
  PI X tg (.Call (.Name "range" p) [a,b,c] [] XY) (Kn ta):=by
 intro w s v H R I h;refine Call_ (dD I C K WV (PyProof.Rows.callWith_type1 (thn (B XY w s v H _ I h) λM f ⟨O,y,A,z,u⟩=>?_) (by rw[hs,Zc]) (by rw[Zc];rfl)));obtain⟨i,j,k,e,⟨u,E,G,D,x,N⟩,q⟩:=u;subst e;cases z with
 |cons r g=>
  cases g with
  |cons F g=>
   cases g with
   |cons n g=>
    cases g;obtain⟨t,rfl⟩:=r;obtain⟨t',rfl⟩:=F;obtain⟨d,rfl⟩:=n;refine call_range_3 (by lia) ?_ (.inl (PyProof.noPylong_small (by lia)));refine U6 (IsRange.new ..) (vQ u E G D x (by lia)) ?_;have m:Inv X w v y {f with heap:=f.heap.push {cls:=.type "range",data:=.fields #[.int i t,.int j t',.int k d] },toks:=f.toks }:=A.kept λb o e=>Lj _ e
    refine⟨(f.heap.push {cls:=.type "range",data:=.fields #[.int i t,.int j t',.int k d] }).objs.size,[(f.heap.push {cls:=.type "range",data:=.fields #[.int i t,.int j t',.int k d] }).objs.size],_,_,y,rfl,
     m.kept (t':=f.toks) λb o e=>Lj _ e,uh _ i k (iF i j k),?_,λb hb=>?_,q⟩
    .have L:i+((0:Nat):Int) *k=i:=by simp
     have J:((iF i j k:Nat):Int)-((0:Nat):Int)=Builtin.Range.rangeSize i j k:=by
      unfold iF Builtin.Range.rangeSize;rw[if_pos (show k >0 from x)];by_cases l:i<j
      .rw[if_pos l,if_pos l];have:0<=(j-i-1)/k:=QT (by lia) (by lia);lia
      .rw[if_neg l,if_neg l] <;>lia
     show Wd _ _ (i+((0:Nat):Int) *k) (((iF i j k:Nat):Int)-((0:Nat):Int)) k;rw[L,J];exact LC _ rfl
    .have e:b=(f.heap.push {cls:=.type "range",data:=.fields #[.int i t,.int j t',.int k d] }).objs.size:=by simpa using hb
     subst e;exact m.fpOk (Lk _) (m.hok.fresh (Lk _))
end
theorem bj(h:H p=none)(o):aU H (upd H p o):=λb u q=>by rw[aI (c9 q h)];exact q
theorem aU.put(e:aU H H')(h:H l=none)(o):aU H (upd H' l o):=λb u q=>by rw[aI (c9 q h)];exact e b u q
theorem aU.tup{K:Le}{H b:Hp}{a:LX}{xs:List V}(e:aU H b)(h:SqT K H a xs):SqT K b a xs:=by
 rcases h with (h |⟨o,h⟩) |h
 .exact .inl (.inl (e _ _ h))
 .exact .inl (.inr ⟨o,e _ _ h⟩)
 .exact .inr h
end L2
namespace L2
open PySem PySem.W PySem.Calls PySem.Spec PyProof.Rows
theorem tw{ns:List Int}(h:WData.layableAll [WData.list (ns.map WData.int)]=true):∀n∈ns,Sz 1048576 n:=by
 intro n d;have e:=(PySem.W.layableW_arg h) _ (Lz.mpr rfl);have c:=PySem.W.layableW_item e (WData.int n) (Ln.mpr ⟨n,d,rfl⟩);have b:=(PySem.W.layableW_iff.mp c).2.2;have a:Builtin.Int.intBits n<=1048576:=by simpa only[WData.weight,Builtin.Int.intBits] using b
 exact intBits_le_iff.mp a
theorem rS{l:Wj} 
  (hn:l.most=some n) (hdf:d.params.defaults=[])
  (call:∀w b c p u j o s cd v a e g,
   PySem.W.Ground q loose [] XP w b p u c.heap->YP w c.heap->
   c.heap.get? j=some o->o.data=.func (docDef d.name d.params d.body d.scope s cd v)->c.heap.CodeRec cd d.name->p d.name=some (.ref j)->
   c.heap.get? a=some {cls:=.type "list",data:=.seq e.toArray }→W7 e g→g.length≤n→(∀m∈g,Sz 1048576 m)→c.gens=#[]→
   RE (L6 l.prog w) Vt (.call (.ref j) ⟨[.ref a],[]⟩) (λr k=>r=.ok (.ret (.bool true))/\OldK c.heap k.heap/\k.os=c.os/\SY k.gens) c):
  W9 q loose XP YP l.row.toRowW d [] (λf e=>XO f e):=by
 intro w b c p u G Y j o s cd v C kV D K E y x J z A as P h M t Q;obtain rfl:C=.none:=XG y hdf;obtain rfl:kV=.none:=XH y;obtain⟨a,e,g,rfl,rfl,i,B,H⟩:=Att.script_of hn P t;refine PySem.W.enter_call (QL (call w b c p u j o s cd v a e g G Y D (PySem.W.fd_plain K) E x i B H (tw h) J) λr k N=>?_);obtain⟨rfl,F,O,I⟩:=N;exact⟨.inl ⟨.bool true,.bool true,[],rfl,λ_=>rfl,.bool true,Att.post_true l _,λ_=>⟨Ra,λ_ L=>(nomatch L)⟩⟩,F,O,I⟩
theorem walk_ofB{l:Wj}{K:Params->Le}{sp:Le->Sp} 
  (hn:l.most=some n) (hn2:n<=sizeLine) (hdf:d.params.defaults=[]) (hr:cq k Vt)
  (hY:∀w h,YP w h->(K w.params).In h)
  (F:∀w i r h,(K w.params).In h->h.Ns MY i->i d.name=some (.ref r)->
   ∃z,(∀s u,W4 s z ⟨[u],[]⟩ [(x,u)])/\
    ∀base,(K w.params).In base->base.Ns MY i->cj l.prog w (K w.params) i base CX k r z [x] (sp (K w.params)))
  (Y3:∀K H a (j:List Int),j.length<=n->(∀m∈j,Sz 1048576 m)->EG H->SqL K H a (j.map V.int)->sp K [.ref a] H (λv _=>v=.bl true) λ_ _ _=>False)
  (hCX:∀H s e t,CX [] H s (λ_ _ _=>False) e t->False):
  W9 q loose XP YP l.row.toRowW d [] (λf C=>XO f C):=by
 refine rS hn hdf λw A N i R r o O cd U a C j G Y P S Q y p E B c J=>?_;have D:=hY w _ Y;obtain⟨z,hb,M⟩:=F w i r _ D G.T.g y;exact B0 D G.T.g G.T.b G.T.builtins G.T.nolimit J p E (LN B hn2) hr M hb (λH I L=>Y3 _ H a j B c I L) λH e t=>hCX H N e t
end L2
namespace L2
theorem bP{α:Type}{xs:List α}{i:Nat}{v:α}(e:k=(i:Int))(h:xs[i]?=some v):atI xs k=some v:=by subst e;exact xU h
theorem Sz.natle(a:Sz m y)(h:x.natAbs<=y.natAbs):Sz m x:=Sz.le h a
end L2
namespace L2
open PySem PySem.Spec PyProof.Rows
abbrev br(X:Cx)(b:VS)(a:List (Str×LX))(C:LX)(s:LB)(H:Hp)(c:List LX):Cx:=
 {X with s₀:=s,H₀:=H,env:=compEnvC b a C X.env,outer:=X.stack,ex:=c,fn:=λ_=>false,pn:=[],xe:=λ_ _=>False }
def mask:List Nat->St->St
 |[],σ=>σ
 |i::is,σ=>mask is (σ.set i none)
theorem iV:∀is a,(mask is a).length=a.length
 |[],_=>rfl
 |i::is,a=>by rw[mask,iV is];simp
theorem o6:∀is σ j v,(mask is σ)[j]?=some (some v)->σ[j]?=some (some v)/\j ∉ is
 |[],σ,j,v,h=>⟨h,by simp⟩
 |i::is,σ,j,v,h=>by
  obtain⟨a,b⟩:=o6 is _ j v h;by_cases e:i=j
  .subst e;rw[SJ]at a;simp at a
  .rw[L0 e]at a;exact⟨a,by simp[Ne.symm e,b]⟩
structure dJ(X:Cx)(XX:VS)(cl:List (Str×LX))(is:List Nat):Prop where
 clos:WZ XX X.env=pure cl
 cell:∀y∈XX.names,y.2≠.cell
 kind:XX.kind=.function
 names:∀y∈XX.names,y.2=.local->XX.names.lookup y.1=some .local
 cls:∀x c,cl.lookup x=some c->X.env.cells.lookup x=some c
 free:∀x,((relabel XX X.env).names.lookup x=some .cell\/(relabel XX X.env).names.lookup x=some .free)->Vis X.env.scope x/\X.env.scope.names.lookup x≠some .local/\∃c,cl.lookup x=some c
 own:∀i x,X.N[i]?=some x->(relabel XX X.env).names.lookup x=some .local->i∈is
section
variable {X:Cx}{XW:List (LX×Obj)}{σ:St}{H:Hp}{s:LB}
theorem vh(I:Inv X XW σ H s)(B:dJ X XX cl is)(d:∀b∈fp,mw X XW H b)(g:∀b∈fp,b<s.heap.objs.size)
  (hn:h₁.Ns s.heap.objs.size m) (hk:∀b o,s.heap.get? b=some o->h₁.get? b=some o):
  Inv (br X XX cl s.heap.objs.size s H fp) [] (mask is σ) H {s with heap:=h₁,toks:=t' }:=by
 refine⟨⟨I.ok.mod,B.kind,I.ok.glob,I.ok.blt,Lk _,λx y c a n=>I.ok.inj x y c (B.cls x c a) (B.cls y c n),λx L=>(B.free x L).2.2,λx c h=>(by cases h),I.ok.hd,I.ok.frames,.inl rfl,λb hb=>⟨L3 (g b hb),λx c e=>(d b hb).2.2.2.2.1 x c (B.cls x c e)⟩,
  I.bs,LN I.ok.bsz I.sz,λb o e hb=>?_,λb hb z=>?_,I.stack,I.stkFree⟩,rfl,I.bare,Un.kept hk,⟨m,hn,λi x v a n G=>?_⟩,λx c e=>?_,I.hok.fresh (Lk _),λx c e=>I.freeC x c (B.cls x c e),λp F=>absurd (show p∈([]:List (LX×Obj)) from F) (by simp),I.hok.kept hk,?_⟩
 .rcases (d b hb).2.2.2.1 with z |z
  .exact I.ok.noex b o e z
  .exact absurd (Lp (Lx e) (LN I.ok.bsz z)) (Mh _)
 .rcases Ll.mp (I.stkSub b z) with e |e
  .exact (d b hb).2.1 e
  .exact (d b hb).2.2.1 e
 .obtain⟨D,K⟩:=o6 is σ i v n;have w:=G;rcases w with z |z
  .exact absurd (B.own i x a z) K
  .obtain⟨J,j,c,A⟩:=B.free x z;obtain⟨M,_,E⟩:=I.loc;obtain⟨u,r,l⟩:=E i x v a D J;refine⟨u,r,.inr ⟨z,c,A,?_⟩⟩;rcases l with ⟨k,_⟩ |⟨_,O,f,o,q,t⟩
   .exact absurd k j
   .have C:=B.cls x c A;rw[f]at C;cases C;exact⟨o,hk _ _ q,t⟩
 .obtain⟨v,o,q,t⟩:=I.cell x c (B.cls x c e);exact⟨v,o,hk _ _ q,t⟩
 .show (mask is σ).length=X.N.length;rw[iV];exact I.len
end
section
variable {prog:LJ}{w:Mp}{A:ML}{E:Lw→LB→Prop}
theorem qD(e:t≠it):∀n i s Q,s.heap.IsListIter it t i->s.heap.IsList t items->i+n<=items.size->
  (∀h',h'.IsListIter it t (i+n)->O8 it s.heap h'->Q ((items.toList.drop i).take n) {s with heap:=h' })->Me (L6 prog w) A (draw (.ref it) n) Q E s
 |0,i,s,Q,c,_,_,d=>by
  exact Lm (by simpa using d s.heap c (SK ..))
 |n+1,i,s,Q,c,h,m,d=>by
  have Ye:i<items.size:=by lia
  refine Lh (Tx c h (x:=items[i]) (by simp[Ye]) λf l g=>?_);refine Lh (Na (qD e n (i+1) _ _ l (h.extBut g.extBut e) (by lia) λk a b=>Lm ?_));have j:items.toList.drop i=items[i]::items.toList.drop (i+1):=by simp[L8,Ye]
  have:=d k (by rw[show i+(n+1)=i+1+n by lia];exact a) (g.trans b);rw[j,NJ]at this;exact this
theorem lw(k:A.handled=none)(d:s.heap.IsList t items)
  (hQ:∀f,Xu s.heap.objs.size s.heap f->Q items.toList {s with heap:=f }):Me (L6 prog w) A (unpackItems (.ref t) items.size none) Q E s:=by
 have g:t≠s.heap.objs.size:=by obtain⟨o,l,_⟩:=d;exact L3 (Lx l)
 refine Lh ?_
 .unfold notIterableAtAll;refine Lh (OM d.typeIs PySem.slot_list_iter.lookup ?_);refine Lm ?_;simp only[LM,if_false];refine Lh (Na (N5 d ?_));refine Lh (Na (qD g items.size 0 _ _ ⟨_,LC _ rfl,rfl,rfl⟩ (d.push _) (by lia) λi m h=>?_))
  have j:List.take items.size (List.drop 0 items.toList)=items.toList:=by
   rw[Sw];exact Mf (by simp)
  rw[j];rw[if_neg (by simp)];have c:=(d.push _).extBut h.extBut g;refine Lh (Na (T6 k m c (by simp) λn a=>?_));simp only[Option.isSome_none,LM,if_false];refine Lm (hQ n λb o hb e=>a b o hb (h.extBut b o hb (Lj _ e)))
variable {X:Cx}{XY:Pos}
def Ks(K:Le)(n:Nat)(t:TGs):TG:=λv c H Q=>∃a b,v=.ref a/\SqL K H a b/\b.length=n/\t b c H Q
theorem Hi(q:X.calm=true)(h:PGs X es t)
  (hn:autoParam ((P9 es X.env).length=n) zM) (YH:autoParam ((P9 es X.env).findIdx? (·.1)=none) zM):PG X (.Tuple es k XY) (Ks X.K n t):=by
 intro m s g H v u Q I r c;obtain⟨a,j,p,w,l,c⟩:=c;subst p;cases r;obtain⟨its,d,x,z⟩:=I.list w;rw[assign_Tuple];refine Lh (S6 ?_);unfold unpack;rw[YH,hn,<-l,d.length,<-LV];refine Lh (Na (lw (I.ok.hd q) x.isList λy i=>?_));have f:=I.kept (t':=s.toks) λb o e=>i b o (L3 (Lx e)) e;exact h m _ g H j _ Q f (by simpa using d) c
end
def goC(a:List (Str×LX)):List (Str×UB)->List (Str×LX)->List (Str×LX)
 |[],Yw=>Yw
 | (n,k)::r,Yw=>goC a r (if (k==.free)=true then (n,(a.lookup n).getD 0)::Yw else Yw)
theorem wk(h:∀y∈XX.names,y.2=.free->(env.cells.lookup y.1).isSome=true):WZ XX env=pure (goC env.cells XX.names []):=by
 have all:∀a d,(∀y∈a,y.2=.free->(env.cells.lookup y.1).isSome=true)->
   (forIn a d (λx l=>match x with | (name,b)=>if (b==.free)=true then (do let c <-cellOf env name;pure (ForInStep.yield ((name,c)::l))) else pure (ForInStep.yield l)):Sem (List (Str×LX)))=pure (goC env.cells a d):=by
  intro a
  induction a with
  |nil=>intro d _;rfl
  |cons y r g=>
   intro d hy;obtain⟨n,k⟩:=y;rw[R6];by_cases j:k=.free
   .subst j;have:=hy (n,.free) Lo rfl;obtain⟨c,i⟩:=QM.mp this;have e:cellOf env n=pure c:=by unfold cellOf;rw[i]
    simp only[beq_self_eq_true,if_true,e,pure_bind];rw[g _ λy f=>hy y (Li _ f)];simp only[goC,beq_self_eq_true,if_true,i,QC]
   .have hb:(k==NameKind.free)=false:=by simpa using j
    simp only[hb,LM,if_false,pure_bind];rw[g _ λy f=>hy y (Li _ f)];simp only[goC,hb,LM,if_false]
 simp only[WZ];have:=all XX.names [] h;simpa using this
theorem E8:∀a f,(∀y∈a,y.2=.free->(YY.lookup y.1).isSome=true)->(∀x c,f.lookup x=some c->YY.lookup x=some c)->
  ∀x c,(goC YY a f).lookup x=some c->YY.lookup x=some c:=by
 intro o
 induction o with
 |nil=>
  intro _ _ ha x c h;exact ha x c h
 |cons p r l=>
  obtain⟨n,k⟩:=p;intro f hy ha x c h;rw[goC]at h;refine l _ (λy m=>hy y (Li _ m)) (λb j e=>?_) x c h
  by_cases i:k=.free
  .subst i;simp only[beq_self_eq_true,if_true]at e;rw[P7]at e;by_cases g:(b==n)=true
   .rw[g]at e;have q:b=n:=by simpa using g
    obtain⟨s,d⟩:=QM.mp (hy (n,.free) Lo rfl);simp only[d,QC]at e;rw[q,d];exact e
   .have:(b==n)=false:=by simpa using g
    rw[this]at e;exact ha b j e
  .have hb:(k==NameKind.free)=false:=by simpa using i
   rw[hb]at e;exact ha b j e
theorem Es:∀a b,((x,NameKind.free)∈a\/∃c,b.lookup x=some c)->∃c,(goC YY a b).lookup x=some c:=by
 intro f
 induction f with
 |nil=>
  intro _ h;rcases h with h |h
  .cases h
  .exact h
 |cons i r g=>
  obtain⟨n,k⟩:=i;intro b h;rw[goC];refine g _ ?_;rcases h with h |⟨c,h⟩
  .rcases Ll.mp h with e |h
   .cases e
    right
    simp
   .exact .inl h
  .right
   by_cases d:k=.free
   .subst d;simp only[beq_self_eq_true,if_true];rw[P7];cases hx:x==n with
    |true=>exact⟨_,rfl⟩
    |false=>exact⟨c,h⟩
   .have hb:(k==NameKind.free)=false:=by simpa using d
    rw[hb];exact⟨c,h⟩
theorem eV{b:Env}{x:Str}{d:UB}:∀{a:List (Str×UB)},
  (a.map λ(n,k)=>if (k==NameKind.free && b.scope.kind==.function && b.kindOf n==some .cell) then (n,NameKind.cell) else (n,k)).lookup x=some d->a.lookup x=some d\/(d=.cell/\a.lookup x=some .free):=by
 intro f
 induction f with
 |nil=>
  intro h;simp at h
 |cons i r c=>
  obtain⟨n,k⟩:=i;intro h;have c:=@c
  change QI x ((if (k==NameKind.free && b.scope.kind==.function && b.kindOf n==some .cell)=true then (n,NameKind.cell) else (n,k))::_)=_ at h
  by_cases e:(k==NameKind.free && b.scope.kind==.function && b.kindOf n==some .cell)=true
  .rw[if_pos e]at h;rw[P7]at h |-;cases hx:x==n with
   |true=>
    rw[hx]at h
    have j:k=.free:=by
     have:=(RO.mp (RO.mp e).1).1;simpa using this
    subst j;have g:=h;cases g;exact .inr ⟨rfl,rfl⟩
   |false=>rw[hx]at h;exact c h
  .rw[if_neg e]at h;rw[P7]at h |-;cases hx:x==n with
   |true=>rw[hx]at h;exact .inl h
   |false=>rw[hx]at h;exact c h
def CY(a b:VS)(N:List Str)(is:List Nat):Bool:=
 a.names.all (λy=>y.2 !=.cell) && a.names.all (λy=>y.2 !=.local ||a.names.lookup y.1==some .local) && a.names.all (λy=>y.2 !=.free ||b.names.lookup y.1==some .cell) &&
  (MK N.length).all λi=>match N[i]? with |some x=>a.names.lookup x !=some .local ||is.contains i |none=>true
theorem blk(YK)(N)(is)(b:X.N=N)(hs:X.env.scope=YK)(d:X.env.cells=Wf (X.env.locals+1) YK.names [])(s:XX.kind=.function)(h:CY XX YK N is=true):dJ X XX (goC X.env.cells XX.names []) is:=by
 subst b;unfold CY at h;simp only[MW,O5]at h;obtain⟨⟨⟨o,n⟩,t⟩,p⟩:=h
 have g:∀y∈XX.names,y.2=.free->YK.names.lookup y.1=some .cell:=λy hy e=>by
  have:=t y hy;simp only[Ub,bne_iff_ne,ne_eq,beq_iff_eq]at this;exact this.resolve_left λz=>z e
 have j:∀y∈XX.names,y.2=.free->(X.env.cells.lookup y.1).isSome=true:=λy hy e=>by
  rw[d];exact Q2 _ _ _ (.inl (g y hy e))
 have f:∀y∈XX.names,y.2≠.cell:=λy hy=>by have:=o y hy;simpa using this
 refine⟨wk j,f,s,λy hy e=>?_,E8 _ _ j (λx c e=>by simp at e),λx a=>?_,λi x k q=>?_⟩
 .have:=n y hy;simp only[Ub,bne_iff_ne,ne_eq,beq_iff_eq]at this;exact this.resolve_left λz=>z e
 .have m:(x,NameKind.free)∈XX.names:=by
   rcases a with a |a
   .rcases eV a with z |⟨_,z⟩
    .exact absurd rfl (f _ (NI z))
    .exact NI z
   .rcases eV a with z |⟨z,_⟩
    .exact NI z
    .cases z
  have l:=g _ m rfl;refine⟨.inr (.inl (by rw[hs];exact l)),(by rw[hs,show YK.names.lookup x=some .cell from l];intro z;cases z),Es _ _ (.inl m)⟩
 .have r:=(Ls.mp k).1;have:=p i (Mc.mpr r);rw[k]at this
  have u:XX.names.lookup x=some .local:=by
   rcases eV q with z |⟨z,_⟩
   .exact z
   .cases z
  simp only[u,bne_self_eq_false,W_,List.contains_iff_mem]at this;exact this
end L2
namespace L2
open PySem PySem.Spec PySem.W PyProof.Rows
def CXF(P:LJ)(w:Mp):CXT:=λa H s E e f=>∃(g:LX) (d h:Lw) (B:OG) (c:Hp),e=.ref g/\f.os=s.os/\SY f.gens/\Un (frs a) [] H c s.heap f.heap/\HOk P w c f.heap/\c g=none/\
 (∀b o,s.heap.get? b=some o->b ∉ frs a->H b=none->B.get? b=some o)/\(∀b u,c b=some u->∃o,B.get? b=some o)/\(∀b o,s.heap.get? b=some o->b ∉ frs a->∃i,B.get? b=some i)/\
 Heap.FlyingW B a g d h f.heap/\E d none c
theorem fq:di (CXF P w) X E0:=λ_ _ _ _ _ _ _ h=>by
 obtain⟨_,_,_,_,_,_,_,_,_,_,_,_,_,_,_,a⟩:=h;exact a.elim
theorem Fun.okF{K:Frag}{st:Od}(F:Fun K x X3 st f fd)(S:av N ps (ai st))(d:∀c H Q E,sp c H Q E->c.length=ps.length)
  (YF:∀b A a s H c Q E,cq k (A.deeper (SH X3 (ai st) s.heap.objs.size f b))->sp c H Q E->
   ∃t,PSs (nO (CXF P w) P w K mg base N X3 (ai st) f b A a s H E) (bm st) t/\t {nx:=λ_ i=>Q .non i,rt:=Q } (start N c) H):cj P w K mg base (CXF P w) (k+1) f fd ps sp:=by
 obtain⟨n,r,kV,p,l,o,b,m,q,rfl,j,e⟩:=F.ex;exact GB j e S d λA a s H c Q E h g=>YF b A a s H c Q E h g
end L2
namespace L2
open PySem PySem.Spec PyProof.Rows
theorem pM:(MK n).all e=true↔∀j,j<n->e j=true:=by
 rw[O5];exact⟨λh j a=>h j (Mc.mpr a),λh j a=>h j (Mc.mp a)⟩
end L2
namespace PySem.W
open PySem PySem.Spec PySem.Calls PyProof.Rows PySem.Builtin PySem.Builtin.ObjectAttr PySem.Builtin.Getset_descriptor
section
variable {prog:LJ}{w:Mp}{A:ML}{E:Lw→LB→Prop}{s:LB}{K:Frag}{x C:LX}
def OfCls(x C:LX)(h:OG):Prop:=∃o,h.get? x=some o/\o.cls=.ref C
variable (hga:findIn K (.ref C) "__getattribute__"=some (some (.builtin "BaseException.__getattribute__"))) (hgn:findIn K (.ref C) "__getattr__"=some none) (ha:findIn K (.ref C) "__class__"=some (some (.builtin "object.__class__")))
 (hn:specialIn K (.builtin "object.__class__") "__get__"=some (some (.builtin "getset_descriptor.__get__"))) (ZP:takesIn K (.builtin "object.__class__")=some true) (hm:mroIn K C (.type "object")=some true) (hmB:mroIn K C (.type "BaseException")=some true)
include ha hn ZP hm in
end
structure XcOk(K:Frag)(C:LX):Prop where
 ga:findIn K (.ref C) "__getattribute__"=some (some (.builtin "BaseException.__getattribute__"))
 gn:findIn K (.ref C) "__getattr__"=some none
 at_:findIn K (.ref C) "__class__"=some (some (.builtin "object.__class__"))
 sp:specialIn K (.builtin "object.__class__") "__get__"=some (some (.builtin "getset_descriptor.__get__"))
 tk:takesIn K (.builtin "object.__class__")=some true
 mo:mroIn K C (.type "object")=some true
 mb:mroIn K C (.type "BaseException")=some true
end PySem.W
namespace L2
open PySem PySem.Spec PyProof.Rows
inductive TyX where
 |nm (n:String) |xc (C:LX)
inductive U where
 |non |bl (b:Bool) |int (i:Int) |str (x:Str) |ty (n:TyX) |dic |scr (xs:List U) |tup (xs:List U) |lst (xs:List U)
def U.items:U->Option (List U)
 | .scr xs=>some xs
 | .tup xs=>some xs
 | .lst xs=>some xs
 |_=>none
def hid(H:Hp)(O:List LX):Hp:=λb=>if b∈O then none else H b
theorem gU(h:hid H O b=some o):H b=some o/\b ∉ O:=by
 unfold hid at h;split at h
 .cases h
 .exact⟨h,by assumption⟩
theorem cW(h:H b=some o)(n:b ∉ O):hid H O b=some o:=by
 unfold hid;rw[if_neg n];exact h
theorem aH:aU (hid H O) H:=λ_ _ h=>(gU h).1
theorem aP(e:aU H H'):aU (hid H O) (hid H' O):=λ_ _ h=>cW (e _ _ (gU h).1) (gU h).2
theorem a9(e:∀a∈O',a∈O):aU (hid H O) (hid H O'):=λ_ _ h=>cW (gU h).1 λz=>(gU h).2 (e _ z)
theorem bH(e:aU H H')(n:H a=none):aU (hid H O) (hid H' (a::O)):=λb o h=>by
 obtain⟨c,d⟩:=gU h;refine cW (e _ _ c) λz=>?_;rcases Ll.mp z with y |y
 .subst y;rw[n]at c;cases c
 .exact d y
theorem mF(h:a∈O):hid (upd H a o) O=hid H O:=by
 funext b
 unfold hid;split
 .rfl
 .rename_i n
  rw[aI λe=>n (by rw[e];exact h)]
inductive Rp (K:Le) (H:Hp):V->U->Prop where
 |non:Rp K H .non .non
 |bl (b:Bool):Rp K H (.bl b) (.bl b)
 |int (i:Int):Rp K H (.int i) (.int i)
 |str (x:Str):Rp K H (.str x) (.str x)
 |ty (n:String):Rp K H (.ty n) (.ty (.nm n))
 |dic {a:LX}{XZ:List (Key×V)} (h:H a=some (.dK XZ)):Rp K H (.ref a) .dic
 |xc {a C:LX} (h:H a=some (.ext (PySem.W.OfCls a C))) (k:PySem.W.XcOk K C):Rp K H (.ref a) (.ty (.xc C))
 |scr {a:LX}{vs:List V}{xs:List U} (h:SqL K H a vs) (hl:vs.length=xs.length) (hi:∀(i:Nat) (v:V) (x:U),vs[i]?=some v->xs[i]?=some x->Rp K H v x):Rp K H (.ref a) (.scr xs)
 |tup {a:LX}{vs:List V}{xs:List U} (h:SqT K H a vs) (hl:vs.length=xs.length) (hi:∀(i:Nat) (v:V) (x:U),vs[i]?=some v->xs[i]?=some x->Rp K H v x):Rp K H (.ref a) (.tup xs)
 |lst {a:LX}{vs:List V}{xs:List U} (h:H a=some (.lst vs)) (hl:vs.length=xs.length) (hi:∀(i:Nat) (v:V) (x:U),vs[i]?=some v->xs[i]?=some x->Rp K H v x):Rp K H (.ref a) (.lst xs)
theorem Rp.same{K:Le}(e:aU H H')(h:Rp K H v u):Rp K H' v u:=by
 induction h with
 |non=>exact .non
 |bl b=>exact .bl b
 |int i=>exact .int i
 |str x=>exact .str x
 |ty n=>exact .ty n
 |dic h=>exact .dic (e _ _ h)
 |xc h k=>exact .xc (e _ _ h) k
 |scr h a d c=>exact .scr (e.seq h) a c
 |tup h a d c=>exact .tup (e.tup h) a c
 |lst h a d c=>exact .lst (e _ _ h) a c
structure Rps(K:Le)(H:Hp)(vs:List V)(xs:List U):Prop where
 len:vs.length=xs.length
 at_:∀(i:Nat) (v:V) (x:U),vs[i]?=some v->xs[i]?=some x->Rp K H v x
theorem Rps.same{K:Le}(e:aU H H')(h:Rps K H vs xs):Rps K H' vs xs:=⟨h.len,λi v x a b=>(h.at_ i v x a b).same e⟩
theorem Rps.nil{K:Le}:Rps K H [] []:=⟨rfl,λi v x h=>by simp at h⟩
theorem Rps.cons{K:Le}{H:Hp}{v:V}{x:U}{vs:List V}{xs:List U}(h:Rp K H v x)(t:Rps K H vs xs):Rps K H (v::vs) (x::xs):=by
 refine⟨by simp[t.len],λi a b d c=>?_⟩
 induction i with
 |zero=>simp at d c;subst d;subst c;exact h
 |succ i=>exact t.at_ i a b (by simpa using d) (by simpa using c)
theorem Rps.snoc{K:Le}(h:Rps K H vs xs)(t:Rps K H ws ys):Rps K H (vs++ws) (xs++ys):=by
 refine⟨by simp[h.len,t.len],λi a b d c=>?_⟩;by_cases e:i<vs.length
 .rw[LO e]at d;rw[LO (by rw[<-h.len];exact e)]at c
  exact h.at_ i a b d c
 .have f:=N1 e;rw[LS f]at d;rw[LS (by rw[<-h.len];exact f),<-h.len]at c
  exact t.at_ _ a b d c
theorem Rps.get{K:Le}{i:Nat}(h:Rps K H vs xs)(e:xs[i]?=some x):∃v,vs[i]?=some v/\Rp K H v x:=by
 have a:i<vs.length:=by rw[h.len];exact (Ls.mp e).1
 exact⟨vs[i],Ld a,h.at_ i _ x (Ld a) e⟩
theorem Rps.atI{K:Le}(h:Rps K H vs xs)(e:L2.atI xs i=some x):∃v,L2.atI vs i=some v/\Rp K H v x:=by
 unfold L2.atI at e |-;rw[h.len];cases q:ixN xs.length i with
 |none=>rw[q]at e;cases e
 |some j=>
  rw[q]at e;obtain⟨v,b,a⟩:=h.get e;exact⟨v,b,a⟩
theorem Rps.cons_inv{K:Le}(h:Rps K H vs (x::xs)):∃v c,vs=v::c/\Rp K H v x/\Rps K H c xs:=by
 induction vs with
 |nil=>have:=h.len;simp at this
 |cons v c=>
  refine⟨v,c,rfl,h.at_ 0 v x rfl rfl,by have:=h.len;simpa using this,λi a b e d=>h.at_ (i+1) a b (by simpa using e) (by simpa using d)⟩
theorem Rps.nil_inv{K:Le}(h:Rps K H vs []):vs=[]:=Np.mp (by rw[h.len];rfl)
structure DkR(K:Le)(H:Hp)(kv:List (Key×V))(XZ:List (Str×U)):Prop where
 len:kv.length=XZ.length
 at_:∀(i:Nat) (k:Key) (v:V) (x:Str) (u:U),kv[i]?=some (k,v)->XZ[i]?=some (x,u)->k=.inr x/\Rp K H v u
theorem DkR.same{K:Le}(e:aU H H')(h:DkR K H kv XZ):DkR K H' kv XZ:=⟨h.len,λi k v x u a b=>⟨(h.at_ i k v x u a b).1,(h.at_ i k v x u a b).2.same e⟩⟩
inductive Sl where
 |val (u:U) |own (xs:List U) |pin (w:V) (u:U) |dsk (w:Bool) (C a d:LX) (XZ:List (Str×U))
abbrev PSt:=List (Option Sl)
def FP(K:Le)(H:Hp)(O b:List LX)(v:V):Sl->Prop
 | .val u=>Rp K (hid H O) v u
 | .own xs=>∃a c,v=.ref a/\a∈O/\a ∉ b/\H a=some (.lst c)/\Rps K (hid H O) c xs
 | .pin w u=>v=w/\Rp K (hid H O) v u
 | .dsk w C a d f=>∃g e,v=.ref a∧d∈O∧(w=true→d ∉ b)∧H a=some (.ins C g [("lands",.ref d)])∧H d=some (.dK e)∧DkR K (hid H O) e f
structure Rs(K:Le)(H0:Hp)(O0:List LX)(ps:PSt)(σ:St)(H:Hp)(O:List LX):Prop where
 same:aU H0 H
 old:∀a∈O0,a∈O
 new:∀a∈O,a∈O0\/H0 a=none
 dom:∀a∈O,H a≠none
 len:σ.length=ps.length
 at_:∀(i:Nat) (s:Sl),ps[i]?=some (some s)->∃v,σ[i]?=some (some v)/\FP K H O O0 v s
 inj:∀(i j:Nat) (xs ys:List U) (a:LX),ps[i]?=some (some (.own xs))->ps[j]?=some (some (.own ys))->σ[i]?=some (some (.ref a))->σ[j]?=some (some (.ref a))->i=j
section
variable {K:Le}{H0 H H':Hp}{O0 O:List LX}{ps:PSt}{σ:St}
theorem FP.same(e:aU H H')(h:FP K H O O0 v s):FP K H' O O0 v s:=by
 induction s with
 |val u=>exact Rp.same (aP e) h
 |own o=>obtain⟨a,j,i,f,c,b,g⟩:=h;exact⟨a,j,i,f,c,e _ _ b,g.same (aP e)⟩
 |pin w u=>exact⟨h.1,Rp.same (aP e) h.2⟩
 |dsk w C a d n=>obtain⟨l,m,i,f,c,b,g,k⟩:=h;exact⟨l,m,i,f,c,e _ _ b,e _ _ g,k.same (aP e)⟩
theorem Rs.go(R:Rs K H0 O0 ps σ H O)(e:aU H H'):Rs K H0 O0 ps σ H' O:=
 ⟨R.same.trans e,R.old,R.new,λa ha z=>R.dom a ha (e.free z),R.len,λi s h=>let ⟨v,h1,h2⟩:=R.at_ i s h;⟨v,h1,h2.same e⟩,R.inj⟩
theorem b9{α:Type}{xs:List α}{y x:α}(h:(xs.set i y)[j]?=some x):(i=j/\x=y)\/(i≠j/\xs[j]?=some x):=by
 by_cases e:i=j
 .subst e;rw[SJ]at h;simp at h;exact .inl ⟨rfl,h.2.symm⟩
 .rw[L0 e]at h;exact .inr ⟨e,h⟩
theorem iS{α:Type}{xs:List α}{y:α}(h:i<xs.length):(xs.set i y)[i]?=some y:=by rw[SJ];simp[h]
theorem aL{α:Type}{xs:List α}{y:α}(h:xs[i]?=some y):i<xs.length:=(Ls.mp h).1
theorem nG(h:(ps.set i (some (.val u)))[j]?=some (some (.own xs))):i≠j/\ps[j]?=some (some (.own xs)):=by
 rcases b9 h with ⟨_,e⟩ |h
 .cases e
 .exact h
theorem Rs.set(R:Rs K H0 O0 ps σ H O)(r:Rp K (hid H O) v u):Rs K H0 O0 (ps.set i (some (.val u))) (σ.set i (some v)) H O:=by
 refine⟨R.same,R.old,R.new,R.dom,by simp[R.len],λj s h=>?_,λj k o x a c b g d=>?_⟩
 .rcases b9 h with ⟨e,q⟩ |⟨n,q⟩
  .subst e;cases q;have f:=aL h;rw[Qd]at f;exact⟨v,iS (by rw[R.len];exact f),r⟩
  .obtain⟨w,c,b⟩:=R.at_ j s q;exact⟨w,by rw[L0 n];exact c,b⟩
 .obtain⟨l,t⟩:=nG c;obtain⟨p,m⟩:=nG b;rw[L0 l]at g;rw[L0 p]at d;exact R.inj j k o x a t m g d
theorem Rs.drop(R:Rs K H0 O0 ps σ H O):Rs K H0 O0 (ps.set i none) (σ.set i o) H O:=by
 have b:∀{j}{s},(ps.set i none)[j]?=some (some s)->i≠j/\ps[j]?=some (some s):=λ{j s} h=>by
  rcases b9 h with ⟨_,e⟩ |h
  .cases e
  .exact h
 refine⟨R.same,R.old,R.new,R.dom,by simp[R.len],λj s h=>?_,λj k p u a d c g f=>?_⟩
 .obtain⟨n,q⟩:=b h;obtain⟨w,d,c⟩:=R.at_ j s q;exact⟨w,by rw[L0 n];exact d,c⟩
 .obtain⟨l,t⟩:=b d;obtain⟨r,m⟩:=b c;rw[L0 l]at g;rw[L0 r]at f;exact R.inj j k p u a t m g f
theorem Rs.own(R:Rs K H0 O0 ps σ H O)(e:aU H H')(n:H a=none)(h:H' a=some (.lst vs))(r:Rps K (hid H' (a::O)) vs xs):
  Rs K H0 O0 (ps.set i (some (.own xs))) (σ.set i (some (.ref a))) H' (a::O):=by
 have S:a ∉ O:=λz=>R.dom a z n;have D:a ∉ O0:=λz=>S (R.old a z);have X:=R.same.free n
 have c:∀(j:Nat) (o:List U),ps[j]?=some (some (.own o))->σ[j]?≠some (some (.ref a)):=λj o p g=>by
  obtain⟨v,f,b,N,l,W,_⟩:=R.at_ j _ p;rw[g]at f;cases f;cases l;exact S W
 refine⟨R.same.trans e,λb hb=>Li _ (R.old b hb),λb hb=>?_,λb hb z=>?_,by simp[R.len],λj s q=>?_,λj k o L b p g f l=>?_⟩
 .rcases Ll.mp hb with y |y
  .subst y;exact .inr X
  .exact R.new b y
 .rcases Ll.mp hb with y |y
  .subst y;rw[h]at z;cases z
  .exact R.dom b y (e.free z)
 .rcases b9 q with ⟨Y,x⟩ |⟨V,x⟩
  .subst Y;cases x;have m:=aL q;rw[Qd]at m;exact⟨.ref a,iS (by rw[R.len];exact m),a,vs,rfl,Lo,D,h,r⟩
  .obtain⟨w,p,g⟩:=R.at_ j s x;refine⟨w,by rw[L0 V];exact p,?_⟩
   induction s with
   |val u=>exact Rp.same (bH e n) g
   |own o=>
    obtain⟨b,N,t,G,E,F,A⟩:=g;exact⟨b,N,t,Li _ G,E,e _ _ F,A.same (bH e n)⟩
   |pin z u=>exact⟨g.1,Rp.same (bH e n) g.2⟩
   |dsk w C b d XZ=>obtain⟨T,Z,t,G,E,F,A,k6⟩:=g;exact⟨T,Z,t,Li _ G,E,e _ _ F,e _ _ A,k6.same (bH e n)⟩
 .rcases b9 p with ⟨P,I⟩ |⟨J,I⟩ <;>rcases b9 g with ⟨M,B⟩ |⟨Q,B⟩
  .rw[<-P,<-M]
  .subst P;have m:=aL f;rw[Qd]at m;rw[iS m]at f;cases f;rw[L0 Q]at l;exact absurd l (c k L B)
  .subst M;have m:=aL l;rw[Qd]at m;rw[iS m]at l;cases l;rw[L0 J]at f;exact absurd f (c j o I)
  .rw[L0 J]at f;rw[L0 Q]at l;exact R.inj j k o L b I B f l
theorem Rs.write(R:Rs K H0 O0 ps σ H O)(n:ps[i]?=some (some (.own xs)))(hs:σ[i]?=some (some (.ref a)))(r:Rps K (hid H O) vs ys):
  Rs K H0 O0 (ps.set i (some (.own ys))) σ (upd H a (.lst vs)) O:=by
 obtain⟨v,D,b,Y,J,y,E,I,X⟩:=R.at_ i _ n;rw[hs]at D;cases D;cases J;have Q:=(R.new a y).resolve_left E;have f:hid (upd H a (.lst vs)) O=hid H O:=mF y;refine⟨R.same.put Q _,R.old,R.new,λb hb z=>?_,by simp[R.len],λj s q=>?_,λj k F G b W L S M=>?_⟩
 .by_cases e:b=a
  .subst e;rw[aK]at z;cases z
  .rw[aI e]at z;exact R.dom b hb z
 .rcases b9 q with ⟨U,m⟩ |⟨P,m⟩
  .subst U;cases m;exact⟨.ref a,hs,a,vs,rfl,y,E,aK,by rw[f];exact r⟩
  .obtain⟨w,B,l⟩:=R.at_ j s m;refine⟨w,B,?_⟩
   induction s with
   |val u=>exact (show Rp K (hid (upd H a (.lst vs)) O) w u by rw[f];exact l)
   |own F=>
    obtain⟨b,G,p,o,t,g,h⟩:=l;subst p;have:b≠a:=λz=>by subst z;exact P (R.inj i j xs F b n m hs B)
    exact⟨b,G,rfl,o,t,by rw[aI this];exact g,by rw[f];exact h⟩
   |pin z u=>exact⟨l.1,by rw[f];exact l.2⟩
   |dsk w C b d Z=>
    obtain⟨N,V,p,o,t,g,h,T⟩:=l;exact⟨N,V,p,o,t,by rw[aI λz=>by rw[z,I]at g;cases g];exact g,by rw[aI λz=>by rw[z,I]at h;cases h];exact h,by rw[f];exact T⟩
 .have x:∃c,ps[j]?=some (some (.own c)):=by
   rcases b9 W with ⟨e,_⟩ |⟨_,z⟩
   .subst e;exact⟨_,n⟩
   .exact⟨_,z⟩
  have A:∃c,ps[k]?=some (some (.own c)):=by
   rcases b9 L with ⟨e,_⟩ |⟨_,z⟩
   .subst e;exact⟨_,n⟩
   .exact⟨_,z⟩
  obtain⟨_,x⟩:=x;obtain⟨_,A⟩:=A;exact R.inj j k _ _ b x A S M
def SubP:PSt->PSt->Prop
 |[],[]=>True
 |none::p,_::q=>SubP p q
 |some s::p,t::q=>t=some s/\SubP p q
 |_,_=>False
theorem SubP.at_:∀{p q},SubP p q->p.length=q.length/\∀(i:Nat) s,p[i]?=some (some s)->q[i]?=some (some s)
 |[],[],_=>⟨rfl,λi s h=>by simp at h⟩
 |none::p,t::q,h=>by
  obtain⟨b,a⟩:=SubP.at_ (p:=p) (q:=q) h;refine⟨by simp[b],λi s e=>?_⟩
  induction i with
  |zero=>simp at e
  |succ i=>exact a i s (by simpa using e)
 |some s0::p,t::q,h=>by
  obtain⟨c,h⟩:=h;obtain⟨b,a⟩:=SubP.at_ (p:=p) (q:=q) h;refine⟨by simp[b],λi s e=>?_⟩
  induction i with
  |zero=>simp at e;subst e;rw[c];rfl
  |succ i=>exact a i s (by simpa using e)
 |[],_::_,h=>h.elim
 |none::_,[],h=>h.elim
 |some _::_,[],h=>h.elim
theorem Rs.sub(R:Rs K H0 O0 ps σ H O)(h:SubP YD ps):Rs K H0 O0 YD σ H O:=by
 obtain⟨k,b⟩:=h.at_;exact⟨R.same,R.old,R.new,R.dom,R.len.trans k.symm,λi s e=>R.at_ i s (b i s e),λi j f g a d c=>R.inj i j f g a (b _ _ d) (b _ _ c)⟩
end
def Ev(X:Cx)(f:Hp)(b:List LX)(d:PSt)(e:Expr)(u:U):Prop:=
 PE X e λc H Q=>∃O,Rs X.K f b d c H O/\∀v a,aU H a->Rp X.K (hid a O) v u->Q v a
def EvN(X:Cx)(h:Hp)(d:List LX)(g:PSt)(e:Expr)(xs:List U):Prop:=
 PE X e λf H Q=>∃O,Rs X.K h d g f H O/\∀a c b,aU H b->H a=none->b a=some (.lst c)->Rps X.K (hid b (a::O)) c xs->Q (.ref a) b
def Tt(X:Cx)(g:Hp)(c:List LX)(f:PSt)(e:Expr)(b:Bool):Prop:=
 PT X e λd H Q=>∃O,Rs X.K g c f d H O/\∀a,aU H a->Q b a
def Tw(X:Cx)(g:Hp)(c:List LX)(f:PSt)(e:Expr)(b:Bool):Prop:=
 PW X e λd H Q=>∃O,Rs X.K g c f d H O/\∀a,aU H a->Q b a
def EvA(X:Cx)(h:Hp)(c:List LX)(e:PSt)(f:List Expr)(g:List U):Prop:=
 PA X f λd H Q=>∃O,Rs X.K h c e d H O/\∀b a,aU H a->Rps X.K (hid a O) b g->Q b a
theorem PE.mono(h:PE X e t)(m:∀a H Q,t' a H Q->t a H Q):PE X e t':=λb s a H Q I q=>h b s a H Q I (m a H Q q)
theorem PT.mono(h:PT X e t)(m:∀a H Q,t' a H Q->t a H Q):PT X e t':=λb s a H Q I q=>h b s a H Q I (m a H Q q)
theorem PW.mono(h:PW X e t)(m:∀a H Q,t' a H Q->t a H Q):PW X e t':=λb c s a H Q I q=>h b c s a H Q I (m a H Q q)
theorem PA.mono(h:PA X e t)(m:∀a H Q,t' a H Q->t a H Q):PA X e t':=λb c s a H Q I q=>h b c s a H Q I (m a H Q q)
theorem PS.mono(h:PS X e t)(m:∀D a H,t' D a H->t D a H):PS X e t':=λb s a H D I q=>h b s a H D I (m D a H q)
theorem PSs.mono(h:PSs X e t)(m:∀D a H,t' D a H->t D a H):PSs X e t':=λb s a H D I q=>h b s a H D I (m D a H q)
variable {es:List Expr}
section
variable {X:Cx}{H0:Hp}{O0:List LX}{ps:PSt}{a b c e:Expr}{XY p:Pos}{u x y:U}{xs ys us:List U}{i j:Int}
theorem EvN.ev(h:EvN X H0 O0 ps e xs):Ev X H0 O0 ps e (.lst xs):=PE.mono h λg H Q ⟨O,R,k⟩=>⟨O,R,λa i d s n h r=>by
 have f:a ∉ O:=λz=>R.dom a z n;have c:aU (hid d (a::O)) (hid d O):=a9 λb hb=>Li _ hb;exact k _ d s (.lst (cW h f) (r.same c).len (r.same c).at_)⟩
theorem aa(i:Nat){x:Str}(h:ps[i]?=some (some (.val u)))(b:autoParam (X.N[i]?=some x) zM)(a:autoParam (Vis X.env.scope x) vN)(c:autoParam ((x==("__debug__":Str))=false) zR)
  (YB:autoParam ((x==("__classdict__":Str))=false) zR):Ev X H0 O0 ps (.Name x XY) u:=PE.mono (eE b a c YB) λf H Q ⟨O,R,k⟩=>by
 obtain⟨v,e,d⟩:=R.at_ i _ h;exact⟨v,e,k v H (.refl H) d⟩
theorem ag{i j XY}:Ev X H0 O0 ps (.Constant (.int i) j XY) (.int i):=PE.mono G8 λ_ H _ ⟨_,_,k⟩=>k _ H (.refl H) (.int i)
theorem IG{i j XY}:Ev X H0 O0 ps (.Constant (.bool i) j XY) (.bl i):=PE.mono JF λ_ H _ ⟨_,_,k⟩=>k _ H (.refl H) (.bl i)
theorem GI{j XY}:Ev X H0 O0 ps (.Constant .none j XY) .non:=PE.mono HF λ_ H _ ⟨_,_,k⟩=>k _ H (.refl H) .non
theorem aC{i j XY}:Ev X H0 O0 ps (.Constant (.str i) j XY) (.str i):=PE.mono Ir λ_ H _ ⟨_,_,k⟩=>k _ H (.refl H) (.str i)
theorem zp{x:Str}(a:Gl X x)(c:X.mg x=none)(b:NY x=some (.type n))(e:autoParam (x≠"__name__") zR)(d:autoParam ((x==("__debug__":Str))=false) zR):Ev X H0 O0 ps (.Name x XY) (.ty (.nm n)):=
 PE.mono (JU a c b e d) λ_ H _ ⟨_,_,k⟩=>k _ H (.refl H) (.ty n)
theorem two(R:Rs X.K H0 O0 ps σ H O)
  (ha:∀σ H Q,(∃O,Rs X.K H0 O0 ps σ H O/\∀v a,aU H a->Rp X.K (hid a O) v x->Q v a)->ta σ H Q) (hb:∀σ H Q,(∃O,Rs X.K H0 O0 ps σ H O/\∀v a,aU H a->Rp X.K (hid a O) v y->Q v a)->tb σ H Q)
  (h:∀v w a,aU H a->Rs X.K H0 O0 ps σ a O->Rp X.K (hid a O) v x->Rp X.K (hid a O) w y->r v w a Q):tOp r ta tb σ H Q:=
 ha σ H _ ⟨O,R,λv g c f=>hb σ g _ ⟨O,R.go c,λw d b e=>h v w d (c.trans b) (R.go (c.trans b)) (f.same (aP b)) e⟩⟩
theorem GG{g:Int->Int->Int}(f:OpR X (QB op) (rI0 λi j=>.int (g i j)))(e:Ev X H0 O0 ps a (.int i))(c:Ev X H0 O0 ps b (.int j)):Ev X H0 O0 ps (.BinOp a op b XY) (.int (g i j)):=
 PE.mono (uI f e c) λm H Q ⟨O,R,k⟩=>two R (λ_ _ _ z=>z) (λ_ _ _ z=>z) λv w l s _ d h=>by
  cases d;cases h;exact⟨i,j,rfl,rfl,k _ l s (.int _)⟩
theorem uD{g:Int->Int->Int}(f:OpR X (QB op) (rI C λi j=>.int (g i j)))(e:Ev X H0 O0 ps a (.int i))(c:Ev X H0 O0 ps b (.int j))(m:C i j):Ev X H0 O0 ps (.BinOp a op b XY) (.int (g i j)):=
 PE.mono (uI f e c) λn H Q ⟨O,R,k⟩=>two R (λ_ _ _ z=>z) (λ_ _ _ z=>z) λv w l s _ d h=>by
  cases d;cases h;exact⟨i,j,rfl,rfl,m,k _ l s (.int _)⟩
theorem bK(d:Ev X H0 O0 ps a (.int i))(c:Ev X H0 O0 ps b (.int j)):Ev X H0 O0 ps (.BinOp a .Add b XY) (.int (i+j)):=GG IB d c
theorem bg(d:Ev X H0 O0 ps a (.int i))(c:Ev X H0 O0 ps b (.int j)):Ev X H0 O0 ps (.BinOp a .Sub b XY) (.int (i-j)):=GG Ha d c
theorem aZ(e:Ev X H0 O0 ps a (.int i))(c:Ev X H0 O0 ps b (.int j))(d:IntMulOk i j):Ev X H0 O0 ps (.BinOp a .Mult b XY) (.int (i*j)):=uD DX e c d
theorem cU(e:Ev X H0 O0 ps a (.int i))(c:Ev X H0 O0 ps b (.int j))(d:Gf i j):Ev X H0 O0 ps (.BinOp a .FloorDiv b XY) (.int (i/j)):=uD B3 e c d
theorem HK(e:Ev X H0 O0 ps a (.int i))(c:Ev X H0 O0 ps b (.int j))(d:Gw i j):Ev X H0 O0 ps (.BinOp a .FloorDiv b XY) (.int (i.fdiv j)):=uD Cv e c d
theorem c0(e:Ev X H0 O0 ps a (.int i))(c:Ev X H0 O0 ps b (.int j))(d:0<j):Ev X H0 O0 ps (.BinOp a .Mod b XY) (.int (i%j)):=uD IC e c d
theorem xr(e:Ev X H0 O0 ps a (.int i))(c:Ev X H0 O0 ps b (.int j))(d:J0 i j):Ev X H0 O0 ps (.BinOp a .Pow b XY) (.int (i ^ j.toNat)):=uD GS e c d
theorem dl(b:Ev X H0 O0 ps a (.int i)):Ev X H0 O0 ps (.UnaryOp .USub a XY) (.int (-i)):=
 PE.mono (Jt HI b) λd H Q ⟨O,R,k⟩=>⟨O,R,λv c s r=>by cases r;exact⟨i,rfl,k _ c s (.int _)⟩⟩
end
def U.isN:U->Bool
 | .non=>true
 |_=>false
def U.isB(a:Bool):U->Bool
 | .bl b=>a==b
 | .int j=>(if a then 1 else 0)==j
 |_=>false
def U.isI(i:Int):U->Bool
 | .bl b=>i==(if b then 1 else 0)
 | .int j=>i==j
 |_=>false
def U.isS(a:Str):U->Bool
 | .str b=>a==b
 |_=>false
def U.isT(f:List U->Bool):U->Bool
 | .tup ys=>f ys
 |_=>false
def U.isL(f:List U->Bool):U->Bool
 | .lst ys=>f ys
 | .scr ys=>f ys
 |_=>false
def U.isC(f:U->Bool)(g:List U->Bool):List U->Bool
 |[]=>false
 |y::ys=>f y && g ys
mutual
def eqW:U->U->Bool
 | .non=>U.isN
 | .bl a=>U.isB a
 | .int i=>U.isI i
 | .str a=>U.isS a
 | .tup xs=>U.isT (eqWs xs)
 | .lst xs=>U.isL (eqWs xs)
 | .scr xs=>U.isL (eqWs xs)
 |_=>λ_=>false
def eqWs:List U->List U->Bool
 |[]=>List.isEmpty
 |x::xs=>U.isC (eqW x) (eqWs xs)
end
def U.okS(f:Nat->Bool):Nat->Bool
 |0=>false
 |n+1=>f n
mutual
def okU:Nat->U->Bool
 |_,.ty _=>false
 |_,.dic=>false
 |n,.tup a=>U.okS (λn=>okUs n a) n
 |n,.lst a=>U.okS (λn=>okUs n a) n
 |n,.scr a=>U.okS (λn=>okUs n a) n
 |_,_=>true
def okUs:Nat->List U->Bool
 |_,[]=>true
 |n,x::xs=>okU n x && okUs n xs
end
theorem kI:∀{n}{a}{i:Nat}{x},okUs n a=true->a[i]?=some x->okU n x=true
 |n,[],i,x,_,h=>by simp at h
 |n,y::a,0,x,h,e=>by simp at e;subst e;simp[okUs]at h;exact h.1
 |n,y::a,i+1,x,h,e=>by simp[okUs]at h;exact kI h.2 (by simpa using e)
theorem kR:∀b a,((MK (min b.length a.length)).all (λj=>eqW (b.getD j .non) (a.getD j .non)) && b.length==a.length)=eqWs b a
 |[],[]=>rfl
 |[],y::a=>rfl
 |x::b,[]=>rfl
 |x::b,y::a=>by
  have ih:=kR b a;show _=(eqW x y && eqWs b a);rw[<-ih];simp only[LF,Nat.succ_min_succ];rw[List.range_succ_eq_map,RU,VN];have e:((b.length+1==a.length+1))=(b.length==a.length):=by simp
  rw[e,Bool.and_assoc];rfl
theorem IsU.list(I:Inv X XW σ H s){xs:List U}(h:SqL X.K H a vs)(b:vs.length=xs.length):∃its,aW vs its/\s.heap.IsList a its.toArray/\its.length=xs.length:=by
 obtain⟨its,r,c,_⟩:=I.list h;exact⟨its,r,c.isList,by rw[<-r.length,b]⟩
theorem IsU.tup{X:Cx}{e:List (LX×Obj)}{b:St}{H:Hp}{s:LB}(I:Inv X e b H s){a:LX}{xs:List U}{vs:List V}(h:SqT X.K H a vs)(c:vs.length=xs.length):∃its,aW vs its/\UD s.heap a its.toArray/\its.length=xs.length:=by
 obtain⟨its,r,d,_⟩:=I.tuple h;exact⟨its,r,d,by rw[<-r.length,c]⟩
section
variable {X:Cx}{XW:List (LX×Obj)}{σ:St}{H:Hp}{s:LB}
inductive Kd (s:LB):Lw->U->Prop
 |non:Kd s .none .non
 |bl (b:Bool):Kd s (.bool b) (.bl b)
 |int (i:Int) (t:Tok):Kd s (.int i t) (.int i)
 |str (x:Str) (t:Tok):Kd s (.str x t) (.str x)
 |scr {a:LX}{xs:List U}{its:List Lw} (pl:s.heap.IsList a its.toArray):Kd s (.ref a) (.scr xs)
 |lst {a:LX}{xs:List U}{its:List Lw} (pl:s.heap.IsList a its.toArray):Kd s (.ref a) (.lst xs)
 |tup {a:LX}{xs:List U}{its:List Lw} (pl:UD s.heap a its.toArray):Kd s (.ref a) (.tup xs)
structure IK(X:Cx)(H:Hp)(n:Nat)(xs:List U)(vs:List V)(its:List Lw):Prop where
 r:aW vs its
 l:its.length=xs.length
 hl:vs.length=xs.length
 hi:∀(i:Nat) (v:V) (x:U),vs[i]?=some v->xs[i]?=some x->Rp X.K H v x
 o:okUs n xs=true
theorem Rp.kd(I:Inv X XW σ H s){n:Nat}{v:V}{x:U}{p:Lw}(R:Rp X.K H v x)(q:aS v p)(o:okU n x=true):Kd s p x:=by
 cases R with
 |non=>cases (show p=Q6 from q);exact .non
 |bl b=>cases (show p=WS b from q);exact .bl b
 |int i=>obtain⟨t,rfl⟩:=(show ∃t,p=Rq i t from q);exact .int i t
 |str i=>obtain⟨t,rfl⟩:=(show ∃t,p=U4 i t from q);exact .str i t
 |scr d a e=>cases q;obtain⟨its,r,c,l⟩:=IsU.list I d a;exact .scr c
 |lst d a e=>cases q;obtain⟨its,r,c,l⟩:=IsU.list I (SqL.of d) a;exact .lst c
 |tup d a e=>cases q;obtain⟨its,r,c,l⟩:=IsU.tup I d a;exact .tup c
 |ty |dic |xc=>cases o
theorem v5{n:Nat}{f:Nat->Bool}(o:U.okS f n=true):∃m,n=m+1/\f m=true:=by
 cases n with
 |zero=>cases o
 |succ n=>exact⟨n,rfl,o⟩
theorem Rp.its(I:Inv X XW σ H s){n:Nat}{v:V}{x:U}{a:LX}(R:Rp X.K H v x)(q:aS v (.ref a))(o:okU n x=true):∃m g h its,n=m+1/\IK X H m g h its/\((SqL X.K H a h/\s.heap.IsList a its.toArray/\(x=.lst g\/x=.scr g))\/(SqT X.K H a h/\UD s.heap a its.toArray/\x=.tup g)):=by
 cases R with
 |non |bl |int |str=>exact nomatch q
 |scr c b f=>cases q;obtain⟨m,e,o⟩:=v5 o;obtain⟨its,r,d,l⟩:=IsU.list I c b;exact⟨m,_,_,its,e,⟨r,l,b,f,o⟩,.inl ⟨c,d,.inr rfl⟩⟩
 |lst c b f=>cases q;obtain⟨m,e,o⟩:=v5 o;obtain⟨its,r,d,l⟩:=IsU.list I (SqL.of c) b;exact⟨m,_,_,its,e,⟨r,l,b,f,o⟩,.inl ⟨SqL.of c,d,.inl rfl⟩⟩
 |tup c b f=>cases q;obtain⟨m,e,o⟩:=v5 o;obtain⟨its,r,d,l⟩:=IsU.tup I c b;exact⟨m,_,_,its,e,⟨r,l,b,f,o⟩,.inr ⟨c,d,rfl⟩⟩
 |ty |dic |xc=>cases o
structure Knd(s:LB)(P:Lw->Lw->Bool->Prop):Prop where
 nn:P .none .none true
 nb:∀b,P .none (.bool b) false
 ni:∀i t,P .none (.int i t) false
 ns:∀c t,P .none (.str c t) false
 bn:∀b,P (.bool b) .none false
 bb:∀a b,P (.bool a) (.bool b) (a==b)
 bi:∀a j t,P (.bool a) (.int j t) ((if a then 1 else 0)==j)
 bs:∀a c t,P (.bool a) (.str c t) false
 jn:∀i t,P (.int i t) .none false
 jb:∀i t b,P (.int i t) (.bool b) (i==(if b then 1 else 0))
 ji:∀i t j u,P (.int i t) (.int j u) (i==j)
 js:∀i t c u,P (.int i t) (.str c u) false
 sn:∀c t,P (.str c t) .none false
 sb:∀c t b,P (.str c t) (.bool b) false
 si:∀c t i u,P (.str c t) (.int i u) false
 ss:∀c t d u,P (.str c t) (.str d u) (c==d)
 nl:∀{l:LX}{its:Array Lw},s.heap.IsList l its->P .none (.ref l) false
 nt:∀{l:LX}{its:Array Lw},UD s.heap l its->P .none (.ref l) false
 bl:∀{l:LX}{its:Array Lw} b,s.heap.IsList l its->P (.bool b) (.ref l) false
 bt:∀{l:LX}{its:Array Lw} b,UD s.heap l its->P (.bool b) (.ref l) false
 jl:∀{l:LX}{its:Array Lw} i t,s.heap.IsList l its->P (.int i t) (.ref l) false
 jt:∀{l:LX}{its:Array Lw} i t,UD s.heap l its->P (.int i t) (.ref l) false
 sl:∀{l:LX}{its:Array Lw} c t,s.heap.IsList l its->P (.str c t) (.ref l) false
 st:∀{l:LX}{its:Array Lw} c t,UD s.heap l its->P (.str c t) (.ref l) false
 ln:∀{l:LX}{its:Array Lw},s.heap.IsList l its->P (.ref l) .none false
 tn:∀{l:LX}{its:Array Lw},UD s.heap l its->P (.ref l) .none false
 lb:∀{l:LX}{its:Array Lw} b,s.heap.IsList l its->P (.ref l) (.bool b) false
 tb:∀{l:LX}{its:Array Lw} b,UD s.heap l its->P (.ref l) (.bool b) false
 lj:∀{l:LX}{its:Array Lw} i t,s.heap.IsList l its->P (.ref l) (.int i t) false
 tj:∀{l:LX}{its:Array Lw} i t,UD s.heap l its->P (.ref l) (.int i t) false
 ls:∀{l:LX}{its:Array Lw} c t,s.heap.IsList l its->P (.ref l) (.str c t) false
 ts:∀{l:LX}{its:Array Lw} c t,UD s.heap l its->P (.ref l) (.str c t) false
theorem Knd.all{P:Lw->Lw->Bool->Prop}(k:Knd s P){p q:Lw}{x y:U}(h:Kd s p x)(f:Kd s q y)(g:∀a b,p=.ref a->q=.ref b->P p q (eqW x y)):P p q (eqW x y):=by
 induction h with
 |non=>induction f with
  |non=>exact k.nn
  |bl b=>exact k.nb b
  |int i t=>exact k.ni i t
  |str c t=>exact k.ns c t
  |scr e |lst e=>exact k.nl e
  |tup e=>exact k.nt e
 |bl a=>induction f with
  |non=>exact k.bn a
  |bl b=>exact k.bb a b
  |int i t=>exact k.bi a i t
  |str c t=>exact k.bs a c t
  |scr e |lst e=>exact k.bl a e
  |tup e=>exact k.bt a e
 |int j u=>induction f with
  |non=>exact k.jn j u
  |bl b=>exact k.jb j u b
  |int i t=>exact k.ji j u i t
  |str c t=>exact k.js j u c t
  |scr e |lst e=>exact k.jl j u e
  |tup e=>exact k.jt j u e
 |str d u=>induction f with
  |non=>exact k.sn d u
  |bl b=>exact k.sb d u b
  |int i t=>exact k.si d u i t
  |str c t=>exact k.ss d u c t
  |scr e |lst e=>exact k.sl d u e
  |tup e=>exact k.st d u e
 |scr e |lst e=>induction f with
  |non=>exact k.ln e
  |bl b=>exact k.lb b e
  |int i t=>exact k.lj i t e
  |str c t=>exact k.ls c t e
  |_=>exact g _ _ rfl rfl
 |tup e=>induction f with
  |non=>exact k.tn e
  |bl b=>exact k.tb b e
  |int i t=>exact k.tj i t e
  |str c t=>exact k.ts c t e
  |_=>exact g _ _ rfl rfl
theorem Fo(h:xs.length=ys.length)(c:∀(i:Nat) x y,xs[i]?=some x->ys[i]?=some y->eqW x y=true):eqWs xs ys=true:=by
 rw[<-kR,MW,pM];refine⟨λj d=>?_,by simp[h]⟩;have b:j<xs.length:=by lia
 have a:j<ys.length:=by lia
 rw[LP,Ld b,LP,Ld a];exact c j _ _ (Ld b) (Ld a)
theorem Rp.one_of(I:Inv X XW σ H s){n:Nat}{v:V}{x y:U}{p:Lw}(L:∀m,n=m+1->∀{v:V}{x y:U}{p:Lw},Rp X.K H v x->Rp X.K H v y->aS v p->okU m x=true->okU m y=true->eqW x y=true)(C:Rp X.K H v x)(J:Rp X.K H v y)(q:aS v p)(D:okU n x=true)(G:okU n y=true):eqW x y=true:=by
 have g:∀a,p=.ref a->eqW x y=true:=λa e=>by
  subst e;obtain⟨m,M,O,its,h,d,f⟩:=C.its I q D;obtain⟨Q,P,N,E,j,z,c⟩:=J.its I q G;subst h;cases j
  have F:O=N->eqWs M P=true:=by
   rintro rfl;refine Fo (d.hl.symm.trans z.hl) λi x y h j=>?_;have w:=d.hl ▸ aL h;obtain⟨u,_,q⟩:=d.r.get (Ld w);exact L _ rfl (d.hi i _ x (Ld w) h) (z.hi i _ y (Ld w) j) q (kI d.o h) (kI z.o j)
  rcases f with ⟨t,A,f⟩ |⟨t,A,f⟩ <;>rcases c with ⟨l,B,c⟩ |⟨l,B,c⟩
  .rcases f with rfl |rfl <;>rcases c with rfl |rfl <;>exact F (I.list_inj t l)
  .exact absurd rfl (SeqAt.ne_of_list_tuple A B)
  .exact absurd rfl (SeqAt.ne_of_list_tuple B A)
  .subst f c;exact F (I.tuple_inj t l)
 have k:=J.kd I q G;cases C.kd I q D with
 |non=>cases k;rfl
 |bl b=>cases k;exact beq_self_eq_true b
 |int b=>cases k;exact beq_self_eq_true b
 |str b=>cases k;exact beq_self_eq_true b
 |_=>exact g _ rfl
theorem Rp.one(I:Inv X XW σ H s):∀n {v}{x y}{p},Rp X.K H v x->Rp X.K H v y->aS v p->okU n x=true->okU n y=true->eqW x y=true:=by
 intro n
 induction n with
 |zero=>exact Rp.one_of I λm e=>by cases e
 |succ n a=>exact Rp.one_of I λ_ e=>by cases e;exact a
theorem BH{A:ML}(a:A.units<P6):Knd s (SeqAt.EqAt A s):=⟨SeqAt.EqAt.same _,SeqAt.EqAt.none_bool,SeqAt.EqAt.none_int,SeqAt.EqAt.none_str,SeqAt.EqAt.bool_none,SeqAt.EqAt.bool_bool,SeqAt.EqAt.bool_int,SeqAt.EqAt.bool_str,SeqAt.EqAt.int_none,SeqAt.EqAt.int_bool,SeqAt.EqAt.int_int,SeqAt.EqAt.int_str,SeqAt.EqAt.str_none,SeqAt.EqAt.str_bool,SeqAt.EqAt.str_int,SeqAt.EqAt.str_str,(SeqAt.EqAt.none_list · a),(SeqAt.EqAt.none_tuple · a),(SeqAt.EqAt.bool_list · · a),(SeqAt.EqAt.bool_tuple · · a),(SeqAt.EqAt.int_list · · · a),(SeqAt.EqAt.int_tuple · · · a),(SeqAt.EqAt.str_list · · · a),(SeqAt.EqAt.str_tuple · · · a),(SeqAt.EqAt.list_none · a),(SeqAt.EqAt.tuple_none · a),(SeqAt.EqAt.list_bool · · a),(SeqAt.EqAt.tuple_bool · · a),(SeqAt.EqAt.list_int · · · a),(SeqAt.EqAt.tuple_int · · · a),(SeqAt.EqAt.list_str · · · a),(SeqAt.EqAt.tuple_str · · · a)⟩
theorem Dg{A:ML}(a:A.units<P6):Knd s (SeqAt.RcAt A s):=⟨SeqAt.RcAt.none_none,SeqAt.RcAt.none_bool,SeqAt.RcAt.none_int,SeqAt.RcAt.none_str,SeqAt.RcAt.bool_none,SeqAt.RcAt.bool_bool,SeqAt.RcAt.bool_int,SeqAt.RcAt.bool_str,SeqAt.RcAt.int_none,SeqAt.RcAt.int_bool,SeqAt.RcAt.int_int,SeqAt.RcAt.int_str,SeqAt.RcAt.str_none,SeqAt.RcAt.str_bool,SeqAt.RcAt.str_int,SeqAt.RcAt.str_str,(SeqAt.RcAt.none_list · a),(SeqAt.RcAt.none_tuple · a),(SeqAt.RcAt.bool_list · · a),(SeqAt.RcAt.bool_tuple · · a),(SeqAt.RcAt.int_list · · · a),(SeqAt.RcAt.int_tuple · · · a),(SeqAt.RcAt.str_list · · · a),(SeqAt.RcAt.str_tuple · · · a),(SeqAt.RcAt.list_none · a),(SeqAt.RcAt.tuple_none · a),(SeqAt.RcAt.list_bool · · a),(SeqAt.RcAt.tuple_bool · · a),(SeqAt.RcAt.list_int · · · a),(SeqAt.RcAt.tuple_int · · · a),(SeqAt.RcAt.list_str · · · a),(SeqAt.RcAt.tuple_str · · · a)⟩
structure Knq(A:ML)(s:LB)(P:Lw->Lw->Bool->Prop):Prop where
 k:Knd s P
 ll:∀{a b:LX}{xs ys:Array Lw}{e:Nat->Bool},s.heap.IsList a xs->s.heap.IsList b ys->xs.size=ys.size->(∀j (h1:j<xs.size) (h2:j<ys.size),SeqAt.EqAt A.in1 s xs[j] ys[j] (e j))->P (.ref a) (.ref b) ((MK xs.size).all e)
 ln:∀{a b:LX}{xs ys:Array Lw},s.heap.IsList a xs->s.heap.IsList b ys->(xs.size !=ys.size)=true->P (.ref a) (.ref b) false
 lt:∀{a b:LX}{xs ys:Array Lw},s.heap.IsList a xs->UD s.heap b ys->P (.ref a) (.ref b) false
 tl:∀{a b:LX}{xs ys:Array Lw},UD s.heap a xs->s.heap.IsList b ys->P (.ref a) (.ref b) false
 tt:∀{a b:LX}{xs ys:Array Lw}{e:Nat->Bool},UD s.heap a xs->UD s.heap b ys->(∀j (h1:j<xs.size) (h2:j<ys.size),SeqAt.EqAt A.in1 s xs[j] ys[j] (e j))->P (.ref a) (.ref b) ((MK (min xs.size ys.size)).all e && xs.size==ys.size)
theorem C9(I:Inv X XW σ H s){n:Nat}{vs D:List V}{xs ys:List U}{c g:List Lw}(d:IK X H n xs vs c)(f:IK X H n ys D g){A:ML}
  (rc0:∀(x y:U) (v w:V) (p q:Lw),Rp X.K H v x->Rp X.K H w y->aS v p->aS w q->okU n x=true->okU n y=true->SeqAt.RcAt A s p q (eqW x y)) (hu:A.units<P6)
  (j:Nat) (j1:j<c.length) (j2:j<g.length):SeqAt.EqAt A s c[j] g[j] (eqW (xs.getD j .non) (ys.getD j .non)):=by
 have B:j<vs.length:=d.r.length ▸ j1;have C:j<D.length:=f.r.length ▸ j2;obtain⟨x,z⟩:∃x,xs[j]?=some x:=⟨_,Ld (d.l ▸ j1)⟩;obtain⟨y,u⟩:∃y,ys[j]?=some y:=⟨_,Ld (f.l ▸ j2)⟩;rw[LP,LP,z,u];have k:=d.hi j _ x (Ld B) z;have R2:=f.hi j _ y (Ld C) u;obtain⟨p,J,h⟩:=d.r.get (Ld B);obtain⟨q,F,i⟩:=f.r.get (Ld C);rw[show c[j]=p from Ma ((Ld j1).symm.trans J),show g[j]=q from Ma ((Ld j2).symm.trans F)];have m:=kI d.o z;have t:=kI f.o u;refine (BH hu).all (k.kd I h m) (R2.kd I i t) λa b E G=>?_;subst E G;by_cases e:a=b
 .subst e;rw[<-h.inj i]at R2;show SeqAt.EqAt A s _ _ (eqW x y);rw[Rp.one I n k R2 h m t];exact SeqAt.EqAt.same _
 .exact SeqAt.EqAt.of_refs e (rc0 x y _ _ _ _ k R2 h i m t)
theorem Knq.all{A:ML}{P:Lw->Lw->Bool->Prop}(k:Knq A s P)(I:Inv X XW σ H s){n:Nat}{x y:U}{v w:V}{p q:Lw}(h:∀m,n=m+1->∀(x y:U) (v w:V) (p q:Lw),Rp X.K H v x->Rp X.K H w y->aS v p->aS w q->okU m x=true->okU m y=true->SeqAt.RcAt A.in1 s p q (eqW x y))(G:∀m,n=m+1->A.in1.units<P6)
  (R1:Rp X.K H v x) (R2:Rp X.K H w y) (q1:aS v p) (q2:aS w q) (o1:okU n x=true) (o2:okU n y=true):P p q (eqW x y):=by
 refine k.k.all (R1.kd I q1 o1) (R2.kd I q2 o2) λa b z E=>?_;subst z E;obtain⟨m,o,M,its,F,i,d⟩:=R1.its I q1 o1;obtain⟨L,t,J,C,D,j,c⟩:=R2.its I q2 o2;subst F;cases D;have r:=C9 I i j (h m rfl) (G m rfl);rcases d with ⟨B,e,d⟩ |⟨B,e,d⟩ <;>rcases c with ⟨u,f,c⟩ |⟨u,f,c⟩
 .have:P (.ref a) (.ref b) (eqWs o t):=by
   rw[<-kR,<-i.l,<-j.l];by_cases g:its.length=C.length
   .have:=k.ll e f g r;rw[<-g,Nat.min_self,beq_self_eq_true,Bool.and_true];exact this
   .rw[beq_false_of_ne g,WE];exact k.ln e f (bne_iff_ne.mpr g)
  rcases d with rfl |rfl <;>rcases c with rfl |rfl <;>exact this
 .subst c;rcases d with rfl |rfl <;>exact k.lt e f
 .subst d;rcases c with rfl |rfl <;>exact k.tl e f
 .subst d c;show P _ _ (eqWs o t);rw[<-kR,<-i.l,<-j.l];exact k.tt e f r
theorem uO{A:ML}(a:A.units<P6):Knq A s (SeqAt.RcAt A s):=⟨Dg a,(SeqAt.RcAt.lists · · · a ·),(SeqAt.RcAt.lists_lengths · · · a),(SeqAt.RcAt.list_tuple · · a),(SeqAt.RcAt.tuple_list · · a),(SeqAt.RcAt.tuples · · a ·)⟩
theorem Kj(I:Inv X XW σ H s):∀n A x y v w p q,Rp X.K H v x->Rp X.K H w y->aS v p->aS w q->okU n x=true->okU n y=true->A.units+n<P6->SeqAt.RcAt A s p q (eqW x y):=by
 intro n
 induction n with
 |zero=>exact λA x y v w p q c R2 g b d f a=>(uO a).all I (λm e=>by cases e) (λm e=>by cases e) c R2 g b d f
 |succ n l=>
  intro A x y v w p q c R2 g b d f a;have h:A.in1.units+n<P6:=SL A.units n ▸ a;exact (uO (ME (L5 _ _) a)).all I (λ_ e x y v w p q j k i t o r=>by cases e;exact l A.in1 x y v w p q j k i t o r h) (λ_ _=>ME (L5 _ n) h) c R2 g b d f
theorem CG{A:ML}(a:A.units<P6):Knq A s (λp q b=>SeqAt.RcNeAt A s p q (!b)):=⟨⟨SeqAt.RcNeAt.none_none,SeqAt.RcNeAt.none_bool,SeqAt.RcNeAt.none_int,SeqAt.RcNeAt.none_str,SeqAt.RcNeAt.bool_none,SeqAt.RcNeAt.bool_bool,SeqAt.RcNeAt.bool_int,SeqAt.RcNeAt.bool_str,SeqAt.RcNeAt.int_none,SeqAt.RcNeAt.int_bool,SeqAt.RcNeAt.int_int,SeqAt.RcNeAt.int_str,SeqAt.RcNeAt.str_none,SeqAt.RcNeAt.str_bool,SeqAt.RcNeAt.str_int,SeqAt.RcNeAt.str_str,(SeqAt.RcNeAt.none_list · a),(SeqAt.RcNeAt.none_tuple · a),(SeqAt.RcNeAt.bool_list · · a),(SeqAt.RcNeAt.bool_tuple · · a),(SeqAt.RcNeAt.int_list · · · a),(SeqAt.RcNeAt.int_tuple · · · a),(SeqAt.RcNeAt.str_list · · · a),(SeqAt.RcNeAt.str_tuple · · · a),(SeqAt.RcNeAt.list_none · a),(SeqAt.RcNeAt.tuple_none · a),(SeqAt.RcNeAt.list_bool · · a),(SeqAt.RcNeAt.tuple_bool · · a),(SeqAt.RcNeAt.list_int · · · a),(SeqAt.RcNeAt.tuple_int · · · a),(SeqAt.RcNeAt.list_str · · · a),(SeqAt.RcNeAt.tuple_str · · · a)⟩,(SeqAt.RcNeAt.lists · · · a ·),(SeqAt.RcNeAt.lists_lengths · · · a),(SeqAt.RcNeAt.list_tuple · · a),(SeqAt.RcNeAt.tuple_list · · a),(SeqAt.RcNeAt.tuples · · a ·)⟩
theorem GY(I:Inv X XW σ H s)(n)(A)(x y)(v w)(p q)(i:Rp X.K H v x)(m:Rp X.K H w y)(r:aS v p)(g:aS w q)(j:okU (n+1) x=true)(l:okU (n+1) y=true)(b:A.units+(n+1)<P6):SeqAt.RcNeAt A s p q (!eqW x y):=by
 have a:A.in1.units+n<P6:=SL A.units n ▸ b;exact (CG (ME (L5 _ _) b)).all I (λ_ e x y v w p q d f c o h k=>by cases e;exact Kj I n A.in1 x y v w p q d f c o h k a) (λ_ _=>ME (L5 _ n) a) i m r g j l
end
def OpS(X:Cx)(f:Lw->Lw->Sem Lw)(x y:U)(z:V):Prop:=OpR X f λv w H Q=>Rp X.K H v x/\Rp X.K H w y/\Q z H
section
variable {X:Cx}{H0:Hp}{O0:List LX}{ps:PSt}{a b c e:Expr}{rest:List Expr}{XY p:Pos}{u x y:U}{xs ys us:List U}{i j:Int}{k m:Bool}
theorem Rp.out{K:Le}(h:Rp K (hid H O) v u):Rp K H v u:=h.same aH
theorem gX(f:OpS X (MC op) x y (.bl k))(g:Ev X H0 O0 ps a x)(c:Ev X H0 O0 ps b y)(h:Oe op b=false:=by first |exact k7 _ |with_unfolding_all rfl):Ev X H0 O0 ps (.Compare a [op] [b] XY) (.bl k):=
 PE.mono (Ex f g c h) λj H Q ⟨O,R,q⟩=>two R (λ_ _ _ z=>z) (λ_ _ _ z=>z) λv w i s _ d e=>⟨d.out,e.out,q _ i s (.bl _)⟩
theorem au(f:OpS X (MC op) x y (.bl k))(g:Ev X H0 O0 ps a x)(c:Ev X H0 O0 ps b y)(h:Oe op b=false:=by first |exact k7 _ |with_unfolding_all rfl):Tt X H0 O0 ps (.Compare a [op] [b] XY) k:=
 PT.mono (yB f g c h) λj H Q ⟨O,R,q⟩=>two R (λ_ _ _ z=>z) (λ_ _ _ z=>z) λv w i s _ d e=>⟨d.out,e.out,_,rfl,q i s⟩
theorem x8{g:Int->Int->Bool}(c:OpR X (MC op) (rI0 λi j=>.bl (g i j))):OpS X (MC op) (.int i) (.int j) (.bl (g i j)):=by
 intro k s f H v w p q Q I a d h;obtain⟨e,b,l⟩:=h;cases e;cases b;exact c k s f H _ _ _ _ Q I a d ⟨i,j,rfl,rfl,l⟩
theorem dG:OpS X (MC .Lt) (.int i) (.int j) (.bl (decide (i<j))):=x8 Kl
theorem KN:OpS X (MC .LtE) (.int i) (.int j) (.bl (decide (i<=j))):=x8 IU
theorem fP:OpS X (MC .Gt) (.int i) (.int j) (.bl (decide (j<i))):=x8 IW
theorem I_:OpS X (MC .GtE) (.int i) (.int j) (.bl (decide (j<=i))):=x8 JP
theorem K2(k:X.A.units+10<P6)(e:okU 9 x=true)(c:okU 9 y=true):OpS X (MC .Eq) x y (.bl (eqW x y)):=by
 intro j s i H v w p q Q I b d h;obtain⟨a,g,f⟩:=h;exact Kj I 9 X.A x y v w p q a g b d e c (by lia) X.prog X.w _ _ (lH I f rfl)
theorem La(k:X.A.units+10<P6)(e:okU 9 x=true)(c:okU 9 y=true):OpS X (MC .NotEq) x y (.bl (!eqW x y)):=by
 intro j s i H v w p q Q I b d h;obtain⟨a,g,f⟩:=h;exact GY I 8 X.A x y v w p q a g b d e c (by omega) X.prog X.w _ _ (lH I f rfl)
theorem f6:OpS X (MC .Eq) (.int i) (.int j) (.bl (decide (i=j))):=by
 rintro h s f H v w p q Q I b d ⟨e,c,a⟩;cases e;cases c;obtain⟨t,rfl⟩:=b;obtain⟨g,rfl⟩:=d;exact eq_int (lH I a (Rr i j))
theorem nJ:OpS X (MC .NotEq) (.int i) (.int j) (.bl (!decide (i=j))):=by
 rintro h s f H v w p q Q I b d ⟨e,c,a⟩;cases e;cases c;obtain⟨t,rfl⟩:=b;obtain⟨g,rfl⟩:=d;exact ne_int (lH I a (by rw[bne,Rr]))
theorem iC(h:Ev X H0 O0 ps e (.bl k))(b:autoParam (∀a,isTrue e X.env a=(do let v <-a;V_ e.pos;UQ [v] (truthy v))) k4):Tt X H0 O0 ps e k:=
 PT.mono (HM h b) λd H Q ⟨O,R,q⟩=>⟨O,R,λv c s r=>by cases r;exact⟨_,rfl,q c s⟩⟩
theorem lY(h:Tt X H0 O0 ps a k):Tt X H0 O0 ps (.UnaryOp .Not a XY) (!k):=PT.mono (G3 h) λb H Q ⟨O,R,q⟩=>⟨O,R,q⟩
theorem Tw.t(h:Tw X H0 O0 ps e k):Tt X H0 O0 ps e k:=h.pt
theorem iy(h:Tt X H0 O0 ps a k):Tw X H0 O0 ps (.BoolOp .And [a] XY) k:=ED h
theorem ix(h:Tt X H0 O0 ps a k):Tw X H0 O0 ps (.BoolOp .Or [a] XY) k:=CW h
theorem kg(c:Tt X H0 O0 ps a k)(f:k=true->Tw X H0 O0 ps (.BoolOp .And (b::rest) XY) m):Tw X H0 O0 ps (.BoolOp .And (a::b::rest) XY) (k && m):=by
 induction k with
 |true=>exact PW.mono (Cu c (f rfl)) λg H Q ⟨O,R,q⟩=>⟨O,R,λd s=>by exact rT (⟨O,R.go s,λi e=>q i (s.trans e)⟩)⟩
 |false=>exact PW.mono (Cu c (λ_ _ _ _ _ _ _ h=>h.elim) (tB':=λ_ _ _=>False)) λg H Q ⟨O,R,q⟩=>⟨O,R,λd s=>by exact oF (q d s)⟩
theorem jh(c:Tt X H0 O0 ps a k)(f:k=false->Tw X H0 O0 ps (.BoolOp .Or (b::rest) XY) m):Tw X H0 O0 ps (.BoolOp .Or (a::b::rest) XY) (k ||m):=by
 induction k with
 |false=>exact PW.mono (CH c (f rfl)) λg H Q ⟨O,R,q⟩=>⟨O,R,λd s=>by exact oF (⟨O,R.go s,λi e=>q i (s.trans e)⟩)⟩
 |true=>exact PW.mono (CH c (λ_ _ _ _ _ _ _ h=>h.elim) (tB':=λ_ _ _=>False)) λg H Q ⟨O,R,q⟩=>⟨O,R,λd s=>by exact rT (q d s)⟩
theorem GJ{op}(h:Ev X H0 O0 ps a u):Ev X H0 O0 ps (.BoolOp op [a] XY) u:=Hz h
theorem Jl(c:Ev X H0 O0 ps a (.bl k))(f:k=true->Ev X H0 O0 ps (.BoolOp .And (b::rest) XY) (.bl m)):Ev X H0 O0 ps (.BoolOp .And (a::b::rest) XY) (.bl (k && m)):=by
 induction k with
 |true=>exact PE.mono (AZ c (f rfl)) λg H Q ⟨O,R,q⟩=>⟨O,R,λv d s r=>by cases r;exact⟨_,rfl,by exact rT (⟨O,R.go s,λv i e j=>q v i (s.trans e) j⟩)⟩⟩
 |false=>exact PE.mono (AZ c (λ_ _ _ _ _ _ h=>h.elim) (tb:=λ_ _ _=>False)) λg H Q ⟨O,R,q⟩=>⟨O,R,λv d s r=>by cases r;exact⟨_,rfl,by exact oF (q _ d s (.bl _))⟩⟩
theorem KD(c:Ev X H0 O0 ps a (.bl k))(f:k=false->Ev X H0 O0 ps (.BoolOp .Or (b::rest) XY) (.bl m)):Ev X H0 O0 ps (.BoolOp .Or (a::b::rest) XY) (.bl (k ||m)):=by
 induction k with
 |false=>exact PE.mono (Gs c (f rfl)) λg H Q ⟨O,R,q⟩=>⟨O,R,λv d s r=>by cases r;exact⟨_,rfl,by exact oF (⟨O,R.go s,λv i e j=>q v i (s.trans e) j⟩)⟩⟩
 |true=>exact PE.mono (Gs c (λ_ _ _ _ _ _ h=>h.elim) (tb:=λ_ _ _=>False)) λg H Q ⟨O,R,q⟩=>⟨O,R,λv d s r=>by cases r;exact⟨_,rfl,by exact rT (q _ d s (.bl _))⟩⟩
theorem Jc(b:Ev X H0 O0 ps a (.bl k)):Ev X H0 O0 ps (.UnaryOp .Not a XY) (.bl (!k)):=PE.mono (HA b) λd H Q ⟨O,R,q⟩=>⟨O,R,λv c s r=>by cases r;exact⟨_,rfl,q _ c s (.bl _)⟩⟩
theorem Cl(g:Tt X H0 O0 ps c k)(l:k=true->Ev X H0 O0 ps a u)(i:k=false->Ev X H0 O0 ps b u):Ev X H0 O0 ps (.IfExp c a b XY) u:=by
 induction k with
 |true=>exact PE.mono (vz g (l rfl) (λ_ _ _ _ _ _ h=>h.elim) (tb:=λ_ _ _=>False)) λj H Q ⟨O,R,q⟩=>⟨O,R,λm s=>by exact rT (⟨O,R.go s,λv e d f=>q v e (s.trans d) f⟩)⟩
 |false=>exact PE.mono (vz g (λ_ _ _ _ _ _ h=>h.elim) (i rfl) (ta:=λ_ _ _=>False)) λj H Q ⟨O,R,q⟩=>⟨O,R,λm s=>by exact oF (⟨O,R.go s,λv e d f=>q v e (s.trans d) f⟩)⟩
theorem am:EvA X H0 O0 ps [] []:=PA.mono fi λa H Q ⟨O,R,q⟩=>q [] H (.refl H) .nil
theorem af(g:Ev X H0 O0 ps e u)(h:EvA X H0 O0 ps es us)(hs:autoParam (Lr (e::es) X.env=(false,N4 e X.env)::Lr es X.env) zM):EvA X H0 O0 ps (e::es) (u::us):=
 PA.mono (ci g h hs) λi H Q ⟨O,R,q⟩=>⟨O,R,λv k b f=>⟨O,R.go b,λj c a d=>q _ c (b.trans a) (.cons (f.same (aP a)) d)⟩⟩
theorem Rs.hidnew{K:Le}(R:Rs K H0 O0 ps σ H O){p:LX}(n:H p=none):hid (upd H p o) O p=some o:=cW aK λz=>R.dom p z n
theorem Jz{x1}(h:EvA X H0 O0 ps es us)(g:us.length<=sizeLine:=by first |decide | (simp only[LF,Qe];decide)):Ev X H0 O0 ps (.Tuple es x1 XY) (.tup us):=
 PE.mono (GV h) λi H Q ⟨O,R,q⟩=>⟨O,R,λf j c d=>⟨by rw[d.len];exact g,λp e=>by
  have a:=bj e (.tup f);have b:=d.same (aP a);exact q _ _ (c.trans a) (.tup (SqT.of ((R.go c).hidnew e)) b.len b.at_)⟩⟩
theorem IY(h:EvA X H0 O0 ps es us)(e:us.length<=sizeLine:=by first |decide | (simp only[LF,Qe];decide)):EvN X H0 O0 ps (.List es XY) us:=
 PE.mono (H_ h) λf H Q ⟨O,R,q⟩=>⟨O,R,λd g b c=>⟨by rw[c.len];exact e,λp a=>by
  exact q p d _ (b.trans (bj a _)) (b.free a) aK (c.same (bH (bj a _) a))⟩⟩
theorem aD(n:Ev X H0 O0 ps a x)(l:Ev X H0 O0 ps b (.int i))(g:x.items=some xs)(k:atI xs i=some u)(hs:mH b:=by intro _ _;rfl):Ev X H0 O0 ps (.Subscript a b XY) u:=
 PE.mono (AV (xA.or Is) n l hs) λp H Q ⟨O,R,q⟩=>two (y:=.int i) R (λ_ _ _ z=>z) (λ_ _ _ z=>z) λv w j s _ m o=>by
  cases o
  induction m with
  |scr h f c=>cases g;obtain⟨z,e,d⟩:=Rps.atI ⟨f,c⟩ k;exact .inl ⟨_,_,i,z,rfl,rfl,aH.seq h,e,q z j s d⟩
  |lst h f c=>cases g;obtain⟨z,e,d⟩:=Rps.atI ⟨f,c⟩ k;exact .inl ⟨_,_,i,z,rfl,rfl,aH.seq (SqL.of h),e,q z j s d⟩
  |tup h f c=>cases g;obtain⟨z,e,d⟩:=Rps.atI ⟨f,c⟩ k;exact .inr ⟨_,_,i,z,rfl,rfl,aH.tup h,e,q z j s d⟩
  |_=>cases g
theorem yP(n:Nat){x:Str}(h:ps[n]?=some (some (.own xs)))(c:Ev X H0 O0 ps b (.int i))(m:atI xs i=some u)(f:autoParam (X.N[n]?=some x) zM)(y:autoParam (Vis X.env.scope x) vN)(j:autoParam ((x==("__debug__":Str))=false) zR)
  (YB:autoParam ((x==("__classdict__":Str))=false) zR) (hs:mH b:=by intro _ _;rfl):Ev X H0 O0 ps (.Subscript (.Name x p) b XY) u:=
 PE.mono (AV xA (eE f y j YB) c hs) λC H Q l=>by
  obtain⟨O,R,q⟩:=l;obtain⟨v,g,a,t,rfl,D,B,o,e⟩:=R.at_ n _ h;refine⟨_,g,O,R,λw k s r=>?_⟩;cases r;obtain⟨z,d,A⟩:=e.atI m;exact⟨a,t,i,z,rfl,rfl,SqL.of (s _ _ o),d,q z k s (A.same (aP s))⟩
def eF(X:Cx)(f:Lw)(us:List U)(u:U):Prop:=cZ X f λc H Q=>∃O,(∀a∈O,H a≠none)/\Rps X.K (hid H O) c us/\∀v b,aU H b->Rp X.K (hid b O) v u->Q v b
theorem aw{a:String}(m:eF X (.builtin a) us u)(j:Gl X f)(k:X.mg f=none)(n:NY f=some (.builtin a))(g:EvA X H0 O0 ps (e::es) us)(l:autoParam (f≠"__name__") zR)(o:autoParam ((f==("__debug__":Str))=false) zR)
  (he:autoParam (Lr (e::es) X.env=(false,N4 e X.env)::Lr es X.env) zM) (Yq:autoParam ((NT XY (Lr es X.env)).any (·.1)=false) zM):Ev X H0 O0 ps (.Call (.Name f p) (e::es) [] XY) u:=
 PE.mono (tq m j k n g l o he Yq) λr H Q ⟨O,R,q⟩=>⟨O,R,λt s b d=>⟨O,(R.go b).dom,d,λv c i h=>q v c (b.trans i) h⟩⟩
theorem b5{a:String}(m:eF X (.type a) us u)(j:Gl X f)(k:X.mg f=none)(n:NY f=some (.type a))(g:EvA X H0 O0 ps (e::es) us)(l:autoParam (f≠"__name__") zR)(o:autoParam ((f==("__debug__":Str))=false) zR)
  (he:autoParam (Lr (e::es) X.env=(false,N4 e X.env)::Lr es X.env) zM) (Yq:autoParam ((NT XY (Lr es X.env)).any (·.1)=false) zM):Ev X H0 O0 ps (.Call (.Name f p) (e::es) [] XY) u:=
 PE.mono (As m j k n g l o he Yq) λr H Q ⟨O,R,q⟩=>⟨O,R,λt s b d=>⟨O,(R.go b).dom,d,λv c i h=>q v c (b.trans i) h⟩⟩
theorem cL{K:Le}(h:Rps K H vs [x]):∃v,vs=[v]/\Rp K H v x:=by
 obtain⟨v,c,rfl,b,a⟩:=h.cons_inv;rw[a.nil_inv];exact⟨v,rfl,b⟩
theorem i7{K:Le}(h:Rps K H vs [x,y]):∃v w,vs=[v,w]/\Rp K H v x/\Rp K H w y:=by
 obtain⟨v,d,rfl,c,b⟩:=h.cons_inv;obtain⟨w,rfl,a⟩:=cL b;exact⟨v,w,rfl,c,a⟩
theorem cZ.mono(h:cZ X f r)(m:∀a H Q,r' a H Q->r a H Q):cZ X f r':=λc s b H a us Q I v q=>h c s b H a us Q I v (m a H Q q)
theorem yp{K:Le}(h:Rp K H v x)(d:x.items=some xs):∃a e,v=.ref a/\(SqL K H a e\/SqT K H a e)/\Rps K H e xs:=by
 induction h with
 |scr h b c=>cases d;exact⟨_,_,rfl,.inl h,b,c⟩
 |lst h b c=>cases d;exact⟨_,_,rfl,.inl (SqL.of h),b,c⟩
 |tup h b c=>cases d;exact⟨_,_,rfl,.inr h,b,c⟩
 |_=>cases d
theorem FL{K:Le}{a:LX}(h:SqL K (hid H O) a vs\/SqT K (hid H O) a vs):SqL K H a vs\/SqT K H a vs:=h.imp (λz=>aH.seq z) λz=>aH.tup z
theorem bR(e:x.items=some xs):eF X (.builtin "len") [x] (.int xs.length):=cZ.mono ko λi H Q b=>by
 obtain⟨O,d,r,q⟩:=b;obtain⟨v,rfl,h⟩:=cL r;obtain⟨a,c,rfl,g,f⟩:=yp h e;exact⟨a,c,rfl,FL g,by rw[f.len];exact q _ H (.refl H) (.int _)⟩
theorem HN(n:Nat){x:Str}(h:ps[n]?=some (some (.own xs)))(e:Gl X "len")(i:X.mg "len"=none)(c:autoParam (X.N[n]?=some x) zM)(l:autoParam (Vis X.env.scope x) vN)(f:autoParam ((x==("__debug__":Str))=false) zR)
  (YB:autoParam ((x==("__classdict__":Str))=false) zR) (hs:autoParam (Lr [.Name x p'] X.env=(false,N4 (.Name x p') X.env)::Lr [] X.env) zM) (Yq:autoParam ((NT XY (Lr [] X.env)).any (·.1)=false) zM):Ev X H0 O0 ps (.Call (.Name "len" pc) [.Name x p'] [] XY) (.int xs.length):=
 PE.mono (tq ko e i LL (ci (eE c l f YB) fi hs) (by decide) (by decide) hs Yq) λo H Q g=>by
  obtain⟨O,R,q⟩:=g;obtain⟨v,d,a,k,rfl,p,m,j,b⟩:=R.at_ n _ h;exact⟨_,d,a,k,rfl,.inl (SqL.of j),by rw[b.len];exact q _ H (.refl H) (.int _)⟩
theorem nM:eF X (.builtin "abs") [.int i] (.int (if i<0 then -i else i)):=cZ.mono BB λb H Q a=>by
 obtain⟨O,d,r,q⟩:=a;obtain⟨v,rfl,h⟩:=cL r;cases h;exact⟨i,rfl,q _ H (.refl H) (.int _)⟩
theorem BJ(c:X.calm=true):eF X (.builtin "max") [.int i,.int j] (.int (if j >i then j else i)):=cZ.mono (yY c) λe H Q a=>by
 obtain⟨O,d,r,q⟩:=a;obtain⟨v,w,rfl,h,b⟩:=i7 r;cases h;cases b;exact⟨i,j,rfl,q _ H (.refl H) (.int _)⟩
theorem xO(c:X.calm=true):eF X (.builtin "min") [.int i,.int j] (.int (if j<i then j else i)):=cZ.mono (zD c) λe H Q a=>by
 obtain⟨O,d,r,q⟩:=a;obtain⟨v,w,rfl,h,b⟩:=i7 r;cases h;cases b;exact⟨i,j,rfl,q _ H (.refl H) (.int _)⟩
theorem IF:eF X (.type "int") [.bl k] (.int (if k then 1 else 0)):=cZ.mono xf λb H Q a=>by
 obtain⟨O,d,r,q⟩:=a;obtain⟨v,rfl,h⟩:=cL r;cases h;exact⟨k,rfl,q _ H (.refl H) (.int _)⟩
def tyU:U->Lw
 | .non=>.type "NoneType" | .bl _=>.type "bool" | .int _=>.type "int" | .str _=>.type "str" | .ty _=>.type "type" | .dic=>.type "dict" | .scr _=>.type "list" | .tup _=>.type "tuple" | .lst _=>.type "list"
theorem fY(p:∀m,x≠.ty m)(h:Rg X.K (tyU x) (.type n)=some k):eF X (.builtin "isinstance") [x,.ty (.nm n)] (.bl k):=by
 intro D s C H M us Q I r E;obtain⟨O,d,u,q⟩:=E;obtain⟨v,w,rfl,B,y⟩:=i7 u;cases y;obtain⟨L,F,rfl,c,A⟩:=p_ r;cases (show F=OC n from A);have a:∀t,EP X D C Q (.bool k) {s with toks:=t }:=λt=>⟨.bl k,H,I.tok _,rfl,q _ H (.refl H) (.bl _)⟩
 induction B with
 |non=>exact eO I c .non h a
 |bl b=>exact eO I c (.bl b) h a
 |int b=>exact eO I c (.int b) h a
 |str b=>exact eO I c (.str b) h a
 |ty m=>exact absurd rfl (p _)
 |dic e=>exact eO I c (.dK (aH _ _ e)) h a
 |xc e G=>exact absurd rfl (p _)
 |scr e l j=>
  cases c;obtain⟨its,_,f,_⟩:=I.list (aH.seq e);obtain⟨o,J,i,g,_⟩:=f;exact Nc SF I.kIn ⟨o,i,g⟩ h (λz=>nomatch z) a
 |lst e l j=>exact eO I c (.lst (aH _ _ e)) h a
 |tup e l j=>
  cases c;obtain⟨its,_,f,_⟩:=I.tuple (aH.tup e);obtain⟨o,i,g,_⟩:=f;exact Nc U7 I.kIn ⟨o,i,g⟩ h (λz=>nomatch z) a
end
inductive Out where
 |val (u:U) |new (xs:List U) |exc (C:LX) |dsk (d:LX) (u:U) (XZ:List (Str×U))
def qc(K:Le)(c:Hp)(e:List LX)(Q:VK)(E:XK):Out->Prop
 | .val u=>∀v b,aU c b->Rp K (hid b e) v u->Q v b
 | .new xs=>∀a f b,aU c b->c a=none->b a=some (.lst f)->Rps K (hid b (a::e)) f xs->Q (.ref a) b
 | .exc C=>∀b,aU c b->E (.ref C) none b
 | .dsk d u h=>∀v g b,aU c b->b d=some (.dK g)->DkR K (hid b (d::e)) g h->Rp K (hid b (d::e)) v u->Q v b
theorem qc.later{K:Le}(e:aU H0 H1)(h:qc K H0 O0 Q E o):qc K H1 O0 Q E o:=by
 cases o with
 |val u=>exact λv b s r=>h v b (e.trans s) r
 |new i=>exact λa c b s n q r=>h a c b (e.trans s) (e.free n) q r
 |exc C=>exact λb s=>h b (e.trans s)
 |dsk d u g=>exact λv f b s q r p=>h v f b (e.trans s) q r p
structure PD where
 nx:PSt->Prop
 rt:Out->Prop
 bk:PSt->Prop:=λ_=>False
 ct:PSt->Prop:=λ_=>False
structure Lf(K:Le)(H0:Hp)(O0:List LX)(E:XK)(D:PD)(D':ui):Prop where
 nx:∀ps σ H O,Rs K H0 O0 ps σ H O->D.nx ps->D'.nx σ H
 bk:∀ps σ H O,Rs K H0 O0 ps σ H O->D.bk ps->D'.bk σ H
 ct:∀ps σ H O,Rs K H0 O0 ps σ H O->D.ct ps->D'.ct σ H
 rt:∀o,D.rt o->qc K H0 O0 D'.rt E o
def Ws(X:Cx)(b:Hp)(a:List LX)(E:XK)(e:List Od)(D:PD)(d:PSt):Prop:=PSs X e λf c H=>Lf X.K b a E D f/\∃O,Rs X.K b a d c H O
def W1(X:Cx)(b:Hp)(a:List LX)(E:XK)(s:Od)(D:PD)(d:PSt):Prop:=PS X s λe c H=>Lf X.K b a E D e/\∃O,Rs X.K b a d c H O
variable {Ym:List Od}
section
variable {X:Cx}{H0:Hp}{O0:List LX}{E:XK}{ps YD:PSt}{D:PD}{s:Od}{ss:List Od}{a b c e:Expr}{XY p:Pos}{u x y:U}{xs ys us:List U}{k:Bool}
theorem ay(h:D.nx ps):Ws X H0 O0 E [] D ps:=PSs.mono Fb λb a H ⟨L,O,R⟩=>L.nx ps a H O R h
theorem ae(h:W1 X H0 O0 E s {D with nx:=λp=>Ws X H0 O0 E ss D p } ps):Ws X H0 O0 E (s::ss) D ps:=by
 have d:PSs X ss λb a H=>∃p,Ws X H0 O0 E ss D p/\Lf X.K H0 O0 E D b/\∃O,Rs X.K H0 O0 p a H O:=λc s a H b I ⟨p,w,l,r⟩=>w c s a H b I ⟨l,r⟩;exact PSs.mono (BE h d) λb a H ⟨L,O,R⟩=>⟨⟨λp a H O R q=>⟨p,q,L,O,R⟩,L.bk,L.ct,L.rt⟩,O,R⟩
theorem dY(h:Ws X H0 O0 E ss D YD)(hs:SubP YD ps):Ws X H0 O0 E ss D ps:=PSs.mono h λb a H ⟨L,O,R⟩=>⟨L,O,R.sub hs⟩
theorem uT{x:Str}(a:X.N.Nodup)(d:X.N[i]?=some x)(f:Loc X.env.scope x)(b:Ev X H0 O0 ps e u)(h:D.nx (ps.set i (some (.val u))))(hs:autoParam (OK e (some (.Name x Yd)) XY.line X.env=pure false) zM)(c:autoParam (X.fn x=true\/X.env.scope.names.lookup x=some .local) z0):
  W1 X H0 O0 E (.Assign [.Name x Yd] e XY) D ps:=PS.mono (xg a d f b hs c) λj g H ⟨L,O,R⟩=>⟨O,R,λv k s r=>L.nx _ _ _ O ((R.go s).set r) h⟩
theorem oy{x:Str}(b:X.N.Nodup)(d:X.N[i]?=some x)(g:Loc X.env.scope x)(c:EvN X H0 O0 ps e xs)(h:D.nx (ps.set i (some (.own xs))))(hs:autoParam (OK e (some (.Name x Yd)) XY.line X.env=pure false) zM)(f:autoParam (X.fn x=true\/X.env.scope.names.lookup x=some .local) z0):
  W1 X H0 O0 E (.Assign [.Name x Yd] e XY) D ps:=PS.mono (xg b d g c hs f) λm j H ⟨L,O,R⟩=>⟨O,R,λa l k s n q r=>L.nx _ _ _ _ (R.own s n q r) h⟩
theorem lD(a:Tt X H0 O0 ps c k)(g:k=true->Ws X H0 O0 E tb D ps)(d:k=false->Ws X H0 O0 E fb D ps):W1 X H0 O0 E (.If c tb fb XY) D ps:=by
 cases k with
 |true=>exact PS.mono (B6 a (g rfl) (λ_ _ _ _ _ _ h=>h.elim) (u:=λ_ _ _=>False)) λe b H ⟨L,O,R⟩=>⟨O,R,λf s=>rT ⟨L,O,R.go s⟩⟩
 |false=>exact PS.mono (B6 a (λ_ _ _ _ _ _ h=>h.elim) (d rfl) (t:=λ_ _ _=>False)) λe b H ⟨L,O,R⟩=>⟨O,R,λf s=>oF ⟨L,O,R.go s⟩⟩
theorem Rs.ret{K:Le}(R:Rs K H0 O0 ps σ H O)(r:Rp K (hid H O) v u):Rp K (hid H O0) v u:=r.same (a9 R.old)
theorem aF(a:Ev X H0 O0 ps e u)(h:D.rt (.val u)):W1 X H0 O0 E (.Return (some e) XY) D ps:=
 PS.mono (nN a) λd c H ⟨L,O,R⟩=>⟨O,R,λv b s r=>L.rt _ h v b (R.same.trans s) ((R.go s).ret r)⟩
theorem cX(d:EvN X H0 O0 ps e xs)(h:D.rt (.new xs)):W1 X H0 O0 E (.Return (some e) XY) D ps:=
 PS.mono (nN d) λi g H ⟨L,O,R⟩=>⟨O,R,λa c f s n q r=>L.rt _ h a c f (R.same.trans s) (R.same.free n) q (r.same (a9 λb hb=>by
  rcases Ll.mp hb with y |y
  .subst y;exact Lo
  .exact Li _ (R.old b y)))⟩
theorem pf(i:Nat){x:Str}(l:ps[i]?=some (some (.own xs)))(h:D.rt (.new xs))(e:autoParam (X.N[i]?=some x) zM)(o:autoParam (Vis X.env.scope x) vN)(j:autoParam ((x==("__debug__":Str))=false) zR)
  (YB:autoParam ((x==("__classdict__":Str))=false) zR):W1 X H0 O0 E (.Return (some (.Name x p)) XY) D ps:=
 PS.mono (nN (eE e o j YB)) λr q H k=>by
  obtain⟨L,O,R⟩:=k;obtain⟨v,f,a,n,rfl,c,g,m,d⟩:=R.at_ i _ l;refine⟨_,f,L.rt _ h a n H R.same ((R.new a c).resolve_left g) m (d.same (a9 λb hb=>?_))⟩;rcases Ll.mp hb with y |y
  .subst y;exact c
  .exact R.old b y
theorem o4(a:Ev X H0 O0 ps e u)(h:D.nx ps)(hs:autoParam (OK e none XY.line X.env=pure false) zM):W1 X H0 O0 E (.Expr e XY) D ps:=
 PS.mono (r9 a hs) λc b H ⟨L,O,R⟩=>⟨O,R,λv d s r=>L.nx _ _ _ O (R.go s) h⟩
theorem GK{x:Str}(c:PIp X op (ipI g))(a:X.N.Nodup)(k:X.N[i]?=some x)(o:Loc X.env.scope x)(l:ps[i]?=some (some (.val (.int n))))(f:Ev X H0 O0 ps e (.int m))(h:D.nx (ps.set i (some (.val (.int (g n m))))))
  (hf:autoParam (X.fn x=true\/X.env.scope.names.lookup x=some .local) z0):W1 X H0 O0 E (.AugAssign (.Name x Yd) op e XY) D ps:=
 PS.mono (HP a k o f c hf) λt p H j=>by
  obtain⟨L,O,R⟩:=j;obtain⟨v,d,b⟩:=R.at_ i _ l;cases b;refine⟨_,d,O,R,λv q s r=>?_⟩;cases r;exact⟨n,m,rfl,rfl,L.nx _ _ _ O ((R.go s).set (.int _)) h⟩
theorem e9(i){x:Str}(d:ps[i]?=some (some (.own xs)))(g:Ev X H0 O0 ps e u)(l:xs.length<sizeLine)(h:D.nx (ps.set i (some (.own (xs++[u])))))
  (hN:autoParam (X.N[i]?=some x) zM) (hv:autoParam (Vis X.env.scope x) vN) (hd:autoParam ((x==("__debug__":Str))=false) zR) (YB:autoParam ((x==("__classdict__":Str))=false) zR)
  (Yf:autoParam (NC (.Name x xp) "append" X.env (N4 (.Name x xp) X.env)=N4 (.Name x xp) X.env) zM)
  (YO:autoParam (((NT X4 (Lr [e] X.env)).all (λx=>!x.1) && (Ri X4 (Pm [] X.env)).all (λx=>x.1.isSome) && decide ([e].length+([]:List Q9).length+(if ([]:List Q9).isEmpty then 0 else 1)<30))=true) zM)
  (Yg:autoParam ((X7.endLine==X4.line)=true) zM) (Zt:autoParam (Lr [e] X.env=(false,N4 e X.env)::Lr [] X.env) zM) (Yh:autoParam ((NT X4 (Lr [] X.env)).any (·.1)=false) zM)
  (hs:autoParam (OK (.Call (.Attribute (.Name x xp) "append" X7) [e] [] X4) none XY.line X.env=pure false) zM):W1 X H0 O0 E (.Expr (.Call (.Attribute (.Name x xp) "append" X7) [e] [] X4) XY) D ps:=
 PS.mono (r9 (uJ S7 PySem.F.slot_list_append PySem.F.type_list_append pT (eE hN hv hd YB) (ci g fi Zt) Yf YO Yg Zt Yh) hs) λq n H j=>by
  obtain⟨L,O,R⟩:=j;obtain⟨v,c,a,k,rfl,p,m,f,b⟩:=R.at_ i _ d;refine⟨_,c,.inl ⟨rfl,_,SqL.of f⟩,O,R,λw o s r=>⟨a,k,w,rfl,rfl,s _ _ f,by rw[b.len];exact l,?_⟩⟩;exact L.nx _ _ _ O ((R.go s).write d c ((b.same (aP s)).snoc (.cons r .nil))) h
theorem Ga(i){x:Str}(k:ps[i]?=some (some (.own xs)))(m:xs≠[])(h:D.nx (ps.set i (some (.own xs.dropLast))))
  (hN:autoParam (X.N[i]?=some x) zM) (hv:autoParam (Vis X.env.scope x) vN) (hd:autoParam ((x==("__debug__":Str))=false) zR) (YB:autoParam ((x==("__classdict__":Str))=false) zR)
  (Yf:autoParam (NC (.Name x xp) "pop" X.env (N4 (.Name x xp) X.env)=N4 (.Name x xp) X.env) zM)
  (Yg:autoParam ((X7.endLine==X4.line)=true) zM)
  (hs:autoParam (OK (.Call (.Attribute (.Name x xp) "pop" X7) [] [] X4) none XY.line X.env=pure false) zM):W1 X H0 O0 E (.Expr (.Call (.Attribute (.Name x xp) "pop" X7) [] [] X4) XY) D ps:=
 PS.mono (r9 (B2 S7 PySem.F.slot_list_pop PySem.F.type_list_pop Hv (eE hN hv hd YB) Yf Yg) hs) λs q H n=>by
  obtain⟨L,O,R⟩:=n;obtain⟨v,f,a,b,rfl,r,p,l,e⟩:=R.at_ i _ k;have g:0<b.length:=by rw[e.len];exact LQ.mpr m
  have o:b.length-1<b.length:=by lia
  refine⟨_,f,.inl ⟨rfl,_,SqL.of l⟩,a,b,b[b.length-1],rfl,rfl,l,Ld o,?_⟩;refine L.nx _ _ _ O (R.write k f ⟨by simp[e.len],λj v x d c=>?_⟩) h;rw[OS]at d c;split at d
  .split at c
   .exact e.at_ j v x d c
   .cases c
  .cases d
end
def rn:List Nat->TGs
 |[]=>J_
 |j::js=>Gj (tW j) (rn js)
def setAll:PSt->List Nat->List U->PSt
 |ps,j::js,u::us=>setAll (ps.set j (some (.val u))) js us
 |ps,_,_=>ps
def mI:St->List Nat->List V->St
 |σ,j::js,u::us=>mI (σ.set j (some u)) js us
 |σ,_,_=>σ
theorem Rs.setAll{K:Le}:∀{js}{ps}{b}{a}{c},Rs K H0 O0 ps b H O->Rps K (hid H O) a c->Rs K H0 O0 (L2.setAll ps js c) (mI b js a) H O
 |[],ps,b,a,c,R,r=>by cases c <;>cases a <;>exact R
 |j::js,ps,b,a,[],R,r=>by rw[r.nil_inv];exact R
 |j::js,ps,b,a,u::c,R,r=>by
  obtain⟨v,f,rfl,e,d⟩:=r.cons_inv;exact Rs.setAll (js:=js) (R.set e) d
theorem i8:∀{b}{σ}{a},a.length=b.length->Q (mI σ b a) H->rn b a σ H Q
 |[],σ,[],_,q=>⟨rfl,q⟩
 |j::b,σ,v::a,e,q=>⟨v,a,rfl,i8 (by simpa using e) q⟩
 |[],_,_::_,e,_=>by simp at e
 |_::_,_,[],e,_=>by simp at e
def TgS(X:Cx)(d:Hp)(c:List LX)(h:Expr)(f:PSt)(u:U)(g:PSt):Prop:=
 PG X h λv e H Q=>∃O,Rs X.K d c f e H O/\Rp X.K (hid H O) v u/\∀b a,aU H a->Rs X.K d c g b a O->Q b a
theorem PG.mono(h:PG X e t)(m:∀v a H Q,t' v a H Q->t v a H Q):PG X e t':=λb s a H v u Q I r q=>h b s a H v u Q I r (m v a H Q q)
theorem PI.mono(h:PI X tg e t)(m:∀a H Q,t' a H Q->t a H Q):PI X tg e t':=λb s a H Q I q=>h b s a H Q I (m a H Q q)
def Yl(K:Le)(J:It)(G:Hp)(xs:List U):Prop:=
 ∀a,aU G a->(∀i,i<xs.length->J.go i a/\∀x b,J.yld i a x b->b=a/\∃u,xs[i]?=some u/\Rp K G x u)/\J.stop xs.length a
def EvI(X:Cx)(g:Hp)(c:List LX)(e:PSt)(f a:Expr)(xs:List U):Prop:=
 PI X f a λd H R=>∃O,Rs X.K g c e d H O/\∀J b,aU H b->Yl X.K J (hid b O) xs->R J b
section
variable {X:Cx}{H0:Hp}{O0:List LX}{E:XK}{ps YD:PSt}{D:PD}{s:Od}{ss:List Od}{a b c e tg iter:Expr}{XY p:Pos}{u x y:U}{xs ys us:List U}{k:Bool}
theorem gB{x:Str}(a:X.N.Nodup)(c:X.N[i]?=some x)(d:Loc X.env.scope x)(b:autoParam (X.fn x=true\/X.env.scope.names.lookup x=some .local) z0):TgS X H0 O0 (.Name x XY) ps u (ps.set i (some (.val u))):=
 PG.mono (aM a c d b) λv e H Q ⟨O,R,r,q⟩=>q _ H (.refl H) (R.set r)
theorem JA{k:Nat}(js)(i:X.calm=true)(h:PGs X es (rn js))(j:x=.lst us\/x=.scr us)(b:us.length=js.length)(g:autoParam ((P9 es X.env).length=js.length) zM)(e:autoParam ((P9 es X.env).findIdx? (·.1)=none) zM):TgS X H0 O0 (.Tuple es k XY) ps x (setAll ps js us):=
 PG.mono (Hi i h g e) λv l H Q f=>by
  obtain⟨O,R,r,q⟩:=f;rcases j with rfl |rfl
  .cases r with
   |lst d a c=>exact⟨_,_,rfl,aH.seq (SqL.of d),a.trans b,i8 (a.trans b) (q _ H (.refl H) (R.setAll ⟨a,c⟩))⟩
  .cases r with
   |scr d a c=>exact⟨_,_,rfl,aH.seq d,a.trans b,i8 (a.trans b) (q _ H (.refl H) (R.setAll ⟨a,c⟩))⟩
theorem Ju(f:Ev X H0 O0 ps e u)(b:TgS X H0 O0 tg ps u YD)(h:D.nx YD)(hs:autoParam (SZ [tg] e XY.line X.env=pure false) zM)(c:autoParam (S0 [tg] e X.env=pure none) zM)
  (h1:autoParam ((P9 [tg] X.env).map (·.2)=[assign tg X.env]) zM):W1 X H0 O0 E (.Assign [tg] e XY) D ps:=
 PS.mono (GX f b hs c h1) λm k H ⟨L,O,R⟩=>⟨O,R,λv l d a=>⟨O,R.go d,a,λj g i R2=>L.nx _ _ _ O R2 h⟩⟩
theorem Jo{x y:Str}{kt k2 pt2}(m:X.calm=true)(c:X.N.Nodup)(l:X.N[i]?=some x)(k:X.N[j]?=some y)(n:i≠j)
  (hx:X.env.scope.names.lookup x=some .local) (hy:X.env.scope.names.lookup y=some .local) (ha:EvA X H0 O0 ps [a,b] [u,w])
  (hw:S0 [.Tuple [.Name x px,.Name y py] kt pt] (.Tuple [a,b] k2 pt2) X.env=pure (some [x,y])) (h:D.nx ((ps.set i (some (.val u))).set j (some (.val w))))
  (hs:autoParam (SZ [.Tuple [.Name x px,.Name y py] kt pt] (.Tuple [a,b] k2 pt2) XY.line X.env=pure false) zM):
  W1 X H0 O0 E (.Assign [.Tuple [.Name x px,.Name y py] kt pt] (.Tuple [a,b] k2 pt2) XY) D ps:=
 PS.mono (Hj m c l k n hx hy ha hw hs) λr o H ⟨L,O,R⟩=>⟨O,R,λq p g d=>by
  obtain⟨v,z,rfl,f,e⟩:=i7 d;exact⟨v,z,rfl,L.nx _ _ _ O (((R.go g).set f).set e) h⟩⟩
theorem bV(l:Ev X H0 O0 ps iter x)(n:x=.lst xs\/x=.scr xs):EvI X H0 O0 ps tg iter xs:=
 PI.mono (FK l) λp H Q ⟨O,R,q⟩=>⟨O,R,λv g s r=>by
  have j:∃a b,v=.ref a/\SqL X.K (hid g O) a b/\Rps X.K (hid g O) b xs:=by
   rcases n with rfl |rfl
   .cases r with
    |lst c h e=>exact⟨_,_,rfl,SqL.of c,h,e⟩
   .cases r with
    |scr c h e=>exact⟨_,_,rfl,c,h,e⟩
  obtain⟨a,b,rfl,c,d⟩:=j;refine⟨a,rfl,⟨b,aH.seq c⟩,q _ g s λo f=>⟨λi k=>?_,⟨b,f.seq c,by rw[d.len];exact Lk _⟩⟩⟩;have m:i<b.length:=by rw[d.len];exact k
  refine⟨⟨b,b[i],f.seq c,Ld m⟩,λz t y=>⟨y.1,xs[i],Ld k,d.at_ i z _ (y.2 b (f.seq c)) (Ld k)⟩⟩⟩
theorem JT(j:Ev X H0 O0 ps iter (.tup xs)):EvI X H0 O0 ps tg iter xs:=
 PI.mono (Ie j) λn H Q ⟨O,R,q⟩=>⟨O,R,λv g s r=>by
  cases r with
  | @tup a b _ c k h=>
   have d:Rps X.K (hid g O) b xs:=⟨k,h⟩;refine⟨a,rfl,⟨b,aH.tup c⟩,q _ g s λm e=>⟨λi f=>?_,⟨b,e.tup c,by rw[d.len];exact Lk _⟩⟩⟩;have l:i<b.length:=by rw[d.len];exact f
   refine⟨⟨b,b[i],e.tup c,Ld l⟩,λz o y=>⟨y.1,xs[i],Ld f,d.at_ i z _ (y.2 b (e.tup c)) (Ld f)⟩⟩⟩
def hJ(lo:Int)(n:Nat):List U:=(MK n).map λ(i:Nat)=>U.int (lo+(i:Int))
theorem gT{lo:Int}:(hJ lo n).length=n:=by simp[hJ]
theorem qB{lo:Int}(h:i<n):(hJ lo n)[i]?=some (.int (lo+(i:Int))):=by
 unfold hJ;rw[Lq,N8 h];rfl
theorem m7{lo:Int}(h:(hJ lo n)[i]?=some x):i<n/\x=.int (lo+(i:Int)):=by
 have a:=aL h;rw[gT]at a;rw[qB a]at h;exact⟨a,(Ma h).symm⟩
theorem sW{K:Le}{lo:Int}:Yl K (Itr lo n) G (hJ lo n):=λc b=>by
 rw[gT];refine⟨λi a=>⟨a,λz d y=>⟨y.1,_,qB a,?_⟩⟩,Lk _⟩;rw[y.2];exact .int _
theorem uH(e:Gl X "range")(g:X.mg "range"=none)(b:EvA X H0 O0 ps [a] [.int j])(d:-(2 ^ 62)≤j)(c:j<2 ^ 62)(hs:autoParam (Lr [a] X.env=[(false,N4 a X.env)]) zM):EvI X H0 O0 ps tg (.Call (.Name "range" p) [a] [] XY) (hJ 0 j.toNat):=
 PI.mono (zQ e g b hs) λi H Q ⟨O,R,q⟩=>⟨O,R,λk f s r=>by
  obtain⟨v,rfl,h⟩:=cL r;cases h;exact⟨j,rfl,d,c,q _ f s sW⟩⟩
theorem CB(f:Gl X "range")(k:X.mg "range"=none)(d:EvA X H0 O0 ps [a,b] [.int i,.int j])(h:-(2 ^ 62)≤i∧i<2 ^ 62∧-(2 ^ 62)≤j∧j<2 ^ 62)(hs:autoParam (Lr [a,b] X.env=[(false,N4 a X.env),(false,N4 b X.env)]) zM)(e:autoParam (Lr [b] X.env=[(false,N4 b X.env)]) zM):
  EvI X H0 O0 ps tg (.Call (.Name "range" p) [a,b] [] XY) (hJ i (j-i).toNat):=
 PI.mono (zF f k d hs e) λm H Q ⟨O,R,q⟩=>⟨O,R,λn g s r=>by
  obtain⟨v,w,rfl,c,l⟩:=i7 r;cases c;cases l;exact⟨i,j,rfl,h,q _ g s sW⟩⟩
def iX(lo c:Int)(n:Nat):List U:=(MK n).map λ(i:Nat)=>U.int (lo+(i:Int) *c)
theorem iE{lo c:Int}:(iX lo c n).length=n:=by simp[iX]
theorem nT{lo c:Int}(h:i<n):(iX lo c n)[i]?=some (.int (lo+(i:Int) *c)):=by
 unfold iX;rw[Lq,N8 h];rfl
theorem tD{lo c:Int}(h:(iX lo c n)[i]?=some x):i<n/\x=.int (lo+(i:Int) *c):=by
 have a:=aL h;rw[iE]at a;rw[nT a]at h;exact⟨a,(Ma h).symm⟩
theorem BK(k:Gl X "range")(n:X.mg "range"=none)(g:EvA X H0 O0 ps [a,b,c] [.int i,.int j,.int m])(h:-(2 ^ 60)≤i∧i<2 ^ 60∧-(2 ^ 60)≤j∧j<2 ^ 60∧0<m∧m<2 ^ 30)(hs:autoParam (Lr [a,b,c] X.env=[(false,N4 a X.env),(false,N4 b X.env),(false,N4 c X.env)]) zM)
  (Zc:autoParam (Lr [b,c] X.env=[(false,N4 b X.env),(false,N4 c X.env)]) zM):
  EvI X H0 O0 ps tg (.Call (.Name "range" p) [a,b,c] [] XY) (iX i m (iF i j m)):=
 PI.mono (AK k n g hs Zc) λx H Q ⟨O,R,q⟩=>⟨O,R,λB l s r=>by
  obtain⟨v,A,rfl,f,d⟩:=r.cons_inv;obtain⟨w,z,rfl,d,o⟩:=i7 d;cases f;cases d;cases o;refine⟨i,j,m,rfl,h,q _ l s λt u=>?_⟩;rw[iE];refine⟨λi e=>⟨e,λz C y=>⟨y.1,_,nT e,?_⟩⟩,Lk _⟩;rw[y.2];exact .int _⟩
theorem Rs.rebase{K:Le}(R:Rs K H0 O0 ps σ H O):Rs K (hid H (O.filter λa=>decide (a ∉ O0))) O0 ps σ H O:=
 ⟨aH,R.old,λa ha=>by
  by_cases h:a∈O0
  .exact .inl h
  .right;unfold hid;rw[if_pos (Mr.mpr ⟨ha,by simpa using h⟩)],R.dom,R.len,R.at_,R.inj⟩
theorem Rs.base{K:Le}(R:Rs K H0 O0 ps σ H O):aU H0 (hid H (O.filter λa=>decide (a ∉ O0))):=λb o h=>by
 refine cW (R.same b o h) λz=>?_;obtain⟨d,c⟩:=Mr.mp z;rcases R.new b d with y |y
 .simp[y]at c
 .rw[h]at y;cases y
theorem Rs.unbase{K:Le}(e:aU H0 H1)(R:Rs K H1 O0 ps σ H O):Rs K H0 O0 ps σ H O:=
 ⟨e.trans R.same,R.old,λa ha=>(R.new a ha).imp id λz=>e.free z,R.dom,R.len,R.at_,R.inj⟩
theorem Rs.seen{K:Le}(R:Rs K H0 O0 ps σ H O)(e:Rs K (hid H (O.filter λa=>decide (a ∉ O0))) O0 ZY σ2 H2 O2):aU (hid H O) (hid H2 O2):=λb o h=>by
 obtain⟨f,d⟩:=gU h;have c:hid H (O.filter λa=>decide (a ∉ O0)) b=some o:=cW f λz=>d (Mr.mp z).1;refine cW (e.same b o c) λz=>?_;rcases e.new b z with y |y
 .exact d (R.old b y)
 .rw[c]at y;cases y
theorem JC(hc:X.calm=true)(hp:T5 (L6 X.prog X.w) X.A X.env X.xe)(hi:EvI X H0 O0 ps tg iter xs)(f:Nat->PSt->Prop)(U:f 0 ps)
  (hs:∀H0 i x ps,xs[i]?=some x->f i ps->∃YD,TgS X H0 O0 tg ps x YD/\Ws X H0 O0 E Ym {D with nx:=f (i+1),ct:=f (i+1),bk:=D.nx } YD) (hd:∀ps,f xs.length ps->D.nx ps)
  (hf:autoParam (∀x,Nf iter X.env x=pure x) k4):W1 X H0 O0 E (.For tg iter Ym [] XY) D ps:=by
 have P:PG X tg λv b H Q=>∃c ps u YD,TgS X c O0 tg ps u YD/\∃O,Rs X.K c O0 ps b H O/\Rp X.K (hid H O) v u/\∀g d,aU H d->Rs X.K c O0 YD g d O->Q g d:=
  λn s b H v u Q I r q=>by obtain⟨_,_,_,_,t,z⟩:=q;exact t n s b H v u Q I r z
 have hb:PSs X Ym λh b H=>∃c G YD,Ws X c O0 E Ym G YD/\Lf X.K c O0 E G h/\∃O,Rs X.K c O0 YD b H O:=λn s b H h I q=>by obtain⟨_,_,_,w,z⟩:=q;exact w n s b H h I z
 refine PS.mono (HC hp hc hi P hb hf) λh b H ⟨L,O,R⟩=>⟨O,R,λJ c S Y=>?_⟩
 have k:=R.go S;have base:=k.base;refine⟨λi m b H=>m=xs.length-i/\i<=xs.length/\∃ps l,f i ps/\Rs X.K (hid c (O.filter λa=>decide (a ∉ O0))) O0 ps b H l,⟨_,rfl,Mu _,ps,O,U,k.rebase⟩,?_⟩;rintro i m V N ⟨rfl,W,j,B,F,R2⟩;have seen:=k.seen R2;obtain⟨M,y2⟩:=Y N (seen.trans aH);by_cases C:i<xs.length
 .obtain⟨T,g2⟩:=M i C;refine .inr ⟨T,λg d=>∃ps l,f (i+1) ps/\Rs X.K (hid c (O.filter λa=>decide (a ∉ O0))) O0 ps g d l,λg d z=>⟨xs.length-(i+1),by omega,rfl,C,z⟩,λx H3 y=>?_⟩;obtain⟨rfl,u,hu,r⟩:=g2 x H3 y;obtain⟨YD,t,w⟩:=hs (hid c (O.filter λa=>decide (a ∉ O0))) i u j hu F;refine⟨_,j,u,YD,t,B,R2,r.same seen,λg d s' Z=>⟨_,_,YD,w,?_,B,Z⟩⟩;exact⟨λp b H O R q=>⟨p,O,q,R⟩,λp b H O R q=>L.nx _ _ _ _ (R.unbase base) q,λp b H O R q=>⟨p,O,q,R⟩,λo q=>(L.rt o q).later base⟩
 .have e:i=xs.length:=by omega
  subst e;exact .inl ⟨y2,L.nx _ _ _ _ (R2.unbase base) (hd j F)⟩
theorem EI(x:T5 (L6 X.prog X.w) X.A X.env X.xe)(e:Nat->PSt->Prop)(m)(u:e m ps)
  (hs:∀m ps,e m ps->∃b,Tt X H0 O0 ps c b/\(b=true->Ws X H0 O0 E Ym {D with nx:=λp=>∃d,d<m/\e d p,ct:=λp=>∃d,d<m/\e d p,bk:=D.nx } ps)/\(b=false->D.nx ps)):W1 X H0 O0 E (.While c Ym [] XY) D ps:=by
 have B:PT X c λa H Q=>∃ps b,Tt X H0 O0 ps c b/\∃O,Rs X.K H0 O0 ps a H O/\∀h,aU H h->Q b h:=λi s a H Q I q=>by obtain⟨_,_,t,z⟩:=q;exact t i s a H Q I z
 have hb:PSs X Ym λf a H=>∃n YD,Ws X H0 O0 E Ym n YD/\Lf X.K H0 O0 E n f/\∃O,Rs X.K H0 O0 YD a H O:=λi s a H f I q=>by obtain⟨_,_,w,z⟩:=q;exact w i s a H f I z
 refine PS.mono (Cq x B hb) λf a H ⟨L,O,R⟩=>⟨λm a H=>∃ps O,e m ps/\Rs X.K H0 O0 ps a H O,⟨m,ps,O,u,R⟩,?_⟩
 rintro m v C ⟨g,j,y,R2⟩;obtain⟨b,t,r,o⟩:=hs m g y;refine⟨g,b,t,j,R2,λG k=>?_⟩;cases b with
 |true=>
  refine rT ⟨λa H=>∃d,d<m/\∃ps O,e d ps/\Rs X.K H0 O0 ps a H O,λF h z=>z,_,g,r rfl,?_,j,R2.go k⟩;exact⟨λp a H O R ⟨d,l,q⟩=>⟨d,l,p,O,q,R⟩,λp a H O R q=>L.nx _ _ _ _ R q,λp a H O R ⟨d,l,q⟩=>⟨d,l,p,O,q,R⟩,L.rt⟩
 |false=>exact oF (L.nx _ _ _ _ (R2.go k) (o rfl))
def fv:List Nat->PSt->PSt
 |[],ps=>ps
 |i::is,ps=>fv is (ps.set i none)
theorem Rs.mask{K:Le}:∀{is}{ps}{a},Rs K H0 O0 ps a H O->Rs K H0 O0 (fv is ps) (L2.mask is a) H O
 |[],ps,a,R=>R
 |i::is,ps,a,R=>Rs.mask (is:=is) (R.drop)
theorem Rs.hide{K:Le}(R:Rs K H0 O0 ps σ H O)(e:aU H H')(n:H l=none)(d:H' l≠none):Rs K H0 O0 ps σ H' (l::O):=by
 refine⟨R.same.trans e,λa ha=>Li _ (R.old a ha),λa ha=>?_,λa ha z=>?_,R.len,λi s h=>?_,R.inj⟩
 .rcases Ll.mp ha with y |y
  .subst y;exact .inr (R.same.free n)
  .exact R.new a y
 .rcases Ll.mp ha with y |y
  .subst y;exact d z
  .exact R.dom a y (e.free z)
 .obtain⟨w,o,c⟩:=R.at_ i s h;refine⟨w,o,?_⟩;cases s with
  |val u=>exact Rp.same (bH e n) c
  |own ys=>
   obtain⟨b,q,f,m,j,k,g⟩:=c;exact⟨b,q,f,Li _ m,j,e _ _ k,g.same (bH e n)⟩
  |pin z u=>exact⟨c.1,Rp.same (bH e n) c.2⟩
  |dsk w C b d v=>obtain⟨p,r,f,m,j,k,g,t⟩:=c;exact⟨p,r,f,Li _ m,j,e _ _ k,e _ _ g,t.same (bH e n)⟩
theorem tZ{js is:List Nat}:∀{b}{a},(∀j∈js,j∈is)->∀n v,n ∉ is->b[n]?=some (some v)->(mI b js a)[n]?=some (some v):=by
 induction js with
 |nil=>intro b a _ n v _ h;cases a <;>exact h
 |cons j js e=>
  intro b a c n v d h;cases a with
  |nil=>exact h
  |cons w g=>exact e (λz f=>c z (Li _ f)) n v d (by rw[L0 (λz=>d (by rw[<-z];exact c j Lo))];exact h)
def GOk(g:TG)(K:Le)(is:List Nat)(f:PSt->U->PSt)(c:U->Prop):Prop:=
 ∀(H0:Hp) (O0:List LX) (ps:PSt) (b:St) (H:Hp) (O:List LX) (v:V) (u:U) (Q:St->Hp->Prop),c u->Rs K H0 O0 ps b H O->Rp K (hid H O) v u->
  (∀a,Rs K H0 O0 (f ps u) a H O->(∀(n:Nat) (w:V),n ∉ is->b[n]?=some (some w)->a[n]?=some (some w))->Q a H)->g v b H Q
theorem bL{K:Le}(h:i∈is):GOk (tW i) K is (λps u=>ps.set i (some (.val u))) λ_=>True:=λH0 O0 ps b H O v u Q _ R r q=>
 q _ (R.set r) λn w a e=>by rw[L0 (λz=>a (by rw[<-z];exact h))];exact e
theorem gw{K:Le}(h:∀j∈js,j∈is):GOk (Jy K js.length (rn js)) K is (λps u=>match u with | .tup us=>setAll ps js us |_=>ps) λu=>∃us,u=.tup us/\us.length=js.length:=λH0 O0 ps i H O v u Q d R r q=>by
 obtain⟨us,rfl,b⟩:=d;cases r with
 |tup g a c=>exact⟨_,_,rfl,aH.tup g,a.trans b,i8 (a.trans b) (q _ (R.setAll ⟨a,c⟩) λn w f e=>tZ h n w f e)⟩
end
def Yz(K:Le)(J:It)(G:Hp)(xs:List U):Prop:=
 ∀b,aU G b->(∀i,i<xs.length->J.go i b/\∀x d,J.yld i b x d->aU b d/\∃u,xs[i]?=some u/\∀c,(∀a∈c,b a≠none)->aU G (hid b c)->Rp K (hid d c) x u)/\J.stop xs.length b
def EvZ(X:Cx)(g:Hp)(c:List LX)(e:PSt)(f a:Expr)(xs:List U):Prop:=
 PI X f a λd H R=>∃O,Rs X.K g c e d H O/\∀J b,aU H b->Yz X.K J (hid b O) xs->R J b
def Gc(is:List Nat)(g:St)(l:LX)(h:TE)(W:Nat->Nat->Hp->Prop)(i m:Nat)(a:St)(b:Bool)(e:Hp):Prop:=
 (∀(j:Nat) (v:V),(mask is g)[j]?=some (some v)->a[j]?=some (some v))/\
   if b=true then h a e λy f=>∃d,f l=some (.lst d)/\d.length<sizeLine/\∃c,c<m/\W (i+1) c (upd f l (.lst (d++[y]))) else ∃c,c<m/\W (i+1) c e
def yl(is:List Nat)(g:TG)(h:TT)(j:TE)(c:St)(Q:VK)(J:It)(e:Hp):Prop:=∀l,e l=none->
 ∃W:Nat->Nat->Hp->Prop,(∃m,W 0 m (upd e l (.lst [])))/\∀i m a,W i m a->
  (J.stop i a/\Q (.ref l) a)\/(J.go i a/\∀x d,J.yld i a x d->g x (mask is c) d λb f=>h b f (Gc is c l j W i m b))
def Tst(X:Cx)(f:VS)(e:List (Str×LX))(a:List Expr)(b:TT):Prop:=(a=[]/\∀d H Q,b d H Q->Q true H)\/∃c,a=[c]/\∀C s H g,PT (br X f e C s H g) c b
abbrev eL(h:OG):OG:=h.push {cls:=.type "list",dict:=none,data:=.seq ([]:List Lw).toArray }
abbrev bX(X:Cx)(b:VS)(a:List (Str×LX))(s:LB)(H:Hp)(l:LX)(c:List LX):Cx:=br X b a s.heap.objs.size s (upd H l (.lst [])) c
section
variable {X:Cx}{XW:List (LX×Obj)}{σ:St}{H:Hp}{s:LB}
theorem qq(hc:X.calm=true)(B:dJ X XX cl is)
  (hg:∀C s H f,PG (br X XX cl C s H f) tg g) (ht:Tst X XX cl cs tt) (he:∀C s H f,PE (br X XX cl C s H f) YZ te) (hs:∀x,Nf iter X.env x=pure x)
  (I:Inv X XW σ H s) (hi:Me (L6 X.prog X.w) X.A (N4 iter X.env) (λv s1=>Me (L6 X.prog X.w) X.A (Wc v) (PIE X XW σ tg (yl is g tt te σ Q0)) X.xe s1) X.xe s)
  (fin:∀l C h j m,Inv X XW σ h j->j.heap.Ns C m->h C=none->C≠X.env.locals->C ∉ X.fs->X.s₀.heap.objs.size<=C->(∀x c,X.env.cells.lookup x=some c->c≠C)->(∀p∈X.pn++XW,p.1≠C)->Q0 (.ref l) h->
   compPost (L6 X.prog X.w) X.A X.xe use Q (.ref l) C (.ok .next) j):
  Me (L6 X.prog X.w) X.A (comprehension (.ListComp YZ [⟨tg,iter,cs,0⟩] XX XY) XX X.env pos0 (newList []) false (N4 iter X.env) use) Q X.xe s:=by
 refine wpAny_comprehension_free rfl hs B.clos B.kind B.names (thn hi λxv s1 h1=>thn h1 λitv a h2=>?_);obtain⟨it,f,tn,J,t,e,I2,T,st2,f2,R⟩:=h2;subst e;refine Pw (wpAny_newFunctionEnv B.cell (by intro y hy;simp at hy) (λG hns Ze=>?_) B.kind);have hl:=I2.hok.fresh (Lk _);obtain⟨W,⟨m0,w0⟩,P⟩:=R a.heap.objs.size hl
 have K:Inv X XW σ (upd t a.heap.objs.size (.lst [])) {a with heap:=eL a.heap }:=
  I2.laid (λb u e=>Lj _ e) (Lk _) ⟨Mu _,[],0,.nil,LC _ rfl⟩
 have Y:∀b∈f,b<a.heap.objs.size:=λb hb=>let ⟨o,e,_⟩:=T.obj 0 _ st2 b hb;Lx e
 have N:∀b∈f,mw X XW (upd t a.heap.objs.size (.lst [])) b:=λb hb=>⟨by rw[aI (L3 (Y b hb))];exact (f2 b hb).1,(f2 b hb).2⟩
 have kp:∀b o,(eL a.heap).get? b=some o->G.get? b=some o:=λb o e=>
  Ze.extBut b o (L3 (Lx e)) (Lj _ e)
 have st4:=T.keep 0 _ _ st2 λb _ o e=>kp b o (Lj _ e)
 have hfl3:∀b∈f,b<(eL a.heap).objs.size:=λb hb=>by
  rw[NS];exact OD (Y b hb)
 have I4:=vh (t':=a.toks+([]:List (Str×Lw)).length) K B N hfl3 hns kp
 have loop:RE (L6 X.prog X.w) X.A (.compLoop (.ListComp YZ [⟨tg,iter,cs,0⟩] XX XY) 0 (.ref it) (.ref a.heap.objs.size) (compEnvC XX cl (eL a.heap).objs.size X.env))
   (compPost (L6 X.prog X.w) X.A X.xe use Q (.ref a.heap.objs.size) (eL a.heap).objs.size)
   {a with heap:=G,toks:=a.toks+([]:List (Str×Lw)).length }:=by
  generalize hs3:({a with heap:=eL a.heap }:LB)=D at *
  have hC:(eL a.heap).objs.size=D.heap.objs.size:=by rw[<-hs3]
  rw[hC]
  have ZZ:∀{h},(∀b∈f,h b=none)->∀b∈f,mw (bX X XX cl D t a.heap.objs.size f) [] h b:=λhn b hb=>
   ⟨hn b hb,(I4.ok.exf b hb).1,I4.ok.exfs b hb,.inl hb,λx c e=>(I4.ok.exf b hb).2 x c e,λp hp=>absurd hp (by simp)⟩
  have back:∀{X8}{h}{pp}{j},Inv (bX X XX cl D t a.heap.objs.size f) pp X8 h j->Inv X XW σ h j:=λI'=>
   K.call' I'.os I'.base I'.hok I'.bare λb hb=>⟨(N b hb).2.2.2.1,(N b hb).2.1,(N b hb).2.2.2.2.1,(N b hb).2.2.2.2.2⟩
  refine codeAny_loop rfl (λn j=>∃i h,Inv (bX X XX cl D t a.heap.objs.size f) [] (mask is σ) h j/\tn i j.heap/\(∀b∈f,h b=none)/\W i n h) ?_ m0 ⟨0,_,(by subst hs3;exact I4),st4,λb hb=>(N b hb).1,w0⟩;rintro n s5 ⟨i,H5,I5,st5,V,w5⟩;refine wpAny_noted ?_;rw[compTurn_list];refine Lh (S6 (Lh ?_));rcases P i n H5 w5 with ⟨U,q⟩ |⟨go,step⟩
  .refine thn (T.done (bX X XX cl D t a.heap.objs.size f) rfl rfl rfl hc i [] s5 _ H5 _ I5 (ZZ V) st5 U) λr s6 ⟨hr,I6⟩=>?_;subst hr;refine Lm ?_;obtain⟨m6,hn6,_⟩:=I6.loc;refine fin _ D.heap.objs.size H5 s6 m6 (back I6) hn6 I6.free (PR K.lt) (K.nofs (Lk _)) K.sz (λx c e=>?_) (λp hp=>?_) q
   .obtain⟨v,z⟩:=K.cell x c e;exact L3 z.lt
   .exact L3 (Lx (K.pin p hp).1)
  .refine thn (T.item (bX X XX cl D t a.heap.objs.size f) rfl rfl rfl hc i [] s5 _ H5 _ I5 (ZZ V) st5 go) λr s6 F=>?_;obtain⟨u,hr,h6⟩:=F;subst hr;refine Lh (thn h6 λ_ s7 F=>?_);obtain⟨x,H7,I7,r7,y7,L,fr7⟩:=F;have I7':=I7.pinned (ZZ fr7) (T.obj _ _ L);refine Lh (Pv (hg _ _ _ _ _ s7 (mask is σ) H7 x u _ I7' r7 (step x H7 y7)) (λ_ s8 F=>?_) λ_ _ z=>z.elim);obtain⟨k,H8,I8,q8⟩:=F;refine Lh (Pv (Q:=TP (bX X XX cl D t a.heap.objs.size f) ([]++kS f s7.heap) k (Gc is σ a.heap.objs.size te W i n k)) (E:=λ_ _=>False) ?_ (λbb s9 ⟨H9,O,sub,q9⟩=>?_) λ_ _ z=>z.elim)
   .rcases ht with ⟨rfl,z⟩ |⟨c,rfl,z⟩
    .exact wpAny_tests_nil ⟨H8,I8,z _ _ _ q8⟩
    .exact wpAny_tests_one (z _ _ _ _ _ s8 k H8 _ I8 q8)
   have S:∀{h}{j}{X8},Inv (bX X XX cl D t a.heap.objs.size f) ([]++kS f s7.heap) X8 h j->tn (i+1) j.heap/\∀b∈f,h b=none:=λ{h j X8} J=>⟨T.keep _ _ _ L λb hb o e=>(J.pin (b,o) (LR _ (LR _ (gq hb e)))).1,λb hb=>by
    obtain⟨o,e,d⟩:=T.obj _ _ L b hb;exact (J.pin (b,o) (LR _ (LR _ (gq hb e)))).2.1⟩
   cases bb with
   |true=>
    simp only[if_true];refine Lh (Lh (Pv (he _ _ _ _ _ s9 k H9 _ O q9) (λv s10 F=>?_) λ_ _ z=>z.elim));obtain⟨y,Z,I10,r10,vs,hl10,hz,m',hm,w'⟩:=F;refine Lh (Pv (pT (X:=bX X XX cl D t a.heap.objs.size f) _ s10 k Z (.ref a.heap.objs.size) [y] (.ref a.heap.objs.size) [v] (λ_ h=>h=upd Z a.heap.objs.size (.lst (vs++[y]))) I10 rfl (.cons r10 .nil) ⟨_,vs,y,rfl,rfl,hl10,hz,rfl⟩) (λz s11 F=>?_) λ_ _ z=>z.elim);obtain⟨zv,H11,M,_,e11⟩:=F;subst e11;obtain⟨k1,k2⟩:=S M;exact Lm (Lm ⟨rfl,m',hm,i+1,_,(M.unpinned).weak (by rw[M.len,iV,I.len]) sub,k1,k2,w'⟩)
   |false=>
    simp only[LM,if_false];obtain⟨m',hm,w'⟩:=q9;obtain⟨k1,k2⟩:=S O
    first
     |exact Lm ⟨rfl,m',hm,i+1,_,(O.unpinned).weak (by rw[O.len,iV,I.len]) sub,k1,k2,w'⟩
     |exact Lh (Lm (Lm ⟨rfl,m',hm,i+1,_,(O.unpinned).weak (by rw[O.len,iV,I.len]) sub,k1,k2,w'⟩))
 exact codeAny_compStart_list loop (T.self X.A 0 _ _ _ st4 loop)
theorem B9(r:X.calm=true)(B:dJ X XX cl is)
  (hi:PI X tg iter wi) (hg:∀C s H a,PG (br X XX cl C s H a) tg g) (ht:Tst X XX cl cs tt) (he:∀C s H a,PE (br X XX cl C s H a) YZ te) (hs:∀x,Nf iter X.env x=pure x):
  PE X (.ListComp YZ [⟨tg,iter,cs,0⟩] XX XY) λσ H Q=>wi σ H (yl is g tt te σ Q):=by
 intro XW s σ H Q I h;rw[eval_ListComp];refine qq r B hg ht he hs I (hi XW s σ H _ I h) λl C n u m d p j f v k t c q=>⟨m,p,λw i=>?_⟩
 exact⟨.ref l,n,d.turned (λb o hb e=>i.extBut b o hb e) j (Ne.symm f.symm) (.inr k) t c,rfl,q⟩
theorem ur(K:X.calm=true)(t:X.N.Nodup)(G:X.N[j]?=some y)(M:Loc X.env.scope y)(B:dJ X XX cl is)
  (hi:PI X tg iter wi) (hg:∀C s H f,PG (br X XX cl C s H f) tg g) (ht:Tst X XX cl cs tt) (he:∀C s H f,PE (br X XX cl C s H f) YZ te) (hs:∀x,Nf iter X.env x=pure x)
  (hsw:OK (.ListComp YZ [⟨tg,iter,cs,0⟩] XX XY) (some (.Name y py)) Y5.line X.env=pure true) (hf:X.fn y=true\/X.env.scope.names.lookup y=some .local):
  PS X (.Assign [.Name y py] (.ListComp YZ [⟨tg,iter,cs,0⟩] XX XY) Y5) (Hm (λσ H Q=>wi σ H (yl is g tt te σ Q)) (tW j)):=by
 intro XW s σ H D I h;rw[exec_Assign_Name_used _ _ _ _ hsw];refine Lh (S6 (Lh ?_));refine Lh (Pv (qq K B hg ht he hs I (hi XW s σ H _ I h) λl C E w m r J z i P A k p q=>?_) (λ_ w L=>Lm (Lm L)) λ_ _ e=>e);refine Vm (qE r t G M (v:=.ref l) rfl (λO n F=>?_) hf);obtain⟨a,u,ha⟩:=F
 have d:C≠a:=by
  rcases ha with e |e
  .rw[e];exact i
  .exact Ne.symm (k _ _ e)
 refine⟨m,J.sameBut u d,λR c=>⟨_,E,n.turned (λb o hb e=>c.extBut b o hb e) z i (.inr A) k p,q⟩⟩
end
section
variable {X:Cx}{H0:Hp}{O0:List LX}{E:XK}{ps:PSt}{D:PD}{tg iter cond YZ:Expr}{XY Y5 py:Pos}{xs ys:List U}{fs:List (Option U)}{XX:VS}{cl:List (Str×LX)}{is:List Nat}{g:TG}{f:PSt→U→PSt}{dom:U→Prop}{cs:List Expr}{y:Str}{j:Nat}
theorem Yl.z{K:Le}(Y:Yl K J G xs):Yz K J G xs:=λb a=>⟨λi c=>⟨((Y b a).1 i c).1,λx e y=>by
 obtain⟨rfl,u,f,r⟩:=((Y b a).1 i c).2 x e y;exact⟨.refl _,u,f,λg _ d=>r.same d⟩⟩,(Y b a).2⟩
theorem EvI.z(h:EvI X H0 O0 ps tg iter xs):EvZ X H0 O0 ps tg iter xs:=PI.mono h λb H R ⟨O,r,q⟩=>⟨O,r,λJ a s Y=>q J a s Y.z⟩
theorem tY(hg:GOk g X.K is f dom)(X6:fs.length=xs.length)(hz:xs.length<=sizeLine)(Y0:∀x∈xs,dom x)
  (ht:(cs=[]/\∀o∈fs,o.isSome=true)\/∃c,cs=[c]/\∀C s H t (i:Nat) (x:U) (o:Option U),xs[i]?=some x->fs[i]?=some o->Tt (br X XX cl C s H t) H0 O0 (f (fv is ps) x) c o.isSome)
  (he:∀C s H t (i:Nat) (x y:U),xs[i]?=some x->fs[i]?=some (some y)->Ev (br X XX cl C s H t) H0 O0 (f (fv is ps) x) YZ y):
  ∃tt te,Tst X XX cl cs tt/\(∀C s H t,PE (br X XX cl C s H t) YZ te)/\∀h A O Q J,Rs X.K H0 O0 ps h A O->Yz X.K J (hid A O) xs->
   (∀a n d,aU A d->A a=none->d a=some (.lst n)->Rps X.K (hid d (a::O)) n (fs.filterMap id)->Q (.ref a) d)->yl is g tt te h Q J A:=by
 refine⟨λh H Q=>∃(i:Nat) (x:U) (o:Option U),xs[i]?=some x/\fs[i]?=some o/\∃M,Rs X.K H0 O0 (f (fv is ps) x) h H M/\∀d,aU H d->Q o.isSome d,λh H Q=>∃i x y,xs[i]?=some x/\fs[i]?=some (some y)/\∃M,Rs X.K H0 O0 (f (fv is ps) x) h H M/\∀v d,aU H d->Rp X.K (hid d M) v y->Q v d,
  ?_,λC s H t Z S h d Q I q=>by obtain⟨i,x,y,T,p,z⟩:=q;exact he C s H t i x y T p Z S h d Q I z,λh A O Q J R1 Y V l G=>?_⟩
 .refine ht.imp (λ⟨a,b⟩=>⟨a,λh H Q ⟨i,x,o,_,p,_,_,q⟩=>b o (LW p) ▸ q H (.refl H)⟩) λ⟨c,a,b⟩=>⟨c,a,λC s H t Z S h d Q I q=>by obtain⟨i,x,o,T,p,z⟩:=q;exact b C s H t i x o T p Z S h d Q I z⟩
 refine⟨λi m B=>m=xs.length-i/\i<=xs.length/\aU A B/\∃n,B l=some (.lst n)/\n.length<=i/\Rps X.K (hid B (l::O)) n ((fs.take i).filterMap id),⟨_,rfl,Mu _,bj G _,[],aK,Lk _,by rw[Rl];exact .nil⟩,?_⟩;rintro i m B ⟨rfl,hi,D,n,p,hv,N⟩;have seen:aU (hid A O) (hid B (l::O)):=bH D G;obtain⟨y1,y2⟩:=Y B (seen.trans aH);by_cases W:i<xs.length
 .obtain⟨g1,g2⟩:=y1 i W;refine .inr ⟨g1,λx H3 y=>?_⟩;obtain⟨F,u,hu,r⟩:=g2 x H3 y;have R2:=((R1.mask (is:=is)).hide D G (by rw[p];intro z;cases z)).go F;have h3:=F _ _ p;refine hg H0 O0 _ _ H3 (l::O) x u _ (Y0 u (LW hu)) R2 (r (l::O) (λb hb z=>by rcases Ll.mp hb with k |k;(rw[k,p]at z;cases z);exact R1.dom b k (D.free z)) seen) λσ4 R4 keep=>?_;obtain⟨o,R⟩:∃o,fs[i]?=some o:=⟨_,Ld (by lia)⟩
  refine⟨i,u,o,hu,R,_,R4,λH5 E=>⟨λj w e=>keep j w (o6 is h j w e).2 e,?_⟩⟩;have L:=(N.same (aP F)).same (aP E);have e:(fs.take (i+1)).filterMap id=(fs.take i).filterMap id++o.toList:=by rw[Oz,R,Va,List.filterMap_append];cases o <;>rfl
  cases o with
  |none=>exact oF ⟨xs.length-(i+1),by lia,rfl,W,(D.trans F).trans E,n,E _ _ h3,by lia,by rw[e];simpa using L⟩
  |some yv=>
   refine rT ⟨i,u,yv,hu,R,_,R4.go E,λv H6 P r6=>⟨n,P _ _ (E _ _ h3),by lia,xs.length-(i+1),by lia,rfl,W,(((D.trans F).trans E).trans P).put G _,n++[v],aK,by simp;lia,?_⟩⟩;rw[mF Lo,e];exact (L.same (aP P)).snoc (.cons r6 .nil)
 .have e:i=xs.length:=by lia
  subst e;rw[<-X6,P8]at N;exact .inl ⟨y2,V l n B D G p N⟩
theorem F6(v:X.calm=true)(B:dJ X XX cl is)(u:EvZ X H0 O0 ps tg iter xs)(l:∀C s H b,PG (br X XX cl C s H b) tg g)(m:GOk g X.K is f dom)(k:fs.length=xs.length)(A:xs.length<=sizeLine)(t:∀x∈xs,dom x)
  (ht:(cs=[]/\∀o∈fs,o.isSome=true)\/∃c,cs=[c]/\∀C s H b (i:Nat) (x:U) (o:Option U),xs[i]?=some x->fs[i]?=some o->Tt (br X XX cl C s H b) H0 O0 (f (fv is ps) x) c o.isSome)
  (he:∀C s H b (i:Nat) (x y:U),xs[i]?=some x->fs[i]?=some (some y)->Ev (br X XX cl C s H b) H0 O0 (f (fv is ps) x) YZ y)
  (hs:∀x,Nf iter X.env x=pure x):EvN X H0 O0 ps (.ListComp YZ [⟨tg,iter,cs,0⟩] XX XY) (fs.filterMap id):=by
 obtain⟨F,G,j,e,z⟩:=tY m k A t ht he;exact PE.mono (B9 v B u l j e hs) λD H Q ⟨O,R,q⟩=>⟨O,R,λJ E d Y=>z _ _ _ _ _ (R.go d) Y λa w p s n h r=>q a w p (d.trans s) (d.free n) h r⟩
theorem mV(d:Bool)(v:X.calm=true)(p:X.N.Nodup)(u:X.N[j]?=some y)(F:Loc X.env.scope y)(B:dJ X XX cl is)
  (hi:EvZ X H0 O0 ps tg iter xs) (hg:∀C s H e,PG (br X XX cl C s H e) tg g) (gk:GOk g X.K is f dom) (X6:fs.length=xs.length) (hz:xs.length<=sizeLine) (Y0:∀x∈xs,dom x)
  (ht:(cs=[]/\∀o∈fs,o.isSome=true)\/∃c,cs=[c]/\∀C s H e (i:Nat) (x:U) (o:Option U),xs[i]?=some x->fs[i]?=some o->Tt (br X XX cl C s H e) H0 O0 (f (fv is ps) x) c o.isSome)
  (he:∀C s H e (i:Nat) (x y:U),xs[i]?=some x->fs[i]?=some (some y)->Ev (br X XX cl C s H e) H0 O0 (f (fv is ps) x) YZ y) (h:D.nx (ps.set j (some (if d then .own (fs.filterMap id) else .val (.lst (fs.filterMap id))))))
  (hs:∀x,Nf iter X.env x=pure x) (hsw:OK (.ListComp YZ [⟨tg,iter,cs,0⟩] XX XY) (some (.Name y py)) Y5.line X.env=pure true) (hf:X.fn y=true\/X.env.scope.names.lookup y=some .local):
  W1 X H0 O0 E (.Assign [.Name y py] (.ListComp YZ [⟨tg,iter,cs,0⟩] XX XY) Y5) D ps:=by
 obtain⟨S,T,t,q,w⟩:=tY gk X6 hz Y0 ht he;refine PS.mono (ur v p u F B hi hg t q hs hsw hf) λQ G H ⟨L,O,R⟩=>⟨O,R,λJ M k Y=>w _ _ _ _ _ (R.go k) Y λa P I s n m r=>?_⟩
 cases d with
 |true=>exact L.nx _ _ _ _ ((R.go k).own s n m r) h
 |false=>
  have A:a ∉ O:=λz=>(R.go k).dom a z n;have l:=r.same (a9 λb hb=>Li a hb);exact L.nx _ _ _ _ (((R.go k).go s).set (.lst (cW m A) l.len l.at_)) h
theorem fmS(ys:List U):(ys.map some).filterMap id=ys:=by simp[Vb]
theorem bO(h:X.calm=true)(B:dJ X XX cl is)(e:EvZ X H0 O0 ps tg iter xs)(b:∀C s H a,PG (br X XX cl C s H a) tg g)(c:GOk g X.K is f dom)
  (X6:ys.length=xs.length) (hz:xs.length<=sizeLine) (Y0:∀x∈xs,dom x) (he:∀C s H a (i:Nat) (x y:U),xs[i]?=some x->ys[i]?=some y->Ev (br X XX cl C s H a) H0 O0 (f (fv is ps) x) YZ y)
  (hs:autoParam (∀x,Nf iter X.env x=pure x) k4):EvN X H0 O0 ps (.ListComp YZ [⟨tg,iter,[],0⟩] XX XY) ys:=
 fmS ys ▸ F6 h B e b c (by simpa using X6) hz Y0 (.inl ⟨rfl,by simp⟩) (λC s H a i x y j d=>he C s H a i x y j (by simpa using d)) hs
theorem jJ(b:Bool)(l:X.calm=true)(e:X.N.Nodup)(c:X.N[j]?=some y)(d:Loc X.env.scope y)(B:dJ X XX cl is)
  (hi:EvZ X H0 O0 ps tg iter xs) (hg:∀C s H a,PG (br X XX cl C s H a) tg g) (gk:GOk g X.K is f dom) (X6:ys.length=xs.length) (hz:xs.length<=sizeLine) (Y0:∀x∈xs,dom x)
  (he:∀C s H a (i:Nat) (x y:U),xs[i]?=some x->ys[i]?=some y->Ev (br X XX cl C s H a) H0 O0 (f (fv is ps) x) YZ y) (h:D.nx (ps.set j (some (if b then .own ys else .val (.lst ys)))))
  (hs:autoParam (∀x,Nf iter X.env x=pure x) k4)
  (hsw:autoParam (OK (.ListComp YZ [⟨tg,iter,[],0⟩] XX XY) (some (.Name y py)) Y5.line X.env=pure true) zM) (hf:autoParam (X.fn y=true\/X.env.scope.names.lookup y=some .local) z0):
  W1 X H0 O0 E (.Assign [.Name y py] (.ListComp YZ [⟨tg,iter,[],0⟩] XX XY) Y5) D ps:=
 mV b l e c d B hi hg gk (by simpa using X6) hz Y0 (.inl ⟨rfl,by simp⟩) (λC s H a i x y m k=>he C s H a i x y m (by simpa using k)) ((fmS ys).symm ▸ h) hs hsw hf
theorem nj(fs:List (Option U))(b:Bool)(k:X.calm=true)(e:X.N.Nodup)(c:X.N[j]?=some y)(d:Loc X.env.scope y)(B:dJ X XX cl is)
  (hi:EvZ X H0 O0 ps tg iter xs) (hg:∀C s H a,PG (br X XX cl C s H a) tg g) (gk:GOk g X.K is f dom) (X6:fs.length=xs.length) (hz:xs.length<=sizeLine) (Y0:∀x∈xs,dom x)
  (ht:∀C s H a (i:Nat) (x:U) (o:Option U),xs[i]?=some x->fs[i]?=some o->Tt (br X XX cl C s H a) H0 O0 (f (fv is ps) x) cond o.isSome)
  (he:∀C s H a (i:Nat) (x y:U),xs[i]?=some x->fs[i]?=some (some y)->Ev (br X XX cl C s H a) H0 O0 (f (fv is ps) x) YZ y) (h:D.nx (ps.set j (some (if b then .own (fs.filterMap id) else .val (.lst (fs.filterMap id))))))
  (hs:autoParam (∀x,Nf iter X.env x=pure x) k4)
  (hsw:autoParam (OK (.ListComp YZ [⟨tg,iter,[cond],0⟩] XX XY) (some (.Name y py)) Y5.line X.env=pure true) zM) (hf:autoParam (X.fn y=true\/X.env.scope.names.lookup y=some .local) z0):
  W1 X H0 O0 E (.Assign [.Name y py] (.ListComp YZ [⟨tg,iter,[cond],0⟩] XX XY) Y5) D ps:=
 mV b k e c d B hi hg gk X6 hz Y0 (.inr ⟨_,rfl,ht⟩) he h hs hsw hf
end
def spU(K:Le)(d:List U->Out->Prop):Sp:=λc H Q E=>∃b O o,(∀a∈O,H a≠none)/\Rps K (hid H O) c b/\d b o/\qc K H O Q E o
section
variable {X:Cx}{H0:Hp}{O0:List LX}{E:XK}{ps YD:PSt}{D:PD}{s:Od}{ss:List Od}{a b c e:Expr}{XY p:Pos}{u x y:U}{xs ys us:List U}{k:Bool}
 {CX:CXT}{n:Nat}{f C:LX}{fd:Of}{pn:List Str}{X5:List U->Out->Prop}{nm:Str}
theorem v_(F:cj X.prog X.w X.K X.mg X.base CX n f fd pn (spU X.K X5))(k:cq n X.A)(j:Gl X nm)(l:X.mg nm=some (.ref f))(m:Nx X.K (.ref f)=true)(b:cm X.K fd pn [])(s:di CX X E0)
  (ha:EvA X H0 O0 ps (e::es) us) (h:X5 us (.val u)) (YC:autoParam ((nm==("__debug__":Str))=false) zR) (he:autoParam (Lr (e::es) X.env=(false,N4 e X.env)::Lr es X.env) zM) (Yq:autoParam ((NT XY (Lr es X.env)).any (·.1)=false) zM):
  Ev X H0 O0 ps (.Call (.Name nm p) (e::es) [] XY) u:=
 PE.mono (jV F k j l m b .nil s ha YC he Yq) λt H Q ⟨O,R,q⟩=>⟨O,R,λr o a d=>by
  show spU X.K X5 (r++[]) o Q _;rw[Ny];exact⟨us,O,.val u,(R.go a).dom,d,h,λv c i g=>q v c (a.trans i) g⟩⟩
theorem Ix(F:cj X.prog X.w X.K X.mg X.base CX n f fd pn (spU X.K X5))(o:cq n X.A)(m:Gl X nm)(r:X.mg nm=some (.ref f))(s:Nx X.K (.ref f)=true)(d:cm X.K fd pn [])(v:di CX X E0)
  (ha:EvA X H0 O0 ps (e::es) us) (h:X5 us (.new xs)) (YC:autoParam ((nm==("__debug__":Str))=false) zR) (he:autoParam (Lr (e::es) X.env=(false,N4 e X.env)::Lr es X.env) zM) (Yq:autoParam ((NT XY (Lr es X.env)).any (·.1)=false) zM):
  EvN X H0 O0 ps (.Call (.Name nm p) (e::es) [] XY) xs:=
 PE.mono (jV F o m r s d .nil v ha YC he Yq) λx H Q ⟨O,R,q⟩=>⟨O,R,λc t b i=>by
  show spU X.K X5 (c++[]) t Q _;rw[Ny];exact⟨us,O,.new xs,(R.go b).dom,i,h,λa c g l u j k=>q a c g (b.trans l) (b.free u) j k⟩⟩
end
section
variable {P:LJ}{w:Mp}{K:Le}{mg:Str→Option Lw}{base:OG}{N pn:List Str}{X3 nm:Str}{XX:VS}{f:LX}{cd:Lw}{A:ML}{outer:List Env}{s:LB}{H H0:Hp}{O0:List LX}{E:XK}{D:PD}{ps:PSt}{u:U}
def gG(N:List Str)(a:List U):PSt:=a.map (λu=>some (.val u))++L7 (N.length-a.length) none
theorem Jn{st:Od}(F:Fun K nm X3 st f fd)(S:av N pn (ai st))(n:∀b o,X5 b o->b.length=pn.length)
  (YF:∀c A outer s H E O b o,cq k (A.deeper (SH X3 (ai st) s.heap.objs.size f c))->X5 b o->
   Ws (nO (CXF P w) P w K mg base N X3 (ai st) f c A outer s H E) H O E (bm st) ⟨λ_=>o=.val .non,λp=>p=o,λ_=>False,λ_=>False⟩ (gG N b)):cj P w K mg base (CXF P w) (k+1) f fd pn (spU K X5):=by
 refine F.okF S (λz H Q E h=>?_) λc A outer s H z Q E x h=>?_
 .obtain⟨b,O,o,_,r,m,_⟩:=h;rw[r.len];exact n b o m
 .obtain⟨b,O,o,d,r,m,q⟩:=h;refine⟨_,YF c A outer s H E O b o x m,⟨λps B y G R e=>?_,λ_ _ _ _ _ e=>e.elim,λ_ _ _ _ _ e=>e.elim,λp e=>by subst e;exact q⟩,O,?_⟩
  .subst e;exact q .non y R.same .non
  .refine⟨.refl H,λa h=>h,λa h=>.inl h,d,?_,λi D e=>?_,λi j C J a l I _ _=>?_⟩
   .unfold start gG;rw[LG,LG,Lg,Lg,NL,NL,r.len]
   .unfold gG at e;by_cases g:i<b.length
    .rw[LO (by simpa using g),Lq,Ld g]at e
     cases e;obtain⟨v,u,t⟩:=r.get (Ld g);refine⟨v,?_,t⟩;unfold start;rw[LO (by simpa [r.len] using g),Lq,u];rfl
    .rw[LS (by simpa using g),Nn]at e
     split at e <;>cases e
   .exfalso
    unfold gG at l;by_cases g:i<b.length
    .rw[LO (by simpa using g),Lq,Ld g]at l
     cases l
    .rw[LS (by simpa using g),Nn]at l
     split at l <;>cases l
end
section
variable {X:Cx}{H0:Hp}{O0:List LX}{ps:PSt}{a b c e:Expr}{rest:List Expr}{XY p p2:Pos}{u x y:U}{xs ys us:List U}{i j:Int}{k m:Bool}{lo hi:Option Expr}{l h:Option Int}
def EvO(X:Cx)(H0:Hp)(O0:List LX)(ps:PSt)(e:Option Expr)(n:Option Int):Prop:=PO X e λb H Q=>∃O,Rs X.K H0 O0 ps b H O/\∀a,aU H a->Q n a
theorem dy:EvO X H0 O0 ps none none:=λb s a H Q I ⟨O,R,q⟩=>E7 b s a H Q I (q H (.refl H))
theorem du(c:Ev X H0 O0 ps e (.int i)):EvO X H0 O0 ps (some e) (some i):=λb s a H Q I ⟨O,R,q⟩=>D8 c b s a H Q I ⟨O,R,λv d s r=>by cases r;exact⟨i,rfl,q d s⟩⟩
def fL(xs:List U)(lo hi:Option Int):List U:=(xs.drop (HT.sIx xs.length 0 lo)).take (HT.sIx xs.length xs.length hi-HT.sIx xs.length 0 lo)
theorem Rps.drop{K:Le}(r:Rps K H vs xs)(n):Rps K H (vs.drop n) (xs.drop n):=⟨by simp[r.len],λi v x b a=>r.at_ _ v x (by rwa [O_]at b) (by rwa [O_]at a)⟩
theorem Rps.take{K:Le}(r:Rps K H vs xs)(n):Rps K H (vs.take n) (xs.take n):=⟨by simp[r.len],λi v x a b=>by
 by_cases c:i<n
 .rw[NK c]at a b;exact r.at_ i v x a b
 .rw[List.getElem?_take_eq_none (by lia)]at a
  cases a⟩
theorem Rps.cut{K:Le}(r:Rps K H vs xs):Rps K H (A0 vs l h) (fL xs l h):=by
 unfold A0 fL;rw[r.len];exact (r.drop _).take _
theorem dj(s:Ev X H0 O0 ps e x)(d:EvO X H0 O0 ps lo l)(c:EvO X H0 O0 ps hi h)(u:x=.lst xs\/x=.scr xs):EvN X H0 O0 ps (.Subscript e (.Slice lo hi none p2) XY) (fL xs l h):=
 PE.mono (uw E2 s d c) λy H Q ⟨O,R,q⟩=>⟨O,R,λv o g m=>⟨O,R.go g,λw n=>⟨O,R.go (g.trans n),λz t=>by
  have k:∃a j,v=.ref a/\SqL X.K (hid o O) a j/\Rps X.K (hid o O) j xs:=by
   rcases u with rfl |rfl
   .cases m with
    |lst f d c=>exact⟨_,_,rfl,SqL.of f,d,c⟩
   .cases m with
    |scr f d c=>exact⟨_,_,rfl,f,d,c⟩
  obtain⟨a,j,rfl,f,r⟩:=k;have b:=n.trans t;refine⟨a,j,rfl,b.seq (aH.seq f),λp i=>q p _ _ ((g.trans b).trans (bj i _)) ((g.trans b).free i) aK ?_⟩;exact (r.cut.same (aP b)).same (bH (bj i _) i)⟩⟩⟩
theorem lV(j:Ev X H0 O0 ps a (.lst xs))(g:Ev X H0 O0 ps b (.lst ys))(n:xs.length+ys.length<=sizeLine):EvN X H0 O0 ps (.BinOp a .Add b XY) (xs++ys):=
 PE.mono (uI IA j g) λo H Q ⟨O,R,q⟩=>two R (λ_ _ _ z=>z) (λ_ _ _ z=>z) λv w r s _ i k=>by
  cases i with
  |lst m e h=>
   cases k with
   |lst l f d=>
    refine⟨_,_,_,_,rfl,rfl,aH _ _ m,aH _ _ l,by rw[e,f];exact n,λp c=>q p _ _ (s.trans (bj c _)) (s.free c) aK ?_⟩;exact (Rps.snoc ⟨e,h⟩ ⟨f,d⟩).same (bH (bj c _) c)
def fl:U->V
 | .bl b=>.bl b | .int i=>.int i | .str x=>.str x |_=>.non
def AO:U->Bool
 | .bl _=>true | .int _=>true | .str _=>true | .non=>true |_=>false
theorem GA{K:Le}(h:Rp K H v u)(f:AO u=true):v=fl u/\jB v=true:=by
 cases h <;>first |exact⟨rfl,rfl⟩ |cases f
theorem CK{K:Le}:∀{vs}{xs},Rps K H vs xs->xs.all AO=true->vs=xs.map fl/\vs.all jB=true
 |vs,[],r,_=>by rw[r.nil_inv];exact⟨rfl,rfl⟩
 |vs,x::xs,r,f=>by
  obtain⟨v,h,rfl,g,e⟩:=r.cons_inv;simp only[RU,MW]at f;obtain⟨d,b⟩:=GA g f.1;obtain⟨a,c⟩:=CK e f.2;refine⟨by rw[LK,<-d,<-a],?_⟩;simp only[RU,MW];exact⟨b,c⟩
theorem AG(z:AO x=true)(r:y.items=some ys)(t:ys.all AO=true):OpS X (MC .In) x y (.bl (inV (fl x) (ys.map fl))):=by
 intro k s g H v w p q Q I c e h;obtain⟨b,u,m⟩:=h;obtain⟨a,o,rfl,f,d⟩:=yp u r;obtain⟨l,i⟩:=GA b z;obtain⟨n,j⟩:=CK d t;exact zI k s g H v _ p q Q I c e ⟨a,o,rfl,f,i,j,by rw[l,n];exact m⟩
theorem Gy{bs:List Bool}(L:X.calm=true):eF X (.builtin "all") [.lst (bs.map U.bl)] (.bl (bs.all id)):=by
 intro V s T H vs us Q I r g;obtain⟨O,d,p,q⟩:=g;obtain⟨v,rfl,B⟩:=cL p;obtain⟨W,rfl,t⟩:=dW r;cases B with
 | @lst a f _ g F w=>
  cases t;obtain⟨its,k,c,_⟩:=I.list (SqL.of (aH _ _ g));have C:its.length=bs.length:=by rw[<-k.length,F,Lg]
  have E:∀(i:Nat) z,its.toArray[i]?=some z->z=.bool (bs.getD i false):=λi z e=>by
   have hi:i<its.length:=by have:=aL (show its[i]?=some z by simpa using e);exact this
   have hb:i<bs.length:=by lia
   have l:i<f.length:=by rw[k.length];exact hi
   obtain⟨u,n,G⟩:=k.get (Ld l);have N:=w i f[i] (.bl bs[i]) (Ld l) (by rw[Lq,Ld hb];rfl);have J:its[i]?=some z:=by simpa using e
   rw[J]at n;cases n;generalize f[i]=wi at *;cases N;rw[LP,Ld hb];exact G
  refine call_all_walk (N5 c.isList ?_);have D:a≠s.heap.objs.size:=by obtain⟨o,e,_⟩:=c.isList;exact L3 (Lx e)
  refine⟨s.heap.objs.size,_,_,_,_,_,λi=>bs.getD i false,rfl,Walks.list (A:=X.A.in1) (I.ok.hd L) s.heap.objs.size a D its.toArray,⟨⟨_,LC _ rfl,rfl,rfl⟩,c.isList.push _⟩,λi z S Y Z y M=>?_,λh' R K=>?_⟩
  .rw[E i z y];exact Nl M
  .have e:(MK its.toArray.size).all (λi=>bs.getD i false)=bs.all id:=by
    rw[LV,C,QU,pM,O5];constructor
    .intro h x P;obtain⟨i,hi,rfl⟩:=Nb P;have:=h i hi
     rwa [LP,Ld hi]at this
    .intro h j m;rw[LP,Ld m];exact h _ (MA m)
   rw[e];refine⟨.bl _,H,I.kept λb o e=>K b o ?_ (Lj _ e),rfl,q _ H (.refl H) (.bl _)⟩;intro z;have:b=s.heap.objs.size:=by simpa using z
   exact absurd (Lx e) (by rw[this];exact Mh _)
end
theorem Ws.nox(h:Ws X.nox H0 O0 E ss D ps):Ws X H0 O0 E ss D ps:=PSs.nox h
theorem cj.calm{K:Le}(F:cj P w K mg base (CXF P w) k f fd ps sp)(h:∀c H Q E,sp c H Q E->sp c H Q E0):cj P w K mg base CX0 k f fd ps sp:=by
 refine⟨F.len,λA a s H b g c Q E i j hb m d=>QL (F.run A a s H b g c Q E0 i j hb m (h _ _ _ _ d)) λr n q=>?_⟩;cases r with
 |ok fl=>
  cases fl with
  |ret u=>exact q
  |next=>exact q
  |brk=>exact q
  |cont=>exact q
 |error e=>
  obtain⟨_,_,_,_,_,_,_,_,_,_,_,_,_,_,_,l⟩:=q;exact l.elim
def j4:List U->Out->Prop:=λb o=>∃a:List Int,b=[.scr (a.map U.int)]/\a.length<=63/\(∀m∈a,Sz 1048576 m)/\o=.val (.bl true)
theorem BF{K:Le}(vs)(H)(Q)(E)(h:spU K j4 vs H Q E):spU K j4 vs H Q E0:=by
 obtain⟨b,O,o,d,r,⟨e,f,c,a,rfl⟩,q⟩:=h;exact⟨b,O,_,d,r,⟨e,f,c,a,rfl⟩,q⟩
theorem y6{K:Le}{ns:List Int}(g:ns.length<=63)(f:∀m∈ns,Sz 1048576 m)(h:SqL K H a (ns.map V.int)):spU K j4 [.ref a] H (λv _=>v=.bl true) E:=by
 refine⟨[.scr (ns.map U.int)],[],.val (.bl true),λa ha=>(nomatch ha),.cons ?_ .nil,⟨ns,rfl,g,f,rfl⟩,λv j s r=>by cases r;rfl⟩;have e:hid H []=H:=by funext b;unfold hid;rw[if_neg (by simp)]
 rw[e];refine .scr h (by simp) λi v x c d=>?_;rw[Lq]at c d;cases q:ns[i]? with
 |none=>rw[q]at c;cases c
 |some n=>rw[q]at c d;cases c;cases d;exact .int n
theorem jP(a:cq k A):A.units+10<P6:=by have:=a.un;lia
theorem Bt{ns:List Int}(b:0<=k)(h:k<(ns.length:Int)):atI (ns.map U.int) k=some (.int (ns.getD k.toNat 0)):=by
 have a:k.toNat<ns.length:=by lia
 have q:atI (ns.map U.int) ((k.toNat:Nat):Int)=some (.int (ns.getD k.toNat 0)):=xU (by rw[Lq,LP,Ld a] <;>rfl)
 rwa [show ((k.toNat:Nat):Int)=k by lia]at q
theorem FZ{ns:List Int}(h:∀m∈ns,Sz 1048576 m)(i):Sz 1048576 (ns.getD i 0):=by
 by_cases a:i<ns.length
 .rw[LP,Ld a,QC];exact h _ (MA a)
 .rw[LP,MD (by lia),Th];exact Sz.mono (m:=8) (by decide) (by decide)
abbrev pt(x y:Int):U:=.tup [.int x,.int y]
theorem zq(xs)(k:Nat):fL xs none (some (k:Int))=xs.take k:=by
 unfold fL;rw[HT.sIx_none,HT.sIx_nat,Sw,Rt];by_cases h:k<=xs.length
 .rw[Og h]
 .rw[QD (by lia),Mf (Lk _),Mf (by lia)]
theorem dTb[Decidable p](h:decide p=true):p:=of_decide_eq_true h
theorem dFb[Decidable p](h:decide p=false):¬ p:=of_decide_eq_false h
theorem nTb[Decidable p](h:(!decide p)=true):¬ p:=by simpa using h
theorem nFb[Decidable p](h:(!decide p)=false):p:=by simpa using h
theorem vB(h:a=b):Out.val (.bl a)=Out.val (.bl b):=by rw[h]
theorem vIO(h:a=b):Out.val (.int a)=Out.val (.int b):=by rw[h]
theorem Eg:eqW (.int i) (.int j)=decide (i=j):=Rr i j
mutual
theorem uK:∀n u,okU n u=true->eqW u u=true
 |_,.non,_=>rfl
 |_,.bl b,_=>beq_self_eq_true b
 |_,.int b,_=>beq_self_eq_true b
 |_,.str b,_=>beq_self_eq_true b
 |n+1,.tup a,h=>eqWs_refl n a h
 |n+1,.lst a,h=>eqWs_refl n a h
 |n+1,.scr a,h=>eqWs_refl n a h
theorem eqWs_refl:∀n a,okUs n a=true->eqWs a a=true
 |_,[],_=>rfl
 |n,x::a,h=>by
  simp only[okUs,MW]at h;exact RO.mpr ⟨uK n x h.1,eqWs_refl n a h.2⟩
end
theorem DE{α:Type}{f:α->U}{l:List α}(h:∀a∈l,okU n (f a)=true):okUs n (l.map f)=true:=by
 induction l with
 |nil=>rfl
 |cons a l c=>
  rw[LK,okUs,MW];exact⟨h a Lo,c λb hb=>h b (Li _ hb)⟩
theorem nP{α:Type}{f:α->U}{l:List α}(h:∀a,okU n (f a)=true):okU (n+1) (.lst (l.map f))=true:=DE λa _=>h a
section
variable {X:Cx}{H0:Hp}{O0:List LX}{E:XK}{ps:PSt}{D:PD}{a b c e:Expr}{rest:List Expr}{XY:Pos}{k:Bool}
theorem cD(a:Tt X H0 O0 ps c k)(b:k=true)(h:Ws X H0 O0 E tb D ps):W1 X H0 O0 E (.If c tb fb XY) D ps:=lD a (λ_=>h) (λe=>by rw[b]at e;cases e)
theorem aE(a:Tt X H0 O0 ps c k)(b:k=false)(h:Ws X H0 O0 E fb D ps):W1 X H0 O0 E (.If c tb fb XY) D ps:=lD a (λe=>by rw[b]at e;cases e) (λ_=>h)
theorem o9(d:Tt X H0 O0 ps a k)(c:k=false):Tw X H0 O0 ps (.BoolOp .And (a::b::rest) XY) false:=by
 subst c;exact kg (m:=true) d λh=>by cases h
end
section
variable {X:Cx}{H0:Hp}{O0:List LX}{E:XK}{ps:PSt}{D:PD}{tg iter c:Expr}{XY:Pos}{xs:List U}{α:Type}
theorem TgS.sub(h:TgS X H0 O0 tg p u YD)(hs:SubP p p'):TgS X H0 O0 tg p' u YD:=PG.mono h λv a H Q ⟨O,R,r,q⟩=>⟨O,R.sub hs,r,q⟩
theorem Tt.sub(h:Tt X H0 O0 p e k)(hs:SubP p p'):Tt X H0 O0 p' e k:=PT.mono h λa H Q ⟨O,R,q⟩=>⟨O,R.sub hs,q⟩
theorem gJ(st:α->PSt)(Q:Nat->α->Prop)(j:X.calm=true)(h:T5 (L6 X.prog X.w) X.A X.env X.xe)(g:EvI X H0 O0 ps tg iter xs)(e:∃a,Q 0 a/\SubP (st a) ps)
  (hs:∀H0 i x (a:α),xs[i]?=some x->Q i a->∃c,TgS X H0 O0 tg (st a) x c/\Ws X H0 O0 E Ym {D with nx:=λp=>∃b,Q (i+1) b/\SubP (st b) p,ct:=λp=>∃b,Q (i+1) b/\SubP (st b) p,bk:=D.nx } c)
  (hd:∀a ps,Q xs.length a->SubP (st a) ps->D.nx ps) (hf:autoParam (∀x,Nf iter X.env x=pure x) k4):W1 X H0 O0 E (.For tg iter Ym [] XY) D ps:=
 JC j h g (λi ps=>∃a,Q i a/\SubP (st a) ps) e (λH0 i x ps k f=>by
  obtain⟨a,q,d⟩:=f;obtain⟨c,t,w⟩:=hs H0 i x a k q;exact⟨c,t.sub d,w⟩) (λps ⟨a,q,d⟩=>hd a ps q d) hf
theorem fX(st:α->PSt)(Q:Nat->α->Prop)(s:T5 (L6 X.prog X.w) X.A X.env X.xe)(o:∃m a,Q m a/\SubP (st a) ps)
  (hs:∀m a,Q m a->∃b,Tt X H0 O0 (st a) c b/\(b=true->Ws X H0 O0 E Ym {D with nx:=λp=>∃f d,f<m/\Q f d/\SubP (st d) p,ct:=λp=>∃f d,f<m/\Q f d/\SubP (st d) p,bk:=D.nx } (st a))/\(b=false->∀ps,SubP (st a) ps->D.nx ps)):W1 X H0 O0 E (.While c Ym [] XY) D ps:=by
 obtain⟨m,a,q,h⟩:=o;refine EI s (λm ps=>∃a,Q m a/\SubP (st a) ps) m ⟨a,q,h⟩ λm ps r=>?_;obtain⟨a,q,h⟩:=r;obtain⟨b,t,n,k⟩:=hs m a q;refine⟨b,t.sub h,λe=>?_,λe=>k e ps h⟩;refine dY (PSs.mono (n e) λu i H ⟨L,O,R⟩=>⟨⟨λp i H O R ⟨f,d,l,j,g⟩=>L.nx p i H O R ⟨f,l,d,j,g⟩,L.bk,λp i H O R ⟨f,d,l,j,g⟩=>L.ct p i H O R ⟨f,l,d,j,g⟩,L.rt⟩,O,R⟩) h
end
abbrev P2:=Int×Int
abbrev pu(p:P2):U:=.tup [.int p.1,.int p.2]
abbrev lp(l:List P2):U:=.lst (l.map pu)
theorem pY{l:List P2}{i:Nat}(h:(l.map pu)[i]?=some x):∃p,l[i]?=some p/\p∈l/\x=pu p:=by
 rw[Lq]at h;cases q:l[i]? with
 |none=>rw[q]at h;cases h
 |some p=>rw[q]at h;cases h;exact⟨p,rfl,LW q,rfl⟩
theorem b7{α:Type}{l:List α}{f:α->U}{g:α->U}{i:Nat}(b:(l.map f)[i]?=some x)(c:(l.map g)[i]?=some y):∃a,l[i]?=some a/\a∈l/\x=f a/\y=g a:=by
 rw[Lq]at b c;cases q:l[i]? with
 |none=>rw[q]at b;cases b
 |some p=>rw[q]at b c;cases b;cases c;exact⟨p,rfl,LW q,rfl,rfl⟩
theorem W1.mono(h:W1 X H0 O0 E s {D with nx:=J } ps)(m:∀ps,J ps->D.nx ps):W1 X H0 O0 E s D ps:=
 PS.mono h λb a H ⟨L,O,R⟩=>⟨⟨λp a H O R q=>L.nx p a H O R (m p q),L.bk,L.ct,L.rt⟩,O,R⟩
theorem n_(J)(b:W1 X H0 O0 E s {D with nx:=J } ps)(a:∀ps,J ps->Ws X H0 O0 E ss D ps):Ws X H0 O0 E (s::ss) D ps:=
 ae (W1.mono b a)
end L2
namespace L2
open PySem PySem.Spec PySem.W PyProof.Rows
section
variable {X:Cx}
def ui.drop(D:ui)(i:Nat):ui:=⟨λa H=>D.nx (a.set i none) H,D.rt,λa H=>D.bk (a.set i none) H,λa H=>D.ct (a.set i none) H⟩
variable {H0:Hp}{O0:List LX}{E:XK}{ps:PSt}{D:PD}{a e:Expr}{es:List Expr}{us:List U}{k:Bool}{n:Nat}{fd:Of}{pn:List Str}{X5:List U→Out→Prop}
def PD.drop(D:PD)(i:Nat):PD:=⟨λp=>D.nx (p.set i none),D.rt,λp=>D.bk (p.set i none),λp=>D.ct (p.set i none)⟩
end
end L2
namespace L2
open PySem
theorem aJ:Lr (.Constant c j XY::es) env=(false,N4 (.Constant c j XY) env)::Lr es env:=rfl
theorem wB:Lr (.Tuple l j XY::es) env=(false,N4 (.Tuple l j XY) env)::Lr es env:=rfl
theorem lg:Lr (.UnaryOp o a XY::es) env=(false,N4 (.UnaryOp o a XY) env)::Lr es env:=rfl
theorem aQ:Lr (.BinOp a o b XY::es) env=(false,N4 (.BinOp a o b XY) env)::Lr es env:=rfl
theorem ah:Lr (.Name x XY::es) env=(false,N4 (.Name x XY) env)::Lr es env:=rfl
theorem aN:Lr (.Subscript a b XY::es) env=(false,N4 (.Subscript a b XY) env)::Lr es env:=rfl
theorem be:Lr (.Call f a k XY::es) env=(false,N4 (.Call f a k XY) env)::Lr es env:=rfl
theorem Iq:Lr (.Compare a o c XY::es) env=(false,N4 (.Compare a o c XY) env)::Lr es env:=rfl
theorem dg:Lr (.ListComp e g sc XY::es) env=(false,N4 (.ListComp e g sc XY) env)::Lr es env:=rfl
structure EvS(X:Cx)(H0:Hp)(O0:List LX)(ps:PSt)(es:List Expr)(us:List U):Prop where
 a:EvA X H0 O0 ps es us
section
variable {X:Cx}{H0:Hp}{O0:List LX}{ps:PSt}{e:Expr}{es:List Expr}{u:U}{us:List U}{XY:Pos}
theorem bC:EvS X H0 O0 ps [] []:=⟨am⟩
theorem aA(b:Ev X H0 O0 ps e u)(c:EvS X H0 O0 ps es us)(hs:Lr (e::es) X.env=(false,N4 e X.env)::Lr es X.env):EvS X H0 O0 ps (e::es) (u::us):=⟨af b c.a hs⟩
theorem bU{x1}(h:EvS X H0 O0 ps es us)(b:us.length<=sizeLine:=by first |decide | (simp only[LF,Qe];decide)):Ev X H0 O0 ps (.Tuple es x1 XY) (.tup us):=Jz h.a b
theorem dz(h:EvS X H0 O0 ps es us)(b:us.length<=sizeLine:=by first |decide | (simp only[LF,Qe];decide)):EvN X H0 O0 ps (.List es XY) us:=IY h.a b
end
end L2
namespace ST
open PySem PySem.SetTable
def Ris(xs:Array Nat):Prop:=∀(i j x y:Nat),i<j->xs[i]?=some x->xs[j]?=some y->x<y
theorem Ris.inj(h:Ris xs){i j x:Nat}(b:xs[i]?=some x)(a:xs[j]?=some x):i=j:=by
 rcases Pz i j with z |z |z
 .exact absurd (h i j x x z b a) (Mh _)
 .exact z
 .exact absurd (h j i x x z a b) (Mh _)
theorem fu{xs:Array Nat}(h:i<xs.size):xs[i]?=some xs[i]:=by simp[h]
theorem yK{xs:Array Nat}(h:xs[i]?=some x):i<xs.size:=(OX.mp h).1
theorem ES(R:Ris xs)(j):∀d b a,b<=a->a<=xs.size->a-b<=d->(∀i x,i<b->xs[i]?=some x->x<j)->(∀i x,a<=i->xs[i]?=some x->j<=x)->
  (∀(i x:Nat),i<below.go xs j d b a->xs[i]?=some x->x<j)/\(∀(i x:Nat),below.go xs j d b a<=i->xs[i]?=some x->j<=x)/\below.go xs j d b a<=xs.size:=by
 intro q
 induction q with
 |zero=>
  intro b a p h r k l;have e:b=a:=by lia
  subst e;rw[below.go];exact⟨k,l,h⟩
 |succ d m=>
  intro b a p h r k l;rw[below.go];by_cases n:b<a
  .rw[if_pos n];have g:(b+a)/2<xs.size:=by lia
   have e:xs.getD ((b+a)/2) j=xs[(b+a)/2]:=by simp[Qp,g]
   simp only[e];split
   .rename_i f
    refine m _ a (by lia) h (by lia) (λi x o c=>?_) l;rcases LY (show i<=(b+a)/2 by lia) with z |z
    .exact MP (R i _ x _ z c (fu g)) f
    .subst z;rw[fu g]at c;cases c;exact f
   .rename_i f
    refine m b _ (by lia) (by lia) (by lia) k (λi x o c=>?_);rcases LY o with z |z
    .exact LN (N1 f) (Lu (R _ i _ x z (fu g) c))
    .subst z;rw[fu g]at c;cases c;exact N1 f
  .rw[if_neg n];have e:b=a:=by lia
   subst e;exact⟨k,l,h⟩
theorem gi(R:Ris xs)(j):(∀i x,i<below xs j->xs[i]?=some x->x<j)/\(∀i x,below xs j<=i->xs[i]?=some x->j<=x)/\below xs j<=xs.size:=
 ES R j xs.size 0 xs.size (Mu _) (Lk _) (by lia) (λi x h=>absurd h (ON _)) (λi x h e=>absurd (yK e) (by lia))
theorem Cj(R:Ris xs)(h:xs[i]?=some j):below xs j=i:=by
 obtain⟨c,b,d⟩:=gi R j;rcases Pz (below xs j) i with z |z |z
 .have a:=MP z (yK h);have:=b _ _ (Lk _) (fu a);have:=R _ _ _ _ z (fu a) h;lia
 .exact z
 .have:=c i j z h;lia
theorem pP{t:SetTable}(R:Ris t.place)(h:t.place[i]?=some j):t.slot j=.live i:=by
 unfold SetTable.slot;simp only[Cj R h,h,beq_self_eq_true,if_true]
theorem yX{t:SetTable}(a:t.dummies=#[])(h:∀i:Nat,t.place[i]?≠some j):t.slot j=.empty:=by
 unfold SetTable.slot;have e:(t.place[below t.place j]?==some j)=false:=by simpa using h _
 simp only[e,a];simp[SetTable.has]
theorem wD{t:SetTable}(R:Ris t.place)(b:t.dummies=#[])(j):(t.slot j=.empty/\∀i:Nat,t.place[i]?≠some j)\/∃i,t.slot j=.live i/\t.place[i]?=some j:=by
 by_cases h:∃i:Nat,t.place[i]?=some j
 .obtain⟨i,a⟩:=h;exact .inr ⟨i,pP R a,a⟩
 .exact .inl ⟨yX b λi e=>h ⟨i,e⟩,λi e=>h ⟨i,e⟩⟩
theorem zw(R:Ris xs){mask:Nat}(l:xs.size<=mask):∃s,s<=mask/\∀i:Nat,xs[i]?≠some s:=by
 apply Ng;intro g
 have all:∀s,s<=mask->∃i:Nat,xs[i]?=some s:=λs j=>by
  apply Ng;intro h;exact g ⟨s,j,λi e=>h ⟨i,e⟩⟩
 have c:∀s,s<=mask->∃i:Nat,xs[i]?=some s/\s<=i:=by
  intro s
  induction s with
  |zero=>intro h;obtain⟨i,a⟩:=all 0 h;exact⟨i,a,Mu _⟩
  |succ s f=>
   intro h;obtain⟨i,a,d⟩:=f (by lia);obtain⟨k,b⟩:=all (s+1) h;refine⟨k,b,?_⟩;rcases Pz i k with z |z |z
   .lia
   .subst z;rw[a]at b;cases b
   .have:=R k i _ _ z b a;lia
 obtain⟨i,a,d⟩:=c mask (Lk _);have:=yK a;lia
def adv(mask:Nat)(p:Probe):Probe:=
 if p.more >0 then {p with j:=p.j+1,more:=p.more-1 } else
 {p with j:=(leap mask p.i p.perturb).1,more:=runEnd mask (leap mask p.i p.perturb).1-(leap mask p.i p.perturb).1,i:=(leap mask p.i p.perturb).1,perturb:=(leap mask p.i p.perturb).2 }
theorem oC(t:SetTable)(p:Probe):t.advance p=adv t.mask p:=by
 unfold SetTable.advance adv;split
 .rfl
 .rfl
def start(mask:Nat)(h:Int):Probe:={j:=bits h%(mask+1),more:=runEnd mask (bits h%(mask+1))-bits h%(mask+1),i:=bits h%(mask+1),perturb:=bits h,dummy:=none }
def pth(mask:Nat)(h:Int):Nat->Probe
 |0=>start mask h
 |n+1=>adv mask (pth mask h n)
def bp(mask:Nat)(h:Int):Nat->Nat×Nat
 |0=>(bits h%(mask+1),bits h)
 |r+1=>leap mask (bp mask h r).1 (bp mask h r).2
theorem mU{mask:Nat}:∀m (p:Probe) (f:Nat->Probe),f 0=p->(∀n,f (n+1)=adv mask (f n))->m<=p.more->f m={p with j:=p.j+m,more:=p.more-m }
 |0,p,f,a,_,_=>by rw[a];rfl
 |m+1,p,f,a,b,c=>by
  rw[b m,mU m p f a b (by lia)];unfold adv;rw[if_pos (by show p.more-m >0;lia)];simp only[Probe.mk.injEq];exact⟨by lia,by lia,trivial,trivial,trivial⟩
theorem oB(mask)(h):∀n,(pth mask h n).dummy=none
 |0=>rfl
 |n+1=>by
  rw[pth];unfold adv;split
  .exact oB mask h n
  .exact oB mask h n
theorem Aj(mask i):runEnd mask i-i<=9:=by unfold runEnd;split <;>lia
theorem ym(mask)(h):∀r,∃n,n<=10*r/\pth mask h n={j:=(bp mask h r).1,more:=runEnd mask (bp mask h r).1-(bp mask h r).1,i:=(bp mask h r).1,perturb:=(bp mask h r).2,dummy:=none }
 |0=>⟨0,Lk _,rfl⟩
 |r+1=>by
  obtain⟨n,b,e⟩:=ym mask h r;have c:=Aj mask (bp mask h r).1;have step:=mU (runEnd mask (bp mask h r).1-(bp mask h r).1) (pth mask h n) (λm=>pth mask h (n+m)) rfl (λm=>rfl) (by rw[e];exact Lk _);refine⟨n+(runEnd mask (bp mask h r).1-(bp mask h r).1)+1,by lia,?_⟩;rw[pth];have a:=step;rw[a,e];unfold adv;rw[if_neg (by simp)];rfl
theorem Fu(h):bits h<2 ^ 64:=by
 unfold bits;lia
theorem qG(mask)(h):∀r,(bp mask h r).2=bits h/32 ^ r
 |0=>by simp[bp]
 |r+1=>by
  rw[bp];show (bp mask h r).2/32=_;rw[qG mask h r,TJ,Oy]
theorem y4(mask)(h)(r)(b:12<=r):(bp mask h r).2/32=0:=by
 rw[qG];have a:=Fu h;rw[TJ];apply Nat.div_eq_of_lt;have:32 ^ 12*32<=32 ^ r*32:=RQ _ (RN (by decide) b);exact Lp (Lp a (by decide)) this
def cK:Nat->Nat
 |0=>1
 |k+1=>cK k*(4*cK k+2)
theorem CI:∀k,∃m,cK k=2 ^ k*(2*m+1)
 |0=>⟨0,by simp[cK]⟩
 |k+1=>by
  obtain⟨m,e⟩:=CI k;refine⟨2*(cK k) *m+m+cK k,?_⟩;rw[cK,Oy];have:cK k*(4*cK k+2)=2 ^ k*(2*m+1) *(4*cK k+2):=by rw[<-e]
  rw[this];generalize cK k=c;generalize 2 ^ k=p;grind
def jf:Nat->Nat->Nat
 |0,x=>x
 |n+1,x=>5*jf n x+1
theorem oV(m x):∀n,jf (m+n) x=jf n (jf m x)
 |0=>rfl
 |n+1=>by rw[<-PX,jf,oV m x n,jf]
theorem nF:∀k x,jf (2 ^ k) x=(1+4*cK k) *x+cK k
 |0,x=>by simp[jf,cK]
 |k+1,x=>by
  rw[Oy,Nat.mul_two,oV,nF k,nF k,cK];generalize cK k=c;grind
theorem wL(k x):jf (2 ^ k) x%2 ^ (k+1)=(x+2 ^ k)%2 ^ (k+1):=by
 rw[nF];obtain⟨m,e⟩:=CI k;rw[e]
 have:(1+4*(2 ^ k*(2*m+1))) *x+2 ^ k*(2*m+1)=(x+2 ^ k)+2 ^ (k+1) *(2*(2*m+1) *x+m):=by
  rw[Oy];generalize 2 ^ k=p;grind
 rw[this,Nat.add_mul_mod_self_left]
theorem JL{a p:Nat}(h:a<p+p):a%p=if a<p then a else a-p:=by
 split
 .exact LZ (by assumption)
 .rw[Vc (by omega),LZ (by omega)]
theorem FI{a b p:Nat}(c:a<p+p)(d:b<p+p)(e:a%p=b%p)(n:a≠b):(a+p)%(p+p)=b:=by
 rw[JL c,JL d]at e;by_cases ha:a<p
 .rw[if_pos ha]at e;rw[LZ (by omega)]
  split at e <;>omega
 .rw[if_neg ha]at e;rw[Vc (by omega),LZ (by omega)]
  split at e <;>omega
theorem nC(x):∀k y,∃n,n<2 ^ k/\jf n x%2 ^ k=y%2 ^ k:=by
 intro c
 induction c with
 |zero=>
  intro y;exact⟨0,by simp,by simp[Nat.mod_one]⟩
 |succ k d=>
  intro y;obtain⟨n,j,e⟩:=d y;have i:2 ^ (k+1)=2 ^ k+2 ^ k:=by rw[Oy];omega
  have l:0<2 ^ k:=Nat.pow_pos (by decide);by_cases h:jf n x%2 ^ (k+1)=y%2 ^ (k+1)
  .exact⟨n,by omega,h⟩
  .refine⟨n+2 ^ k,by omega,?_⟩;rw[oV,wL];generalize jf n x=z at *;have g:z%2 ^ (k+1)%2 ^ k=z%2 ^ k:=Vd _ ⟨2,by rw[Oy]⟩;have f:y%2 ^ (k+1)%2 ^ k=y%2 ^ k:=Vd _ ⟨2,by rw[Oy]⟩;have l1:=M5 z (show 0<2 ^ (k+1) by omega);have l2:=M5 y (show 0<2 ^ (k+1) by omega);rw[<-R7];rw[<-g,<-f]at e;generalize z%2 ^ (k+1)=a at *;generalize y%2 ^ (k+1)=b at *;rw[i]at *;generalize 2 ^ k=p at *;exact FI l1 l2 e h
theorem nL{mask k:Nat}(a:mask+1=2 ^ k)(h):∀q,(bp mask h (12+q)).1=jf q (bp mask h 12).1%2 ^ k
 |0=>by
  rw[jf]
  have:(bp mask h 12).1<2 ^ k:=by
   rw[<-a];exact M5 _ (by lia)
  exact (LZ this).symm
 |q+1=>by
  show (leap mask (bp mask h (12+q)).1 (bp mask h (12+q)).2).1=_;unfold leap;simp only[y4 mask h (12+q) (by lia)];rw[nL a h q,a,jf,Qf,VM 5 _];generalize jf q (bp mask h 12).1=z;generalize 2 ^ k=m;rw[Xw,Nat.mod_mul_mod,<-Xw]
theorem cover{mask k:Nat}(b:mask+1=2 ^ k)(h)(s)(hs:s<=mask):∃n,n<10*turns mask/\(pth mask h n).j=s:=by
 obtain⟨q,c,e⟩:=nC (bp mask h 12).1 k s;obtain⟨n,d,a⟩:=ym mask h (12+q);refine⟨n,?_,?_⟩
 .unfold turns;lia
 .rw[a];rw[nL b h q,e];exact LZ (by lia)
def Liv(t:SetTable)(j:Nat):Prop:=∃i:Nat,t.place[i]?=some j
structure TOk(t:SetTable)(hs:List Int):Prop where
 R:Ris t.place
 d:t.dummies=#[]
 k:∃k,3<=k/\t.mask+1=2 ^ k
 n:t.place.size=hs.length
 f:t.place.size<=t.mask
 le:∀(i x:Nat),t.place[i]?=some x->x<=t.mask
 reach:∀(i j:Nat) (h:Int),t.place[i]?=some j->hs[i]?=some h->∃m,(pth t.mask h m).j=j/\∀m',m'<m->Liv t (pth t.mask h m').j
theorem least{P:Nat->Prop}:∀n,P n->∃m,m<=n/\P m/\∀k,k<m->¬ P k:=by
 intro n
 induction n using Uc with
 |_ n e=>
  intro h;by_cases a:∃k,k<n/\P k
  .obtain⟨k,a,c⟩:=a;obtain⟨m,g,f,d⟩:=e k a c;exact⟨m,by lia,f,d⟩
  .exact⟨n,Lk _,h,λk b c=>a ⟨k,b,c⟩⟩
theorem vM(T:TOk t hs)(h):∃N,N<10*turns t.mask/\¬ Liv t (pth t.mask h N).j/\∀m,m<N->Liv t (pth t.mask h m).j:=by
 obtain⟨s,a,d⟩:=zw T.R T.f;obtain⟨k,_,l⟩:=T.k;obtain⟨n,q,e⟩:=cover l h s a;obtain⟨m,p,c,o⟩:=least (P:=λn=>¬ Liv t (pth t.mask h n).j) n (by show ¬ Liv t (pth t.mask h n).j;rw[e];rintro ⟨i,g⟩;exact d i g);exact⟨m,by lia,c,λk b=>Ng λz=>o k b z⟩
theorem DI(T:TOk t hs)(hashAt)(h)(B:¬ Liv t (pth t.mask h N).j)(w:∀m,m<N->Liv t (pth t.mask h m).j):∀o n,n<=N->N-n<o->
  (probe.go t hashAt h o (pth t.mask h n)=some (.empty (pth t.mask h N).j none)/\∀m i,n<=m->m<N->t.place[i]?=some (pth t.mask h m).j->hashAt i≠h)\/
  ∃m i,n<=m/\m<N/\t.place[i]?=some (pth t.mask h m).j/\hashAt i=h/\probe.go t hashAt h o (pth t.mask h n)=some (.candidate (pth t.mask h m).j i (pth t.mask h (m+1)))/\
   ∀(c a:Nat),n<=c->c<m->t.place[a]?=some (pth t.mask h c).j->hashAt a≠h:=by
 intro C
 induction C with
 |zero=>
  intro n _ F;lia
 |succ o r=>
  intro n s F;rw[probe.go];rcases wD T.R T.d (pth t.mask h n).j with ⟨e,E⟩ |⟨i,e,b⟩
  .have p:n=N:=by
    rcases LY s with z |z
    .obtain⟨i,b⟩:=w n z;exact absurd b (E i)
    .exact z
   subst p;refine .inl ⟨by simp only[e,oB],λm i k l=>by lia⟩
  .have p:n<N:=by
    rcases LY s with z |z
    .exact z
    .subst z;exact absurd ⟨i,b⟩ B
   simp only[e];by_cases g:hashAt i=h
   .refine .inr ⟨n,i,Lk _,p,b,g,?_,λc a k l=>by lia⟩;simp only[g,beq_self_eq_true,if_true,oC];rfl
   .have hb:(hashAt i==h)=false:=by simpa using g
    simp only[hb,LM,if_false,oC];have r:=r (n+1) (by lia) (by lia);rcases r with ⟨u,q⟩ |⟨m,v,u,q,A,x,D,y⟩
    .refine .inl ⟨u,λm a k l f=>?_⟩;rcases LY k with z |z
     .exact q m a z l f
     .subst z;rw[T.R.inj f b];exact g
    .refine .inr ⟨m,v,by lia,q,A,x,D,λc a k l f=>?_⟩;rcases LY k with z |z
     .exact y c a z l f
     .subst z;rw[T.R.inj f b];exact g
theorem Co(T:TOk t hs){N i:Nat}(c:¬ Liv t (pth t.mask h N).j)(b:hs[i]?=some h):∃m j,m<N/\t.place[i]?=some j/\(pth t.mask h m).j=j:=by
 have a:i<t.place.size:=by rw[T.n];exact (Ls.mp b).1
 obtain⟨m,e,d⟩:=T.reach i _ h (fu a) b;refine⟨m,_,?_,fu a,e⟩;rcases Pz m N with z |z |z
 .exact z
 .subst z;exact absurd ⟨i,by rw[e];exact fu a⟩ c
 .exact absurd (d N z) c
theorem fN{α:Type}(xs)(p)(x:α):(insertAt xs p x).toList=xs.toList.take p++x::xs.toList.drop p:=by
 unfold insertAt;simp[Array.toList_extract];exact Mf (by simp)
theorem cS{α:Type}{xs:Array α}{x:α}(e:p<=xs.size)(i):(insertAt xs p x)[i]?=if i<p then xs[i]? else if i=p then some x else xs[i-1]?:=by
 rw[<-MN,fN];have d:(xs.toList.take p).length=p:=by simp;lia
 by_cases a:i<p
 .rw[if_pos a,LO (by lia),NK a,MN]
 .rw[if_neg a,LS (by lia),d];by_cases b:i=p
  .subst b;simp
  .rw[if_neg b];obtain⟨q,c⟩:∃q,i-p=q+1:=⟨i-p-1,by lia⟩
   rw[c,Nq,O_,MN];congr 1;lia
theorem jC{α:Type}(xs)(p)(x:α)(a:p<=xs.size):(insertAt xs p x).size=xs.size+1:=by
 rw[<-Ly,fN];simp;lia
def jL{α:Type}(xs:List α)(p:Nat)(x:α):List α:=xs.take p++x::xs.drop p
theorem BW{α:Type}{xs:List α}{x:α}(e:p<=xs.length)(i):(jL xs p x)[i]?=if i<p then xs[i]? else if i=p then some x else xs[i-1]?:=by
 unfold jL;have d:(xs.take p).length=p:=by simp;lia
 by_cases a:i<p
 .rw[if_pos a,LO (by lia),NK a]
 .rw[if_neg a,LS (by lia),d];by_cases b:i=p
  .subst b;simp
  .rw[if_neg b];obtain⟨q,c⟩:∃q,i-p=q+1:=⟨i-p-1,by lia⟩
   rw[c,Nq,O_];congr 1;lia
theorem FA(R:Ris xs)(n:∀i:Nat,xs[i]?≠some j):Ris (insertAt xs (below xs j) j):=by
 obtain⟨l,k,o⟩:=gi R j
 have gt:∀i x,below xs j<=i->xs[i]?=some x->j<x:=λi x m c=>by
  rcases LY (k i x m c) with z |z
  .exact z
  .subst z;exact absurd c (n i)
 intro a b x y g c hy;rw[cS o]at c hy;by_cases f:a<below xs j
 .rw[if_pos f]at c;by_cases e:b<below xs j
  .rw[if_pos e]at hy;exact R a b x y g c hy
  .rw[if_neg e]at hy;by_cases d:b=below xs j
   .rw[if_pos d]at hy;cases hy;exact l a x f c
   .rw[if_neg d]at hy;exact R a (b-1) x y (by lia) c hy
 .rw[if_neg f]at c;have e:¬ b<below xs j:=by lia
  rw[if_neg e]at hy;have d:¬ b=below xs j:=by lia
  rw[if_neg d]at hy;by_cases h:a=below xs j
  .rw[if_pos h]at c;cases c;exact gt (b-1) y (by lia) hy
  .rw[if_neg h]at c;exact R (a-1) (b-1) x y (by lia) c hy
theorem yk(b:p<=xs.size)(s):(∃i:Nat,(insertAt xs p j)[i]?=some s)↔s=j\/∃i:Nat,xs[i]?=some s:=by
 constructor
 .rintro ⟨i,a⟩;rw[cS b]at a;split at a
  .exact .inr ⟨i,a⟩
  .split at a
   .cases a;exact .inl rfl
   .exact .inr ⟨i-1,a⟩
 .rintro (rfl |⟨i,a⟩)
  .exact⟨p,by rw[cS b,if_neg (Mh _),if_pos rfl]⟩
  .by_cases h:i<p
   .exact⟨i,by rw[cS b,if_pos h];exact a⟩
   .exact⟨i+1,by rw[cS b,if_neg (by lia),if_neg (by lia)];simpa using a⟩
theorem TOk.put(T:TOk t hs)(w:¬ Liv t (pth t.mask h N).j)(v:∀m,m<N->Liv t (pth t.mask h m).j)(B:(pth t.mask h N).j<=t.mask)(C:t.place.size+1<=t.mask):
  TOk (t.put (pth t.mask h N).j).1 (jL hs (t.put (pth t.mask h N).j).2 h):=by
 have y:∀i,t.place[i]?≠some (pth t.mask h N).j:=λi e=>w ⟨i,e⟩;obtain⟨_,_,hb⟩:=gi T.R (pth t.mask h N).j;have p:below t.place (pth t.mask h N).j<=hs.length:=by rw[<-T.n];exact hb
 have D:(if SetTable.has t.dummies (pth t.mask h N).j then eraseAt t.dummies (below t.dummies (pth t.mask h N).j) else t.dummies)=#[]:=by
  rw[T.d];simp[SetTable.has]
 unfold SetTable.put;simp only[D];refine⟨FA T.R y,rfl,T.k,?_,?_,λi x e=>?_,λi j u c a=>?_⟩
 .show (insertAt _ _ _).size=(jL hs _ h).length;rw[jC _ _ _ hb,T.n];unfold jL;simp;lia
 .show (insertAt _ _ _).size<=t.mask;rw[jC _ _ _ hb];exact C
 .rcases (yk hb x).mp ⟨i,e⟩ with z |⟨q,A⟩
  .rw[z];exact B
  .exact T.le q x A
 .have b:∀s,Liv t s->Liv {t with place:=insertAt t.place (below t.place (pth t.mask h N).j) (pth t.mask h N).j,dummies:=#[] } s:=λs z=>(yk hb s).mpr (.inr z);rw[cS hb]at c;rw[BW p]at a;split at c
  .rename_i z
   rw[if_pos z]at a;obtain⟨m,r,l⟩:=T.reach i j u c a;exact⟨m,r,λg f=>b _ (l g f)⟩
  .rename_i z
   rw[if_neg z]at a;split at c
   .rename_i o
    rw[if_pos o]at a;cases c;cases a;exact⟨N,rfl,λg f=>b _ (v g f)⟩
   .rename_i o
    rw[if_neg o]at a;obtain⟨m,r,l⟩:=T.reach (i-1) j u c a;exact⟨m,r,λg f=>b _ (l g f)⟩
theorem Dz{mask:Nat}(h):∀n,(pth mask h n).j+(pth mask h n).more<=mask
 |0=>by
  show bits h%(mask+1)+(runEnd mask (bits h%(mask+1))-bits h%(mask+1))<=mask;have:=M5 (bits h) (show 0<mask+1 by lia);unfold runEnd;split <;>lia
 |n+1=>by
  have a:=Dz (mask:=mask) h n;rw[pth];unfold adv;split
  .simp only;lia
  .show (leap mask _ _).1+(runEnd mask (leap mask _ _).1-(leap mask _ _).1)<=mask;have:(leap mask (pth mask h n).i (pth mask h n).perturb).1<mask+1:=M5 _ (by lia);unfold runEnd;split <;>lia
def OL(owner:Array (Option Nat))(j:Nat):Prop:=∃k:Nat,owner[j]?=some (some k)
def nr(mask:Nat)(h:Int):Nat->Nat
 |0=>0
 |r+1=>nr mask h r+(runEnd mask (bp mask h r).1-(bp mask h r).1)+1
theorem Go(mask)(h):∀r,pth mask h (nr mask h r)={j:=(bp mask h r).1,more:=runEnd mask (bp mask h r).1-(bp mask h r).1,i:=(bp mask h r).1,perturb:=(bp mask h r).2,dummy:=none }
 |0=>rfl
 |r+1=>by
  have e:=Go mask h r;have step:=mU (runEnd mask (bp mask h r).1-(bp mask h r).1) (pth mask h (nr mask h r)) (λm=>pth mask h (nr mask h r+m)) rfl (λm=>rfl) (by rw[e];exact Lk _);have a:=step;rw[nr,pth,a,e];unfold adv;rw[if_neg (by simp)];rfl
theorem wY(mask)(h)(r k)(b:k<=runEnd mask (bp mask h r).1-(bp mask h r).1):(pth mask h (nr mask h r+k)).j=(bp mask h r).1+k:=by
 have e:=Go mask h r;have step:=mU k (pth mask h (nr mask h r)) (λm=>pth mask h (nr mask h r+m)) rfl (λm=>rfl) (by rw[e];exact b);have a:=step;rw[a,e]
theorem zE(mask i):i<=runEnd mask i:=by unfold runEnd;split <;>lia
theorem D0(mask)(h):∀r,(bp mask h r).1<=mask
 |0=>Mt (M5 _ (by lia))
 |r+1=>Mt (M5 _ (by lia))
theorem tI{mask i:Nat}(h:i<=mask):runEnd mask i<=mask:=by unfold runEnd;split <;>lia
theorem xm{mask:Nat}(y:owner.size=mask+1)(h):∀X9 r,(∃c,r<=c/\c<r+X9/\owner[(bp mask h c).1]?=some none)->(∀m,m<nr mask h r->OL owner (pth mask h m).j)->
  ∃N,layClean.free mask owner X9 (bp mask h r).1 (bp mask h r).2=some (pth mask h N).j/\owner[(pth mask h N).j]?=some none/\∀m,m<N->OL owner (pth mask h m).j
 |0,r,⟨c,n,A,_⟩,_=>by omega
 |X9+1,r,i,s=>by
  rw[layClean.free];have hge:=zE mask (bp mask h r).1;have F:=tI (D0 mask h r);have g:∀k,k<runEnd mask (bp mask h r).1+1-(bp mask h r).1->(bp mask h r).1+k<owner.size:=λk w=>by omega
  cases hf:(MK (runEnd mask (bp mask h r).1+1-(bp mask h r).1)).find? λk=>(owner.getD ((bp mask h r).1+k) (some 0)).isNone with
  |some k=>
   obtain⟨u,E,B⟩:=List.find?_range_eq_some.mp hf;have w:=Mc.mp E;have p:=g k w
   have D:owner[(bp mask h r).1+k]?=some none:=by
    have:owner.getD ((bp mask h r).1+k) (some 0)=owner[(bp mask h r).1+k]:=by simp[Qp,p]
    rw[this]at u;have:owner[(bp mask h r).1+k]=none:=by simpa using u
    simp[p,this]
   have l:=wY mask h r k (by omega);refine⟨nr mask h r+k,by simp only[l],by rw[l];exact D,λm t=>?_⟩;by_cases b:m<nr mask h r
   .exact s m b
   .obtain⟨q,rfl⟩:∃q,m=nr mask h r+q:=⟨m-nr mask h r,by omega⟩
    have d:=B q (by omega);have f:=g q (by omega);rw[wY mask h r q (by omega)];have:owner.getD ((bp mask h r).1+q) (some 0)=owner[(bp mask h r).1+q]:=by simp[Qp,f]
    rw[this]at d;cases a:owner[(bp mask h r).1+q] with
    |none=>rw[a]at d;simp at d
    |some v=>exact⟨v,by simp[f,a]⟩
  |none=>
   have o:∀q,q<runEnd mask (bp mask h r).1+1-(bp mask h r).1->OL owner ((bp mask h r).1+q):=λq d=>by
    have:=List.find?_eq_none.mp hf q (Mc.mpr d);have f:=g q d;have e:owner.getD ((bp mask h r).1+q) (some 0)=owner[(bp mask h r).1+q]:=by simp[Qp,f]
    rw[e]at this;cases a:owner[(bp mask h r).1+q] with
    |none=>rw[a]at this;simp at this
    |some v=>exact⟨v,by simp[f,a]⟩
   have next:=xm y h X9 (r+1) (by
    obtain⟨c,n,A,x⟩:=i;refine⟨c,?_,by omega,x⟩;rcases LY n with z |z
    .exact z
    .subst z;obtain⟨v,a⟩:=o 0 (by omega);rw[Qf,x]at a;cases a) (λm t=>by
    by_cases b:m<nr mask h r
    .exact s m b
    .obtain⟨q,rfl⟩:∃q,m=nr mask h r+q:=⟨m-nr mask h r,by omega⟩
     have C:nr mask h r+q<nr mask h r+(runEnd mask (bp mask h r).1-(bp mask h r).1)+1:=t;rw[wY mask h r q (by omega)];exact o q (by omega))
   exact next
structure OI(mask:Nat)(owner:Array (Option Nat))(hs:List Int):Prop where
 sz:owner.size=mask+1
 lt:∀(j k:Nat),owner[j]?=some (some k)->k<hs.length
 inj:∀(i j k:Nat),owner[i]?=some (some k)->owner[j]?=some (some k)->i=j
 all:∀k:Nat,k<hs.length->∃j:Nat,owner[j]?=some (some k)
 reach:∀(j k:Nat) (h:Int),owner[j]?=some (some k)->hs[k]?=some h->∃m,(pth mask h m).j=j/\∀m',m'<m->OL owner (pth mask h m').j
theorem OI.free{mask:Nat}(O:OI mask owner hs)(t:hs.length<=mask):∃s,s<=mask/\owner[s]?=some none:=by
 apply Ng;intro o
 have f:∀s,s<=mask->OL owner s:=λs n=>by
  have j:s<owner.size:=by rw[O.sz];lia
  cases e:owner[s] with
  |none=>exact absurd ⟨s,n,by simp[j,e]⟩ o
  |some k=>exact⟨k,by simp[j,e]⟩
 have p:((MK (mask+1)).map λs=>(owner.getD s none).getD 0).Nodup:=by
  rw[Sg,MF];refine QN ?_ (TL);intro a b ha hb l e;obtain⟨c,d⟩:=f a (by have:=Mc.mp ha;lia);obtain⟨q,i⟩:=f b (by have:=Mc.mp hb;lia);have h:(owner.getD a none).getD 0=c:=by simp[Ni,d]
  have m:(owner.getD b none).getD 0=q:=by simp[Ni,i]
  rw[h,m]at e;subst e;have:=O.inj a b c d i;lia
 have sub:((MK (mask+1)).map λs=>(owner.getD s none).getD 0) ⊆ MK hs.length:=by
  intro x r;obtain⟨s,g,rfl⟩:=Ln.mp r;obtain⟨c,d⟩:=f s (by have:=Mc.mp g;lia);have h:(owner.getD s none).getD 0=c:=by simp[Ni,d]
  rw[h];exact Mc.mpr (O.lt s c d)
 have:=VO p sub;simp at this;lia
theorem OI.step{mask k:Nat}(E:mask+1=2 ^ k){owner:Array (Option Nat)}{hs:List Int}(O:OI mask owner hs)(C:hs.length<=mask)(h):
  ∃j,layClean.free mask owner (turns mask) (bits h%(mask+1)) (bits h)=some j/\OI mask (owner.setIfInBounds j (some hs.length)) (hs++[h]):=by
 obtain⟨s,x,u⟩:=O.free C;obtain⟨q,G,e⟩:=nC (bp mask h 12).1 k s;have A:(bp mask h (12+q)).1=s:=by rw[nL E h q,e];exact LZ (by lia)
 obtain⟨N,B,o,r⟩:=xm O.sz h (turns mask) 0 ⟨12+q,Mu _,by unfold turns;lia,by rw[A];exact u⟩ (λm l=>absurd l (ON _));refine⟨_,B,?_⟩;generalize hj:(pth mask h N).j=j at *;have n:=(OX.mp o).1
 have get:∀i,(owner.setIfInBounds j (some hs.length))[i]?=if j=i then some (some hs.length) else owner[i]?:=λi=>by
  rw[Array.getElem?_setIfInBounds];split
  .rename_i z;subst z;simp[n]
  .rfl
 have g:∀i,OL owner i->OL (owner.setIfInBounds j (some hs.length)) i:=λi ⟨v,f⟩=>by
  refine⟨v,?_⟩;rw[get,if_neg (λz=>by subst z;rw[o]at f;cases f)];exact f
 refine⟨by simp[O.sz],λi v e=>?_,λa b v c d=>?_,λv f=>?_,λi v t c d=>?_⟩
 .rw[get]at e;split at e
  .cases e;simp
  .have:=O.lt i v e;simp;lia
 .rw[get]at c d;split at c <;>split at d
  .lia
  .cases c;exact absurd (O.lt b _ d) (Mh _)
  .cases d;exact absurd (O.lt a _ c) (Mh _)
  .exact O.inj a b v c d
 .simp at f;rcases LY (Mt f) with z |z
  .obtain⟨i,p⟩:=O.all v z;refine⟨i,?_⟩;rw[get,if_neg (λy=>by subst y;rw[o]at p;cases p)];exact p
  .subst z;exact⟨j,by rw[get,if_pos rfl]⟩
 .rw[get]at c;split at c
  .rename_i z
   cases c;simp at d;subst d;exact⟨N,by rw[hj];exact z,λm l=>g _ (r m l)⟩
  .have f:=O.lt i v c;rw[LO f]at d;obtain⟨m,F,w⟩:=O.reach i v t c d;exact⟨m,F,λD l=>g _ (w D l)⟩
theorem EB{mask k:Nat}(o:mask+1=2 ^ k):∀more b a,OI mask a b->b.length+more.length<=mask+1->∃c,more.foldl (λm h=>do
  let (a,k) <-m
  let j <-layClean.free mask a (turns mask) (bits h%(mask+1)) (bits h)
  pure (a.setIfInBounds j (some k),k+1)) (some (a,b.length))=some (c,b.length+more.length)/\OI mask c (b++more):=by
 intro n
 induction n with
 |nil=>
  intro b a O _;exact⟨a,by simp,by simpa using O⟩
 |cons h more l=>
  intro b a O d;obtain⟨j,e,i⟩:=O.step o (by simp at d;lia) h;obtain⟨g,f,p⟩:=l (b++[h]) _ i (by simp at d |-;lia);refine⟨g,?_,by simpa using p⟩;rw[Nd]
  have:(do
   let (a,k) <-some (a,b.length)
   let j <-layClean.free mask a (turns mask) (bits h%(mask+1)) (bits h)
   pure (a.setIfInBounds j (some k),k+1):Option (Array (Option Nat)×Nat))=some (a.setIfInBounds j (some b.length),b.length+1):=by
   simp[e]
  rw[this];simp only[LG,T_]at f;rw[f];simp;lia
theorem vD{mask k:Nat}(d:mask+1=2 ^ k)(f:hs.size<=mask+1):∃a,layClean mask hs=some a/\OI mask a hs.toList:=by
 have c:OI mask (Array.replicate (mask+1) none) []:=⟨by simp,λj k e=>by simp[QO]at e,λi j k e=>by simp[QO]at e,λk h=>by simp at h,λj k h e=>by simp[QO]at e⟩
 obtain⟨b,e,O⟩:=EB d hs.toList [] _ c (by simpa using f);refine⟨b,?_,by simpa using O⟩;unfold layClean;rw[<-So];simp only[Qe]at e;rw[e];rfl
theorem uG(n):∀X9 k,n<2 ^ (k+X9)->∃a,k<=a/\sizeAbove.go n X9 (2 ^ k)=2 ^ a/\n<2 ^ a/\(2 ^ a<=2*n\/a=k)
 |0,k,h=>⟨k,Lk _,rfl,by simpa using h,.inr rfl⟩
 |X9+1,k,h=>by
  rw[sizeAbove.go];by_cases ZJ:2 ^ k<=n
  .rw[if_pos ZJ,<-Oy];obtain⟨a,e,d,c,b⟩:=uG n X9 (k+1) (by rw[show k+1+X9=k+(X9+1) by lia];exact h);refine⟨a,by lia,d,c,.inl ?_⟩;rcases b with z |z
   .exact z
   .subst z;rw[Oy];lia
  .rw[if_neg ZJ];exact⟨k,Lk _,rfl,by lia,.inr rfl⟩
theorem above(n)(h:n<2 ^ 60):∃k,3<=k/\sizeAbove n=2 ^ k/\n<2 ^ k/\2 ^ k<=2*n+8:=by
 obtain⟨k,d,c,b,a⟩:=uG n 64 3 (Lp h (RN (by decide) (by decide)));refine⟨k,d,c,b,?_⟩;rcases a with z |z
 .lia
 .subst z;lia
def dZ(mask:Nat)(owner:Array (Option Nat)):List (Nat×Nat):=(MK (mask+1)).filterMap λj=>(owner.getD j none).map (j,·)
theorem tO(owner:Array (Option Nat)):∀l:List Nat,(l.filterMap λj=>(owner.getD j none).map (j,·)).map (·.1)=l.filter λj=>(owner.getD j none).isSome
 |[]=>rfl
 |a::l=>by
  have ih:=tO owner l;rw[OJ,VW];cases owner.getD a none with
  |none=>simpa using ih
  |some v=>simpa using ih
theorem eX{mask:Nat}(c:owner.size=mask+1)(j k):(j,k)∈dZ mask owner↔owner[j]?=some (some k):=by
 unfold dZ;rw[Sm];constructor
 .rintro ⟨a,ha,e⟩;have b:a<owner.size:=by rw[c];exact Mc.mp ha
  cases hv:owner.getD a none with
  |none=>rw[hv]at e;cases e
  |some v=>
   rw[hv]at e;cases e;have:owner.getD j none=owner[j]:=by simp[Qp,b]
   rw[this]at hv;simp[b,hv]
 .intro e;have b:=(OX.mp e).1;refine⟨j,Mc.mpr (by lia),?_⟩;rw[Ni,e];rfl
theorem Af(mask)(owner):(dZ mask owner).Pairwise λa b=>a.1<b.1:=by
 have:=(TL (n:=mask+1)).filter λj=>(owner.getD j none).isSome;rw[<-tO owner (MK (mask+1)),MF]at this;exact this
theorem HD{l:List Nat}(h:l.Pairwise (· < ·)):Ris l.toArray:=by
 intro i j x y b a hy;rw[Qg]at a hy;obtain⟨d,e⟩:=Ls.mp a;obtain⟨f,c⟩:=Ls.mp hy;have:=LD.mp h i j d f b;rw[e,c]at this;exact this
theorem Fg{mask k:Nat}(K:3<=k)(w:mask+1=2 ^ k)(G:hs.size<=mask)(finger moves)(led plain):
  ∃t d,laid mask finger moves led plain hs=some (t,d)/\TOk t (d.toList.map λi=>hs.getD i 0)/\d.toList.Perm (MK hs.size)/\t.mask=mask/\t.led=led/\t.plain=plain/\t.moves=moves:=by
 obtain⟨c,e,O⟩:=vD w (hs:=hs) (by lia);have y:=Af mask c
 have M:((dZ mask c).map (·.2)).Nodup:=by
  rw[Sg,MF];refine QN ?_ y;intro a b ha hb A f;have s:=(eX O.sz a.1 a.2).mp ha;have z:=(eX O.sz b.1 b.2).mp hb;rw[f]at s;have:=O.inj a.1 b.1 b.2 s z;lia
 have g:((dZ mask c).map (·.2)).Perm (MK hs.size):=by
  refine (OY M VX).mpr λx=>?_;rw[Ln,Mc];constructor
  .rintro ⟨⟨j,v⟩,r,rfl⟩;have:=O.lt j v ((eX O.sz j v).mp r);simpa using this
  .intro C;obtain⟨j,D⟩:=O.all x (by simpa using C);exact⟨(j,x),(eX O.sz j x).mpr D,rfl⟩
 have len:(dZ mask c).length=hs.size:=by have:=g.length_eq;simpa using this
 refine⟨_,_,by unfold laid;rw[e];rfl,⟨?_,rfl,⟨k,K,w⟩,?_,?_,λi x f=>?_,λi j h l o=>?_⟩,?_,rfl,rfl,rfl,rfl⟩
 .show Ris ((dZ mask c).map (·.1)).toArray;exact HD (by rw[MF];exact y)
 .show ((dZ mask c).map (·.1)).toArray.size=_;simp[dZ]
 .show ((dZ mask c).map (·.1)).toArray.size<=mask;simp[len,G]
 .change ((dZ mask c).map (·.1)).toArray[i]?=some x at f
  rw[Qg,Lq]at f;cases q:(dZ mask c)[i]? with
  |none=>rw[q]at f;cases f
  |some p=>
   rw[q]at f;cases f;have:=(eX O.sz p.1 p.2).mp (LW q);have:=(OX.mp this).1;show p.1<=mask;have P:=O.sz;lia
 .change ((dZ mask c).map (·.1)).toArray[i]?=some j at l
  change (((dZ mask c).map (·.2)).toArray.toList.map λi=>hs.getD i 0)[i]?=some h at o
  rw[Qg,Lq]at l;rw[Lq,Lq]at o;cases q:(dZ mask c)[i]? with
  |none=>rw[q]at l;cases l
  |some p=>
   rw[q]at l o;cases l;have u:=(eX O.sz p.1 p.2).mp (LW q);have E:=O.lt _ _ u
   have J:hs.toList[p.2]?=some h:=by
    have F:hs.getD p.2 0=h:=by simpa using o
    have:p.2<hs.size:=by simpa using E
    rw[<-F];simp[Qp,this]
   obtain⟨m,N,B⟩:=O.reach _ _ h u J;refine⟨m,N,λI r=>?_⟩;obtain⟨v,L⟩:=B I r;obtain⟨n,H⟩:=Mn.mp ((eX O.sz _ v).mpr L);refine⟨n,?_⟩;show ((dZ mask c).map (·.1)).toArray[n]?=_;rw[Qg,Lq,H];rfl
 .show ((dZ mask c).map (·.2)).toArray.toList.Perm _;simpa using g
variable {prog:LJ}{E:Lw→LB→Prop}
section
variable {w:Mp}{A:ML}{s:LB}
abbrev TK(prog:LJ)(w:Mp)(h:OG)(k:List Int)(b:LX):Prop:=IsTupleKey (SX prog w) h k b
abbrev hsh(prog:LJ)(w:Mp)(k:List Int):Int:=tupleKeyHash (SX prog w) k
theorem TK.ints{h:OG}{k:List Int}{vs:List Lw}(x:ItemsAre (SX prog w) k vs):∀v∈vs,∃n t,v=.int n t:=by
 induction x with
 |nil=>intro v a;simp at a
 |cons c _ b=>
  intro v a;rcases Ll.mp a with rfl |a
  .obtain⟨t,rfl⟩:=Q5 c;exact⟨_,t,rfl⟩
  .exact b v a
theorem pV(f:TK prog w s.heap k a)(h:Q false s):Me (L6 prog w) A (Rb 8 (.ref a)) Q E s:=by
 have j:=f.typeIs;obtain⟨o,items,n,i,_,l,m⟩:=f;unfold Rb;refine Lh (VP j ?_);dsimp only;rw[if_pos (by decide)];refine Lh (Lm ?_);simp only[NF,LM,if_false];refine Lh (P_ i l ?_);refine Lh ?_;rw[<-Sq];refine Tn _ (λrest r b=>r.1=none/\b=s/\∀v∈rest,∃n t,v=Rq n t) _ ?_ ?_ _ _ ⟨rfl,rfl,TK.ints (h:=s.heap) m⟩
 .rintro v rest r b ⟨c,rfl,d⟩;obtain⟨n,t,rfl⟩:=d v Lo;have e:Rb 7 (Rq n t)=pure false:=by unfold Rb;rfl
  rw[e];refine Lh (Lm ?_);simp only[LM,if_false];exact Lm ⟨rfl,rfl,λu g=>d u (Li _ g)⟩
 .rintro ⟨p,q⟩ b ⟨c,rfl,_⟩;subst c;exact Lm h
theorem Jx(f:TK prog w s.heap k a)(h:Q true s):Me (L6 prog w) A (UT 8 (.ref a)) Q E s:=by
 have j:=f.typeIs;obtain⟨o,items,n,i,_,l,m⟩:=f;unfold UT;refine Lh (OM j F.slot_tuple_hash.lookup ?_);show Me _ _ (Wk (.ref a) >>=_) _ _ s;refine Lh (P_ i l ?_);refine Lh ?_;show Me _ _ (forIn items _ _) _ _ s;rw[<-Sq];refine Tn _ (λrest r b=>r.1=none/\b=s/\∀v∈rest,∃n t,v=Rq n t) _ ?_ ?_ _ _ ⟨rfl,rfl,TK.ints (h:=s.heap) m⟩
 .rintro v rest r b ⟨c,rfl,d⟩;obtain⟨n,t,rfl⟩:=d v Lo;have e:UT 7 (Rq n t)=pure true:=by unfold UT;rfl
  rw[e];refine Lh (Lm ?_);simp only[NF,LM,if_false];exact Lm ⟨rfl,rfl,λu g=>d u (Li _ g)⟩
 .rintro ⟨p,q⟩ b ⟨c,rfl,_⟩;simp only at c;subst c;exact Lm h
theorem wQ(i:TK prog w s.heap k a)(j:∀v∈l,∃c b,v=.ref b/\TK prog w s.heap c b)(h:Q false s):
  Me (L6 prog w) A (searchCouldBeSeen (.ref a) l) Q E s:=by
 refine Lh ?_;refine Tn _ (λrest r f=>r.1=none/\f=s/\∀v∈rest,∃c b,v=.ref b/\TK prog w s.heap c b) _ ?_ ?_ _ _ ⟨rfl,rfl,j⟩
 .rintro v rest r f ⟨g,rfl,d⟩;obtain⟨c,b,rfl,hb⟩:=d v Lo;dsimp only;split
  .exact Lm ⟨rfl,rfl,λu e=>d u (Li _ e)⟩
  .refine Lh (Ud i ?_);simp only[NF,LM,if_false];refine Lh (Ud hb ?_);simp only[NF,LM,if_false];refine Lh (pV i ?_);simp only[LM,if_false];refine Lh (pV hb ?_);simp only[LM,if_false];exact Lm ⟨rfl,rfl,λu e=>d u (Li _ e)⟩
 .rintro ⟨n,m⟩ f ⟨g,rfl,_⟩;subst g;exact Lm h
def ents(prog:LJ)(w:Mp)(a:List (List Int×LX)):List (Int×Lw):=a.map λp=>(hsh prog w p.1,.ref p.2)
theorem yL{i:Nat}:(ents prog w kb)[i]?=(kb[i]?).map λp=>(hsh prog w p.1,.ref p.2):=by unfold ents;rw[Lq]
theorem EW(kb):(ents prog w kb).map (·.1)=kb.map λp=>hsh prog w p.1:=by unfold ents;rw[L4];rfl
theorem TOk.fits(T:TOk t hs){n:Nat}(b:hs.length=n):t.fits n=true:=by
 have c:=T.n;have e:=T.f;have a:t.fill=t.place.size:=by unfold fill;rw[T.d];rfl
 unfold SetTable.fits;rw[a];simp[c,b];lia
theorem TOk.gave(T:TOk t hs):t.gaveWay=false:=by
 obtain⟨k,a,b⟩:=T.k;unfold SetTable.gaveWay;obtain⟨j,rfl⟩:∃j,k=j+1:=⟨k-1,by lia⟩
 have:t.mask%2=1:=by lia
 simp[this]
theorem vd(hu:A.units<P6)
  (ho:s.heap.get? S=some o) (hd:o.data=.set es ep t) (he:es.toList=ents prog w kb) (T:TOk t (kb.map λp=>hsh prog w p.1)) (hkb:∀p∈kb,TK prog w s.heap p.1 p.2) (hx:TK prog w s.heap k x)
  (hN:N<10*turns t.mask) (h0:¬ Liv t (pth t.mask (hsh prog w k) N).j) (h1:∀m,m<N->Liv t (pth t.mask (hsh prog w k) m).j) 
  (qf:(∀p∈kb,p.1≠k)->Q (.free (pth t.mask (hsh prog w k) N).j false) s) (qt:(∃p∈kb,p.1=k)->Q (.there none) s):
  ∀u n K,n<=N->N-n<u->K.getD (t.probeStart (hsh prog w k))=pth t.mask (hsh prog w k) n->
   (∀(m i:Nat) p,m<n->t.place[i]?=some (pth t.mask (hsh prog w k) m).j->kb[i]?=some p->p.1≠k)->
   Me (L6 prog w) A (Ve S (.ref x) (hsh prog w k) true u K) Q E s:=by
 have M:es.size=kb.length:=by rw[<-Ly,he];simp[ents]
 have YI:t.fits es.size=true:=T.fits (by rw[Lg,M]);have I:∀i:Nat,es[i]?=(kb[i]?).map λ(p:List Int×LX)=>(hsh prog w p.1,MM p.2):=λi=>by rw[<-MN,he,yL]
 intro u
 induction u with
 |zero=>intro n K _ h;lia
 |succ u ih=>
  intro n K hn hf YH Zw;refine Lh (N9 ho hd YI ?_);dsimp only;rw[T.gave];simp only[LM,if_false];rw[YH];have r:∀(i:Nat) (p:List Int×LX),kb[i]?=some p->((es[i]?.map (λ(e:Int×Lw)=>e.1)).getD 0:Int)=hsh prog w p.1:=λi p C=>by rw[I,C];rfl
  have pg:=DI T (λ(i:Nat)=>(es[i]?.map (λ(e:Int×Lw)=>e.1)).getD 0) (hsh prog w k) h0 h1 (10*turns t.mask) n hn (by lia);split
  .rename_i met f
   rcases pg with ⟨e,X1⟩ |⟨m,i,Z,L,B,Z6,e,g⟩
   .have q:=f.symm.trans e;cases q;dsimp only;refine Lm (qf λp C l=>?_);obtain⟨i,W⟩:=Mn.mp C;obtain⟨m,j,hm,B,hj⟩:=Co T (h:=hsh prog w k) h0 (i:=i) (by rw[Lq,W,<-l];rfl);rcases NN m n with P |P
    .exact Zw m i p P (by rw[hj];exact B) W l
    .exact X1 m i P hm (by rw[hj];exact B) (by rw[r i p W,l])
   .have q:=f.symm.trans e;cases q;dsimp only;have U:i<kb.length:=by rw[<-M,<-show t.place.size=es.size by rw[T.n,Lg,M]];exact yK B
    obtain⟨p,C⟩:∃p,kb[i]?=some p:=⟨_,Ld U⟩;have J:=LW C;have F:es[i]?=some (hsh prog w p.1,MM p.2):=by rw[I,C];rfl
    have rest:Me (L6 prog w) A (do
      let a <-UQ [MM p.2] (eqBool (MM p.2) (.ref x))
      let (es',_,t') <-setState S
      if true && a then return .there none
      let some same:=t'.sameMemory t.moves t.mask |unsupported "set.changed-during-lookup:is-the-new-block-at-the-old-address"
      let D <-match (if same then t'.slot (pth t.mask (hsh prog w k) m).j else .empty) with
       | .live i'=>match es'[i']? with
        |some (_,y')=>do pure (if <-isSame y' (MM p.2) then some i' else none)
        |none=>pure none
       |_=>pure none
      match D with
      |none=>rule "set.search.anew";Ve S (.ref x) (hsh prog w k) true u none
      |some i'=>if a then return .there (some i') else Ve S (.ref x) (hsh prog w k) true u (some (pth t.mask (hsh prog w k) (m+1)))) Q E s:=by
     refine Lh (Na (wpAny_eqBool_tuple hu (hkb p J) hx ?_));refine Lh (N9 ho hd YI ?_);dsimp only;by_cases l:p.1=k
     .rw[decide_eq_true l];simp only[Bool.and_self,if_true];exact Lm (qt ⟨p,J,l⟩)
     .rw[decide_eq_false l];simp only[WE,LM,if_false];have V:t.sameMemory t.moves t.mask=some true:=by unfold SetTable.sameMemory;simp
      rw[V];dsimp only;rw[if_pos rfl,pP T.R B];dsimp only;rw[F];dsimp only;refine Lh (wpAny_isSame_ref_self ?_);refine Lh (Lm ?_);simp only[if_true];refine ih (m+1) (some (pth t.mask (hsh prog w k) (m+1))) (by lia) (by lia) rfl λX i' G c b H=>?_;rcases NN X n with z |z
      .exact Zw X i' G z b H
      .rcases LY (Mt c) with y |y
       .have:=g X i' z y b;intro Y;exact this (by rw[r i' G H,Y])
       .subst y;have ei:=T.R.inj B b;subst ei;rw[C]at H;cases H;exact l
    by_cases d:t.led=true
    .rw[d];simp only[NF,LM,if_false];rw[F];exact rest
    .rw[show t.led=false by simpa using d];simp only[Qz,if_true];refine Lh (wQ hx (λv hv=>?_) ?_)
     .obtain⟨Y,O,rfl⟩:=Ln.mp hv
      have c:Y∈es.toList:=by
       have:=RM.mp O;exact RM.mpr (Array.mem_filter.mp this).1
      rw[he]at c;obtain⟨G,H,rfl⟩:=Ln.mp c;exact⟨G.1,G.2,rfl,hkb G H⟩
     .simp only[LM,if_false];rw[F];exact rest
  .rename_i YR
   rcases pg with ⟨e,X1⟩ |⟨m,i,Z,L,B,Z6,e,g⟩
   .exact absurd e (YR _)
   .exact absurd e (YR _)
structure SP(prog:LJ)(w:Mp)(h:OG)(S:LX)(kb:List (List Int×LX)):Prop where
 ex:∃o es ep t,h.get? S=some o∧o.ExactSet∧o.data=.set es ep t∧es.toList=ents prog w kb∧TOk t (kb.map λp=>hsh prog w p.1)∧t.led=(!w.params.followText "set-order")∧t.plain=true∧t.tooFull=false∧t.mask<8*kb.length+8
 keys:∀p∈kb,TK prog w h p.1 p.2
 nd:(kb.map (·.1)).Nodup
theorem TK.keep{es ep t}(x:TK prog w h k b)(g:h.get? S=some o)(f:o.data=.set es ep t)(hs:O8 S h h'):TK prog w h' k b:=by
 obtain⟨d,items,n,c,j,a,i⟩:=x
 have e:b≠S:=by
  rintro rfl;obtain rfl:d=o:=Ma (c.symm.trans g);rw[f]at a;exact nomatch a
 exact⟨d,items,n,(hs.2 b e).trans c,j,a,i⟩
theorem vU(x:LX)(a:Array (Int×Lw)):byScan (.ref x) a=false:=rfl
theorem uA{α a:Type}(f:α->a)(xs)(p)(x:α):(jL xs p x).map f=jL (xs.map f) p (f x):=by
 unfold jL;rw[Md,LK,S8,Vf]
theorem fU{α:Type}(xs)(p)(x:α):(jL xs p x).Perm (xs++[x]):=by
 refine VY.trans ?_;rw[Mb];exact (List.perm_append_singleton x xs).symm
theorem B5{α b:Type}{a:List α}(f:α->b)(d:b):∀(o:List Nat),(∀i∈o,i<a.length)->o.map (λi=>((a.map f).toArray).getD i d)=(o.filterMap λi=>a[i]?).map f:=by
 intro e
 induction e with
 |nil=>
  intro _;exact rfl
 |cons i o k=>
  intro h;have c:=h i Lo;rw[LK,OJ,Ld c,k λj g=>h j (Li _ g)];simp[Qp,c]
theorem zK{α:Type}{b:List α}{o:List Nat}(h:o.Perm (MK b.length)):(o.filterMap λi=>b[i]?).Perm b:=by
 refine (h.filterMap _).trans ?_
 suffices (MK b.length).filterMap (λi=>b[i]?)=b by rw[this]
 have:∀(l a:List α),(Xx a.length l.length).filterMap (λi=>(a++l)[i]?)=l:=by
  intro l
  induction l with
  |nil=>intro a;rfl
  |cons x l c=>
   intro a;rw[LF,List.range'_succ,OJ];have e:(a++x::l)[a.length]?=some x:=by rw[LS (Lk _)];simp
   rw[e];have:=c (a++[x]);simpa using this
 have q:=this b [];simpa [List.range_eq_range'] using q
theorem Fx(T:TOk t hs)(h:t.tooFull=false):t.place.size+1<=t.mask:=by
 obtain⟨k,a,c⟩:=T.k;have b:t.fill=t.place.size:=by unfold fill;rw[T.d];rfl
 unfold tooFull at h;simp at h;lia
theorem JS(x:s.heap.get? S=some o)(B:o.ExactSet)(m:o.data=.set es ep t)(C:es.toList=ents prog w kb)
  (T:TOk t (kb.map λp=>hsh prog w p.1)) (hl:t.led=(!w.params.followText "set-order")) (hp:t.plain=true) (hkb:∀p∈kb,TK prog w s.heap p.1 p.2) (hnd:(kb.map (·.1)).Nodup) (h1:0<kb.length) (hn:kb.length≤1000)
  (h:∀G Zg,O8 S s.heap G->SP prog w G S Zg->Zg.Perm kb->Q () {s with heap:=G }):Me (L6 prog w) A (setRelay S (grown kb.length)) Q E s:=by
 have g:es.size=kb.length:=by rw[<-Ly,C];simp[ents]
 have L:t.fits es.size=true:=T.fits (by rw[Lg,g]);have z:∀i:Nat,es[i]?=(kb[i]?).map λp=>(hsh prog w p.1,MM p.2):=λi=>by rw[<-MN,C,yL]
 have K:grown kb.length=kb.length*4:=by unfold grown;rw[if_neg (by lia)]
 rw[K];obtain⟨k,R,P,Y,X⟩:=above (kb.length*4) (by lia);have W:(sizeAbove (kb.length*4)-1)+1=2 ^ k:=by lia
 obtain⟨b,a,e,T',c,I,el,y,_⟩:=Fg R W (hs:=es.map (·.1)) (by rw[WG,g];lia) t.finger (t.movedTo (sizeAbove (kb.length*4)-1)) t.led t.plain;have j:t.relaid (es.map (·.1)) (kb.length*4)=some (b,a):=e;have F:a.toList.Perm (MK kb.length):=by rw[WG,g]at c;exact c
 have M:∀i∈a.toList,i<kb.length:=λi O=>Mc.mp (F.mem_iff.mp O);have v:=zK F
 have l:(a.filterMap (λi=>es[i]?)).toList=ents prog w (a.toList.filterMap λi=>kb[i]?):=by
  rw[Array.toList_filterMap];unfold ents;rw[List.map_filterMap];congr 1
  funext i
  rw[z]
 have f:(a.filterMap (λi=>es[i]?)).size=es.size:=by
  rw[<-Ly,l,g];unfold ents;rw[Lg,v.length_eq]
 refine Lh (N9 x m L ?_);dsimp only;rw[if_neg (by rw[P,Oq];lia),j]
 have u:Me (L6 prog w) A (do
   if (a.filterMap (λi=>es[i]?)).size !=es.size then unsupported "internal:set-table-lost-an-element"
   pure (a.filterMap (λi=>es[i]?),b):Sem (Array (Int×Lw)×SetTable)) (λr J=>Me (L6 prog w) A (storeSet S r.1 r.2) Q E J) E s:=by
  rw[f];simp only[bne_self_eq_false,LM,if_false];refine Lm ?_;refine Vu x m ?_ (by rw[f,g,Oq];lia)
  have D:(s.heap.update S (Rc (a.filterMap (λi=>es[i]?)) b)).get? S=some {o with data:=.set (a.filterMap (λi=>es[i]?)) (ep+1) b }:=by
   have:=M_ (Rc (a.filterMap (λi=>es[i]?)) b) x (by rw[Wl _ b m];rfl);rw[Wl _ b m]at this;exact this
  have H:=PY s.heap S (Rc (a.filterMap (λi=>es[i]?)) b);refine h _ (a.toList.filterMap λi=>kb[i]?) H ⟨⟨_,_,_,b,D,B,rfl,l,?_,by rw[el];exact hl,by rw[y];exact hp,?_,?_⟩,λp U=>?_,?_⟩ v
  .have:=B5 (λp=>hsh prog w p.1) 0 a.toList M;rw[<-this]
   have N:(es.map (·.1))=((kb.map λp=>hsh prog w p.1)).toArray:=by
    apply RF.mp;rw[To,C,EW]
   rw[N]at T';exact T'
  .have V:b.fill=b.place.size:=by unfold fill;rw[T'.d];rfl
   have q:=T'.n;rw[Lg,F.length_eq,SN]at q;unfold tooFull;rw[V,q,I];simp;lia
  .rw[I,v.length_eq];lia
  .exact (hkb p (v.mem_iff.mp U)).keep x m H
  .exact ((v.map (·.1)).nodup_iff).mpr hnd
 exact Lh u
theorem vG(hu:A.units<P6)(P:SP prog w s.heap S kb)(W:TK prog w s.heap k x)(hn:kb.length<1000)
  (h:∀b J Zg,O8 S s.heap J->SP prog w J S Zg->(if k∈kb.map (·.1) then Zg=kb else Zg.Perm (kb++[(k,x)]))->Q b {s with heap:=J }):
  Me (L6 prog w) A (setAddHashed S (.ref x) (hsh prog w k)) Q E s:=by
 obtain⟨⟨o,f,ep,t,l,B,g,U,T,hl,hp,c,Z7⟩,y,G⟩:=P;have P0:SP prog w s.heap S kb:=⟨⟨o,f,ep,t,l,B,g,U,T,hl,hp,c,Z7⟩,y,G⟩;have X:f.size=kb.length:=by rw[<-Ly,U];simp[ents]
 have YI:t.fits f.size=true:=T.fits (by rw[Lg,X]);obtain⟨N,Y,h0,h1⟩:=vM T (hsh prog w k);have hN':N<100000:=by unfold turns at Y;lia
 unfold setAddHashed setAddHashedIn;refine Na (Lh (N9 l g YI ?_));dsimp only;rw[vU];simp only[LM,if_false];unfold setSearch;refine Lh (vd hu l g U T y W Y h0 h1 (λYR=>?_) (λO=>?_) 100000 0 none (Mu _) (by lia) rfl λm i p hm=>by lia)
 .dsimp only;have H:k ∉ kb.map (·.1):=λz=>by obtain⟨p,M,e⟩:=Ln.mp z;exact YR p M e
  refine Lh (N9 l g YI ?_);dsimp only;generalize hj:(pth t.mask (hsh prog w k) N).j=j at *;have T1:=T.put (h:=hsh prog w k) (N:=N) (by rw[hj];exact h0) h1 (by have:=Dz (mask:=t.mask) (hsh prog w k) N;lia) (Fx T c);rw[hj]at T1;have C:(t.put j).1.plain=true:=hp;have u:(t.put j).1.led=(!w.params.followText "set-order"):=hl;have v:(t.put j).1.mask=t.mask:=rfl;generalize (t.put j).1=d at *;generalize (t.put j).2=q at *;have V:(jL kb q (k,x)).length=kb.length+1:=by rw[(fU kb q (k,x)).length_eq];simp
  have D:(insertAt f q (hsh prog w k,MM x)).toList=ents prog w (jL kb q (k,x)):=by
   rw[fN,U];unfold ents;rw[uA];rfl
  have K:(insertAt f q (hsh prog w k,MM x)).size=kb.length+1:=by
   rw[<-Ly,D];unfold ents;rw[Lg,V]
  have Z:TOk d ((jL kb q (k,x)).map λp=>hsh prog w p.1):=by rw[uA];exact T1
  rw[if_pos C];refine Lh (Jx W ?_);rw[if_pos rfl]
  have L:(s.heap.update S (Rc (insertAt f q (hsh prog w k,MM x)) d)).get? S=some {o with data:=.set (insertAt f q (hsh prog w k,MM x)) (ep+1) d }:=by
   have:=M_ (Rc (insertAt f q (hsh prog w k,MM x)) d) l (by rw[Wl _ d g];rfl);rw[Wl _ d g]at this;exact this
  have R:=PY s.heap S (Rc (insertAt f q (hsh prog w k,MM x)) d)
  have r:∀p∈jL kb q (k,x),TK prog w (s.heap.update S (Rc (insertAt f q (hsh prog w k,MM x)) d)) p.1 p.2:=λp M=>by
   have:=(fU kb q (k,x)).mem_iff.mp M;rcases Mm.mp this with z |z
   .exact (y p z).keep l g R
   .rw[Lz.mp z];exact W.keep l g R
  have n:((jL kb q (k,x)).map (·.1)).Nodup:=by
   rw[((fU kb q (k,x)).map (·.1)).nodup_iff,Md,Qq];refine⟨G,by simp,λa ha b hb=>?_⟩;simp at hb;subst hb;rintro rfl;exact H ha
  refine Lh (Vu l g ?_ (by rw[K,Oq];lia));rw[Qz,PZ];by_cases F:d.tooFull=true
  .rw[if_pos F,X,<-V];refine Lh (JS (s:={s with heap:=s.heap.update S (Rc (insertAt f q (hsh prog w k,MM x)) d) }) L B rfl D Z u C r n (by lia) (by lia) λJ Zg I P' pm=>Lm ?_);exact h true J Zg (R.trans I) P' (by rw[if_neg H];exact pm.trans (fU kb q (k,x)))
  .rw[if_neg F];refine Lm (h true _ (jL kb q (k,x)) R ⟨⟨_,_,_,d,L,B,rfl,D,Z,u,C,by simpa using F,by rw[v,V];lia⟩,r,n⟩ (by rw[if_neg H];exact fU kb q (k,x)))
 .dsimp only;refine Lm ?_;have H:k∈kb.map (·.1):=by obtain⟨p,M,e⟩:=O;exact Ln.mpr ⟨p,M,e⟩
  exact h false s.heap kb (SK S s.heap) P0 (by rw[if_pos H])
end
section
variable {w:Mp}{A:ML}
theorem TK.moved(x:TK prog w s.heap k b)(a:b ∉ wr)(m:Moved wr G s s'):TK prog w s'.heap k b:=by
 obtain⟨o,its,n,d,f,c,e⟩:=x;exact⟨o,its,n,m.heap b o a d,f,c,e⟩
theorem SP.moved(x:SP prog w s.heap S kb)(g:S ∉ wr)(b:∀p∈kb,p.2 ∉ wr)(m:Moved wr G s s'):SP prog w s'.heap S kb:=by
 obtain⟨⟨o,c,d,t,e,r⟩,h,f⟩:=x;exact⟨⟨o,c,d,t,m.heap S o g e,r⟩,λp a=>(h p a).moved (b p a) m,f⟩
structure Got(kx:Nat->List Int×LX)(i:Nat)(kb:List (List Int×LX)):Prop where
 src:∀p∈kb,∃j,j<i/\p=kx j
 all:∀j,j<i->(kx j).1∈kb.map (·.1)
 len:kb.length<=i
variable {R:Xh→LB→Prop}{I:LX}{fp wr:List LX}{G:Array Sj→Array Sj→Prop}{n:Nat}{P:Nat→Lw→Prop}{St:Nat→LB→Prop}
theorem Bb(W:WalksS prog w A.in1 I fp wr G n P St)(V:A.in1.units<P6)(U:S ∉ fp)(d:Nat->List Int×LX)(Z:∀i v,P i v->v=.ref (d i).2)(q:∀i,i<n->(d i).2 ∉ wr)(hn:n<=1000):
  ∀k i s l,n-i=k->i<=n->St i s->SP prog w s.heap S l->Got d i l->(∀j,j<n->TK prog w s.heap (d j).1 (d j).2)->
   (∀x C,Moved (S::wr) G s x->SP prog w x.heap S C->Got d n C->R (.ok (.ret .none)) x)->
   RE (L6 prog w) A (.builtin "set.update.loop" ⟨[.ref S,.ref I],[]⟩) R s:=by
 have B:S ∉ wr:=λh=>U (W.sub _ h);have more:∀b∈wr,b∈S::wr:=λb hb=>Li _ hb;intro k
 induction k with
 |zero=>
  intro i s l hk hi E L g X M;obtain rfl:i=n:=by lia
  refine OO PyProof.Rows.F.entry_set_update_loop ?_;rw[NX PyProof.Rows.F.plain_set_update_loop _];refine Lh (W.done s _ _ E λx m=>?_);exact Lm (M x l (m.mono more) (L.moved B (λp r=>by obtain⟨j,c,rfl⟩:=g.src p r;exact q j c) m) g)
 |succ k ih=>
  intro i s l hk hi E L g X M;have D:i<n:=by lia
  have H:∀p∈l,p.2 ∉ wr:=λp r=>by obtain⟨j,c,rfl⟩:=g.src p r;exact q j (by lia)
  refine OO PyProof.Rows.F.entry_set_update_loop ?_;rw[NX PyProof.Rows.F.plain_set_update_loop _];refine Lh (W.item i s _ _ D E λv f pv st1 m=>?_);obtain rfl:=Z i v pv;have y:=L.moved B H m;have u:∀j,j<n->TK prog w f.heap (d j).1 (d j).2:=λj c=>(X j c).moved (q j c) m;refine Lh (Na ?_);unfold setAdd;refine Na (Lh (wpAny_pyHash_tuple V (u i D) ?_));refine vG (s:={f with toks:=f.toks+((d i).1.length+1) }) V y (u i D) (by have:=g.len;lia) λb h' C J N a=>?_;obtain⟨⟨o,es,ep,t,ho,hex,hd,T⟩,hks,Y⟩:=y;have same:∀b o,b ∉ S::wr->f.heap.get? b=some o->h'.get? b=some o:=λb o hb e=>by rw[J.2 b (λz=>hb (by rw[z];exact Lo))];exact e
  refine Lm ⟨Pa PyProof.Rows.F.plain_set_update_loop _,ih (i+1) _ C (by lia) D (W.frame _ f _ _ st1 (by show f.toks<=f.toks+_;lia) λb hb o e=>?_) N ?_ (λj c=>(u j c).keep ho hd J) λs2 O m2 Q g2=>?_⟩
  .rw[J.2 b (λz=>U (by rw[<-z];exact hb))];exact e
  .by_cases K:(d i).1∈l.map (·.1)
   .rw[if_pos K]at a;subst a;refine⟨λp r=>?_,λj c=>?_,by have:=g.len;lia⟩
    .obtain⟨j,c,e⟩:=g.src p r;exact⟨j,by lia,e⟩
    .rcases LY (Mt c) with z |z
     .exact g.all j z
     .rw[z];exact K
   .rw[if_neg K]at a;refine⟨λp r=>?_,λj c=>?_,by rw[a.length_eq];have:=g.len;simp;lia⟩
    .rcases Mm.mp (a.mem_iff.mp r) with z |z
     .obtain⟨j,c,e⟩:=g.src p z;exact⟨j,by lia,e⟩
     .exact⟨i,Mz i,by rw[Lz.mp z]⟩
    .rw[(a.map (·.1)).mem_iff,Md];rcases LY (Mt c) with z |z
     .exact Ms _ (g.all j z)
     .rw[z];exact LR _ (by simp)
  .exact M s2 O (Moved.trans W.gtrans ((m.mono more).then_heap (by show f.toks<=f.toks+_;lia) same) m2) Q g2
end
section
variable {w:Mp}{A:ML}{s:LB}
abbrev cF(w:Mp):Obj:={cls:=.type "set",dict:=none,data:=.set #[] 0 (.fresh 0 0 (!w.params.followText "set-order")) }
theorem Do:TOk (.fresh 0 0 (!w.params.followText "set-order")) [] where
 R:=by intro i j x y _ h;simp[SetTable.fresh]at h
 d:=rfl
 k:=⟨3,by decide,rfl⟩
 n:=rfl
 f:=by show 0<=7;decide
 le:=by intro i x h;simp[SetTable.fresh]at h
 reach:=by intro i x h a;simp[SetTable.fresh]at a
theorem Df(e:h.get? S=some (cF w)):SP prog w h S []:=by
 refine⟨⟨_,_,_,_,e,⟨rfl,rfl,rfl⟩,rfl,rfl,Do,rfl,rfl,by simp[SetTable.tooFull,SetTable.fresh,SetTable.fill],by show 7<8;decide⟩,λp a=>by simp at a,by simp⟩
theorem Eu(a)(h:Q (.ref s.heap.objs.size) {s with heap:=s.heap.push (cF w) }):
  RE (L6 prog w) A (.call (.builtin "set.__new__") ⟨[.type "set",a],[]⟩) (wants Q E) s:=by
 refine Wm ?_;refine Lh (Wn (PySem.F.newCall_set_1 a) (Lm ⟨Pa Ue _,OO PySem.F.entry_set_new ?_⟩));rw[NX Ue _];unfold Builtin.«set.__new__» Builtin.Frozenset.newClass;have b:=sub_set_self
 wp_walk
 refine QE (Lm ?_);simp only[newObj];exact Lh (wpAny_alloc (Lm (Lm h)))
set_option maxRecDepth 100000 in
theorem call_set_pts(x:Nat->List Int×LX)(hh:A.handled=none)(hu:A.in1.in1.in1.units<P6)(hl:s.heap.IsList l items)
  (YW:∀i (v:Lw),items[i]?=some v->v=.ref (x i).2) (ZP:∀i,i<items.size->TK prog w s.heap (x i).1 (x i).2) (hn:items.size<=1000)
  (h:∀c K d,SP prog w c s.heap.objs.size d->Got x items.size d->(∀b o,s.heap.get? b=some o->c.get? b=some o)->Q (.ref s.heap.objs.size) {s with heap:=c,toks:=K }):
  Me (L6 prog w) A (call (.type "set") [.ref l]) Q E s:=by
 obtain⟨cc,tl,X⟩:=NU.mro;have L:=NU.made;have W:=NU.sub;refine WW (Wm ?_);refine Lm ⟨Code.quiet_builtin _ (by decide+kernel),OO PySem.F.entry_type_call ?_⟩;rw[Around.under_plain (weight_type_call_type "set" [.ref l] []) rfl];have g1:=NU.notType;have g2:=NU.canCreate;have g3:=PySem.F.typeCall_set_1 (.ref l)
 repeat (any_goals (first |assumption |wp_step))
 refine QL (Eu (w:=w) (.ref l) (E:=E) (Q:=λD X2=>D=.ref s.heap.objs.size/\X2={s with heap:=s.heap.push (cF w) }) ⟨rfl,rfl⟩) λr X2 S=>?_;cases r with
 |error e=>exact S
 |ok fl=>
  cases fl with
  |ret D=>
   obtain⟨rfl,rfl⟩:=S;have Y:(s.heap.push (cF w)).get? s.heap.objs.size=some (cF w):=LC _ rfl;have hT:Shared.TypeIs {s with heap:=s.heap.push (cF w) } (.ref s.heap.objs.size) "set":=⟨_,Y,rfl⟩
   have hli:=NU.init.lookup;have hbi:=NU.init.bind (.ref s.heap.objs.size)
   repeat (any_goals (first |assumption |wp_step))
   refine QL (codeAny_call_builtin (R:=wants (λr YN=>r=.none/\∃c K d,YN={s with heap:=c,toks:=K }/\
     SP prog w c s.heap.objs.size d/\Got x items.size d/\(∀b o,s.heap.get? b=some o->c.get? b=some o)) E) NU.init.plain PySem.F.entry_set_init (check_set_init_1 hT ?_)) λH YN a=>?_
   .obtain⟨ol,y,J,nl,I⟩:=hl;obtain⟨ocls,t,P,n⟩:=ol;simp only at J I;subst J;subst I;have B:(s.heap.push (cF w)).get? l=some {cls:=.type "list",dict:=t,data:=.seq items nl,slots:=n }:=Lj _ y;have k1:=PySem.F.sub_list_set;have k2:=PySem.F.sub_list_frozenset;have k3:(OC "list"==OC "dict")=false:=by decide
    have V:(s.heap.push (cF w)).IsList l items:=⟨_,B,rfl,nl,rfl⟩;unfold Builtin.«set.__init__» noKeywords Builtin.Frozenset.updateFrom;generalize hPI:Wc=PI
    wp_walk
    subst hPI;refine N5 V (Lh (wpAny_runValue ?_));have C:l<s.heap.objs.size:=Lx y;have h3:A.in1.in1.in1.handled=none:=by simp[hh]
    have f:(s.heap.push (cF w)).objs.size=s.heap.objs.size+1:=NS ..;have G:l≠(s.heap.push (cF w)).objs.size:=by rw[f];exact L3 (OD C)
    have Z9:s.heap.objs.size ∉ [(s.heap.push (cF w)).objs.size,l]:=by
     rw[f];intro z;rcases Ll.mp z with z |z
     .exact absurd z (L3 (Mz _))
     .exact absurd (Lz.mp z) (PR C)
    refine Bb ((Walks.list h3 _ l G items).toS) hu Z9 x YW (λi hi=>?_) hn (items.size-0) 0 _ [] (by lia) (Mu _)
     ⟨⟨_,LC _ rfl,rfl,rfl⟩,(V.push _)⟩ ?_ ⟨λp hp=>by simp at hp,λj Z=>by lia,by simp⟩ (λj Z=>?_) λs' d m u g=>?_
    .intro z;have N:=Lz.mp z;obtain⟨o,_,_,M,_⟩:=ZP i hi;have:=Lx M;rw[N,f]at this;exact Mh _ (MP (Mz _) this)
    .exact Df (Lj _ Y)
    .obtain⟨o,its,k,M,r⟩:=ZP j Z;exact⟨o,its,k,Lj _ (Lj _ M),r⟩
    .obtain⟨c,g',d',U,O⟩:=s';obtain rfl:g'=s.gens:=m.gens;obtain rfl:d'=s.drawn:=m.drawn;obtain rfl:O=s.os:=m.os;refine Lm ?_;show Me _ _ (ret Q6) _ _ _;refine Lm ⟨rfl,c,U,d,rfl,u,g,λb o e=>?_⟩;have hb:=Lx e;refine m.heap b o (λz=>?_) (Lj _ (Lj _ e));rcases Ll.mp z with z |z
     .exact absurd z (L3 hb)
     .have N:=Lz.mp z;rw[N,f]at hb;exact Mh _ (MP (Mz _) hb)
   .cases H with
    |error e=>exact a
    |ok q=>
     cases q with
     |ret r=>
      obtain⟨rfl,c,K,d,rfl,u,g,T⟩:=a
      repeat (any_goals (first |assumption |wp_step))
      exact h _ _ d u g T
     |_=>exact a.elim
  |_=>exact S.elim
end
theorem eN:Slot "set_iterator" "__next__" "set_iterator.__next__":=
 .of (owner:="set_iterator") (n:="__next__") (by rw[Qh,Oh];kernel_rfl) (by decide+kernel) (by decide+kernel) (by decide+kernel) (by first |exact .inl (by decide+kernel) |exact .inr (by decide+kernel)) (by rw[Rm];kernel_rfl)
theorem m9:entryFor table "set_iterator.__next__"=some Builtin.«set_iterator.__next__»:=entryFor_of_tree (by kernel_rfl)
theorem pS(a):argsOk "set_iterator.__next__" ⟨[a],[]⟩:=by unfold argsOk;kernel_rfl
theorem wT:entryFor table "set.__iter__"=some Builtin.«frozenset.__iter__»:=WH (id':="frozenset.__iter__") (by kernel_rfl) rfl (by decide+kernel) (by kernel_rfl)
theorem xk{α:Type}{l:List α}(h:i<l.length):(l[i]::l.eraseIdx i).Perm l:=by
 rw[List.eraseIdx_eq_take_drop_succ];refine VY.symm.trans ?_;rw[<-L8 h,Mb]
theorem F7{α:Type}(next):∀b k a (out:Array α),a.length=b->(pickOrder.go next b k a out).toList.Perm (out.toList++a):=by
 intro d
 induction d with
 |zero=>
  intro k a out h;obtain rfl:a=[]:=Np.mp h;rw[pickOrder.go,Ny]
 |succ b e=>
  intro k a out h;have c:next k%a.length<a.length:=M5 _ (by lia)
  rw[pickOrder.go,Ld c];refine (e (k+1) _ _ (by rw[List.length_eraseIdx_of_lt c];lia)).trans ?_;rw[OE,LH];refine Pb _ ?_;rw[List.singleton_append];exact xk c
theorem CQ{α:Type}(next)(xs:Array α):(Vg next xs).toList.Perm xs.toList:=by
 unfold Vg;have:=F7 next xs.size 0 xs.toList #[] (by simp)
 simpa using this
section
variable {w:Mp}{A:ML}{s:LB}
def c7(w:Mp)(S:LX)(a:Array (Int×Lw))(b:Nat):List Lw:=(if w.params.followText "set-order"=true then Vg (w.params.setOrder S b) a else a).toList.map (·.2)
theorem fT(w)(S)(es)(ep):(c7 w S es ep).Perm (es.toList.map (·.2)):=by
 refine List.Perm.map _ ?_;split
 .exact CQ _ es
 .exact UK _
def h_(t:SetTable):Nat->Nat
 |0=>0
 |j+1=>t.place.getD j 0+1
def a_(w:Mp)(t:SetTable)(i:Nat):Nat:=if w.params.followText "set-order"=true then 0 else h_ t i
def wV(w:Mp)(h:OG)(a S:LX)(t:SetTable)(i n b:Nat):Prop:=∃o,h.get? a=some o∧o.cls=.type "set_iterator"∧o.data=.fields #[Tg (a_ w t i),Tg i,.ref S,Tg n,Tg b]
theorem wV.ty(x:wV w s.heap it S t i n ep):s.TypeIs (.ref it) "set_iterator":=let ⟨o,ho,hc,_⟩:=x;⟨o,ho,hc⟩
structure SO(prog:LJ)(w:Mp)(o:Obj)(es:Array (Int×Lw))(ep:Nat)(t:SetTable)(hs:List Int):Prop where
 ex:o.ExactSet
 d:o.data=.set es ep t
 T:TOk t hs
 n:hs.length=es.size
 led:t.led=(!w.params.followText "set-order")
 plain:t.plain=true
theorem Ce{es ep t hs}(O:SO prog w o es ep t hs)(a:s.heap.get? S=some o)(h:Q false s):Me (L6 prog w) A (setDrawn S) Q E s:=by
 refine Lh (N9 a O.d (O.T.fits O.n) (Lh (Lh (QE (Lm (Lm ?_))))));have q:Q (!w.params.followText "set-order" && (!t.plain && decide (es.size >1))) s:=by rw[O.plain];simpa using h
 exact q
theorem Ct{es ep t hs}(O:SO prog w o es ep t hs)(a:s.heap.get? S=some o)
  (hQ:Q (.ref s.heap.objs.size) {s with heap:=s.heap.push {cls:=.type "set_iterator",data:=.fields #[Tg 0,Tg 0,.ref S,Tg es.size,Tg ep] } }):Me (L6 prog w) A (Wc (.ref S)) Q E s:=by
 have b:s.TypeIs (.ref S) "set":=⟨o,a,O.ex.1⟩;refine Vv b Ug (Os Ug b wT ?_ (PySem.F.args_set_iter_1 _));show Me _ _ (Builtin.Frozenset.sizeOf S >>=_) _ _ s;refine Lh (Lh (R8 a O.d (O.T.fits O.n) (Lm ?_)));refine Lh (Ce O a ?_);simp only[LM,if_false];refine Lh (Lm ?_);refine Lh (wpAny_setEpoch_of a O.d (O.T.fits O.n) ?_);refine Lh (Pw (Lm ⟨_,rfl,"set_iterator",_,⟨_,LC _ rfl,rfl⟩,eN.lookup,?_⟩));exact hQ
theorem wE(T:TOk t hs)(g:i<=t.place.size):below t.place (h_ t i)=i:=by
 obtain⟨c,d,e⟩:=gi T.R (h_ t i);cases i with
 |zero=>
  dsimp only[h_]at *;rcases Pc (below t.place 0) with z |z
  .exact z
  .have:=c 0 _ z (fu (by lia));lia
 |succ j=>
  dsimp only[h_]at *;have a:j<t.place.size:=by lia
  have f:t.place.getD j 0=t.place[j]:=by simp[Qp,a]
  rw[f]at c d e |-;generalize hb:below t.place (t.place[j]+1)=b at *;rcases Pz b (j+1) with z |z |z
  .have:=d j t.place[j] (by lia) (fu a);lia
  .exact z
  .have q:=c (j+1) _ z (fu (by lia));have:=T.R j (j+1) _ _ (by lia) (fu a) (fu (show j+1<t.place.size by lia));lia
theorem o_{es ep t hs}(O:SO prog w o es ep t hs)(c:s.heap.get? S=some o)(u:i<=es.size)
  (h:Q (((c7 w S es ep)[i]?).map λv=>(v,a_ w t (i+1))) s):Me (L6 prog w) A (setNext S (a_ w t i) i ep) Q E s:=by
 have f:=O.T.fits O.n;have r:t.place.size=es.size:=by rw[O.T.n,O.n]
 refine Lh (N9 c O.d f (Lh (Lh (QE (Lm ?_)))));by_cases a:w.params.followText "set-order"=true
 .dsimp only;rw[show (L6 prog w).w.params.followText "set-order"=true from a,if_pos rfl,if_neg (by simp)];refine Lh (Lh (N9 c O.d f (Lh (Lh (QE (Lm ?_))))));rw[show (L6 prog w).w.params.followText "set-order"=true from a,if_pos rfl];refine Lh (QE (Lm (Lm ?_)))
  have e:XQ (λe=>(e.2,a_ w t i)) (Vg (w.params.setOrder S ep) es)[i]?=((c7 w S es ep)[i]?).map λv=>(v,a_ w t (i+1)):=by
   unfold c7 a_;rw[if_pos a,if_pos a,if_pos a,Lq,MN,Option.map_map];rfl
  have q:Q (XQ (λe=>(e.2,a_ w t i)) (Vg (w.params.setOrder S ep) es)[i]?) s:=by rw[e];exact h
  exact q
 .have g:w.params.followText "set-order"=false:=by simpa using a
  rw[show (L6 prog w).w.params.followText "set-order"=false from g,if_neg (by simp)];have l:a_ w t i=h_ t i:=by unfold a_;rw[if_neg a]
  have k:below t.place (a_ w t i)=i:=by rw[l];exact wE O.T (by lia)
  have p:(match es[below t.place (a_ w t i)]?,t.place[below t.place (a_ w t i)]? with
    |some (_,x),some j=>some (x,j+1)
    |_,_=>none)=((c7 w S es ep)[i]?).map λv=>(v,a_ w t (i+1)):=by
   rw[k];unfold c7 a_;rw[if_neg a,if_neg a,Lq,MN];rcases NN i es.size with z |z
   .have b:i<t.place.size:=by lia
    simp[z,b,Qp,h_]
   .have b:t.place.size<=i:=by lia
    simp[z,b]
  split
  .rename_i m
   exact absurd (show (!t.plain && decide (es.size >1))=true from m) (by rw[O.plain];simp)
  .refine Lh ?_;show Me _ _ (if (!t.led && !es.isEmpty)=true then unsupported "set:maker-not-led" else pure ()) _ _ _;rw[O.led,g,if_neg (by simp)];refine Lm (Lm ?_)
   have q:Q (match es[below t.place (a_ w t i)]?,t.place[below t.place (a_ w t i)]? with
    |some (_,x),some j=>some (x,j+1)
    |_,_=>none) s:=by rw[p];exact h
   exact q
theorem AD{es ep t hs}(O:SO prog w o es ep t hs)(h:s.heap.get? S=some o)(e:wV w s.heap it S t i es.size ep)(f:(c7 w S es ep)[i]?=some v)
  (hQ:∀c,wV w c it S t (i+1) es.size ep->O8 it s.heap c->Q (some v) {s with heap:=c }):Me (L6 prog w) A (Wa (.ref it)) Q E s:=by
 obtain⟨m,a,l,b⟩:=id e;have k:=O.T.fits O.n;refine Lh (S9 (QV e.ty eN (Os eN e.ty m9 ?_ (pS _))));refine Lh (Lm ?_);refine Lh (WI a b ?_);dsimp only[Tg];refine Lh (R8 h O.d k ?_);rw[if_neg (by simp)]
 have j:i<es.size:=by
  have q:=(Ls.mp f).1;rw[(fT w S es ep).length_eq,Lg,Ly]at q;exact q
 rw[show ((a_ w t i:Nat):Int).toNat=a_ w t i from NM _,show (i:Int).toNat=i from NM _,show (ep:Int).toNat=ep from NM _];refine Lh (o_ O h (Lu j) ?_);rw[f];refine Lh (UL a b (by simp) ?_);have g:=M_ (Obj.mapFields (·.setIfInBounds 0 (Rq ((a_ w t (i+1):Nat)) 0))) a (Uh (Pd b _));refine Lh (UL g (Pd b _) (by simp) ?_);refine Lm ⟨_,rfl,Lm (hQ _ ?_ ((PY ..).trans (PY ..)))⟩;refine⟨_,M_ _ g (Uh (Pd (Pd b _) _)),(Vw ..).trans ((Vw ..).trans l),?_⟩;rw[Pd (Pd b _)];simp[Tg]
theorem Cr{es ep t hs}(h:A.handled=none)(O:SO prog w o es ep t hs)(f:s.heap.get? S=some o)(b:wV w s.heap it S t es.size es.size ep)
  (hQ:∀c,Xu it s.heap c->Q none {s with heap:=c }):Me (L6 prog w) A (Wa (.ref it)) Q E s:=by
 obtain⟨i,a,j,e⟩:=id b;have g:=O.T.fits O.n;refine Lh (S9 (QV b.ty eN (Os eN b.ty m9 ?_ (pS _))));refine Lh (Lm ?_);refine Lh (WI a e ?_);dsimp only[Tg];refine Lh (R8 f O.d g ?_);rw[if_neg (by simp)];rw[show ((a_ w t es.size):Int).toNat=a_ w t es.size from NM _,show (es.size:Int).toNat=es.size from NM _,show (ep:Int).toNat=ep from NM _];refine Lh (o_ O f (Lk _) ?_);rw[show (c7 w S es ep)[es.size]?=none from MD (by rw[(fT w S es ep).length_eq,Lg,Ly];exact Lk _)];refine Lh (UL a e (by simp) ?_);refine Lh ?_;simp only[newExc,newTuple];refine Lh (Pw ?_ (by size_fits));refine Lh (Wn (by first |rfl | (simp only[firstArgMember];rfl)) ?_);refine Pw ?_ (by size_fits);simp only[raiseNew];refine Lh (wpAny_handled ?_);rw[show A.in1.handled=none from h];refine Lh (Lm (wpAny_throw ?_));refine Lh (O6 ⟨_,LC _ rfl,rfl⟩ UM ?_);exact Lm (hQ _ (((PY ..).extBut.push _).push _))
end
end ST
namespace ST
open PySem PySem.SetTable PySem.W
theorem qb:Slot "set_iterator" "__iter__" "set_iterator.__iter__":=
 .of (owner:="set_iterator") (n:="__iter__") (by rw[Qh,Oh];kernel_rfl) (by decide+kernel) (by decide+kernel) (by decide+kernel) (by first |exact .inl (by decide+kernel) |exact .inr (by decide+kernel)) (by rw[Rm];kernel_rfl)
theorem wK:entryFor table "set_iterator.__iter__"=some Builtin.«dict_keyiterator.__iter__»:=WH (id':="dict_keyiterator.__iter__") (by kernel_rfl) rfl (by decide+kernel) (by kernel_rfl)
theorem zS(a):argsOk "set_iterator.__iter__" ⟨[a],[]⟩:=by unfold argsOk;kernel_rfl
section
variable {prog:LJ}{w:Mp}{A:ML}{E:Lw→LB→Prop}{s:LB}
theorem Fw(a:wV w s.heap it S t i n ep)(h:Q (.ref it) s):Me (L6 prog w) A (Wc (.ref it)) Q E s:=by
 refine Vv a.ty qb (Os qb a.ty wK ?_ (zS _));exact Lm ⟨_,rfl,"set_iterator",_,a.ty,eN.lookup,h⟩
theorem Ag(m:A.handled=none){c S:LX}(p:S≠c){o:Obj}{es ep t hs}(O:SO prog w o es ep t hs):
  Walks prog w A c [c,S] [c] es.size (λi v=>(c7 w S es ep)[i]?=some v) (λi h=>wV w h c S t i es.size ep/\h.get? S=some o) where
 sub:=λb hb=>by simp at hb;simp[hb]
 frame:=λ_ _ _ a k=>⟨let ⟨x,hx,r⟩:=a.1;⟨x,k c (by simp) x hx,r⟩,k S (by simp) o a.2⟩
 item:=λi s Q E q a f=>by
  obtain⟨v,l⟩:∃v,(c7 w S es ep)[i]?=some v:=⟨_,Ld (by rw[(fT w S es ep).length_eq,Lg,Ly];exact q)⟩
  refine AD O a.2 a.1 l λg d j=>?_;exact f v g s.toks l ⟨d,(j.2 S p).trans a.2⟩ λb x hb e=>j.extBut b x (λz=>hb (by simp[z])) e
 done:=λs Q E a f=>Cr m O a.2 a.1 λg n=>f g s.toks λb x hb e=>n b x (λz=>hb (by simp[z])) e
 self:=λ_ _ _ _ a f=>Fw a.1 f
theorem DG(c:s.TypeIs (.ref r) "set")(h:Q false s):Me (L6 prog w) A (Builtin.List.listLengthHint (.ref r)) Q E s:=by
 unfold Builtin.List.listLengthHint;refine Lh (OM c PySem.F.slot_set_len.lookup ?_);generalize hid:("set.__len__":String)=a
 wp_delta
 rw[show splitId a=some ("set","__len__") from by subst hid;decide+kernel];subst hid;refine Lh (O6 (T:="set") (b:=true) c (by rw[Rm];kernel_rfl) ?_);refine Qi (λz=>absurd z (by decide)) (λ_=>?_);refine Qi (λ_=>?_) (λz=>absurd (by decide+kernel) z);exact Lh (VP c (Lm h))
theorem Fv{S:LX}{o:Obj}{es ep t hs}(O:SO prog w o es ep t hs):KdlSrc prog w "set" S S es.size (λi v=>(c7 w S es ep)[i]?=some v) (λh=>h.get? S=some o) where
 type:=λ_ a=>⟨o,a,O.ex.1⟩
 there:=λ_ a=>⟨Lx a,Lx a⟩
 keep:=λ_ _ a d=>d S (.inl rfl) o a
 notList:=by decide
 notTuple:=by decide
 hint:=λ_ _ _ _ a b=>DG ⟨o,a,O.ex.1⟩ b
 iter:=λ_ s c a=>⟨_,_,(λ_ _ b=>Ct O a b),Ag c (L3 (Lx a)) O,⟨⟨_,LC _ rfl,rfl,by simp[a_,h_]⟩,Lj _ a⟩⟩
end
end ST
namespace ST
open PySem PySem.W PyProof.Rows
variable {lt:Nat→Nat→Bool}{n:Nat}
abbrev g(p:Array Nat)(k:Nat):Nat:=p.getD k 0
def ltP(a b:Int×Int):Bool:=decide (a.1<b.1\/(a.1=b.1/\a.2<b.2))
theorem ltP_tr(e:ltP a b=true)(d:ltP b c=true):ltP a c=true:=by
 unfold ltP at *;simp at *;lia
theorem yM(c:ltP a b=true):ltP b a=false:=by
 unfold ltP at *;simp at *;lia
theorem ltP_tot(h:a≠b)(c:ltP a b=false):ltP b a=true:=by
 unfold ltP at *;have:¬ (a.1=b.1/\a.2=b.2):=λz=>h (MS z.1 z.2);simp at *;lia
section
variable {prog:LJ}{w:Mp}{A:ML}{E:Lw→LB→Prop}{s:LB}
theorem TK.two(k:TK prog w h [x,y] b):∃o its n t u,h.get? b=some o∧o.cls=.type "tuple"∧o.data=.seq its n∧its.toList=[.int x t,.int y u]:=by
 obtain⟨o,its,n,f,g,e,a⟩:=k;cases Yi:its.toList with
 |nil=>rw[Yi]at a;cases a
 |cons l r=>
  rw[Yi]at a;cases a with
  |cons d j=>
   cases j with
   |cons i c=>
    cases c;obtain⟨t,rfl⟩:=Q5 d;obtain⟨u,rfl⟩:=Q5 i;exact⟨o,its,n,t,u,f,g,e,Yi⟩
theorem GM(j:TK prog w s.heap [a.1,a.2] x)(q:TK prog w s.heap [b.1,b.2] y)(h:Q (ltP a b) s):Me (L6 prog w) A (keyLt' (Xy true) (.ref x) (.ref y)) Q E s:=by
 obtain⟨o,its,n,t,u,i,_,k,f⟩:=j.two;obtain⟨r,c,v,C,B,m,_,l,g⟩:=q.two;refine kat_lt i k m l ?_;rw[f,g];refine kat_cons ((SX prog w).eqBool (a:=a.1) (b:=b.1) (OF _ _ _ _) (OF _ _ _ _) ?_);by_cases d:a.1=b.1
 .rw[decide_eq_true d];refine kat_yes (kat_cons ((SX prog w).eqBool (a:=a.2) (b:=b.2) (OF _ _ _ _) (OF _ _ _ _) ?_));by_cases e:a.2=b.2
  .rw[decide_eq_true e];refine kat_yes (kat_nil ?_);have z:ltP a b=false:=by unfold ltP;simp;lia
   rw[z]at h
   have p:decide (its.size<c.size)=false:=by
    rw[<-Ly,<-Ly,f,g];simp
   rw[p];exact h
  .rw[decide_eq_false e];refine kat_no (kat_one _ _ (lt_int ?_));have z:ltP a b=decide (a.2<b.2):=by unfold ltP;rw[d];simp
   rw[z]at h;exact h
 .rw[decide_eq_false d];refine kat_no (oneLt_int ?_);have z:ltP a b=decide (a.1<b.1):=by unfold ltP;simp[d]
  rw[z]at h;exact h
abbrev PB:=List ((Int×Int)×LX)
abbrev refs(a:PB):List Lw:=a.map λp=>MM p.2
theorem AS(d:∀p∈pb,TK prog w s.heap [p.1.1,p.1.2] p.2)(j:0<pb.length)(h:Q (Xy true) s):Me (L6 prog w) A (keyKind' (refs pb).toArray) Q E s:=by
 obtain⟨fs,c,e,b⟩:∃fs,KatTups s.heap (refs pb) fs/\fs.length=pb.length/\∀v∈fs,∃n t,v=Rq n t:=by
  clear h j
  induction pb with
  |nil=>exact⟨[],.nil,rfl,λv a=>by simp at a⟩
  |cons p r g=>
   obtain⟨fs,c,e,b⟩:=g λq m=>d q (Li _ m);obtain⟨o,its,n,t,u,f,k,i,l⟩:=(d p Lo).two;refine⟨.int p.1.1 t::fs,.cons f k i (by rw[<-MN,l];rfl) c,by simp[e],λv a=>?_⟩;rcases Ll.mp a with z |z
   .exact⟨_,_,z⟩
   .exact b v z
 refine kat_kind (T:=.type "int") c (by lia) (λv a=>?_) (by decide) h;obtain⟨n,t,rfl⟩:=b v a;exact Looks.of_pure rfl
end
end ST
namespace ST
open PySem PySem.W PyProof.Rows PySem.Calls
theorem C7{α i:Type}(f:α->i){l m:List i}(h:l.Perm m):∀a,m=a.map f->∃b,XT b a/\l=List.map f b:=by
 induction h with
 |nil=>intro a e;exact⟨a,.refl _,e⟩
 | @cons x l m _ n=>
  intro a e
  match a,e with
  |[],e=>simp at e
  |k::a,e=>
   rw[LK,Wo]at e;obtain⟨b,p,t⟩:=n a e.2;exact⟨k::b,p.cons k,by rw[LK,<-t,e.1]⟩
 |swap x y l=>
  intro a e
  match a,e with
  |[],e=>simp at e
  |[_],e=>simp at e
  |k::k'::a,e=>
   simp only[LK,Wo]at e;exact⟨k'::k::a,.swap k k' a,by rw[LK,LK,<-e.2.2,e.1,e.2.1]⟩
 |trans _ _ g j=>
  intro a e;obtain⟨d,s,o⟩:=j a e;obtain⟨c,q,r⟩:=g d o;exact⟨c,q.trans s,r⟩
def ptsOf(a:List (List Int×LX)):PB:=a.map λp=>((p.1.getD 0 0,p.1.getD 1 0),p.2)
end ST
namespace ST
open PySem
def ins(x:Int×Int):List (Int×Int)->List (Int×Int)
 |[]=>[x]
 |y::r=>if x=y then y::r else if ltP x y=true then x::y::r else y::ins x r
def srt(pts:List (Int×Int)):List (Int×Int):=pts.foldr ins []
theorem rZ(x z):∀l,z∈ins x l↔z=x\/z∈l
 |[]=>by simp[ins]
 |y::r=>by
  unfold ins;split
  .rename_i h;subst h;simp
  .split
   .simp
   .rw[Ll,rZ x z r,Ll];constructor
    .rintro (h |h |h)
     .exact .inr (.inl h)
     .exact .inl h
     .exact .inr (.inr h)
    .rintro (h |h |h)
     .exact .inr (.inl h)
     .exact .inl h
     .exact .inr (.inr h)
abbrev Asc(l:List (Int×Int)):Prop:=l.Pairwise (λx y=>ltP x y=true)
theorem yj(x):∀l,Asc l->Asc (ins x l)
 |[],_=>by simp[ins]
 |y::r,h=>by
  unfold ins;split
  .exact h
  .rename_i d
   obtain⟨c,f⟩:=MG.mp h;split
   .rename_i a
    refine MG.mpr ⟨λz b=>?_,h⟩;rcases Ll.mp b with e |e
    .rw[e];exact a
    .exact ltP_tr a (c z e)
   .rename_i a
    refine MG.mpr ⟨λz b=>?_,yj x r f⟩;rcases (rZ x z r).mp b with e |e
    .rw[e];exact ltP_tot d (by simpa using a)
    .exact c z e
theorem srt_mem(z):∀l,z∈srt l↔z∈l
 |[]=>by simp[srt]
 |y::r=>by
  show z∈ins y (srt r)↔_;rw[rZ,srt_mem z r,Ll]
theorem srt_asc:∀l,Asc (srt l)
 |[]=>Ra
 |y::r=>yj y (srt r) (srt_asc r)
theorem asc_irr:ltP x x=false:=by unfold ltP;simp
theorem asc_one:∀{l m},Asc l->Asc m->(∀z,z∈l↔z∈m)->l=m
 |[],[],_,_,_=>rfl
 |[],y::r,_,_,h=>by have:=(h y).mpr Lo;simp at this
 |x::l,[],_,_,h=>by have:=(h x).mp Lo;simp at this
 |x::l,y::m,hl,hm,h=>by
  obtain⟨c,f⟩:=MG.mp hl;obtain⟨d,g⟩:=MG.mp hm
  have e:x=y:=by
   rcases Ll.mp ((h x).mp Lo) with z |z
   .exact z
   .rcases Ll.mp ((h y).mpr Lo) with b |b
    .exact b.symm
    .have:=yM (d x z);rw[c y b]at this;cases this
  subst e;congr 1;refine asc_one f g λz=>⟨λa=>?_,λa=>?_⟩
  .rcases Ll.mp ((h z).mp (Li _ a)) with e |e
   .have:=c z a;rw[e,asc_irr]at this;cases this
   .exact e
  .rcases Ll.mp ((h z).mpr (Li _ a)) with e |e
   .have:=d z a;rw[e,asc_irr]at this;cases this
   .exact e
theorem asc_srt(h:Asc l):srt l=l:=asc_one (srt_asc l) h λz=>srt_mem z l
theorem yU(x):∀l,(ins x l).length<=l.length+1
 |[]=>by simp[ins]
 |y::r=>by
  have:=yU x r;unfold ins;split
  .simp
  .split
   .simp
   .simp only[LF];lia
theorem srt_len:∀l,(srt l).length<=l.length
 |[]=>Lk _
 |y::r=>by
  have h1:=yU y (srt r);have a:=srt_len r;show (ins y (srt r)).length<=_;simp only[LF];lia
end ST
namespace L2
open PySem PySem.Spec PyProof.Rows
theorem Lc{p:Nat->LX->Prop}(h:∀i,i<n->∃b,p i b):∃f:Nat->LX,∀i,i<n->p i (f i):=by
 refine⟨λi=>if k:i<n then VZ (h i k) else 0,λi a=>?_⟩;dsimp only;rw[dif_pos a];exact Ui (h i a)
theorem Cc:NY "set"=some (.type "set"):=by decide+kernel
end L2
namespace ST
open PySem
variable {G:Array Sj→Array Sj→Prop}{P:Nat→Lw→Prop}{T:String}
section
variable {prog:LJ}{w:Mp}{A:ML}{s:LB}{R:Xh→LB→Prop}{I:LX}{fp wr:List LX}{n:Nat}{St:Nat→LB→Prop}
def Eo(prog:LJ)(w:Mp)(T:String):Prop:=∀(A:ML) (E:Lw->LB->Prop) (s:LB) (r:LX) (Q:Bool->LB->Prop),s.TypeIs (.ref r) T->(∀b,Q b s)->Me (L6 prog w) A (Builtin.List.listLengthHint (.ref r)) Q E s
end
section
variable {prog:LJ}{w:Mp}{A:ML}{E:Lw→LB→Prop}{s:LB}{I:LX}{Fi:LB→Prop}
theorem call_list_any(u:s.TypeIs (.ref I) T)(y:(OC T==OC "list")=false)(B:(OC T==OC "tuple")=false)(i:Eo prog w T)
  (self:∀d Q E,(∀b o,s.heap.get? b=some o->d.get? b=some o)->Q (.ref I) {s with heap:=d }->Me (L6 prog w) A.in1.in1 (Wc (.ref I)) Q E {s with heap:=d })
  (loop:∀R d c,(∀b o,s.heap.get? b=some o→d.get? b=some o)→d.get? s.heap.objs.size=some {cls:=.type "list",dict:=none,data:=.seq #[] c,slots:=#[] }→(∀a,Fi a→R (.ok (.ret .none)) a)→RE (L6 prog w) A.in1 (.builtin "list.extend.loop" ⟨[.ref s.heap.objs.size,.ref I,.none],[]⟩) R {s with heap:=d })
  (hQ:∀a,Fi a→Q (.ref s.heap.objs.size) a):Me (L6 prog w) A (call (.type "list") [.ref I]) Q E s:=by
 refine callType_codes (Q₁:=λh q=>h=.ref s.heap.objs.size∧q={s with heap:=s.heap.push {cls:=.type "list",data:=.seq #[] } }) PySem.F.called_list (PySem.F.typeCall_list_1 _) PySem.F.entry_list_init (code_list_new _ ⟨rfl,rfl⟩) λh q g=>?_;obtain⟨rfl,rfl⟩:=g;have l:(s.heap.push {cls:=.type "list",data:=.seq #[] }).get? s.heap.objs.size=some {cls:=.type "list",data:=.seq #[] }:=LC _ rfl;have z:∀b o,s.heap.get? b=some o→(s.heap.push {cls:=.type "list",data:=.seq #[] }).get? b=some o:=λb o e=>Lj _ e;have lt:∀b o,s.heap.get? b=some o->s.heap.objs.size≠b:=λb o e=>PR (Lx e);generalize s.heap.objs.size=S at *;refine⟨⟨_,l,rfl⟩,PySem.F.args_list_init_2 _ _,?_⟩;refine Lh ?_;refine Lh (P_ l rfl (Lm ?_));refine Lh (PF l rfl ?_);have m:=M_ (O4 (λ_=>#[])) l rfl;have k:∀b o,s.heap.get? b=some o→((s.heap.push {cls:=.type "list",data:=.seq #[] }).update S (O4 (λ_=>#[]))).get? b=some o:=λb o e=>(M0 _ _ (lt b o e)).trans (z b o e);refine Lh (S_ ?_);generalize (s.heap.push {cls:=.type "list",data:=.seq #[] }).update S (O4 (λ_=>#[]))=t at *
 obtain⟨x,p,v⟩:=u;have j:({s with heap:=t }:LB).TypeIs (.ref I) T:=⟨x,k _ _ p,v⟩
 refine Lh (VP j ?_);have r:Builtin.List.listSameRef (.ref S) (.ref I)=false:=by simp[Builtin.List.listSameRef,lt _ _ p]
 simp only[r,y,B,W6,LM,if_false];refine Lh (self _ _ _ k (Lh (Na (i _ _ _ _ _ j λb=>?_))));refine Qi (λ_=>?_) (λ_=>Lm ⟨Pa Pn _,loop _ _ _ k m λa f=>⟨rfl,hQ a f⟩⟩);refine Lh (RY (Lh ?_));refine Lh (PF m rfl ?_);have n:=M_ (O4 (·.push Q6)) m rfl;refine PF n rfl (Lm ⟨Pa Pn _,loop _ _ _ (λb o e=>?_) (M_ (O4 (·.pop)) n rfl) λa f=>⟨rfl,hQ a f⟩⟩);exact (M0 _ _ (lt b o e)).trans ((M0 _ _ (lt b o e)).trans (k b o e))
end
section
variable {prog:LJ}{w:Mp}{A:ML}{E:Lw→LB→Prop}{s:LB}{I:LX}{fp wr:List LX}{n:Nat}{St:Nat→LB→Prop}
theorem call_list_it(W:WalksS prog w A.in1.in1 I fp wr G n P St)(t:∀i s,St i s→s.TypeIs (.ref I) T)(x:(OC T==OC "list")=false)(z:(OC T==OC "tuple")=false)(h:Eo prog w T)(l:St 0 s)(r:∀b∈fp,b<s.heap.objs.size) 
  (hQ:∀a d f,Moved (s.heap.objs.size::wr) G s a->
   a.heap.get? s.heap.objs.size=some {cls:=.type "list",dict:=none,data:=.seq d f,slots:=#[] }→ItemsOf P d n→Q (.ref s.heap.objs.size) a) (hn:n≤sizeLine):
  Me (L6 prog w) A (call (.type "list") [.ref I]) Q E s:=
 call_list_any (Fi:=λa=>∃d f,Moved (s.heap.objs.size::wr) G s a∧a.heap.get? s.heap.objs.size=some {cls:=.type "list",dict:=none,data:=.seq d f,slots:=#[] }∧ItemsOf P d n) (t 0 s l) x z h (λp Q E k q=>W.self 0 _ _ _ (W.frame 0 s p s.toks l (Lk _) λb _ o e=>k b o e) q)
  (λR p c k g v=>codeAny_extend_loopS W hn _ (λy=>Mh _ (r _ y)) _ n 0 _ _ _ rfl (Mu _) (W.frame 0 s p s.toks l (Lk _) λb _ o e=>k b o e) g (ItemsOf.nil P) λa d f m u j=>v a ⟨d,f,Moved.trans W.gtrans ((Moved.refl W.grefl).then_heap (Lk _) λb o _ e=>k b o e) m,u,j⟩) λa ⟨d,f,m,g,j⟩=>hQ a d f m g j
end
theorem D9:UC (.type "list_reverseiterator") "__len__"=pure none:=by rw[Qh,Oh];kernel_rfl
theorem pH:Slot "list_reverseiterator" "__length_hint__" "list_reverseiterator.__length_hint__":=
 .of (owner:="list_reverseiterator") (n:="__length_hint__") (by rw[Qh,Oh];kernel_rfl) (by decide+kernel) (by decide+kernel) (by decide+kernel) (by first |exact .inl (by decide+kernel) |exact .inr (by decide+kernel)) (by rw[Rm];kernel_rfl)
theorem hint_rev(prog)(w):Eo prog w "list_reverseiterator":=λA E s r Q a h=>by
 refine Lh (OM a D9 ?_);refine Lh (OM a pH.lookup ?_);generalize hid:"list_reverseiterator.__length_hint__"=c
 wp_delta
 rw[show splitId c=some ("list_reverseiterator","__length_hint__") from by subst hid;decide+kernel];subst hid;refine Lh (O6 (b:=true) a (by rw[Rm];kernel_rfl) ?_);refine Qi (λz=>absurd z (by decide)) (λ_=>?_);refine Qi (λ_=>?_) (λz=>absurd (by decide+kernel) z);refine Qi (λz=>absurd z (by decide+kernel)) (λ_=>Lm (h _))
end ST
namespace L2
open PySem PySem.Spec PyProof.Rows
theorem pJ:NY "reversed"=some (.type "reversed"):=by decide+kernel
theorem aW.rev:∀{d}{c},aW d c->aW d.reverse c.reverse:=λ{d c} r=>by
 induction r with
 |nil=>exact .nil
 | @cons x u d c g i f=>
  rw[Vx,Vx]
  have app:∀{a}{b},aW a b->aW (a++[x]) (b++[u]):=λ{a b} q=>by
   induction q with
   |nil=>exact .cons g .nil
   |cons h _ e=>exact .cons h e
  exact app f
theorem Rps.rev{K:Le}(r:Rps K H vs xs):Rps K H vs.reverse xs.reverse:=⟨by simp[r.len],λi v x a b=>by
 have c:i<vs.length:=by have:=aL a;simpa using this
 have d:i<xs.length:=by rw[<-r.len];exact c
 rw[Nj c]at a;rw[Nj d,<-r.len]at b;exact r.at_ _ v x a b⟩
section
variable {X:Cx}{H0:Hp}{O0:List LX}{ps:PSt}{e k:Expr}{x:U}{xs:List U}{XY Yd p p' p2:Pos}
theorem zP{K:Le}(e:Rp K H v x)(g:x=.lst xs\/x=.scr xs):∃a f,v=.ref a/\SqL K H a f/\Rps K H f xs:=by
 rcases g with rfl |rfl
 .cases e with
  |lst b c d=>exact⟨_,_,rfl,SqL.of b,c,d⟩
 .cases e with
  |scr b c d=>exact⟨_,_,rfl,b,c,d⟩
theorem JH(F:Ev X H0 O0 ps e x)(L:Ev X H0 O0 ps k (.int (-1)))(C:x=.lst xs\/x=.scr xs):EvN X H0 O0 ps (.Subscript e (.Slice none none (some k) p2) XY) xs.reverse:=by
 rintro o s j H Q I ⟨O,R,q⟩;refine Vs (thn (F o s j H (λv f=>aU H f/\Rp X.K (hid f O) v x) I ⟨O,R,λv f m i=>⟨m,i⟩⟩) λu m G=>?_);obtain⟨v,f,A,i,l,M⟩:=G;obtain⟨a,P,rfl,N,y⟩:=zP M C;cases i;refine wpAny_Slice ?_;rw[U9];refine Lm (Lm ?_);rw[evalPart_some];refine thn (L o m j f (λv d=>aU f d/\v=.int (-1)) A ⟨O,R.go l,λv d g B=>⟨g,by cases B;rfl⟩⟩) λU g hy=>?_;obtain⟨V,d,w,E,c,rfl⟩:=hy;obtain⟨t,rfl⟩:=E;have n:Inv X o j d {g with heap:=g.heap.push {cls:=.type "slice",data:=.fields #[.none,.none,.int (-1) t] } }:=w.kept λb J z=>Lj _ z;obtain⟨its,r,p,S⟩:=n.list (c.seq (aH.seq N));have T:=r.length;refine tail_any p.isList.typeIs slot_list_getitem.lookup ?_ (by with_unfolding_all rfl);refine SI p.isList (U_ ..) .none .none (IsPart.int _ _) (by simp) ?_ (by rw[LV];lia);rw[PySem.W.krv_pick];generalize hn:(g.heap.push {cls:=.type "slice",data:=.fields #[.none,.none,.int (-1) t] }).objs.size=D;have h:d D=none:=n.hok.fresh (by rw[<-hn];exact Lk _);refine⟨.ref D,upd d D (.lst P.reverse),n.laid (λb J z=>Lj _ z) (by rw[<-hn];exact Lk _) ⟨by rw[Mw];exact S,its.reverse,0,r.rev,?_⟩,rfl,?_⟩
 .rw[<-hn];exact LC _ rfl
 .refine q D _ _ ((l.trans c).trans (bj h _)) ((l.trans c).free h) aK ?_;exact (y.rev.same (aP c)).same (bH (bj h _) h)
theorem AI(hc:X.calm=true)(hg:Gl X "list")(hm:X.mg "list"=none)(E:Gl X "reversed")(G:X.mg "reversed"=none)(ha:Ev X H0 O0 ps e (.lst xs))
  (he:autoParam (Lr [e] X.env=(false,N4 e X.env)::Lr [] X.env) zM):EvN X H0 O0 ps (.Call (.Name "list" p) [.Call (.Name "reversed" p') [e] [] Yd] [] XY) xs.reverse:=by
 rintro B s t H Q I ⟨O,R,q⟩;have hh:=I.ok.hd hc;refine M8 (dD I hg hm boot_list ?_);refine callWith_type1 (e:=.Call (.Name "reversed" p') [e] [] Yd) (rest:=[]) ?_ be rfl;rw[be];refine QS ?_;refine M8 (dD I E G pJ ?_);refine callWith_type1 (thn (ci ha fi he Yd B s t H (λU f=>∃v,U=[v]/\aU H f/\Rp X.K (hid f O) v (.lst xs)) I ⟨O,R,λv f d r1=>⟨v,rfl,d,r1⟩⟩) λus d hx=>?_) he rfl;obtain⟨U,f,r,rv,v,rfl,N,rp⟩:=hx;obtain⟨u,rfl,ru⟩:=dW rv;obtain⟨a,S,rfl,hq,rs⟩:=zP rp (.inl rfl);cases ru;obtain⟨its,L,x,hz⟩:=r.list (aH.seq hq);have X6:=L.length;have l:its.toArray.size=its.length:=by simp
 refine call_reversed_list x.isList ?_;have Y:Inv X B t f {d with heap:=d.heap.push (XI a ((its.toArray.size:Int)-1)) }:=r.kept (t':=d.toks) λb k z=>Lj _ z;refine Q7 ?_;have M:a<d.heap.objs.size:=by obtain⟨o,ho,_⟩:=x.isList;exact Lx ho
 have W:=(Walks.listRev (prog:=X.prog) (w:=X.w) (A:=X.A.in1.in1) hh d.heap.objs.size a (L3 M) its.toArray).toS;refine ST.call_list_it (T:="list_reverseiterator") (s:={d with heap:=d.heap.push (XI a ((its.toArray.size:Int)-1)) }) W (λi s' st=>st.2.1.typeIs) (by decide) (by decide) (ST.hint_rev _ _) ⟨Mu _,⟨_,LC _ rfl,rfl,by simp[XI]⟩,x.isList.push _⟩ (λb hb=>?_) (λs3 P c m Z F=>?_) (by rw[l];lia)
 .show b<(d.heap.push _).objs.size;rw[NS];simp at hb;rcases hb with z |z
  .rw[z];exact Mz _
  .rw[z];exact OD M
 .obtain⟨V,g3,d3,h,J⟩:=s3;obtain rfl:g3=d.gens:=m.gens;obtain rfl:d3=d.drawn:=m.drawn;obtain rfl:J=d.os:=m.os;have j:(d.heap.push (XI a ((its.toArray.size:Int)-1))).objs.size=d.heap.objs.size+1:=NS ..
  have keep:∀b k,d.heap.get? b=some k->V.get? b=some k:=λb k z=>by
   have hb:=Lx z;refine m.heap b k (λy=>?_) (Lj _ z);rcases Ll.mp y with y |y
   .rw[y]at hb;have YV:d.heap.objs.size+1<d.heap.objs.size:=by rw[<-j];exact hb
    exact absurd YV (by lia)
   .rw[Lz.mp y]at hb;exact Mh _ hb
  have g:P.toList=its.reverse:=by
   apply Qr;intro i;rcases NN i P.size with z |z
   .have y:=F.2 i _ (MQ z);have C:i<its.length:=by rw[F.1,l]at z;exact z
    rw[MN,MQ z,Nj C,<-y,l];simp
   .have C:its.length<=i:=by rw[F.1,l]at z;exact z
    rw[MD (by simpa using z),MD (by simpa using C)]
  generalize hn:(d.heap.push (XI a ((its.toArray.size:Int)-1))).objs.size=D at *;have n:f D=none:=Y.hok.fresh (by rw[<-hn];exact Lk _);have I3:Inv X B t (upd f D (.lst S.reverse)) {d with heap:=V,toks:=h }:=r.laid (t':=h) (o:=.lst S.reverse) keep (by rw[j];exact Xr _) ⟨by rw[Mw];exact hz,its.reverse,c,L.rev,by rw[<-g,Array.toArray_toList];exact Z⟩;refine⟨.ref D,_,I3,rfl,q D _ _ (N.trans (bj n _)) (N.free n) aK ?_⟩;exact rs.rev.same (bH (bj n _) n)
end
section
variable {X:Cx}{H0:Hp}{O0:List LX}{ps:PSt}{xs:List U}{us:List U}{es:List Expr}{x:Str}{pc p' XY:Pos}
theorem iA(n:Nat)(h:ps[n]?=some (some (.own xs)))(a:Gl X "len")(c:X.mg "len"=none)(d:autoParam (X.N[n]?=some x) zM)(b:autoParam (Vis X.env.scope x) vN)(e:autoParam ((x==("__debug__":Str))=false) zR)
  (YB:autoParam ((x==("__classdict__":Str))=false) zR) (Yq:autoParam ((NT XY (Lr [] X.env)).any (·.1)=false) zM):Ev X H0 O0 ps (.Call (.Name "len" pc) [.Name x p'] [] XY) (.int xs.length):=HN n h a c d b e YB ah Yq
theorem Rps.pts{K:Le}(k:∀c∈O',c∈O\/c=a)(m:H a=some (.lst ws)):∀{l:List P2},Rps K (hid H O) vs (l.map pu)->Rps K (hid H O') vs (l.map pu):=λ{l} r=>⟨r.len,λi v x u d=>by
 have q:=r.at_ i v x u d;rw[Lq]at d;cases hp:l[i]? with
 |none=>rw[hp]at d;cases d
 |some p=>
  rw[hp]at d;cases d;cases q with
  | @tup b B _ h s w=>
   refine .tup ?_ s λj z y t f2=>?_
   .have e:∀{o:HO},(∀us,o≠.lst us)->hid H O b=some o->hid H O' b=some o:=λ{o} A h=>by
     obtain⟨g,n⟩:=gU h;refine cW g λz=>?_;rcases k b z with z |z
     .exact n z
     .rw[z,m]at g;cases g;exact A _ rfl
    rcases h with (h |⟨o,h⟩) |h
    .exact .inl (.inl (e (λ_ z=>(nomatch z)) h))
    .exact .inl (.inr ⟨o,e (λ_ z=>(nomatch z)) h⟩)
    .exact .inr h
   .have f:=w j z y t f2
    match j,f2 with
    |0,f2=>cases f2;cases f;exact .int _
    |1,f2=>cases f2;cases f;exact .int _
    |j+2,f2=>simp at f2⟩
theorem Fc{l:List P2}{CX}(n:Nat)(h:ps[n]?=some (some (.own xs)))(F:cj X.prog X.w X.K X.mg X.base CX k f fd pn (spU X.K X5))(E:cq k X.A)(D:Gl X nm)(L:X.mg nm=some (.ref f))(P:Nx X.K (.ref f)=true)(r:cm X.K fd pn [])(U:di CX X E0)
  (ha:EvA X H0 O0 ps es us) (hs:X5 (.lst xs::us) (.new (l.map pu))) (hN:autoParam (X.N[n]?=some x) zM) (hv:autoParam (Vis X.env.scope x) vN) (hd:autoParam ((x==("__debug__":Str))=false) zR)
  (YB:autoParam ((x==("__classdict__":Str))=false) zR) (YC:autoParam ((nm==("__debug__":Str))=false) zR) (Yq:autoParam ((NT XY (Lr es X.env)).any (·.1)=false) zM):
  EvN X H0 O0 ps (.Call (.Name nm pc) (.Name x p'::es) [] XY) (l.map pu):=
 PE.mono (jV F E D L P r .nil U (ci (eE hN hv hd YB) ha ah) YC ah Yq) λY H Q G=>by
  obtain⟨O,R,q⟩:=G;obtain⟨v,C,a,Z,rfl,h3,W,p,j⟩:=R.at_ n _ h;refine⟨_,C,O,R,λJ S b t=>?_⟩;show spU X.K X5 (V.ref a::J++[]) S Q _;rw[Ny];have sub:∀c∈O.filter (·≠a),c∈O:=λc d=>(Mr.mp d).1;refine⟨.lst xs::us,O.filter (·≠a),.new (l.map pu),λc d=>(R.go b).dom c (sub c d),?_,hs,λm g s o T u B=>?_⟩
  .refine Rps.cons (.lst (cW (b _ _ p) (by simp)) j.len λi z y M I=>?_) (t.same (a9 sub));exact ((j.at_ i z y M I).same (aP b)).same (a9 sub)
  .refine q m g s (b.trans o) (b.free T) u (Rps.pts (O:=m::O.filter (·≠a)) (a:=a) (λc d=>?_) (o _ _ (b _ _ p)) B);by_cases e:c=a
   .exact .inr e
   .rcases Ll.mp d with z |z
    .exact .inl (by rw[z];exact Lo)
    .exact .inl (Li _ (Mr.mpr ⟨z,by simpa using e⟩))
end
end L2
namespace ST
open PySem
abbrev IsZ2(h:OG)(z c a T:LX)(b:Bool):Prop:=h.get? z=some {cls:=.type "zip",dict:=none,data:=.fields #[Tg T,.bool b,.bool false,.ref c,.ref a],slots:=#[] }
section
variable {prog:LJ}{w:Mp}{A:ML}{E:Lw→LB→Prop}{s:LB}
theorem Jj(h:s.heap.get? T=some o)(q:Q (some o) s):Me (L6 prog w) A (loadIfAlive T) Q E s:=λb p a=>by
 unfold loadIfAlive;rw[Sem.wp_loadIfAlive,h];simpa using q
theorem sY(d:IsZ2 s.heap z TI TO T b)(g:s.heap.get? T=some oT)(h:∀e,IsZ2 e z TI TO T true->O8 z s.heap e->Q false {s with heap:=e }):
  Me (L6 prog w) A (Builtin.SmallTypes.ownedTupleIsFree (.ref z)) Q E s:=by
 refine Lh (UU d rfl rfl ?_);refine Lh (Jj (by rw[NM];exact g) ?_);rw[if_neg (by simp)];refine Lh (UU d rfl (x:=.bool b) rfl ?_);cases b with
 |true=>
  rw[if_neg (by decide)];exact Lm (h s.heap d (SK _ _))
 |false=>
  rw[if_pos (by decide)];refine Lh (wpAny_setField_rec d (by simp) λc a f=>Lm (h c a f))
theorem next_zip{Pt:LX->Prop}(p:A.handled=none)(D:V7 z TI TO i1 i2 l1 l2)
  (zz:(IsZip s.heap z TI TO .none/\∃a b,W0 s.heap TO a b)\/∃b T,Pt T/\(∃o,s.heap.get? T=some o)/\IsZ2 s.heap z TI TO T b) (hTI:W0 s.heap TI (.ref i1) (.ref i2))
  (h1:s.heap.IsListIter i1 l1 k) (h2:s.heap.IsListIter i2 l2 k) (ZR:s.heap.IsList l1 xs) (hl2:s.heap.IsList l2 ys)
  (hQ:∀x y h',xs[k]?=some x->ys[k]?=some y->(∃b T,(T=s.heap.objs.size\/Pt T)/\IsZ2 h' z TI TO T b)->h'.IsListIter i1 l1 (k+1)->h'.IsListIter i2 l2 (k+1)->W0 h' s.heap.objs.size x y->(∀c o,c≠z->c≠TO->c≠i1->c≠i2->s.heap.get? c=some o->h'.get? c=some o)->Q (some (.ref s.heap.objs.size)) {s with heap:=h' })
  (hE:xs[k]?=none\/ys[k]?=none->∀h',(∀c o,c≠z->c≠TO->c≠i1->c≠i2->s.heap.get? c=some o->h'.get? c=some o)->Q none {s with heap:=h' }):Me (L6 prog w) A (Wa (.ref z)) Q E s:=by
 rcases zz with ⟨g,a,b,h⟩ |⟨b,T,pt,⟨S,K⟩,g⟩
 .cases hx:xs[k]? with
  |none=>exact RR p D g hTI h h1 h2 ZR hl2 (.inl hx) (hE (.inl hx))
  |some x=>
   cases hy:ys[k]? with
   |none=>exact RR p D g hTI h h1 h2 ZR hl2 (.inr hy) (hE (.inr hy))
   |some y=>exact Uj D g hTI h h1 h2 ZR hl2 hx hy λh' J v N O G _ I=>hQ x y h' hx hy ⟨false,_,.inl rfl,J⟩ N O G I
 have l:s.TypeIs (.ref z) "zip":=⟨_,g,rfl⟩;refine Lh (S9 (QV l Uk (Os Uk l PySem.F.entry_zip_next ?_ (PySem.F.args_zip_next_1 _))));show Me _ _ (field (.ref z) 2 >>=_) _ _ _;refine Lh (UU g rfl rfl ?_);refine Lh (UU g rfl rfl (Lh (P_ hTI rfl ?_)));refine Lh (sY g K λha M d=>?_);simp only[LM,if_false];refine Lh ?_;rw[<-Sq];simp only[R6,UN];refine Lh (Lh (Na ?_));cases hx:xs[k]? with
 |none=>
  refine Lh (Ul p (h1.extBut d.extBut D.i1z) (ZR.extBut d.extBut D.l1z) hx λhb e f u=>?_);obtain⟨o,t,m⟩:=u;exact Lh (O6 ⟨o,t,m⟩ UM (Lm (hE (.inl hx) hb λc o j _ n r q=>f _ _ n (d.extBut _ _ j q))))
 |some x=>
  refine Lh (TM (h1.extBut d.extBut D.i1z) (ZR.extBut d.extBut D.l1z) hx λhb R f=>Lm ?_);refine Lm ?_;refine Lh (Lh (Na ?_));have B:=(h2.extBut d.extBut D.i2z).extBut f.extBut D.i12.symm;have v:=(hl2.extBut d.extBut D.l2z).extBut f.extBut D.l2i1;cases hy:ys[k]? with
  |none=>
   refine Lh (Ul p B v hy λm e i u=>?_);obtain⟨o,t,L⟩:=u;exact Lh (O6 ⟨o,t,L⟩ UM (Lm (hE (.inr hy) m λc o j _ n r q=>i _ _ r (f.extBut _ _ n (d.extBut _ _ j q)))))
  |some y=>
   refine Lh (TM B v hy λm P i=>Lm ?_);refine Lm (Lm ?_);refine Lh (WJ ?_ (by show 2<=sizeLine;rw[Oq];lia));have C:m.objs.size=s.heap.objs.size:=by rw[i.1,f.1,d.1]
   have H:=i.extBut _ _ D.i2z.symm (f.extBut _ _ D.i1z.symm M);refine Lm ⟨_,rfl,Lm ?_⟩;rw[C];refine hQ x y _ hx hy ⟨true,T,.inr pt,Lj _ H⟩ (((R.extBut i.extBut D.i12)).at λo e=>Lj _ e) (P.at λo e=>Lj _ e) ?_ λc o j _ n r e=>Lj _ (i.extBut _ _ r (f.extBut _ _ n (d.extBut _ _ j e)));rw[<-C];exact LC _ rfl
end
theorem FH:UC (.type "zip") "__len__"=pure none:=by rw[Qh,Oh];kernel_rfl
theorem CJ:UC (.type "zip") "__length_hint__"=pure none:=by rw[Qh,Oh];kernel_rfl
theorem hint_zip(prog)(w):Eo prog w "zip":=λA E s r Q a h=>by
 refine Lh (OM a FH ?_);refine Lh (OM a CJ ?_);exact Lm (h _)
end ST
namespace L2
open PySem PySem.Spec PyProof.Rows
theorem JK{a b:Nat}(h:a<b\/b<a):@Ne LX a b:=λe=>by
 have c:a=b:=e;lia
theorem tM:NY "zip"=some (.type "zip"):=by decide+kernel
theorem xX{f:List LX}(I:Inv X XW σ H s)(g:∀b∈f,mw X XW H b)
  (k:∀b o,b ∉ f->s.heap.get? b=some o->h'.get? b=some o) (hp:s.heap.objs.size<=p) (new:de X.prog X.w (upd H p (.tup xs)) h' p (.tup xs)):
  Inv X XW σ (upd H p (.tup xs)) {s with heap:=h',toks:=t' }:=by
 have fresh:=I.hok.fresh hp;have l:∀b o,s.heap.get? b=some o->b≠p:=λb o e z=>absurd (Lp (Lx e) hp) (by rw[z];exact Mh _);have d:∀b u,H b=some u->b≠p:=λb u e z=>by rw[z,fresh]at e;cases e
 have h:∀b u,H b=some u->b ∉ f:=λb u e z=>by rw[(g b z).1]at e;cases e
 refine I.step (g':=s.gens) (d':=s.drawn) (ch:=f) (λb hb=>?_) (λb o _ _ a e _=>k b o a e) (λb o _ _ a e _=>⟨o.slots,k b o a e⟩) (λb o _ e n=>by rw[aI (l b o e)];exact n)
  (λb o a e=>⟨o,k b o a e⟩) (λb xs e=>by rw[aI (d b _ e)];exact e) (λb o u e=>by rw[aI (d b _ e)];exact e) (λb D e=>⟨#[],by rw[aI (d b _ e),e];simp⟩) (λm C=>?_) (λb u e=>?_) I.bare
 .obtain⟨E,B,F,i,y,j⟩:=g b hb;exact⟨i,B,y,j⟩
 .obtain⟨o,A,x,t,r⟩:=C;exact⟨o,A,x,k _ o (λz=>(g _ z).2.1 rfl) t,r⟩
 .by_cases hb:b=p
  .subst hb;rw[aK]at e;cases e;exact new
  .rw[aI hb]at e;refine (I.hok b u e).stay (λc v a q=>k c v ?_ q) (λc q=>by rw[aI (d c _ q)];exact q) λc xs q=>by rw[aI (d c _ q)];exact q
   rcases a with z |z
   .rw[z];exact h b u e
   .exact h c _ z
theorem yQ{d:List LX}(I:Inv X XW σ H s)(f:∀b∈d,mw X XW H b)
  (k:∀b o,b ∉ d->s.heap.get? b=some o->h'.get? b=some o):Inv X XW σ H {s with heap:=h',toks:=t' }:=by
 have g:∀b u,H b=some u->b ∉ d:=λb u e z=>by rw[(f b z).1]at e;cases e
 refine I.step (λb hb=>?_) (λb o _ _ a e _=>k b o a e) (λb o _ _ a e _=>⟨o.slots,k b o a e⟩) (λ_ _ _ _ n=>n)
  (λb o a e=>⟨o,k b o a e⟩) (λ_ _ e=>e) (λ_ _ _ e=>e) (λb y e=>⟨#[],by rw[e];simp⟩) (λm x=>?_) (λb u e=>?_) I.bare
 .obtain⟨A,w,B,h,p,i⟩:=f b hb;exact⟨h,w,p,i⟩
 .obtain⟨o,t,l,j,r⟩:=x;exact⟨o,t,l,k _ o (λz=>(f _ z).2.1 rfl) j,r⟩
 .refine (I.hok b u e).stay (λc v a q=>k c v ?_ q) (λ_ q=>q) λ_ _ q=>q;rcases a with z |z
  .rw[z];exact g b u e
  .exact g c _ z
section
variable {X:Cx}{XW:List (LX×Obj)}{σ:St}{O:List LX}{z TI TO i1 i2 l1 l2 S:LX}{va vb:List V}{xs ys:List U}{H1:Hp}{A:ML}{R:Xh→LB→Prop}{res:Lw}
theorem K8{a b c d e f i:Nat}(h:c<=i\/d<=i)(g:a=c)(j:b=d)(l1:a=e)(l2:b=f):min e f<=i:=by omega
theorem Di(hh:A.in1.handled=none)(D:V7 z TI TO i1 i2 l1 l2)(hS:S ∉ [z,TI,TO,i1,i2])(nS:H1 S=none)(dO:∀b∈O,H1 b≠none)(q1:SqL X.K (hid H1 O) l1 va)(q2:SqL X.K (hid H1 O) l2 vb)(Q:Rps X.K (hid H1 O) va xs)(r2:Rps X.K (hid H1 O) vb ys)
  (hR:∀s' h L,Inv X XW σ L s'->aU H1 L->L S=some (.lst h)->Rps X.K (hid L (S::O)) h (Ru (λa b=>U.tup [a,b]) xs ys)->R (.ok (.ret res)) s'):
  ∀(k i:Nat) (s:LB) (H:Hp) (h:List V),(Ru (λa b=>U.tup [a,b]) xs ys).length-i<k->Inv X XW σ H s->aU H1 H->H S=some (.lst h)->h.length=i->Rps X.K (hid H (S::O)) h ((Ru (λa b=>U.tup [a,b]) xs ys).take i)->(∀b∈[z,TI,TO,i1,i2],mw X XW H b/\b<s.heap.objs.size)->
   W0 s.heap TI (.ref i1) (.ref i2)->s.heap.IsListIter i1 l1 i->s.heap.IsListIter i2 l2 i->((IsZip s.heap z TI TO .none/\∃a b,W0 s.heap TO a b)\/∃b T,(∃t,H T=some (.tup t))/\ST.IsZ2 s.heap z TI TO T b)->
   RE (L6 X.prog X.w) A (.builtin "list.extend.loop" ⟨[.ref S,.ref z,res],[]⟩) R s:=by
 intro k
 induction k with
 |zero=>exact λi s H h M=>absurd M (ON _)
 |succ k ih=>
  intro i s H h M I p E hl rs N gI j1 j2 zz;obtain⟨ia,ra,p1,z1⟩:=I.list (p.seq (aH.seq q1));obtain⟨ib,rb,p2,_⟩:=I.list (p.seq (aH.seq q2));have la:=ra.length;have lb:=rb.length;have l1:=Q.len;have l2:=r2.len;rw[R9]at M
  have fk:∀{h':OG},(∀c o,c≠z->c≠TO->c≠i1->c≠i2->s.heap.get? c=some o->h'.get? c=some o)->∀d o,d ∉ [z,TI,TO,i1,i2]->s.heap.get? d=some o->h'.get? d=some o:=λB d o G e=>by
   simp only[Ll,NG,or_false,not_or]at G;exact B d o G.1 G.2.2.1 G.2.2.2.1 G.2.2.2.2 e
  refine OO PySem.F.entry_extend_loop ?_;rw[NX Pn _];refine Lh (ST.next_zip (Pt:=λT=>∃t,H T=some (.tup t)) hh D (zz.imp_right λ⟨b,T,⟨t,m⟩,g⟩=>⟨b,T,⟨t,m⟩,let ⟨_,_,_,ob,e,_⟩:=I.hok T _ m;⟨ob,e⟩,g⟩) gI j1 j2 p1.isList p2.isList (λx y h' ex ey nz n1 n2 P B=>?_) λhe h' B=>?_)
  rotate_left
  .refine Lm (hR _ h H (yQ (t':=s.toks) I (λb hb=>(N b hb).1) (fk B)) p E ?_)
   rwa [Mf]at rs
   rw[R9];simp at he;exact K8 he la lb l1 l2
  .have hia:=aL (show ia[i]?=some x by simpa using ex);have hib:=aL (show ib[i]?=some y by simpa using ey);obtain⟨v,Z⟩:∃v,va[i]?=some v:=⟨_,Ld (by omega)⟩
   obtain⟨u,e2⟩:∃u,vb[i]?=some u:=⟨_,Ld (by omega)⟩
   obtain⟨x',k1,t1⟩:=ra.get Z;obtain⟨y',k2,t2⟩:=rb.get e2;obtain rfl:x'=x:=by simpa [k1] using ex
   obtain rfl:y'=y:=by simpa [k2] using ey
   obtain⟨xu,f1⟩:∃v,xs[i]?=some v:=⟨_,Ld (by omega)⟩
   obtain⟨W,Y⟩:∃u,ys[i]?=some u:=⟨_,Ld (by omega)⟩
   have fresh:H s.heap.objs.size=none:=I.hok.fresh (Lk _);have I2:=xX (s:=s) (h':=h') (t':=s.toks) (xs:=[v,u]) I (λb hb=>(N b hb).1) (fk B) (Lk _) ⟨by show 2<=sizeLine;decide,[x',y'],.cons t1 (.cons t2 .nil),⟨_,P,rfl,_,rfl⟩⟩;have Sp:S≠s.heap.objs.size:=λe=>by rw[e,fresh]at E;cases E
   have J:upd H s.heap.objs.size (.tup [v,u]) S=some (.lst h):=by rw[aI Sp];exact E
   have j:aU H (upd H s.heap.objs.size (.tup [v,u])):=bj fresh _;obtain⟨zs,its,n,r,hl2,e⟩:=I2.lstM J;have C:∀b o,b≠S->h'.get? b=some o->(h'.update S (O4 (·.push (.ref s.heap.objs.size)))).get? b=some o:=λb o hb e=>(M0 _ _ (Ne.symm hb)).trans e;have vr:aW [V.ref s.heap.objs.size] [MM s.heap.objs.size]:=.cons rfl .nil;have l:∀b∈[z,TI,TO,i1,i2],b≠S:=λb hb e=>hS (e ▸ hb);refine Lh (PF (s:={s with heap:=h' }) e rfl (Lm ⟨Pa Pn _,ih (i+1) _ (upd (upd H s.heap.objs.size (.tup [v,u])) S (.lst (h++[.ref s.heap.objs.size]))) (h++[.ref s.heap.objs.size]) ?_ (I2.lset (t':=s.toks) (ys:=h++[.ref s.heap.objs.size]) (its':=its++[.ref s.heap.objs.size]) J e (by simp) (r.append vr) ?_) ((p.trans j).put nS _) aK (by simp[hl]) ?_ (λb hb=>?_) ?_ ?_ ?_ (.inr ?_)⟩) (by rw[LV];omega) (by rw[Array.size_push,LV];omega))
   .rw[R9];omega
   .rw[LG];simp;omega
   .rw[mF Lo,Oz,RH.mpr ⟨xu,W,f1,Y,rfl⟩];refine (rs.same (aP j)).snoc (.cons ?_ .nil);have sG:=(bH (O:=O) p nS).trans (aP j);have all:Rps X.K (hid (upd H s.heap.objs.size (.tup [v,u])) (S::O)) [v,u] [xu,W]:=.cons ((Q.at_ i _ _ Z f1).same sG) (.cons ((r2.at_ i _ _ e2 Y).same sG) .nil);refine .tup (SqT.of (cW aK λhp=>?_)) all.len all.at_;rcases Ll.mp hp with q |q
    .exact Sp q.symm
    .exact dO _ q (p.free fresh)
   .obtain⟨⟨f0,f⟩,YV⟩:=N b hb;refine⟨⟨?_,f⟩,MP YV (Lx (C _ _ Sp.symm P))⟩;rw[aI (λe=>hS (by rw[<-e];exact hb)),aI (L3 YV)];exact f0
   .exact C _ _ (l _ (by simp)) (B TI _ D.TIz D.TITO D.TIi1 D.TIi2 gI)
   .exact n1.at λo e=>C _ o (l _ (by simp)) e
   .exact n2.at λo e=>C _ o (l _ (by simp)) e
   .obtain⟨b,T,m,g⟩:=nz;refine⟨b,T,?_,C _ _ (l _ (by simp)) g⟩;rcases m with rfl |⟨t,m⟩
    .exact⟨_,by rw[aI Sp.symm];exact aK⟩
    .exact⟨t,by rw[aI λe=>by rw[e,E]at m;cases m];exact j _ _ m⟩
end
section
variable {X:Cx}{H0:Hp}{O0:List LX}{ps:PSt}{e f:Expr}{x y:U}{xs ys:List U}{XY Yd p p':Pos}
theorem Aa(hc:X.calm=true)(hg:Gl X "list")(hm:X.mg "list"=none)(V:Gl X "zip")(Z:X.mg "zip"=none)(ha:Ev X H0 O0 ps e x)(hx:x=.lst xs∨x=.scr xs)(w:Ev X H0 O0 ps f y)(hy:y=.lst ys∨y=.scr ys) 
  (he:autoParam (Lr [e,f] X.env=(false,N4 e X.env)::Lr [f] X.env) zM) (hf:autoParam (Lr [f] X.env=(false,N4 f X.env)::Lr [] X.env) zM):
  EvN X H0 O0 ps (.Call (.Name "list" p) [.Call (.Name "zip" p') [e,f] [] Yd] [] XY) (Ru (λa b=>U.tup [a,b]) xs ys):=by
 rintro W s σ H Q I ⟨O,R0,q⟩;have hh:X.A.handled=none:=I.ok.hd hc;refine M8 (dD I hg hm boot_list ?_);refine callWith_type1 (e:=.Call (.Name "zip" p') [e,f] [] Yd) (rest:=[]) ?_ be rfl;rw[be];show Me _ _ (spliced ((false,N4 (.Call (.Name "zip" p') [e,f] [] Yd) X.env)::NT XY (Lr [] X.env))) _ _ s;refine QS ?_;refine M8 (dD I V Z tM ?_);refine callWith_type1 (thn (ci ha (ci w fi hf) he Yd W s σ H (λn t=>∃v u,n=[v,u]/\aU H t/\Rp X.K (hid t O) v x/\Rp X.K (hid t O) u y) I ⟨O,R0,λv t h r1=>⟨O,R0.go h,λu H2 s2 r2=>⟨v,u,rfl,h.trans s2,r1.same (aP s2),r2⟩⟩⟩) λus h ZL=>?_) he (by rw[hf];rfl);obtain⟨n,t,G,rv,v,u,rfl,S,rp1,P⟩:=ZL;obtain⟨w1,w2,rfl,ru1,ru2⟩:=p_ rv;obtain⟨a,va,rfl,B,rs1⟩:=zP rp1 hx;obtain⟨b,vb,rfl,z,Y⟩:=zP P hy;cases ru1;cases ru2;obtain⟨ia,ra,C,hz1⟩:=G.list (aH.seq B);obtain⟨ib,rb,F,hz2⟩:=G.list (aH.seq z);have al:@LT.lt Nat instLTNat a h.heap.objs.size:=by obtain⟨o,ho,_⟩:=C.isList;exact Lx ho
 have bl:@LT.lt Nat instLTNat b h.heap.objs.size:=by obtain⟨o,ho,_⟩:=F.isList;exact Lx ho
 refine PySem.call_zip_2 C.isList F.isList λj N z2 z3 z4 z5 z6 z7=>?_;refine Q7 ?_;have D:V7 (h.heap.objs.size+4) (h.heap.objs.size+2) (h.heap.objs.size+3) h.heap.objs.size (h.heap.objs.size+1) a b:=by constructor <;>exact JK (by lia)
 have M:Inv X W σ t {h with heap:=j }:=G.kept (t':=h.toks) z7;have sz:h.heap.objs.size+4<j.objs.size:=Lx N
 refine ST.call_list_any (T:="zip") (s:={h with heap:=j }) (Fi:=λL=>∃n l,Inv X W σ l L∧aU t l∧l j.objs.size=some (.lst n)∧Rps X.K (hid l (j.objs.size::O)) n (Ru (λa b=>U.tup [a,b]) xs ys)) ⟨_,N,rfl⟩ (by decide) (by decide) (ST.hint_zip _ _) (λh2 Q E k q=>Tp (s:={h with heap:=h2 }) (k _ _ N) q)
  (λR h2 c k g hR=>Di (A:=X.A.in1) hh D (λw=>?_) (M.hok.fresh (Lk _)) (R0.go S).dom B z rs1 Y (λL n l a b c d=>hR L ⟨n,l,a,b,c,d⟩) _ 0 _ (upd t j.objs.size (.lst [])) [] (Mz _) (M.laid (t':=h.toks) (o:=.lst []) k (Lk _) ⟨Mu _,[],c,.nil,g⟩) (bj (M.hok.fresh (Lk _)) _) aK rfl (by rw[Rl];exact .nil) (λb w=>?_) (k _ _ z2) (z4.at λo e=>k _ o e) (z5.at λo e=>k _ o e) (.inl ⟨k _ _ N,_,_,k _ _ z3⟩)) λL ⟨n,l,i,m,e,r⟩=>⟨.ref j.objs.size,l,i,rfl,q _ _ _ (S.trans m) (S.free (M.hok.fresh (Lk _))) e r⟩
 .simp only[Ll,NG,or_false]at w;have J:(j.objs.size:Nat)=_\/(j.objs.size:Nat)=_\/(j.objs.size:Nat)=_\/(j.objs.size:Nat)=_\/(j.objs.size:Nat)=_:=w;lia
 .have J:h.heap.objs.size<=b/\b<=h.heap.objs.size+4:=by
   simp only[Ll,NG,or_false]at w;rcases w with e |e |e |e |e <;>rw[e] <;>exact⟨by first |exact L5 _ _ |exact Lk _,by first |exact Lk _ |exact L5 _ _ |exact MZ (by decide) _⟩
  refine⟨G.fpOk J.1 ?_,ME J.2 (MP sz (Lx g))⟩;rw[aI (L3 (ME J.2 sz))];exact G.hok.fresh J.1
end
theorem l_(ns:List Int):∀j,preSum (λi=>ns.getD i 0) j=(ns.take j).sum
 |0=>by simp[preSum]
 |j+1=>by rw[preSum,l_ ns j,PySem.sum_take_succ]
section
variable {X:Cx}{ns:List Int}{M:Int}
theorem oN{K:Le}(f:aW ws its)(b:Rps K H ws (ns.map U.int))(i)(z:Lw)(e:its.toArray[i]?=some z):∃t,z=.int (ns.getD i 0) t:=by
 have h:=b.len;rw[Lg]at h;have c:its[i]?=some z:=by simpa using e
 have k:=aL c;have a:i<ws.length:=by rw[f.length];exact k
 have hb:i<ns.length:=by lia
 obtain⟨u,d,j⟩:=f.get (Ld a);have g:=b.at_ i ws[i] (.int ns[i]) (Ld a) (by rw[Lq,Ld hb];rfl);rw[c]at d;cases d;generalize ws[i]=l at *;cases g;rw[LP,Ld hb];obtain⟨t,rfl⟩:=j;exact⟨t,rfl⟩
theorem G4(K:X.calm=true)(c:M∈ns∧∀a∈ns,M≤a):eF X (.builtin "min") [.lst (ns.map U.int)] (.int M):=by
 intro S s P H W R Q I r h;obtain⟨O,d,y,q⟩:=h;obtain⟨v,rfl,F⟩:=cL y;obtain⟨V,rfl,C⟩:=dW r;cases F with
 | @lst a T _ h p D=>
  cases C;obtain⟨its,w,f,_⟩:=I.list (SqL.of (aH _ _ h));have l:its.length=ns.length:=by rw[<-w.length,p,Lg]
  have n:=oN (ns:=ns) w ⟨p,D⟩;have J:0<ns.length:=Nu c.1;refine call_min_walk (N5 f.isList ?_);have k:a<s.heap.objs.size:=by obtain⟨o,e,_⟩:=f.isList;exact Lx e
  refine⟨s.heap.objs.size,_,_,_,_,_,_,rfl,Walks.list (A:=X.A.in1) (I.ok.hd K) s.heap.objs.size a (L3 k) its.toArray,⟨⟨_,LC _ rfl,rfl,rfl⟩,f.isList.push _⟩,λb hb=>?_,by rw[LV,l];exact J,CmpOf.ints_lt (λi=>ns.getD i 0) n,λv Y B E L=>?_⟩
  .show b<(s.heap.push _).objs.size;rw[NS];rcases Ll.mp hb with z |z
   .rw[z];exact Mz _
   .rw[Lz.mp z];exact OD k
  .obtain⟨t,rfl⟩:=n _ _ E;obtain⟨N,u⟩:=argBest_lt (λi=>ns.getD i 0) (its.toArray.size-1)
   have e:ns.getD (P1 (λi j=>decide (ns.getD i 0<ns.getD j 0)) (its.toArray.size-1)) 0=M:=by
    rw[LV,l]at N u |-;generalize P1 (λi j=>decide (ns.getD i 0<ns.getD j 0)) (ns.length-1)=g at *
    have m:g<ns.length:=by lia
    obtain⟨j,G,ej⟩:=Nb c.1;have x:=u j (by lia);have Z:=c.2 ns[g] (MA m);simp only[LP,Ld m,Ld G,QC]at x |-;lia
   rw[e];refine⟨.int M,H,I.kept (t':=B) λb o e=>L b o ?_ (Lj _ e),⟨t,rfl⟩,q _ H (.refl H) (.int _)⟩;intro z;have:b=s.heap.objs.size:=by simpa using z
   exact absurd (Lx e) (by rw[this];exact Mh _)
theorem vI(w:X.calm=true):eF X (.builtin "sum") [.lst (ns.map U.int)] (.int ns.sum):=by
 intro C s y H F B Q I r f;obtain⟨O,d,k,q⟩:=f;obtain⟨v,rfl,p⟩:=cL k;obtain⟨E,rfl,m⟩:=dW r;cases p with
 | @lst a D _ f h n=>
  cases m;obtain⟨its,j,c,_⟩:=I.list (SqL.of (aH _ _ f));have t:its.length=ns.length:=by rw[<-j.length,h,Lg]
  have u:=oN (ns:=ns) j ⟨h,n⟩;refine call_sum_walkG (N5 c.isList ?_);have g:a<s.heap.objs.size:=by obtain⟨o,e,_⟩:=c.isList;exact Lx e
  refine⟨s.heap.objs.size,_,_,_,_,_,λi=>ns.getD i 0,rfl,Walks.list (A:=X.A.in1) (I.ok.hd w) s.heap.objs.size a (L3 g) its.toArray,⟨⟨_,LC _ rfl,rfl,rfl⟩,c.isList.push _⟩,λb hb=>?_,u,λG l t' x=>?_⟩
  .show b<(s.heap.push _).objs.size;rw[NS];rcases Ll.mp hb with z |z
   .rw[z];exact Mz _
   .rw[Lz.mp z];exact OD g
  .rw[l_,LV,t,P8];refine⟨.int ns.sum,H,I.kept (t':=l) λb o e=>x b o ?_ (Lj _ e),⟨t',rfl⟩,q _ H (.refl H) (.int _)⟩;intro z;have:b=s.heap.objs.size:=by simpa using z
   exact absurd (Lx e) (by rw[this];exact Mh _)
end
end L2
namespace ST
open PySem PyProof.Rows
def leP(a b:Int×Int):Bool:=decide (a.1<b.1\/(a.1=b.1/\a.2<=b.2))
end ST
namespace L2
open PySem PySem.Spec PyProof.Rows
section
variable {X:Cx}{H0:Hp}{O0:List LX}{ps:PSt}{a b c:Expr}{XY:Pos}{x y z:U}{p q:P2}{k m:Bool}
theorem len1{α:Type}{l:List α}:l.length=1->∃a,l=[a]:=TN.mp
theorem len2{α:Type}{l:List α}(h:l.length=2):∃a b,l=[a,b]:=by
 cases l with
 |nil=>cases h
 |cons a t=>
  obtain⟨b,rfl⟩:=len1 (VQ h);exact⟨a,b,rfl⟩
theorem len3{α:Type}{l:List α}(h:l.length=3):∃a b c,l=[a,b,c]:=by
 cases l with
 |nil=>cases h
 |cons a t=>
  obtain⟨b,c,rfl⟩:=len2 (VQ h);exact⟨a,b,c,rfl⟩
theorem Rp.i{K:Le}{H:Hp}{v:V}{n:Int}(r:Rp K H v (.int n)):v=.int n:=by
 cases r;rfl
theorem Rp.two{K:Le}{H:Hp}{v:V}{a b:Int}(r:Rp K H v (.tup [.int a,.int b])):∃p,v=.ref p/\SqT K H p [.int a,.int b]:=by
 cases r with
 | @tup p _ _ f d c=>
  obtain⟨x,y,rfl⟩:=len2 d;have g:=(c 0 x _ rfl rfl).i;have e:=(c 1 y _ rfl rfl).i;exact⟨p,rfl,g ▸ e ▸ f⟩
theorem AU{i:List (LX×Obj)}{h:List (Option V)}{H:Hp}{s:LB}(I:Inv X i h H s){v:V}{u:Lw}(r:Rp X.K H v (pu p))(e:aS v u):∃b,u=.ref b/\v=.ref b/\∀a w,ST.TK a w s.heap [p.1,p.2] b:=by
 obtain⟨b,rfl,g⟩:=Rp.two r;obtain⟨_,j,⟨o,f,c,n,d⟩,_⟩:=I.tuple g;obtain⟨_,_,rfl,⟨_,rfl⟩,_,rfl⟩:=p_ j;exact⟨b,e,rfl,λ_ _=>⟨o,_,n,f,c,d,.cons (OF _ _ _ _) (.cons (OF _ _ _ _) .nil)⟩⟩
theorem GD{c:List (LX×Obj)}{a:List (Option V)}{H:Hp}{s:LB}(I:Inv X c a H s){v:V}{u:Lw}(r:Rp X.K H v (pu p))(e:aS v u):∃b,u=.ref b/\ST.TK X.prog X.w s.heap [p.1,p.2] b:=
 have ⟨b,h,_,k⟩:=AU I r e
 ⟨b,h,k _ _⟩
theorem Gx(c:Tt X H0 O0 ps cd k)(e:Ev X H0 O0 ps a x)(d:Ev X H0 O0 ps b y):Ev X H0 O0 ps (.IfExp cd a b XY) (if k=true then x else y):=by
 cases k with
 |true=>exact Cl c (λ_=>e) (λh=>nomatch h)
 |false=>exact Cl c (λh=>nomatch h) (λ_=>d)
end
section
variable {X:Cx}{p q:P2}{l:List P2}
theorem G5{d:List (LX×Obj)}{c:List (Option V)}{H:Hp}{s:LB}(I:Inv X d c H s){v:V}{u:Lw}(r:Rp X.K H v (pu p))(e:aS v u):∃b,u=.ref b/\∀a w,ST.TK a w s.heap [p.1,p.2] b:=
 have ⟨b,h,_,k⟩:=AU I r e
 ⟨b,h,k⟩
end
end L2
namespace ST
open PySem
def Ho(prog:LJ)(w:Mp)(A:ML)(op:CmpOp)(G:OG->Prop)(P:Nat->Lw->Prop)(bt:Nat->Nat->Bool):Prop:=
 ∀i j a b (s:LB) (Q:Lw->LB->Prop) (E:Lw->LB->Prop),G s.heap->P i a->P j b->Q (.bool (bt i j)) s->Me (L6 prog w) A (UV op a b) Q E s
section
variable {prog:LJ}{w:Mp}{A:ML}{R:Xh→LB→Prop}{I S:LX}{fp wr:List LX}{n:Nat}{P:Nat→Lw→Prop}{St:Nat→OG→Prop}{G:OG→Prop}{bt:Nat→Nat→Bool}
theorem zk(W:Walks prog w A.in1 I fp wr n P St)(M:Ho prog w A.in1 .Gt G P bt)(f:∀h a,G h->(∀b o,b ∉ wr->b≠S->h.get? b=some o->a.get? b=some o)->G a)(J:S ∉ fp):
  ∀k j s vb c,n-(j+1)=k→j+1≤n→G s.heap→St (j+1) s.heap→P (P1 bt j) vb→s.heap.get? S=some {cls:=.type "list",dict:=none,data:=.seq #[vb,vb] c,slots:=#[] }→
  (∀v a r,P (P1 bt (n-1)) v->(∀b o,b ∉ wr->b≠S->s.heap.get? b=some o->a.get? b=some o)->R (.ok (.ret v)) {s with heap:=a,toks:=r })->
  RE (L6 prog w) A (.builtin "max.loop" ⟨[.ref I,.none,.ref S],[]⟩) R s:=by
 have K:S ∉ wr:=λh=>J (W.sub _ h);have nm:(O9 "max"++O9 ".loop":String)="max.loop":=by decide
 intro k
 induction k with
 |zero=>
  intro j s vb c N L g u q m p;obtain rfl:j+1=n:=by lia
  refine OO Q3 ?_;rw[NX Nv _];show Me _ A.in1 (Wk (.ref S) >>=_) _ _ s;refine Lh (P_ m rfl ?_);show Me _ A.in1 (Xa (Wa (.ref I)) _ >>=_) _ _ s;refine Lh (Sx (W.done s _ _ u λa r i=>?_));show Me _ A.in1 (updateSeq S (λ_=>#[]) >>=_) _ _ _;refine Lh (PF (i S _ K m) rfl (Lh (S_ (Lm ?_))));exact p vb _ r q λb o d hb e=>(M0 _ _ (Ne.symm hb)).trans (i b o d e)
 |succ k H=>
  intro j s vb c N L g u q m p;refine OO Q3 ?_;rw[NX Nv _];show Me _ A.in1 (Wk (.ref S) >>=_) _ _ s;refine Lh (P_ m rfl ?_);show Me _ A.in1 (Xa (Wa (.ref I)) _ >>=_) _ _ s;refine Lh (Sx (W.item (j+1) s _ _ (by lia) u λv a r F E i=>?_));have y:G a:=f _ _ g λb o d _ e=>i b o d e;have l:=i S _ K m;show Me _ A.in1 (Xa (UQ [v,v] (UV .Gt v vb >>=_)) _ >>=_) _ _ _;refine Lh (Sx (Na (Lh (M (j+1) (P1 bt j) v vb _ _ _ y F q ?_))));refine Lh (Na (Nl (Lh (S_ (Lm ?_)))));by_cases hb:bt (j+1) (P1 bt j)=true
  .rw[if_pos hb];refine Lh (PF l rfl (Lh (S_ ?_)));rw[nm];have z:∀b o,b≠S->a.get? b=some o->(a.update S (O4 λ_=>#[v,v])).get? b=some o:=λb o h e=>(M0 _ _ (Ne.symm h)).trans e;refine Lm ⟨Pa Nv _,H (j+1) _ v _ (by lia) (by lia) (f _ _ y λb o _ h e=>z b o h e) (W.frame _ _ _ E λb O o e=>z b o (λh=>J (h ▸ O)) e) (by rw[P1,if_pos hb];exact F) (M_ _ l rfl) λt x D B C=>?_⟩;exact p t x D B λb o d h e=>C b o d h (z b o h (i b o d e))
  .rw[if_neg hb];refine Lh (S_ ?_);rw[nm];refine Lm ⟨Pa Nv _,H (j+1) _ vb c (by lia) (by lia) y E (by rw[P1,if_neg hb];exact q) l λt x D B C=>?_⟩;exact p t x D B λb o d h e=>C b o d h (i b o d e)
theorem wC(W:Walks prog w A.in1 I fp wr n P St)(x:Ho prog w A.in1 .Gt G P bt)(a:∀h d,G h->(∀b o,b ∉ wr->b≠S->h.get? b=some o->d.get? b=some o)->G d)(l:S ∉ fp)(m:0<n)(g:G s.heap)(st:St 0 s.heap)
  (hS:s.heap.get? S=some {cls:=.type "list",dict:=none,data:=.seq #[] c,slots:=#[] })
  (hR:∀v d p,P (P1 bt (n-1)) v->(∀b o,b ∉ wr->b≠S->s.heap.get? b=some o->d.get? b=some o)->R (.ok (.ret v)) {s with heap:=d,toks:=p }):
  RE (L6 prog w) A (.builtin "max.loop" ⟨[.ref I,.none,.ref S],[]⟩) R s:=by
 have y:S ∉ wr:=λh=>l (W.sub _ h);have nm:(O9 "max"++O9 ".loop":String)="max.loop":=by decide
 refine OO Q3 ?_;rw[NX Nv _];show Me _ A.in1 (Wk (.ref S) >>=_) _ _ s;refine Lh (P_ hS rfl ?_);show Me _ A.in1 (Xa (Wa (.ref I)) _ >>=_) _ _ s;refine Lh (Sx (W.item 0 s _ _ m st λv d p u t j=>?_));have f:=j S _ y hS;show Me _ A.in1 (updateSeq S (λ_=>#[v,v]) >>=_) _ _ _;refine Lh (PF f rfl ?_);rw[nm];have k:∀b o,b≠S->d.get? b=some o->(d.update S (O4 λ_=>#[v,v])).get? b=some o:=λb o h e=>(M0 _ _ (Ne.symm h)).trans e;refine Lm ⟨Pa Nv _,zk W x a l _ 0 _ v _ rfl m (a _ _ g λb o i h e=>k b o h (j b o i e)) (W.frame _ _ _ t λb B o e=>k b o (λh=>l (h ▸ B)) e) u (M_ _ f rfl) λq r D z C=>?_⟩;exact hR q r D z λb o i h e=>C b o i h (k b o h (j b o i e))
end
section
variable {prog:LJ}{w:Mp}{A:ML}{E:Lw→LB→Prop}{s:LB}
theorem call_maxG(u:A.handled=none)(k:s.heap.IsList l items)(C:0<items.size)(H:Ho prog w A.in1 .Gt G (λi v=>items[i]?=some v) bt)
  (g:G s.heap) (stay:∀h a,G h->(∀b o,s.heap.get? b=some o->h.get? b=some o)->(∀b o,s.heap.get? b=some o->a.get? b=some o)->G a)
  (hQ:∀v a n,items[P1 bt (items.size-1)]?=some v->(∀b o,s.heap.get? b=some o->a.get? b=some o)->Q v {s with heap:=a,toks:=n }):
  Me (L6 prog w) A (call (.builtin "max") [.ref l]) Q E s:=by
 have nm:(O9 "max"++O9 ".loop":String)="max.loop":=by decide
 refine call_function_tree PySem.F.kind_max PySem.F.plain_max PySem.F.entry_max (PySem.F.args_max1 _) ?_;show Me _ A.in1 (Builtin.Builtins.bindParams "max" ["key","default"] 0 ⟨[],[]⟩ >>=_) _ _ s;refine Lh (Wn (show Builtin.Builtins.bindParams "max" ["key","default"] 0 ⟨[],[]⟩=pure [none,none] from rfl) ?_);refine Lh (Lm ?_);refine Lh (N5 k ?_);have f:l<s.heap.objs.size:=by obtain⟨o,e,_⟩:=k;exact Lx e
 refine Lh (Pw ?_);rw[nm];have W:=Walks.list (prog:=prog) (w:=w) (A:=A.in1) u s.heap.objs.size l (L3 f) items;have m:∀b o,s.heap.get? b=some o→((s.heap.push {cls:=.type "list_iterator",data:=.fields #[.ref l,.int 0 0] }).push {cls:=.type "list",data:=.seq #[] }).get? b=some o:=λb o e=>Lj _ (Lj _ e);have q:(s.heap.push {cls:=.type "list_iterator",data:=.fields #[.ref l,.int 0 0] }).objs.size=s.heap.objs.size+1:=NS ..
 have lt:∀b o,s.heap.get? b=some o→b ∉ [s.heap.objs.size]∧b≠(s.heap.push {cls:=.type "list_iterator",data:=.fields #[.ref l,.int 0 0] }).objs.size:=λb o e=>by
  have h:=Lx e;refine⟨λz=>?_,λz=>?_⟩
  .rw[Lz.mp z]at h;exact Mh _ h
  .rw[z,q]at h;exact Mh _ (Mg h)
 refine Lm ⟨Pa Nv _,wC (G:=λh=>G h/\∀b o,s.heap.get? b=some o->h.get? b=some o) W (λi j t I x B D c=>H i j t I x B D c.1) (λh a c d=>?_) ?_ C ⟨stay _ _ g (λ_ _ e=>e) m,m⟩ ⟨⟨_,Lj _ (LC _ rfl),rfl,rfl⟩,(k.push _).push _⟩ (LC _ rfl) λv a n y d=>?_⟩
 .have r:∀b o,s.heap.get? b=some o->a.get? b=some o:=λb o e=>d b o (lt b o e).1 (lt b o e).2 (c.2 b o e);exact⟨stay _ _ c.1 c.2 r,r⟩
 .intro z;have p:(s.heap.push {cls:=.type "list_iterator",data:=.fields #[.ref l,.int 0 0] }).objs.size∈[s.heap.objs.size,l]:=z;rw[q]at p;rcases Ll.mp p with z |z
  .exact absurd z (Nat.succ_ne_self _)
  .have e:=Lz.mp z;rw[<-e]at f;exact absurd f (Nat.not_lt_of_gt (Mz _))
 .exact hQ v a n y λb o e=>d b o (lt b o e).1 (lt b o e).2 (m b o e)
end
end ST
namespace ST
open PySem PyProof.Rows
section
variable {prog:LJ}{w:Mp}{A:ML}{E:Lw→LB→Prop}{s:LB}
theorem yA(h:Q (.bool (decide (x<y))) s):Me (L6 prog w) A (UV .Lt (.int x t) (.int y u)) Q E s:=
 Vy (RZ s _ t) (RZ s _ u) PySem.F.slot_int_lt PySem.F.entry_int_lt (PySem.F.args_int_lt_2 _ _) (gives_int_lt _ _ t u) (λx=>nomatch x) h
theorem A2(l:TK prog w s.heap [a.1,a.2] x)(j:TK prog w s.heap [b.1,b.2] y)(h:P (.done (.ret (.bool (ltP a b)))) s):
  Me (L6 prog w) A (Builtin.«tuple.__lt__» ⟨[.ref x,.ref y],[]⟩) P E s:=by
 have e:=j.typeIs;obtain⟨o,its,n,t,u,k,_,m,g⟩:=l.two;obtain⟨r,c,v,C,B,q,_,p,i⟩:=j.two;show Me _ _ (isInstance (.ref y) (.type "tuple") >>=_) _ _ s;refine Lh (O6 e Um ?_);simp only[NF,LM,if_false];refine Lh (QW k m ?_);refine Lh (QW q p ?_);have sz:its.size=c.size:=by rw[<-Ly,<-Ly,g,i];rfl
 rw[g,i];refine Lh ?_;simp only[Om,Vz,R6,UN];refine Lh (Lh ((SX prog w).eqBool (a:=a.1) (b:=b.1) (OF _ _ _ _) (OF _ _ _ _) ?_));by_cases d:a.1=b.1
 .rw[decide_eq_true d];simp only[NF,LM,if_false];refine Lm ?_;refine Lh (Lh ((SX prog w).eqBool (a:=a.2) (b:=b.2) (OF _ _ _ _) (OF _ _ _ _) ?_));by_cases f:a.2=b.2
  .rw[decide_eq_true f];simp only[NF,LM,if_false];refine Lm (Lm ?_);have z:ltP a b=false:=by unfold ltP;simp;omega
   rw[z]at h;refine Lm ?_;show P (.done (.ret (.bool (decide (its.size<c.size))))) s;rw[sz,decide_eq_false (Mh _)];exact h
  .rw[decide_eq_false f];simp only[Qz,if_true];have z:ltP a b=decide (a.2<b.2):=by unfold ltP;rw[d];simp
   rw[z]at h;exact Lh (RY (Lh (yA (Lh (Lm (Lm (Lm (Lm h))))))))
 .rw[decide_eq_false d];simp only[Qz,if_true];have z:ltP a b=decide (a.1<b.1):=by unfold ltP;simp[d]
  rw[z]at h;exact Lh (RY (Lh (yA (Lh (Lm (Lm (Lm (Lm h))))))))
theorem lt_ptsR(f:A.units<P6)(c:TK prog w s.heap [a.1,a.2] x)(d:TK prog w s.heap [b.1,b.2] y)(h:Q (.bool (ltP a b)) s):
  Me (L6 prog w) A (MC .Lt (.ref x) (.ref y)) Q E s:=
 R_ (op:=.Lt) c.typeIs d.typeIs Uo
  (Os Uo c.typeIs PySem.F.entry_tuple_lt (A2 c d ⟨_,rfl,(λe=>nomatch e),h⟩) (PySem.F.args_tuple_lt_2 _ _)) f
theorem xC(h:Q (.bool (decide (y<x))) s):Me (L6 prog w) A (UV .Gt (.int x t) (.int y u)) Q E s:=
 Vy (op:=.Gt) (RZ s _ t) (RZ s _ u) PySem.F.slot_int_gt PySem.F.entry_int_gt (PySem.F.args_int_gt_2 _ _) (gives_int_gt _ _ t u) (λx=>nomatch x) h
theorem A1(l:TK prog w s.heap [a.1,a.2] x)(j:TK prog w s.heap [b.1,b.2] y)(h:P (.done (.ret (.bool (ltP b a)))) s):
  Me (L6 prog w) A (Builtin.«tuple.__gt__» ⟨[.ref x,.ref y],[]⟩) P E s:=by
 have e:=j.typeIs;obtain⟨o,its,n,t,u,k,_,m,g⟩:=l.two;obtain⟨r,c,v,C,B,q,_,p,i⟩:=j.two;show Me _ _ (isInstance (.ref y) (.type "tuple") >>=_) _ _ s;refine Lh (O6 e Um ?_);simp only[NF,LM,if_false];refine Lh (QW k m ?_);refine Lh (QW q p ?_);have sz:its.size=c.size:=by rw[<-Ly,<-Ly,g,i];rfl
 rw[g,i];refine Lh ?_;simp only[Om,Vz,R6,UN];refine Lh (Lh ((SX prog w).eqBool (a:=a.1) (b:=b.1) (OF _ _ _ _) (OF _ _ _ _) ?_));by_cases d:a.1=b.1
 .rw[decide_eq_true d];simp only[NF,LM,if_false];refine Lm ?_;refine Lh (Lh ((SX prog w).eqBool (a:=a.2) (b:=b.2) (OF _ _ _ _) (OF _ _ _ _) ?_));by_cases f:a.2=b.2
  .rw[decide_eq_true f];simp only[NF,LM,if_false];refine Lm (Lm ?_);have z:ltP b a=false:=by unfold ltP;simp;omega
   rw[z]at h;refine Lm ?_;show P (.done (.ret (.bool (decide (its.size >c.size))))) s;rw[sz,decide_eq_false (Mh _)];exact h
  .rw[decide_eq_false f];simp only[Qz,if_true];have z:ltP b a=decide (b.2<a.2):=by unfold ltP;rw[d];simp
   rw[z]at h;exact Lh (RY (Lh (xC (Lh (Lm (Lm (Lm (Lm h))))))))
 .rw[decide_eq_false d];simp only[Qz,if_true];have z:ltP b a=decide (b.1<a.1):=by unfold ltP;simp[Ne.symm d]
  rw[z]at h;exact Lh (RY (Lh (xC (Lh (Lm (Lm (Lm (Lm h))))))))
theorem gt_ptsR(f:A.units<P6)(c:TK prog w s.heap [a.1,a.2] x)(d:TK prog w s.heap [b.1,b.2] y)(h:Q (.bool (ltP b a)) s):
  Me (L6 prog w) A (MC .Gt (.ref x) (.ref y)) Q E s:=
 R_ (op:=.Gt) c.typeIs d.typeIs Uq
  (Os Uq c.typeIs PySem.F.entry_tuple_gt (A1 c d ⟨_,rfl,(λe=>nomatch e),h⟩) (PySem.F.args_tuple_gt_2 _ _)) f
end
theorem Fd:ltP a b=true↔(a.1<b.1\/(a.1=b.1/\a.2<b.2)):=by unfold ltP;exact decide_eq_true_iff
theorem ltP_no:ltP a b=false↔¬ (a.1<b.1\/(a.1=b.1/\a.2<b.2)):=by unfold ltP;exact decide_eq_false_iff_not
theorem ltP_one(d:ltP a b=false)(c:ltP b a=false):a=b:=by
 rw[ltP_no]at d c;obtain⟨g,e⟩:=a;obtain⟨h,f⟩:=b;simp only[Xb]at *;lia
theorem best_max(f:Nat->Int×Int):∀k,P1 (λi j=>ltP (f j) (f i)) k<=k/\∀j,j<=k->ltP (f (P1 (λi j=>ltP (f j) (f i)) k)) (f j)=false
 |0=>⟨Lk _,λj a=>by
  obtain rfl:j=0:=by lia
  rw[ltP_no];simp[P1]⟩
 |k+1=>by
  obtain⟨c,b⟩:=best_max f k;by_cases hb:ltP (f (P1 (λi j=>ltP (f j) (f i)) k)) (f (k+1))=true
  .rw[P1,if_pos hb];refine⟨Lk _,λj a=>?_⟩;rw[Fd]at hb;rcases NN j (k+1) with z |z
   .have:=ltP_no.mp (b j (by lia));rw[ltP_no];lia
   .obtain rfl:j=k+1:=by lia
    rw[ltP_no];lia
  .rw[P1,if_neg hb];refine⟨by lia,λj a=>?_⟩;rcases NN j (k+1) with z |z
   .exact b j (by lia)
   .obtain rfl:j=k+1:=by lia
    simpa using hb
end ST
namespace L2
open PySem PySem.Spec PyProof.Rows
section
variable {X:Cx}{pts:List P2}{M:P2}
theorem HL(I:Inv X XW σ H s)(j:aW ws its)(e:Rps X.K H ws (pts.map pu))(i)(y)(m:its.toArray[i]?=some y):
  i<pts.length/\∃c,y=.ref c/\ws[i]?=some (.ref c)/\∀a w,ST.TK a w s.heap [(pts.getD i (0,0)).1,(pts.getD i (0,0)).2] c:=by
 have f:its[i]?=some y:=by simpa using m
 have k:ws.length=pts.length:=by rw[e.len,Lg]
 have l:i<its.length:=aL f;have b:i<ws.length:=by rw[j.length];exact l
 have d:i<pts.length:=by lia
 obtain⟨u,h,g⟩:=j.get (Ld b);rw[f]at h;cases h;have r:=e.at_ i _ (pu (pts.getD i (0,0))) (Ld b) (by rw[Lq,Ld d];simp[d])
 obtain⟨c,rfl,t⟩:=G5 I r g;refine⟨d,c,rfl,?_,t⟩;rw[Ld b];generalize ws[i]=z at *;cases r;cases g;rfl
theorem Je(a:g<pts.length):(pts.map pu)[g]?=some (pu (pts.getD g (0,0))):=by
 rw[Lq,Ld a];simp[a]
theorem Hq(hc:X.calm=true)(hu:X.A.units+10<P6)(x:M∈pts)(T:∀q∈pts,ST.ltP M q=false):eF X (.builtin "max") [lp pts] (pu M):=by
 intro XW s σ H vs us Q I r p;obtain⟨O,d,F,q⟩:=p;obtain⟨v,rfl,U⟩:=cL F;obtain⟨p1,rfl,N⟩:=dW r;cases U with
 | @lst a Z _ p C P=>
  cases N;obtain⟨its,E,Y,_⟩:=I.list (SqL.of (aH _ _ p));have b:Rps X.K (hid H O) Z (pts.map pu):=⟨C,P⟩;have B:its.toArray.size=pts.length:=by rw[LV,<-E.length,C,Lg]
  have m:=HL (pts:=pts) I E (b.same aH);have hn:0<pts.length:=Nu x;refine ST.call_maxG (G:=λh=>∀(i:Nat) (y:Lw),its.toArray[i]?=some y->∃c,y=.ref c/\ST.TK X.prog X.w h [(pts.getD i (0,0)).1,(pts.getD i (0,0)).2] c) (bt:=λi j=>ST.ltP (pts.getD j (0,0)) (pts.getD i (0,0))) (I.ok.hd hc) Y.isList (by rw[B];exact hn) (λi j J vj s' Q' E' g hi f k=>?_) (λi y hy=>?_) (λh h' _ _ k2 i y hy=>?_) λy h' L hy R=>?_
  .obtain⟨c,rfl,t⟩:=g i J hi;obtain⟨c',rfl,t'⟩:=g j vj f;exact ST.gt_ptsR (show X.A.units+1<P6 by lia) t t' k
  .obtain⟨_,c,rfl,_,t⟩:=m i y hy;exact⟨c,rfl,t _ _⟩
  .obtain⟨_,c,rfl,_,t⟩:=m i y hy;obtain⟨o,items,n,S,z⟩:=t X.prog X.w;exact⟨c,rfl,o,items,n,k2 c o S,z⟩
  .obtain⟨l,c,rfl,V,t⟩:=m _ y hy;obtain⟨W,D⟩:=ST.best_max (λi=>pts.getD i (0,0)) (its.toArray.size-1)
   have e:pts.getD (P1 (λi j=>ST.ltP (pts.getD j (0,0)) (pts.getD i (0,0))) (its.toArray.size-1)) (0,0)=M:=by
    rw[B]at W D l |-;generalize P1 (λi j=>ST.ltP (pts.getD j (0,0)) (pts.getD i (0,0))) (pts.length-1)=g at *
    obtain⟨j,f⟩:=Mn.mp x;have u:=D j (by have:=aL f;lia);rw[show pts.getD j (0,0)=M by rw[LP,f];rfl]at u
    exact ST.ltP_one u (T _ (by simp[l]))
   refine⟨.ref c,H,I.kept (t':=L) R,rfl,q _ H (.refl H) ?_⟩;have z:=b.at_ _ _ _ V (Je l);rw[e]at z;exact z
variable {H0:Hp}{O0:List LX}{ps:PSt}{x:Str}{XY:Pos}{a b:Expr}{i j:Int}
theorem vq(a:Gl X x)(h:∃t,X.mg x=some (.int i t))(c:autoParam ((x==("__debug__":Str))=false) zR):Ev X H0 O0 ps (.Name x XY) (.int i):=by
 obtain⟨t,b⟩:=h;exact PE.mono (xF (v:=.int i) a b ⟨t,rfl⟩ c) λ_ H _ ⟨_,_,k⟩=>k _ H (.refl H) (.int i)
end
theorem Rps.rep{K:Le}(r:Rps K H vs xs):∀k,Rps K H (L7 k vs).flatten (L7 k xs).flatten
 |0=>.nil
 |k+1=>by
  rw[Nh,Nh,N7,N7];exact r.snoc (r.rep k)
section
variable {X:Cx}{H0:Hp}{O0:List LX}{ps:PSt}{a b:Expr}{XY:Pos}{xs:List U}{u:U}{k:Int}
theorem JX(h:Ev X H0 O0 ps a (.lst xs))(e:Ev X H0 O0 ps b (.int k))(l:-(2 ^ 63)<=k)(i:k<2 ^ 63)(n:xs.length*k.toNat<=sizeLine):EvN X H0 O0 ps (.BinOp a .Mult b XY) (L7 k.toNat xs).flatten:=
 PE.mono (uI Ih h e) λo H Q ⟨O,R,q⟩=>two R (λ_ _ _ z=>z) (λ_ _ _ z=>z) λv w r s _ g j=>by
  cases j;cases g with
  |lst m d f=>
   refine⟨_,_,_,rfl,rfl,aH _ _ m,l,i,by rw[d];exact n,λp c=>q p _ _ (s.trans (bj c _)) (s.free c) aK ?_⟩;exact (Rps.rep ⟨d,f⟩ _).same (bH (bj c _) c)
theorem uM{α:Type}(u:α):∀k,(L7 k [u]).flatten=L7 k u
 |0=>rfl
 |k+1=>by rw[Nh,N7,uM u k];rfl
theorem GQ(e:Ev X H0 O0 ps a (.lst [u]))(c:Ev X H0 O0 ps b (.int k))(d:-(2 ^ 63)<=k)(f:k<2 ^ 63)(g:k.toNat<=sizeLine):EvN X H0 O0 ps (.BinOp a .Mult b XY) (L7 k.toNat u):=by
 rw[<-uM];exact JX e c d f (by simpa using g)
end
theorem Rs.free{K:Le}{F H:Hp}{E O:List LX}{k:PSt}{B:St}{xs:List U}(n:Nat)(h:k[n]?=some (some (.own xs)))(R:Rs K F E k B H O):∃D,(∀b∈D,b∈O)/\Rs K F E (k.set n (some (.val (.lst xs)))) B H D:=by
 obtain⟨v,G,a,vs,rfl,ha,p,I,y⟩:=R.at_ n _ h;have c:∀b∈O.filter (λb=>decide (b≠a)),b∈O:=λb hb=>(Mr.mp hb).1;have keep:∀b∈O,b≠a->b∈O.filter (λb=>decide (b≠a)):=λb hb q=>Mr.mpr ⟨hb,by simpa using q⟩;have f:aU (hid H O) (hid H (O.filter (λb=>decide (b≠a)))):=a9 c;have W:a ∉ O.filter (λb=>decide (b≠a)):=λz=>by have:=(Mr.mp z).2;simp at this
 refine⟨O.filter (λb=>decide (b≠a)),c,R.same,λb hb=>keep b (R.old b hb) λe=>p (e ▸ hb),λb hb=>R.new b (c b hb),λb hb=>R.dom b (c b hb),by rw[R.len,Qd],λi s g=>?_,λi j Y Z b o m V J=>?_⟩
 .rcases b9 g with ⟨rfl,e⟩ |⟨q,g⟩
  .cases e;exact⟨.ref a,G,.lst (cW I W) (y.same f).len (y.same f).at_⟩
  .obtain⟨w,A,ok⟩:=R.at_ i s g;refine⟨w,A,?_⟩;cases s with
   |val u=>exact Rp.same f ok
   |own Y=>
    obtain⟨b,Q,rfl,hb,l,t,r⟩:=ok;refine⟨b,Q,rfl,keep b hb λe=>?_,l,t,r.same f⟩;subst e;exact q (R.inj n i _ _ b h g G A)
   |pin z u=>exact⟨ok.1,Rp.same f ok.2⟩
   |dsk w C b d XZ=>
    obtain⟨L,X,S,N,T,P,x,M⟩:=ok;exact⟨L,X,S,keep d N (λe=>by rw[e,I]at x;cases x),T,P,x,M.same f⟩
 .rcases b9 o with ⟨_,e⟩ |⟨_,o⟩
  .cases e
  .rcases b9 m with ⟨_,e⟩ |⟨_,m⟩
   .cases e
   .exact R.inj i j _ _ b o m V J
section
variable {X:Cx}{H0:Hp}{O0:List LX}{E:XK}{ps:PSt}{D:PD}{ss:List Od}{e:Expr}{xs:List U}{b:Bool}
theorem Id(n:Nat)(h:ps[n]?=some (some (.own xs)))(w:Ws X H0 O0 E ss D (ps.set n (some (.val (.lst xs))))):Ws X H0 O0 E ss D ps:=
 PSs.mono w λe d H a=>by
  obtain⟨L,O,R⟩:=a;obtain⟨c,_,b⟩:=R.free n h;exact⟨L,c,b⟩
end
section
variable {X:Cx}{ns:List Int}{M:Int}
theorem CC(K:X.calm=true)(c:M∈ns∧∀a∈ns,a≤M):eF X (.builtin "max") [.lst (ns.map U.int)] (.int M):=by
 intro S s P H W R Q I r h;obtain⟨O,d,y,q⟩:=h;obtain⟨v,rfl,F⟩:=cL y;obtain⟨V,rfl,C⟩:=dW r;cases F with
 | @lst a T _ h p D=>
  cases C;obtain⟨its,w,f,_⟩:=I.list (SqL.of (aH _ _ h));have l:its.length=ns.length:=by rw[<-w.length,p,Lg]
  have n:=oN (ns:=ns) w ⟨p,D⟩;have J:0<ns.length:=Nu c.1;refine call_max_walk (N5 f.isList ?_);have k:a<s.heap.objs.size:=by obtain⟨o,e,_⟩:=f.isList;exact Lx e
  refine⟨s.heap.objs.size,_,_,_,_,_,_,rfl,Walks.list (A:=X.A.in1) (I.ok.hd K) s.heap.objs.size a (L3 k) its.toArray,⟨⟨_,LC _ rfl,rfl,rfl⟩,f.isList.push _⟩,λb hb=>?_,by rw[LV,l];exact J,CmpOf.ints_gt (λi=>ns.getD i 0) n,λv Y B E L=>?_⟩
  .show b<(s.heap.push _).objs.size;rw[NS];rcases Ll.mp hb with z |z
   .rw[z];exact Mz _
   .rw[Lz.mp z];exact OD k
  .obtain⟨t,rfl⟩:=n _ _ E;obtain⟨N,u⟩:=argBest_gt (λi=>ns.getD i 0) (its.toArray.size-1)
   have e:ns.getD (P1 (λi j=>decide (ns.getD i 0 >ns.getD j 0)) (its.toArray.size-1)) 0=M:=by
    rw[LV,l]at N u |-;generalize P1 (λi j=>decide (ns.getD i 0 >ns.getD j 0)) (ns.length-1)=g at *
    have m:g<ns.length:=by lia
    obtain⟨j,G,ej⟩:=Nb c.1;have x:=u j (by lia);have Z:=c.2 ns[g] (MA m);simp only[LP,Ld m,Ld G,QC]at x |-;lia
   rw[e];refine⟨.int M,H,I.kept (t':=B) λb o e=>L b o ?_ (Lj _ e),⟨t,rfl⟩,q _ H (.refl H) (.int _)⟩;intro z;have:b=s.heap.objs.size:=by simpa using z
   exact absurd (Lx e) (by rw[this];exact Mh _)
end
end L2
namespace L2
open PySem PySem.Spec PySem.W PyProof.Rows
structure CZ(K:Le)(x X3:Str)(st:Od)(f:LX)(fd:Of)(D:LX):Prop where
 ex:∃(oc:Lw) (od:Option LX) (kV YM pm:Lw) (an:Option LX) (cdv ct:Lw) (ZQ:Array (Option Lw)),
  fd=N0 x X3 (bY st) (bm st) (ai st) (.ref D) kV YM pm an cdv ct/\K.lookup f=some ⟨oc,od,.func fd,ZQ⟩/\Rj K cdv X3=true
 kp:Nx K (.ref f)=true
theorem FS{K:Le}{x b:Str}{st:Od}{f D:LX}{j:Lw}{m g:Option LX}{n:Array (Option Lw)}{h i d a e:Lw}(l:K.lookup f=some ⟨j,m,.func (N0 x b (bY st) (bm st) (ai st) (.ref D) h i d g a e),n⟩)
  (c:Rj K a b=true) (k:Nx K (.ref f)=true):CZ K x b st f (N0 x b (bY st) (bm st) (ai st) (.ref D) h i d g a e) D:=⟨⟨j,m,h,i,d,g,a,e,n,rfl,l,c⟩,k⟩
section
variable {P:LJ}{w:Mp}{K:Le}{mg:Str→Option Lw}{base:OG}{N pn:List Str}{X3 nm:Str}{f D:LX}
theorem CZ.okF{x:Str}{st:Od}{e:Of}{k:Nat}{sp:Sp}(F:CZ K x X3 st f e D)(S:av N pn (ai st))(d:∀c H Q E,sp c H Q E->c.length=pn.length)
  (YF:∀(b:Lw) (A:ML) (a:List Env) (s:LB) (H:Hp) (c:List V) (Q:VK) (E:XK),cq k (A.deeper (SH X3 (ai st) s.heap.objs.size f b))->sp c H Q E->
   ∃t,PSs (nO (CXF P w) P w K mg base N X3 (ai st) f b A a s H E) (bm st) t/\t {nx:=λ_ j=>Q .non j,rt:=Q } (start N c) H):cj P w K mg base (CXF P w) (k+1) f e pn sp:=by
 obtain⟨o,u,kV,q,m,p,b,n,r,rfl,l,g⟩:=F.ex;exact GB l g S d λA a s H c Q E i h=>YF b A a s H c Q E i h
theorem AY{st:Od}{x:Of}{k:Nat}{t:List U->Out->Prop}(F:CZ K nm X3 st f x D)(S:av N pn (ai st))(p:∀c o,t c o->c.length=pn.length)
  (YF:∀(g:Lw) (A:ML) (b:List Env) (s:LB) (H:Hp) (E:XK) (O:List LX) (c:List U) (o:Out),cq k (A.deeper (SH X3 (ai st) s.heap.objs.size f g))->t c o->
   Ws (nO (CXF P w) P w K mg base N X3 (ai st) f g A b s H E) H O E (bm st) ⟨λ_=>o=.val .non,λu=>u=o,λ_=>False,λ_=>False⟩ (gG N c)):cj P w K mg base (CXF P w) (k+1) f x pn (spU K t):=by
 refine F.okF S (λG H Q E h=>?_) λg A b s H G Q E B h=>?_
 .obtain⟨c,O,o,_,r,n,_⟩:=h;rw[r.len];exact p c o n
 .obtain⟨c,O,o,d,r,n,q⟩:=h;refine⟨_,YF g A b s H E O c o B n,⟨λI J C T R e=>?_,λ_ _ _ _ _ e=>e.elim,λ_ _ _ _ _ e=>e.elim,λu e=>by subst e;exact q⟩,O,?_⟩
  .subst e;exact q .non C R.same .non
  .refine⟨.refl H,λa h=>h,λa h=>.inl h,d,?_,λi M e=>?_,λi j L W a m V _ _=>?_⟩
   .unfold start gG;rw[LG,LG,Lg,Lg,NL,NL,r.len]
   .unfold gG at e;by_cases l:i<c.length
    .rw[LO (by simpa using l),Lq,Ld l]at e
     cases e;obtain⟨v,z,y⟩:=r.get (Ld l);refine⟨v,?_,y⟩;unfold start;rw[LO (by simpa [r.len] using l),Lq,z];rfl
    .rw[LS (by simpa using l),Nn]at e
     split at e <;>cases e
   .exfalso
    unfold gG at m;by_cases l:i<c.length
    .rw[LO (by simpa using l),Lq,Ld l]at m
     cases m
    .rw[LS (by simpa using l),Nn]at m
     split at m <;>cases m
end
section
variable {X:Cx}{H0:Hp}{O0:List LX}{ps:PSt}{e:Expr}{es:List Expr}{XY p:Pos}{u:U}{us:List U}{xs:List U}{CX:CXT}{n:Nat}{f:LX}{fd:Of}{pn:List Str}{X5:List U→Out→Prop}{nm:Str}{j:Int}
theorem EH(F:cj X.prog X.w X.K X.mg X.base CX n f fd pn (spU X.K X5))(m:cq n X.A)(k:Gl X nm)(o:X.mg nm=some (.ref f))(r:Nx X.K (.ref f)=true)(a:∃t,cm X.K fd pn [.int j t])(l:di CX X E0)
  (ha:EvA X H0 O0 ps (e::es) us) (h:X5 (us++[.int j]) (.val u)) (YC:autoParam ((nm==("__debug__":Str))=false) zR) (he:autoParam (Lr (e::es) X.env=(false,N4 e X.env)::Lr es X.env) zM) (Yq:autoParam ((NT XY (Lr es X.env)).any (·.1)=false) zM):
  Ev X H0 O0 ps (.Call (.Name nm p) (e::es) [] XY) u:=by
 obtain⟨t,a⟩:=a;refine PE.mono (jV F m k o r a (.cons (show aS (.int j) (.int j t) from ⟨t,rfl⟩) .nil) l ha YC he Yq) λy H Q ⟨O,R,q⟩=>⟨O,R,λx s b d=>?_⟩
 show spU X.K X5 (x++[.int j]) s Q _;exact⟨us++[.int j],O,.val u,(R.go b).dom,d.snoc (.cons (.int _) .nil),h,λv c i g=>q v c (b.trans i) g⟩
end
end L2
namespace TS
open PySem PyProof.Rows
def sK:Bool->MU->Array MU->Nat->Nat->Nat->StateT OA Sem (Option Nat):=sortPriv% PySem.Builtin.gallop
section
variable {prog:LJ}{w:Mp}{A:ML}{E:Lw→LB→Prop}{s:LB}
def gt(a:Array MU)(i:Nat):MU:=a.getD i (Q6,Q6)
theorem gt_eq(h:i<a.toList.length):gt a i=a.toList[i]:=by
 have b:i<a.size:=by simpa using h
 simp[gt,Qp,b]
theorem b8(h:i<a.size):gt a i∈a.toList:=by rw[gt_eq (by simpa using h)];exact MA _
theorem el{st:OA}(b:i<a.size)(h:Q (gt a i) st):wpS (L6 prog w) A E s (elem' a i) Q st:=by
 rw[elem'_eq,MQ b];refine LU ?_;rw[gt_eq (by simpa using b)]at h
 simpa using h
variable {M:Model}{σ:Type}
theorem wif{α:Type}[Decidable c]{x y:StateT σ Sem α}{Q:α->σ->Prop}{st:σ}(h:c->wpS M A E s x Q st)(k:¬ c->wpS M A E s y Q st):wpS M A E s (if c then x else y) Q st:=by
 by_cases e:c
 .rw[if_pos e];exact h e
 .rw[if_neg e];exact k e
theorem md1(h:¬ p ≥ r):(p+r)/2<r:=by lia
theorem md2(h:¬ p ≥ r):p<=(p+r)/2:=by lia
theorem md3(m:r+x<=k+p)(h:q<r):q+(x+1)<=k+p:=LN (by rw[<-PX,Nat.add_right_comm];exact Nat.add_le_add_right h x) m
theorem md4(m:r+x<=k+p)(h:p<=q):r+(x+1)<=k+(q+1):=V0 (LN m (MZ h k))
theorem md5{lo a:Nat}(h:¬ lo ≥ a):lo+(a-lo)/2<a:=by lia
theorem md6(h:p<=r)(m:r+max 0 k<=k+p):p=r:=OP h (by rw[Xi,Ua]at m;exact Nat.le_of_add_le_add_left m)
theorem md7{h p n o:Nat}(a:p<=n)(b:h<n)(c:n-h<=o):p<=h+min o (n-h):=by rw[QD c,Mx (Lu b)];exact a
theorem gal{st:OA}{f:Nat->Bool}(B:hint<n)
  (Zl:∀i,i<n->base+i<arr.size)
  (hT:left=true->∀i (Q:Option Bool->OA->Prop),i<n->Q (some (f i)) st->wpS (L6 prog w) A E s (lt' (gt arr (base+i)) key) Q st)
  (hF:left=false->∀i (Q:Option Bool->OA->Prop),i<n->Q (some (!f i)) st->wpS (L6 prog w) A E s (lt' key (gt arr (base+i))) Q st)
  (hp:p<=n) (hf:∀i,i<n->(f i=true↔i<p)) (h:Q (some p) st):wpS (L6 prog w) A E s (sK left key arr base n hint) Q st:=by
 have hb:∀{i}{Q},i<n->Q (some (f i)) st->wpS (L6 prog w) A E s (do
   let x <-elem' arr (base+i)
   if left then lt' x key else return (<-lt' key x).map (!·)) Q st:=λ{i Q} m J=>by
  refine LI (el (Zl _ m) ?_);cases left with
  |true=>exact hT rfl _ _ m J
  |false=>exact LI (hF rfl _ _ m (LU (by simpa using J)))
 refine LI (hb B ?_)
 extract_lets+onlyGivenNames j
 have G:∀a b l m,l<=p->p<=m->m<=n->wpS (L6 prog w) A E s (j () a b l m) Q st:=λ_ _ l m M L F=>by
  refine LI (Rn (OB (I:=λx c st2=>st2=st/\∃l m,c=(none,l,m)/\l<=p/\p<=m/\m<=n/\m+x<=n+l) (Q:=λc st2=>st2=st/\∃l,c=(none,l,p)) ?_ ?_ ⟨rfl,_,_,rfl,M,L,F,LN F (L5 _ _)⟩) ?_)
  .rintro x c _ _ K ⟨rfl,l,m,rfl,r,o,k,t⟩;refine wif (λy=>LU ⟨rfl,l,by rw[OP (LN y r) o]⟩) λy=>?_;have H:=md5 y;have q:=Lp H k;refine LI (hb q (wif (λg=>?_) λg=>?_))
   .have:=(hf _ q).mp g;exact LU ⟨rfl,_,_,rfl,this,o,k,md4 t (L5 _ _)⟩
   .have:¬ l+(m-l)/2<p:=λz=>g ((hf _ q).mpr z);exact LU ⟨rfl,_,_,rfl,r,N1 this,Lu q,md3 t H⟩
  .rintro c _ ⟨rfl,l,m,rfl,r,o,k,t⟩;exact⟨rfl,l,by rw[OP (LN (Ox (md6 (LN r o) t).symm) r) o]⟩
  .rintro c _ ⟨rfl,l,rfl⟩;exact LU h
 refine wif (λC=>?_) λC=>?_
 .have D:=(hf hint B).mp C;refine LI (Rn (OB (I:=λx c v=>v=st/\∃e d,c=(none,e,d)/\x+1<=d/\e<d/\hint+e<p) (Q:=λc v=>v=st/\∃e d,c=(none,e,d)/\e<d/\hint+e<p/\p<=hint+min d (n-hint)) ?_ ?_ ⟨rfl,0,1,rfl,Lk _,by lia,by lia⟩) ?_)
  .rintro x c _ _ K ⟨rfl,e,d,rfl,r,o,k⟩;refine wif (λu=>LU ⟨rfl,e,d,rfl,o,k,md7 hp B u⟩) λu=>?_;have u:¬ d ≥ n-hint:=u;have q:hint+d<n:=by lia
   dsimp only;refine LI (hb q (wif (λg=>?_) λg=>?_))
   .have:¬ hint+d<p:=λz=>by simp[(hf _ q).mpr z]at g
    exact LU ⟨rfl,e,d,rfl,o,k,by lia⟩
   .have:=(hf _ q).mp (by simpa using g);exact LU ⟨rfl,_,_,rfl,by lia,by lia,this⟩
  .rintro c _ ⟨rfl,e,d,rfl,r,o,k⟩;exact⟨rfl,e,d,rfl,o,k,by lia⟩
  rintro c _ ⟨rfl,e,d,rfl,r,o,k⟩;exact G 0 0 (hint+e+1) (hint+min d (n-hint)) (by lia) k (by lia)
 .have D:¬ hint<p:=λz=>C ((hf hint B).mpr z);refine LI (Rn (OB (I:=λx c v=>v=st/\∃e d,c=(none,e,d)/\x+1<=d/\e<d/\e<=hint/\p<=hint-e) (Q:=λc v=>v=st/\∃e d,c=(none,e,d)/\e<=hint/\p<=hint-e/\hint+1-min d (hint+1)<=p) ?_ ?_ ⟨rfl,0,1,rfl,Lk _,by lia,by lia,by lia⟩) ?_)
  .rintro x c _ _ K ⟨rfl,e,d,rfl,r,o,k,t⟩;refine wif (λ(u:d ≥ hint+1)=>LU ⟨rfl,e,d,rfl,k,t,by lia⟩) λu=>?_;have u:¬ d ≥ hint+1:=u;have q:hint-d<n:=by lia
   dsimp only;refine LI (hb q (wif (λg=>?_) λg=>?_))
   .have:=(hf _ q).mp g;exact LU ⟨rfl,e,d,rfl,k,t,by lia⟩
   .have:¬ hint-d<p:=λz=>g ((hf _ q).mpr z);exact LU ⟨rfl,_,_,rfl,by lia,by lia,by lia,by lia⟩
  .rintro c _ ⟨rfl,e,d,rfl,r,o,k,t⟩;exact⟨rfl,e,d,rfl,k,t,by lia⟩
  rintro c _ ⟨rfl,e,d,rfl,r,o,k⟩;exact G 0 0 (hint+1-min d (hint+1)) (hint-e) k o (by lia)
end
def pK:Nat->StateT OA Sem Unit:=sortPriv% PySem.Builtin.setMinGallop
abbrev iO(st:OA)(g:Nat):OA:=SortSt.mk' (kindOf st) (Mi st) (Pe st) g (RV st)
def Dc:Array MU->Array MU->StateT OA Sem (Array MU):=sortPriv% PySem.Builtin.mergeLo
section
variable {α:Type}{R:α→α→Bool}{A B out:List α}{ia ib:Nat}
structure MI(R:α->α->Bool)(A B out:List α)(ia ib:Nat):Prop where
 perm:out.Perm (A.take ia++B.take ib)
 srt:out.Pairwise λx y=>R x y=true
 lA:∀x∈out,∀y∈A.drop ia,R x y=true
 lB:∀x∈out,∀y∈B.drop ib,R x y=true
structure MO(R:α->α->Bool)(A B:List α):Prop where
 tr:∀x y z,R x y=true->R y z=true->R x z=true
 sA:A.Pairwise λx y=>R x y=true
 sB:B.Pairwise λx y=>R x y=true
 tot:∀x∈A,∀y∈B,R y x=false->R x y=true
theorem st1(h:0<n)(k:x+1+y+n+m<=s):x+2+(n-1)+m<=s:=by lia
theorem st2(h:0<n)(k:x+1+y+n+m<=s):x+1+(y+1)+(n-1)+m<=s:=by lia
theorem st3(h:0<m)(k:x+1+y+n+m<=s):x+2+n+(m-1)<=s:=by lia
theorem st4(h:0<m)(k:x+1+y+n+m<=s):x+1+(y+1)+n+(m-1)<=s:=by lia
theorem st5(h:0<n)(b:n<=n')(a:m<m')(k:x+2+y+n'+m'<=s):x+2+(y+1)+(n-1)+m<=s:=by lia
theorem st6(k:x+2+(y+1)+n+m<=s):x+2+n+m<=s:=by lia
theorem bq{n m:Nat}(h:(n==m)=true):n=m:=eq_of_beq h
theorem bn{n m:Nat}(h:¬ (n==m)=true):n≠m:=λe=>h (beq_iff_eq.mpr e)
theorem lt2(h:0<n)(k:n≠1):1<n:=MR h k.symm
theorem lS1(h:i+1<n):i+(n-i)<=n:=Ox (Mx (Lu (Mg h)))
theorem lS2(h:i+1<n):0<n-i:=Qs (Mg h)
theorem lS3{i n k:Nat}(_:i+1<n)(h:k<n-i):i+k<n:=Qj h
theorem lS4(h:x+2+y<=i+n)(b:i<=i')(a:n<n'):x+2+(y+1)<=i'+1+n':=by lia
theorem lS5(h:x+2+y<=i+n)(b:i<=i')(a:n<n'):x+2<=i'+1+n':=by lia
theorem lS6(h:i+1<n)(a:k<=n-(i+1)):i+1+k<=n:=Ur (Lu h) a
theorem lS7(h:i+1<n)(a:k<=n-i):i+k<=n:=Ur (Lu (Mg h)) a
theorem lT1(h:x+1+y<=i+j):x+2<=i+(j+1):=by lia
theorem lT2(h:x+1+y<=i+j):x+1+(y+1)<=i+(j+1):=V0 h
theorem lT3(h:x+1+y<=i+j):x+2<=i+1+j:=by lia
theorem lT4(h:x+1+y<=i+j):x+1+(y+1)<=i+1+j:=by lia
theorem lS8(h:i<=n)(b:i+1≠n)(a:i≠n):i+1<n:=MR (MR h a) b
theorem gC(b:∀x y z,R x y=true->R y z=true->R x z=true){L:List α}(c:L.Pairwise λx y=>R x y=true)(a:i<L.length)(h:R x L[i]=true):∀y∈L.drop i,R x y=true:=λy hy=>by
 rw[L8 a]at hy;rcases Ll.mp hy with e |e
 .rw[e];exact h
 .have:=(MG.mp (by rw[<-L8 a];exact c.sublist (PH i L))).1 y e;exact b _ _ _ h this
theorem pW{L:List α}(a:L.Pairwise λx y=>R x y=true)(b:i<L.length):∀y∈L.drop (i+1),R L[i] y=true:=λy hy=>
 (MG.mp (by rw[<-L8 b];exact a.sublist (PH i L))).1 y hy
theorem ju{L:List α}(h:y∈L.drop (i+1)):y∈L.drop i:=by
 rw[<-WK]at h;exact Ot h
theorem ic{L:List α}(a:i<L.length):L[i]∈L.drop i:=by rw[L8 a];exact Lo
theorem MI.pushA(O:MO R A B)(I:MI R A B out ia ib)(b:ia<A.length)(h:∀y∈B.drop ib,R A[ia] y=true):MI R A B (out++[A[ia]]) (ia+1) ib where
 perm:=by
  rw[Pp b];refine (I.perm.append_right _).trans ?_;rw[LH,LH];exact Pb _ Qk
 srt:=MT.mpr ⟨I.srt,by simp,λx a y hy=>by rw[Lz.mp hy];exact I.lA x a _ (ic b)⟩
 lA:=λx a y hy=>by
  rcases Mm.mp a with e |e
  .exact I.lA x e y (ju hy)
  .rw[Lz.mp e];exact pW O.sA b y hy
 lB:=λx a y hy=>by
  rcases Mm.mp a with e |e
  .exact I.lB x e y hy
  .rw[Lz.mp e];exact h y hy
theorem MI.pushB(O:MO R A B)(I:MI R A B out ia ib)(b:ib<B.length)(h:∀y∈A.drop ia,R B[ib] y=true):MI R A B (out++[B[ib]]) ia (ib+1) where
 perm:=by
  rw[Pp b,<-LH];exact I.perm.append_right _
 srt:=MT.mpr ⟨I.srt,by simp,λx a y hy=>by rw[Lz.mp hy];exact I.lB x a _ (ic b)⟩
 lA:=λx a y hy=>by
  rcases Mm.mp a with e |e
  .exact I.lA x e y hy
  .rw[Lz.mp e];exact h y hy
 lB:=λx a y hy=>by
  rcases Mm.mp a with e |e
  .exact I.lB x e y (ju hy)
  .rw[Lz.mp e];exact pW O.sB b y hy
theorem MI.runA(O:MO R A B)(a:ib<B.length):∀k {out}{ia},MI R A B out ia ib->ia+k<=A.length->(∀i (h:ia+i<A.length),i<k->R A[ia+i] B[ib]=true)->MI R A B (out++(A.drop ia).take k) (ia+k) ib
 |0,out,ia,I,_,_=>by simpa using I
 |k+1,out,ia,I,f,h=>by
  have hi:ia<A.length:=by lia
  have c:=I.pushA O hi (gC O.tr O.sB a (h 0 (by lia) (by lia)))
  have:=MI.runA O a k c (by lia) (λi d b=>by
   have:=h (i+1) (by lia) (by lia);have e:A[ia+1+i]=A[ia+(i+1)]'(by lia):=by congr 1;lia
   rw[e];exact this)
  rw[L8 hi,NJ];rw[LH,show ia+1+k=ia+(k+1) by lia]at this
  exact this
theorem MI.runB(O:MO R A B)(a:ia<A.length):∀k {out}{ib},MI R A B out ia ib->ib+k<=B.length->(∀i (h:ib+i<B.length),i<k->R B[ib+i] A[ia]=true)->MI R A B (out++(B.drop ib).take k) ia (ib+k)
 |0,out,ib,I,_,_=>by simpa using I
 |k+1,out,ib,I,f,h=>by
  have hi:ib<B.length:=by lia
  have c:=I.pushB O hi (gC O.tr O.sA a (h 0 (by lia) (by lia)))
  have:=MI.runB O a k c (by lia) (λi d b=>by
   have:=h (i+1) (by lia) (by lia);have e:B[ib+1+i]=B[ib+(i+1)]'(by lia):=by congr 1;lia
   rw[e];exact this)
  rw[L8 hi,NJ];rw[LH,show ib+1+k=ib+(k+1) by lia]at this
  exact this
def Mgd(R:α->α->Bool)(A B r:List α):Prop:=r.Perm (A++B)/\r.Pairwise λx y=>R x y=true
theorem MI.perm_all(I:MI R A B out ia ib):(out++A.drop ia++B.drop ib).Perm (A++B):=by
 have h:(out++A.drop ia++B.drop ib).Perm ((A.take ia++B.take ib)++A.drop ia++B.drop ib):=(I.perm.append_right _).append_right _;refine h.trans ?_;have e:A++B=(A.take ia++A.drop ia)++(B.take ib++B.drop ib):=by rw[Mb,Mb]
 rw[e,LH,LH,LH];refine Pb _ ?_;rw[<-LH,<-LH];exact TU _ Qk
theorem MI.doneB(O:MO R A B)(I:MI R A B out ia ib)(h:ib=B.length):Mgd R A B (out++A.drop ia++B.drop ib):=by
 refine⟨I.perm_all,?_⟩;rw[h,QF,Ny];exact MT.mpr ⟨I.srt,O.sA.sublist (PH _ _),I.lA⟩
theorem MI.doneA(O:MO R A B)(I:MI R A B out ia ib)(h:ia=A.length):Mgd R A B (out++A.drop ia++B.drop ib):=by
 refine⟨I.perm_all,?_⟩;rw[h,QF,Ny];exact MT.mpr ⟨I.srt,O.sB.sublist (PH _ _),I.lB⟩
theorem MI.last(O:MO R A B)(I:MI R A B out ia ib)(h:ia+1=A.length)(a:∀y∈B,R y (A[ia]'(by lia))=true):Mgd R A B (out++B.drop ib++A.drop ia):=by
 refine⟨?_,?_⟩
 .refine Wp ?_ I.perm_all;rw[LH,LH];exact Pb _ Qk
 .have e:A.drop ia=[A[ia]'(by lia)]:=by rw[L8 (by lia),List.drop_of_length_le (by lia)]
  rw[e];refine MT.mpr ⟨MT.mpr ⟨I.srt,O.sB.sublist (PH _ _),I.lB⟩,by simp,λx b y hy=>?_⟩;rw[Lz.mp hy];rcases Mm.mp b with z |z
  .exact I.lA x z _ (by rw[e];simp)
  .exact a x (Ot z)
end
section
variable {M:Model}{A:ML}{E:Lw→LB→Prop}{s:LB}{σ:Type}
theorem J7{d:Type}{f:Nat->d->StateT σ Sem (ForInStep d)}(I:Nat->d->σ->Prop){Q:d->σ->Prop}
  (hstep:∀i c a,i<n->I i c a->∀b,(∀c e,Q c e->b (.done c) e)->(∀c e,I (i+1) c e->b (.yield c) e)->wpS M A E s (f i c) b a)
  (hend:∀c a,I n c a->Q c a) {c:d}{a:σ} (h:I 0 c a):wpS M A E s (forIn [0:n] c f) Q a:=
 OB I (λi c a _ j g=>hstep i c a j g _ (λ_ _ h=>h) (λ_ _ h=>h)) (λc a h=>hend c a (by rwa [Xi]at h)) h
variable {prog:LJ}{w:Mp}
theorem ru{st:OA}(h:Q () st):wpS (L6 prog w) A E s (liftM (rule x)) Q st:=wpS_lift (RY ⟨rfl,h⟩)
def Asks(prog:LJ)(w:Mp)(A:ML)(E:Lw->LB->Prop)(s:LB)(b:Ro)(P:MU->Prop)(R:MU->MU->Bool):Prop:=
 ∀x y a (Q:Option Bool->OA->Prop),P x->P y->kindOf a=b->Q (some (R x y)) a->wpS (L6 prog w) A E s (lt' x y) Q a
theorem yq(q:Nat->Bool)(b:∀i j,i<j->j<n->q j=true->q i=true):∃k,k<=n/\(∀i,i<k->q i=true)/\∀i,k<=i->i<n->q i=false:=by
 have go:∀m,m<=n->(∀i,m<=i->i<n->q i=false)->∃k,k<=n/\(∀i,i<k->q i=true)/\∀i,k<=i->i<n->q i=false:=by
  intro m
  induction m with
  |zero=>intro _ c;exact⟨0,Mu _,λi h=>by lia,c⟩
  |succ m e=>
   intro g c;by_cases d:q m=true
   .refine⟨m+1,g,λi a=>?_,c⟩;rcases LY (Mt a) with z |z
    .exact b i m z (by lia) d
    .subst z;exact d
   .refine e (by lia) λi a f=>?_;rcases LY a with z |z
    .exact c i z f
    .subst z;simpa using d
 exact go n (Lk _) λi l o=>by lia
variable {κ:Ro}{P:MU→Prop}{R:MU→MU→Bool} (K:Asks prog w A E s κ P R)
include K
theorem HZ{st:OA}(v:kindOf st=κ)(F:ib+n<=b.size)(m:hint<n)(l:P key)(u:∀i,i<n->P (gt b (ib+i)))(C:∀x y z,R x y=true->R y z=true->R x z=true)(o:∀i j,i<j->j<n->R (gt b (ib+i)) (gt b (ib+j))=true)
  (h:∀k,k<=n->(∀i,i<k->R (gt b (ib+i)) key=true)->(∀i,k<=i->i<n->R (gt b (ib+i)) key=false)->Q (some k) st):wpS (L6 prog w) A E s (sK true key b ib n hint) Q st:=by
 obtain⟨k,e,c,g⟩:=yq (n:=n) (λi=>R (gt b (ib+i)) key) λi j r q t=>C _ _ _ (o i j r q) t;refine gal (f:=λi=>R (gt b (ib+i)) key) (p:=k) m (λi a=>by lia) (λ_ i D a B=>K _ _ _ _ (u i a) l v B) (λz=>by cases z) e (λi a=>?_) (h k e c g)
 .constructor
  .intro d;rcases NN i k with z |z
   .exact z
   .rw[g i z a]at d;cases d
  .intro z;exact c i z
theorem Hk{st:OA}(v:kindOf st=κ)(F:ib+n<=b.size)(r:hint<n)(q:P key)(u:∀i,i<n->P (gt b (ib+i)))(C:∀x y z,R x y=true->R y z=true->R x z=true)(t:∀i j,i<j->j<n->R (gt b (ib+i)) (gt b (ib+j))=true)
  (h:∀k,k<=n->(∀i,i<k->R key (gt b (ib+i))=false)->(∀i,k<=i->i<n->R key (gt b (ib+i))=true)->Q (some k) st):wpS (L6 prog w) A E s (sK false key b ib n hint) Q st:=by
 obtain⟨k,m,g,o⟩:=yq (n:=n) (λi=>!R key (gt b (ib+i))) λi j d c e=>by
  rw[VA]at e |-;cases hc:R key (gt b (ib+i)) with
  |false=>rfl
  |true=>rw[C _ _ _ hc (t i j d c)]at e;cases e
 refine gal (f:=λi=>!R key (gt b (ib+i))) (p:=k) r (λi a=>by lia) (λz=>by cases z) (λ_ i D a B=>K _ _ _ _ q (u i a) v (by simpa using B)) m (λi a=>?_) (h k m (λi a=>by simpa using g i a) λi d c=>by simpa using o i d c)
 .constructor
  .intro l;rcases NN i k with z |z
   .exact z
   .have:=o i z a;rw[this]at l;cases l
  .intro z;exact g i z
omit K in
theorem kY(a:Array MU)(i:Nat):(a.extract i a.size).toList=a.toList.drop i:=by simp[Mf]
omit K in
theorem ja(a:Array MU)(i k:Nat):(a.extract i (i+k)).toList=(a.toList.drop i).take k:=by simp
omit K in
theorem sg{g:Nat}{st:OA}{Q:Unit->OA->Prop}(h:Q () (iO st g)):wpS (L6 prog w) A E s (pK g) Q st:=Re h
omit K in
theorem loop{st:OA}{k v:Type}{f:Nat->k->StateT OA Sem (ForInStep k)}{Q:k->OA->Prop}(e:Array MU->Nat->Nat->Nat->Nat->Nat->k)(q:Array MU->v->k)(G:Array MU->Prop)(J:Nat->Array MU->Nat->Nat->Prop)(p:Array MU->Nat->Nat->Prop)
  (hs:∀x g o i j m a b,J x o i j->∀d,(∀g r t,G r->d (.done (q r t)) (iO st g))->(∀g o i j m a b,p o i j->d (.done (e o i j m a b)) (iO st g))->(∀g o i j m a b,J (x+1) o i j->d (.yield (e o i j m a b)) (iO st g))->wpS (L6 prog w) A E s (f x (e o i j m a b)) d (iO st g))
  (he:∀o i j,¬ J n o i j) (h0:J 0 o i j) (hr:∀g r t,G r->Q (q r t) (iO st g)) (hb:∀g o i j m a b,p o i j->Q (e o i j m a b) (iO st g)):wpS (L6 prog w) A E s (forIn [0:n] (e o i j m a b) f) Q (iO st g):=by
 refine J7 (I:=λx c l=>∃g o i j m a b,l=iO st g/\c=e o i j m a b/\J x o i j) (λx c l _ h d u y=>?_) (λc l h=>?_) ⟨g,o,i,j,m,a,b,rfl,rfl,h0⟩
 .obtain⟨g,o,i,j,m,a,b,rfl,rfl,h⟩:=h;exact hs x g o i j m a b h d (λg r t z=>u _ _ (hr g r t z)) (λg o i j m a b z=>u _ _ (hb g o i j m a b z)) λg o i j m a b z=>y _ _ ⟨g,o,i,j,m,a,b,rfl,rfl,z⟩
 .obtain⟨g,o,i,j,m,a,b,rfl,rfl,h⟩:=h;exact (he o i j h).elim
theorem mlo{st:OA}(O:MO R a.toList b.toList)(pa:∀x∈a.toList,P x)(pb:∀x∈b.toList,P x)(ha:0<a.size)(Y:0<b.size)(h0:R (gt b 0) (gt a 0)=true)(hl:∀y∈b.toList,R y (gt a (a.size-1))=true)(hk:kindOf st=κ)
  (h:∀r g,Mgd R a.toList b.toList r.toList->Q r (iO st g)):wpS (L6 prog w) A E s (Dc a b) Q st:=by
 have la:a.toList.length=a.size:=by simp
 have lb:b.toList.length=b.size:=by simp
 have S:∀{out:Array MU}{d c:Nat},MI R a.toList b.toList out.toList d c->c=b.size->Mgd R a.toList b.toList (out++a.extract d a.size++b.extract c b.size).toList:=λ{out d c} I e=>by
  rw[Mj,Mj,kY,kY];exact I.doneB O (by lia)
 have N:∀{out:Array MU}{d c:Nat},MI R a.toList b.toList out.toList d c->d+1=a.size->Mgd R a.toList b.toList (out++b.extract c b.size++a.extract d a.size).toList:=λ{out d c} I e=>by
  rw[Mj,Mj,kY,kY];refine I.last O (by lia) λy hy=>?_;have:=hl y hy;rw[show a.size-1=d by lia,gt_eq (by lia)]at this
  exact this
 have U:∀{out:Array MU}{d c:Nat},MI R a.toList b.toList out.toList d c->d<a.size->c<b.size->R (gt b c) (gt a d)=false->MI R a.toList b.toList (out.push (gt a d)).toList (d+1) c:=λ{out d c} I H M f=>by
  rw[OE,gt_eq (show d<a.toList.length by lia)];refine I.pushA O (by lia) (gC O.tr O.sB (show c<b.toList.length by lia) ?_);rw[gt_eq (show c<b.toList.length by lia),gt_eq (show d<a.toList.length by lia)]at f
  exact O.tot _ (MA _) _ (MA _) f
 have T:∀{out:Array MU}{d c:Nat},MI R a.toList b.toList out.toList d c->d<a.size->c<b.size->R (gt b c) (gt a d)=true->MI R a.toList b.toList (out.push (gt b c)).toList d (c+1):=λ{out d c} I H M f=>by
  rw[OE,gt_eq (show c<b.toList.length by lia)];refine I.pushB O (by lia) (gC O.tr O.sA (show d<a.toList.length by lia) ?_);rw[gt_eq (show c<b.toList.length by lia),gt_eq (show d<a.toList.length by lia)]at f
  exact f
 have sa:∀{d n:Nat},d+n<=a.size->∀i j,i<j->j<n->R (gt a (d+i)) (gt a (d+j))=true:=λ{d n} hn i j H M=>by
  rw[gt_eq (show d+i<a.toList.length by lia),gt_eq (show d+j<a.toList.length by lia)];exact LD.mp O.sA _ _ _ _ (by lia)
 have sb:∀{c n:Nat},c+n<=b.size->∀i j,i<j->j<n->R (gt b (c+i)) (gt b (c+j))=true:=λ{c n} hn i j H M=>by
  rw[gt_eq (show c+i<b.toList.length by lia),gt_eq (show c+j<b.toList.length by lia)];exact LD.mp O.sB _ _ _ _ (by lia)
 have dA:∀{out:Array MU}{d c:Nat},MI R a.toList b.toList out.toList d c->d=a.size->Mgd R a.toList b.toList (out++a.extract d a.size++b.extract c b.size).toList:=λ{out d c} I e=>by
  rw[Mj,Mj,kY,kY];exact I.doneA O (by lia)
 have rA:∀{out:Array MU}{d c k:Nat},MI R a.toList b.toList out.toList d c->c<b.size->d+k<=a.size->(∀i,i<k->R (gt b c) (gt a (d+i))=false)->MI R a.toList b.toList (out++a.extract d (d+k)).toList (d+k) c:=λ{out d c k} I M H f=>by
  rw[Mj,ja];refine I.runA O (show c<b.toList.length by lia) k (by lia) λi h C=>?_;have:=f i C;rw[gt_eq (show c<b.toList.length by lia),gt_eq h]at this
  exact O.tot _ (MA _) _ (MA _) this
 have rB:∀{out:Array MU}{d c k:Nat},MI R a.toList b.toList out.toList d c->d<a.size->c+k<=b.size->(∀i,i<k->R (gt b (c+i)) (gt a d)=true)->MI R a.toList b.toList (out++b.extract c (c+k)).toList d (c+k):=λ{out d c k} I M H f=>by
  rw[Mj,ja];refine I.runB O (show d<a.toList.length by lia) k (by lia) λi h C=>?_;have:=f i C;rw[gt_eq (show d<a.toList.length by lia),gt_eq h]at this
  exact this
 have start:MI R a.toList b.toList (#[gt b 0]:Array MU).toList 0 1:=by
  have e:(#[gt b 0]:Array MU)=(#[]:Array MU).push (gt b 0):=rfl;rw[e];exact T ⟨by simp,by simp,by simp,by simp⟩ ha Y h0
 refine LI (ru (LI (el Y ?_)))
 try dsimp -zeta only
 refine wif (λe1=>LU (h _ (Tc st) (S start (bq e1)))) λe1=>?_;refine wif (λe2=>LU (h _ (Tc st) (N start (bq e2)))) λe2=>LI (Sy ?_)
 try dsimp -zeta only
 refine LI (loop (st:=st) (g:=Tc st) (m:=Tc st) (a:=0) (b:=0) (λo i j m _ _=>(none,o,i,j,m)) (λr t=>(some r,t)) (λr=>Mgd R a.toList b.toList r.toList) (λx o i j=>(MI R a.toList b.toList o.toList i j/\i+1<a.size/\j<b.size)/\x+1<=i+j) (λ_ _ _=>False) ?step (λo i j z=>Nat.not_le_of_lt (Nat.add_lt_add (Mg z.1.2.1) z.1.2.2) (Nat.le_of_succ_le z.2)) ⟨⟨start,MR ha (bn e2),MR Y (bn e1)⟩,Lk _⟩ (λg r t z=>LU (h r g z)) λ_ _ _ _ _ _ _ z=>z.elim)
 case step=>
  intro x g out d c mg _ _ z post pd _ py;refine LI (loop (a:=0) (b:=0) (m:=0) (λo i j _ m k=>(none,o,i,j,m,k)) (λr t=>(some r,t)) (λr=>Mgd R a.toList b.toList r.toList) (λy o i j=>(MI R a.toList b.toList o.toList i j/\i+1<a.size/\j<b.size)/\x+1+y<=i+j) (λo i j=>(MI R a.toList b.toList o.toList i j/\i+1<a.size/\j<b.size)/\x+2<=i+j) ?s2 (λo i j z=>by lia) z (λg r t z=>LU (pd g r _ z)) ?p2)
  case s2=>
   intro y g out d c _ ac bc z post2 q W X;refine LI (el z.1.2.2 (LI (el (Mg z.1.2.1) (LI (K _ _ _ _ (pb _ (b8 z.1.2.2)) (pa _ (b8 (Mg z.1.2.1))) hk ?_)))));refine wif (λJ=>LI (el z.1.2.2 ?_)) λJ=>LI (el (Mg z.1.2.1) ?_)
   .refine wif (λF=>LU (q _ _ _ (S (T z.1.1 (Mg z.1.2.1) z.1.2.2 J) (bq F)))) λF=>?_;have G:(MI R a.toList b.toList (out.push (gt b c)).toList d (c+1)/\d+1<a.size/\c+1<b.size):=⟨T z.1.1 (Mg z.1.2.1) z.1.2.2 J,z.1.2.1,MR z.1.2.2 (bn F)⟩;exact wif (λ_=>LU (W _ _ _ _ 0 _ _ ⟨G,lT1 z.2⟩)) λ_=>LU (X _ _ _ _ 0 _ _ ⟨G,lT2 z.2⟩)
   .refine wif (λB=>LU (q _ _ _ (N (U z.1.1 (Mg z.1.2.1) z.1.2.2 (eq_false_of_ne_true J)) (bq B)))) λB=>?_;have G:(MI R a.toList b.toList (out.push (gt a d)).toList (d+1) c/\d+1+1<a.size/\c<b.size):=⟨U z.1.1 (Mg z.1.2.1) z.1.2.2 (eq_false_of_ne_true J),MR z.1.2.1 (bn B),z.1.2.2⟩;exact wif (λ_=>LU (W _ _ _ _ 0 _ _ ⟨G,lT3 z.2⟩)) λ_=>LU (X _ _ _ _ 0 _ _ ⟨G,lT4 z.2⟩)
  case p2=>
   intro g out d c _ ac bc z;refine LI (ru (LI (loop (λo i j m k l=>(none,o,i,j,m,k,l)) (λr t=>(some r,t)) (λr=>Mgd R a.toList b.toList r.toList) (λy o i j=>(MI R a.toList b.toList o.toList i j/\i+1<a.size/\j<b.size)/\x+2+y<=i+j) (λo i j=>(MI R a.toList b.toList o.toList i j/\i+1<a.size/\j<b.size)/\x+2<=i+j) ?s3 (λo i j z=>by lia) z (λg r t z=>LU (pd g r _ z)) λg o i j m k l z=>LI (sg (LU (py _ _ _ _ _ 0 0 ⟨z.1,z.2⟩))))))
   case s3=>
    intro x3 g out d c mg ac bc z Y1 q W X;dsimp -zeta only
    extract_lets+onlyGivenNames q1 q2 q3 q4 q5 q6 q7 q8 q9 q10 q11 q12 j
    have u:∀m,wpS (L6 prog w) A E s (j () m) Y1 (iO st g):=λm=>by
     refine LI (sg ?_);dsimp -zeta only[q1,q2,q3,q4,q5,q6,q7,q8,q9,q10,q11,q12];refine LI (el z.1.2.2 (LI (Hk K hk (lS1 z.1.2.1) (lS2 z.1.2.1) (pb _ (b8 z.1.2.2)) (λi C=>pa _ (b8 (lS3 z.1.2.1 C))) O.tr (sa (lS1 z.1.2.1)) λk kn k1 k2=>?_)));dsimp -zeta only
     extract_lets+onlyGivenNames r1 j'
     have u:∀o i,MI R a.toList b.toList o.toList i c->i+1<a.size->d<=i->R (gt b c) (gt a i)=true->wpS (L6 prog w) A E s (j' () o i) Y1 (iO st m):=λout i I l9 l0 f=>by
      have D:i<a.size:=Mg l9;have Z:=T I D z.1.2.2 f;refine LI (el z.1.2.2 (wif (λF=>LU (q _ _ _ (S Z (bq F)))) λF=>?_));have p:c+1<b.size:=MR z.1.2.2 (bn F);refine LI (el D (LI (HZ K hk (Ox (Mx (Lu p))) (Qs p) (pa _ (b8 D)) (λi C=>pb _ (b8 (Qj C))) O.tr (sb (Ox (Mx (Lu p)))) λl ln m1 m2=>?_)));dsimp -zeta only
      extract_lets+onlyGivenNames r2 r3 j''
      have u:∀o n,MI R a.toList b.toList o.toList i n->n<b.size->c<n->R (gt b n) (gt a i)=false->wpS (L6 prog w) A E s (j'' () o n) Y1 (iO st m):=λout n I l1 L f=>by
       refine LI (el D (wif (λB=>LU (q _ _ _ (N (U I D l1 f) (bq B)))) λB=>?_));have z6:(MI R a.toList b.toList (out.push (gt a i)).toList (i+1) n/\i+1+1<a.size/\n<b.size):=⟨U I D l1 f,MR l9 (bn B),l1⟩;exact wif (λ_=>LU (W _ _ _ _ _ _ _ ⟨z6,lS5 z.2 l0 L⟩)) λ_=>LU (X _ _ _ _ _ _ _ ⟨z6,lS4 z.2 l0 L⟩)
      refine wif (λhl0=>?_) λhl0=>u _ _ Z p (Mz _) (m2 0 (by lia) (by lia));have I4:=rB Z D (lS6 p ln) m1;exact wif (λv=>LU (q _ _ _ (S I4 (bq v)))) λv=>u _ _ I4 (MR (lS6 p ln) (bn v)) (Lp (Mz _) (L5 _ _)) (m2 l (Lk _) (by have:=bn v;lia))
     refine wif (λhk0=>?_) λhk0=>u _ _ z.1.1 z.1.2.1 (Lk _) (k2 0 (by lia) (by lia));have I2:=rA z.1.1 z.1.2.2 (lS7 z.1.2.1 kn) k1;exact wif (λv=>LU (q _ _ _ (N I2 (bq v)))) λv=>wif (λV=>LU (q _ _ _ (dA I2 (bq V)))) λV=>u _ _ I2 (lS8 (lS7 z.1.2.1 kn) (bn v) (bn V)) (L5 _ _) (k2 k (Lk _) (by have:=bn V;lia))
    exact wif (λ_=>u _) λ_=>u _
end
section
variable {α:Type}{R:α→α→Bool}{A B:List α}
theorem xD(L:List α)(i k)(h:i+k<=L.length):((L.drop i).take k).reverse=(L.reverse.drop (L.length-i-k)).take k:=by
 rw[List.reverse_take,List.reverse_drop,ND,List.drop_take,Tq (Rv h)]
theorem sub1(h:0<m)(k:m<=n):n-(m-1)=n-m+1:=by rw[Nat.sub_sub_right n h,Nat.sub_add_comm k]
theorem BM(L:List α)(n)(h:n<=L.length):L.reverse.drop (L.length-n)=(L.take n).reverse:=by
 rw[List.drop_reverse,Tq h]
theorem MO.rev(O:MO R A B):MO (λx y=>R y x) B.reverse A.reverse where
 tr:=λ_ _ _ c b=>O.tr _ _ _ b c
 sA:=Oi.mpr O.sB
 sB:=Oi.mpr O.sA
 tot:=λx a y hy h=>O.tot y (LA.mp hy) x (LA.mp a) h
theorem Mgd.rev(m:Mgd (λx y=>R y x) B.reverse A.reverse r):Mgd R A B r.reverse:=
 ⟨(SQ r).trans (m.1.trans ((Qk).trans ((SQ A).append (SQ B)))),Oi.mpr m.2⟩
end
structure MH(R:MU->MU->Bool)(a b o:Array MU)(i j:Nat):Prop where
 mi:MI (λx y=>R y x) b.toList.reverse a.toList.reverse o.toList (b.size-j) (a.size-i)
 i0:0<i
 i1:i<=a.size
 j1:1<j
 j2:j<=b.size
theorem MH.j0(h:MH R a b o i j):0<j:=Mg h.j1
theorem MH.ha(h:MH R a b o i j):i-1<a.size:=Lp (On h.i0 NV) h.i1
theorem MH.hb(h:MH R a b o i j):j-1<b.size:=Lp (On h.j0 NV) h.j2
theorem lE(h:x+1+n+i+j<=n):False:=by lia
theorem lE1(h:n+1+i+j<=n):False:=by lia
theorem lE0(h:0<n):0+1+(n-1)+m<=n+m:=by lia
section
variable {prog:LJ}{w:Mp}{A:ML}{E:Lw→LB→Prop}{s:LB}{κ:Ro}{P:MU→Prop}{R:MU→MU→Bool} (K:Asks prog w A E s κ P R)
theorem gE(b:n<=a.size)(c:i<n)(h:a.size-n+i<a.toList.reverse.length):a.toList.reverse[a.size-n+i]=gt a (n-1-i):=by
 rw[List.getElem_reverse,gt_eq (by simp;omega)];congr 1;simp;omega
def DS:Array MU->Array MU->StateT OA Sem (Array MU):=sortPriv% PySem.Builtin.mergeHi
include K
theorem mhi{st:OA}(O:MO R a.toList b.toList)(pa:∀x∈a.toList,P x)(pb:∀x∈b.toList,P x)(ha:0<a.size)(hb:0<b.size)(h0:R (gt b (b.size-1)) (gt a (a.size-1))=true)(hl:∀y∈a.toList,R (gt b 0) y=true)(hk:kindOf st=κ)
  (h:∀r g,Mgd R a.toList b.toList r.toList->Q r (iO st g)):wpS (L6 prog w) A E s (DS a b) Q st:=by
 have la:a.toList.reverse.length=a.size:=by simp
 have lb:b.toList.reverse.length=b.size:=by simp
 have B:=O.rev
 have xa:∀n,n<=a.size->(a.extract 0 n).toList=(a.toList.reverse.drop (a.size-n)).reverse:=λn D=>by
  have:=BM a.toList n (by simpa using D);rw[Ly]at this;rw[this,RS];simp
 have xb:∀n,n<=b.size->(b.extract 0 n).toList=(b.toList.reverse.drop (b.size-n)).reverse:=λn D=>by
  have:=BM b.toList n (by simpa using D);rw[Ly]at this;rw[this,RS];simp
 have Z:∀{out:Array MU}{d c:Nat},MI (λx y=>R y x) b.toList.reverse a.toList.reverse out.toList (b.size-c) (a.size-d)->c<=b.size->d=0->Mgd R a.toList b.toList (a.extract 0 d++b.extract 0 c++out.reverse).toList:=λ{out d c} I D e=>by
  have:=(I.doneB B (by lia)).rev;rw[OQ,OQ,<-LH,<-xa d (by lia),<-xb c D]at this
  rw[Mj,Mj,Pq];exact this
 have dA:∀{out:Array MU}{d c:Nat},MI (λx y=>R y x) b.toList.reverse a.toList.reverse out.toList (b.size-c) (a.size-d)->d<=a.size->c=0->Mgd R a.toList b.toList (a.extract 0 d++b.extract 0 c++out.reverse).toList:=λ{out d c} I D e=>by
  have:=(I.doneA B (by lia)).rev;rw[OQ,OQ,<-LH,<-xa d D,<-xb c (by lia)]at this
  rw[Mj,Mj,Pq];exact this
 have Y:∀{out:Array MU}{d c:Nat},MI (λx y=>R y x) b.toList.reverse a.toList.reverse out.toList (b.size-c) (a.size-d)->d<=a.size->c=1->Mgd R a.toList b.toList (b.extract 0 c++a.extract 0 d++out.reverse).toList:=λ{out d c} I D e=>by
  have:=(I.last B (by lia) λy hy=>by
   have z:=hl y (LA.mp hy);have g:=gE (a:=b) (n:=c) (i:=0) (by lia) (by lia) (by lia);simp only[Qf]at g;rw[g,e];exact z).rev
  rw[OQ,OQ,<-LH,<-xa d D,<-xb c (by lia)]at this
  rw[Mj,Mj,Pq];exact this
 have W:∀{out:Array MU}{d c:Nat},MI (λx y=>R y x) b.toList.reverse a.toList.reverse out.toList (b.size-c) (a.size-d)->0<d->d<=a.size->0<c->c<=b.size->R (gt b (c-1)) (gt a (d-1))=true->MI (λx y=>R y x) b.toList.reverse a.toList.reverse (out.push (gt a (d-1))).toList (b.size-c) (a.size-(d-1)):=λ{out d c} I f q L H u=>by
  have g:=gE (a:=a) (n:=d) (i:=0) q f (by lia);have v:=gE (a:=b) (n:=c) (i:=0) H L (by lia);simp only[Qf,Rt]at g v;rw[OE,<-g,sub1 f q];refine I.pushB B (by lia) (gC B.tr B.sA (by lia) ?_);rw[g,v];exact u
 have pA:∀{out:Array MU}{d c:Nat},MI (λx y=>R y x) b.toList.reverse a.toList.reverse out.toList (b.size-c) (a.size-d)->0<d->d<=a.size->0<c->c<=b.size->R (gt b (c-1)) (gt a (d-1))=false->MI (λx y=>R y x) b.toList.reverse a.toList.reverse (out.push (gt b (c-1))).toList (b.size-(c-1)) (a.size-d):=λ{out d c} I f q L H u=>by
  have g:=gE (a:=a) (n:=d) (i:=0) q f (by lia);have v:=gE (a:=b) (n:=c) (i:=0) H L (by lia);simp only[Qf,Rt]at g v;rw[OE,<-v,sub1 L H];refine I.pushA B (by lia) (gC B.tr B.sB (by lia) ?_);rw[g,v];exact O.tot _ (b8 (by lia)) _ (b8 (by lia)) u
 have rB:∀{out:Array MU}{d c k:Nat},MI (λx y=>R y x) b.toList.reverse a.toList.reverse out.toList (b.size-c) (a.size-d)->k<=d->d<=a.size->0<c->c<=b.size->(∀i,k<=i->i<d->R (gt b (c-1)) (gt a i)=true)->MI (λx y=>R y x) b.toList.reverse a.toList.reverse (out++(a.extract k d).reverse).toList (b.size-c) (a.size-k):=λ{out d c k} I f q L H u=>by
  have e:(a.extract k d).reverse.toList=(a.toList.reverse.drop (a.size-d)).take (d-k):=by
   have:=xD a.toList k (d-k) (by rw[Mx f];simpa using q);rw[Ly,Xz,Mx f]at this;rw[<-this,Pq,<-ja,Mx f]
  rw[Mj,e,<-TV q f];refine I.runB B (by lia) _ (by lia) λi h U=>?_;have v:=gE (a:=b) (n:=c) (i:=0) H L (by lia);simp only[Qf,Rt]at v;rw[gE q (by lia),v];exact u _ (by lia) (by lia)
 have rA:∀{out:Array MU}{d c k:Nat},MI (λx y=>R y x) b.toList.reverse a.toList.reverse out.toList (b.size-c) (a.size-d)->k<=c->c<=b.size->0<d->d<=a.size->(∀i,k<=i->i<c->R (gt b i) (gt a (d-1))=false)->MI (λx y=>R y x) b.toList.reverse a.toList.reverse (out++(b.extract k c).reverse).toList (b.size-k) (a.size-d):=λ{out d c k} I f q L H u=>by
  have e:(b.extract k c).reverse.toList=(b.toList.reverse.drop (b.size-c)).take (c-k):=by
   have:=xD b.toList k (c-k) (by rw[Mx f];simpa using q);rw[Ly,Xz,Mx f]at this;rw[<-this,Pq,<-ja,Mx f]
  rw[Mj,e,<-TV q f];refine I.runA B (by lia) _ (by lia) λi h U=>?_;have v:=gE (a:=a) (n:=d) (i:=0) H L (by lia);simp only[Qf,Rt]at v;rw[gE q (by lia),v];exact O.tot _ (b8 (by lia)) _ (b8 (by lia)) (u _ (by lia) (by lia))
 have sa:∀{n:Nat},n<=a.size->∀i j,i<j->j<n->R (gt a (0+i)) (gt a (0+j))=true:=λ{n} D i j f q=>by
  rw[gt_eq (show 0+i<a.toList.length by rw[Ly];lia),gt_eq (show 0+j<a.toList.length by rw[Ly];lia)];exact LD.mp O.sA _ _ _ _ (by lia)
 have sb:∀{n:Nat},n<=b.size->∀i j,i<j->j<n->R (gt b (0+i)) (gt b (0+j))=true:=λ{n} D i j f q=>by
  rw[gt_eq (show 0+i<b.toList.length by rw[Ly];lia),gt_eq (show 0+j<b.toList.length by rw[Ly];lia)];exact LD.mp O.sB _ _ _ _ (by lia)
 have sA:∀{n:Nat},0<n->n<=a.size->n-1<a.size:=λh k=>Lp (On h NV) k;have sB:∀{n:Nat},0<n->n<=b.size->n-1<b.size:=λh k=>Lp (On h NV) k
 have start:MI (λx y=>R y x) b.toList.reverse a.toList.reverse (#[gt a (a.size-1)]:Array MU).toList (b.size-b.size) (a.size-(a.size-1)):=by
  have e:(#[gt a (a.size-1)]:Array MU)=(#[]:Array MU).push (gt a (a.size-1)):=rfl;rw[e];exact W ⟨by simp,by simp,by simp,by simp⟩ ha (Lk _) hb (Lk _) h0
 refine LI (ru (LI (el (sA ha (Lk _)) ?_)))
 try dsimp -zeta only
 refine wif (λe1=>LU (h _ (Tc st) (Z start (Lk _) (bq e1)))) λe1=>?_;refine wif (λe2=>LU (h _ (Tc st) (Y start (SR _ _) (bq e2)))) λe2=>LI (Sy ?_)
 try dsimp -zeta only
 refine LI (loop (st:=st) (g:=Tc st) (m:=Tc st) (a:=0) (b:=0) (λo i j m _ _=>(none,i,j,o,m)) (λr t=>(some r,t)) (λr=>Mgd R a.toList b.toList r.toList) (λx o i j=>MH R a b o i j/\x+1+i+j<=a.size+b.size) (λ_ _ _=>False) ?step (λo i j z=>lE1 z.2) ⟨⟨start,Oo (bn e1),SR _ _,lt2 hb (bn e2),Lk _⟩,lE0 ha⟩ (λg r t z=>LU (h r g z)) λ_ _ _ _ _ _ _ z=>z.elim)
 case step=>
  intro x g out d c mg _ _ z post pd _ py;refine LI (loop (a:=0) (b:=0) (m:=0) (λo i j _ m k=>(none,i,j,o,m,k)) (λr t=>(some r,t)) (λr=>Mgd R a.toList b.toList r.toList) (λy o i j=>MH R a b o i j/\x+1+y+i+j<=a.size+b.size) (λo i j=>MH R a b o i j/\x+2+i+j<=a.size+b.size) ?s2 (λo i j z=>lE z.2) z (λg r t z=>LU (pd g r _ z)) ?p2)
  case s2=>
   intro y g out d c _ ac bc z post2 G qd qy;refine LI (el z.1.hb (LI (el z.1.ha (LI (K _ _ _ _ (pb _ (b8 z.1.hb)) (pa _ (b8 z.1.ha)) hk ?_)))));refine wif (λV=>LI (el z.1.ha ?_)) λV=>LI (el z.1.hb ?_)
   .refine wif (λS=>LU (G _ _ _ (Z (W z.1.mi z.1.i0 z.1.i1 z.1.j0 z.1.j2 V) z.1.j2 (bq S)))) λS=>?_;have T:MH R a b (out.push (gt a (d-1))) (d-1) c:=⟨W z.1.mi z.1.i0 z.1.i1 z.1.j0 z.1.j2 V,Oo (bn S),Lu z.1.ha,z.1.j1,z.1.j2⟩;exact wif (λ_=>LU (qd _ _ _ _ 0 _ _ ⟨T,st1 z.1.i0 z.2⟩)) λ_=>LU (qy _ _ _ _ 0 _ _ ⟨T,st2 z.1.i0 z.2⟩)
   .refine wif (λN=>LU (G _ _ _ (Y (pA z.1.mi z.1.i0 z.1.i1 z.1.j0 z.1.j2 (eq_false_of_ne_true V)) z.1.i1 (bq N)))) λN=>?_;have T:MH R a b (out.push (gt b (c-1))) d (c-1):=⟨pA z.1.mi z.1.i0 z.1.i1 z.1.j0 z.1.j2 (eq_false_of_ne_true V),z.1.i0,z.1.i1,lt2 (Qs z.1.j1) (bn N),Lu z.1.hb⟩;exact wif (λ_=>LU (qd _ _ _ _ 0 _ _ ⟨T,st3 z.1.j0 z.2⟩)) λ_=>LU (qy _ _ _ _ 0 _ _ ⟨T,st4 z.1.j0 z.2⟩)
  case p2=>
   intro g out d c _ ac bc z;refine LI (ru (LI (loop (λo i j m k l=>(none,i,j,o,m,k,l)) (λr t=>(some r,t)) (λr=>Mgd R a.toList b.toList r.toList) (λy o i j=>MH R a b o i j/\x+2+y+i+j<=a.size+b.size) (λo i j=>MH R a b o i j/\x+2+i+j<=a.size+b.size) ?s3 (λo i j z=>lE z.2) z (λg r t z=>LU (pd g r _ z)) λg o i j m k l z=>LI (sg (LU (py _ _ _ _ _ 0 0 ⟨z.1,z.2⟩))))))
   case s3=>
    intro x3 g out d c mg ac bc z Y1 G qd qy;dsimp -zeta only
    extract_lets+onlyGivenNames q1 q2 q3 q4 q5 q6 q7 q8 q9 q10 q11 q12 j
    have J:∀m,wpS (L6 prog w) A E s (j () m) Y1 (iO st g):=λm=>by
     refine LI (sg ?_);dsimp -zeta only[q1,q2,q3,q4,q5,q6,q7,q8,q9,q10,q11,q12];refine LI (el z.1.hb (LI (Hk K hk (LN (Ox (Pf d)) z.1.i1) (On z.1.i0 NV) (pb _ (b8 z.1.hb)) (λi U=>pa _ (b8 (Lp (ME (Ox (Pf i)) U) z.1.i1))) O.tr (sa z.1.i1) λk kn k1 k2=>?_)));simp only[Pf]at k1 k2;dsimp -zeta only
     extract_lets+onlyGivenNames r0 r1 j'
     have J:∀n o,MI (λx y=>R y x) b.toList.reverse a.toList.reverse o.toList (b.size-c) (a.size-n)->0<n->n<=d->R (gt b (c-1)) (gt a (n-1))=false->wpS (L6 prog w) A E s (j' () n o) Y1 (iO st m):=λn out I F n1 u=>by
      have C:n<=a.size:=LN n1 z.1.i1;have I3:=pA I F C z.1.j0 z.1.j2 u;refine LI (el z.1.hb (wif (λS=>LU (G _ _ _ (Y I3 C (bq S)))) λS=>?_));have X:1<c-1:=lt2 (Qs z.1.j1) (bn S);refine LI (el (sA F C) (LI (HZ K hk (LN (Ox (Pf _)) (Lu z.1.hb)) (On (Mg X) NV) (pa _ (b8 (sA F C))) (λi U=>pb _ (b8 (MP (ME (Ox (Pf i)) U) z.1.hb))) O.tr (sb (Lu z.1.hb)) λl ln l1 l2=>?_)));simp only[Pf]at l1 l2;dsimp -zeta only
      extract_lets+onlyGivenNames r2 r3 r4 j''
      have J:∀p o,MI (λx y=>R y x) b.toList.reverse a.toList.reverse o.toList (b.size-p) (a.size-n)->1<p->p<c->R (gt b (p-1)) (gt a (n-1))=true->wpS (L6 prog w) A E s (j'' () p o) Y1 (iO st m):=λp out I p0 p1 u=>by
       have p2:p<=b.size:=Lu (Lp p1 z.1.j2);refine LI (el (sA F C) (wif (λN=>LU (G _ _ _ (Z (W I F C (Mg p0) p2 u) p2 (bq N)))) λN=>?_));have z6:MH R a b (out.push (gt a (n-1))) (n-1) p:=⟨W I F C (Mg p0) p2 u,Oo (bn N),LN (SR _ _) C,p0,p2⟩;exact wif (λ_=>LU (qd _ _ _ _ _ _ _ ⟨z6,st6 (st5 F n1 p1 z.2)⟩)) λ_=>LU (qy _ _ _ _ _ _ _ ⟨z6,st5 F n1 p1 z.2⟩)
      refine wif (λhl0=>?_) λhl0=>J _ _ I3 X (On z.1.j0 NV) (l1 (c-1-1) (by lia));have I4:=rA I3 ln (Lu z.1.hb) F C l2;refine wif (λM=>LU (G _ _ _ (Y I4 C (bq M)))) λM=>wif (λed=>LU (G _ _ _ (dA I4 C (bq ed)))) λed=>?_;have f:1<l:=lt2 (Oo (bn ed)) (bn M);exact J _ _ I4 f (ME ln (On z.1.j0 NV)) (l1 (l-1) (On (Mg f) NV))
     refine wif (λhk0=>?_) λhk0=>J _ _ z.1.mi z.1.i0 (Lk _) (k1 (d-1) (by have:=z.1.i0;lia));have I2:=rB z.1.mi kn z.1.i1 z.1.j0 z.1.j2 k2;exact wif (λM=>LU (G _ _ _ (Z I2 z.1.j2 (bq M)))) λM=>J _ _ I2 (Oo (bn M)) kn (k1 (k-1) (On (Oo (bn M)) NV))
    exact wif (λ_=>J _) λ_=>J _
end
section
theorem ux{b:Type}:∀m n p X Y (arr:Array b),arr.toList=X++Y->X.length=p+n->m.length<=Y.length->((m.zipIdx n).foldl (λa (x:b×Nat)=>a.setIfInBounds (p+x.2) x.1) arr).toList=X++m++Y.drop m.length
 |[],n,p,X,Y,arr,e,_,_=>by simpa using e
 |x::m,n,p,X,[],arr,e,h1,h2=>by simp at h2
 |x::m,n,p,X,y::Y,arr,e,h1,h2=>by
  rw[List.zipIdx_cons,Nd]
  have:=ux m (n+1) p (X++[x]) Y (arr.setIfInBounds (p+n) x) (by
   rw[Sh,e,<-h1,Us _ _ (Lk _)];simp) (by simp;lia) (by simpa using h2)
  rw[this];simp
theorem Ba{a:Type}{x:a}{Q:PUnit->a->Prop}{st:a}(h:Q ⟨⟩ x):wpS M A E s (set x:StateT a Sem PUnit) Q st:=by
 unfold wpS;rw[StateT.run_set];exact Lm ⟨rfl,h⟩
theorem seg{a:Type}(X S Y:List a):((X++S++Y).drop X.length).take S.length=S:=by simp
end
section
variable {prog:LJ}{w:Mp}{A:ML}{E:Lw→LB→Prop}{s:LB}{κ:Ro}{P:MU→Prop}{R:MU→MU→Bool} (K:Asks prog w A E s κ P R)
theorem w_(h:a.toList=X++(S++Y))(b:j<S.length):gt a (X.length+j)=S[j]:=by
 rw[gt_eq (by rw[h,LG,LG];exact Nk (Lp b (L5 _ _)) _)];simp only[h];rw[List.getElem_append_right (L5 _ _)];simp only[QX];rw[List.getElem_append_left b]
include K
theorem mat{st:OA}(J:kindOf st=κ)(hf:RV st=none)(h1:(Pe st)[i]?=some (sa,na,pw))(h2:(Pe st)[i+1]?=some (sb,nb,pw2))(M:(Mi st).toList=X++S1++S2++Y)(lX:X.length=sa)(C:S1.length=na)(N:S2.length=nb)(Ze:sb=sa+na)(p1:0<na)(D:0<nb)(pp:∀x∈S1++S2,P x)(O:MO R S1 S2)
  (h:∀S T,kindOf T=κ->RV T=none->Pe T=((Pe st).setIfInBounds i (sa,na+nb,pw)).eraseIdxIfInBounds (i+1)->(Mi T).toList=X++S++Y->Mgd R S1 S2 S->Q true T):wpS (L6 prog w) A E s (mergeAt' i) Q st:=by
 have sz:(Mi st).size=sa+na+nb+Y.length:=by rw[<-Ly,M,LG,LG,LG,lX,C,N]
 have o:∀{j},j<na->j<S1.length:=λh=>C.symm ▸ h;have t:∀{j},j<nb->j<S2.length:=λh=>N.symm ▸ h
 have H:∀j (b:j<S1.length),gt (Mi st) (sa+j)=S1[j]:=λj b=>by
  rw[<-lX];exact w_ (Y:=S2++Y) (by rw[M];simp only[LH]) b
 have I:∀j (b:j<S2.length),gt (Mi st) (sb+j)=S2[j]:=λj b=>by
  rw[Ze,<-lX,<-C,<-LG];exact w_ (by rw[M,LH]) b
 have q1:∀j,j<na->P (gt (Mi st) (sa+j)):=λj b=>by rw[H j (o b)];exact pp _ (Ms _ (MA _))
 have q2:∀j,j<nb->P (gt (Mi st) (sb+j)):=λj b=>by rw[I j (t b)];exact pp _ (LR _ (MA _))
 have z1:sa+na<=(Mi st).size:=by rw[sz,PX];exact L5 _ _
 have F:sb+nb<=(Mi st).size:=by rw[sz,Ze];exact L5 _ _
 obtain⟨m,V⟩:∃m,m+1=na:=⟨na-1,Pg p1⟩;have B:m<na:=V ▸ Mz m;refine LI (Sy ?_);rw[h1,h2];dsimp only;refine LI (Ba ?_);refine LI (el (Lp (Nat.lt_add_of_pos_right D) F) ?_)
 refine LI (Hk K J z1 p1 (q2 0 D) q1 O.tr (λx y h3 W=>by
  rw[H x (o (MP h3 W)),H y (o W)];exact LD.mp O.sA _ _ _ _ h3) λk kn k1 k2=>?_)
 dsimp only;have hb0:gt (Mi st) sb=S2[0]'(t D):=I 0 (t D);rw[hb0]at k1 k2
 have hU:∀x∈S1.take k,∀y∈S2,R x y=true:=λx L y hy=>by
  obtain⟨j,b,rfl⟩:=Nb L;have jk:j<k:=Lp b (UW _ _);have z:=k1 j jk;rw[H j (o (Lp jk kn))]at z;have F:=O.tot _ (MA _) _ (MA _) z;rw[Qt];exact gC O.tr O.sB (t D) F y hy
 have f1:∀v∈S1.drop k,R (S2[0]'(t D)) v=true:=λv f=>by
  obtain⟨j,b,rfl⟩:=Nb f;rw[ND]at b;have Zh:=Qj b;rw[Qu,<-H (k+j) Zh];exact k2 _ (L5 _ _) (C ▸ Zh)
 by_cases e1:(na-k==0)=true
 .rw[if_pos e1];have q:na-k=0:=bq e1;refine LU (h (S1++S2) _ J hf rfl (by rw[<-LH];exact M) ⟨UK _,MT.mpr ⟨O.sA,O.sB,λx L y hy=>hU x (by rw[Mf (C ▸ Nat.le_of_sub_eq_zero q)];exact L) y hy⟩⟩)
 rw[if_neg e1];have q:0<na-k:=Oo (bn e1);have ei:sa+k+(na-k)-1=sa+m:=by rw[PX,Mx kn,<-V];rfl
 have Yy:gt (Mi st) (sa+k+(na-k)-1)=S1[m]'(o B):=by rw[ei,H m (o B)]
 refine LI (el (ei ▸ Lp (Nk B sa) z1) ?_)
 refine LI (HZ K J F (On D NV) (by rw[Yy,<-H m (o B)];exact q1 m B) q2 O.tr (λx y h3 W=>by
  rw[I x (t (MP h3 W)),I y (t W)];exact LD.mp O.sB _ _ _ _ h3) λl ln m1 m2=>?_)
 dsimp only;rw[Yy]at m1 m2
 have hZ:∀x∈S1,∀z∈S2.drop l,R x z=true:=λx L z hz=>by
  obtain⟨j,b,rfl⟩:=Nb hz;rw[ND]at b;obtain⟨i,hi,rfl⟩:=Nb L;rw[Qu];have Zh:=Qj b;have z:=m2 (l+j) (L5 _ _) (N ▸ Zh);rw[I (l+j) Zh]at z;have F:=O.tot _ (MA _) _ (MA _) z;rcases LY (Mt (show i<m+1 by rw[V,<-C];exact hi)) with c |c
  .exact O.tr _ _ _ (LD.mp O.sA i m hi (o B) c) F
  .subst c;exact F
 have f2:∀v∈S2.take l,R v (S1[m]'(o B))=true:=λv f=>by
  obtain⟨j,b,rfl⟩:=Nb f;have jl:j<l:=Lp b (UW _ _);rw[Qt,<-I j (t (Lp jl ln))];exact m1 _ jl
 have l0:0<l:=by
  rcases Pc l with c |c
  .exfalso
   have z:=m2 0 (Ox c) D;rw[I 0 (t D)]at z;have F:=f1 (S1[m]'(o B)) (List.drop_subset_drop_left S1 (Mt (show k<m+1 by rw[V];exact Nat.lt_of_sub_pos q)) (ic (o B)))
   rw[F]at z;cases z
  .exact c
 rw[if_neg λz=>PR l0 (bq z)];have ll:∀{a:Array MU},a.toList.length=a.size:=by simp
 have eL:(Mi st).toList=(X++S1.take k)++S1.drop k++(S2.take l++(S2.drop l++Y)):=by
  rw[M]
  conv=>lhs;rw[←Mb k S1,←Mb l S2]
  simp only[LH]
 have U:(X++S1.take k).length=sa+k:=by rw[LG,NZ,lX,C,Og kn]
 have d:((Mi st).extract (sa+k) sb).toList=S1.drop k:=by
  rw[show sb=sa+k+(na-k) by rw[Ze,PX,Mx kn],ja,eL];have:=seg (X++S1.take k) (S1.drop k) (S2.take l++(S2.drop l++Y));rw[U,ND,C]at this;exact this
 have n:((Mi st).extract sb (sb+l)).toList=S2.take l:=by
  rw[ja,M];have:=seg (X++S1) (S2.take l) (S2.drop l++Y);rw[LG,NZ,lX,C,N,<-Ze,Og ln]at this;rw[<-LH,LH (X++S1),Mb]at this;exact this
 generalize L:(Mi st).extract (sa+k) sb=x at d |-;generalize hy:(Mi st).extract sb (sb+l)=y at n |-;have sx:x.size=na-k:=by rw[<-ll,d,ND,C]
 have sy:y.size=l:=by rw[<-ll,n,NZ,N,Og ln]
 have x0:0<x.size:=sx.symm ▸ q;have y0:0<y.size:=sy.symm ▸ l0
 have O2:MO R x.toList y.toList:=by
  rw[d,n];exact⟨O.tr,O.sA.sublist (PH _ _),O.sB.sublist (Vq _ _),λu p v f=>O.tot u (Ot p) v (Qx f)⟩
 have gx:gt x (x.size-1)=S1[m]'(o B):=by
  rw[gt_eq (by rw[ll];exact On x0 NV)];simp only[d,sx,Qu];congr 1;rw[<-N_ q,Mx kn,<-V];rfl
 have gy:gt y 0=S2[0]'(t D):=by
  rw[gt_eq (by rw[ll];exact y0)];simp only[n,Qt]
 have px:∀u∈x.toList,P u:=λu p=>pp u (Ms _ (Ot (by rw[d]at p;exact p)));have py:∀u∈y.toList,P u:=λu p=>pp u (LR _ (Qx (by rw[n]at p;exact p)));have Zx:∀v∈y.toList,R v (gt x (x.size-1))=true:=λv f=>by rw[gx];exact f2 v (by rw[n]at f;exact f)
 have Z6:∀v∈x.toList,R (gt y 0) v=true:=λv f=>by rw[gy];exact f1 v (by rw[d]at f;exact f)
 have fin:∀r:Array MU,Mgd R x.toList y.toList r.toList->((r.toList.zipIdx).foldl (λa (x:MU×Nat)=>a.setIfInBounds (sa+k+x.2) x.1) (Mi st)).toList=X++(S1.take k++r.toList++S2.drop l)++Y/\Mgd R S1 S2 (S1.take k++r.toList++S2.drop l):=λr m=>by
  have lr:r.toList.length=(S1.drop k++S2.take l).length:=by rw[<-d,<-n];exact m.1.length_eq
  constructor
  .rw[ux r.toList 0 (sa+k) (X++S1.take k) (S1.drop k++S2.take l++(S2.drop l++Y)) _ (by rw[eL];simp only[LH]) U (by rw[lr,LG (as:=S1.drop k++S2.take l)];exact L5 _ _)];rw[lr,List.drop_left];simp only[LH]
  .have mp:r.toList.Perm (S1.drop k++S2.take l):=by rw[<-d,<-n];exact m.1
   constructor
   .refine ((mp.append_left _).append_right _).trans ?_
    have e:S1++S2=S1.take k++(S1.drop k++S2.take l)++S2.drop l:=by
     conv=>lhs;rw[←Mb k S1,←Mb l S2]
     simp only[LH]
    rw[e]
   .have sp1:=O.sA;rw[<-Mb k S1]at sp1;have Z:=O.sB;rw[<-Mb l S2]at Z;have c1:=MT.mp sp1;have c2:=MT.mp Z;refine MT.mpr ⟨MT.mpr ⟨c1.1,m.2,λu p v f=>?_⟩,c2.2.1,λu p v f=>?_⟩
    .rcases Mm.mp (mp.mem_iff.mp f) with z |z
     .exact c1.2.2 u p v z
     .exact hU u p v (Qx z)
    .rcases Mm.mp p with z |z
     .exact hU u z v (Ot f)
     .rcases Mm.mp (mp.mem_iff.mp z) with z |z
      .exact hZ u (Ot z) v f
      .exact c2.2.2 u z v f
 have G:∀(r:Array MU) g,Mgd R x.toList y.toList r.toList->Q true (SortSt.mk' (kindOf st) ((r.toList.zipIdx).foldl (λa (x:MU×Nat)=>a.setIfInBounds (sa+k+x.2) x.1) (Mi st)) (((Pe st).setIfInBounds i (sa,na+nb,pw)).eraseIdxIfInBounds (i+1)) g (RV st)):=λr g m=>h _ _ J hf rfl (fin r m).1 (fin r m).2;by_cases hc:na-k<=l
 .rw[if_pos hc];refine LI (mlo K O2 px py x0 y0 (Z6 _ (b8 x0)) Zx J λr g m=>?_);refine LI (Re ?_);refine LI (Sy ?_);have:=G r g m;refine LU ?_;show Q (RV st).isNone _;rw[show (RV st).isNone=true by rw[hf];rfl];exact this
 .rw[if_neg hc];refine LI (mhi K O2 px py x0 y0 (Zx _ (b8 (On y0 NV))) Z6 J λr g m=>?_);refine LI (Re ?_);refine LI (Sy ?_);have:=G r g m;refine LU ?_;show Q (RV st).isNone _;rw[show (RV st).isNone=true by rw[hf];rfl];exact this
end
variable {R:MU→MU→Bool}{κ:Ro}{P:MU→Prop}{l:List MU}
section
variable {prog:LJ}{w:Mp}{A:ML}{E:Lw→LB→Prop}{s:LB}
structure Ord(P:MU->Prop)(R:MU->MU->Bool)(l:List MU):Prop where
 tr:∀x y z,R x y=true->R y z=true->R x z=true
 tot:∀x∈l,∀y∈l,x≠y->R x y=false->R y x=true
 nd:l.Nodup
 hp:∀x∈l,P x
structure Stt(κ:Ro)(l:List MU)(pd:Array (Nat×Nat×Nat))(st:OA):Prop where
 kind:kindOf st=κ
 failed:RV st=none
 perm:(Mi st).toList.Perm l
 pend:Pe st=pd
variable {pd:Array (Nat×Nat×Nat)}
theorem Stt.size{st:OA}(S:Stt κ l pd st):(Mi st).size=l.length:=by rw[<-Ly,S.perm.length_eq]
theorem Stt.p(O:Ord P R l){st:OA}(S:Stt κ l pd st)(h:i<l.length):P (gt (Mi st) i):=O.hp _ (S.perm.mem_iff.mp (b8 (by rw[S.size];exact h)))
theorem Stt.tot(O:Ord P R l){st:OA}(S:Stt κ l pd st)(b:i<l.length)(a:j<l.length)(d:i≠j)(g:R (gt (Mi st) i) (gt (Mi st) j)=false):R (gt (Mi st) j) (gt (Mi st) i)=true:=by
 refine O.tot _ (S.perm.mem_iff.mp (b8 (by rw[S.size];exact b))) _ (S.perm.mem_iff.mp (b8 (by rw[S.size];exact a))) (λe=>d ?_) g;have c:i<(Mi st).toList.length:=by rw[Ly,S.size];exact b
 have f:j<(Mi st).toList.length:=by rw[Ly,S.size];exact a
 rw[gt_eq c,gt_eq f]at e;exact (Tf (S.perm.nodup_iff.mpr O.nd)).mp e
theorem Stt.arr{st:OA}(S:Stt κ l pd st)(h:a.Perm (Mi st)):Stt κ l pd (setArr st a):=⟨S.kind,S.failed,(Array.perm_iff_toList_perm.mp h).trans S.perm,S.pend⟩
theorem ltK(K:Asks prog w A E s κ P R)(O:Ord P R l){st:OA}(S:Stt κ l pd st)(b:i<l.length)(a:j<l.length)(h:Q (some (R (gt (Mi st) i) (gt (Mi st) j))) st):wpS (L6 prog w) A E s (ltAt' i j) Q st:=by
 rw[ltAt'_eq];refine LI (Sy ?_);refine LI (el (by rw[S.size];exact b) ?_);refine LI (el (by rw[S.size];exact a) ?_);exact K _ _ _ _ (S.p O b) (S.p O a) S.kind h
theorem uj(h:a[i]?=b[j]?):gt a i=gt b j:=by
 unfold gt;rw[Ni,Ni,h]
def Up(R:MU->MU->Bool)(a:Array MU)(lo m:Nat):Prop:=∀i j,i<j->j<m->R (gt a (lo+i)) (gt a (lo+j))=true
def Dn(R:MU->MU->Bool)(a:Array MU)(lo m:Nat):Prop:=∀i j,i<j->j<m->R (gt a (lo+j)) (gt a (lo+i))=true
def Kept(a b:Array MU)(lo:Nat):Prop:=∀j,j<lo->gt b j=gt a j
theorem IL(hs:src<a.size)(f:d<=src)(k):gt (Xj a src d) k=if k=src-d then gt a src else if src-d<k/\k<=src then gt a (k-1) else gt a k:=by
 have e:=getElem?_bubble hs d f k;by_cases c:k=src-d
 .rw[if_pos c]at e |-;exact uj e
 .rw[if_neg c]at e |-;by_cases b:src-d<k/\k<=src
  .rw[if_pos b]at e |-;exact uj e
  .rw[if_neg b]at e |-;exact uj e
theorem wj(c:j<=a.size)(k):gt (W2 a i j ((j-i)/2)) k=if i<=k/\k<j then gt a (i+j-1-k) else gt a k:=by
 have e:=getElem?_mirror_all (i:=i) c k;by_cases b:i<=k/\k<j
 .rw[if_pos b]at e |-;exact uj e
 .rw[if_neg b]at e |-;exact uj e
variable (K:Asks prog w A E s κ P R)
include K
theorem KY(O:Ord P R l){lo n Z:Nat}{st:OA}(hn:lo+n<=l.length)(hok:Z<=n)(S:Stt κ l pd st)(hs:Up R (Mi st) lo Z)
  (h:∀a,Stt κ l pd a->Kept (Mi st) (Mi a) lo->Up R (Mi a) lo n->Q true a):wpS (L6 prog w) A E s (binarySort' lo n Z) Q st:=by
 rw[binarySort'_eq]
 refine LI (Rn (OB (I:=λk c a=>c=(none,())/\Stt κ l pd a/\Kept (Mi st) (Mi a) lo/\Up R (Mi a) lo (min k n))
  (Q:=λc a=>c=(none,())/\Stt κ l pd a/\Kept (Mi st) (Mi a) lo/\Up R (Mi a) lo n) ?step ?fin ?init) ?post)
 case post=>
  rintro c a ⟨rfl,q,B,o⟩;exact LU (h a q B o)
 case init=>
  refine⟨rfl,S,λ_ _=>rfl,λi j d H=>?_⟩;exact hs i j d (by lia)
 case fin=>
  rintro c a ⟨hc,q,B,o⟩;refine⟨hc,q,B,?_⟩
  rwa [QD (Ti _ _)]at o
 case step=>
  rintro k c a hak t ⟨rfl,q,B,o⟩;rw[Og (Lu t)]at o;have N:lo+k<l.length:=Lp (Nk t lo) hn
  refine LI (Rn (OB (I:=λx c b=>b=a/\∃p r,c=(none,p,r)/\p<=r/\r<=k/\r+x<=k+p/\
    (∀i,i<p->R (gt (Mi a) (lo+i)) (gt (Mi a) (lo+k))=true)/\(∀i,r<=i->i<k->R (gt (Mi a) (lo+k)) (gt (Mi a) (lo+i))=true))
   (Q:=λc b=>b=a/\∃p r,c=(none,p,r)/\p<=k/\
    (∀i,i<p->R (gt (Mi a) (lo+i)) (gt (Mi a) (lo+k))=true)/\(∀i,p<=i->i<k->R (gt (Mi a) (lo+k)) (gt (Mi a) (lo+i))=true)) ?istep ?ifin ?iinit) ?ipost)
  case iinit=>exact⟨rfl,0,k,rfl,Mu _,Lk _,Lk _,λi hi=>absurd hi (ON _),λi D U=>absurd U (XR.mpr D)⟩
  case ifin=>
   rintro c b ⟨rfl,p,r,rfl,u,g,L,y,v⟩;have:p=r:=md6 u L;subst this;exact⟨rfl,p,p,rfl,g,y,v⟩
  case istep=>
   rintro x c b _ hxk ⟨rfl,p,r,rfl,u,g,L,y,v⟩;dsimp only;by_cases f:p ≥ r
   .rw[if_pos f];have:p=r:=OP u f;subst this;exact LU ⟨rfl,p,p,rfl,g,y,v⟩
   .rw[if_neg f];have W:=md1 f;have d2:=md2 f;have M:(p+r)/2<k:=Lp W g;have d4:lo+(p+r)/2<l.length:=MP (Nk M lo) N;refine LI (ltK K O q N d4 ?_);dsimp only;by_cases J:R (gt (Mi b) (lo+k)) (gt (Mi b) (lo+(p+r)/2))=true
    .rw[if_pos J];refine LU ⟨rfl,p,(p+r)/2,rfl,d2,Lu M,md3 L W,y,λi D U=>?_⟩;rcases LY D with z |z
     .exact O.tr _ _ _ J (o _ _ z U)
     .rw[<-z];exact J
    .rw[if_neg J];have ht:=q.tot O N d4 (λe=>Mh _ (Qc M (Nat.add_left_cancel e))) (eq_false_of_ne_true J);refine LU ⟨rfl,(p+r)/2+1,r,rfl,W,g,md4 L d2,λi D=>?_,v⟩;rcases LY (Mt D) with z |z
     .exact O.tr _ _ _ (o _ _ z M) ht
     .rw[z];exact ht
  case ipost=>
   rintro c b ⟨rfl,p,r,rfl,F,y,v⟩;show wpS _ _ _ _ (do moveDown' (lo+k) (lo+p);pure (ForInStep.yield (none,()))) _ _;rw[moveDown'_eq];have X:lo+k<(Mi b).size:=by rw[q.size];exact N
   have at_:∀j,gt (Xj (Mi b) (lo+k) (lo+k-(lo+p))) j=if j=lo+p then gt (Mi b) (lo+k) else if lo+p<j/\j<=lo+k then gt (Mi b) (j-1) else gt (Mi b) j:=λj=>by
    have:=IL X (SR _ (lo+p)) j
    rwa [Tq (MZ F lo)]at this
   refine LI (Re (LU ⟨rfl,q.arr (bubble_perm _ _ _),λj H=>?_,?_⟩))
   .show gt (Xj (Mi b) (lo+k) (lo+k-(lo+p))) j=_;have m:=Lp H (L5 lo p);rw[at_,if_neg (L3 m),if_neg λz=>Nat.lt_asymm z.1 m];exact B j H
   .rw[Og t];intro i j d H;show R (gt (Xj (Mi b) (lo+k) (lo+k-(lo+p))) (lo+i)) (gt (Xj (Mi b) (lo+k) (lo+k-(lo+p))) (lo+j))=true
    have C:∀j,gt (Xj (Mi b) (lo+k) (lo+k-(lo+p))) (lo+j)=if j=p then gt (Mi b) (lo+k) else if p<j/\j<=k then gt (Mi b) (lo+(j-1)) else gt (Mi b) (lo+j):=λj=>by
     rw[at_];simp only[Nat.add_left_cancel_iff,Nat.add_lt_add_iff_left,Nat.add_le_add_iff_left];by_cases c:p<j
     .rw[N_ (VB (Oa c)) lo]
     .rw[if_neg (c:=p<j/\j<=k) λz=>c z.1,if_neg (c:=p<j/\j<=k) λz=>c z.1]
    have m:=Mt H;rw[C,C];by_cases V:i=p
    .subst V;rw[if_pos rfl,if_neg (PR d),if_pos ⟨d,m⟩];exact v _ (Ou d) (Ov (Oa d) m)
    .rw[if_neg V];by_cases G:p<i
     .have c:=MP G d;rw[if_pos ⟨G,LN (Lu d) m⟩,if_neg (PR c),if_pos ⟨c,m⟩];exact o _ _ (Nat.sub_lt_sub_right (VB (Oa G)) d) (Ov (Oa d) m)
     .have a3:i<p:=MR (N1 G) V;rw[if_neg λz=>G z.1];by_cases Y:j=p
      .subst Y;rw[if_pos rfl];exact y _ a3
      .rw[if_neg Y];by_cases T:p<j
       .rw[if_pos ⟨T,m⟩];exact o _ _ (Lp a3 (Ou T)) (Ov (Oa d) m)
       .rw[if_neg λz=>T z.1];exact o _ _ d (Lp (MR (N1 T) Y) F)
end
section
variable {prog:LJ}{w:Mp}{A:ML}{E:Lw→LB→Prop}{s:LB}{pd:Array (Nat×Nat×Nat)}
theorem Up.more(f:∀x y z,R x y=true->R y z=true->R x z=true){lo m:Nat}(S:Up R a lo m)(c:1<=m)(h:R (gt a (lo+m-1)) (gt a (lo+m))=true):Up R a lo (m+1):=λi j b d=>by
 rcases LY (Mt d) with z |z
 .exact S i j b z
 .subst z;have e:=(N_ c lo).symm;rcases LY (Ou b) with y |y
  .have:=S i (j-1) y (Ov c (Lk j));rw[e]at this;exact f _ _ _ this h
  .subst y;rw[e];exact h
theorem Dn.more(f:∀x y z,R x y=true->R y z=true->R x z=true){lo m:Nat}(S:Dn R a lo m)(c:1<=m)(h:R (gt a (lo+m)) (gt a (lo+m-1))=true):Dn R a lo (m+1):=λi j b d=>by
 rcases LY (Mt d) with z |z
 .exact S i j b z
 .subst z;have e:=(N_ c lo).symm;rcases LY (Ou b) with y |y
  .have:=S i (j-1) y (Ov c (Lk j));rw[e]at this;exact f _ _ _ h this
  .subst y;rw[e];exact h
theorem rvs{st:OA}(h:Q () (setArr st (W2 (Mi st) i j ((j-i)/2)))):wpS (L6 prog w) A E s (reverseSlice' i j) Q st:=by
 rw[reverseSlice'_eq];exact Re h
variable (K:Asks prog w A E s κ P R)
include K
theorem cnt(O:Ord P R l){lo g:Nat}{st:OA}(T:lo+g<=l.length)(B:1<=g)(S:Stt κ l pd st)
  (h:∀m a,Stt κ l pd a->Kept (Mi st) (Mi a) lo->1<=m->m<=g->Up R (Mi a) lo m->Q (some m) a):wpS (L6 prog w) A E s (countRun' lo g) Q st:=by
 have L:∀x,x<g->lo+x<l.length:=λx h=>Lp (Nk h lo) T;have o:∀x,x<g->lo+x-1<l.length:=λx h=>ME (SR _ _) (L x h);have NE:∀x,1<=x->lo+x-1≠lo+x:=λx h=>L3 (Ov (Lp h (Ut x lo)) (Lk _));rw[countRun'_eq];dsimp only;refine LI (Rn (OB (I:=λx c a=>a=st/\c=(none,x)/\Up R (Mi st) lo x) (Q:=λc a=>a=st/\∃n,c=(none,n)/\1<=n/\n<=g/\Up R (Mi st) lo n/\(n<g->R (gt (Mi st) (lo+n)) (gt (Mi st) (lo+n-1))=true)) ?s1 ?f1 ⟨rfl,rfl,λi j U W=>absurd (Lp U (Mt W)) (ON _)⟩) ?p1)
 case s1=>
  rintro x c a b f ⟨rfl,rfl,u⟩;dsimp only;refine LI (ltK K O S (L x f) (o x f) ?_);dsimp only;by_cases k:R (gt (Mi a) (lo+x)) (gt (Mi a) (lo+x-1))=true
  .rw[if_pos k];exact LU ⟨rfl,x,rfl,b,Lu f,u,λ_=>k⟩
  .rw[if_neg k];exact LU ⟨rfl,rfl,u.more O.tr b (S.tot O (L x f) (o x f) (NE x b).symm (eq_false_of_ne_true k))⟩
 case f1=>
  rintro c a ⟨rfl,rfl,u⟩;rw[Tr B]at u |-;exact⟨rfl,g,rfl,B,Lk _,u,λz=>absurd z (Mh _)⟩
 case p1=>
  rintro c a ⟨rfl,n,rfl,p,v,u,Z⟩;dsimp only;by_cases e:(n==g)=true
  .rw[if_pos e];exact LU (h n _ S (λ_ _=>rfl) p v u)
  rw[if_neg e];have F:n<g:=MR v (bn e);by_cases C:n >1
  .rw[if_pos C];refine LI (ltK K O S (L 0 B) (o n F) ?_);dsimp only;have z:=u 0 (n-1) (Qs C) (On p NV);rw[Qf,<-N_ p lo]at z;rw[if_pos z];exact LU (h n _ S (λ_ _=>rfl) p v u)
  rw[if_neg C];obtain rfl:n=1:=OP (N1 C) p;have Y:Dn R (Mi a) lo 2:=Dn.more O.tr (λi j x y=>absurd (Lp x (Mt y)) (ON _)) (Lk _) (Z F);refine LI (ru ?_)
  try dsimp only
  refine LI (Rn (OB (I:=λx c st2=>st2=a/\c=(none,x,0)/\Dn R (Mi a) lo x) (Q:=λc st2=>st2=a/\∃n,c=(none,n,0)/\2<=n/\n<=g/\Dn R (Mi a) lo n) ?s2 ?f2 ⟨rfl,rfl,Y⟩) ?p2)
  case s2=>
   rintro x c st2 b f ⟨rfl,rfl,u⟩;dsimp only;refine LI (ltK K O S (L x f) (o x f) ?_);dsimp only;by_cases k:R (gt (Mi st2) (lo+x)) (gt (Mi st2) (lo+x-1))=true
   .rw[if_pos k,if_neg (by lia)];exact LU ⟨rfl,rfl,u.more O.tr (Lu b) k⟩
   .rw[if_neg k];refine LI (ltK K O S (o x f) (L x f) ?_);dsimp only;rw[if_pos (S.tot O (L x f) (o x f) (NE x (Lu b)).symm (eq_false_of_ne_true k))];exact LU ⟨rfl,x,rfl,b,Lu f,u⟩
  case f2=>
   rintro c st2 ⟨rfl,rfl,u⟩;rw[Tr F]at u |-;exact⟨rfl,g,rfl,F,Lk _,u⟩
  case p2=>
   rintro c st2 ⟨rfl,n,rfl,p,v,d⟩;dsimp only;rw[if_neg (by lia)];refine LI (rvs ?_);have sz:=S.size;have D:Stt κ l pd (setArr st2 (W2 (Mi st2) lo (lo+n) ((lo+n-lo)/2))):=S.arr (mirror_perm _ _ _ _);have G:lo+n<=(Mi st2).size:=sz.symm ▸ LN (MZ v lo) T
   have M:∀i,i<n->lo+(lo+n)-1-(lo+i)=lo+(n-1-i):=λi r=>by
    rw[N_ (Lp (Oa r) (Ut n lo)),Nat.add_sub_add_left,N_ (Oa r),N_ (Ou r)]
   have J:Kept (Mi st2) (W2 (Mi st2) lo (lo+n) ((lo+n-lo)/2)) lo:=λj t=>by
    rw[wj G,if_neg λz=>XR.mpr z.1 t]
   have N:Up R (W2 (Mi st2) lo (lo+n) ((lo+n-lo)/2)) lo n:=λi j H t=>by
    have r:=MP H t;rw[wj G,wj G,if_pos ⟨L5 _ _,Nk r lo⟩,if_pos ⟨L5 _ _,Nk t lo⟩,M i r,M j t];exact d _ _ (Nat.sub_lt_sub_left (Lp H (Ou t)) H) (ME (SR _ _) (On (Oa r) NV))
   have q:1<=n:=Lu p;generalize YH:setArr st2 (W2 (Mi st2) lo (lo+n) ((lo+n-lo)/2))=st3 at D |-;have ha:Mi st3=W2 (Mi st2) lo (lo+n) ((lo+n-lo)/2):=by rw[<-YH]
   rw[<-ha]at J N;refine LI (Rn (OB (I:=λx c a=>a=st3/\c=(none,x)/\Up R (Mi st3) lo x) (Q:=λc a=>a=st3/\∃m,c=(none,m)/\1<=m/\m<=g/\Up R (Mi st3) lo m) ?s3 ?f3 ⟨rfl,rfl,N⟩) ?p3)
   case s3=>
    rintro x c a b f ⟨rfl,rfl,u⟩;dsimp only;refine LI (ltK K O D (L x f) (o x f) ?_);dsimp only;by_cases k:R (gt (Mi a) (lo+x)) (gt (Mi a) (lo+x-1))=true
    .rw[if_pos k];exact LU ⟨rfl,x,rfl,LN q b,Lu f,u⟩
    .rw[if_neg k];exact LU ⟨rfl,rfl,u.more O.tr (LN q b) (D.tot O (L x f) (o x f) (NE x (LN q b)).symm (eq_false_of_ne_true k))⟩
   case f3=>
    rintro c a ⟨rfl,rfl,u⟩;rw[Tr v]at u |-;exact⟨rfl,g,rfl,B,Lk _,u⟩
   case p3=>
    rintro c a ⟨rfl,m,rfl,V,X,u⟩;exact LU (h m _ D J V X u)
end
section
variable {prog:LJ}{w:Mp}{A:ML}{E:Lw→LB→Prop}{s:LB}
def Ch(R:MU->MU->Bool)(a:Array MU):List (Nat×Nat×Nat)->Nat->Nat->Prop
 |[],x,y=>x=y
 |r::t,x,y=>r.1=x/\0<r.2.1/\Up R a x r.2.1/\Ch R a t (x+r.2.1) y
theorem Ch.len:∀{p}{x y},Ch R a p x y->x+p.length<=y
 |[],x,y,h=>by have:x=y:=h;simp;lia
 |r::t,x,y,h=>by
  have:=Ch.len h.2.2.2;have:=h.2.1;simp;lia
theorem Ch.app:∀{p q}{x y},Ch R a (p++q) x y↔∃z,Ch R a p x z/\Ch R a q z y
 |[],q,x,y=>⟨λh=>⟨x,rfl,h⟩,λ⟨z,c,b⟩=>by have:x=z:=c;subst this;exact b⟩
 |r::t,q,x,y=>by
  constructor
  .rintro ⟨c,b,e,d⟩;obtain⟨z,g,f⟩:=Ch.app.mp d;exact⟨z,⟨c,b,e,g⟩,f⟩
  .rintro ⟨z,⟨c,b,e,d⟩,i⟩;exact⟨c,b,e,Ch.app.mpr ⟨z,d,i⟩⟩
theorem Ch.congr:∀{p}{x y},(∀j,x<=j->j<y->gt b j=gt a j)->Ch R a p x y->Ch R b p x y
 |[],x,y,_,h=>h
 |r::t,x,y,e,h=>by
  have:=Ch.len h.2.2.2;refine⟨h.1,h.2.1,λi j c d=>?_,Ch.congr (λj g f=>e j (by lia) f) h.2.2.2⟩;rw[e _ (by lia) (by lia),e _ (by lia) (by lia)];exact h.2.2.1 i j c d
theorem Er(a)(j):gt a j=a.toList.getD j (Q6,Q6):=by simp[gt]
theorem JY{X Y:List MU}(h:j<X.length):(X++Y).getD j d=X.getD j d:=by
 rw[LP,LP,LO h]
theorem IV{X Y:List MU}(h:X.length<=j):(X++Y).getD j d=Y.getD (j-X.length) d:=by
 rw[LP,LP,LS h]
theorem ID{α:Type}(X)(a b v:α)(Y):((X++a::b::Y).set X.length v).eraseIdx (X.length+1)=X++v::Y:=by
 rw[Us _ _ (Lk _),Xk,List.eraseIdx_append_of_length_le (by lia),QX];rfl
theorem parts(L:List MU)(x y z):L=L.take x++(L.drop x).take y++(L.drop (x+y)).take z++L.drop (x+y+z):=by
 have c:=Mb x L;have b:=Mb y (L.drop x);have a:=Mb z (L.drop (x+y));rw[WK]at b a;rw[LH,a,LH,b,c]
variable (K:Asks prog w A E s κ P R)
include K
theorem J9(O:Ord P R l){lo i:Nat}{st:OA}(S:Stt κ l p st)(C:Ch R (Mi st) p.toList 0 lo)(Zx:lo<=l.length)(r:i+1<p.size)
  (h:∀Z n,Stt κ l Z n->Ch R (Mi n) Z.toList 0 lo->Z.size+1=p.size->(∀j,lo<=j->gt (Mi n) j=gt (Mi st) j)->Q true n):wpS (L6 prog w) A E s (mergeAt' i) Q st:=by
 have lp:p.toList.length=p.size:=by simp
 have o:i<p.size:=Mg r
 have ep:p.toList=p.toList.take i++(p[i]::p[i+1]::p.toList.drop (i+2)):=by
  conv=>lhs;rw[←Mb i p.toList,L8 (lp.symm ▸ o),L8 (lp.symm ▸ r)]
  rfl
 have L:(Pe st)[i]?=some (p[i].1,p[i].2.1,p[i].2.2):=by rw[S.pend,MQ o]
 have I:(Pe st)[i+1]?=some (p[i+1].1,p[i+1].2.1,p[i+1].2.2):=by rw[S.pend,MQ r]
 rw[ep]at C;obtain⟨sa,C1,e1,n1,u1,e2,n2,u2,C2⟩:=Ch.app.mp C;have C2l:=C2.len;generalize hp1:p[i]=r1 at *;generalize hp2:p[i+1]=r2 at *;obtain⟨a,b,D⟩:=r1;obtain⟨sb,c,pw2⟩:=r2;dsimp only at *;subst e1;subst e2;have sz:=S.size;have la:(Mi st).toList.length=l.length:=by rw[Ly,sz]
 have ha:=parts (Mi st).toList a b c;have h9:=LN (L5 _ _) C2l;have U:a+b+c<=(Mi st).toList.length:=la.symm ▸ LN h9 Zx;have t:=LN (L5 (a+b) c) U;have B:((Mi st).toList.take a).length=a:=OT (LN (L5 a b) t);have l1:(((Mi st).toList.drop a).take b).length=b:=OT (by rw[ND];exact Rv t);have l2:(((Mi st).toList.drop (a+b)).take c).length=c:=OT (by rw[ND];exact Rv U)
 have c1:∀j (g:j<(((Mi st).toList.drop a).take b).length),(((Mi st).toList.drop a).take b)[j]=gt (Mi st) (a+j):=λj g=>by
  rw[gt_eq (Lp (Nk (Qc g l1) a) t),Qt,Qu]
 have c2:∀j (g:j<(((Mi st).toList.drop (a+b)).take c).length),(((Mi st).toList.drop (a+b)).take c)[j]=gt (Mi st) (a+b+j):=λj g=>by
  rw[gt_eq (Lp (Nk (Qc g l2) _) U),Qt,Qu]
 generalize hX:(Mi st).toList.take a=X at *;generalize hS1:((Mi st).toList.drop a).take b=N at *;generalize hS2:((Mi st).toList.drop (a+b)).take c=J at *;generalize hY:(Mi st).toList.drop (a+b+c)=Y at *
 have u:∀x∈N++J,x∈l:=λx v=>S.perm.mem_iff.mp (by
  rw[ha];rcases Mm.mp v with z |z <;>simp[z])
 have nd:(X++N++J++Y).Nodup:=by rw[<-ha];exact S.perm.nodup_iff.mpr O.nd
 have W:MO R N J:=by
  refine⟨O.tr,LD.mpr λi j r g Yr=>?_,LD.mpr λi j r g Yr=>?_,λx v y hy hr=>O.tot y (u y (LR _ hy)) x (u x (Ms _ v)) (λe=>?_) hr⟩
  .rw[c1 i r,c1 j g];exact u1 i j Yr (Qc g l1)
  .rw[c2 i r,c2 j g];exact u2 i j Yr (Qc g l2)
  .have nd2:=(Qq.mp nd).1;exact (Qq.mp nd2).2.2 x (LR _ v) y hy e.symm
 refine mat K S.kind S.failed L I ha B l1 l2 rfl n1 n2 (λx v=>O.hp x (u x v)) W λG n k f V M m=>?_;have lS:G.length=b+c:=by rw[m.1.length_eq,LG,l1,l2]
 have T:(((Pe st).setIfInBounds i (a,b+c,D)).eraseIdxIfInBounds (i+1)).toList=p.toList.take i++((a,b+c,D)::p.toList.drop (i+2)):=by
  rw[S.pend]
  have z:((p.setIfInBounds i (a,b+c,D)).eraseIdxIfInBounds (i+1)).toList=(p.toList.set i (a,b+c,D)).eraseIdx (i+1):=by
   rw[Array.eraseIdxIfInBounds,dif_pos (by simpa using r),Array.toList_eraseIdx,Sh]
  have li:(p.toList.take i).length=i:=OT (lp.symm ▸ Lu o);have y:=ID (p.toList.take i) (a,b,D) (a+b,c,pw2) (a,b+c,D) (p.toList.drop (i+2));rw[<-ep,li]at y;rw[z,y]
 rw[<-V]at T;have e3:(X++G).length=a+b+c:=by rw[LG,B,lS,PX]
 have e4:(X++N++J).length=a+b+c:=by rw[LG,LG,B,l1,l2]
 have F:∀j,a+b+c<=j->gt (Mi n) j=gt (Mi st) j:=λj g=>by
  rw[Er,Er,M,ha,IV (e3.symm ▸ g),IV (e4.symm ▸ g),e3,e4]
 refine h (Pe n) n ⟨k,f,?_,rfl⟩ ?_ ?_ λj g=>?_
 .rw[M];refine Wp ?_ S.perm;rw[ha];refine TU _ ?_;rw[LH];exact Pb _ m.1
 .rw[T];refine Ch.app.mpr ⟨a,C1.congr λj L I=>?_,rfl,Nat.add_pos_left n1 c,λx y H hy=>?_,?_⟩
  .rw[Er,Er,M,ha];simp only[LH];rw[JY (B.symm ▸ I),JY (B.symm ▸ I)]
  .have q:∀j (g:j<G.length),gt (Mi n) (a+j)=G[j]:=λj g=>by
    rw[<-B];exact w_ (by rw[M,LH]) g
   dsimp only at hy;have Zs:y<G.length:=lS.symm ▸ hy;rw[q x (MP H Zs),q y Zs];exact LD.mp m.2 _ _ _ _ H
  .dsimp only;rw[<-PX];exact C2.congr λj L I=>F j L
 .have e5:i+2+(p.size-(i+2))=p.size:=Mx r;rw[<-Ly,T,LG,LF,ND,OT (lp.symm ▸ Lu o),lp];generalize p.size-(i+2)=d at *;lia
 .exact F j (LN h9 g)
end
section
variable {prog:LJ}{w:Mp}{A:ML}{E:Lw→LB→Prop}{s:LB}
theorem ilt[Decidable c](e:a+1<n)(d:b+1<n):(if c then a else b)+1<n:=by split <;>assumption
theorem Ch.modL(pw):∀{p} k {x y},Ch R a p x y->Ch R a (p.modify k λr=>(r.1,r.2.1,pw)) x y
 |[],k,x,y,h=>by rw[List.modify_nil];exact h
 |r::t,0,x,y,h=>by rw[List.modify_zero_cons];exact h
 |r::t,k+1,x,y,h=>by rw[List.modify_succ_cons];exact⟨h.1,h.2.1,h.2.2.1,Ch.modL pw k h.2.2.2⟩
theorem Ch.mod{p:Array (Nat×Nat×Nat)}(h:Ch R a p.toList x y)(pw k):Ch R a (p.modify k λr=>(r.1,r.2.1,pw)).toList x y:=by
 rw[Array.toList_modify];exact h.modL pw k
variable (K:Asks prog w A E s κ P R)
include K
theorem sruns(O:Ord P R l){st:OA}(S:Stt κ l #[] st)(h:∀pd X0,Stt κ l pd X0->Up R (Mi X0) 0 l.length->Q () X0):wpS (L6 prog w) A E s sortRuns' Q st:=by
 rw[sortRuns'_eq];refine LI (Sy ?_)
 try dsimp -zeta only
 simp -zeta only[S.size];refine LI (Rn (J7 (I:=λx c X0=>∃lo pd,c=(none,lo)/\Stt κ l pd X0/\Ch R (Mi X0) pd.toList 0 lo/\lo<=l.length/\x<=lo) (Q:=λc X0=>∃pd,c=(none,l.length)/\Stt κ l pd X0/\Ch R (Mi X0) pd.toList 0 l.length) ?step ?fin ⟨0,#[],rfl,S,rfl,Mu _,Mu _⟩) ?post)
 case fin=>
  rintro c X0 ⟨lo,pd,rfl,S',C,Zx,px⟩;obtain rfl:lo=l.length:=by lia
  exact⟨pd,rfl,S',C⟩
 case step=>
  rintro x c X0 hx ⟨lo,pd,rfl,S',C,Zx,px⟩ post qd qy;dsimp -zeta only;refine wif (λ(hge:lo ≥ l.length)=>LU (qd _ _ ⟨pd,by rw[show lo=l.length by lia],S',by rw[show lo=l.length by lia]at C;exact C⟩)) λhge=>?_;have hge:¬ lo ≥ l.length:=hge;refine LI (cnt K O (show lo+(l.length-lo)<=l.length by lia) (by lia) S' λm st2 S2 kp m1 m2 u=>?_);dsimp -zeta only
  extract_lets+onlyGivenNames q1 j
  have hj:∀nn st3,0<nn->nn<=l.length-lo->Stt κ l pd st3->Ch R (Mi st3) pd.toList 0 lo->Up R (Mi st3) lo nn->wpS (L6 prog w) A E s (j () nn) post st3:=λnn st3 f1 f2 S3 C3 u3=>by
   refine LI (Sy ?_);have hp:Pe st3=pd:=S3.pend;rw[hp];dsimp only;cases hb:pd.back? with
   |none=>
    try dsimp only
    refine LI (Re (LU (qy _ _ ⟨lo+nn,pd.push (lo,nn,0),rfl,?_,?_,by lia,by lia⟩)))
    .exact⟨S3.kind,S3.failed,S3.perm,by show (Pe st3).push _=_;rw[hp]⟩
    .rw[OE];exact Ch.app.mpr ⟨lo,C3,rfl,f1,u3,rfl⟩
   |some v=>
    obtain⟨s1,n1,pw0⟩:=v
    try dsimp only
    generalize power' _ _ _ _=pw;refine LI (Rn (OB (I:=λ_ c X0=>∃pd,c=(none,())/\Stt κ l pd X0/\Ch R (Mi X0) pd.toList 0 lo/\Up R (Mi X0) lo (nn)) (Q:=λc X0=>∃pd,c=(none,())/\Stt κ l pd X0/\Ch R (Mi X0) pd.toList 0 lo/\Up R (Mi X0) lo (nn)) ?_ (λ_ _ z=>z) ⟨pd,rfl,S3,C3,u3⟩) ?_)
    .rintro y c st4 _ hy ⟨pd,rfl,S4,C4,u4⟩
     try dsimp only
     refine LI (Sy ?_);rw[S4.pend];by_cases hs:pd.size >1
     .rw[if_pos hs,MQ (show pd.size-2<pd.size by lia)];generalize pd[pd.size-2]=q;obtain⟨q1,q2,q3⟩:=q
      try dsimp only
      by_cases ho:q3<=pw
      .rw[if_pos ho];exact LU ⟨pd,rfl,S4,C4,u4⟩
      .rw[if_neg ho];refine LI (J9 K O S4 C4 Zx (show pd.size-2+1<pd.size by lia) λp' st5 S5 C5 _ k5=>?_);simp only[NF,LM,if_false];exact LU ⟨p',rfl,S5,C5,λi j Yr hj=>by rw[k5 _ (by lia),k5 _ (by lia)];exact u4 i j Yr hj⟩
     .rw[if_neg hs];exact LU ⟨pd,rfl,S4,C4,u4⟩
    .rintro c st4 ⟨pd,rfl,S4,C4,u4⟩
     try dsimp only
     have hp4:=S4.pend;refine LI (Re ?_);refine LI (Re (LU (qy _ _ ⟨lo+nn,(pd.modify (pd.size-1) λr=>(r.1,r.2.1,pw)).push (lo,nn,0),rfl,?_,?_,by lia,by lia⟩)))
     .refine⟨S4.kind,S4.failed,S4.perm,?_⟩;show ((Pe st4).modify ((Pe st4).size-1) λr=>(r.1,r.2.1,pw)).push _=_;rw[hp4]
     .rw[OE];exact Ch.app.mpr ⟨lo,C4.mod pw _,rfl,f1,u4,rfl⟩
  have C2:Ch R (Mi st2) pd.toList 0 lo:=C.congr λj _ hj=>kp j hj;refine wif (λ(hm:m<minRun' l.length l.length 0)=>?_) λ_=>hj m st2 (by lia) (by lia) S2 C2 u;refine LI (ru (LI (KY K O (show lo+min (l.length-lo) (minRun' l.length l.length 0)<=l.length by lia) (show m<=min (l.length-lo) (minRun' l.length l.length 0) by lia) S2 u λst3 S3 k3 u3=>?_)));exact wif (λz=>by simp at z) λ_=>hj _ _ (by lia) (by lia) S3 (C2.congr λj _ hj=>k3 j hj) u3
 case post=>
  rintro c X0 ⟨pd,rfl,S',C⟩
  try dsimp only
  refine LI (Rn (OB (I:=λx c X0=>∃pd,c=(none,())/\Stt κ l pd X0/\Ch R (Mi X0) pd.toList 0 l.length/\(pd.size<=1\/pd.size<=l.length-x)) (Q:=λc X0=>∃pd,c=(none,())/\Stt κ l pd X0/\Ch R (Mi X0) pd.toList 0 l.length/\pd.size<=1) ?s2 ?f2 ⟨pd,rfl,S',C,.inr (by have:=C.len;rw[Ly]at this;lia)⟩) ?p2)
  case s2=>
   rintro y c st4 _ hy ⟨pd,rfl,S4,C4,hs⟩
   try dsimp only
   refine LI (Sy ?_);rw[S4.pend];by_cases h1:pd.size<=1
   .rw[if_pos h1];exact LU ⟨pd,rfl,S4,C4,h1⟩
   .rw[if_neg h1];refine LI (J9 K O S4 C4 (Lk _) (ilt (by lia) (by lia)) λp' st5 S5 C5 e5 k5=>?_);simp only[NF,LM,if_false];exact LU ⟨p',rfl,S5,C5,by lia⟩
  case f2=>
   rintro c st4 ⟨pd,rfl,S4,C4,hs⟩;exact⟨pd,rfl,S4,C4,by lia⟩
  case p2=>
   rintro c st4 ⟨pd,rfl,S4,C4,h1⟩;refine LU (h pd st4 S4 ?_);rw[<-Ly]at h1;generalize pd.toList=L at *;cases L with
   |nil=>have:0=l.length:=C4
         intro i j Yr hj;lia
   |cons r t=>
    cases t with
    |nil=>
     obtain⟨_,_,u,e⟩:=C4;have e':0+r.2.1=l.length:=e;rw[Pf]at e';rw[<-e'];exact u
    |cons r2 t=>simp at h1
end
end TS
namespace ST
open PySem PySem.W PyProof.Rows
theorem JI{α o:Type}{f:α->o}:∀{l1 l2},l1.Perm l2->∀l,l2=l.map f->∃l':List α,l'.Perm l/\l'.map f=l1:=by
 intro l1 l2 h
 induction h with
 |nil=>intro l e;exact⟨l,.refl _,e.symm⟩
 |cons x _ m=>
  intro l e;cases l with
  |nil=>cases e
  |cons a t=>
   obtain⟨i,d⟩:=QY e;obtain⟨l',p,q⟩:=m t d;exact⟨a::l',p.cons a,by rw[LK,q,i]⟩
 |swap x y r=>
  intro l e
  match l,e with
  |a::b::t,e=>
   obtain⟨i,d⟩:=QY e;obtain⟨s,n⟩:=QY d;exact⟨b::a::t,.swap a b t,by rw[LK,LK,i,s,n]⟩
 |trans _ _ g j=>
  intro l e;obtain⟨l',p,q⟩:=j l e;obtain⟨c,u,k⟩:=g l' q.symm;exact⟨c,u.trans p,k⟩
section
variable {prog:LJ}{w:Mp}{A:ML}{E:Lw→LB→Prop}{s:LB}
theorem TK.det{p q:(Int×Int)×LX}(k:TK prog w h [p.1.1,p.1.2] p.2)(m:TK prog w h [q.1.1,q.1.2] q.2)(e:p.2=q.2):p=q:=by
 obtain⟨o,its,n,t,u,d,_,f,c⟩:=k.two;obtain⟨r,g,s,x,v,j,_,i,l⟩:=m.two;rw[e,j]at d;cases d;rw[i]at f;cases f;rw[l]at c;have b:=(QY c).1;have a:=(QY (QY c).2).1;injection b with b _
 injection a with a _;exact MS (MS b.symm a.symm) e
end
end ST
namespace L2
open PySem PySem.Spec PyProof.Rows
theorem Kk{p:Nat->LX->Prop}{n:Nat}(h:∀i,i<n->∃b,p i b):∃f:Nat->LX,∀i,i<n->p i (f i):=by
 refine⟨λi=>if k:i<n then VZ (h i k) else 0,λi a=>?_⟩;dsimp only;rw[dif_pos a];exact Ui (h i a)
end L2
namespace L2
open PySem PySem.Spec PySem.W PyProof.Rows
abbrev T'(l:List Nat):Str:=⟨l.toArray⟩
theorem Ds(x):x=T' x.cps.toList:=by cases x;simp[T']
theorem bu(l):(T' l).length=l.length:=by simp[Str.length]
theorem nZ(l m):T' l++T' m=T' (l++m):=by
 show Str.mk _=Str.mk _;simp
def Itx(x:Str):It:=⟨λi _=>i<x.cps.size,λi H v a=>a=H/\∃c,x.cps[i]?=some c/\v=.str ⟨#[c]⟩,λi _=>x.cps.size<=i⟩
theorem qm(h:A.handled=none)(it)(x)(t:Tok):Walks P w A it [it] [it] x.cps.size (SignAt x) (λi hp=>hp.IsStrIter it (Td x) x t i):=by
 unfold Td;split
 .exact Walks.strAscii h it x t
 .exact Walks.strWide h it x t
theorem Cz{P:LJ}{w:Mp}{K:Le}{T:Expr}(f:LX)(x:Str)(t:Tok):vP P w K T (Itx x) [f] f (λi h=>i<=x.cps.size/\h.IsStrIter f (Td x) x t i) where
 mem:=by simp
 obj:=λi h a b hb=>by
  have e:b=f:=by simpa using hb
  subst e;obtain⟨_,o,e,c,d⟩:=a;exact⟨o,e,λv z=>by rw[d]at z;cases z⟩
 keep:=λi h D a k=>⟨a.1,by obtain⟨o,e,c,d⟩:=a.2;exact⟨o,k f (by simp) o e,c,d⟩⟩
 item:=by
  intro X G n F C i N s M H E I j a g;subst G n F;obtain⟨p,y,R,l,q,m⟩:=j f (by simp);have W:=qm (P:=X.prog) (w:=X.w) (I.ok.hd C) f x t;refine W.item i s _ _ g a.2 λv D J U L r=>?_;obtain⟨c,u,B,rfl⟩:=U;have O:Inv X N M H {s with heap:=D,toks:=J }:=I.turned (λb o hb e=>r b o (by simpa using hb) e) p y l q m;obtain⟨o,e,V,d⟩:=id L;exact⟨_,rfl,vn e V d (by unfold Td;split <;>decide) ⟨.str ⟨#[c]⟩,H,O,⟨u,rfl⟩,⟨rfl,c,B,rfl⟩,⟨g,L⟩,λb hb=>(j b hb).1⟩⟩
 done:=by
  intro X G n F C i N s M H E I j a g;subst G n F;obtain⟨p,y,R,l,q,m⟩:=j f (by simp);have W:=qm (P:=X.prog) (w:=X.w) (I.ok.hd C) f x t;have S:=g;have e:=OP a.1 S;subst e;exact W.done s _ _ a.2 λD J r=>⟨rfl,I.turned (λb o hb e=>r b o (by simpa using hb) e) p y l q m⟩
 self:=λA i s Q E a h=>by
  obtain⟨_,a⟩:=a;unfold Td at a;split at a
  .exact wpAny_pyIter_striter_ascii a h
  .exact wpAny_pyIter_striter_wide a h
section
variable {X:Cx}{tg:Expr}
theorem Hf(j:PE X l tl):PI X tg l (λc H R=>tl c H λx f=>∃z,x=.str z/\R (Itx z) f):=by
 intro k s c H R I h;refine thn (j k s c H _ I h) λv d i=>?_;obtain⟨x,f,a,g,m⟩:=i;obtain⟨z,e,q⟩:=m;subst e;obtain⟨t,rfl⟩:=g;refine wpAny_pyIter_strU ?_;refine⟨d.heap.objs.size,[d.heap.objs.size],_,_,f,rfl,a.kept λb o e=>Lj _ e,Cz _ z t,⟨Mu _,_,LC _ rfl,rfl,rfl⟩,λb hb=>?_,q⟩;have e:b=d.heap.objs.size:=by simpa using hb
 subst e;exact a.fpOk (Lk _) (a.hok.fresh (Lk _))
end
abbrev sg(c:Nat):U:=.str ⟨#[c]⟩
variable {H0:Hp}{O0:List LX}{es:List Expr}{X7:Pos}{X4:Pos}
section
variable {X:Cx}{ps:PSt}{a b e tg:Expr}{XY p p2:Pos}{x y:Str}{i:Int}{lo hi:Option Expr}{l h:Option Int}
theorem Cd(f:Ev X H0 O0 ps e (.str x)):EvI X H0 O0 ps tg e (x.cps.toList.map sg):=
 PI.mono (Hf f) λj H Q ⟨O,R,q⟩=>⟨O,R,λv d s r=>by
  cases r;refine⟨x,rfl,q _ d s λg h=>⟨λi hi=>?_,?_⟩⟩
  .have a:i<x.cps.size:=by simpa using hi
   refine⟨a,λz k y=>⟨y.1,sg x.cps[i],by simp[a],?_⟩⟩;obtain⟨_,c,b,rfl⟩:=y;rw[MQ a]at b;cases b;exact .str _
  .show x.cps.size<=_;simp⟩
theorem fc(f:Ev X H0 O0 ps a (.str x))(c:Ev X H0 O0 ps b (.str y))(h:x.length+y.length<=sizeLine):Ev X H0 O0 ps (.BinOp a .Add b XY) (.str (x++y)):=
 PE.mono (uI vK f c) λi H Q ⟨O,R,k⟩=>two R (λ_ _ _ z=>z) (λ_ _ _ z=>z) λv w g s _ d e=>by
  cases d;cases e;exact⟨x,y,rfl,rfl,h,k _ g s (.str _)⟩
theorem Jw(f:Ev X H0 O0 ps a (.str x))(d:Ev X H0 O0 ps b (.int i))(j:x.length<=sizeLine)(hi:atI x.cps.toList i=some c)(hs:mH b:=by intro _ _;rfl):Ev X H0 O0 ps (.Subscript a b XY) (sg c):=
 PE.mono (AV Ig f d hs) λk H Q ⟨O,R,q⟩=>two R (λ_ _ _ z=>z) (λ_ _ _ z=>z) λv w h s _ e g=>by
  cases e;cases g;exact⟨x,i,c,rfl,rfl,j,hi,q _ h s (.str _)⟩
theorem iK(b:x.length≤sizeLine):eF X (.builtin "len") [.str x] (.int x.length):=cZ.mono qS λc H Q a=>by
 obtain⟨O,d,r,q⟩:=a;obtain⟨v,rfl,h⟩:=cL r;cases h;exact⟨x,rfl,b,q _ H (.refl H) (.int _)⟩
theorem GW:SlR X (λx lo hi H Q=>∃z,x=.str z/\z.length<=sizeLine/\Q (.str (StrLaws.sliceText z lo hi)) H):=by
 intro r s n H x v C D lo hi g Q I m b o pu h;obtain⟨z,rfl,B,q⟩:=h;have f:=Txt.slice_le z lo hi;obtain⟨t,rfl⟩:=m;refine⟨"str",_,slot_str_getitem.lookup,rfl,?_⟩
 have a:∀l u,l.map (·.1)=lo->u.map (·.1)=hi->s.heap.IsSlice g l u none->Me (L6 X.prog X.w) X.A (Vr (.str z t) (.ref g)) (EP X r n Q) X.xe s:=λl u y p d=>by
  refine wpAny_getItem_str_slice d (by decide) ?_;unfold sliceMade slicePicked;rw[y,p];unfold StrLaws.sliceText at q;split at q
  .rename_i c
   rw[if_pos (by exact c)];exact⟨.str z,H,I,⟨t,rfl⟩,q⟩
  .rename_i c
   rw[if_neg (by exact c)];unfold Txt.slice at f;rw[if_neg (by exact c)]at f
   exact⟨LN f B,.str _,H,I.tok _,⟨_,rfl⟩,q⟩
 cases o with
 |none=>
  cases pu with
  |none=>exact a none none rfl rfl b
  |int j e=>exact a none (some (j,e)) rfl rfl b
 |int i k=>
  cases pu with
  |none=>exact a (some (i,k)) none rfl rfl b
  |int j e=>exact a (some (i,k)) (some (j,e)) rfl rfl b
theorem nU(i:Ev X H0 O0 ps e (.str x))(c:EvO X H0 O0 ps lo l)(f:EvO X H0 O0 ps hi h)(d:x.length<=sizeLine):Ev X H0 O0 ps (.Subscript e (.Slice lo hi none p2) XY) (.str (StrLaws.sliceText x l h)):=
 PE.mono (uw GW i c f) λm H Q ⟨O,R,q⟩=>⟨O,R,λv o a g=>⟨O,R.go a,λn b=>⟨O,R.go (a.trans b),λj k=>by
  cases g;exact⟨x,rfl,d,q _ j ((a.trans b).trans k) (.str _)⟩⟩⟩⟩
theorem Ap:MtR X "str.startswith" (λv a H Q=>∃x y,v=.str x∧a=[.str y]∧Q (.bl (Txt.startswith x y)) H):=by
 intro f s d H v a u e Q I b c h;obtain⟨x,y,rfl,rfl,q⟩:=h;obtain⟨t,rfl⟩:=b;obtain⟨g,rfl,k⟩:=dW c;obtain⟨i,rfl⟩:=k;exact SC.startswith ⟨.bl _,H,I,rfl,q⟩
theorem B_(j:Ev X H0 O0 ps a (.str x))(f:Ev X H0 O0 ps e (.str y))(c:Lr [e] X.env=(false,N4 e X.env)::Lr [] X.env)
  (Yf:autoParam (NC a "startswith" X.env (N4 a X.env)=N4 a X.env) zM)
  (YO:autoParam (((NT X4 (Lr [e] X.env)).all (λx=>!x.1) && (Ri X4 (Pm [] X.env)).all (λx=>x.1.isSome) && decide ([e].length+([]:List Q9).length+(if ([]:List Q9).isEmpty then 0 else 1)<30))=true) zM)
  (Yg:autoParam ((X7.endLine==X4.line)=true) zM) (Yh:autoParam ((NT X4 (Lr [] X.env)).any (·.1)=false) zM):
  Ev X H0 O0 ps (.Call (.Attribute a "startswith" X7) [e] [] X4) (.bl (Txt.startswith x y)):=
 PE.mono (uJ OU PySem.F.slot_str_startswith PySem.F.type_str_startswith Ap j (ci f fi c) Yf YO Yg c Yh) λk H Q ⟨O,R,q⟩=>⟨O,R,λv l b i=>by
  cases i;exact⟨rfl,O,R.go b,λw g d h=>by cases h;exact⟨x,y,rfl,rfl,q _ g (b.trans d) (.bl _)⟩⟩⟩
theorem wx(h:UO x=some n)(e:x.length≤640):eF X (.type "int") [.str x] (.int n):=by
 intro i s f H j g Q I r c;obtain⟨O,d,a,q⟩:=c;obtain⟨v,rfl,b⟩:=cL a;cases b;obtain⟨u,rfl,⟨t,rfl⟩⟩:=dW r;exact KIN.call_text h e ⟨.int n,H,I.tok _,⟨_,rfl⟩,q _ H (.refl H) (.int _)⟩
theorem dF(h:i.natAbs.log2<1920):eF X (.type "str") [.int i] (.str (Str.ofString (O9 i))):=cZ.mono rg λb H Q a=>by
 obtain⟨O,d,r,q⟩:=a;obtain⟨v,rfl,k⟩:=cL r;cases k;exact⟨i,rfl,h,q _ H (.refl H) (.str _)⟩
theorem Js:OpS X (MC .In) (.str x) (.str y) (.bl (!(Builtin.Str.occurrences y x 0 y.length 1).isEmpty)):=by
 intro d s a H v w p q Q I e g h;obtain⟨b,f,c⟩:=h;cases b;cases f;exact Ax d s a H _ _ p q Q I e g ⟨x,y,rfl,rfl,c⟩
theorem IO(a:Gl X z)(h:∃t,X.mg z=some (.str v t))(c:autoParam ((z==("__debug__":Str))=false) zR):Ev X H0 O0 ps (.Name z XY) (.str v):=by
 obtain⟨t,b⟩:=h;exact PE.mono (xF (v:=.str v) a b ⟨t,rfl⟩ c) λ_ H _ ⟨_,_,k⟩=>k _ H (.refl H) (.str v)
end
theorem Ep(j n:Nat):Builtin.Str.strSliceIndices none (some (j:Int)) 1 n=Builtin.Str.strSliceIndices (some ((0:Nat):Int)) (some ((min j n:Nat):Int)) 1 n:=by
 have c:¬ (j:Int)<0:=by lia
 have b:¬ ((min j n:Nat):Int)<0:=by lia
 have a:max 0 (min (j:Int) n)=max 0 (min ((min j n:Nat):Int) n):=by lia
 unfold Builtin.Str.strSliceIndices;simp[c,b];rw[a,show max 0 (min 0 (n:Int))=0 by lia]
theorem zW(i n:Nat):Builtin.Str.strSliceIndices (some (i:Int)) none 1 n=Builtin.Str.strSliceIndices (some ((min i n:Nat):Int)) (some (n:Int)) 1 n:=by
 have b:¬ (i:Int)<0:=by lia
 have a:¬ ((min i n:Nat):Int)<0:=by lia
 unfold Builtin.Str.strSliceIndices;simp[b,a];congr 1 <;>lia
theorem DN{a b:Nat}(e:Builtin.Str.strSliceIndices l h 1 x.length=Builtin.Str.strSliceIndices (some (a:Int)) (some (b:Int)) 1 x.length)(d:a<=b)(c:b<=x.length):StrLaws.sliceText x l h=T' ((x.cps.toList.drop a).take (b-a)):=by
 have:=StrLaws.sliceText_nat x d c;unfold StrLaws.sliceText at this |-;rw[e];exact this
theorem HX(l)(j:Nat):StrLaws.sliceText (T' l) none (some (j:Int))=T' (l.take j):=by
 rw[DN (Ep j _) (Mu _) (V1 _ _)];refine congrArg T' ?_;rw[bu];rw[Sw,Rt];by_cases h:j<=l.length
 .rw[Og h]
 .rw[QD (by lia),Mf (Lk _),Mf (by lia)]
theorem m_(l)(i:Nat):StrLaws.sliceText (T' l) (some (i:Int)) none=T' (l.drop i):=by
 rw[DN (zW i _) (V1 _ _) (Lk _)];refine congrArg T' ?_;rw[bu];by_cases h:i<=l.length
 .rw[Og h,Mf (by simp)]
 .rw[QD (by lia),Q4 (Lk _),Q4 (by lia)];simp
theorem sub1(l)(c i):Builtin.Str.subAt (T' l) ⟨#[c]⟩ i=decide (l[i]?=some c):=by
 unfold Builtin.Str.subAt;rw[QU,beq_iff_eq,decide_eq_true_iff];show (l.toArray.extract i (i+1))=#[c]↔_;constructor
 .intro h;have a:=congrArg VI h;simp at a;cases e:l[i]? with
  |none=>
   have:l.length<=i:=List.getElem?_eq_none_iff.mp e;rw[Q4 this]at a;simp at a
  |some d=>
   obtain⟨g,f⟩:=Ls.mp e;have b:l.drop i=d::l.drop (i+1):=by rw[L8 g,f]
   rw[b,NJ,Rl]at a;injection a with a _
   rw[a]
 .intro h;obtain⟨g,f⟩:=Ls.mp h;apply RF.mp;simp;rw[L8 g];simp[f]
theorem FN(l)(c):Txt.startswith (T' l) ⟨#[c]⟩=decide (l.head?=some c):=by
 unfold Txt.startswith;rw[sub1];cases l with
 |nil=>simp[Str.length]
 |cons d r=>simp[Str.length]
theorem at1(l)(c i):StrLaws.At (T' l) ⟨#[c]⟩ (T' l).length i↔l[i]?=some c:=by
 unfold StrLaws.At;rw[sub1,decide_eq_true_iff,bu];exact⟨λh=>h.2,λh=>⟨(Ls.mp h).1,h⟩⟩
theorem in1(l)(c):(!(Builtin.Str.occurrences (T' l) ⟨#[c]⟩ 0 (T' l).length 1).isEmpty)=decide (c∈l):=by
 rcases StrLaws.occ_head (T' l) ⟨#[c]⟩ 1 (Lk _) with ⟨b,a⟩ |⟨i,r,b,a,_⟩
 .rw[b]
  symm
  refine decide_eq_false λh=>?_;obtain⟨i,d⟩:=Mn.mp h;exact a i ((at1 l c i).mpr d)
 .rw[b]
  symm
  exact decide_eq_true (LW ((at1 l c i).mp a))
theorem k8:∀l,aW ((l.map (·.1)).map V.str) (Uu l)
 |[]=>.nil
 | (_,t)::r=>.cons ⟨t,rfl⟩ (k8 r)
theorem uq{K:Le}(l:List Str):Rps K H (l.map V.str) (l.map U.str):=by
 refine⟨by simp,λi v x a b=>?_⟩;rw[Lq]at a b;cases e:l[i]? with
 |none=>rw[e]at a;cases a
 |some z=>rw[e]at a b;cases a;cases b;exact .str _
theorem FM{K:Le}:∀{l}{a}{its},aW a its->Rps K H a (l.map U.str)->∃m,its=Uu m/\m.map (·.1)=l:=by
 intro l
 induction l with
 |nil=>
  intro a its c b;obtain rfl:=b.nil_inv;cases c;exact⟨[],rfl,rfl⟩
 |cons x l f=>
  intro a its c b;obtain⟨v,d,rfl,j,h⟩:=b.cons_inv;cases c with
  |cons g i=>
   cases j;obtain⟨t,rfl⟩:=g;obtain⟨m,rfl,e⟩:=f i h;exact⟨(x,t)::m,rfl,by rw[LK,e]⟩
section
variable {X:Cx}{ps:PSt}{a b e:Expr}{x y:Str}
theorem Cs:MtR X "str.split" (λv m H Q=>∃x y,v=.str x∧m=[.str y]∧(y.length==0)=false∧x.length+2≤sizeLine∧∀p,H p=none→Q (.ref p) (upd H p (.lst ((Txt.split x y).map V.str)))):=by
 intro C s A H v m u D Q I n r h;obtain⟨x,y,rfl,rfl,hy,F,q⟩:=h;obtain⟨t,rfl⟩:=n;obtain⟨E,rfl,k⟩:=dW r;obtain⟨i,rfl⟩:=k;have B:=I.hok.fresh (Lk s.heap.objs.size);have len:=split_le x y
 have a:∀(l:List (Str×Tok)) (j:Nat),l.map (·.1)=Txt.split x y→EP X C A Q (.ref s.heap.objs.size) {s with heap:=s.heap.push {cls:=.type "list",data:=.seq (Uu l).toArray },toks:=j }:=λl j e=>
  ⟨.ref s.heap.objs.size,_,I.laid (t':=j) (λb o z=>Lj _ z) (Lk _) (show de X.prog X.w _ _ _ (.lst ((Txt.split x y).map V.str)) from ⟨by rw[Lg];lia,Uu l,_,by rw[<-e];exact k8 l,LC s.heap rfl⟩),rfl,q _ B⟩
 by_cases c:(decide (x.length<y.length) ||decide (Builtin.Str.strKind x<Builtin.Str.strKind y))=true
 .refine Q_ N3 rfl P3 (QP ..) (meets_str_split_cannot_occur x y t i c) ?_;exact a [(x,t)] s.toks (if_pos c).symm
 .have d:=SS.mpr c;by_cases f:(Builtin.Str.occurrences x y 0 x.length (x.length+1)).isEmpty=true
  .refine Q_ N3 rfl P3 (QP ..) (meets_str_split_not_found x y t i d hy f) ?_;exact a [(x,t)] s.toks ((if_neg c).trans (if_pos f)).symm
  .have g:=SS.mpr f;have e:Txt.split x y=Builtin.Str.partsBetween x (Builtin.Str.occurrences x y 0 x.length (x.length+1)) y.length:=(if_neg c).trans (if_neg f);refine Q_ N3 rfl P3 (QP ..) (meets_str_split_sep x y t i d hy g (by lia) (by rw[<-e];lia)) ?_;rw[<-e,strsFrom_eq];exact a (numbered s.toks (Txt.split x y)) _ (WL _ _)
theorem FW(i:Ev X H0 O0 ps a (.str x))(g:Ev X H0 O0 ps e (.str y))(f:Lr [e] X.env=(false,N4 e X.env)::Lr [] X.env)(l:x.length+2<=sizeLine)(k:(y.length==0)=false)
  (Yf:autoParam (NC a "split" X.env (N4 a X.env)=N4 a X.env) zM)
  (YO:autoParam (((NT X4 (Lr [e] X.env)).all (λx=>!x.1) && (Ri X4 (Pm [] X.env)).all (λx=>x.1.isSome) && decide ([e].length+([]:List Q9).length+(if ([]:List Q9).isEmpty then 0 else 1)<30))=true) zM)
  (Yg:autoParam ((X7.endLine==X4.line)=true) zM) (Yh:autoParam ((NT X4 (Lr [] X.env)).any (·.1)=false) zM):
  EvN X H0 O0 ps (.Call (.Attribute a "split" X7) [e] [] X4) ((Txt.split x y).map U.str):=
 PE.mono (uJ OU N3 TX Cs i (ci g fi f) Yf YO Yg f Yh) λn H Q ⟨O,R,q⟩=>⟨O,R,λv o b h=>by
  cases h
  exact⟨rfl,O,R.go b,λw m c j=>by
   cases j;exact⟨x,y,rfl,rfl,k,l,λp d=>q p _ _ ((b.trans c).trans (bj d _)) ((b.trans c).free d) aK (uq _)⟩⟩⟩
theorem EZ:MtR X "str.join" (λv b H Q=>∃x c a l,v=.str x∧b=[.ref c]∧SqL X.K H c a∧Rps X.K H a (l.map U.str)∧Xl x l=true∧Q (.str (Txt.join x l)) H):=by
 intro w s p H v b u r Q I g i h;obtain⟨x,c,a,l,rfl,rfl,o,f,j,q⟩:=h;obtain⟨t,rfl⟩:=g;obtain⟨y,rfl,k⟩:=dW i;cases k;obtain⟨its,d,n,A⟩:=I.list o;obtain⟨m,rfl,e⟩:=FM d f;exact SC.join n.isList e j λz k=>⟨.str _,H,I.tok _,⟨_,rfl⟩,q⟩
theorem qK(j:Ev X H0 O0 ps a (.str x))(f:Ev X H0 O0 ps e (.lst (l.map U.str)))(d:Lr [e] X.env=(false,N4 e X.env)::Lr [] X.env)(n:Xl x l=true)
  (Yf:autoParam (NC a "join" X.env (N4 a X.env)=N4 a X.env) zM)
  (YO:autoParam (((NT X4 (Lr [e] X.env)).all (λx=>!x.1) && (Ri X4 (Pm [] X.env)).all (λx=>x.1.isSome) && decide ([e].length+([]:List Q9).length+(if ([]:List Q9).isEmpty then 0 else 1)<30))=true) zM)
  (Yg:autoParam ((X7.endLine==X4.line)=true) zM) (Yh:autoParam ((NT X4 (Lr [] X.env)).any (·.1)=false) zM):
  Ev X H0 O0 ps (.Call (.Attribute a "join" X7) [e] [] X4) (.str (Txt.join x l)):=
 PE.mono (uJ OU PySem.F.slot_str_join PySem.F.type_str_join EZ j (ci f fi d) Yf YO Yg d Yh) λs H Q ⟨O,R,q⟩=>⟨O,R,λv t b i=>by
  cases i
  exact⟨rfl,O,R.go b,λw g m k=>by
   cases k with
   | @lst c p _ r o h=>exact⟨x,c,p,l,rfl,rfl,SqL.of (aH _ _ r),Rps.same aH ⟨o,h⟩,n,q _ g (b.trans m) (.str _)⟩⟩⟩
end
def spl(c:Nat):List Nat->List (List Nat)
 |[]=>[[]]
 |a::l=>if a=c then []::spl c l else (a::(spl c l).headD [])::(spl c l).drop 1
theorem jR:∀{p},c ∉ p->spl c p=[p]
 |[],_=>rfl
 |a::p,h=>by
  have h1:a≠c:=λe=>h (by rw[e];exact Lo);unfold spl;rw[if_neg h1,jR λz=>h (Li _ z)];rfl
theorem mQ(l):∀{p},c ∉ p->spl c (p++c::l)=p::spl c l
 |[],_=>by show spl c (c::l)=_;rw[spl,if_pos rfl]
 |a::p,h=>by
  have h1:a≠c:=λe=>h (by rw[e];exact Lo);show spl c (a::(p++c::l))=_;rw[spl,if_neg h1,mQ l λz=>h (Li _ z)];rfl
theorem uE(c):∀a l,a≠[]->(∀t∈a,c ∉ t.cps.toList)->Str.join ⟨#[c]⟩ a=T' l->a=(spl c l).map T'
 |[],l,h,_,_=>absurd rfl h
 |[t],l,_,d,e=>by
  have e1:t=T' l:=e;have b:=d t Lo;rw[e1]at b |-;rw[jR (by simpa using b)]
  rfl
 |t::t2::a,l,_,d,e=>by
  have e1:t++⟨#[c]⟩++Str.join ⟨#[c]⟩ (t2::a)=T' l:=e;generalize hm:Str.join ⟨#[c]⟩ (t2::a)=m at e1;have j:=uE c (t2::a) m.cps.toList (by simp) (λz i=>d z (Li _ i)) (hm.trans (Ds m))
  have b:l=t.cps.toList++c::m.cps.toList:=by
   have:=congrArg (λx:Str=>x.cps.toList) e1
   have g:(t++⟨#[c]⟩++m).cps.toList=t.cps.toList++[c]++m.cps.toList:=by
    show (t.cps++#[c]++m.cps).toList=_;simp
   rw[g]at this;have f:(T' l).cps.toList=l:=by simp
   rw[f]at this;rw[<-this];simp
  rw[b,mQ _ (d t Lo),LK,<-j,<-Ds]
theorem Ip(l)(c):Txt.split (T' l) ⟨#[c]⟩=(spl c l).map T':=by
 refine uE c _ l ?_ (StrLaws.split_free (T' l) c) (StrLaws.join_split _ _);intro h;have:=split_pos (T' l) ⟨#[c]⟩;rw[h]at this;simp at this
section
variable {X:Cx}{E:XK}{ps:PSt}{a b e:Expr}{y:Str}{l:List Nat}{c:Nat}{XY:Pos}{u:U}{C:LX}
theorem nV(g:Ev X H0 O0 ps a (.str (T' l)))(b:Ev X H0 O0 ps e (.str y))(f:Lr [e] X.env=(false,N4 e X.env)::Lr [] X.env)(h:(T' l).length+2<=sizeLine)(d:y=⟨#[c]⟩)
  (Yf:autoParam (NC a "split" X.env (N4 a X.env)=N4 a X.env) zM)
  (YO:autoParam (((NT X4 (Lr [e] X.env)).all (λx=>!x.1) && (Ri X4 (Pm [] X.env)).all (λx=>x.1.isSome) && decide ([e].length+([]:List Q9).length+(if ([]:List Q9).isEmpty then 0 else 1)<30))=true) zM)
  (Yg:autoParam ((X7.endLine==X4.line)=true) zM) (Yh:autoParam ((NT X4 (Lr [] X.env)).any (·.1)=false) zM):
  EvN X H0 O0 ps (.Call (.Attribute a "split" X7) [e] [] X4) ((spl c l).map λp=>U.str (T' p)):=by
 subst d;have:=FW g b f h rfl Yf YO Yg Yh;rw[Ip,L4]at this;exact this
end
end L2
namespace L2
open PySem PySem.Spec PyProof.Rows
theorem vw{X:Cx}{p q:P2}(m:X.A.units+10<P6):OpS X (MC .Lt) (pu p) (pu q) (.bl (ST.ltP p q)):=by
 intro l s k H v w e f Q I c d h;obtain⟨b,i,g⟩:=h;obtain⟨o,rfl,a⟩:=GD I b c;obtain⟨n,rfl,j⟩:=GD I i d;exact ST.lt_ptsR (by lia) a j (lH I g rfl)
theorem mS{n:Nat}(h:n<=9000):n<sizeLine:=by rw[Oq];lia
end L2
namespace ST2
open PySem PySem.SetTable ST
section
variable {prog:LJ}{w:Mp}{A:ML}{E:Lw→LB→Prop}{s:LB}
abbrev K4:=(Int×Int)×(Int×Int)
abbrev l1(k:K4):List Int:=[k.1.1,k.1.2]
abbrev l2(k:K4):List Int:=[k.2.1,k.2.2]
def TQ(prog:LJ)(w:Mp)(h:OG)(k:K4)(b:LX):Prop:=∃o items n c a,h.get? b=some o∧o.cls=.type "tuple"∧o.data=.seq items n∧items.toList=[.ref c,.ref a]∧TK prog w h (l1 k) c∧TK prog w h (l2 k) a
variable {hZ:K4→Int}
def ents(hZ:K4->Int)(a:List (K4×LX)):List (Int×Lw):=a.map λp=>(hZ p.1,.ref p.2)
structure SP(prog:LJ)(w:Mp)(hZ:K4->Int)(h:OG)(S:LX)(kb:List (K4×LX)):Prop where
 ex:∃o es ep t,h.get? S=some o∧o.ExactSet∧o.data=.set es ep t∧es.toList=ents hZ kb∧TOk t (kb.map λp=>hZ p.1)∧t.led=(!w.params.followText "set-order")∧t.plain=true∧t.tooFull=false∧t.mask<8*kb.length+8
 keys:∀p∈kb,TQ prog w h p.1 p.2
 nd:(kb.map (·.1)).Nodup
structure Got(kx:Nat->K4×LX)(i:Nat)(kb:List (K4×LX)):Prop where
 src:∀p∈kb,∃j,j<i/\p=kx j
 all:∀j,j<i->(kx j).1∈kb.map (·.1)
 len:kb.length<=i
variable {R:Xh→LB→Prop}{I:LX}{fp wr:List LX}{G:Array Sj→Array Sj→Prop}{n:Nat}{P:Nat→Lw→Prop}{St:Nat→LB→Prop}
end
end ST2
namespace ST3
open PySem PySem.W PySem.Calls PyProof.Rows ST
abbrev TR:=(Int×Int)×(Int×Int)×(Int×Int)
def ltT(a b:TR):Bool:=if a.1=b.1 then (if a.2.1=b.2.1 then ltP a.2.2 b.2.2 else ltP a.2.1 b.2.1) else ltP a.1 b.1
section
variable {prog:LJ}{w:Mp}{A:ML}{E:Lw→LB→Prop}{s:LB}
abbrev lq(p:Int×Int):List Int:=[p.1,p.2]
def TT(prog:LJ)(w:Mp)(h:OG)(t:TR)(b:LX):Prop:=∃o items n d a c,h.get? b=some o∧o.cls=.type "tuple"∧o.data=.seq items n∧items.toList=[.ref d,.ref a,.ref c]∧TK prog w h (lq t.1) d∧TK prog w h (lq t.2.1) a∧TK prog w h (lq t.2.2) c
end
end ST3
namespace L2
open PySem PySem.Spec PyProof.Rows
def t0:ST3.TR:=((0,0),(0,0),(0,0))
section
variable {κ:Type} [DecidableEq κ]
def fZ(b:List (κ×V))(k:κ):Option V:=(b.find? λa=>decide (a.1=k)).map (·.2)
def lF(b:List (κ×V))(k:κ)(v:V):List (κ×V):=
 if (b.any λa=>decide (a.1=k))=true then b.map (λa=>if a.1=k then (a.1,v) else a) else b++[(k,v)]
theorem oA{k:κ}(e:p.1=k):fZ (p::r) k=some p.2:=by simp[fZ,Oj,e]
theorem kJ{k:κ}(e:¬ p.1=k):fZ (p::r) k=fZ r k:=by simp[fZ,Oj,e]
theorem vp(k:κ):∀a,(a.any λb=>decide (b.1=k))=(fZ a k).isSome
 |[]=>rfl
 |p::r=>by
  rw[PV];by_cases e:p.1=k
  .simp only[oA e,decide_eq_true e,Bool.true_or,Option.isSome_some]
  .rw[kJ e,decide_eq_false e,W_];exact vp k r
theorem lR(XZ)(k:κ)(v):(lF XZ k v).length<=XZ.length+1:=by
 unfold lF;split
 .rw[Lg];lia
 .rw[LG,LF,Qe];lia
theorem je.isSome_eq(r:je o u):o.isSome=u.isSome:=by
 cases o with
 |none=>cases u with
  |none=>rfl
  |some _=>exact r.elim
 |some _=>cases u with
  |none=>exact r.elim
  |some _=>rfl
theorem KV.val(r:KV XZ vs)(k:κ):je (fZ XZ k) (RI vs k):=by
 induction r with
 |nil=>exact True.intro
 | @cons p q i a h t f=>
  obtain⟨d,g⟩:=h;by_cases e:p.1=k
  .have c:=d.symm.trans e;have b:RI (q::a) k=some q.2:=by simp[RI,Oj,c]
   rw[oA e,b];exact g
  .have c:¬ q.1=k:=λz=>e (d.trans z);have b:RI (q::a) k=RI a k:=by simp[RI,Oj,c]
   rw[kJ e,b];exact f
theorem KV.any(r:KV XZ vs)(k:κ):(XZ.any λa=>decide (a.1=k))=vs.any λa=>decide (a.1=k):=by
 induction r with
 |nil=>rfl
 |cons h t b=>rw[PV,PV,b,h.1]
theorem KV.repl(r:KV XZ vs)(k:κ)(f:aS y u):
  KV (XZ.map λa=>if a.1=k then (a.1,y) else a) (vs.map λa=>if a.1=k then (a.1,u) else a):=by
 induction r with
 |nil=>exact .nil
 | @cons p q i g h t c=>
  rw[LK,LK];refine .cons ?_ c;obtain⟨b,d⟩:=h;by_cases e:p.1=k
  .rw[if_pos e,if_pos (b.symm.trans e)];exact⟨b,f⟩
  .rw[if_neg e,if_neg (λz=>e (b.trans z))];exact⟨b,d⟩
theorem KV.put(r:KV XZ vs)(k:κ)(a:aS y u):KV (lF XZ k y) (stored vs k u):=by
 unfold lF stored;rw[r.any k];by_cases e:(vs.any λb=>decide (b.1=k))=true
 .rw[if_pos e,if_pos e];exact r.repl k a
 .rw[if_neg e,if_neg e];exact Paired.snoc r ⟨rfl,a⟩
theorem KV.length(r:KV XZ vs):XZ.length=vs.length:=Paired.length r
end
theorem yC(r:aS (kV k) u):(cR P w).is k u=true:=by
 cases k with
 |inl i=>obtain⟨t,e⟩:=r;subst e;exact uf P w i t
 |inr x=>obtain⟨t,e⟩:=r;subst e;exact uX P w x t
theorem pQ:∀{a}{b},aW (a.map kV) b->ItemsAre (cR P w) a b
 |[],_,r=>by rw[Uv]at r;cases r;exact .nil
 |k::a,_,r=>by
  cases r with
  |cons h t=>exact .cons (yC h) (pQ t)
abbrev KT(H:Hp):List (List Key×V)->List (List Key×LX×Lw)->Prop:=Paired λp q=>p.1=q.1/\H q.2.1=some (.tup (p.1.map kV))/\aS p.2 q.2.2
theorem KT.val(r:KT H XZ xs)(k):je (fZ XZ k) ((XA xs k).map (·.2)):=by
 induction r with
 |nil=>exact True.intro
 | @cons p q i a h t f=>
  obtain⟨d,_,g⟩:=h;by_cases e:p.1=k
  .have c:=d.symm.trans e;have b:XA (q::a) k=some q.2:=by simp[XA,Oj,c]
   rw[oA e,b];exact g
  .have c:¬ q.1=k:=λz=>e (d.trans z);have b:XA (q::a) k=XA a k:=by simp[XA,Oj,c]
   rw[kJ e,b];exact f
theorem KT.repl(r:KT H XZ xs)(k)(g:aS y u):
  KT H (XZ.map λb=>if b.1=k then (b.1,y) else b) (xs.map (putAt k u)):=by
 induction r with
 |nil=>exact .nil
 | @cons p q j i h t f=>
  rw[LK,LK];refine .cons ?_ f;obtain⟨a,c,d⟩:=h;unfold putAt;by_cases e:p.1=k
  .rw[if_pos e,if_pos (a.symm.trans e)];exact⟨a,c,g⟩
  .rw[if_neg e,if_neg (λz=>e (a.trans z))];exact⟨a,c,d⟩
theorem KT.put(r:KT H XZ xs)(k)(c:H b=some (.tup (k.map kV)))(a:aS y u):
  KT H (lF XZ k y) (storedH xs k b u):=by
 have e:(XZ.any λd=>decide (d.1=k))=(XA xs k).isSome:=by
  rw[vp,(r.val k).isSome_eq,VC]
 unfold lF storedH;rw[e];by_cases q:(XA xs k).isSome=true
 .rw[if_pos q,if_pos q];exact r.repl k a
 .rw[if_neg q,if_neg q];exact Paired.snoc r ⟨rfl,c,a⟩
theorem KT.keeps(r:KT H XZ xs)(c:∀b a,H b=some (.tup a)->H' b=some (.tup a)):KT H' XZ xs:=
 Paired.mapP r λ_ _ z=>⟨z.1,c _ _ z.2.1,z.2.2⟩
section
variable {P:LJ}{w:Mp}{H:Hp}{h:OG}{a:LX}
theorem Gz(b:HOk P w H h)(e:Rd H a u):de P w H h a u:=e.ok b
theorem yJ(c:HOk P w H h)(e:Rd H a (.dK XZ)):XZ.length<=sizeLine/\(a==Pu)=false/\∃b,KV XZ b/\h.DictOf (cR P w) a b:=
 show de P w H h a (.dK XZ) from Gz c e
theorem Jf(c:HOk P w H h)(e:H a=some (.dK XZ)):XZ.length<=sizeLine/\(a==Pu)=false/\∃b,KV XZ b/\h.DictOf (cR P w) a b:=yJ c (.inl e)
theorem rN(d:HOk P w H h)(e:H a=some (.tup (ks.map kV))):(U5 (cR P w)).is h ks a:=by
 obtain⟨_,its,r,o,f,c,n,b⟩:=(d a _ e);exact⟨o,its.toArray,n,f,c,b,by simpa using pQ r⟩
theorem yx(f:HOk P w H h)(e:Rd H a (.dT XZ)):XZ.length<=sizeLine/\(a==Pu)=false/\
  ∃c,KT H XZ c/\h.DictOfH (U5 (cR P w)) a c:=by
 obtain⟨z,y,c,r,o,s,j,i,g,v,k,u⟩:=(Gz f e);refine⟨z,y,c,r,o,s,j,i,g,v,k,λx b=>?_,u⟩
 have all:∀{l}{m},KT H l m->∀x∈m,(U5 (cR P w)).is h x.1 x.2.1:=by
  intro l m q
  induction q with
  |nil=>intro x b;exact nomatch b
  | @cons p q A B d t n=>
   intro x b;rcases Ll.mp b with e |b
   .subst e;exact rN f (by rw[<-d.1];exact d.2.1)
   .exact n x b
 exact all r x b
theorem J1(c:HOk P w H h)(e:H a=some (.dT XZ)):XZ.length<=sizeLine/\(a==Pu)=false/\
  ∃b,KT H XZ b/\h.DictOfH (U5 (cR P w)) a b:=yx c (.inl e)
end
def qL(H:Hp)(a:LX)(y:V)(r:Option V):Prop:=
 (∃c k,Rd H a (.dK c)/\y=kV k/\r=fZ c k)\/∃c k b,Rd H a (.dT c)/\y=.ref b/\H b=some (.tup (k.map kV))/\r=fZ c k
def AN(H:Hp)(a:LX)(y v:V)(d:Hp):Prop:=
 (∃c k,H a=some (.dK c)/\y=kV k/\c.length<sizeLine/\d=upd H a (.dK (lF c k v)))\/
 ∃c k b,H a=some (.dT c)/\y=.ref b/\H b=some (.tup (k.map kV))/\c.length<sizeLine/\d=upd H a (.dT (lF c k v))
theorem qL.k{k:Key}(e:H a=some (.dK XZ)):qL H a (kV k) (fZ XZ k):=.inl ⟨XZ,k,.inl e,rfl,rfl⟩
theorem AN.k{k:Key}(e:H a=some (.dK XZ))(b:XZ.length<sizeLine):AN H a (kV k) v (upd H a (.dK (lF XZ k v))):=.inl ⟨XZ,k,e,rfl,b,rfl⟩
section
variable {X:Cx}{XW:List (LX×Obj)}{σ:St}{H:Hp}{s:LB}{a:LX}{y v:V}{u r:Lw}{o:Option V}{A:ML}{E:Lw→LB→Prop}
theorem Inv.big(I:Inv X XW σ H s):Pu<s.heap.objs.size:=by
 have h:=(I.mod.glob.keeps I.bk).lt;exact MP (by decide) h
theorem AA(B:A.units+1<P6)(I:Inv X XW σ H s)(g:qL H a y (some v))(q:aS y u)(h:∀c o,Inv X XW σ H o->aS v c->Q c o):
  Me (L6 X.prog X.w) A (Vr (.ref a) u) Q E s:=by
 rcases g with ⟨C,k,e,m,l⟩ |⟨C,k,b,e,m,t,l⟩
 .subst m;obtain⟨z,r,F,f,n⟩:=yJ I.hok e;obtain⟨c,i,d⟩:=je.some_of (by rw[l];exact f.val k);exact V2 (yC q) n.mapOf i (h c _ (I.tok _) d)
 .subst m;cases q;obtain⟨z,r,D,f,n⟩:=yx I.hok e;obtain⟨c,i,d⟩:=je.some_of (by rw[l];exact f.val k);obtain⟨p,x,j⟩:=Qa.mp i;refine wpAny_getItem_heap (Sr B) (rN I.hok t) n x ?_;rw[j];exact h c _ (I.tok _) d
theorem DZ(p:A.units+1<P6)(I:Inv X XW σ H s)(g:qL H a y o)(m:aS y u)(h:∀j,Inv X XW σ H j->Q (.bool (!o.isSome)) j):
  Me (L6 X.prog X.w) A (MC .NotIn u (.ref a)) Q E s:=by
 rcases g with ⟨r,k,e,f,l⟩ |⟨r,k,b,e,f,n,l⟩
 .subst f;obtain⟨z,d,v,c,i⟩:=yJ I.hok e;refine WM (yC m) d i.mapOf ?_;rw[<-(c.val k).isSome_eq,<-l];exact h _ (I.tok _)
 .subst f;cases m;obtain⟨z,d,t,c,i⟩:=yx I.hok e;refine wpAny_notIn_heap (Sr p) (rN I.hok n) d i ?_;have q:=(c.val k).isSome_eq;rw[VC]at q;rw[<-q,<-l];exact h _ (I.tok _)
theorem xS(I:Inv X XW σ H s)(e:Mut (H a))(hs:O8 a s.heap h')(d:∃q,h'.get? a=some q)(c:de X.prog X.w (upd H a ob) h' a ob):
  Inv X XW σ (upd H a ob) {s with heap:=h',toks:=t' }:=
 I.write e (.inl rfl) (λb q hb z=>(hs.2 b hb).trans z) d c
theorem HS(z:XZ.length<=sizeLine)(c:(a==Pu)=false)(d:KV XZ vs)(b:h'.DictOf (cR P w) a vs):
  de P w H' h' a (.dK XZ):=⟨z,c,vs,d,b⟩
theorem y8(R:A.units+1<P6)(I:Inv X XW σ H s)(g:AN H a y v H')(D:aS y u)(J:aS v r)(h:∀B,Inv X XW σ H' B->Q () B):
  Me (L6 X.prog X.w) A (setItem (.ref a) u r) Q E s:=by
 rcases g with ⟨i,k,e,t,l,m⟩ |⟨i,k,b,e,t,C,l,m⟩
 .subst t m;obtain⟨z,o,T,f,x⟩:=Jf I.hok e;have V:T.length<=sizeLine:=by rw[<-f.length];exact z
  have p:(lF i k v).length<=sizeLine:=by have:=lR i k v;lia
  refine wpAny_setItem_pairs (yC D) x λF d n=>h _ ?_;have O:∃q,F.get? a=some q:=let ⟨q,_,_,j,_⟩:=d;⟨q,j⟩;exact xS I (by rw[e];exact True.intro) n O (HS p o (f.put k J) d)
 .subst t m;cases D;obtain⟨z,o,N,f,x⟩:=J1 I.hok e;have V:N.length<=sizeLine:=by rw[<-Paired.length f];exact z
  have p:(lF i k v).length<=sizeLine:=by have:=lR i k v;lia
  refine wpAny_setItem_heap (Sr R) (rN I.hok C) x λF d n=>h _ ?_;obtain⟨q,P,L,j,K,U,M,_,S⟩:=d;refine xS I (by rw[e];exact True.intro) n ⟨q,j⟩ ⟨p,o,_,(f.put k C J).keeps λc W G=>?_,q,P,L,j,K,U,M,S⟩;rw[aI (Kq G e (λz=>nomatch z))];exact G
end
def zf(i:Expr):Prop:=∀b a,US i false b a=operate [b,a] (Vr b a)
theorem xn{T j:String} 
  (hl:UC (.type T) "__getitem__"=pure (some (.builtin j))) (hs:zf slice)
  (h:Me (L6 prog w) A (N4 Yb env) (λo g=>Me (L6 prog w) A (N4 slice env) (λi YN=>YN.TypeIs o T/\Me (L6 prog w) A (Vr o i) Q E YN) E g) E s):
  Me (L6 prog w) A (N4 (.Subscript Yb slice XY) env) Q E s:=by
 refine Vs (Pv h (λo g c=>Pv c (λi YN e=>?_) λ_ _ x=>x) λ_ _ x=>x);obtain⟨f,e⟩:=e;refine Lh ?_;rw[getitemInPython_of_ne f.not_modules];refine Lh (OM f hl ?_)
 have b:Me (L6 prog w) A (US slice false o i) (λr a=>Me (L6 prog w) A (letTemporaryGo Yb o r >>=λ_=>pure r) Q E a) E YN:=by
  rw[hs o i];exact wpAny_operating (Pv e (λr a d=>Lh (wpAny_letTemporaryGo (Lm d))) λ_ _ x=>x)
 first
  |exact Lm (Lh b)
  |exact Lh (Lm (Lh b))
  |exact Lh b
theorem sU(I:Inv X XW σ H s)(g:qL H a y o):s.TypeIs (.ref a) "dict":=by
 rcases g with ⟨d,k,e,_,_⟩ |⟨d,k,b,e,_,_,_⟩
 .obtain⟨_,_,f,_,c⟩:=yJ I.hok e;exact c.typeIs
 .obtain⟨_,_,h,_,c⟩:=yx I.hok e;exact c.typeIs
def Kg(e d:TE):TE:=λb H Q=>e b H λx f=>d b f λy c=>∃a v,x=.ref a/\qL c a y (some v)/\Q v c
def FE(d e:TE):TE:=λb H Q=>d b H λy f=>e b f λx c=>∃a o,x=.ref a/\qL c a y o/\Q (.bl (!o.isSome)) c
def J5(f d g:TE):TS:=λD b H=>g b H λv i=>f b i λx e=>d b e λy h=>∃a c,x=.ref a/\AN h a y v c/\D.nx b c
section
variable {X:Cx}{o i e Yb:Expr}{XY Yd tpos:Pos}{td ty tv:TE}
theorem Ei(w:X.A.units+1<P6)(l:PE X o td)(r:PE X i ty)(hs:zf i):PE X (.Subscript o i XY) (Kg td ty):=by
 intro d s c H Q I h;refine xn SA.lookup hs (thn (l d s c H _ I h) λu n ⟨x,z,f,j,B⟩=>thn (r d n c z _ f B) λG D p=>?_);obtain⟨y,e,b,t,a,v,C,g,m⟩:=p;subst C;obtain rfl:u=MM a:=j;exact⟨sU b g,AA w b g t λE F q k=>⟨v,e,q,k,m⟩⟩
theorem Aq(t:X.A.units+1<P6)(q:PE X i ty)(k:PE X o td):PC X .NotIn i o (FE ty td):=by
 intro c s b H Q I h;refine thn (q c s b H _ I h) λE m ⟨y,v,f,r,w⟩=>thn (k c m b v _ f w) λu C n=>?_;obtain⟨x,e,d,j,a,B,z,g,l⟩:=n;subst z;obtain rfl:u=MM a:=j;exact DZ t d g r λD p=>⟨.bl (!B.isSome),e,p,rfl,l⟩
theorem Fz(E:X.A.units+1<P6)(k:PE X o td)(B:PE X i ty)(G:PE X Yb tv)(hs:OK Yb (some (.Subscript o i Yd)) XY.line X.env=pure false):
  PS X (.Assign [.Subscript o i Yd] Yb XY) (J5 td ty tv):=by
 intro c s b H D I h;refine wpAny_Assign_Subscript (thn (G c s b H _ I h) λr p ⟨v,F,f,L,J⟩=>thn (k c p b F _ f J) λu l ⟨x,e,d,j,n⟩=>thn (B c l b e _ d n) λO N w=>?_) hs;obtain⟨y,P,z,C,a,m,K,g,q⟩:=w;subst K;obtain rfl:u=MM a:=j;exact y8 E z g C L λM t=>⟨b,m,t,q⟩
end
theorem CF(h:OG)(a:Pu<h.objs.size):de P w H (h.push {cls:=.type "dict",data:=.dict #[] }) h.objs.size (.dK []):=
 ⟨Mu _,beq_eq_false_iff_ne.mpr (Ne.symm (L3 a)),[],.nil,XU h⟩
def Iu:TE:=λ_ H Q=>∀p,H p=none->Q (.ref p) (upd H p (.dK []))
section
variable {X:Cx}{XY:Pos}
theorem Cb:PE X (.Dict [] [] XY) Iu:=λb s a H Q I h=>
 wpAny_Dict_empty ⟨.ref s.heap.objs.size,_,I.laid (λ_ _ q=>Lj _ q) (Lk _) (CF s.heap I.big),rfl,h _ (I.hok.fresh (Lk _))⟩
end
def valU(b:List (Str×U))(x:Str):Option U:=(b.find? λa=>decide (a.1=x)).map (·.2)
def mj(b:List (Str×U))(x:Str)(u:U):List (Str×U):=
 if (b.any λa=>decide (a.1=x))=true then b.map (λa=>if a.1=x then (a.1,u) else a) else b++[(x,u)]
section
variable {K:Le}{H H':Hp}{kv:List (Key×V)}{XZ:List (Str×U)}{k:Key}{v:V}{x:Str}{u:U}
theorem DkR.nil:DkR K H [] []:=⟨rfl,λi k v x u h=>by simp at h⟩
theorem DkR.cons(e:k=.inr x)(r:Rp K H v u)(h:DkR K H kv XZ):DkR K H ((k,v)::kv) ((x,u)::XZ):=by
 refine⟨by simp[h.len],λi c f d g b a=>?_⟩;cases i with
 |zero=>simp at b a;obtain⟨rfl,rfl⟩:=b;obtain⟨rfl,rfl⟩:=a;exact⟨e,r⟩
 |succ i=>exact h.at_ i c f d g (by simpa using b) (by simpa using a)
theorem DkR.uncons(h:DkR K H ((k,v)::kv) ((x,u)::XZ)):k=.inr x/\Rp K H v u/\DkR K H kv XZ:=
 ⟨(h.at_ 0 k v x u rfl rfl).1,(h.at_ 0 k v x u rfl rfl).2,by have:=h.len;simpa using this,λi a c b e f d=>h.at_ (i+1) a c b e (by simpa using f) (by simpa using d)⟩
theorem DkR.ind{p:List (Key×V)->List (Str×U)->Prop}(b:p [] [])(a:∀v x u kv XZ,Rp K H v u->DkR K H kv XZ->p kv XZ->p ((.inr x,v)::kv) ((x,u)::XZ)):∀{kv}{XZ},DkR K H kv XZ->p kv XZ
 |[],[],_=>b
 |[],_::_,h=>by have:=h.len;simp at this
 |_::_,[],h=>by have:=h.len;simp at this
 | (k,v)::kv,(x,u)::XZ,h=>by
  obtain⟨e,r,t⟩:=h.uncons;subst e;exact a v x u kv XZ r t (DkR.ind b a t)
theorem DkR.val(h:DkR K H kv XZ)(x:Str):(valU XZ x=none/\fZ kv (.inr x)=none)\/∃u v,valU XZ x=some u/\fZ kv (.inr x)=some v/\Rp K H v u:=by
 refine DkR.ind (p:=λkv XZ=>(valU XZ x=none/\fZ kv (.inr x)=none)\/∃u v,valU XZ x=some u/\fZ kv (.inr x)=some v/\Rp K H v u) (.inl ⟨rfl,rfl⟩) (λv y u kv XZ r _ c=>?_) h;by_cases e:y=x
 .subst e;exact .inr ⟨u,v,by simp[valU],by simp[fZ],r⟩
 .have b:¬ (Sum.inr y:Key)=.inr x:=λz=>e (by injection z);have d:valU ((y,u)::XZ) x=valU XZ x:=by simp[valU,Oj,e]
  have a:fZ ((Sum.inr y,v)::kv) (Sum.inr x:Key)=fZ kv (.inr x):=kJ b;rw[d,a];exact c
theorem DkR.some(h:DkR K H kv XZ){x:Str}{u:U}(e:valU XZ x=some u):∃v,fZ kv (.inr x)=some v/\Rp K H v u:=by
 rcases h.val x with ⟨z,_⟩ |⟨d,v,c,b,a⟩
 .rw[z]at e;cases e
 .rw[c]at e;cases e;exact⟨v,b,a⟩
theorem DkR.isSome(h:DkR K H kv XZ)(x):(fZ kv (.inr x)).isSome=(valU XZ x).isSome:=by
 rcases h.val x with ⟨b,a⟩ |⟨f,v,d,c,e⟩
 .rw[b,a];rfl
 .rw[d,c];rfl
theorem DkR.map(h:DkR K H kv XZ)(r:Rp K H v u):DkR K H (kv.map λp=>if p.1=(.inr x:Key) then (p.1,v) else p) (XZ.map λp=>if p.1=x then (p.1,u) else p):=by
 refine DkR.ind (p:=λkv XZ=>DkR K H (kv.map λp=>if p.1=(.inr x) then (p.1,v) else p) (XZ.map λp=>if p.1=x then (p.1,u) else p)) DkR.nil (λw y z kv XZ b _ a=>?_) h;rw[LK,LK];by_cases e:y=x
 .subst e;rw[if_pos rfl,if_pos rfl];exact .cons rfl r a
 .rw[if_neg λz=>e (by injection z),if_neg e];exact .cons rfl b a
theorem DkR.snoc(h:DkR K H kv XZ)(r:Rp K H v u):DkR K H (kv++[(.inr x,v)]) (XZ++[(x,u)]):=
 DkR.ind (p:=λkv XZ=>DkR K H (kv++[(.inr x,v)]) (XZ++[(x,u)])) (DkR.cons rfl r DkR.nil) (λw y z kv XZ b _ a=>.cons rfl b a) h
theorem DkR.any(h:DkR K H kv XZ)(x):(kv.any λp=>decide (p.1=(.inr x:Key)))=(XZ.any λp=>decide (p.1=x)):=
 DkR.ind (p:=λkv XZ=>(kv.any λp=>decide (p.1=(.inr x)))=(XZ.any λp=>decide (p.1=x))) rfl (λw y z kv XZ _ _ a=>by
  rw[PV,PV,a];congr 1;by_cases e:y=x
  .subst e;simp
  .rw[decide_eq_false e,decide_eq_false λz=>e (by injection z)]) h
theorem DkR.put(h:DkR K H kv XZ)(r:Rp K H v u)(x):DkR K H (lF kv (.inr x) v) (mj XZ x u):=by
 unfold lF mj;rw[h.any x];split
 .exact h.map r
 .exact h.snoc r
end
section
variable {X:Cx}{H0:Hp}{O0:List LX}{E:XK}{ps:PSt}{D:PD}{e:Expr}{XY p:Pos}{u:U}{x n:Str}{w:Bool}{C a d:LX}{XZ:List (Str×U)}{i:Nat}
theorem o8(k:ps[i]?=some (some (.dsk w C a d XZ)))(j:Cls X.K C)(h:gh X.K C "lands")(c:autoParam (X.N[i]?=some x) zM)(m:autoParam (Vis X.env.scope x) vN)
  (hd:autoParam ((x==("__debug__":Str))=false) zR) (YB:autoParam ((x==("__classdict__":Str))=false) zR) (hb:autoParam (NC (.Name x p) "lands" X.env (N4 (.Name x p) X.env)=N4 (.Name x p) X.env) zM):
  PE X (.Attribute (.Name x p) "lands" XY) λb H Q=>∃O,Rs X.K H0 O0 ps b H O∧Q (.ref d) H:=
 PE.mono (II (eE c m hd YB) hb) λb H Q g=>by
  obtain⟨O,R,q⟩:=g;obtain⟨v,e,f,s,rfl,r,o,l,n,t⟩:=R.at_ i _ k;exact⟨_,e,a,C,f,_,_,rfl,l,j,h,by simp,q⟩
abbrev q0(X:Cx)(H0:Hp)(O0:List LX)(ps:PSt)(o:Expr)(d:LX):Prop:=PE X o λa H Q=>∃O,Rs X.K H0 O0 ps a H O/\Q (.ref d) H
theorem Bz(R:Rs X.K H0 O0 ps σ H O)(f:ps[i]?=some (some (.dsk w C a d XZ))):∃b,H d=some (.dK b)/\DkR X.K (hid H O) b XZ:=by
 obtain⟨v,l,j,b,rfl,h,g,k,c,e⟩:=R.at_ i _ f;exact⟨b,c,e⟩
theorem Hx(m:ps[i]?=some (some (.dsk w C a d XZ)))(c:q0 X H0 O0 ps o d)(l:Ev X H0 O0 ps e (.str n))(x:X.A.units+10<P6)(h:valU XZ n=some u)(hs:zf e:=by intro _ _;rfl):Ev X H0 O0 ps (.Subscript o e XY) u:=
 PE.mono (Ei (by lia) c l hs) λt H Q ⟨O,R,q⟩=>⟨O,R,O,R,λv j s r=>by
  cases r;obtain⟨y,f,b⟩:=Bz (R.go s) m;obtain⟨z,p,g⟩:=b.some h;exact⟨d,z,rfl,by have:=qL.k (k:=.inr n) f;rw[p]at this;exact this,q z j s g⟩⟩
theorem GU(h:ps[i]?=some (some (.dsk w C a d XZ)))(g:q0 X H0 O0 ps o d)(c:Ev X H0 O0 ps e (.str n))(p:X.A.units+10<P6)(b:Oe .NotIn o=false:=by first |exact k7 _ |with_unfolding_all rfl):Tt X H0 O0 ps (.Compare e [.NotIn] [o] XY) (!(valU XZ n).isSome):=
 PT.mono (Dr (Aq (by lia) c g) b) λl H Q ⟨O,R,q⟩=>⟨O,R,λv j s r=>by
  cases r;obtain⟨m,b,f⟩:=Bz (R.go s) h;exact⟨O,R.go s,d,_,rfl,qL.k (k:=.inr n) b,_,rfl,by rw[f.isSome];exact q j s⟩⟩
theorem Rs.wdsk{K:Le}(R:Rs K H0 O0 ps σ H O)(P:ps[i]?=some (some (.dsk true C a d XZ)))(B:∀j w C a d XZ,ps[j]?=some (some (.dsk w C a d XZ))->j=i)(r:DkR K (hid H O) kv Zp):
  Rs K H0 O0 (ps.set i (some (.dsk true C a d Zp))) σ (upd H d (.dK kv)) O:=by
 obtain⟨v,J,E,T,rfl,h,t,m,y,Z⟩:=R.at_ i _ P;have I:=(R.new d h).resolve_left (t rfl);have f:hid (upd H d (.dK kv)) O=hid H O:=mF h;refine⟨R.same.put I _,R.old,R.new,λb hb z=>?_,by simp[R.len],λj s q=>?_,λj k p l b X D L F=>?_⟩
 .by_cases e:b=d
  .subst e;rw[aK]at z;cases z
  .rw[aI e]at z;exact R.dom b hb z
 .rcases b9 q with ⟨U,c⟩ |⟨G,c⟩
  .subst U;cases c;exact⟨.ref a,J,E,kv,rfl,h,t,by rw[aI λz=>by rw[z,y]at m;cases m];exact m,aK,by rw[f];exact r⟩
  .obtain⟨o,A,g⟩:=R.at_ j s c;refine⟨o,A,?_⟩;cases s with
   |val u=>exact (show Rp K (hid (upd H d (.dK kv)) O) o u by rw[f];exact g)
   |own p=>
    obtain⟨b,l,N,M,Q,n,W⟩:=g;exact⟨b,l,N,M,Q,by rw[aI λz=>by rw[z,y]at n;cases n];exact n,by rw[f];exact W⟩
   |pin z u=>exact⟨g.1,by rw[f];exact g.2⟩
   |dsk w2 C2 Y d2 x=>exact absurd (B _ _ _ _ _ _ c).symm G
 .have S:ps[j]?=some (some (.own p)):=by
   rcases b9 X with ⟨_,e⟩ |⟨_,z⟩
   .cases e
   .exact z
  have V:ps[k]?=some (some (.own l)):=by
   rcases b9 D with ⟨_,e⟩ |⟨_,z⟩
   .cases e
   .exact z
  exact R.inj j k _ _ b S V L F
def Ik(ps:PSt)(i:Nat):Bool:=(MK ps.length).all λj=>match ps[j]? with |some (some (.dsk _ _ _ _ _))=>j==i |_=>true
theorem xW(h:Ik ps i=true):∀j w C a d XZ,ps[j]?=some (some (.dsk w C a d XZ))->j=i:=λj w C a d XZ e=>by
 have b:=(Ls.mp e).1;have:=O5.mp h j (Mc.mpr b);rw[e]at this;exact beq_iff_eq.mp this
theorem HJ(f:ps[i]?=some (some (.dsk true C a d XZ)))(l:q0 X H0 O0 ps o d)(p:Ev X H0 O0 ps e (.str n))(s:Ev X H0 O0 ps Yb u)(x:X.A.units+10<P6)(r:XZ.length<sizeLine)(h:D.nx (ps.set i (some (.dsk true C a d (mj XZ n u)))))
  (h1:autoParam (Ik ps i=true) zM) (hs:autoParam (OK Yb (some (.Subscript o e Yd)) XY.line X.env=pure false) zM):W1 X H0 O0 E (.Assign [.Subscript o e Yd] Yb XY) D ps:=
 PS.mono (Fz (by lia) l p s hs) λB w H ⟨L,O,R⟩=>⟨O,R,λv y b j=>⟨O,R.go b,O,R.go b,λk t c m=>by
  cases m;have R2:=R.go (b.trans c);obtain⟨z,q,g⟩:=Bz R2 f;exact⟨d,_,rfl,AN.k (k:=.inr n) q (by rw[g.len];exact r),L.nx _ _ _ O (R2.wdsk f (xW h1) (g.put (j.same (aP c)) n)) h⟩⟩⟩
theorem Hl(n:ps[i]?=some (some (.dsk w C a d XZ)))(l:Ev X H0 O0 ps e u)(h:D.rt (.dsk d u XZ)):W1 X H0 O0 E (.Return (some e) XY) D ps:=
 PS.mono (nN l) λB p H ⟨L,O,R⟩=>⟨O,R,λv k s r=>by
  have f:=R.go s;obtain⟨z,A,q,o,rfl,g,t,x,m,j⟩:=f.at_ i _ n
  have c:∀b∈d::O0,b∈O:=λb hb=>by
   rcases Ll.mp hb with y |y
   .subst y;exact g
   .exact R.old b y
  exact L.rt _ h v o k f.same m (j.same (a9 c)) (r.same (a9 c))⟩
end
def sC(N:List Str)(w:Bool)(C a d:LX)(c:List (Str×U))(b:List U):PSt:=some (.dsk w C a d c)::(b.map (λu=>some (.val u))++L7 (N.length-(b.length+1)) none)
def spD(K:Le)(w:Bool)(C:LX)(j:LX→List (Str×U)→List U→Out→Prop):Sp:=λh H Q E=>∃a i d c e f g O o,h=.ref a::f∧H a=some (.ins C i [("lands",.ref d)])∧H d=some (.dK c)∧(∀b∈O,H b≠none)∧(w=true→d ∉ O)∧
 DkR K (hid H (d::O)) c e/\Rps K (hid H (d::O)) f g/\j d e g o/\qc K (if w=true then hid H [d] else H) (if w=true then O else d::O) Q E o
variable {pn:List Str}{f:LX}
section
variable {P:LJ}{w:Mp}{K:Le}{mg:Str→Option Lw}{base:OG}{N:List Str}{X3 nm:Str}
theorem ii{st:Od}(F:Fun K nm X3 st f fd)(S:av N pn (ai st))(u:∀d p g o,X5 d p g o->g.length+1=pn.length)
  (YF:∀l A c s H V E O a d p g o,cq k (A.deeper (SH X3 (ai st) s.heap.objs.size f l))->X5 d p g o->
   Ws (nO (CXF P w) P w K mg base N X3 (ai st) f l A c s H E) V O E (bm st) ⟨λ_=>o=.val .non,λx=>x=o,λ_=>False,λ_=>False⟩ (sC N own C a d p g)):cj P w K mg base (CXF P w) (k+1) f fd pn (spD K own C X5):=by
 refine F.okF S (λW H Q E h=>?_) λl A c s H W Q E M h=>?_
 .obtain⟨a,y,d,D,p,U,g,O,o,rfl,_,_,_,_,_,r,t,_⟩:=h;rw[LF,r.len];exact u d p g o t
 .obtain⟨a,y,d,D,p,U,g,O,o,rfl,ha,B,G,X,I,r,t,q⟩:=h;refine⟨_,YF l A c s H (if own=true then hid H [d] else H) E (if own=true then O else d::O) a d p g o M t,⟨λY Z T O' R e=>?_,λ_ _ _ _ _ e=>e.elim,λ_ _ _ _ _ e=>e.elim,λx e=>by subst e;exact q⟩,d::O,?_⟩
  .subst e;exact q .non T R.same .non
  .refine⟨?_,λb hb=>?_,λb hb=>?_,λb hb=>?_,?_,λi sl e=>?_,λi j ys zs b n e2 _ _=>?_⟩
   .cases own
    .exact .refl H
    .exact aH
   .cases own
    .exact hb
    .exact Li _ hb
   .cases own
    .exact .inl hb
    .rcases Ll.mp hb with z |z
     .subst z;right;show hid H [b] b=none;unfold hid;simp
     .exact .inl z
   .rcases Ll.mp hb with z |z
    .subst z;rw[B];simp
    .exact G b z
   .unfold start sC;simp only[LF,LG,Lg,NL,r.len];lia
   .unfold sC at e;cases i with
    |zero=>
     cases e;refine⟨.ref a,rfl,y,D,rfl,Lo,λe=>?_,ha,B,I⟩;subst e;exact X rfl
    |succ i=>
     rw[Nq]at e;by_cases m:i<g.length
     .rw[LO (by simpa using m),Lq,Ld m]at e
      cases e;obtain⟨v,L,J⟩:=r.get (Ld m);refine⟨v,?_,J⟩;unfold start;rw[LO (by simpa [r.len] using m),Lq,Nq,L];rfl
     .rw[LS (by simpa using m),Nn]at e
      split at e <;>cases e
   .exfalso
    cases i with
    |zero=>cases n
    |succ i=>
     unfold sC at n;rw[Nq]at n;by_cases m:i<g.length
     .rw[LO (by simpa using m),Lq,Ld m]at n
      cases n
     .rw[LS (by simpa using m),Nn]at n
      split at n <;>cases n
end
section
variable {X:Cx}{H0:Hp}{O0:List LX}{E:XK}{ps ZC ZY:PSt}{D:PD}{e b:Expr}{es rest:List Expr}{XY p X7:Pos}{u z:U}{us:List U}{x n m:Str}{w:Bool}{C Cx' a d:LX}{XZ Zp:List (Str×U)}{i k:Nat}{c c':Bool}{fd:Of}{CX:CXT}{X5:LX→List (Str×U)→List U→Out→Prop}
theorem Rs.dsk2{K:Le}(R:Rs K H0 O0 ps σ H O)(Q:ps[i]?=some (some (.dsk true C a d XZ)))(E:∀j w C a d XZ,ps[j]?=some (some (.dsk w C a d XZ))->j=i)(s:aU (hid H [d]) H2)(g:H2 d=some (.dK kv))(r:DkR K (hid H2 O) kv Zp):
  Rs K H0 O0 (ps.set i (some (.dsk true C a d Zp))) σ H2 O:=by
 obtain⟨v,N,J,V,rfl,l,y,n,B,g7⟩:=R.at_ i _ Q;have M:=(R.new d l).resolve_left (y rfl);have go:∀b o,b≠d->H b=some o->H2 b=some o:=λb o U e=>s b o (cW e (by simpa using U))
 have m:aU (hid H O) (hid H2 O):=λb o e=>by
  obtain⟨t,f⟩:=gU e;exact cW (go b o (λz=>f (z ▸ l)) t) f
 refine⟨λb o e=>go b o (λz=>by rw[z,M]at e;cases e) (R.same b o e),R.old,R.new,λb hb z=>?_,by simp[R.len],λj s q=>?_,λj k x us b Z I P G=>?_⟩
 .by_cases e:b=d
  .subst e;rw[g]at z;cases z
  .cases YV:H b with
   |none=>exact R.dom b hb YV
   |some o=>rw[go b o e YV]at z;cases z
 .rcases b9 q with ⟨W,c⟩ |⟨L,c⟩
  .subst W;cases c;exact⟨.ref a,N,J,kv,rfl,l,y,go _ _ (λz=>by rw[z,B]at n;cases n) n,g,r⟩
  .obtain⟨F,D,h⟩:=R.at_ j s c;refine⟨F,D,?_⟩;cases s with
   |val u=>exact Rp.same m h
   |own x=>
    obtain⟨b,us,t,f,S,p,Y⟩:=h;exact⟨b,us,t,f,S,go _ _ (λz=>by rw[z,B]at p;cases p) p,Y.same m⟩
   |pin z u=>exact⟨h.1,Rp.same m h.2⟩
   |dsk w2 C2 a2 d2 A=>exact absurd (E _ _ _ _ _ _ c).symm L
 .have T:ps[j]?=some (some (.own x)):=by
   rcases b9 Z with ⟨_,e⟩ |⟨_,z⟩
   .cases e
   .exact z
  have X:ps[k]?=some (some (.own us)):=by
   rcases b9 I with ⟨_,e⟩ |⟨_,z⟩
   .cases e
   .exact z
  exact R.inj j k _ _ b T X P G
theorem HR(M:ps[i]?=some (some (.dsk w C a d XZ)))(P:Cls X.K C)(L:Bl X.K C m f)(F:cj X.prog X.w X.K X.mg X.base CX k f fd pn (spD X.K false C X5))(G:cq k X.A)(c:cm X.K fd pn [])(E:di CX X E0)(t:EvA X H0 O0 ps (e::es) us)(h:X5 d XZ us (.val u))
  (Zv:autoParam ((m==("lands":Str))=false) zR) (hN:autoParam (X.N[i]?=some x) zM) (hv:autoParam (Vis X.env.scope x) vN) (hd:autoParam ((x==("__debug__":Str))=false) zR) (YB:autoParam ((x==("__classdict__":Str))=false) zR)
  (YH:autoParam (Lr (e::es) X.env=(false,N4 e X.env)::Lr es X.env) zM) (Yq:autoParam ((NT XY (Lr es X.env)).any (·.1)=false) zM)
  (ht:autoParam (N4 (.Call (.Attribute (.Name x p) m X7) (e::es) [] XY) X.env=(do
   let ov <-N4 (.Name x p) X.env
   V_ X7.atName
   let (f,first) <-UQ [ov] (T7 ov m pl)
   W5 XY f first (NT XY (Lr (e::es) X.env)) (Ri XY (Pm [] X.env)))) zM):
  Ev X H0 O0 ps (.Call (.Attribute (.Name x p) m X7) (e::es) [] XY) u:=
 PE.mono (xt (eE hN hv hd YB) P L F G c .nil E t YH Yq ht) λY H Q J=>by
  obtain⟨O,R,q⟩:=J;obtain⟨v,B,g,T,rfl,S,W,j,o,U⟩:=R.at_ i _ M;refine⟨_,B,a,g,_,rfl,j,by rw[P7,Zv];rfl,O,R,λl I s r=>?_⟩
  have sub:∀b∈d::O,b∈O:=λb c=>by
   rcases Ll.mp c with y |y
   .subst y;exact S
   .exact y
  show spD X.K false C X5 (V.ref a::(l++[])) I Q E0;rw[Ny];exact⟨a,g,d,T,XZ,l,us,O,.val u,rfl,s _ _ j,s _ _ o,(R.go s).dom,nofun,(U.same (aP s)).same (a9 sub),r.same (a9 sub),h,λv n D z=>q v n (s.trans D) (z.same (a9 λb c=>Li _ c))⟩
def EvK(X:Cx)(H0:Hp)(O0:List LX)(ps:PSt)(e:Expr)(u:U)(d:PSt):Prop:=
 PE X e λb H Q=>∃O,Rs X.K H0 O0 ps b H O/\∀v a c,Rs X.K H0 O0 d b a c->Rp X.K (hid a c) v u->Q v a
def TtK(X:Cx)(H0:Hp)(O0:List LX)(ps:PSt)(e:Expr)(b:Bool)(d:PSt):Prop:=
 PT X e λa H Q=>∃O,Rs X.K H0 O0 ps a H O/\∀c f,Rs X.K H0 O0 d a c f->Q b c
def TwK(X:Cx)(H0:Hp)(O0:List LX)(ps:PSt)(e:Expr)(b:Bool)(d:PSt):Prop:=
 PW X e λa H Q=>∃O,Rs X.K H0 O0 ps a H O/\∀c f,Rs X.K H0 O0 d a c f->Q b c
theorem nD(t:ps[i]?=some (some (.dsk true C a d XZ)))(hc:Cls X.K C)(Z:Bl X.K C m f)(F:cj X.prog X.w X.K X.mg X.base CX k f fd pn (spD X.K true C X5))(S:cq k X.A)(c:cm X.K fd pn [])(P:di CX X E0)(G:EvA X H0 O0 ps (e::es) us)(h:X5 d XZ us (.dsk d u Zp))
  (h1:autoParam (Ik ps i=true) zM) (Zv:autoParam ((m==("lands":Str))=false) zR) (hN:autoParam (X.N[i]?=some x) zM) (hv:autoParam (Vis X.env.scope x) vN) (hd:autoParam ((x==("__debug__":Str))=false) zR) (YB:autoParam ((x==("__classdict__":Str))=false) zR)
  (YH:autoParam (Lr (e::es) X.env=(false,N4 e X.env)::Lr es X.env) zM) (Yq:autoParam ((NT XY (Lr es X.env)).any (·.1)=false) zM)
  (ht:autoParam (N4 (.Call (.Attribute (.Name x p) m X7) (e::es) [] XY) X.env=(do
   let ov <-N4 (.Name x p) X.env
   V_ X7.atName
   let (f,first) <-UQ [ov] (T7 ov m pl)
   W5 XY f first (NT XY (Lr (e::es) X.env)) (Ri XY (Pm [] X.env)))) zM):
  EvK X H0 O0 ps (.Call (.Attribute (.Name x p) m X7) (e::es) [] XY) u (ps.set i (some (.dsk true C a d Zp))):=
 PE.mono (xt (eE hN hv hd YB) hc Z F S c .nil P G YH Yq ht) λσ H Q W=>by
  obtain⟨O,R,q⟩:=W;obtain⟨v,U,n,kv,rfl,E,g4,o,Y,L⟩:=R.at_ i _ t;refine⟨_,U,a,n,_,rfl,o,by rw[P7,Zv];rfl,O,R,λB T s r=>?_⟩;have l:d ∉ O.filter (λb=>decide (b≠d)):=λz=>by have:=(Mr.mp z).2;simp at this
  have sub:∀b∈d::O.filter (λb=>decide (b≠d)),b∈O:=λb c=>by
   rcases Ll.mp c with y |y
   .subst y;exact E
   .exact (Mr.mp y).1
  have j:∀b∈O,b∈d::O.filter (λb=>decide (b≠d)):=λb c=>by
   by_cases e:b=d
   .subst e;exact Lo
   .exact Li _ (Mr.mpr ⟨c,decide_eq_true e⟩)
  show spD X.K true C X5 (V.ref a::(B++[])) T Q E0;rw[Ny];refine⟨a,n,d,kv,XZ,B,us,O.filter (λb=>decide (b≠d)),.dsk d u Zp,rfl,s _ _ o,s _ _ Y,λb c=>(R.go s).dom b (Mr.mp c).1,λ_=>l,(L.same (aP s)).same (a9 sub),r.same (a9 sub),h,λv kv' D J g I M=>?_⟩;exact q v D O ((R.go s).dsk2 t (xW h1) J g (I.same (a9 j))) (M.same (a9 j))
theorem IT(h:Tt X H0 O0 ps e c):TtK X H0 O0 ps e c ps:=PT.mono h λb H Q ⟨O,R,q⟩=>⟨O,R,λa s=>q a O (R.go s)⟩
theorem r_(k:OpS X (MC op) u z (.bl c))(j:EvK X H0 O0 ps e u ZC)(g:Ev X H0 O0 ZC b z)(m:Oe op b=false:=by first |exact k7 _ |with_unfolding_all rfl):TtK X H0 O0 ps (.Compare e [op] [b] XY) c ZC:=
 PT.mono (yB k j g m) λn H Q ⟨O,R,q⟩=>⟨O,R,λv o f d i=>⟨f,d,λw h a l=>⟨(i.same (aP a)).out,l.out,_,rfl,q h f (d.go a)⟩⟩⟩
theorem TwK.t(h:TwK X H0 O0 ps e c ZC):TtK X H0 O0 ps e c ZC:=h.pt
theorem BN(h:TtK X H0 O0 ps e c ZC):TwK X H0 O0 ps (.BoolOp .Or [e] XY) c ZC:=CW h
theorem Gh(f:TtK X H0 O0 ps e false ZC)(a:TwK X H0 O0 ZC (.BoolOp .Or (b::rest) XY) c ZY):TwK X H0 O0 ps (.BoolOp .Or (e::b::rest) XY) c ZY:=
 PW.mono (CH f a) λh H Q ⟨O,R,q⟩=>⟨O,R,λi g d=>by exact oF ⟨g,d,q⟩⟩
theorem Cf(b:TtK X H0 O0 ps e false ZC)(h:Ws X H0 O0 E fb D ZC):W1 X H0 O0 E (.If e tb fb XY) D ps:=
 PS.mono (B6 b (λ_ _ _ _ _ _ h=>h.elim) h (t:=λ_ _ _=>False)) λf d H ⟨L,O,R⟩=>⟨O,R,λg c a=>oF ⟨L,c,a⟩⟩
theorem F3(o:ZC[i]?=some (some (.dsk w C a d XZ)))(m:EvK X H0 O0 ps e u ZC)(h:D.rt (.dsk d u XZ)):W1 X H0 O0 E (.Return (some e) XY) D ps:=
 PS.mono (nN m) λB q H ⟨L,O,R⟩=>⟨O,R,λv k l f r=>by
  obtain⟨z,A,s,p,rfl,g,t,x,n,j⟩:=f.at_ i _ o
  have c:∀b∈d::O0,b∈l:=λb hb=>by
   rcases Ll.mp hb with y |y
   .subst y;exact g
   .exact f.old b y
  exact L.rt _ h v p k f.same n (j.same (a9 c)) (r.same (a9 c))⟩
end
def spI(C:LX):Sp:=λc H Q _=>∃a b,c=[.ref a]∧H a=some (.ins C b [])∧∀d,H d=none→Q .non (upd (upd H d (.dK [])) a (.ins C b [("lands",.ref d)]))
section
variable {P:LJ}{w:Mp}{K:Le}{mg:Str→Option Lw}{base:OG}{N:List Str}{X3 nm sf:Str}{C:LX}{p1 p2 p3 p4:Pos}
theorem Ey{st:Od}(F:Fun K nm X3 st f fd)(S:av N pn (ai st))(j:N[0]?=some sf)(e:pn.length=1)(c:bm st=[.Assign [.Attribute (.Name sf p1) "lands" p2] (.Dict [] [] p3) p4])(n:Cls K C)(m:gh K C "lands")
  (hv:(ai st).names.lookup sf=some .local) (hd:autoParam ((sf==("__debug__":Str))=false) zR) (YB:autoParam ((sf==("__classdict__":Str))=false) zR):cj P w K mg base (CXF P w) (k+1) f fd pn (spI C):=by
 refine F.okF S (λo H Q E h=>?_) λl A b s H o Q E p h=>?_
 .obtain⟨a,g,rfl,_⟩:=h;rw[e];rfl
 .obtain⟨a,g,rfl,ha,q⟩:=h;rw[c];refine⟨_,FR (Iw (eE j (.inl hv) hd YB) Cb rfl),?_⟩;intro d i;refine⟨.ref a,rfl,a,C,g,[],rfl,?_,n,m,by decide,q d i⟩;rw[aI λz=>by rw[z,i]at ha;cases ha];exact ha
end
section
variable {X:Cx}{H0:Hp}{O0:List LX}{E:XK}{ps:PSt}{D:PD}{XY p p' X4:Pos}{x nm:Str}{C:LX}{i k:Nat}{fd:Of}{CX:CXT}
theorem Rs.newdsk{K:Le}(R:Rs K H0 O0 ps σ H O)(e:aU H H')(n:H d=none)(G:H' a=some (.ins C dx [("lands",.ref d)]))(h:H' d=some (.dK [])):
  Rs K H0 O0 (ps.set i (some (.dsk true C a d []))) (σ.set i (some (.ref a))) H' (d::O):=by
 have S:d ∉ O:=λz=>R.dom d z n;have g:d ∉ O0:=λz=>S (R.old d z);have N:=R.same.free n;refine⟨R.same.trans e,λb hb=>Li _ (R.old b hb),λb hb=>?_,λb hb z=>?_,by simp[R.len],λj s q=>?_,λj k E I b m c D A=>?_⟩
 .rcases Ll.mp hb with y |y
  .subst y;exact .inr N
  .exact R.new b y
 .rcases Ll.mp hb with y |y
  .subst y;rw[h]at z;cases z
  .exact R.dom b y (e.free z)
 .rcases b9 q with ⟨P,l⟩ |⟨J,l⟩
  .subst P;cases l;have B:=aL q;rw[Qd]at B;exact⟨.ref a,iS (by rw[R.len];exact B),dx,[],rfl,Lo,λ_=>g,G,h,DkR.nil⟩
  .obtain⟨w,m,c⟩:=R.at_ j s l;refine⟨w,by rw[L0 J];exact m,?_⟩;cases s with
   |val u=>exact Rp.same (bH e n) c
   |own E=>
    obtain⟨b,L,f,v,r,t,o⟩:=c;exact⟨b,L,f,Li _ v,r,e _ _ t,o.same (bH e n)⟩
   |pin z u=>exact⟨c.1,Rp.same (bH e n) c.2⟩
   |dsk w C b d U=>obtain⟨dx,Q,f,v,r,t,o,T⟩:=c;exact⟨dx,Q,f,Li _ v,r,e _ _ t,e _ _ o,T.same (bH e n)⟩
 .rcases b9 m with ⟨_,x⟩ |⟨F,x⟩
  .cases x
  .rcases b9 c with ⟨_,p⟩ |⟨M,p⟩
   .cases p
   .rw[L0 F]at D;rw[L0 M]at A;exact R.inj j k E I b x p D A
theorem Hr(M:Mk X.K C f)(F:cj X.prog X.w X.K X.mg X.base CX k f fd pn (spI C))(u:cq (k+1) X.A)(t:Gl X nm)(B:X.mg nm=some (.ref C))(q:cm X.K fd pn [])(s:di CX X E0)(r:X.N.Nodup)(G:X.N[i]?=some x)(P:Loc X.env.scope x)
  (h:∀a d,D.nx (ps.set i (some (.dsk true C a d [])))) (YC:autoParam ((nm==("__debug__":Str))=false) zR) (hs:autoParam (OK (.Call (.Name nm p) [] [] X4) (some (.Name x p')) XY.line X.env=pure false) zM)
  (hf:autoParam (X.fn x=true\/X.env.scope.names.lookup x=some .local) z0):W1 X H0 O0 E (.Assign [.Name x p'] (.Call (.Name nm p) [] [] X4) XY) D ps:=
 PS.mono (xg r G P (BL M F u t B q .nil s YC) hs hf) λT Q H y=>by
  obtain⟨L,O,R⟩:=y;intro a g J j S;refine⟨a,g,rfl,aK,λd c=>⟨rfl,?_⟩⟩;have m:d≠a:=λz=>by rw[z,aK]at c;cases c
  rw[aI m]at c;have l:d≠g:=λz=>by rw[z,aK]at c;cases c
  rw[aI l]at c;refine L.nx _ _ _ (d::O) (R.newdsk (λb o e=>?_) c aK (by rw[aI m];exact aK)) (h a d)
  have n:b≠a:=λz=>by rw[z,J]at e;cases e
  have I:b≠d:=λz=>by rw[z,c]at e;cases e
  have v:b≠g:=λz=>by rw[z,j]at e;cases e
  rw[aI n,aI I,aI n,aI v];exact e
end
def tT(X:Cx)(d:LX)(vs:List (Str×Lw)):Prop:=(d==Pu)=false/\∀h:OG,X.K.In h->h.DictOf (strKind X.prog X.w) d vs
section
variable {X:Cx}{H0:Hp}{O0:List LX}{ps:PSt}{e i:Expr}{XY p:Pos}{u:U}{n nm t:Str}{d:LX}{vs:List (Str×Lw)}{tk:Tok}{ty:TE}
theorem GL{t:Tok}:(strKind X.prog X.w).is x (.str x t)=true:=by show SW x (.str x t)=true;simp[SW]
theorem F5(f:tT X d vs)(g:Gl X nm)(o:X.mg nm=some (.ref d))(q:PE X i ty)(hs:zf i)(w:autoParam ((nm==("__debug__":Str))=false) zR):PE X (.Subscript (.Name nm p) i XY) λe H Q=>ty e H λy b=>∃n v c,y=.str n∧RI vs n=some c∧aS v c∧Q v b:=by
 intro m s e H Q I h;refine xn SA.lookup hs (kl I g o (thn (q m s e H _ I h) λA z k=>?_) w);obtain⟨y,b,a,r,n,v,c,u,l,x,j⟩:=k;subst u;obtain⟨t,rfl⟩:=r;exact⟨(f.2 _ a.kIn).typeIs,V2 GL (f.2 _ a.kIn).mapOf l ⟨v,b,a.tok _,x,j⟩⟩
theorem F9(e:tT X d vs)(f:Gl X nm)(k:X.mg nm=some (.ref d))(l:PE X i ty)(q:autoParam ((nm==("__debug__":Str))=false) zR):PC X .NotIn i (.Name nm p) λc H Q=>ty c H λy b=>∃n,y=.str n∧Q (.bl (!(RI vs n).isSome)) b:=by
 intro j s c H Q I h;refine thn (l j s c H _ I h) λu r ⟨y,b,a,m,n,o,g⟩=>kl a f k ?_ q;subst o;obtain⟨t,rfl⟩:=m;exact WM GL e.1 (e.2 _ a.kIn).mapOf ⟨.bl _,b,a.tok _,rfl,g⟩
theorem He(b:tT X d vs)(a:Gl X nm)(f:X.mg nm=some (.ref d))(g:Ev X H0 O0 ps e (.str n))(c:RI vs n=some (.str t tk))(hs:zf e:=by intro _ _;rfl)(h:autoParam ((nm==("__debug__":Str))=false) zR):Ev X H0 O0 ps (.Subscript (.Name nm p) e XY) (.str t):=
 PE.mono (F5 b a f g hs h) λj H Q ⟨O,R,q⟩=>⟨O,R,λv i s r=>by
  cases r;exact⟨n,.str t,_,rfl,c,⟨tk,rfl⟩,q _ i s (.str t)⟩⟩
theorem GZ(b:tT X d vs)(a:Gl X nm)(c:X.mg nm=some (.ref d))(f:Ev X H0 O0 ps e (.str n))(g:autoParam ((nm==("__debug__":Str))=false) zR)(i:Oe .NotIn (.Name nm p)=false:=by first |exact k7 _ |with_unfolding_all rfl):Tt X H0 O0 ps (.Compare e [.NotIn] [.Name nm p] XY) (!(RI vs n).isSome):=
 PT.mono (Dr (F9 b a c f g) i) λj H Q ⟨O,R,q⟩=>⟨O,R,λv h s r=>by
  cases r;exact⟨n,rfl,_,rfl,q h s⟩⟩
end
theorem Gr:OpS X (MC .LtE) (.str x) (.str y) (.bl (!decide (y.cps.toList<x.cps.toList))):=by
 intro g s f H v w p q Q I a c h;obtain⟨d,b,e⟩:=h;cases d;cases b;obtain⟨t,rfl⟩:=a;obtain⟨i,rfl⟩:=c;exact PySem.P.le_str ⟨.bl _,H,I,rfl,e⟩
section
variable {X:Cx}{H0:Hp}{O0:List LX}{ps:PSt}{a:Expr}{x:Str}{X7 X4:Pos}
theorem zh:MtR X "str.split" (λv f H Q=>∃x,v=.str x∧f=[]∧x.length≤sizeLine∧(Builtin.Str.spaceWords x (x.length+1)).length≤sizeLine∧∀p,H p=none→Q (.ref p) (upd H p (.lst ((Txt.words x).map V.str)))):=by
 intro n s k H v f u A Q I i j h;obtain⟨x,rfl,rfl,y,c,q⟩:=h;obtain⟨t,rfl⟩:=i;cases j;have m:=I.hok.fresh (Lk s.heap.objs.size)
 have len:(Txt.words x).length<=sizeLine:=by
  unfold Txt.words;split
  .exact show 1<=sizeLine by decide
  .unfold wordsOf;rw[Lg];exact c
 have a:∀l g,l.map (·.1)=Txt.words x→EP X n k Q (.ref s.heap.objs.size) {s with heap:=s.heap.push {cls:=.type "list",data:=.seq (Uu l).toArray },toks:=g }:=λl g r=>
  ⟨.ref s.heap.objs.size,_,I.laid (λb o z=>Lj _ z) (Lk _) (show de X.prog X.w _ _ _ (.lst ((Txt.words x).map V.str)) from ⟨by rw[Lg];exact len,Uu l,_,by rw[<-r];exact k8 l,LC s.heap rfl⟩),rfl,q _ m⟩
 refine Q_ N3 rfl P3 (PySem.F.args_str_split_1 ..) (meets_str_split_space x t y c) ?_;by_cases d:(Builtin.Str.spaceWords x (x.length+1)==[(0,x.length)])=true
 .rw[if_pos d];exact a [(x,t)] s.toks (if_pos d).symm
 .rw[if_neg d];have e:Txt.words x=wordsOf x:=if_neg d;rw[<-e,strsFrom_eq];exact a (numbered s.toks (Txt.words x)) _ (WL _ _)
theorem vm(h:Ev X H0 O0 ps a (.str x))(e:x.length≤sizeLine)(b:(Builtin.Str.spaceWords x (x.length+1)).length≤sizeLine)(i:autoParam (NC a "split" X.env (N4 a X.env)=N4 a X.env) zM)(g:autoParam ((X7.endLine==X4.line)=true) zM):
  EvN X H0 O0 ps (.Call (.Attribute a "split" X7) [] [] X4) ((Txt.words x).map U.str):=
 PE.mono (B2 OU N3 TX zh h i g) λj H Q ⟨O,R,q⟩=>⟨O,R,λv k c f=>by
  cases f;exact⟨rfl,x,rfl,rfl,e,b,λp d=>q p _ _ (c.trans (bj d _)) (c.free d) aK (uq _)⟩⟩
end
def KC(K:Le)(d c:LX):It:=
 ⟨λi H=>∃a b x y,SqL K H d a/\SqL K H c b/\a[i]?=some x/\b[i]?=some y,
  λi H u e=>∃p x y,u=.ref p/\H p=none/\e=upd H p (.tup [x,y])/\(∀a,SqL K H d a->a[i]?=some x)/\(∀b,SqL K H c b->b[i]?=some y),
  λi H=>∃a b,SqL K H d a/\SqL K H c b/\a.length<=i⟩
theorem Ez{P:LJ}{w:Mp}{K:Le}{es:List Expr}{ctx XY}(z B F A u l1 S:LX)(D:V7 z B F A u l1 S):
  vP P w K (.Tuple es ctx XY) (KC K l1 S) [z,B,F,A,u] z (λi h=>IsZip h z B F .none/\W0 h B (.ref A) (.ref u)/\(∃a b,W0 h F a b)/\h.IsListIter A l1 i/\h.IsListIter u S i) where
 mem:=by simp
 obj:=λi h g b hb=>by
  obtain⟨j,m,⟨a,c,t⟩,p,r⟩:=g
  have G:∀{J l k},h.IsListIter J l k->∃o,h.get? J=some o/\∀v,o.data≠.cell v:=λq=>by
   obtain⟨o,e,_,d⟩:=q;exact⟨o,e,λv z=>by rw[d]at z;cases z⟩
  simp only[Ll,NG,or_false]at hb;rcases hb with e |e |e |e |e <;>subst e
  .exact⟨_,j,λv z=>by cases z⟩
  .exact⟨_,m,λv z=>by cases z⟩
  .exact⟨_,t,λv z=>by cases z⟩
  .exact G p
  .exact G r
 keep:=λi h V g k=>by
  obtain⟨j,m,⟨a,c,t⟩,p,r⟩:=g;exact⟨k z (by simp) _ j,k B (by simp) _ m,⟨a,c,k F (by simp) _ t⟩,p.at λo e=>k A (by simp) o e,r.at λo e=>k u (by simp) o e⟩
 item:=by
  intro X hP Y hK hc i XW s σ H E I Q g W;subst hP Y hK;obtain⟨j,m,⟨a,b,t⟩,p,r⟩:=g;obtain⟨xs,ys,x,y,M,N,U,e2⟩:=W;obtain⟨n1,R,Z,_⟩:=I.list M;obtain⟨n2,r2,p2,_⟩:=I.list N;obtain⟨u1,k1,t1⟩:=R.get U;obtain⟨u2,k2,t2⟩:=r2.get e2;refine Uj D j m t p r Z.isList p2.isList (by simpa using k1) (by simpa using k2) λV a1 a2 a3 a4 a5 a6 O=>?_;refine⟨_,rfl,?_⟩;refine wpAny_letOwnedTupleGo_zip a1 λhN b1 sb=>?_;have nz:=PR (Lx j);have T:=(sb.2 _ nz).trans a5;have fresh:=I.hok.fresh (Lk _)
  have nf:s.heap.objs.size ∉ [z,B,F,A,u]:=λhb=>by
   have f:∀{d o},s.heap.get? d=some o->s.heap.objs.size≠d:=λe=>PR (Lx e);have G:∀{J l k},s.heap.IsListIter J l k->s.heap.objs.size≠J:=λq=>by obtain⟨o,e,_⟩:=q;exact f e
   simp only[Ll,NG,or_false]at hb;rcases hb with e |e |e |e |e
   .exact f j e
   .exact f m e
   .exact f t e
   .exact G p e
   .exact G r e
  refine⟨.ref s.heap.objs.size,upd H s.heap.objs.size (.tup [x,y]),xX (s:=s) I Q (λd o C e=>?_) (Lk _) ⟨by show 2<=sizeLine;decide,[u1,u2],.cons t1 (.cons t2 .nil),⟨_,T,rfl,_,rfl⟩⟩,rfl,
   ⟨_,x,y,rfl,fresh,rfl,λzs q=>by rw[I.list_inj q M];exact U,λzs q=>by rw[I.list_inj q N];exact e2⟩,?_,λd C=>?_⟩
  .simp only[Ll,NG,or_false,not_or]at C;obtain⟨d1,d2,d3,d4,d5⟩:=C;exact (sb.2 d d1).trans (O d o d1 d3 d4 d5 e)
  .have L:∀d o,d≠z->V.get? d=some o->hN.get? d=some o:=λd o n e=>(sb.2 d n).trans e;exact⟨b1,L _ _ D.TIz (O _ _ D.TIz D.TITO D.TIi1 D.TIi2 m),⟨_,_,L _ _ D.TOz a2⟩,a3.at λo e=>L _ o D.i1z e,a4.at λo e=>L _ o D.i2z e⟩
  .rw[aI λe=>nf (by rw[<-e];exact C)];exact (Q d C).1
 done:=by
  intro X hP Y hK hc i XW s σ H E I Q g W;subst hP Y hK;obtain⟨j,m,⟨a,b,t⟩,p,r⟩:=g;obtain⟨xs,ys,M,N,hl⟩:=W;obtain⟨n1,R,Z,_⟩:=I.list M;obtain⟨n2,r2,p2,_⟩:=I.list N;have U:=R.length;refine RR (I.ok.hd hc) D j m t p r Z.isList p2.isList (.inl (by simp;lia)) λV O=>⟨rfl,yQ I Q λd o C e=>?_⟩
  exact O d o (by simp_all) (by simp_all) (by simp_all) (by simp_all) e
 self:=λ_ _ _ _ _ g h=>Tp g.1 h
section
variable {X:Cx}{H0:Hp}{O0:List LX}{E:XK}{ps:PSt}{D:PD}{Ym:List Od}{e f g tg iter:Expr}{es:List Expr}{p XY:Pos}{x y z:U}{xs ys zs us:List U}
def gd:List U->List U->List U
 |x::xs,y::ys=>.tup [x,y]::gd xs ys
 |_,_=>[]
theorem p6:∀{xs ys},xs.length=ys.length->(gd xs ys).length=xs.length
 |[],_,_=>by simp[gd]
 |_::xs,_::ys,h1=>by simp only[gd,LF]at *;rw[p6 (by lia)]
theorem tF:∀{xs ys}{i:Nat}{a b},xs[i]?=some a->ys[i]?=some b->(gd xs ys)[i]?=some (.tup [a,b])
 |_::xs,_::ys,0,a,b,h1,h2=>by simp at h1 h2;simp[gd,h1,h2]
 |_::xs,_::ys,i+1,a,b,h1,h2=>by rw[Nq]at h1 h2;rw[gd,Nq];exact tF h1 h2
theorem Cw{ctx tpos}(hg:Gl X "zip")(hm:X.mg "zip"=none)(ha:Ev X H0 O0 ps e x)(hx:x=.lst xs∨x=.scr xs)(Z:Ev X H0 O0 ps f y)(hy:y=.lst ys∨y=.scr ys)
  (l12:xs.length=ys.length) (he:Lr [e,f] X.env=(false,N4 e X.env)::Lr [f] X.env) (hf:Lr [f] X.env=(false,N4 f X.env)::Lr [] X.env):
  EvZ X H0 O0 ps (.Tuple es ctx tpos) (.Call (.Name "zip" p) [e,f] [] XY) (gd xs ys):=by
 rintro XW s σ H Q I ⟨O,R,q⟩;refine M8 (dD I hg hm tM ?_)
 refine callWith_type1 (thn (ci ha (ci Z fi hf) he XY XW s σ H (λV l=>∃v u,V=[v,u]/\aU H l/\Rp X.K (hid l O) v x/\Rp X.K (hid l O) u y) I
  ⟨O,R,λv l c r1=>⟨O,R.go c,λu z h r2=>⟨v,u,rfl,c.trans h,r1.same (aP h),r2⟩⟩⟩) λus c ZL=>?_) he (by rw[hf];rfl)
 obtain⟨V,l,w,rv,v,u,rfl,sm,E,C⟩:=ZL;obtain⟨w1,w2,rfl,J,L⟩:=p_ rv;obtain⟨a,A,rfl,j,t⟩:=zP E hx;obtain⟨b,vb,rfl,g,m⟩:=zP C hy;cases J;cases L;obtain⟨ia,ra,n,hz1⟩:=w.list (aH.seq j);obtain⟨ib,rb,r,hz2⟩:=w.list (aH.seq g);have l1:=t.len;have l2:=m.len;have al:@LT.lt Nat instLTNat a c.heap.objs.size:=by obtain⟨o,M,_⟩:=n.isList;exact Lx M
 have bl:@LT.lt Nat instLTNat b c.heap.objs.size:=by obtain⟨o,M,_⟩:=r.isList;exact Lx M
 refine call_zip_2 n.isList r.isList λh' U g2 g3 g4 g5 g7 g8=>?_;have D:V7 (c.heap.objs.size+4) (c.heap.objs.size+2) (c.heap.objs.size+3) c.heap.objs.size (c.heap.objs.size+1) a b:=by constructor <;>exact JK (by lia)
 refine Tp U ?_;have I2:=w.kept (t':=c.toks) g8;refine⟨c.heap.objs.size+4,_,_,_,l,rfl,I2,Ez _ _ _ _ _ a b D,⟨U,g2,⟨_,_,g3⟩,g4,g5⟩,λd T=>?_,q _ l sm λz h=>?_⟩
 .have S:c.heap.objs.size<=d:=by
   simp only[Ll,NG,or_false]at T;rcases T with e |e |e |e |e <;>rw[e] <;>first |exact L5 _ _ |exact Lk _
  exact w.fpOk S (w.hok.fresh S)
 .rw[p6 l12];refine⟨λi hi=>?_,⟨A,vb,h.seq j,h.seq g,by lia⟩⟩;have h1:i<A.length:=by lia
  have h2:i<vb.length:=by lia
  refine⟨⟨A,vb,A[i],vb[i],h.seq j,h.seq g,Ld h1,Ld h2⟩,?_⟩;rintro _ H3 ⟨F,G,B,rfl,P,rfl,e1,e2⟩;have k:aU z (upd z F (.tup [G,B])):=bj P _;have N:xs[i]?=some (xs[i]'(by lia)):=Ld (by lia);have W:ys[i]?=some (ys[i]'(by lia)):=Ld (by lia);refine⟨k,_,tF N W,λO2 hO Y=>?_⟩
  have all:Rps X.K (hid (upd z F (.tup [G,B])) O2) [G,B] [_,_]:=
   .cons ((t.at_ i _ _ (e1 _ (h.seq j)) N).same (Y.trans (aP k))) (.cons ((m.at_ i _ _ (e2 _ (h.seq g)) W).same (Y.trans (aP k))) .nil)
  exact .tup (SqT.of (cW aK λhp=>hO F hp P)) all.len all.at_
end
def IJ(a:Params)(e:Str×Tok×Str×Tok):DictEntry:={hash:=PyData.keyHash a e.1,key:=.str e.1 e.2.1,val:=.str e.2.2.1 e.2.2.2 }
def zG(w:Mp)(K:Le)(d:LX)(vs:List (Str×Str)):Prop:=
 (d==Pu)=false∧∃(a:List (Str×Tok×Str×Tok)) (n:Nat),vs=a.map (λe=>(e.1,e.2.2.1))∧(vs.map (·.1)).Nodup∧K.lookup d=some ⟨.type "dict",none,.dict (a.map (IJ w.params)).toArray n,#[]⟩
def iR(vs:List (Str×Str))(x:Str):Option Str:=(vs.find? λa=>decide (a.1=x)).map (·.2)
section
variable {X:Cx}{H0:Hp}{O0:List LX}{ps:PSt}{e:Expr}{XY p:Pos}{n nm t:Str}{d:LX}{vs:List (Str×Str)}
theorem nA:∀a:List (Str×Tok×Str×Tok),Pairs (strKind prog w) (a.map (IJ w.params)) (a.map λe=>(e.1,U4 e.2.2.1 e.2.2.2))
 |[]=>Pairs.nil
 |e::r=>Pairs.cons (strKind_is prog w e.1 e.2.1) rfl (nA r)
theorem zG.dict(h:zG X.w X.K d vs):∃c,tT X d c/\∀x,(∀t,iR vs x=some t->∃l,RI c x=some (.str t l))/\(RI c x).isSome=(iR vs x).isSome:=by
 obtain⟨i,a,m,rfl,f,g⟩:=h;refine⟨a.map λe=>(e.1,U4 e.2.2.1 e.2.2.2),⟨i,λh b=>?_⟩,λx=>?_⟩
 .refine Heap.dictOf_iff.mpr ⟨_,b _ _ g,(a.map (IJ X.w.params)).toArray,m,⟨rfl,rfl,rfl⟩,rfl,λe k=>?_,nA a,by rw[L4]at f |-;exact f⟩;obtain⟨q,_,rfl⟩:=Ln.mp (List.mem_toArray.mp k);exact⟨q.1,strKind_is _ _ q.1 q.2.1,rfl⟩
 .clear f g
  induction a with
  |nil=>exact⟨λt h=>(by simp[iR]at h),rfl⟩
  |cons e r j=>
   unfold RI iR at *;rw[LK,LK,Oj,Oj];by_cases z:e.1=x
   .simp only[z,decide_true];exact⟨λt h=>⟨e.2.2.2,by simp at h;simp[h]⟩,rfl⟩
   .simp only[z,decide_false];exact j
theorem Gd(h:zG X.w X.K d vs)(a:Gl X nm)(f:X.mg nm=some (.ref d))(g:Ev X H0 O0 ps e (.str n))(c:iR vs n=some t)(hs:zf e:=by intro _ _;rfl)(j:autoParam ((nm==("__debug__":Str))=false) zR):Ev X H0 O0 ps (.Subscript (.Name nm p) e XY) (.str t):=by
 obtain⟨k,b,q⟩:=h.dict;obtain⟨l,i⟩:=(q n).1 t c;exact He b a f g i hs j
theorem Be(h:zG X.w X.K d vs)(a:Gl X nm)(c:X.mg nm=some (.ref d))(g:Ev X H0 O0 ps e (.str n))(f:autoParam ((nm==("__debug__":Str))=false) zR)(i:Oe .NotIn (.Name nm p)=false:=by first |exact k7 _ |with_unfolding_all rfl):Tt X H0 O0 ps (.Compare e [.NotIn] [.Name nm p] XY) (!(iR vs n).isSome):=by
 obtain⟨j,b,q⟩:=h.dict;rw[<-(q n).2];exact GZ b a c g f i
end
theorem EU(n:OpS X (MC op) x y (.bl k))(p:OpS X (MC op') y z (.bl m))(l:Ev X H0 O0 ps a x)(h:Ev X H0 O0 ps b y)(r:Ev X H0 O0 ps c z)
  (hm:lastMarks [op,op'] [b,c]=false:=by with_unfolding_all rfl):Tt X H0 O0 ps (.Compare a [op,op'] [b,c] XY) (k && m):=
 PT.mono (A4 n p l h r hm) λu H Q ⟨O,R,q⟩=>⟨O,R,λw A e j=>⟨O,R.go e,λt i d f=>⟨(j.same (aP d)).out,f.out,k,rfl,by
  cases k with
  |false=>exact oF ⟨_,rfl,q i (e.trans d)⟩
  |true=>exact rT ⟨O,(R.go e).go d,λv s g o=>⟨(f.same (aP g)).out,o.out,_,rfl,q s ((e.trans d).trans g)⟩⟩⟩⟩⟩
theorem Hh:OpS X (MC .NotIn) (.str x) (.str y) (.bl (!(!(Builtin.Str.occurrences y x 0 y.length 1).isEmpty))):=by
 intro g s f H v w p q Q I b c h;obtain⟨a,e,d⟩:=h;cases a;cases e;obtain⟨t,rfl⟩:=b;obtain⟨i,rfl⟩:=c;exact PyProof.Rows.notIn_str ⟨.bl _,H,I,rfl,d⟩
theorem iJ(h:c=c')(t:TtK X H0 O0 ps e c ZC):TtK X H0 O0 ps e c' ZC:=h ▸ t
end L2
namespace L2
open PySem PySem.Spec PySem.W PyProof.Rows
structure Dfn(K:Le)(mg:Str->Option Lw)(x:Str)(st:Od)(ps:List Str) where
 a:LX
 d:Of
 F:Fun K x x st a d
 b:cm K d ps []
 m:mg x=some (.ref a)
structure DfD(K:Le)(mg:Str->Option Lw)(x:Str)(st:Od)(ps:List Str)(j:Int) where
 a:LX
 d:Of
 D:LX
 F:CZ K x x st a d D
 b:cm K d ps []
 bd:∃t,cm K d ps [.int j t]
 m:mg x=some (.ref a)
structure MDf(K:Le)(C:LX)(x q:Str)(st:Od)(ps:List Str) where
 a:LX
 d:Of
 F:Fun K x q st a d
 b:cm K d ps []
 m:Bl K C x a
structure IDf(K:Le)(C:LX)(x q:Str)(st:Od)(ps:List Str) where
 a:LX
 d:Of
 F:Fun K x q st a d
 b:cm K d ps []
 m:Mk K C a
structure Exn(mg:Str->Option Lw)(x:Str) where
 c:LX
 m:mg x=some (.ref c)
abbrev xi(x q:Str)(st:Od)(c:List Str):Prop:=∀(kV g d:Lw) (f:Option LX) (b e:Lw) (a:List Lw),a.length=c.length->Rh (fnOf x q (bY st) (bm st) (ai st) .none kV g d f b e) ⟨a,[]⟩=pure (c.zip a)
section
variable {K:Le}{h:OG}{mg:Str→Option Lw}{x q:Str}{st:Od}{ps:List Str}{f C D:LX}{j:Int}{oc:Lw}{od an:Option LX}{kV dc pm cd ct:Lw}{sl:Array (Option Lw)}{x1 x2 x3 t:_}
def dfn(X:K.In h)(G:h.Ns MY mg)(b:xi x x st ps)(a:nsIn K MY x=some (some (.ref f)))(l:K.lookup f=some ⟨oc,od,.func (fnOf x x (bY st) (bm st) (ai st) .none kV dc pm an cd ct),sl⟩)(c:codeIn K cd x=true)(k:keepIn K (.ref f)=true):Dfn K mg x st ps:=⟨f,_,kX l c k,(kX l c k).binds b,mg_of X G a⟩
def dfD(X:K.In h)(G:h.Ns MY mg)(b:K.lookup D=some ⟨.type "tuple",x1,.seq #[.int j t] x2,x3⟩→∀(kV dc pm:Lw) (an:Option LX) (cd ct:Lw),cm K (fnOf x x (bY st) (bm st) (ai st) (.ref D) kV dc pm an cd ct) ps []∧∃t,cm K (fnOf x x (bY st) (bm st) (ai st) (.ref D) kV dc pm an cd ct) ps [.int j t])(a:nsIn K MY x=some (some (.ref f)))(l:K.lookup f=some ⟨oc,od,.func (fnOf x x (bY st) (bm st) (ai st) (.ref D) kV dc pm an cd ct),sl⟩)(c:codeIn K cd x=true)(k:keepIn K (.ref f)=true)(q:K.lookup D=some ⟨.type "tuple",x1,.seq #[.int j t] x2,x3⟩):DfD K mg x st ps j:=⟨f,_,D,FS l c k,(b q kV dc pm an cd ct).1,(b q kV dc pm an cd ct).2,mg_of X G a⟩
def mdf(b:xi x q st ps)(a:findIn K (.ref C) x=some (some (.ref f)))(l:K.lookup f=some ⟨oc,od,.func (fnOf x q (bY st) (bm st) (ai st) .none kV dc pm an cd ct),sl⟩)(c:codeIn K cd q=true)(k:keepIn K (.ref f)=true)(n:isFn K (.ref f)=true):MDf K C x q st ps:=⟨f,_,kX l c k,(kX l c k).binds b,⟨a,n,k⟩⟩
def idf(b:xi "__init__" q st ps)(a:findIn K (.ref C) "__init__"=some (some (.ref f)))(l:K.lookup f=some ⟨oc,od,.func (fnOf "__init__" q (bY st) (bm st) (ai st) .none kV dc pm an cd ct),sl⟩)(c:codeIn K cd q=true)(k:keepIn K (.ref f)=true)(n:isFn K (.ref f)=true)(d:makesIn K C=true)(ch:keepIn K (.ref C)=true):IDf K C "__init__" q st ps:=⟨f,_,kX l c k,(kX l c k).binds b,⟨d,a,n,ch⟩⟩
def exn(X:K.In h)(G:h.Ns MY mg)(a:nsIn K MY x=some (some (.ref f))):Exn mg x:=⟨f,mg_of X G a⟩
theorem c_m(X:K.In h)(G:h.Ns MY mg)(a:nsIn K MY x=some (some (.ref f))):mg x=some (.ref f):=mg_of X G a
theorem g_i(X:K.In h)(G:h.Ns MY mg)(a:nsIn K MY x=some (some (.int j t))):∃t,mg x=some (.int j t):=⟨t,mg_of X G a⟩
theorem g_s(X:K.In h)(G:h.Ns MY mg)(a:nsIn K MY x=some (some (.str q t))):∃t,mg x=some (.str q t):=⟨t,mg_of X G a⟩
end
end L2
namespace SG
open PySem PySem.W PySem.Calls PyProof.Rows ST
abbrev rfs{α:Type}(a:List (α×LX)):List Lw:=a.map λp=>MM p.2
structure Ky(α:Type) where
 lt:α->α->Bool
 tr:∀{a b c:α},lt a b=true->lt b c=true->lt a c=true
 tot:∀{a b:α},a≠b->lt a b=false->lt b a=true
 asy:∀{a b:α},lt a b=true->lt b a=false
 is:LJ->Mp->OG->α->LX->Prop
 kd:Ro
 grow:∀{prog:LJ}{w:Mp}{h h':OG}{a:α}{b:LX},is prog w h a b→(∀b o,o.cls=.type "tuple"→h.get? b=some o→h'.get? b=some o)→is prog w h' a b
 ask:∀{prog:LJ}{w:Mp}{A:ML}{E:Lw->LB->Prop}{s:LB}{x y:LX}{a b:α}{Q:Bool->LB->Prop},A.units+1<P6->is prog w s.heap a x->is prog w s.heap b y->Q (lt a b) s->Me (L6 prog w) A (keyLt' kd (.ref x) (.ref y)) Q E s
 kind:∀{prog:LJ}{w:Mp}{A:ML}{E:Lw->LB->Prop}{s:LB}{pb:List (α×LX)}{Q:Ro->LB->Prop},(∀p∈pb,is prog w s.heap p.1 p.2)->0<pb.length->Q kd s->Me (L6 prog w) A (keyKind' (rfs pb).toArray) Q E s
section
variable {α:Type} [DecidableEq α] (S:Ky α)
def ins(x:α):List α->List α
 |[]=>[x]
 |y::r=>if x=y then y::r else if S.lt x y=true then x::y::r else y::ins x r
def srt(l:List α):List α:=l.foldr (ins S) []
abbrev Asc(l:List α):Prop:=l.Pairwise (λx y=>S.lt x y=true)
end
end SG
namespace ST3
open PySem PySem.W PySem.Calls PyProof.Rows ST
abbrev PQ:=(Int×Int)×Int
section
variable {prog:LJ}{w:Mp}{A:ML}{E:Lw→LB→Prop}{s:LB}
def TQ(prog:LJ)(w:Mp)(h:OG)(t:PQ)(b:LX):Prop:=∃o items n a u,h.get? b=some o∧o.cls=.type "tuple"∧o.data=.seq items n∧items.toList=[.ref a,.int t.2 u]∧TK prog w h (lq t.1) a
end
def KP:SG.Ky (Int×Int):=⟨ltP,ltP_tr,ltP_tot,yM,λa w h p b=>TK a w h (lq p) b,Xy true,λt e=>by obtain⟨o,d,n,f,c,g⟩:=t;exact⟨o,d,n,e _ _ c f,c,g⟩,λi h k q=>GM h k q,λh k q=>AS h k q⟩
end ST3
namespace SG
open PySem PySem.W PySem.Calls PyProof.Rows ST
abbrev kyg{α:Type}(p:α×LX):MU:=(MM p.2,MM p.2)
open Classical in
noncomputable def RG {α:Type} (S:Ky α) (a:List (α×LX)) (x y:MU):Bool:=decide (∃p∈a,∃q∈a,x=kyg p/\y=kyg q/\S.lt p.1 q.1=true)
theorem mZ{α:Type}{S:Ky α}{a:List (α×LX)}:RG S a x y=true↔∃p∈a,∃q∈a,x=kyg p/\y=kyg q/\S.lt p.1 q.1=true:=by unfold RG;exact decide_eq_true_iff
theorem yb{α:Type}{p q:α×LX}(h:kyg p=kyg q):p.2=q.2:=by
 have:=(Prod.mk.inj h).1;injection this
section
variable {α:Type} (S:Ky α) {prog:LJ}{w:Mp}{A:ML}{E:Lw→LB→Prop}{s:LB}
include S
theorem sort_b{a:LX}{pb:List (α×LX)}{n:Nat}{P:PySem.Fin→LB→Prop}(N:s.heap.get? a=some (W3 "list" (rfs pb).toArray n))(ZP:∀p∈pb,S.is prog w s.heap p.1 p.2)(hu:A.units+1<P6)(d0:α×LX)(H:(pb.map (·.1)).Nodup)(T:pb.length≤sizeLine)(M:∀{h:OG}{a b:α}{x:LX},S.is prog w h a x→S.is prog w h b x→a=b)
  (h:∀Y7:List (α×LX),Y7.Perm pb->(Y7.map (·.1)).Pairwise (λx y=>S.lt x y=true)->P (.done (.ret .none)) {s with heap:=sortedHeap s.heap a (rfs pb) (rfs Y7).toArray }):
  Me (L6 prog w) A (Builtin.«list.sort» ⟨[.ref a],[]⟩) P E s:=by
 have R:(rfs pb).length=pb.length:=by simp
 have f:(rfs pb).toArray.size=pb.length:=by simp
 rw[list_sort_plain];have ha:a<s.heap.objs.size:=Lx N;refine Lh (listItems_at N rfl (Lh (Vh N rfl ?_ (by rw[f];exact T) (Mu _))));obtain⟨m,L⟩:∃m,(s.heap.update a (O4 λ_=>(#[]:Array Lw))).get? a=some (W3 "list" #[] m):=⟨_,get?_update_seq N (λ_=>#[])⟩
 refine Lh (Wq L rfl (Lh (WJ ?_ (by show (rfs pb).length<=_;rw[R];exact T))));refine Lh (wpAny_newList ?_ (Mu _));refine Na ?_;generalize hh6:((s.heap.update a (O4 λ_=>(#[]:Array Lw))).push (W3 "tuple" (rfs pb).toArray 0)).push (W3 "list" #[] 0)=C
 have J:∀b o,b≠a->s.heap.get? b=some o->C.get? b=some o:=λb o hb e=>by
  rw[<-hh6];exact Lj _ (Lj _ ((M0 _ _ (Ne.symm hb)).trans e))
 have v:C.get? a=some (W3 "list" #[] m):=by rw[←hh6];exact Lj _ (Lj _ L)
 have k:∀p∈pb,S.is prog w C p.1 p.2:=λp c=>by
  refine S.grow (ZP p c) λb o hc e=>J b o (λz=>?_) e;rw[z,N]at e;cases e;exact absurd hc (by show ¬ (OC "list"=OC "tuple");decide)
 have K:∀Y7:List (α×LX),Y7.Perm pb->(Y7.map (·.1)).Pairwise (λx y=>S.lt x y=true)->P (.done (.ret .none)) {s with heap:=C.update a (O4 λ_=>(rfs Y7).toArray) }:=λY7 t D=>by
  rw[<-hh6];exact h Y7 t D
 show Me (L6 prog w) A _ P E {s with heap:=C };dsimp only;by_cases g:(rfs pb).toArray.size<2
 .rw[if_pos g,if_pos g];refine Lh (Lm ?_);rw[StateT.run_pure];refine Lh (Lm ?_);dsimp only
  have O:(Mi (SortSt.mk' general' ((rfs pb).toArray.zip (rfs pb).toArray) #[] 7 none)).map (·.2)=(rfs pb).toArray:=by
   show (((rfs pb).toArray.zip (rfs pb).toArray)).map (·.2)=_;apply RF.mp
   have G:∀l:List Lw,(l.zip l).map (·.2)=l:=λl=>by
    induction l with
    |nil=>rfl
    |cons x r ih=>rw[Om,LK,ih]
   rw[To,V3];exact G _
  rw[O];refine Lh (Wq v rfl (Lh (Vh v rfl ?_ (Mu _) (by rw[f];exact VD T))));show Me _ _ (if (m !=m)=true then _ else _) _ _ _;rw[if_neg (by simp)];refine Lm (K pb (UK _) ?_)
  match pb,f,g with
  |[],_,_=>simp
  |[_],_,_=>simp
  |_::_::r,f,g=>rw[f]at g;exact absurd g (by simp)
 .rw[if_neg g,if_neg g];rw[f]at g;have h2':2<=(rfs pb).length:=by rw[R];lia
  refine Lh (S.kind (s:={s with heap:=C }) k (by lia) ?_);have one:∀p∈pb,∀q∈pb,kyg p=kyg q->p=q:=λp c q d e=>MS (M (k p c) (by rw[yb e];exact k q d)) (yb e)
  have val:∀p∈pb,∀q∈pb,RG S pb (kyg p) (kyg q)=S.lt p.1 q.1:=λp c q d=>by
   cases hl:S.lt p.1 q.1 with
   |true=>exact mZ.mpr ⟨p,c,q,d,rfl,rfl,hl⟩
   |false=>
    cases F:RG S pb (kyg p) (kyg q) with
    |false=>rfl
    |true=>
     obtain⟨p',YS,X,Z,m,e2,z⟩:=mZ.mp F;rw[<-one p c p' YS m,<-one q d X Z e2,hl]at z;cases z
  have I:TS.Asks prog w A E {s with heap:=C } (S.kd) (λx=>∃p∈pb,x=kyg p) (RG S pb):=by
   rintro x y st Q ⟨p,c,rfl⟩ ⟨q,d,rfl⟩ hk hQ;rw[lt'_eq];refine LI (Sy ?_);rw[hk];rw[val p c q d]at hQ;refine LI (wpS_lift (S9 (S.ask (s:={s with heap:=C }) hu (k p c) (k q d) ⟨rfl,?_⟩)))
   exact LU hQ
  have ord:TS.Ord (λx=>∃p∈pb,x=kyg p) (RG S pb) (pb.map kyg):=by
   refine⟨λx y z h1 g=>?_,λx hx y hy Y F=>?_,?_,λx hx=>?_⟩
   .obtain⟨p,c,q,d,rfl,rfl,z1⟩:=mZ.mp h1;obtain⟨X,Z,r,F,e,rfl,z2⟩:=mZ.mp g;rw[<-one q d X Z e]at z2;exact mZ.mpr ⟨p,c,r,F,rfl,rfl,S.tr z1 z2⟩
   .obtain⟨p,c,rfl⟩:=Ln.mp hx;obtain⟨q,d,rfl⟩:=Ln.mp hy;rw[val p c q d]at F;rw[val q d p c];refine S.tot (λe=>Y ?_) F
    obtain⟨i,V,rfl⟩:=Nb c;obtain⟨j,W,rfl⟩:=Nb d;have:i=j:=(Tf (xs:=pb.map (·.1)) (h₀:=by simpa using V) (h₁:=by simpa using W) H).mp (by simpa using e);subst this;rfl
   .have ndp:pb.Nodup:=(MF.mp H).imp λh e=>h (congrArg _ e);refine MF.mpr (QN (λc d Y e=>Y (one _ c _ d e)) ndp)
   .obtain⟨p,c,rfl⟩:=Ln.mp hx;exact⟨p,c,rfl⟩
  have stt:TS.Stt (S.kd) (pb.map kyg) #[] (SortSt.mk' (S.kd) ((rfs pb).toArray.zip (rfs pb).toArray) #[] 7 none):=by
   refine⟨rfl,rfl,?_,rfl⟩
   have e:(Mi (SortSt.mk' (S.kd) ((rfs pb).toArray.zip (rfs pb).toArray) #[] 7 none)).toList=pb.map kyg:=by
    show ((rfs pb).toArray.zip (rfs pb).toArray).toList=_;rw[V3];show (pb.map _).zip (pb.map _)=_;rw[List.zip_map']
   rw[e]
  refine Lh (Pv (TS.sruns I ord (Q:=λ_ U=>RV U=none/\∃Y7:List (α×LX),Y7.Perm pb/\(Y7.map (·.1)).Pairwise (λx y=>S.lt x y=true)/\(Mi U).map (·.2)=(rfs Y7).toArray) stt λpd U S' up=>?_) ?_ λ_ _ e=>e)
  .refine⟨S'.failed,?_⟩;obtain⟨Y7,t,D⟩:=JI S'.perm pb rfl;refine⟨Y7,t,?_,?_⟩
   .refine MF.mpr (LD.mpr λi j V W Yr=>?_);have lp:=t.length_eq;have u:=up i j Yr (by rw[Lg];lia);rw[Pf,Pf,TS.gt_eq (by rw[<-D,Lg];exact V),TS.gt_eq (by rw[<-D,Lg];exact W)]at u
    simp only[<-D,List.getElem_map]at u;rw[val _ (t.mem_iff.mp (MA V)) _ (t.mem_iff.mp (MA W))]at u;exact u
   .apply RF.mp;rw[To,<-D,L4];rfl
  .rintro ⟨⟨⟩,U⟩ s' ⟨rfl,hf,Y7,t,D,B⟩;dsimp only at hf B |-;rw[B];have Zc:(rfs Y7).toArray.size=pb.length:=by simp[t.length_eq]
   refine Lh (Wq v rfl (Lh (Vh v rfl ?_ (Mu _) (by rw[Zc];exact VD T))));rw[hf];show Me _ _ (if (m !=m)=true then _ else _) _ _ _;rw[if_neg (by simp)];exact Lm (K _ t D)
end
end SG
namespace ST3
open PySem PySem.W PySem.Calls PyProof.Rows ST
theorem KP_det(p:KP.is prog w h a x)(q:KP.is prog w h b x):a=b:=congrArg Ph (TK.det (p:=(a,x)) (q:=(b,x)) p q rfl)
end ST3
namespace ST
open PySem PySem.W PyProof.Rows PySem.Calls
section
variable {prog:LJ}{w:Mp}{A:ML}{E:Lw→LB→Prop}{s:LB}
theorem call_sorted_setG(hh:A.handled=none)(hu:A.units+5<P6)(P:SP prog w s.heap S kb)(h64:kb.length<1000)(h2:∀p∈kb,p.1.length=2)
  (h:∀(v d:OG) B (K:PB) e,XT K (ptsOf kb)→(K.map (·.1)).Pairwise (λx y=>ltP x y=true)→(∀b o,s.heap.get? b=some o→v.get? b=some o)→(∀b o,v.get? b=some o→d.get? b=some o)→d.get? v.objs.size=some (W3 "list" (refs K).toArray e)→Q (.ref v.objs.size) {s with heap:=d,toks:=B }):
  Me (L6 prog w) A (call (.builtin "sorted") [.ref S]) Q E s:=by
 obtain⟨⟨o,n,u,t,ho,J,hd,V,T,hl,hp,_,_⟩,hk,D⟩:=P;have N:n.size=kb.length:=by rw[<-Ly,V];simp[ents]
 have O:SO prog w o n u t (kb.map λp=>hsh prog w p.1):=⟨J,hd,T,by rw[Lg,N],hl,hp⟩
 have two:∀p∈kb,p.1=[p.1.getD 0 0,p.1.getD 1 0]:=λp L=>by
  have:=h2 p L
  match Z:p.1,this with
  |[x,y],_=>rfl
 refine call_function_entry kind_sorted plain_sorted entry_sorted (args_sorted1 _) ?_;unfold Builtin.«sorted»;refine Lh (m:=checkCount "sorted" 1 1 _) (Lm ?_);refine Lh (kdu_collect (A:=A.in1) (Fv O) hh ho (by rw[N,Oq];lia) λd B j keep f=>?_)
 have Zn:j.toList=c7 w S n u:=by
  apply Qr;intro i;rcases NN i j.size with z |z
  .rw[MN,MQ z];exact (f.2 i _ (MQ z)).symm
  .rw[MD (by simpa using z),MD];rw[(fT w S n u).length_eq,Lg,Ly,<-f.1];exact z
 obtain⟨c,l,ek⟩:=C7 (λ(p:List Int×LX)=>MM p.2) (fT w S n u) kb (by rw[V];unfold ents;rw[L4];rfl)
 have R:j.toList=refs (ptsOf c):=by
  rw[Zn,ek];unfold refs ptsOf;rw[L4];rfl
 have Zm:(ptsOf c).length=kb.length:=by unfold ptsOf;rw[Lg,l.length_eq]
 have g:j.toList.length=kb.length:=by rw[R];simp[Zm]
 refine Lh (wpAny_newList ?_ (by rw[g,Oq];lia))
 have C:(d.push {cls:=.type "list",data:=.seq j.toList.toArray }).get? d.objs.size=some (W3 "list" (refs (ptsOf c)).toArray 0):=by
  rw[<-R];exact LC _ rfl
 have M:∀p∈ptsOf c,TK prog w (d.push {cls:=.type "list",data:=.seq j.toList.toArray }) [p.1.1,p.1.2] p.2:=λp L=>by
  obtain⟨q,Z,rfl⟩:=Ln.mp L;have W:=l.mem_iff.mp Z;obtain⟨oq,its,k,I,r⟩:=hk q W;have e2:=two q W;refine⟨oq,its,k,Lj _ (keep _ _ I),?_⟩;rw[<-e2];exact r
 have G:((ptsOf c).map (·.1)).Nodup:=by
  have n1:(c.map (·.1)).Nodup:=((l.map (·.1)).nodup_iff).mpr D;unfold ptsOf;rw[L4];refine MF.mpr ((MF.mp n1).imp_of_mem λ{a b} ha hb F=>?_);intro z;have U:=two a (l.mem_iff.mp ha);have eb:=two b (l.mem_iff.mp hb);have H:(a.1.getD 0 0,a.1.getD 1 0)=(b.1.getD 0 0,b.1.getD 1 0):=z;rw[Xb]at H;rw[H.1,H.2]at U;exact F (U.trans eb.symm)
 refine Lh (Na (Os slot_list_sort ⟨_,C,rfl⟩ entry_list_sort ?_ (args_list_sort _)));refine SG.sort_b ST3.KP (s:={s with heap:=d.push {cls:=.type "list",data:=.seq j.toList.toArray },toks:=B }) C M (by show A.units+1+1+1<P6;lia) ((0,0),0) G (by rw[Oq];lia) (λp q=>ST3.KP_det p q) λY7 pp so=>⟨_,rfl,Lm ⟨_,rfl,?_⟩⟩
 obtain⟨e,eD⟩:=sortedHeap_at (out:=(refs Y7).toArray) C;refine h d _ B Y7 e (pp.trans ?_) so keep (λb x Y=>?_) eD
 .unfold ptsOf;exact l.map _
 .have X:=Lx Y;rw[sortedHeap_old (L3 X) (by rw[NS];exact OD X)];exact Lj _ Y
end
end ST
namespace L2
open PySem PySem.Spec PyProof.Rows
section
variable {X:Cx}{H0:Hp}{O0:List LX}{ps:PSt}{e:Expr}{pts:List P2}{XY Yd p p':Pos}
theorem gl(hc:X.calm=true)(hu:X.A.units+10<P6)(hg:Gl X "sorted")(hm:X.mg "sorted"=none)(W:Gl X "set")(Y:X.mg "set"=none)(ha:Ev X H0 O0 ps e (lp pts))(hl:pts.length<1000)
  (he:autoParam (Lr [e] X.env=(false,N4 e X.env)::Lr [] X.env) zM):EvN X H0 O0 ps (.Call (.Name "sorted" p) [.Call (.Name "set" p') [e] [] Yd] [] XY) ((ST.srt pts).map pu):=by
 rintro S s σ H Q I ⟨O,R,q⟩;have hh:X.A.handled=none:=I.ok.hd hc;refine M8 (dD I hg hm boot_sorted ?_);refine callWith_builtin1 (e:=.Call (.Name "set" p') [e] [] Yd) (rest:=[]) ?_ rfl rfl;show Me _ _ (spliced ((false,N4 (.Call (.Name "set" p') [e] [] Yd) X.env)::NT XY (Lr [] X.env))) _ _ s;refine QS ?_;refine M8 (dD I W Y Cc ?_);refine callWith_type1 (thn (ci ha fi he Yd S s σ H (λvs g=>∃v,vs=[v]/\aU H g/\Rp X.K (hid g O) v (lp pts)) I ⟨O,R,λv g B r1=>⟨v,rfl,B,r1⟩⟩) λus B hx=>?_) he rfl;obtain⟨vs,g,I1,rv,v,rfl,sm,rp⟩:=hx;obtain⟨u,rfl,ru⟩:=dW rv;cases rp with
 | @lst a ws _ hq hwl hwi=>
  cases ru;obtain⟨its,Y4,pl,h⟩:=I1.list (SqL.of (aH _ _ hq));have hlp:ws.length=pts.length:=by rw[hwl,Lg]
  have U:its.length=pts.length:=by rw[<-Y4.length,hlp]
  have G:∀i,i<pts.length->∃b,its[i]?=some (.ref b)/\Rp X.K (hid g O) (.ref b) (pu (pts.getD i (0,0)))/\ST.TK X.prog X.w B.heap [(pts.getD i (0,0)).1,(pts.getD i (0,0)).2] b:=λi n=>by
   have hw:ws[i]?=some ws[i]:=Ld (by lia);have hp:(pts.map pu)[i]?=some (pu (pts.getD i (0,0))):=by rw[Lq,Ld n];simp[n]
   have r:=hwi i _ _ hw hp;obtain⟨u',m,L⟩:=Y4.get hw;obtain⟨b,rfl,F,tb⟩:=AU I1 r.out L;exact⟨b,m,F ▸ r,tb _ _⟩
  obtain⟨E,t⟩:=Kk G;have P:its.toArray.size=pts.length:=by simp[U]
  refine ST.call_set_pts (λi=>([(pts.getD i (0,0)).1,(pts.getD i (0,0)).2],E i)) hh (by show X.A.units+1+1+1<P6;lia) pl.isList (λi z F=>?_) (λi n=>?_) (by rw[P];lia) λh2 T kb sp c keep=>?_
  .have n:i<pts.length:=by have:=aL (show its[i]?=some z by simpa using F);lia
   have:=(t i n).1;rw[show its.toArray[i]?=its[i]? by simp,this]at F
   cases F;rfl
  .exact (t i (by rw[P]at n;exact n)).2.2
  .rw[P]at c;have I2:Inv X S σ g {B with heap:=h2,toks:=T }:=I1.kept (t':=T) keep
   refine Q7 ?_;have hkl:kb.length<1000:=by have:=c.len;lia
   refine ST.call_sorted_setG (s:={B with heap:=h2,toks:=T }) hh (by show X.A.units+5<P6;lia) sp hkl (λz h=>by obtain⟨j,_,rfl⟩:=c.src z h;rfl) λN h4 o C ep pm so k1 k2 hD=>?_;have I3:Inv X S σ g {B with heap:=N,toks:=o }:=I2.kept (t':=o) k1
   have D:∀z∈C,∃j,j<pts.length/\z=(pts.getD j (0,0),E j):=λz h=>by
    obtain⟨y,hy,rfl⟩:=Ln.mp (pm.mem_iff.mp h);obtain⟨j,k,rfl⟩:=c.src y hy;exact⟨j,k,rfl⟩
   have d:C.map (·.1)=ST.srt pts:=by
    refine ST.asc_one so (ST.srt_asc pts) λz=>?_;rw[ST.srt_mem];constructor
    .intro h;obtain⟨y,hy,rfl⟩:=Ln.mp h;obtain⟨j,k,rfl⟩:=D y hy;simp[k]
    .intro h;obtain⟨j,k⟩:=Mn.mp h;have Z:=aL k;have hk:=c.all j Z;obtain⟨y,hy,ey⟩:=Ln.mp hk;have Zl:((y.1.getD 0 0,y.1.getD 1 0),y.2)∈ST.ptsOf kb:=Ln.mpr ⟨y,hy,rfl⟩;have J:=pm.mem_iff.mpr Zl;refine Ln.mpr ⟨_,J,?_⟩;rw[ey];have:pts.getD j (0,0)=z:=by rw[LP,k];rfl
     show ((pts.getD j (0,0)).1,(pts.getD j (0,0)).2)=z;rw[this]
   have M:g N.objs.size=none:=I3.hok.fresh (Lk _);refine⟨.ref N.objs.size,upd g N.objs.size (.lst (C.map λz=>V.ref z.2)),?_,rfl,?_⟩
   .refine I3.laid (t':=o) k2 (Lk _) ⟨?_,(ST.refs C),ep,?_,hD⟩
    .rw[Lg,<-Lg (f:=(·.1)),d,Oq];have:=ST.srt_len pts;lia
    .have all:∀l:ST.PB,aW (l.map λz=>V.ref z.2) (ST.refs l):=λl=>by
      induction l with
      |nil=>exact .nil
      |cons z r ih=>exact .cons rfl ih
     exact all C
   .refine q _ _ _ (sm.trans (bj M _)) (sm.free M) aK ⟨?_,λi z x m L=>?_⟩
    .rw[Lg,<-d,Lg,Lg]
    .rw[<-d,L4,Lq]at L;rw[Lq]at m;cases hpi:C[i]? with
     |none=>rw[hpi]at m;cases m
     |some y=>
      rw[hpi]at m L;cases m;cases L;obtain⟨j,k,rfl⟩:=D y (LW hpi);exact (t j k).2.1.same (bH (bj M _) M)
theorem Dt(h:n<64):n<1000:=Lp h (by decide)
end
end L2
namespace L2
open PySem PySem.Spec PySem.W PyProof.Rows
variable {es:List Expr}{XZ:List (Str×U)}{Zp:List (Str×U)}
section
variable {X:Cx}{H0:Hp}{O0:List LX}{E:XK}{ps:PSt}{D:PD}{e:Expr}{XY p X7:Pos}{u:U}{us:List U}{x m nm:Str}{w:Bool}{C C' a d f:LX}{i k:Nat}{fd:Of}{pn:List Str}{CX:CXT}{X5:LX→List (Str×U)→List U→Out→Prop}{nx:PSt→Prop}{ex:PSt→LX→Prop}{rest:List Od}
theorem EY(J:ps[i]?=some (some (.dsk w C a d XZ)))(F:cj X.prog X.w X.K X.mg X.base CX k f fd pn (spD X.K false C X5))(D:cq k X.A)(z:Gl X nm)(I:X.mg nm=some (.ref f))(L:Nx X.K (.ref f)=true)(c:cm X.K fd pn [])(U:di CX X E0)(m:EvA X H0 O0 ps (e::es) us)(h:X5 d XZ us (.val u))
  (hN:autoParam (X.N[i]?=some x) zM) (hv:autoParam (Vis X.env.scope x) vN) (hd:autoParam ((x==("__debug__":Str))=false) zR) (YB:autoParam ((x==("__classdict__":Str))=false) zR)
  (YC:autoParam ((nm==("__debug__":Str))=false) zR) (he:autoParam (Lr (.Name x px::e::es) X.env=(false,N4 (.Name x px) X.env)::Lr (e::es) X.env) zM) (Yq:autoParam ((NT XY (Lr (e::es) X.env)).any (·.1)=false) zM):
  Ev X H0 O0 ps (.Call (.Name nm p) (.Name x px::e::es) [] XY) u:=
 PE.mono (jV F D z I L c .nil U (ci (eE hN hv hd YB) m he) YC he Yq) λY H Q G=>by
  obtain⟨O,R,q⟩:=G;obtain⟨v,o,B,S,rfl,P,W,M,l,T⟩:=R.at_ i _ J;refine⟨_,o,O,R,λg E s r=>?_⟩
  have sub:∀b∈d::O,b∈O:=λb c=>by
   rcases Ll.mp c with y |y
   .subst y;exact P
   .exact y
  show spD X.K false C X5 (V.ref a::(g++[])) E Q E0;rw[Ny];exact⟨a,B,d,S,XZ,g,us,O,.val u,rfl,s _ _ M,s _ _ l,(R.go s).dom,nofun,(T.same (aP s)).same (a9 sub),r.same (a9 sub),h,λv j t n=>q v j (s.trans t) (n.same (a9 λb c=>Li _ c))⟩
end
abbrev OkD(P:LJ)(w:Mp)(b:OG){K:Le}{e:Str->Option Lw}{x:Str}{st:Od}{c:List Str}(D:Dfn K e x st c)(n:Nat)(f:List U->Out->Prop):Prop:=cj P w K e b (CXF P w) n D.a D.d c (spU K f)
structure Z0 where
 cdv:Lw
 A:ML
 outer:List Env
 s:LB
 H:Hp
 E:XK
 O:List LX
section
variable {X:Cx}{H0:Hp}{O0:List LX}{ps:PSt}{e:Expr}{XY p:Pos}{u x y:U}{xs us:List U}{n m i:Nat}{st:Od}{pn N:List Str}{X5:List U→Out→Prop}{sd:LX→List (Str×U)→List U→Out→Prop}{nm q:Str}{P:LJ}{w:Mp}{K:Le}{mg:Str→Option Lw}{base:OG}{C a d:LX}{b:Bool}
theorem aR{D:Dfn X.K X.mg nm st pn}(F:cj X.prog X.w X.K X.mg X.base (CXF X.prog X.w) n D.a D.d pn (spU X.K X5))(g:cq m X.A)(f:EvA X H0 O0 ps (e::es) us)(h:X5 us (.val u))(i:autoParam (n<=m) zR)(c:autoParam (Gl X nm) zM)
  (YC:autoParam ((nm==("__debug__":Str))=false) zR) (he:autoParam (Lr (e::es) X.env=(false,N4 e X.env)::Lr es X.env) zM) (Yq:autoParam ((NT XY (Lr es X.env)).any (·.1)=false) zM):
  Ev X H0 O0 ps (.Call (.Name nm p) (e::es) [] XY) u:=v_ (F.mono i) g c D.m D.F.kp D.b fq f h YC he Yq
theorem df{D:Dfn X.K X.mg nm st pn}(F:cj X.prog X.w X.K X.mg X.base (CXF X.prog X.w) n D.a D.d pn (spU X.K X5))(g:cq m X.A)(f:EvA X H0 O0 ps (e::es) us)(h:X5 us (.new xs))(i:autoParam (n<=m) zR)(c:autoParam (Gl X nm) zM)
  (YC:autoParam ((nm==("__debug__":Str))=false) zR) (he:autoParam (Lr (e::es) X.env=(false,N4 e X.env)::Lr es X.env) zM) (Yq:autoParam ((NT XY (Lr es X.env)).any (·.1)=false) zM):
  EvN X H0 O0 ps (.Call (.Name nm p) (e::es) [] XY) xs:=Ix (F.mono i) g c D.m D.F.kp D.b fq f h YC he Yq
theorem aT(c:cq n X.A)(b:okU 9 x=true:=by walk_at"ok")(a:okU 9 y=true:=by walk_at"ok"):OpS X (MC .Eq) x y (.bl (eqW x y)):=K2 (jP c) b a
theorem f_(c:cq n X.A)(b:okU 9 x=true:=by walk_at"ok")(a:okU 9 y=true:=by walk_at"ok"):OpS X (MC .NotEq) x y (.bl (!eqW x y)):=La (jP c) b a
theorem ax(i)(a:X.N.Nodup)(d:Ev X H0 O0 ps e u)(h:D.nx (ps.set i (some (.val u))))(c:autoParam (X.N[i]?=some z) zM)(f:Loc X.env.scope z:=by exact Or.inl rfl)(hs:autoParam (OK e (some (.Name z Yd)) XY.line X.env=pure false) zM)(b:autoParam (X.fn z=true\/X.env.scope.names.lookup z=some .local) z0):
  W1 X H0 O0 E (.Assign [.Name z Yd] e XY) D ps:=uT a c f d h hs b
theorem mr{D:MDf X.K C nm q st pn}(F:cj X.prog X.w X.K X.mg X.base (CXF X.prog X.w) n D.a D.d pn (spD X.K false C sd))(i:Nat)(c:Cls X.K C)(k:cq m X.A)(g:ps[i]?=some (some (.dsk b C a d XZ)))(j:EvA X H0 O0 ps (e::es) us)(h:sd d XZ us (.val u))(l:autoParam (n<=m) zR)
  (Zv:autoParam ((nm==("lands":Str))=false) zR) (hN:autoParam (X.N[i]?=some z) zM) (hv:autoParam (Vis X.env.scope z) vN) (hd:autoParam ((z==("__debug__":Str))=false) zR) (YB:autoParam ((z==("__classdict__":Str))=false) zR)
  (YH:autoParam (Lr (e::es) X.env=(false,N4 e X.env)::Lr es X.env) zM) (Yq:autoParam ((NT XY (Lr es X.env)).any (·.1)=false) zM)
  (ht:autoParam (N4 (.Call (.Attribute (.Name z p) nm X7) (e::es) [] XY) X.env=(do
   let ov <-N4 (.Name z p) X.env
   V_ X7.atName
   let (f,first) <-UQ [ov] (T7 ov nm pl)
   W5 XY f first (NT XY (Lr (e::es) X.env)) (Ri XY (Pm [] X.env)))) zM):
  Ev X H0 O0 ps (.Call (.Attribute (.Name z p) nm X7) (e::es) [] XY) u:=HR g c D.m (F.mono l) k D.b fq j h Zv hN hv hd YB YH Yq ht
theorem okD{D:Dfn K mg nm st pn}(S:av N pn (ai st))(c:∀us o,X5 us o->us.length=pn.length)
  (hb:∀(Z:Z0) us o,cq m (Z.A.deeper (SH nm (ai st) Z.s.heap.objs.size D.a Z.cdv))->X5 us o->
   Ws (nO (CXF P w) P w K mg base N nm (ai st) D.a Z.cdv Z.A Z.outer Z.s Z.H Z.E).nox Z.H Z.O Z.E (bm st) ⟨λ_=>o=.val .non,λf=>f=o,λ_=>False,λ_=>False⟩ (gG N us)):OkD P w base D (m+1) X5:=
 Jn D.F S c λd A b s H E O us o e h=>Ws.nox (hb ⟨d,A,b,s,H,E,O⟩ us o e h)
end
end L2
namespace L2
open PySem PySem.Spec PyProof.Rows
section
variable {X:Cx}{H0:Hp}{O0:List LX}{E:XK}{ps:PSt}{D:PD}{a b tg iter:Expr}{Ym:List Od}{XY:Pos}{C:LX}{bs:List Bool}
def isT:Lw->Bool
 | .bool b=>b
 |_=>false
end
end L2
local macro_rules | `(tactic|walk_at"sz")=>`(tactic|first |with_reducible assumption | ((with_reducible apply L2.Sz.sub') <;>walk_at"sz") | ((with_reducible apply L2.Sz.add') <;>walk_at"sz") | ((with_reducible apply L2.Sz.mul) <;>walk_at"sz") | ((with_reducible apply L2.Sz.neg) <;>walk_at"sz") | ((with_reducible apply L2.Sz.ediv) <;>walk_at"sz") | ((with_reducible apply L2.Sz.abs) <;>walk_at"sz") |exact L2.Sz.lit (m:=8) (by decide) |exact L2.Sz.emod (m:=250) (by decide) (by decide) |exact L2.Sz.lit (m:=250) (by decide))
local macro_rules | `(tactic|walk_at"mul")=>`(tactic|exact L2.Sz.ok (by walk_at"sz") (by walk_at"sz") (by decide))
local macro_rules | `(tactic|walk_at"div")=>`(tactic|first |exact⟨by decide,L2.Sz.mono (m:=250) (by decide) (by decide)⟩ |exact⟨by lia,L2.Sz.mono (by walk_at"sz") (by decide)⟩)
local macro_rules | `(tactic|walk_at"mod")=>`(tactic|first |decide |lia)
local macro_rules | `(tactic|walk_at"szb")=>`(tactic|exact L2.Sz.mono (by walk_at"sz") (by decide))
local macro_rules | `(tactic|walk_at"kit")=>`(tactic|first |exact L2.kit_int_int _ |exact L2.kit_int_bool _ |exact L2.kit_tuple_tuple _ |exact L2.kit_list_list _ |exact L2.kit_bool_int _ |exact L2.kit_list_tuple _ |rfl)
local macro_rules | `(tactic|walk_at"ok")=>`(tactic|first |rfl |decide)
local macro_rules | `(tactic|walk_at"sub")=>`(tactic|first |exact trivial | (refine⟨rfl,?_⟩;walk_at"sub") | (with_reducible apply L2.SubP.skip;walk_at"sub"))
local macro_rules | `(tactic|walk_at"len")=>`(tactic|first |decide | (simp only[List.length_append,List.length_cons,List.length_nil,List.length_map];decide))
local macro_rules | `(tactic|walk_at"ln")=>`(tactic| (intro us o h;(repeat (obtain⟨_,h⟩:=h));subst_vars;rfl))
namespace My
open PySem PySem.Spec PyProof.Rows L2
def top(i:Nat):Od:=PySem.Challenge.pw_stakefield_k83_whole_counts_by_text.main.body.getD i (.Pass ⟨0,0,0,0⟩)
def FJ:Od->List Od
 | .ClassDef _ _ _ b _ _ _ _ _ _ _=>b
 |_=>[]
abbrev n8:Od:=top 14
abbrev By:Od:=top 15
abbrev sX:Od:=top 16
abbrev qC:Od:=top 17
abbrev Cn:Od:=top 19
abbrev lC:Od:=top 20
abbrev mf:Od:=top 21
abbrev uY:Od:=top 22
abbrev yG:Od:=top 23
abbrev yS:Od:=top 26
abbrev Bs:Od:=top 29
abbrev jT:Od:=top 30
abbrev yN:Od:=top 31
abbrev yd:Od:=top 32
abbrev fF:Od:=top 35
abbrev DC:Od:=top 36
abbrev fK:Od:=top 37
abbrev vH:Od:=top 39
abbrev B1:Od:=top 40
abbrev wf:Od:=top 41
abbrev nE:Od:=top 42
abbrev qh:Od:=top 43
abbrev oP:Od:=top 44
abbrev xI:Od:=top 45
abbrev m8:Od:=top 47
abbrev lW:Od:=top 48
abbrev bQ:Od:=top 49
abbrev fB:Od:=top 50
abbrev l4:Od:=top 52
abbrev fO:Od:=top 53
abbrev k9:Od:=top 54
abbrev yT:Od:=top 55
abbrev l7:Od:=top 81
abbrev cV:Od:=top 82
abbrev jx:Od:=top 83
abbrev ki:Od:=top 84
abbrev jo:Od:=top 85
abbrev kq:Od:=top 86
abbrev fE:Od:=top 87
abbrev lI:Od:=top 101
abbrev uv:Od:=top 102
abbrev ig:Od:=top 103
abbrev fj:Od:=top 104
abbrev BT:Od:=top 105
abbrev n5:Od:=top 106
abbrev tX:Od:=top 111
abbrev l8:Od:=top 114
abbrev lJ:Od:=top 115
abbrev mh:Od:=top 116
abbrev io:Od:=top 117
abbrev jA:Od:=top 118
abbrev eS:Od:=top 119
abbrev gj:Od:=top 120
abbrev kN:Od:=top 121
abbrev jy:Od:=top 122
abbrev hG:Od:=top 123
abbrev jm:Od:=top 124
abbrev fm:Od:=top 125
abbrev o7:Od:=top 126
abbrev g_:Od:=top 127
abbrev iL:Od:=top 128
abbrev qx:Od:=top 129
abbrev lN:Od:=(FJ (top 112)).getD 0 (.Pass ⟨0,0,0,0⟩)
abbrev lL:Od:=(FJ (top 112)).getD 1 (.Pass ⟨0,0,0,0⟩)
abbrev l6:Od:=(FJ (top 112)).getD 2 (.Pass ⟨0,0,0,0⟩)
abbrev gN:Od:=(FJ (top 112)).getD 4 (.Pass ⟨0,0,0,0⟩)
def gL:List (Str×Str):=[("field","NEW P"),("move","NEW ONE A B C D E F"),("fold","NEW ONE K"),("sum","NEW ONE OTHER"),("form","NEW ONE"),("facing","NEW ONE"),("drop","ONE"),("names",""),("show","ONE"),("area","ONE"),("rim","ONE"),("count","ONE K"),("inner","ONE K"),("mixed","ONE OTHER"),("share","ONE A B C"),("where","ONE P"),("tell","ONE K P"),("alike","ONE OTHER"),("thin","ONE")]
theorem tE:av ["thing"] ["thing"] (ai n8):=by walk_at"sC"
theorem EV:av ["number"] ["number"] (ai By):=by walk_at"sC"
theorem bS:av ["a","b","high","high_times","low","low_times","fits","rest","rest_times","s"] ["a","b"] (ai sX):=by walk_at"sC"
theorem bW:av ["many","step","start","part","total","top","old_step"] ["many","step","start","part"] (ai qC):=by walk_at"sC"
theorem FU:av ["move"] ["move"] (ai Cn):=by walk_at"sC"
theorem oG:av ["thing","number"] ["thing"] (ai lC):=by walk_at"sC"
theorem rf:av ["thing"] ["thing"] (ai mf):=by walk_at"sC"
theorem zo:av ["P","move"] ["P","move"] (ai uY):=by walk_at"sC"
theorem uo:av ["P","move","place"] ["P","move"] (ai yG):=by walk_at"sC"
theorem Db:av ["P","Q"] ["P","Q"] (ai yS):=by walk_at"sC"
theorem Ft:av ["P","Q","R"] ["P","Q","R"] (ai Bs):=by walk_at"sC"
theorem fG:av ["row","kept","P"] ["row"] (ai jT):=by walk_at"sC"
theorem ir:av ["points","row","there","back"] ["points"] (ai yN):=by walk_at"sC"
theorem Bu:av ["land"] ["land"] (ai yd):=by walk_at"sC"
theorem eY:av ["land","A","B"] ["land"] (ai fF):=by walk_at"sC"
theorem w8:av ["land","A","B"] ["land"] (ai DC):=by walk_at"sC"
theorem iH:av ["land","move","P"] ["land","move"] (ai fK):=by walk_at"sC"
theorem yr:av ["land","k","P"] ["land","k"] (ai vH):=by walk_at"sC"
theorem Ff:av ["P","Q"] ["P","Q"] (ai B1):=by walk_at"sC"
theorem qZ:av ["land","A","B"] ["land"] (ai wf):=by walk_at"sC"
theorem uR:av ["way","other_way"] ["way","other_way"] (ai nE):=by walk_at"sC"
theorem eT:av ["some","others","row","done","way"] ["some","others"] (ai qh):=by walk_at"sC"
theorem dP:av ["one","other","place","points","way"] ["one","other"] (ai oP):=by walk_at"sC"
theorem CL:av ["one","other"] ["one","other"] (ai xI):=by walk_at"sC"
theorem uZ:av ["land","k"] ["land","k"] (ai m8):=by walk_at"sC"
theorem qO:av ["land"] ["land"] (ai lW):=by walk_at"sC"
theorem oM:av ["land","k"] ["land","k"] (ai bQ):=by walk_at"sC"
theorem tf:av ["land","k","many"] ["land","k"] (ai fB):=by walk_at"sC"
theorem cN:av ["A","B","left","right","run","rise","first","many","rounded"] ["A","B","left","right"] (ai l4):=by walk_at"sC"
theorem dw:av ["land","left","right","x","heights","P"] ["land","left","right"] (ai fO):=by walk_at"sC"
theorem gA:av ["land","left","right","parts","A","B"] ["land","left","right"] (ai k9):=by walk_at"sC"
theorem j6:av ["land","a","b","c","parts","g","upright"] ["land","a","b","c"] (ai yT):=by walk_at"sC"
theorem qU:av ["thing"] ["thing"] (ai l7):=by walk_at"sC"
theorem cC:av ["text","figures","sign"] ["text"] (ai cV):=by walk_at"sC"
theorem nY:av ["text"] ["text"] (ai jx):=by walk_at"sC"
theorem jw:av ["text","parts"] ["text"] (ai ki):=by walk_at"sC"
theorem ox:av ["number"] ["number"] (ai jo):=by walk_at"sC"
theorem pj:av ["P"] ["P"] (ai kq):=by walk_at"sC"
theorem iz:av ["points","P"] ["points"] (ai fE):=by walk_at"sC"
theorem ky:av ["row","words"] ["row"] (ai lI):=by walk_at"sC"
theorem dC:av ["words","kinds","many","more"] ["words"] (ai uv):=by walk_at"sC"
theorem gu:av ["word","letters","sign"] ["word"] (ai ig):=by walk_at"sC"
theorem dX:av ["land","numbers","P","number"] ["land"] (ai fj):=by walk_at"sC"
theorem DY:av ["deed","given"] ["deed","given"] (ai BT):=by walk_at"sC"
theorem tS:av ["deed","given"] ["deed","given"] (ai n5):=by walk_at"sC"
theorem Ay:av ["deed","given"] ["deed","given"] (ai tX):=by walk_at"sC"
theorem rX:av ["script","k"] ["script","k"] (ai l8):=by walk_at"sC"
theorem rH:av ["a","b","p"] ["a","b","p"] (ai lJ):=by walk_at"sC"
theorem gR:av ["points","way","p"] ["points"] (ai mh):=by walk_at"sC"
theorem d9:av ["points","some"] ["points"] (ai io):=by walk_at"sC"
theorem eP:av ["word","figures","sign_v"] ["word"] (ai jA):=by walk_at"sC"
theorem gY:av ["answer_v","word"] ["answer_v"] (ai eS):=by walk_at"sC"
theorem fI:av ["points","x","y"] ["points"] (ai gj):=by walk_at"sC"
theorem ph:av ["cell"] ["cell"] (ai kN):=by walk_at"sC"
theorem bM:av ["script","lean","points","k","x","y"] ["script"] (ai jy):=by walk_at"sC"
theorem c6:av ["one","other"] ["one","other"] (ai hG):=by walk_at"sC"
theorem ck:av ["land","twice","k","a","b"] ["land"] (ai jm):=by walk_at"sC"
theorem bA:av ["land","total","k","a","b"] ["land"] (ai fm):=by walk_at"sC"
theorem dU:av ["land","many","twice","edge","within"] ["land","many"] (ai o7):=by walk_at"sC"
theorem dk:av ["land","other","found","q","p"] ["land","other"] (ai g_):=by walk_at"sC"
theorem gF:av ["desk","many","rows","row"] ["desk","many"] (ai iL):=by walk_at"sC"
theorem ca:av ["script","points","land","many","desk","due","number","a","b","c","k","under","above","cell","some","other","both","mixed_due"] ["script"] (ai qx):=by walk_at"sC"
theorem rY:av ["self"] ["self"] (ai lN):=by walk_at"sC"
theorem qN:av ["self","kind","word"] ["self","kind","word"] (ai lL):=by walk_at"sC"
theorem rc:av ["self","name","land"] ["self","name","land"] (ai l6):=by walk_at"sC"
theorem bB:av ["self","row","words","kinds","given","kind","word"] ["self","row"] (ai gN):=by walk_at"sC"
set_option genSizeOf false in
set_option genSizeOfSpec false in
structure Txt(w:Mp)(K:Le)(mg:Str->Option Lw) where
 aad:LX
 abx:mg "Desk"=some (.ref aad)
 aac:Cls K aad
 aax:gh K aad "lands"
 abn:∃a,mg "ROWS"=some (.ref a)∧zG w K a gL
 aa1:Dfn K mg "is_whole" n8 ["thing"]
 aby:Dfn K mg "sign" By ["number"]
 abh:Dfn K mg "shares" sX ["a","b"]
 aa_:Dfn K mg "row_sum" qC ["many","step","start","part"]
 abz:Dfn K mg "hand" Cn ["move"]
 aba:Dfn K mg "is_move" lC ["thing"]
 aaO:Dfn K mg "need_move" mf ["thing"]
 abi:Dfn K mg "turned" uY ["P","move"]
 abp:Dfn K mg "moved" yG ["P","move"]
 abq:Dfn K mg "steps" yS ["P","Q"]
 abA:Dfn K mg "turn" Bs ["P","Q","R"]
 aaJ:Dfn K mg "left_bends" jT ["row"]
 aaq:Dfn K mg "field" yN ["points"]
 abr:Dfn K mg "sides" yd ["land"]
 aay:Dfn K mg "double_area" fF ["land"]
 abt:Dfn K mg "rim" DC ["land"]
 aaz:Dfn K mg "field_moved" fK ["land","move"]
 abb:Dfn K mg "fold" vH ["land","k"]
 abB:Dfn K mg "plus" B1 ["P","Q"]
 abC:Dfn K mg "ways" wf ["land"]
 aa2:Dfn K mg "no_later" nE ["way","other_way"]
 abc:Dfn K mg "in_turn" qh ["some","others"]
 aa3:Dfn K mg "together" oP ["one","other"]
 aaP:Dfn K mg "mixed" xI ["one","other"]
 aa4:Dfn K mg "multiple" m8 ["land","k"]
 aaQ:Dfn K mg "points_in" lW ["land"]
 aae:DfD K mg "inner_count" bQ ["land","k"] 1
 aah:DfD K mg "count" fB ["land","k"] 1
 aaR:Dfn K mg "side_part" l4 ["A","B","left","right"]
 aaA:Dfn K mg "last_column" fO ["land","left","right"]
 abd:Dfn K mg "columns" k9 ["land","left","right"]
 aaS:Dfn K mg "share" yT ["land","a","b","c"]
 aaT:Dfn K mg "need_text" l7 ["thing"]
 aan:Dfn K mg "is_written_number" cV ["text"]
 aaB:Dfn K mg "read_number" jx ["text"]
 aaK:Dfn K mg "read_point" ki ["text"]
 aaC:Dfn K mg "show_number" jo ["number"]
 aaL:Dfn K mg "show_point" kq ["P"]
 aaD:Dfn K mg "show_points" fE ["points"]
 aaU:Dfn K mg "row_words" lI ["row"]
 abj:Dfn K mg "wanted" uv ["words"]
 aaV:Dfn K mg "need_name" ig ["word"]
 aa5:Dfn K mg "need_fit" fj ["land"]
 abD:Dfn K mg "made" BT ["deed","given"]
 aa6:Dfn K mg "reckoned" n5 ["deed","given"]
 abk:Dfn K mg "answer" tX ["deed","given"]
 aaW:Dfn K mg "_law_cell" l8 ["script","k"]
 aaX:Dfn K mg "_law_side" lJ ["a","b","p"]
 aaY:Dfn K mg "_law_half" mh ["points"]
 aas:Dfn K mg "_law_corners" io ["points"]
 aaE:Dfn K mg "_law_number" jA ["word"]
 aat:Dfn K mg "_law_numbers" eS ["answer_v"]
 aaM:Dfn K mg "_law_shown" gj ["points"]
 aaN:Dfn K mg "_law_great" kN ["cell"]
 aaF:Dfn K mg "_law_points" jy ["script"]
 aau:Dfn K mg "_law_divisor" hG ["one","other"]
 aaG:Dfn K mg "_law_double" jm ["land"]
 aap:Dfn K mg "_law_steps_round" fm ["land"]
 aa7:Dfn K mg "_law_due" o7 ["land","many"]
 aaZ:Dfn K mg "_law_sums" g_ ["land","other"]
 aag:Dfn K mg "_law_told" iL ["desk","many"]
 abl:Dfn K mg "law" qx ["script"]
 aai:IDf K aad "__init__" "Desk.__init__" lN ["self"]
 aao:MDf K aad "read" "Desk.read" lL ["self","kind","word"]
 aaj:MDf K aad "keep" "Desk.keep" l6 ["self","name","land"]
 aaa:MDf K aad "say" "Desk.say" gN ["self","row"]
 aa0:mg "abs"=none
 abE:mg "all"=none
 abF:mg "bool"=none
 abe:mg "int"=none
 aaf:mg "isinstance"=none
 aab:mg "len"=none
 abo:mg "list"=none
 aa8:mg "max"=none
 abf:mg "min"=none
 aaH:mg "range"=none
 aa9:mg "reversed"=none
 abm:mg "set"=none
 aar:mg "sorted"=none
 aal:mg "str"=none
 abu:mg "sum"=none
 abv:mg "tuple"=none
 abw:mg "zip"=none
 abg:∃t,mg "FIGURES"=some (.str "0123456789" t)
 aav:∃t,mg "MOST_CORNERS"=some (.int 60 t)
 aam:∃t,mg "MOST_FIGURES"=some (.int 60 t)
 aaw:∃t,mg "MOST_LETTERS"=some (.int 8 t)
 aaI:∃t,mg "MOST_POINTS"=some (.int 60 t)
section
variable {P:LJ}{w:Mp}{K:Le}{mg:Str→Option Lw}{base:OG} (T:Txt w K mg)
def sgn(n:Int):Int:=if 0<n then 1 else if n<0 then -1 else 0
def cA(b:Int):Int:=if b<0 then -b else b
theorem d7(b):cA b=(b.natAbs:Int):=by unfold cA;split <;>lia
theorem j5(h:b≠0):0<cA b:=by unfold cA;split <;>lia
theorem d6(d b):d ∣ cA b↔d ∣ b:=by
 unfold cA;split
 .exact UX
 .exact Iff.rfl
theorem Cp(d b):cA b ∣ d↔b ∣ d:=by
 unfold cA;split
 .exact Int.neg_dvd
 .exact Iff.rfl
structure l5(a b high ht low lt:Int):Prop where
 hp:0<high
 lo0:0<=low
 lolt:low<high
 dv:∀d,(d ∣ high/\d ∣ low)↔(d ∣ a/\d ∣ b)
 ch:b ∣ ht*a-high
 cl:b ∣ lt*a-low
 bd:ht.natAbs*low.natAbs+lt.natAbs*high.natAbs<=b.natAbs
 hi:high.natAbs<=b.natAbs
theorem tJ(h:b≠0):l5 a b (cA b) 0 (a%cA b) 1:=by
 have g:=j5 h;refine⟨g,Nz _ (by lia),M9 _ g,λd=>?_,?_,?_,?_,by rw[d7];simp⟩
 .rw[d6];constructor
  .rintro ⟨f,c⟩;refine⟨?_,f⟩;have e:=MX a (cA b);rw[<-e];exact Ql c (Mq ((d6 d b).mpr f) (Nr _ _))
  .rintro ⟨f,c⟩;refine⟨c,?_⟩;have e:a%cA b=a-cA b*(a/cA b):=by have:=MX a (cA b);lia
   rw[e];exact Sa f (Mq ((d6 d b).mpr c) (Nr _ _))
 .rw[Rw,Int.zero_sub,UX];exact (d6 b b).mpr (QQ b)
 .have e:1*a-a%cA b=cA b*(a/cA b):=by have:=MX a (cA b);lia
  rw[e];exact Mq ((d6 b b).mpr (QQ b)) (Nr _ _)
 .rw[d7];simp
theorem xx(I:l5 a b high ht low lt)(h:low≠0):l5 a b low lt (high-high/low*low) (ht-high/low*lt)/\high-high/low*low<low:=by
 obtain⟨x,g,m,o,q,k,n,w⟩:=I;have l:0<low:=by lia
 have e:=MX high low;have j:=Nz high h;have i:=M9 high l;have u:0<=high/low:=QT (by lia) (by lia);have r:high-high/low*low=high%low:=by rw[Pi];lia
 rw[r];refine⟨⟨l,j,i,λd=>?_,k,?_,?_,by lia⟩,i⟩
 .rw[<-o d];constructor
  .rintro ⟨f,c⟩;refine⟨?_,f⟩;rw[<-e];exact Ql c (Mq f (Nr _ _))
  .rintro ⟨f,c⟩;refine⟨c,?_⟩;rw[show high%low=high-low*(high/low) by lia];exact Sa f (Mq c (Nr _ _))
 .have s:(ht-high/low*lt) *a-high%low=(ht*a-high)-(high/low) *(lt*a-low):=by grind
  rw[s];exact Sa q (Mq k (MJ _ _))
 .have p:(ht-high/low*lt).natAbs<=ht.natAbs+(high/low).natAbs*lt.natAbs:=by
   have:=Int.natAbs_sub_le ht (high/low*lt);rw[Rk]at this;exact this
  have t:high.natAbs=(high%low).natAbs+low.natAbs*(high/low).natAbs:=by
   have:(high.natAbs:Int)=((high%low).natAbs+low.natAbs*(high/low).natAbs):=by
    push_cast
    rw[Pr j,Pr u,Pr (by lia:0<=high),Pr g];lia
   lia
  have v:(ht-high/low*lt).natAbs*low.natAbs<=(ht.natAbs+(high/low).natAbs*lt.natAbs) *low.natAbs:=RQ _ p;rw[t]at n;refine LN ?_ n;generalize (ht-high/low*lt).natAbs=A at *;generalize ht.natAbs=B at *;generalize lt.natAbs=C at *;generalize low.natAbs=D at *;generalize (high/low).natAbs=E at *;generalize (high%low).natAbs=F at *;grind
structure kW(a b g s t:Int):Prop where
 g0:0<=g
 eq:s*a+t*b=g
 da:g ∣ a
 db:g ∣ b
 z:b=0->t=0/\s=sgn a/\g=cA a
 nz:b≠0->0<g/\0<=s/\s<cA b/g
theorem qi(a):kW a 0 (cA a) (sgn a) 0:=by
 refine⟨by unfold cA;split <;>lia,?_,(Cp a a).mpr (QQ a),Xm _,λ_=>⟨rfl,rfl,rfl⟩,λh=>absurd rfl h⟩;unfold sgn cA;split
 .split <;>lia
 .split
  .lia
  .lia
theorem A3(g:b≠0)(I:l5 a b high ht 0 lt):kW a b high (ht%(cA b/high)) ((high-ht%(cA b/high) *a).fdiv b):=by
 obtain⟨u,t,m,q,s,w,z,y⟩:=I;obtain⟨r,l⟩:=(q high).mp ⟨QQ _,Xm _⟩;obtain⟨f,rfl⟩:=r;have k:=(d6 _ _).mpr l;obtain⟨d,o⟩:=k;have p:=j5 g;have n:cA b/high=d:=by rw[o,NO _ (by lia)]
 have i:0<d:=by
  have:0<high*d:=by lia
  exact NP this (by lia)
 rw[n];have x:=MX ht d
 have j:b ∣ high-ht%d*(high*f):=by
  have e:high-ht%d*(high*f)=-(ht*(high*f)-high)+cA b*(f*(ht/d)):=by
   rw[o,show ht%d=ht-d*(ht/d) by lia];grind
  rw[e];refine Ql (UX.mpr s) (Mq ((d6 b b).mpr (QQ b)) (Nr _ _))
 refine⟨by lia,?_,Nr _ _,l,λh=>absurd h g,λ_=>⟨u,Nz _ (by lia),?_⟩⟩
 .obtain⟨c,v⟩:=j;rw[v,Int.mul_fdiv_cancel_left _ g,Pi c b];lia
 .rw[n];exact M9 _ i
theorem JW(I:l5 a b high ht low lt):lt.natAbs<=b.natAbs:=by
 have c:1<=high.natAbs:=by have:=I.hp;lia
 have d:lt.natAbs*1<=lt.natAbs*high.natAbs:=Nat.mul_le_mul_left _ c;have:=I.bd;lia
theorem Dk(h:kW a b g s t)(h':kW a b g' s' t'):g=g'/\s=s'/\t=t':=by
 have l:g ∣ g':=by rw[<-h'.eq];exact Ql (Mq h.da (MJ _ _)) (Mq h.db (MJ _ _))
 have r:g' ∣ g:=by rw[<-h.eq];exact Ql (Mq h'.da (MJ _ _)) (Mq h'.db (MJ _ _))
 have n:=Ts h.g0 h'.g0 l r;subst n;by_cases hb:b=0
 .obtain⟨C,B,_⟩:=h.z hb;obtain⟨k,y,_⟩:=h'.z hb;exact⟨rfl,by lia,by lia⟩
 .obtain⟨p,A,D⟩:=h.nz hb;obtain⟨_,o,v⟩:=h'.nz hb;obtain⟨e,ha⟩:=h.da;obtain⟨f,j⟩:=(d6 g b).mpr h.db;obtain⟨c,d⟩:=h.db;have E:cA b/g=f:=by rw[j,NO _ (by lia)]
  have u:=h.eq;have q:=h'.eq
  have k:s*e+t*c=1:=by
   have:g*(s*e+t*c)=g*1:=by rw[ha,d]at u;grind
   exact MB (by lia) this
  have y:s'*e+t'*c=1:=by
   have:g*(s'*e+t'*c)=g*1:=by rw[ha,d]at q;grind
   exact MB (by lia) this
  have w:c ∣ s-s':=by
   refine⟨s*(t'-t)+t*(s-s'),?_⟩;grind
  have x:f ∣ s-s':=by
   have:f.natAbs=c.natAbs:=by
    have i:(cA b).natAbs=b.natAbs:=by rw[d7];simp
    rw[j,d]at i;rw[Rk,Rk]at i;exact Nat.eq_of_mul_eq_mul_left (by lia) i
   exact Rx.mp (by rw[this];exact Rx.mpr w)
  have m:s=s':=by
   have:s-s'=0:=Int.eq_zero_of_dvd_of_natAbs_lt_natAbs x (by lia);lia
  subst m;refine⟨rfl,rfl,?_⟩;have:b*t=b*t':=by grind
  exact MB hb this
theorem Gg(i:b≠0):∀n high f low lt,low.toNat<=n->l5 a b high f low lt->∃c e d,l5 a b c e 0 d
 |0,high,f,low,lt,k,I=>by
  have:low=0:=by have:=I.lo0;lia
  subst this;exact⟨_,_,_,I⟩
 |n+1,high,f,low,lt,k,I=>by
  by_cases h:low=0
  .subst h;exact⟨_,_,_,I⟩
  .obtain⟨j,g⟩:=xx I h;exact Gg i n _ _ _ _ (by have:=I.lo0;lia) j
theorem xQ(a b):∃g s t,kW a b g s t:=by
 by_cases hb:b=0
 .subst hb;exact⟨_,_,_,qi a⟩
 .obtain⟨h,c,lt,I⟩:=Gg hb _ _ _ _ _ (Lk _) (tJ hb);exact⟨_,_,_,A3 hb I⟩
theorem Fl(G:kW a b g s t)(h:Sz m a)(i:Sz m b):Sz (m+8) g/\Sz (m+8) s/\Sz (2*m+8) t:=by
 by_cases hb:b=0
 .subst hb;obtain⟨k,j,c⟩:=G.z rfl;rw[k,j,c];have f:Sz 8 (sgn a):=by unfold Sz sgn;split;decide;split <;>decide
  exact⟨(Sz.abs h).mono (by lia),f.mono (by lia),Sz.mono (m:=8) (by decide) (by lia)⟩
 .obtain⟨l,n,f⟩:=G.nz hb;have k:cA b/g<=cA b:=Tj _ (by have:=j5 hb;lia);have j:=d7 b
  have sg:Sz m g:=by
   refine i.natle ?_;exact Xc (by lia) (Rx.mpr G.db)
  have d:Sz m s:=i.natle (by lia);refine⟨sg.mono (by lia),d.mono (by lia),?_⟩;have e:t*b=g-s*a:=by have:=G.eq;lia
  have q:Sz (2*m+1) (t*b):=by
   rw[e];have:Sz (m+m) (s*a):=d.mul h;have c:=(sg.mono (show m<=m+m by lia)).sub this;exact c.mono (by lia)
  refine (Sz.mono (m:=2*m+1) ?_ (by lia));unfold Sz at *;rw[Rk]at q;have:1<=b.natAbs:=by lia
  exact ME (Nat.le_mul_of_pos_right _ this) q
def ze:List U->Out->Prop:=λa o=>∃n:Int,a=[.int n]/\o=.val (.int (sgn n))
theorem yF:OkD P w base T.aby 1 (ze):=by
 refine okD EV (by walk_at"ln") ?_;rintro _ _ _ d ⟨n,rfl,rfl⟩;refine ae (lD (au fP (aa 0 rfl) ag) (λc=>?_) (λb=>(ay ?_)))
 .refine ae (aF ag ?_);exact vIO (by unfold sgn;rw[if_pos (dTb c)])
 .refine ae (lD (au dG (aa 0 rfl) ag) (λc=>?_) (λb=>(ay ?_)))
  .refine ae (aF (dl ag) ?_);exact vIO (by unfold sgn;rw[if_neg (dFb b),if_pos (dTb c)])
  .rename_i a
   refine ae (aF ag ?_);exact vIO (by unfold sgn;rw[if_neg (dFb b),if_neg (dFb a)])
def vc:List U->Out->Prop:=λc o=>∃a b g s t:Int,c=[.int a,.int b]/\Sz 4000 a/\Sz 4000 b/\kW a b g s t/\o=.val (.tup [.int g,.int s,.int t])
theorem vx(G:kW a b g s t)(c:kW a b g' s' t'):Out.val (.tup [.int g,.int s,.int t])=Out.val (.tup [.int g',.int s',.int t']):=by
 obtain⟨rfl,rfl,rfl⟩:=Dk G c;rfl
theorem p9:OkD P w base T.abh 2 (vc):=by
 refine okD bS (by walk_at"ln") ?_;rintro _ _ _ v ⟨a,b,g,s,t,rfl,B,d,G,rfl⟩;refine ae (lD (au f6 (aa 1 rfl) ag) (λq=>?_) (λA=>(ay ?_)))
 .have hb:=dTb q;subst hb;refine ae (aF (bU (aA (aw nM rfl T.aa0 PyProof.Rows.boot_abs (af (aa 0 rfl) am ah)) (aA (aR (yF T) v (af (aa 0 rfl) am ah) ⟨_,rfl,rfl⟩) (aA ag bC aJ) be) be)) ?_);exact vx (qi a) G
 .have hb:=dFb A;have e:=j5 hb;refine ae (ax 2 bS.nd (aw nM rfl T.aa0 PyProof.Rows.boot_abs (af (aa 1 rfl) am ah)) ?_);refine ae (ax 3 bS.nd ag ?_);refine ae (ax 4 bS.nd (c0 (aa 0 rfl) (aa 2 rfl) e) ?_);refine ae (ax 5 bS.nd ag ?_);refine ae (fX (λm:Int×Int×Int×Int=>[some (.val (.int a)),some (.val (.int b)),some (.val (.int m.1)),some (.val (.int m.2.1)),some (.val (.int m.2.2.1)),some (.val (.int m.2.2.2)),none,none,none,none]) (λn m=>n=m.2.2.1.toNat/\l5 a b m.1 m.2.1 m.2.2.1 m.2.2.2) PassesOwn.never ?h0 ?hs)
  case h0=>exact⟨_,(_,_,_,_),⟨rfl,tJ hb⟩,rfl,rfl,rfl,rfl,rfl,rfl,trivial⟩
  case hs=>
   rintro m ⟨c,C,low,lt⟩ ⟨rfl,I⟩;dsimp only at I |-;have o:=I.lo0;have E:=I.lolt;have i:=d.natle I.hi;have L:Sz 4000 low:=i.natle (by lia);have u:=d.natle (JW I);refine⟨_,(au nJ (aa 4 rfl) ag),λh=>?_,λh D p=>?_⟩
   .have f:=nTb h;obtain⟨l,k⟩:=xx I f;have x:(c-c/low*low).toNat<low.toNat:=by clear h;lia
    refine ae (ax 6 bS.nd (cU (aa 2 rfl) (aa 4 rfl) (by walk_at"div")) ?_);refine ae (ax 7 bS.nd (bg (aa 2 rfl) (aZ (aa 6 rfl) (aa 4 rfl) (by walk_at"mul"))) ?_);refine ae (ax 8 bS.nd (bg (aa 3 rfl) (aZ (aa 6 rfl) (aa 5 rfl) (by walk_at"mul"))) ?_);refine ae (ax 2 bS.nd (aa 4 rfl) ?_);refine ae (ax 3 bS.nd (aa 5 rfl) ?_);refine ae (ax 4 bS.nd (aa 7 rfl) ?_);refine ae (ax 5 bS.nd (aa 8 rfl) (ay ?_));exact⟨_,(_,_,_,_),x,⟨rfl,l⟩,rfl,rfl,rfl,rfl,rfl,rfl,trivial⟩
   .have f:=nFb h;subst f;refine dY ?_ p;have j:=A3 hb I;obtain⟨M,F,K⟩:=j.nz hb;have z:0<cA b/c:=by lia
    have r:=I.hp
    have y:Sz 4000 (C%(cA b/c)):=by
     refine d.natle ?_;have J:cA b/c<=cA b:=Tj _ (by lia);have H:=d7 b;lia
    refine ae (ax 9 bS.nd (c0 (aa 3 rfl) (cU (aw nM rfl T.aa0 PyProof.Rows.boot_abs (af (aa 1 rfl) am ah)) (aa 2 rfl) ⟨r,i.mono (by decide)⟩) z) ?_);refine ae (aF (bU (aA (aa 2 rfl) (aA (aa 9 rfl) (aA (HK (bg (aa 2 rfl) (aZ (aa 9 rfl) (aa 0 rfl) (Sz.ok y B (by decide)))) (aa 1 rfl) ⟨hb,d.mono (by decide)⟩) bC aQ) ah) ah)) ?_);exact vx j G
abbrev mv(a b c d e f:Int):U:=.tup [.int a,.int b,.int c,.int d,.int e,.int f]
structure Mv(a b c d e f:Int):Prop where
 u:a*d-b*c=1\/a*d-b*c=-1
 a:Sz 30000 a
 b:Sz 30000 b
 c:Sz 30000 c
 d:Sz 30000 d
 e:Sz 30000 e
 f:Sz 30000 f
def wU:List U->Out->Prop:=λa o=>∃n:Int,a=[.int n]/\o=.val (.bl true)
theorem uL:OkD P w base T.aa1 1 (wU):=by
 refine okD tE (by walk_at"ln") ?_;rintro _ _ _ a ⟨n,rfl,rfl⟩;refine ae (aF (Jl (aw (fY (by intro _ h;cases h) (by walk_at"kit")) rfl T.aaf Qm (af (aa 0 rfl) (af (zp rfl T.abe V8) am ah) ah)) (λb=>(GJ (Jc (aw (fY (by intro _ h;cases h) (by walk_at"kit")) rfl T.aaf Qm (af (aa 0 rfl) (af (zp rfl T.abF boot_bool) am ah) ah)))))) ?_);exact rfl
def zC:List U->Out->Prop:=λg o=>∃a b c d e f,g=[mv a b c d e f]/\Sz 30000 a/\Sz 30000 b/\Sz 30000 c/\Sz 30000 d/\o=.val (.int (a*d-b*c))
theorem Fs:OkD P w base T.abz 1 (zC):=by
 refine okD FU (by walk_at"ln") ?_;rintro _ _ _ i ⟨a,b,c,d,e,f,rfl,h,g,k,j,rfl⟩;refine ae (aF (bg (aZ (aD (aa 0 rfl) ag rfl rfl) (aD (aa 0 rfl) ag rfl rfl) (by walk_at"mul")) (aZ (aD (aa 0 rfl) ag rfl rfl) (aD (aa 0 rfl) ag rfl rfl) (by walk_at"mul"))) ?_);exact rfl
def sS:List U->Out->Prop:=λg o=>∃a b c d e f,g=[mv a b c d e f]/\Mv a b c d e f/\o=.val (.bl true)
theorem wp:OkD P w base T.aba 2 (sS):=by
 refine okD oG (by walk_at"ln") ?_;rintro _ _ _ g ⟨a,b,c,d,e,f,rfl,M,rfl⟩;refine ae (aE (Tw.t (jh (lY (iC (aw (fY (by intro _ h;cases h) rfl) rfl T.aaf Qm (af (aa 0 rfl) (af (zp rfl T.abv boot_tuple) am ah) ah)))) (λm=>(ix (au nJ (aw (bR rfl) rfl T.aab LL (af (aa 0 rfl) am ah)) ag))))) rfl (ay ?_));refine ae (aE (lY (iC (aw (Gy rfl (bs:=[true,true,true,true,true,true])) rfl T.abE boot_all (af (EvN.ev (bO  rfl (blk (ai lC) ["thing","number"] [1] rfl rfl rfl rfl (by decide+kernel)) (EvI.z (JT (aa 0 rfl))) (λ_ _ _ _=>aM (i:=1) oG.nd rfl (Or.inl rfl)) (bL (by decide)) ?clen ?csz (λ_ _=>trivial) ?celt)) am dg)))) rfl (ay ?_))
 case clen=>rfl
 case csz=>show 6<=sizeLine;decide
 case celt=>
  intro C j l o i x y hx hy
  have k:∃n:Int,x=.int n/\y=.bl true:=by
   match i,hx,hy with
   |0,hx,hy=>cases hx;cases hy;exact⟨a,rfl,rfl⟩
   |1,hx,hy=>cases hx;cases hy;exact⟨b,rfl,rfl⟩
   |2,hx,hy=>cases hx;cases hy;exact⟨c,rfl,rfl⟩
   |3,hx,hy=>cases hx;cases hy;exact⟨d,rfl,rfl⟩
   |4,hx,hy=>cases hx;cases hy;exact⟨e,rfl,rfl⟩
   |5,hx,hy=>cases hx;cases hy;exact⟨f,rfl,rfl⟩
   |i+6,hx,hy=>cases hx
  obtain⟨n,rfl,rfl⟩:=k;exact (aR (uL T) g (af (aa 1 rfl) am ah) ⟨n,rfl,rfl⟩)
 refine ae (aF (gX (AG rfl rfl rfl) (aR (Fs T) g (af (aa 0 rfl) am ah) ⟨a,b,c,d,e,f,rfl,M.a,M.b,M.c,M.d,rfl⟩) (bU (aA ag (aA (dl ag) bC lg) aJ))) ?_);refine vB ?_;rcases M.u with h |h <;>rw[h] <;>rfl
def Ao:List U->Out->Prop:=λg o=>∃a b c d e f,g=[mv a b c d e f]/\Mv a b c d e f/\o=.val .non
theorem rD:OkD P w base T.aaO 3 (Ao):=by
 refine okD rf (by walk_at"ln") ?_;rintro _ _ _ g ⟨a,b,c,d,e,f,rfl,M,rfl⟩;refine ae (aE (lY (iC (aR (wp T) g (af (aa 0 rfl) am ah) ⟨a,b,c,d,e,f,rfl,M,rfl⟩))) rfl (ay (ay ?_)));exact rfl
def sZ:List U->Out->Prop:=λg o=>∃x y a b c d e f,g=[pt x y,mv a b c d e f]/\(Sz 30000 x/\Sz 30000 y/\Sz 30000 a/\Sz 30000 b/\Sz 30000 c/\Sz 30000 d)/\o=.val (pt (a*x+b*y) (c*x+d*y))
theorem zT:OkD P w base T.abi 1 (sZ):=by
 refine okD zo (by walk_at"ln") ?_;rintro _ _ _ k ⟨x,y,a,b,c,d,e,f,rfl,⟨h,g,j,i,m,l⟩,rfl⟩;refine ae (aF (bU (aA (bK (aZ (aD (aa 1 rfl) ag rfl rfl) (aD (aa 0 rfl) ag rfl rfl) (by walk_at"mul")) (aZ (aD (aa 1 rfl) ag rfl rfl) (aD (aa 0 rfl) ag rfl rfl) (by walk_at"mul"))) (aA (bK (aZ (aD (aa 1 rfl) ag rfl rfl) (aD (aa 0 rfl) ag rfl rfl) (by walk_at"mul")) (aZ (aD (aa 1 rfl) ag rfl rfl) (aD (aa 0 rfl) ag rfl rfl) (by walk_at"mul"))) bC aQ) aQ)) ?_);exact rfl
def wP:List U->Out->Prop:=λg o=>∃x y a b c d e f,g=[pt x y,mv a b c d e f]/\Mv a b c d e f/\Sz 30000 x/\Sz 30000 y/\o=.val (pt (a*x+b*y+e) (c*x+d*y+f))
theorem DM:OkD P w base T.abp 4 (wP):=by
 refine okD uo (by walk_at"ln") ?_;rintro _ _ _ g ⟨x,y,a,b,c,d,e,f,rfl,M,i,h,rfl⟩;refine ae (o4 (aR (rD T) g (af (aa 1 rfl) am ah) ⟨a,b,c,d,e,f,rfl,M,rfl⟩) ?_);refine ae (ax 2 uo.nd (aR (zT T) g (af (aa 0 rfl) (af (aa 1 rfl) am ah) ah) ⟨x,y,a,b,c,d,e,f,rfl,⟨i,h,M.a,M.b,M.c,M.d⟩,rfl⟩) ?_);refine ae (aF (bU (aA (bK (aD (aa 2 rfl) ag rfl rfl) (aD (aa 1 rfl) ag rfl rfl)) (aA (bK (aD (aa 2 rfl) ag rfl rfl) (aD (aa 1 rfl) ag rfl rfl)) bC aQ) aQ)) ?_);exact rfl
theorem DA(G:kW a b g s t):g=((PJ a b:Nat):Int):=by
 have d:=Sb G.da G.db
 have c:((PJ a b):Int) ∣ g:=by
  rw[<-G.eq];exact Ql (Mq (QG ..) (MJ _ _)) (Mq (Qv ..) (MJ _ _))
 exact Ts G.g0 (Int.natCast_nonneg _) d c
theorem oJ(a b):∃s t,kW a b ((PJ a b:Nat):Int) s t:=by
 obtain⟨g,s,t,G⟩:=xQ a b;have e:=DA G;subst e;exact⟨s,t,G⟩
structure KF(x0 y0 x1 y1:Int):Prop where
 s0:Sz 3000 x0
 t0:Sz 3000 y0
 s1:Sz 3000 x1
 t1:Sz 3000 y1
def vJ:List U->Out->Prop:=λe o=>∃c d b a g s t:Int,e=[pt c d,pt b a]/\KF c d b a/\kW (b-c) (a-d) g s t/\o=.val (.int g)
theorem uS:OkD P w base T.abq 3 (vJ):=by
 refine okD Db (by walk_at"ln") ?_;rintro _ _ _ a ⟨e,i,c,b,g,s,t,rfl,⟨h,t0,f,d⟩,G,rfl⟩;refine ae (aF (aD (aR (p9 T) a (af (bg (aD (aa 1 rfl) ag rfl rfl) (aD (aa 0 rfl) ag rfl rfl)) (af (bg (aD (aa 1 rfl) ag rfl rfl) (aD (aa 0 rfl) ag rfl rfl)) am aQ) aQ) ⟨_,_,g,s,t,rfl,by walk_at"szb",by walk_at"szb",G,rfl⟩) ag rfl rfl) ?_);exact rfl
def cT(n:Nat)(a b m:Int):Int:=match n with
 |0=>0
 |n+1=>cT n a b m+(a*(n:Int)+b)/m
theorem n9(a b m):∀n,cT (n+1) a b m=b/m+cT n a (b+a) m
 |0=>by simp[cT]
 |n+1=>by
  rw[show cT (n+1+1) a b m=cT (n+1) a b m+(a*((n+1:Nat):Int)+b)/m from rfl,n9 a b m n];rw[show cT (n+1) a (b+a) m=cT n a (b+a) m+(a*(n:Int)+(b+a))/m from rfl];have e:a*((n+1:Nat):Int)+b=a*(n:Int)+(b+a):=by push_cast;grind
  rw[e];lia
theorem qY(c:0<m):∀n,cT n a (b+m) m=cT n a b m+n
 |0=>by simp[cT]
 |n+1=>by
  show cT n a (b+m) m+(a*(n:Int)+(b+m))/m=cT n a b m+(a*(n:Int)+b)/m+((n+1:Nat):Int);rw[qY c n,<-Int.add_assoc,Int.add_ediv_of_dvd_right (QQ m),Int.ediv_self (by lia)]
  push_cast;lia
theorem A_(n):(((n+1:Nat):Int) *(((n+1:Nat):Int)-1))/2=((n:Int) *((n:Int)-1))/2+n:=by
 have e:(((n+1:Nat):Int) *(((n+1:Nat):Int)-1))=(n:Int) *((n:Int)-1)+(n:Int) *2:=by push_cast;grind
 rw[e,TY _ _ (by decide)]
theorem oH(c:0<m):∀n,cT n a b m=a/m*((n:Int) *((n:Int)-1)/2)+b/m*n+cT n (a%m) (b%m) m
 |0=>by simp[cT]
 |n+1=>by
  show cT n a b m+(a*(n:Int)+b)/m=_+(cT n (a%m) (b%m) m+(a%m*(n:Int)+b%m)/m);rw[oH c n,A_]
  have e:a*(n:Int)+b=(a%m*(n:Int)+b%m)+m*(a/m*n+b/m):=by
   have f:=MX a m;have d:=MX b m;grind
  rw[e,Qn _ _ (by lia)]
  push_cast
  grind
theorem lv(f:0<a)(g:a<m)(d:0<=b)(c:b<m):∀n,cT n a b m=cT ((a*(n:Int)+b)/m).toNat m ((a*(n:Int)+b)%m) a
 |0=>by
  have e:(a*((0:Nat):Int)+b)/m=0:=by
   have:a*((0:Nat):Int)+b=b:=by simp
   rw[this];exact Nw d c
  rw[e];rfl
 |n+1=>by
  have l:=lv f g d c n;have t:0<=a*(n:Int)+b:=WN (Lv (by lia) (by lia)) d;have s:0<=(a*(n:Int)+b)/m:=QT t (by lia);have k:=Nz (a*(n:Int)+b) (show m≠0 by lia);have q:=M9 (a*(n:Int)+b) (show 0<m by lia);have p:=MX (a*(n:Int)+b) m;have o:a*((n+1:Nat):Int)+b=(a*(n:Int)+b)+a:=by push_cast;grind
  show cT n a b m+(a*(n:Int)+b)/m=_;rw[o,l];generalize hZ:a*(n:Int)+b=z at *;generalize hYY:z/m=Y at *;generalize hRR:z%m=r at *;obtain⟨y,rfl⟩:=Int.eq_ofNat_of_zero_le s;by_cases j:r+a<m
  .have i:(z+a)/m=(y:Int):=by
    rw[show z+a=(r+a)+m*(y:Int) by lia,Qn _ _ (by lia),Nw (by lia) j];lia
   have h:(z+a)%m=r+a:=by
    rw[show z+a=(r+a)+m*(y:Int) by lia,Si,SU (by lia) j]
   rw[i,h,qY f];simp
  .have i:(z+a)/m=(y:Int)+1:=by
    rw[show z+a=(r+a-m)+m*((y:Int)+1) by rw[Wr];lia,Qn _ _ (by lia),Nw (by lia) (by lia)];lia
   have h:(z+a)%m=r+a-m:=by
    rw[show z+a=(r+a-m)+m*((y:Int)+1) by rw[Wr];lia,Si,SU (by lia) (by lia)]
   rw[i,h,show ((y:Int)+1).toNat=y+1 by lia,n9,Nw (by lia) (by lia),show r+a-m+m=r+a by lia,qY f];simp
theorem nq(d:0<=a)(f:0<=b)(n:Nat)(h:a*(n:Int)+b<m):cT n a b m=0:=by
 induction n with
 |zero=>rfl
 |succ n c=>
  have e:a*((n+1:Nat):Int)+b=a*(n:Int)+b+a:=by push_cast;grind
  have g:0<=a*(n:Int):=Lv d (by lia);show cT n a b m+(a*(n:Int)+b)/m=0;rw[c (by lia),Nw (by lia) (by lia)];rfl
theorem Aw(n)(a b m):cT (n+1) a b m=cT n a b m+(a*(n:Int)+b)/m:=rfl
theorem zj:∀(m:Nat) a b g,0<m->0<g->g ∣ a->g ∣ (m:Int)->(∀d,d ∣ a->d ∣ (m:Int)->d ∣ g)->2*cT m a b m=(a-1) *((m:Int)-1)+g-1+2*(g*(b/g)):=by
 intro m
 induction m using Uc with
 |ind m D=>
  intro a b g I B C o gr;have k:(0:Int)<(m:Int):=by omega
  have n:=oH (a:=a) (b:=b) k m;have f:=Nz a (show (m:Int)≠0 by omega);have p:=M9 a k;have e:=Nz b (show (m:Int)≠0 by omega);have i:=M9 b k;have t:=MX a (m:Int);have J:=MX b (m:Int)
  have r:2*((m:Int) *((m:Int)-1)/2)=(m:Int) *((m:Int)-1):=by
   have:(2:Int) ∣ (m:Int) *((m:Int)-1):=by
    rcases Int.emod_two_eq (m:Int) with h |h
    .exact Mq (QZ h) (Nr _ _)
    .exact Mq (QZ (by omega)) (MJ _ _)
   exact Nt this
  have w:g*(b/g)=(m:Int) *(b/(m:Int))+g*(b%(m:Int)/g):=by
   obtain⟨c,z⟩:=o;have:b=b%(m:Int)+g*(c*(b/(m:Int))):=by rw[<-RW,<-z];omega
   conv=>lhs;rw[this]
   rw[Qn _ _ (by omega),Wr,<-RW g c,<-z];omega
  by_cases v:a%(m:Int)=0
  .have s:g=(m:Int):=Ts (by omega) (by omega) o (gr _ (QZ v) (QQ _));have l:cT m (a%(m:Int)) (b%(m:Int)) m=0:=nq f e m (by rw[v];omega);rw[n,l,w,s,Nw e i];rw[v]at t;have:a=(m:Int) *(a/(m:Int)):=by omega
   generalize a/(m:Int)=q at *;subst this;grind
  .have G:0<a%(m:Int):=by omega
   have j:=lv G p e i m
   have F:(a%(m:Int) *(m:Int)+b%(m:Int))/(m:Int)=a%(m:Int):=by
    rw[Ry,TY _ _ (by omega),Nw e i];omega
   have E:(a%(m:Int) *(m:Int)+b%(m:Int))%(m:Int)=b%(m:Int):=by
    rw[Ry,Int.add_mul_emod_self_right,SU e i]
   rw[F,E]at j
   have u:g ∣ a%(m:Int):=by
    rw[show a%(m:Int)=a-(m:Int) *(a/(m:Int)) by omega];exact Sa C (Mq o (Nr _ _))
   have A:=D (a%(m:Int)).toNat (by omega) (m:Int) (b%(m:Int)) g (by omega) B o (by rw[QJ f];exact u) (λd y x=>by
    rw[QJ f]at x;refine gr d ?_ y;rw[<-t];exact Ql x (Mq y (Nr _ _)))
   rw[QJ f]at A;rw[n,j,w];have K:2*(a/(m:Int) *((m:Int) *((m:Int)-1)/2))=a/(m:Int) *((m:Int) *((m:Int)-1)):=by rw[<-r];grind
   generalize a/(m:Int)=q at *;generalize a%(m:Int)=H at *;subst t;grind
theorem G9{a b m n:Int}(g:0<=n)(d:a<m)(h:b<m)(c:0<m):(a*n+b)/m<=n:=by
 have i:a*n<=(m-1) *n:=Int.mul_le_mul_of_nonneg_right (by lia) g
 have f:a*n+b<(n+1) *m:=by
  have e:(n+1) *m=(m-1) *n+n+m:=by grind
  lia
 have:=Int.ediv_lt_of_lt_mul c f;lia
def zY:List U->Out->Prop:=λc o=>∃b step start a:Int,c=[.int b,.int step,.int start,.int a]/\0<=b/\0<a/\Sz 3000 b/\Sz 3000 step/\Sz 3000 start/\Sz 3000 a/\o=.val (.int (cT b.toNat step start a))
theorem v9:OkD P w base T.aa_ 1 (zY):=by
 refine okD bW (by walk_at"ln") ?_;rintro _ _ _ V ⟨k,step,start,l,rfl,s,p,q,v,u,r,rfl⟩;refine ae (aE (Tw.t (jh (au dG (aa 0 rfl) ag) (λhz=>(ix (au dG (aa 3 rfl) ag))))) (by simp;lia) (ay ?_));refine ae (ax 4 bW.nd ag ?_);generalize hS:cT k.toNat step start l=S;refine ae (fX (λm:Int×Int×Int×Int×Int=>[some (.val (.int m.1)),some (.val (.int m.2.1)),some (.val (.int m.2.2.1)),some (.val (.int m.2.2.2.1)),some (.val (.int m.2.2.2.2)),none,none]) (λn m=>n=m.2.2.2.1.toNat/\0<=m.1/\0<m.2.2.2.1/\m.2.2.2.2+cT m.1.toNat m.2.1 m.2.2.1 m.2.2.2.1=S/\Sz 3000 m.1/\Sz 3000 m.2.1/\Sz 3000 m.2.2.1/\Sz 3000 m.2.2.2.1) PassesOwn.never ?h0 ?hs)
 case h0=>exact⟨_,(_,_,_,_,_),⟨rfl,s,p,(show 0+cT k.toNat step start l=S by lia),q,v,u,r⟩,rfl,rfl,rfl,rfl,rfl,trivial⟩
 case hs=>
  rintro n ⟨f,g,j,d,Z⟩ ⟨rfl,s,p,e,q,v,u,r⟩;dsimp only at s p e q v u r |-;refine⟨_,(iC IG),λh=>?_,λh N R=>?_⟩
  .have Q:Sz 3000 (g/d):=v.ediv;have W:Sz 3000 (j/d):=u.ediv;have G:Sz 6001 (f*(f-1)):=(L2.Sz.mul q (L2.Sz.sub' q (Sz.mono (m:=8) (n:=3000) (x:=1) (by decide) (by decide)))).mono (by decide);have X:Sz 6001 (f*(f-1)/2):=G.ediv;refine ae (GK (i:=4) CM bW.nd rfl (Or.inl rfl) rfl (bK (aZ (cU (aa 1 rfl) (aa 3 rfl) (by walk_at"div")) (cU (aZ (aa 0 rfl) (bg (aa 0 rfl) ag) (by walk_at"mul")) ag (by walk_at"div")) (by walk_at"mul")) (aZ (cU (aa 2 rfl) (aa 3 rfl) (by walk_at"div")) (aa 0 rfl) (by walk_at"mul"))) ?_);refine ae (ax 1 bW.nd (c0 (aa 1 rfl) (aa 3 rfl) (by walk_at"mod")) ?_);refine ae (ax 2 bW.nd (c0 (aa 2 rfl) (aa 3 rfl) (by walk_at"mod")) ?_);have y:=Nz g (show d≠0 by lia);have B:=M9 g p;have F:=Nz j (show d≠0 by lia);have D:=M9 j p;have E:Sz 3000 (g%d):=r.natle (by lia);have K:Sz 3000 (j%d):=r.natle (by lia);have A:=oH (a:=g) (b:=j) p f.toNat;rw[show ((f.toNat:Nat):Int)=f by lia]at A
   refine ae (ax 5 bW.nd (bK (aZ (aa 1 rfl) (aa 0 rfl) (by walk_at"mul")) (aa 2 rfl)) ?_);have sT:Sz 6002 (g%d*f+j%d):=(L2.Sz.add' (L2.Sz.mul E q) (K.mono (n:=6000) (by decide))).mono (by decide);refine ae (lD (au dG (aa 5 rfl) (aa 3 rfl)) (λI=>?_) (λJ=>(ay ?_)))
   .have c:=dTb I;have z:=nq (m:=d) y F f.toNat (by rw[show ((f.toNat:Nat):Int)=f by lia];exact c);refine ae (aF (aa 4 rfl) ?_);exact vIO (by lia)
   .have c:=dFb J
    have C:0<g%d:=by
     rcases L_ y with h |h
     .exact h
     .rw[<-h,Rw]at c;lia
    have Y:0<=g%d*f:=Lv y s;have o:=lv C B F D f.toNat;rw[show ((f.toNat:Nat):Int)=f by lia]at o
    have t0:0<=(g%d*f+j%d)/d:=QT (by lia) (by lia);have M:=G9 s B D p;have U:=Nz (g%d*f+j%d) (show d≠0 by lia);have O:=M9 (g%d*f+j%d) p;have H:Sz 3000 ((g%d*f+j%d)/d):=q.natle (by lia);have L:Sz 3000 ((g%d*f+j%d)%d):=r.natle (by lia);refine ae (ax 0 bW.nd (cU (aa 5 rfl) (aa 3 rfl) (by walk_at"div")) ?_);refine ae (ax 2 bW.nd (c0 (aa 5 rfl) (aa 3 rfl) (by walk_at"mod")) ?_);refine ae (ax 6 bW.nd (aa 1 rfl) ?_);refine ae (ax 1 bW.nd (aa 3 rfl) ?_);refine ae (ax 3 bW.nd (aa 6 rfl) (ay ?_));refine⟨_,(_,_,_,_,_),?_,⟨rfl,t0,C,?_,H,r,L,E⟩,rfl,rfl,rfl,rfl,rfl,trivial⟩
    .dsimp only;lia
    .dsimp only;rw[<-o];lia
  .cases h
abbrev Pt:=Int×Int
def plt(p q:Pt):Prop:=p.1<q.1\/(p.1=q.1/\p.2<q.2)
def aq(a b p:Pt):Int:=(b.1-a.1) *(p.2-a.2)-(b.2-a.2) *(p.1-a.1)
theorem cM(e:plt a b)(d:plt b c):plt a c:=by unfold plt at *;lia
theorem bD(a):¬ plt a a:=by unfold plt;lia
theorem qH(a b):plt a b\/a=b\/plt b a:=by
 unfold plt;by_cases d:a.1=b.1
 .by_cases c:a.2=b.2
  .exact .inr (.inl (MS d c))
  .lia
 .lia
def fR(x y:Int):Prop:=0<x\/(x=0/\0<y)
theorem bI(h:plt a b):fR (b.1-a.1) (b.2-a.2):=by unfold plt fR at *;lia
theorem dQ(m:fR u1 u2)(k:fR v1 v2)(i:fR w1 w2)(f:0<=u1*v2-u2*v1)(g:0<=v1*w2-v2*w1):0<=u1*w2-u2*w1:=by
 unfold fR at *;by_cases b:v1=0
 .subst b;have a:0<v2:=by lia
  have d:w1=0:=by
   by_cases h:0<w1
   .have:=M6 a h;lia
   .lia
  subst d;have:=Lv (show 0<=u1 by lia) (show 0<=w2 by lia);simp;lia
 .have c:0<v1:=by lia
  have e:v1*(u1*w2-u2*w1)=u1*(v1*w2-v2*w1)+w1*(u1*v2-u2*v1):=by grind
  have l:=Lv (show 0<=u1 by lia) g;have j:=Lv (show 0<=w1 by lia) f;have:0<=v1*(u1*w2-u2*w1):=by lia
  exact Int.nonneg_of_mul_nonneg_right this c
theorem eR(j:fR u1 u2)(p:fR v1 v2)(n:fR w1 w2)(i:0<u1*v2-u2*v1)(l:0<=v1*w2-v2*w1):0<u1*w2-u2*w1:=by
 unfold fR at *;by_cases f:v1=0
 .subst f;have d:0<v2:=by lia
  have c:w1=0:=by
   by_cases m:0<w1
   .have:=M6 d m;lia
   .lia
  subst c;have a:0<w2:=by lia
  have b:0<u1:=by
   rcases j with h |⟨h,_⟩
   .exact h
   .subst h;simp at i
  have:=M6 b a;simp;lia
 .have g:0<v1:=by lia
  have e:v1*(u1*w2-u2*w1)=u1*(v1*w2-v2*w1)+w1*(u1*v2-u2*v1):=by grind
  have q:=Lv (show 0<=u1 by lia) l;by_cases c:w1=0
  .subst c;have a:0<w2:=by lia
   have b:0<u1:=by
    rcases j with h |⟨h,k⟩
    .exact h
    .subst h;have:=M6 k g;simp at i;lia
   have:=M6 b a;simp;lia
  .have o:=M6 (show 0<w1 by lia) i;have:0<v1*(u1*w2-u2*w1):=by lia
   exact NP this (by lia)
def qM:List Pt->Prop
 |b::a::r=>plt a b/\qM (a::r)
 |_=>True
def lU:List Pt->Prop
 |c::b::a::r=>0<aq a b c/\lU (b::a::r)
 |_=>True
def jj(c:List Pt):List Pt->Prop
 |b::a::r=>(∀q∈c,0<=aq a b q)/\jj c (a::r)
 |_=>True
theorem lU.tail:∀{b}{a},lU (b::a)->lU a
 |_,[],_=>trivial
 |_,[_],_=>trivial
 |_,_::_::_,h=>h.2
theorem qM.tail:∀{b}{a},qM (b::a)->qM a
 |_,[],_=>trivial
 |_,_::_,h=>h.2
theorem jj.tail:∀{b}{a},jj done (b::a)->jj done a
 |_,[],_=>trivial
 |_,_::_,h=>h.2
def bh(P:Pt):List Pt->List Pt
 |b::a::r=>if aq a b P<=0 then bh P (a::r) else b::a::r
 |st=>st
def ao(a:List Pt):List Pt:=a.foldl (λb P=>P::bh P b) []
structure Kept(done st:List Pt):Prop where
 ne:st≠[]
 desc:qM st
 turns:lU st
 cover:jj done st
 sub:∀p∈st,p∈done
structure zx(done st:List Pt)(P:Pt):Prop extends Kept done st where
 pend:∀h r,st=h::r->∀q∈done,plt h q->0<=aq h P q
theorem z_{P b a:Pt}(l:∀q∈done,plt q P)(D:zx done (b::a::r) P)(h:aq a b P<=0):zx done (a::r) P:=by
 refine⟨⟨by simp,D.desc.tail,D.turns.tail,D.cover.tail,λp j=>D.sub p (Li _ j)⟩,?_⟩;intro n m e q f i;cases e;have c:=D.desc.1;have g:=D.cover.1 q f;have d:=l b (D.sub b Lo);rcases qH q b with z |z |z
 .have l1:=bI i;have l2:=bI c;have k:=bI (cM c d);have:=dQ k l2 l1 (by unfold aq at h;grind) (by unfold aq at g;grind);unfold aq;grind
 .subst z;unfold aq at *;grind
 .have p:=D.pend b _ rfl q f z;unfold aq at *;grind
theorem vy{P:Pt}(d:∀q∈done,plt q P):∀c,zx done c P->zx done (bh P c) P/\(∀b a r,bh P c=b::a::r->0<aq a b P)/\(c.getLast?=(bh P c).getLast?)
 |[],D=>absurd rfl D.ne
 |[b],D=>⟨D,λ_ _ _ e=>by simp[bh]at e,rfl⟩
 |b::a::r,D=>by
  by_cases h:aq a b P<=0
  .rw[bh,if_pos h];obtain⟨i,g,f⟩:=vy d (a::r) (z_ d D h);exact⟨i,g,by rw[<-f];simp⟩
  .rw[bh,if_neg h];refine⟨D,λj k l e=>?_,rfl⟩;cases e;lia
theorem AE{d st:List Pt}{P:Pt}(E:∀q∈d,plt q P)(D:zx d st P)(o:∀b a r,st=b::a::r->0<aq a b P)(v:∀x,st=[x]->∀q∈d,q=x\/plt x q):Kept (d++[P]) (P::st):=by
 have B:∀b r,qM (b::r)->lU (b::r)->jj d (b::r)->plt b P->(∀a f,r=a::f->0<=aq a b P)->jj (d++[P]) (b::r):=by
  intro b r
  induction r generalizing b with
  |nil=>intro _ _ _ _ _;trivial
  |cons a r A=>
   intro k j u l s;refine⟨λq n=>?_,?_⟩
   .rcases Mm.mp n with z |z
    .exact u.1 q z
    .rw[Lz.mp z];exact s a r rfl
   .refine A a k.tail j.tail u.tail (cM k.1 l) (λc f e=>?_);subst e;have t:=j.1;have g:=s a _ rfl;have l1:=bI k.2.1;have l2:=bI k.1;have m:=bI (cM k.1 l);have:=dQ l1 l2 m (by unfold aq at t;grind) (by unfold aq at g;grind);unfold aq;grind
 obtain⟨h,r,e⟩:∃h r,st=h::r:=by
  cases YH:st with
  |nil=>exact absurd YH D.ne
  |cons h r=>exact⟨h,r,rfl⟩
 subst e;have i:=E h (D.sub h Lo);refine⟨by simp,⟨i,D.desc⟩,?_,⟨λq n=>?_,?_⟩,λp C=>?_⟩
 .cases r with
  |nil=>trivial
  |cons a f=>exact⟨o h a f rfl,D.turns⟩
 .rcases Mm.mp n with z |z
  .rcases qH q h with y |y |y
   .cases r with
    |nil=>
     rcases v h rfl q z with w |w
     .subst w;exact absurd y (bD _)
     .exact absurd (cM y w) (bD _)
    |cons a f=>
     have t:=o h a f rfl;have c:=D.cover.1 q z;have l1:=bI D.desc.1;have l2:=bI y;have m:=bI i;have:=dQ l2 l1 m (by unfold aq at c;grind) (by unfold aq at t;grind);unfold aq;grind
   .subst y;unfold aq;grind
   .exact D.pend h r rfl q z y
  .rw[Lz.mp z];unfold aq;grind
 .exact B h r D.desc D.turns D.cover i (λa f e=>NQ (o h a f (by rw[e])))
 .rcases Ll.mp C with z |z
  .subst z;exact LR _ Lo
  .exact Ms _ (D.sub p z)
theorem oX(row)(P):ao (row++[P])=P::bh P (ao row):=by
 unfold ao;rw[List.foldl_append];rfl
theorem nX{row:List Pt}(hs:row.Pairwise plt):∀n,0<n->n<=row.length->Kept (row.take n) (ao (row.take n))/\(ao (row.take n)).getLast?=row.head?/\(ao (row.take n)).head?=row[n-1]?
 |0,h,_=>absurd h (by decide)
 |1,_,h=>by
  cases row with
  |nil=>simp at h
  |cons a r=>
   simp only[NJ,Rl];exact⟨⟨by simp[ao],trivial,trivial,trivial,λp w=>by simpa [ao,bh] using w⟩,rfl,rfl⟩
 |n+2,_,h=>by
  obtain⟨K,o,d⟩:=nX hs (n+1) (by lia) (by lia);have g:n+1<row.length:=by lia
  have v:row.take (n+2)=row.take (n+1)++[row[n+1]]:=by rw[Pp g]
  have u:∀q∈row.take (n+1),plt q row[n+1]:=λq c=>by
   obtain⟨i,s,e⟩:=QA.mp c;subst e;exact LD.mp hs i (n+1) (by lia) g (by lia)
  have D:zx (row.take (n+1)) (ao (row.take (n+1))) row[n+1]:=⟨K,λB r e q c j=>by
   exfalso
   rw[e]at d;simp only[Wt,Vi]at d;have b:n<row.length:=by lia
   rw[Ld b]at d;have l:=Ma d;obtain⟨i,s,k⟩:=QA.mp c;subst k;rw[l]at j;rcases NN i n with z |z
   .exact bD _ (cM j (LD.mp hs i n (by lia) b z))
   .have:i=n:=by lia
    subst this;exact bD _ j⟩
  obtain⟨y,A,f⟩:=vy u _ D;rw[v,oX];refine⟨AE u y A (λx e q c=>?_),?_,?_⟩
  .rw[e,o]at f;obtain⟨i,s,k⟩:=QA.mp c;have m:0<row.length:=by lia
   have t:row[0]=x:=by
    rw[Qb,Ld m]at f;exact Ma f
   subst k;rcases Pc i with z |z
   .subst z;exact .inl t
   .right;rw[<-t];exact LD.mp hs 0 i m (by lia) z
  .rw[List.getLast?_cons,<-f,o];cases row with
   |nil=>simp at g
   |cons a r=>rfl
  .simp only[Wt,Vi];rw[show n+2-1=n+1 by lia,Ld g]
theorem cw(hs:row.Pairwise plt)(h:row≠[]):Kept row (ao row)/\(ao row).getLast?=row.head?/\(ao row).head?=row.getLast?:=by
 have d:=LQ.mpr h;obtain⟨c,b,a⟩:=nX hs row.length d (Lk _);rw[P8]at c b a;exact⟨c,b,by rw[a,NA]⟩
theorem eo(i:fR u1 u2)(l:fR v1 v2)(j:fR w1 w2)(f:0<=u1*v2-u2*v1)(d:0<v1*w2-v2*w1):0<u1*w2-u2*w1:=by
 unfold fR at *;by_cases b:v1=0
 .subst b;have:=Lv (show 0<=v2 by lia) (show 0<=w1 by lia);simp at d;lia
 .have a:0<v1:=by lia
  have c:0<u1:=by
   rcases i with h |⟨h,g⟩
   .exact h
   .subst h;have:=M6 g a;simp at f;lia
  have e:v1*(u1*w2-u2*w1)=u1*(v1*w2-v2*w1)+w1*(u1*v2-u2*v1):=by grind
  have m:=M6 c d;have k:=Lv (show 0<=w1 by lia) f;have q:0<v1*(u1*w2-u2*w1):=by lia
  exact NP q a
def low(c:List Pt)(p:Pt):Prop:=∀a∈c,∀b∈c,plt a p->plt p b->0<aq a p b
theorem Gq:∀a n,qM (n::a)->lU (n::a)->jj row (n::a)->p∈a->(∀l,(n::a).getLast?=some l->plt l p)->
  ∃b q,0<aq q p b/\plt q p/\plt p b/\(∀x∈row,0<=aq p b x)/\(∀x∈row,0<=aq q p x)
 |[],n,_,_,_,c,_=>by simp at c
 |h::r,n,D,T,C,c,hl=>by
  by_cases e:h=p
  .subst e;cases r with
   |nil=>exact absurd (hl h (by simp)) (bD h)
   |cons q f=>exact⟨n,q,T.1,D.2.1,D.1,C.1,C.2.1⟩
  .have YS:p∈r:=by
    rcases Ll.mp c with z |z
    .exact absurd z.symm e
    .exact z
   exact Gq r h D.tail T.tail C.tail YS (λl d=>hl l (by rw[P4];exact d))
theorem rC(hs:row.Pairwise plt)(A:p∈ao row):low row p:=by
 intro a ha b hb d c;have F:row≠[]:=λz=>by rw[z]at ha;simp at ha
 obtain⟨K,v,u⟩:=cw hs F
 have M:∀x∈row,∀m,row.head?=some m->x=m\/plt m x:=λx h m e=>by
  cases row with
  |nil=>simp at h
  |cons y r=>
   cases e;rcases Ll.mp h with z |z
   .exact .inl z
   .exact .inr ((MG.mp hs).1 x z)
 have E:∀x∈row,∀m,row.getLast?=some m->x=m\/plt x m:=λx h m e=>by
  obtain⟨i,g⟩:=Mn.mp h;have j:=(Ls.mp g).1;rw[NA]at e;have G:=(Ls.mp e).1;rcases LY (show i<=row.length-1 by lia) with z |z
  .right
   have s:=LD.mp hs i (row.length-1) j G z;rw[(Ls.mp g).2,(Ls.mp e).2]at s;exact s
  .left;rw[z,e]at g;exact (Ma g).symm
 cases YH:ao row with
 |nil=>exact absurd YH K.ne
 |cons n o=>
  rw[YH]at K v u A;have H:row.getLast?=some n:=by rw[<-u];rfl
  have k:p∈o:=by
   rcases Ll.mp A with z |z
   .rcases E b hb n H with y |y
    .rw[y,<-z]at c;exact absurd c (bD p)
    .rw[z]at c;exact absurd (cM c y) (bD n)
   .exact z
  obtain⟨f,q,t,B,D,O,P⟩:=Gq o n K.desc K.turns K.cover k (λl w=>by
   rw[v]at w;rcases M a ha l w with y |y
   .rw[<-y];exact d
   .exact cM y d)
  unfold aq at *;have C:0<=(p.1-a.1) *(p.2-q.2)-(p.2-a.2) *(p.1-q.1):=by grind
  have L:0<(p.1-q.1) *(f.2-p.2)-(p.2-q.2) *(f.1-p.1):=by grind
  have I:0<=(f.1-p.1) *(b.2-p.2)-(f.2-p.2) *(b.1-p.1):=by grind
  have J:=eR (bI B) (bI D) (bI c) L I;have N:=eo (bI d) (bI B) (bI c) C J;grind
theorem Bj:∀c h,qM (h::c)->jj row (h::c)->p∈row->p ∉ h::c->plt p h->(∀l,(h::c).getLast?=some l->plt l p)->∃a∈h::c,∃b∈h::c,plt a p/\plt p b/\0<=aq a b p
 |[],h,_,_,_,_,e,d=>absurd (cM e (d h (by simp))) (bD p)
 |a::r,h,D,C,hr,YR,e,d=>by
  rcases qH p a with z |z |z
  .obtain⟨x,g,y,hy,k⟩:=Bj r a D.tail C.tail hr (λw=>YR (Li _ w)) z (λl f=>d l (by rw[P4];exact f));exact⟨x,Li _ g,y,Li _ hy,k⟩
  .exact absurd (by rw[z];simp) YR
  .exact⟨a,by simp,h,by simp,z,e,C.1 p hr⟩
theorem gap(hs:row.Pairwise plt)(c:p∈row)(f:p ∉ ao row):∃a∈ao row,∃b∈ao row,plt a p/\plt p b/\aq a p b<=0:=by
 have t:row≠[]:=λz=>by rw[z]at c;simp at c
 obtain⟨K,m,k⟩:=cw hs t;cases YH:ao row with
 |nil=>exact absurd YH K.ne
 |cons n s=>
  rw[YH]at K m k f;have d:row.getLast?=some n:=by rw[<-k];rfl
  have q:plt p n:=by
   obtain⟨i,e⟩:=Mn.mp c;have g:=(Ls.mp e).1;rw[NA]at d;have u:=(Ls.mp d).1;rcases LY (show i<=row.length-1 by omega) with z |z
   .have j:=LD.mp hs i (row.length-1) g u z;rw[(Ls.mp e).2,(Ls.mp d).2]at j;exact j
   .rw[z,d]at e;exact absurd (by rw[<-Ma e];simp) f
  obtain⟨a,ha,b,hb,o,w,x⟩:=Bj s n K.desc K.cover c f q (λl h=>by
   have v:=h;rw[m]at h;cases row with
   |nil=>simp at c
   |cons y r=>
    cases h;rcases Ll.mp c with z |z
    .exact absurd (by rw[z];exact Qy v) f
    .exact (MG.mp hs).1 p z)
  refine⟨a,ha,b,hb,o,w,?_⟩;unfold aq at *;grind
theorem AB(hs:row.Pairwise plt)(j:YQ.Pairwise plt)(i:∀p∈YQ,p∈row)(g:∀p∈ao row,p∈YQ)(c:∀r q,q∈ao r->q∈r)(p):p∈ao YQ↔p∈ao row:=by
 constructor
 .intro d;refine Ng λh=>?_;obtain⟨a,ha,b,hb,e,f,k⟩:=gap hs (i p (c _ _ d)) h;have:=rC j d a (g a ha) b (g b hb) e f;lia
 .intro d;refine Ng λh=>?_;obtain⟨a,ha,b,hb,e,f,k⟩:=gap j (g p d) h;have:=rC hs d a (i a (c _ _ ha)) b (i b (c _ _ hb)) e f;lia
abbrev Szp(m:Nat)(p:P2):Prop:=Sz m p.1/\Sz m p.2
theorem GE(b)(r):atI ((b::r).reverse.map pu) (-1)=some (pu b):=by
 have h:ixN ((b::r).reverse.map pu).length (-1)=some r.length:=by
  unfold ixN;simp;lia
 unfold atI;rw[h];simp
theorem GF(b a)(r):atI ((b::a::r).reverse.map pu) (-2)=some (pu a):=by
 have h:ixN ((b::a::r).reverse.map pu).length (-2)=some r.length:=by
  unfold ixN;simp;lia
 unfold atI;rw[h];simp
theorem mO(P):∀c,(bh P c).length<=c.length
 |[]=>Lk _
 |[_]=>Lk _
 |b::a::r=>by
  unfold bh;split
  .have:=mO P (a::r);simp only[LF]at *;lia
  .exact Lk _
theorem xV(P):∀c q,q∈bh P c->q∈c
 |[],_,h=>h
 |[_],_,h=>h
 |b::a::r,q,h=>by
  unfold bh at h;split at h
  .exact Li _ (xV P (a::r) q h)
  .exact h
theorem gP{a:List P2}{P:P2}(h:a[i]?=some P):ao (a.take (i+1))=P::bh P (ao (a.take i)):=by
 rw[Oz,h];exact oX _ _
theorem iY(a:List P2):∀i,(ao (a.take i)).length<=i
 |0=>by simp[ao]
 |i+1=>by
  have ih:=iY a i;cases h:a[i]? with
  |none=>rw[Oz,h];simp;lia
  |some P=>
   rw[gP h];have:=mO P (ao (a.take i));simp only[LF];lia
theorem fW(a:List P2):∀i q,q∈ao (a.take i)->q∈a
 |0,q,h=>by simp[ao]at h
 |i+1,q,h=>by
  cases hi:a[i]? with
  |none=>rw[Oz,hi]at h;exact fW a i q (by simpa using h)
  |some P=>
   rw[gP hi]at h;rcases Ll.mp h with e |e
   .rw[e];exact LW hi
   .exact fW a i q (xV P _ q e)
theorem AW(n):decide (sgn n<1)=decide (n<=0):=by
 have h:sgn n<1↔n<=0:=by
  unfold sgn;split
  .lia
  .split <;>lia
 exact decide_eq_decide.mpr h
theorem iU(l:List P2):fL (l.map pu) none (some (-1))=l.dropLast.map pu:=by
 unfold fL HT.sIx;rw[SV,List.dropLast_eq_take];simp
 try lia
def aj(pts:List P2):List P2:=if (ST.srt pts).length=1 then ST.srt pts else (ao (ST.srt pts)).reverse.dropLast++(ao (ST.srt pts).reverse).reverse.dropLast
theorem rM(a b):plt a b↔ST.ltP a b=true:=by unfold plt ST.ltP;simp
theorem j9:ST.Asc l↔l.Pairwise plt:=⟨λh=>h.imp λ{a b} k=>(rM a b).mpr k,λh=>h.imp λ{a b} k=>(rM a b).mp k⟩
theorem kU:∀{st},qM st->st.Pairwise (λx y=>plt y x)
 |[],_=>Ra
 |[_],_=>by simp
 |b::a::r,h=>by
  have ih:=kU h.2;refine MG.mpr ⟨λx c=>?_,ih⟩;rcases Ll.mp c with z |z
  .rw[z];exact h.1
  .exact cM ((MG.mp ih).1 x z) h.1
theorem ce(row)(q)(h:q∈ao row):q∈row:=by
 have:=fW row row.length q;rw[P8]at this;exact this h
theorem eM(hs:row.Pairwise plt):ST.Asc (ao row).reverse:=by
 by_cases a:row=[]
 .subst a;exact Ra
 .exact j9.mpr (Oi.mpr (kU (cw hs a).1.desc))
theorem nQ(hs:row.Pairwise plt)(a:YQ.Pairwise plt)(c:∀p∈YQ,p∈row)(b:∀p∈ao row,p∈YQ):ao YQ=ao row:=by
 have e:=ST.asc_one (eM a) (eM hs) λz=>by
  rw[LA,LA];exact AB hs a c b ce z
 exact List.reverse_inj.mp e
def ng(p:Pt):Pt:=(-p.1,-p.2)
theorem jz(p):ng (ng p)=p:=by unfold ng;simp
theorem Hb(l:List Pt):(l.map ng).map ng=l:=by
 rw[L4,show ng ∘ ng=id from funext jz,Wu]
theorem n6(a b c):aq (ng a) (ng b) (ng c)=aq a b c:=by unfold aq ng;grind
theorem oK(h:plt a b):plt (ng b) (ng a):=by unfold plt ng at *;simp;lia
theorem A5(P):∀c,bh (ng P) (c.map ng)=(bh P c).map ng
 |[]=>rfl
 |[_]=>rfl
 |b::a::r=>by
  show bh (ng P) (ng b::ng a::r.map ng)=_;unfold bh;rw[n6];split
  .exact A5 P (a::r)
  .rfl
theorem im:∀a,ao (a.map ng)=(ao a).map ng:=λa=>by
 have c:∀(l:List Pt) b,(l.map ng).foldl (λb P=>P::bh P b) (b.map ng)=(l.foldl (λb P=>P::bh P b) b).map ng:=by
  intro l
  induction l with
  |nil=>intro b;rfl
  |cons p r d=>
   intro b;rw[LK,Nd,Nd,A5];exact d (p::bh p b)
 exact c a []
theorem dh{row:List Pt}(hs:row.Pairwise plt):(row.reverse.map ng).Pairwise plt:=by
 rw[MF,Oi];exact hs.imp λ{a b} h=>oK h
theorem cp(a:List Pt):ao a.reverse=(ao (a.reverse.map ng)).map ng:=by rw[im,Hb]
theorem kr{row YQ:List Pt}(hs:row.Pairwise plt)(c:YQ.Pairwise plt)(e:∀p∈YQ,p∈row)(d:∀p∈ao row.reverse,p∈YQ):ao YQ.reverse=ao row.reverse:=by
 rw[cp row,cp YQ];congr 1;refine nQ (dh hs) (dh c) (λp a=>?_) (λp a=>?_)
 .obtain⟨q,b,rfl⟩:=Ln.mp a;exact Ln.mpr ⟨q,LA.mpr (e q (LA.mp b)),rfl⟩
 .rw[im]at a;obtain⟨q,b,rfl⟩:=Ln.mp a;exact Ln.mpr ⟨q,LA.mpr (d q b),rfl⟩
theorem zr(hs:row.Pairwise plt)(A:2<=row.length):∃d c f k,ao row=c::f/\ao row.reverse=d::k/\d∈f/\c∈k/\(∀p∈row,p=d\/plt d p)/\(∀p∈row,p=c\/plt p c)/\d∈row/\c∈row:=by
 have B:row≠[]:=λz=>by rw[z]at A;simp at A
 obtain⟨K,e,g⟩:=cw hs B;have j:row.reverse.map ng≠[]:=by simpa using B
 obtain⟨D,n,m⟩:=cw (dh hs) j;have s:row.head?=some row[0]:=by rw[Qb];exact Ld (by lia)
 have o:row.getLast?=some row[row.length-1]:=by rw[NA];exact Ld (by lia)
 have h:=LD.mp hs 0 (row.length-1) (by lia) (by lia) (by lia)
 have l:∀p∈row,p=row[0]\/plt row[0] p:=λp v=>by
  obtain⟨i,u,rfl⟩:=UF.mp v;rcases Pc i with z |z
  .left;subst z;rfl
  .right;exact LD.mp hs 0 i (by lia) u z
 have w:∀p∈row,p=row[row.length-1]\/plt p row[row.length-1]:=λp v=>by
  obtain⟨i,u,rfl⟩:=UF.mp v;rcases LY (show i<=row.length-1 by lia) with z |z
  .right;exact LD.mp hs i (row.length-1) u (by lia) z
  .left;subst z;rfl
 have C:row[0]≠row[row.length-1]:=λz=>by rw[z]at h;exact bD _ h
 generalize row[0]=d at *;generalize row[row.length-1]=c at *;have q:=List.mem_of_head? s;have t:=Qy o;rw[s]at e;rw[o]at g
 have a:(ao row.reverse).getLast?=some c:=by
  rw[cp,Rf,n,SB,Vj,o];simp[jz]
 have b:(ao row.reverse).head?=some d:=by
  rw[cp,SB,m,Rf,Rz,s];simp[jz]
 cases hb:ao row with
 |nil=>rw[hb]at g;cases g
 |cons x f=>
  rw[hb]at g e;cases g;cases hbR:ao row.reverse with
  |nil=>rw[hbR]at b;cases b
  |cons y k=>
   rw[hbR]at b a;cases b;refine⟨_,_,f,k,rfl,rfl,?_,?_,l,w,q,t⟩
   .cases f with
    |nil=>simp at e;exact absurd e.symm C
    |cons z r=>rw[P4]at e;exact Qy e
   .cases k with
    |nil=>simp at a;exact absurd a C
    |cons z r=>rw[P4]at a;exact Qy a
theorem B4(st:List Pt):st.reverse.dropLast=st.tail.reverse:=by
 cases st with
 |nil=>rfl
 |cons h t=>simp
theorem i_{l:List Pt}:l.reverse.Nodup↔l.Nodup:=by
 unfold List.Nodup;rw[Oi];exact⟨λh=>h.imp λk=>Ne.symm k,λh=>h.imp λk=>Ne.symm k⟩
theorem i9:∀{l m:List Pt},l.Nodup->(∀x∈l,x∈m)->l.length<=m.length
 |[],_,_,_=>Mu _
 |x::l,m,h,hs=>by
  obtain⟨d,c⟩:=Py.mp h;have a:=hs x Lo;have b:=i9 (m:=m.erase x) c λy hy=>(List.mem_erase_of_ne (λe=>d (by rw[<-e];exact hy))).mpr (hs y (Li _ hy));rw[List.length_erase_of_mem a]at b;have:=Nu a;simp only[LF];lia
theorem cP(pts):(ST.srt pts).Pairwise plt:=j9.mp (ST.srt_asc pts)
theorem fh(h:2<=(ST.srt pts).length):aj pts=(ao (ST.srt pts)).tail.reverse++(ao (ST.srt pts).reverse).tail.reverse:=by
 unfold aj;rw[if_neg (by lia),B4,B4]
theorem dL(h:pts≠[]):aj pts≠[]:=by
 have c:ST.srt pts≠[]:=λz=>by
  obtain⟨p,r,rfl⟩:=Qw h;have:=(ST.srt_mem p (p::r)).mpr Lo;rw[z]at this;simp at this
 by_cases g:(ST.srt pts).length=1
 .unfold aj;rw[if_pos g];exact c
 .have b:2<=(ST.srt pts).length:=by have:=LQ.mpr c;lia
  obtain⟨l,k,d,i,f,e,a,j,_⟩:=zr (cP pts) b;rw[fh b,f,e];intro z;have:d.reverse=[]:=(List.append_eq_nil_iff.mp z).1;rw[List.reverse_eq_nil_iff.mp this]at a;simp at a
theorem aY(pts):(aj pts).Nodup:=by
 have n:∀{l:List Pt},l.Pairwise plt->l.Nodup:=λh=>h.imp λ{a b} k e=>by rw[e]at k;exact bD b k
 by_cases r:2<=(ST.srt pts).length
 .have c:=cP pts;obtain⟨f,d,z,L,m,j,M,N,C,i,s,o⟩:=zr c r;have A:(d::z).Nodup:=by rw[<-m];exact i_.mp (n (j9.mp (eM c)))
  have H:(f::L).Nodup:=by
   rw[<-j,cp];have:=i_.mp (n (j9.mp (eM (dh c))));refine MF.mpr (this.imp λ{a b} g e=>g ?_);rw[<-jz a,e,jz]
  obtain⟨F,y⟩:=Py.mp A;obtain⟨D,K⟩:=Py.mp H;rw[fh r,m,j,NB,NB,Qq];refine⟨i_.mpr y,i_.mpr K,λp G q I=>?_⟩;rintro rfl;have v:=LA.mp G;have w:=LA.mp I;have t:p∈ao (ST.srt pts):=by rw[m];exact Li _ v
  have J:p∈ao (ST.srt pts).reverse:=by rw[j];exact Li _ w
  have x:=ce _ _ t;have l1:=(C p x).resolve_left λe=>D (by rw[<-e];exact w);have l2:=(i p x).resolve_left λe=>F (by rw[<-e];exact v);have B:=rC c t f s d o l1 l2;have E:ng p∈ao ((ST.srt pts).reverse.map ng):=by rw[im];exact Ln.mpr ⟨p,J,rfl⟩
  have u:=rC (dh c) E (ng d) (Ln.mpr ⟨d,LA.mpr o,rfl⟩) (ng f) (Ln.mpr ⟨f,LA.mpr s,rfl⟩) (oK l2) (oK l1);rw[n6]at u;unfold aq at B u;grind
 .unfold aj;split
  .exact n (cP pts)
  .have e:ST.srt pts=[]:=Np.mp (by lia);rw[e];exact List.nodup_nil
theorem aO(pts):∀p∈aj pts,p∈pts:=λp a=>by
 unfold aj at a;split at a
 .exact (ST.srt_mem p pts).mp a
 .rcases Mm.mp a with h |h
  .exact (ST.srt_mem p pts).mp (ce _ _ (LA.mp (UG _ h)))
  .exact (ST.srt_mem p pts).mp (LA.mp (ce _ _ (LA.mp (UG _ h))))
theorem fC(pts):(aj pts).length<=pts.length:=i9 (aY pts) (aO pts)
theorem kZ(pts):aj (aj pts)=aj pts:=by
 by_cases m:2<=(ST.srt pts).length
 .have j:=cP pts;obtain⟨h,d,B,F,b,f,i,o,D,w,E,C⟩:=zr j m;have g:=fh m
  have k:∀p∈ao (ST.srt pts),p∈aj pts:=λp a=>by
   rw[g,b,f,NB,NB];rw[b]at a;rcases Ll.mp a with z |z
   .rw[z];exact LR _ (LA.mpr o)
   .exact Ms _ (LA.mpr z)
  have c:∀p∈ao (ST.srt pts).reverse,p∈aj pts:=λp a=>by
   rw[g,b,f,NB,NB];rw[f]at a;rcases Ll.mp a with z |z
   .rw[z];exact Ms _ (LA.mpr i)
   .exact LR _ (LA.mpr z)
  have n:=cP (aj pts);have sub:∀p∈ST.srt (aj pts),p∈ST.srt pts:=λp a=>(ST.srt_mem p pts).mpr (aO pts p ((ST.srt_mem p _).mp a));have A:=nQ j n sub λp a=>(ST.srt_mem p _).mpr (k p a);have t:=kr j n sub λp a=>(ST.srt_mem p _).mpr (c p a)
  have len:2<=(ST.srt (aj pts)).length:=by
   have r:=(ST.srt_mem _ _).mpr (k h (by rw[b];exact Li _ i));have s:=(ST.srt_mem _ _).mpr (k d (by rw[b];exact Lo))
   have v:h≠d:=λz=>by
    have q:=aY pts;rw[g,b,f,NB,NB,Qq]at q;exact q.2.2 h (LA.mpr i) d (LA.mpr o) z
   have:=i9 (l:=[h,d]) (by simp[v]) (λx u=>by
    rcases Ll.mp u with z |z
    .rw[z];exact r
    .rw[Lz.mp z];exact s)
   exact this
  rw[fh len,A,t,<-g]
 .have e:aj pts=ST.srt pts:=by
   unfold aj;split
   .rfl
   .have e:ST.srt pts=[]:=Np.mp (by lia);rw[e];rfl
  rw[e];have y:=ST.asc_srt (ST.srt_asc pts);unfold aj;rw[y];split
  .rfl
  .have e:ST.srt pts=[]:=Np.mp (by lia);rw[e];rfl
def zU:List U->Out->Prop:=λa o=>∃P Q R:P2,a=[pu P,pu Q,pu R]/\Szp 5000 P/\Szp 5000 Q/\Szp 5000 R/\o=.val (.int (sgn (aq P Q R)))
theorem yR:OkD P w base T.abA 2 (zU):=by
 refine okD Ft (by walk_at"ln") ?_;rintro _ _ _ a ⟨P,Q,R,rfl,⟨g,b⟩,⟨f,c⟩,⟨e,d⟩,rfl⟩;refine ae (aF (aR (yF T) a (af (bg (aZ (bg (aD (aa 1 rfl) ag rfl rfl) (aD (aa 0 rfl) ag rfl rfl)) (bg (aD (aa 2 rfl) ag rfl rfl) (aD (aa 0 rfl) ag rfl rfl)) (by walk_at"mul")) (aZ (bg (aD (aa 1 rfl) ag rfl rfl) (aD (aa 0 rfl) ag rfl rfl)) (bg (aD (aa 2 rfl) ag rfl rfl) (aD (aa 0 rfl) ag rfl rfl)) (by walk_at"mul"))) am aQ) ⟨_,rfl,rfl⟩) ?_);exact rfl
def oW:List U->Out->Prop:=λb o=>∃a:List P2,b=[lp a]/\(∀p∈a,Szp 5000 p)/\a.length<=900/\o=.new ((ao a).reverse.map pu)
theorem jr:OkD P w base T.aaJ 3 (oW):=by
 refine okD fG (by walk_at"ln") ?_;rintro _ _ _ hr ⟨row,rfl,sz,hl,rfl⟩;refine ae (oy (i:=1) fG.nd rfl (Or.inl rfl) (dz bC) ?_);refine ae (gJ (λst:List P2=>[some (.val (lp row)),some (.own (st.reverse.map pu)),none]) (λi st=>st=ao (row.take i)) rfl PassesOwn.never (bV (aa 0 rfl) (.inl rfl)) ?h0 ?hs ?hd)
 case h0=>exact⟨[],rfl,rfl,rfl,trivial⟩
 case hs=>
  rintro H0 i x _ hx rfl;obtain⟨P,hP,mP,rfl⟩:=pY hx;have hi:=aL hP;have sP:=sz P mP;refine⟨_,(gB (i:=2) fG.nd rfl (Or.inl rfl)),?_⟩;have len0:=iY row i;refine n_ (λps=>SubP [some (.val (lp row)),some (.own ((bh P (ao (row.take i))).reverse.map pu)),some (.val (pu P))] ps) (fX (λs2:List P2=>[some (.val (lp row)),some (.own (s2.reverse.map pu)),some (.val (pu P))]) (λm s2=>m=s2.length/\bh P s2=bh P (ao (row.take i))/\(∀p∈s2,p∈row)/\s2.length<=i) PassesOwn.never ?h0 ?hs) ?hj
  case h0=>exact⟨_,_,⟨rfl,rfl,λq hq=>fW row i q hq,len0⟩,rfl,rfl,rfl,trivial⟩
  case hs=>
   rintro m s2 ⟨rfl,e2,sub,len2⟩
   match s2,e2,sub,len2 with
   |[],e2,sub,len2=>
    refine⟨false,?_,λh=>(nomatch h),λh ps Yj=>e2 ▸ Yj⟩;exact (Tw.t (o9 (au fP (iA 1 rfl rfl T.aab) ag) rfl))
   |[b],e2,sub,len2=>
    refine⟨false,?_,λh=>(nomatch h),λh ps Yj=>e2 ▸ Yj⟩;exact (Tw.t (o9 (au fP (iA 1 rfl rfl T.aab) ag) rfl))
   |b::a::r,e2,sub,len2=>
    have sa:=sz a (sub a (by simp));have sb:=sz b (sub b (by simp));have e1:decide (1<((((b::a::r).reverse.map pu).length:Nat):Int))=true:=decide_eq_true (by simp;lia);refine⟨decide (1<((((b::a::r).reverse.map pu).length:Nat):Int)) && decide (sgn (aq a b P)<1),?_,λh=>?_,λh ps Yj=>?_⟩
    .exact (Tw.t (kg (au fP (iA 1 rfl rfl T.aab) ag) (λhz=>(iy (au dG (aR (yR T) hr (af (yP 1 rfl (dl ag) (GF b a r)) (af (yP 1 rfl (dl ag) (GE b (a::r))) (af (aa 2 rfl) am ah) aN) aN) ⟨a,b,P,rfl,sa,sb,sP,rfl⟩) ag)))))
    .rw[e1,PZ,AW]at h;have hd:=dTb h;refine ae (Ga 1 rfl (by simp) (ay ?_))
     refine⟨_,a::r,?_,⟨rfl,?_,λq hq=>sub q (Li _ hq),?_⟩,rfl,?_,rfl,trivial⟩
     .simp
     .rw[←e2];conv=>rhs;unfold bh
      rw[if_pos hd]
     .simp only[LF]at *;lia
     .exact congrArg (λl=>some (Sl.own l)) (by simp)
    .rw[e1,PZ,AW]at h;have hd:=dFb h
     have e3:bh P (b::a::r)=b::a::r:=by conv=>lhs;unfold bh
                                        rw[if_neg hd]
     rw[<-e2,e3];exact Yj
  case hj=>
   intro ps Yj;refine dY ?_ Yj;have e4:=gP hP;have len3:=mO P (ao (row.take i));refine ae (e9 1 rfl (aa 2 rfl) (by rw[Lg,Mw];exact aB (by lia)) (ay ?_));refine⟨_,rfl,rfl,?_,trivial⟩;exact congrArg (λl=>some (Sl.own l)) (by rw[e4];simp)
 case hd=>
  rintro st ps YH Yj;refine dY ?_ Yj;refine ae (pf 1 rfl ?_);rw[YH];simp
theorem Bd(h:∀p∈pts,Szp m p):∀p∈ST.srt pts,Szp m p:=λp a=>h p ((ST.srt_mem p pts).mp a)
theorem kH(row):(ao row).length<=row.length:=by
 have:=iY row row.length
 rwa [P8]at this
def vO:List U->Out->Prop:=λa o=>∃pts:List P2,a=[lp pts]/\(∀p∈pts,Szp 5000 p)/\pts.length<64/\pts≠[]/\o=.new ((aj pts).map pu)
theorem ka:OkD P w base T.aaq 4 (vO):=by
 refine okD ir (by walk_at"ln") ?_;rintro _ _ _ c ⟨pts,rfl,sz,d,j,rfl⟩;have g:((pts.map pu).length:Int)=(pts.length:Int):=by rw[Lg]
 have f:=LQ.mpr j;refine ae (aE (au f6 (aw (bR rfl) rfl T.aab LL (af (aa 0 rfl) am ah)) ag) (by rw[g];exact decide_eq_false (by lia)) (ay ?_));have l:=ST.srt_len pts;have a:(((ST.srt pts).map pu).length:Int)=((ST.srt pts).length:Int):=by rw[Lg]
 have b:=Bd sz;by_cases e:(ST.srt pts).length=1
 .refine ae (oy (i:=1) ir.nd rfl (Or.inl rfl) (gl rfl (jP c) rfl T.aar rfl T.abm (aa 0 rfl) (Dt d) ah) ?_);refine ae (cD (au f6 (iA 1 rfl rfl T.aab) ag) (by rw[a];exact decide_eq_true (by lia)) ?_);refine ae (pf 1 rfl ?_);unfold aj;rw[if_pos e]
 .refine ae (ax 1 ir.nd (EvN.ev (gl rfl (jP c) rfl T.aar rfl T.abm (aa 0 rfl) (Dt d) ah)) ?_);refine ae (aE (au f6 (aw (bR rfl) rfl T.aab LL (af (aa 1 rfl) am ah)) ag) (by rw[a];exact decide_eq_false (by lia)) (ay ?_));have m:=kH (ST.srt pts);have h:=kH (ST.srt pts).reverse;rw[Mw]at h;refine ae (ax 2 ir.nd (EvN.ev (df (jr T) c (af (aa 1 rfl) am ah) ⟨ST.srt pts,rfl,b,by lia,rfl⟩)) ?_)
  refine ae (ax 3 ir.nd (EvN.ev (df (jr T) c (af (EvN.ev (JH (aa 1 rfl) (dl ag) (.inl rfl))) am aN) ⟨(ST.srt pts).reverse,by rw[lp,N2],λp k=>b p (LA.mp k),by rw[Mw];lia,rfl⟩)) ?_);refine ae (cX (lV (EvN.ev (dj (aa 2 rfl) dy (du (dl ag)) (.inl rfl))) (EvN.ev (dj (aa 3 rfl) dy (du (dl ag)) (.inl rfl))) (by rw[iU,iU,Lg,Lg,M4,M4,Mw,Mw];exact Lu (aB (by lia)))) ?_);unfold aj;rw[if_neg e,iU,iU,<-Md]
def ap(a b c d e f:Int)(p:P2):P2:=(a*p.1+b*p.2+e,c*p.1+d*p.2+f)
theorem GH(l:Sz 500 a)(k:Sz 500 b)(r:Sz 500 c)(q:Sz 500 d)(o:Sz 500 e)(j:Sz 500 f)(u:m<=3000)(s:Szp m p):Szp (m+510) (ap a b c d e f p):=by
 have g:∀{x y z:Int},Sz 500 x->Sz 500 y->Sz 500 z->Sz (m+510) (x*p.1+y*p.2+z):=λi h sz=>by
  have t:=L2.Sz.add' (L2.Sz.mul i s.1) (L2.Sz.mul h s.2);have n:=L2.Sz.add' t sz;exact n.mono (by lia)
 exact⟨g l k o,g r q j⟩
def Em:List U->Out->Prop:=λg o=>∃(pts:List P2) (a b c d e f:Int),g=[lp pts,mv a b c d e f]/\Mv a b c d e f/\(∀p∈pts,Szp 3000 p)/\(∀p∈pts,Szp 5000 (ap a b c d e f p))/\pts≠[]/\pts.length<64/\o=.new ((aj (pts.map (ap a b c d e f))).map pu)
theorem oO:OkD P w base T.aaz 5 (Em):=by
 refine okD iH (by walk_at"ln") ?_;rintro _ _ _ h ⟨pts,a,b,c,d,e,f,rfl,M,sz,n,l,m,rfl⟩;refine ae (cX (df (ka T) h (af (EvN.ev (bO (ys:=(pts.map λp=>pu (ap a b c d e f p))) rfl (blk (ai fK) ["land","move","P"] [2] rfl rfl rfl rfl (by decide+kernel)) (EvI.z (bV (aa 0 rfl) (.inl rfl))) (λ_ _ _ _=>aM (i:=2) iH.nd rfl (Or.inl rfl)) (bL (by decide)) ?clen ?csz (λ_ _=>trivial) ?celt)) am dg) ⟨pts.map (ap a b c d e f),by rw[lp,L4];rfl,λp k=>by obtain⟨q,o,rfl⟩:=Ln.mp k;exact n q o,by rw[Lg];exact m,by simpa using l,rfl⟩) ?_)
 case clen=>simp
 case csz=>rw[Lg];exact Lu (aB (by lia))
 case celt=>
  intro C s u t j x y r hy;obtain⟨p,k,g,rfl,rfl⟩:=b7 r hy;exact (aR (DM T) h (af (aa 2 rfl) (af (aa 1 rfl) am ah) ah) ⟨p.1,p.2,a,b,c,d,e,f,rfl,M,(sz p g).1.mono (by decide),(sz p g).2.mono (by decide),rfl⟩)
 exact rfl
theorem e_(h:ST.srt l=ST.srt m):aj l=aj m:=by unfold aj;rw[h]
theorem fQ(h:∀z,z∈l↔z∈m):ST.srt l=ST.srt m:=ST.asc_one (ST.srt_asc l) (ST.srt_asc m) λz=>by rw[ST.srt_mem,ST.srt_mem];exact h z
theorem c_(h:¬ 2<=(ST.srt pts).length):aj pts=ST.srt pts:=by
 unfold aj;split
 .rfl
 .have e:ST.srt pts=[]:=Np.mp (by lia);rw[e];rfl
section
variable {f:Pt→Pt}
theorem D3(d:∀a b,plt a b->plt (f a) (f b))(l):ST.srt (l.map f)=(ST.srt l).map f:=by
 refine ST.asc_one (ST.srt_asc _) (j9.mpr (MF.mpr ((cP l).imp λ{a b} h=>d a b h))) λz=>?_;rw[ST.srt_mem,Ln,Ln];exact⟨λ⟨x,c,e⟩=>⟨x,(ST.srt_mem x l).mpr c,e⟩,λ⟨x,c,e⟩=>⟨x,(ST.srt_mem x l).mp c,e⟩⟩
theorem xN(d:∀a b c,aq (f a) (f b) (f c)<=0↔aq a b c<=0)(P):∀e,bh (f P) (e.map f)=(bh P e).map f
 |[]=>rfl
 |[_]=>rfl
 |b::a::r=>by
  show bh (f P) (f b::f a::r.map f)=_;unfold bh;by_cases h:aq a b P<=0
  .rw[if_pos h,if_pos ((d a b P).mpr h)];exact xN d P (a::r)
  .rw[if_neg h,if_neg λz=>h ((d a b P).mp z)];rfl
theorem p7(h:∀a b c,aq (f a) (f b) (f c)<=0↔aq a b c<=0)(row):ao (row.map f)=(ao row).map f:=by
 have e:∀(l:List Pt) d,(l.map f).foldl (λd P=>P::bh P d) (d.map f)=(l.foldl (λd P=>P::bh P d) d).map f:=by
  intro l
  induction l with
  |nil=>intro d;rfl
  |cons p r g=>
   intro d;rw[LK,Nd,Nd,xN h];exact g (p::bh p d)
 exact e row []
theorem kM(e:∀a b,plt a b->plt (f a) (f b))(d:∀a b c,aq (f a) (f b) (f c)<=0↔aq a b c<=0)(l):aj (l.map f)=(aj l).map f:=by
 unfold aj;rw[D3 e,Lg,<-N2,p7 d,p7 d];split
 .rfl
 .rw[Md,SV,SV,N2,N2]
end
def scl(k:Int)(p:Pt):Pt:=(k*p.1,k*p.2)
theorem ro(c:0<k)(a b)(h:plt a b):plt (scl k a) (scl k b):=by
 unfold plt scl at *;rcases h with h |⟨e,d⟩
 .exact .inl (OZ h c)
 .exact .inr ⟨by rw[e],OZ d c⟩
theorem r8(d:0<k)(a b c):aq (scl k a) (scl k b) (scl k c)<=0↔aq a b c<=0:=by
 have e:aq (scl k a) (scl k b) (scl k c)=(k*k) *aq a b c:=by unfold aq scl;grind
 have f:=M6 d d;rw[e];constructor
 .intro h;refine Ng λz=>?_;have:=M6 f (show 0<aq a b c by lia);lia
 .intro h;have:=Lv (show 0<=k*k by lia) (show 0<=- aq a b c by lia);rw[UY]at this;lia
theorem yI(p):scl 1 p=p:=by unfold scl;simp
def iD:List Int->Int
 |[]=>0
 |a::l=>l.foldl min a
theorem jv:∀l (a:Int),l.foldl min a∈a::l
 |[],a=>by simp
 |b::l,a=>by
  have:=jv l (min a b);rw[Nd];rcases Ll.mp this with e |e
  .rw[e];rcases PU a b with h |h
   .rw[PL h];simp
   .rw[QH h];simp
  .exact Li _ (Li _ e)
theorem jU:∀l (a:Int),∀x∈a::l,l.foldl min a<=x
 |[],a,x,h=>by simp at h;rw[h];exact OR _
 |b::l,a,x,h=>by
  have ih:=jU l (min a b);rw[Nd];have c:=ih (min a b) Lo;rcases Ll.mp h with rfl |h
  .lia
  .rcases Ll.mp h with rfl |h
   .lia
   .exact ih x (Li _ h)
theorem cy(h:l≠[]):iD l∈l/\∀a∈l,iD l<=a:=by
 cases l with
 |nil=>exact absurd rfl h
 |cons a l=>exact⟨jv l a,jU l a⟩
abbrev gp(l:List P2)(i:Nat):P2:=l.getD i (0,0)
def nxt(l:List P2)(i:Nat):P2:=gp l ((i+1)%l.length)
def sdl(l:List P2):List (P2×P2):=(MK l.length).map λi=>(gp l i,nxt l i)
abbrev pq(s:P2×P2):U:=.tup [pu s.1,pu s.2]
theorem dr(h:i<l.length):l[i]?=some (gp l i):=by simp[gp,h]
theorem dq(h:i<l.length):gp l i∈l:=LW (dr h)
theorem Da(l):fL l (some 1) none=l.drop 1:=by
 unfold fL HT.sIx;cases l with
 |nil=>simp
 |cons a l=>simp
theorem Gb(l):fL l none (some 1)=l.take 1:=by
 unfold fL HT.sIx;cases l with
 |nil=>simp
 |cons a l=>simp
theorem BV(l):Ru (λa b=>U.tup [a,b]) (l.map pu) (fL (l.map pu) (some 1) none++fL (l.map pu) none (some 1))=(sdl l).map pq:=by
 rw[Da,Gb];apply Qr;intro i;unfold sdl;by_cases d:i<l.length
 .have g:(l.map pu)[i]?=some (pu (gp l i)):=by rw[Lq,dr d];rfl
  have f:((l.map pu).drop 1++(l.map pu).take 1)[i]?=some (pu (nxt l i)):=by
   unfold nxt;by_cases c:i+1<l.length
   .rw[LO (by simp;lia),O_,Ua,LZ c,Lq,dr c];rfl
   .have e:i+1=l.length:=by lia
    rw[LS (by simp;lia),e,Pj];rw[show i-((l.map pu).drop 1).length=0 by simp;lia,NK (by lia),Lq,dr (by lia)];rfl
  rw[RH.mpr ⟨_,_,g,f,rfl⟩,L4,Lq,N8 d];rfl
 .rw[MD (by simp;lia),MD (by simp;lia)]
theorem gM(l):(sdl l).length=l.length:=by simp[sdl]
theorem aX(h:s∈sdl l):s.1∈l/\s.2∈l:=by
 obtain⟨i,a,rfl⟩:=Ln.mp h;have b:=Mc.mp a;exact⟨dq b,dq (M5 _ (by lia))⟩
def vL:List U->Out->Prop:=λa o=>∃l:List P2,a=[lp l]/\l.length<=900/\o=.new ((sdl l).map pq)
theorem jZ:OkD P w base T.abr 1 (vL):=by
 refine okD Bu (by walk_at"ln") ?_;rintro _ _ _ c ⟨l,rfl,b,rfl⟩;have a:(fL (l.map pu) (some 1) none++fL (l.map pu) none (some 1)).length=l.length:=by rw[Da,Gb];simp;lia
 refine ae (cX (Aa rfl rfl T.abo rfl T.abw (aa 0 rfl) (.inl rfl) (EvN.ev (lV (EvN.ev (dj (aa 0 rfl) (du ag) dy (.inl rfl))) (EvN.ev (dj (aa 0 rfl) dy (du ag) (.inl rfl))) (by rw[<-LG,a];exact Lu (aB (by lia))))) (.inl rfl) ah aQ) ?_);rw[BV]
theorem IP(h:0<l.length):atI (l.map pu) 0=some (pu (gp l 0)):=bP rfl (by rw[Lq,dr h];rfl)
theorem E4(h:0<l.length):atI (l.map pu) (-1)=some (pu (gp l (l.length-1))):=by
 have e:ixN (l.map pu).length (-1)=some (l.length-1):=by
  unfold ixN;simp;lia
 unfold atI;rw[e];show (l.map pu)[l.length-1]?=_;rw[Lq,dr (by lia)];rfl
def gst(s:P2×P2):Int:=((PJ (s.2.1-s.1.1) (s.2.2-s.1.2):Nat):Int)
def crs(s:P2×P2):Int:=s.1.1*s.2.2-s.1.2*s.2.1
def area(l:List P2):Int:=((sdl l).map crs).sum
def dB(l:List P2):Int:=((sdl l).map gst).sum
def pin(l:List P2):Int:=if l.length<3 then 0 else (area l-dB l+2)/2
theorem jS(h:s.1≠s.2):0<gst s:=by
 unfold gst
 have:PJ (s.2.1-s.1.1) (s.2.2-s.1.2)≠0:=λe=>by
  have:=Int.gcd_eq_zero_iff.mp e;exact h (MS (by lia) (by lia))
 lia
def ev(p:P2):Int:=if p.1%2=0/\p.2%2=0 then 1 else 0
theorem qX(l):(sdl l).map (·.1)=l:=by
 apply Qr;intro i;unfold sdl;rw[L4];by_cases a:i<l.length
 .rw[Lq,N8 a,dr a];rfl
 .rw[MD (by simp;lia),MD (by lia)]
theorem xR(l):(sdl l).map (·.2)=l.drop 1++l.take 1:=by
 apply Qr;intro i;unfold sdl;rw[L4];by_cases b:i<l.length
 .rw[Lq,N8 b];show some (nxt l i)=_;unfold nxt;by_cases a:i+1<l.length
  .rw[LO (by simp;lia),O_,show 1+i=i+1 by lia,LZ a,dr a]
  .have e:i+1=l.length:=by lia
   rw[LS (by simp;lia),e,Pj];rw[show i-(l.drop 1).length=0 by simp;lia,NK (by lia),dr (by lia)]
 .rw[MD (by simp;lia),MD (by simp;lia)]
theorem Dp(d:l.Nodup)(j:2<=l.length):∀s∈sdl l,s.1≠s.2:=λs h e=>by
 obtain⟨i,f,rfl⟩:=Ln.mp h;have a:=Mc.mp f;have b:(i+1)%l.length<l.length:=M5 _ (by lia);have c:gp l i=gp l ((i+1)%l.length):=e;have:l[i]?=l[(i+1)%l.length]?:=by rw[dr a,dr b,c]
 have:=(PM a d).mp this;by_cases g:i+1<l.length
 .rw[LZ g]at this;lia
 .have e:i+1=l.length:=by lia
  rw[e,Pj]at this;lia
theorem bw{l:List P2}(h:m<=n)(k:∀p∈l,Szp m p):∀p∈l,Szp n p:=λp a=>⟨(k p a).1.mono h,(k p a).2.mono h⟩
def Az:List U->Out->Prop:=λa o=>∃l:List P2,a=[lp l]/\l.length<=900/\(∀p∈l,Szp 2500 p)/\o=.val (.int (area l))
theorem cB:OkD P w base T.aay 2 (Az):=by
 refine okD eY (by walk_at"ln") ?_;rintro _ _ _ d ⟨l,rfl,f,sz,rfl⟩;refine ae (aF (aw (vI rfl ) rfl T.abu boot_sum (af (EvN.ev (bO (ys:=(((sdl l).map crs).map U.int)) rfl (blk (ai fF) ["land","A","B"] [1,2] rfl rfl rfl rfl (by decide+kernel)) (EvI.z (bV (EvN.ev (df (jZ T) d (af (aa 0 rfl) am ah) ⟨l,rfl,f,rfl⟩)) (.inl rfl))) (λ_ _ _ _=>jI rfl (bJ (aM (i:=1) eY.nd rfl (Or.inl rfl)) (bJ (aM (i:=2) eY.nd rfl (Or.inl rfl)) ft))) (gw (js:=[1,2]) (by decide)) ?clen ?csz ?dom ?celt)) am dg)) ?_)
 case clen=>simp
 case csz=>simp only[gM,Lg];exact Lu (aB (by lia))
 case dom=>
  intro x a;obtain⟨s,_,rfl⟩:=Ln.mp a;exact⟨_,rfl,rfl⟩
 case celt=>
  intro C k n q j x y a hy;rw[L4]at hy;obtain⟨s,h,e,rfl,rfl⟩:=b7 a hy;obtain⟨b,c⟩:=aX e;have m:=(sz _ b).1;have p:=(sz _ b).2;have g:=(sz _ c).1;have o:=(sz _ c).2;exact (bg (aZ (aD (aa 1 rfl) ag rfl rfl) (aD (aa 2 rfl) ag rfl rfl) (by walk_at"mul")) (aZ (aD (aa 1 rfl) ag rfl rfl) (aD (aa 2 rfl) ag rfl rfl) (by walk_at"mul")))
 exact rfl
theorem tH:∀{c},jj done c->∀k {a b},c[k]?=some b->c[k+1]?=some a->∀q∈done,0<=aq a b q
 |[],_,k,_,_,h,_=>by simp at h
 |[_],_,k,_,_,_,h=>by simp at h
 |x::y::r,C,0,a,b,h1,h2=>by
  simp at h1 h2;subst h1;subst h2;exact C.1
 |x::y::r,C,k+1,a,b,h1,h2=>tH C.2 k (by simpa using h1) (by simpa using h2)
theorem uQ:∀{d},lU d->∀k {a b c},d[k]?=some c->d[k+1]?=some b->d[k+2]?=some a->0<aq a b c
 |[],_,k,_,_,_,h,_,_=>by simp at h
 |[_],_,k,_,_,_,_,h,_=>by simp at h
 |[_,_],_,k,_,_,_,_,_,h=>by simp at h
 |x::y::z::r,C,0,a,b,c,h1,h2,h3=>by
  simp at h1 h2 h3;subst h1;subst h2;subst h3;exact C.1
 |x::y::z::r,C,k+1,a,b,c,h1,h2,h3=>uQ C.2 k (by simpa using h1) (by simpa using h2) (by simpa using h3)
theorem DB{st:List Pt}(d:st.reverse[i]?=some a)(c:st.reverse[i+1]?=some b):∃k,st[k]?=some b/\st[k+1]?=some a:=by
 have l2:i+1<st.length:=by have:=(Ls.mp c).1;simpa using this
 rw[Nj (by lia)]at d
 rw[Nj l2]at c;exact⟨st.length-1-(i+1),c,by rw[<-d];congr 1;lia⟩
theorem Ad{st:List Pt}(f:st.reverse[i]?=some a)(e:st.reverse[i+1]?=some b)(d:st.reverse[i+2]?=some c):∃k,st[k]?=some c/\st[k+1]?=some b/\st[k+2]?=some a:=by
 have g:i+2<st.length:=by have:=(Ls.mp d).1;simpa using this
 rw[Nj (by lia)]at f
 rw[Nj (by lia)]at e
 rw[Nj g]at d;exact⟨st.length-1-(i+2),d,by rw[<-e];congr 1;lia,by rw[<-f];congr 1;lia⟩
theorem iQ(hs:row.Pairwise plt)(h:row≠[])(f:(ao row).reverse[i]?=some a)(e:(ao row).reverse[i+1]?=some b):∀q∈row,0<=aq a b q:=by
 obtain⟨k,d,c⟩:=DB f e;exact tH (cw hs h).1.cover k d c
theorem jN(hs:row.Pairwise plt)(h:row≠[])(l:(ao row).reverse[i]?=some a)(j:(ao row).reverse[i+1]?=some b)(e:(ao row).reverse[i+2]?=some c):0<aq a b c:=by
 obtain⟨k,g,f,d⟩:=Ad l j e;exact uQ (cw hs h).1.turns k g f d
theorem gH{b:List Pt}{i:Nat}(c:(ao b.reverse).reverse[i]?=some a):(ao (b.reverse.map ng)).reverse[i]?=some (ng a):=by
 rw[cp,<-N2,Lq]at c;cases e:(ao (b.reverse.map ng)).reverse[i]? with
 |none=>rw[e]at c;cases c
 |some z=>rw[e]at c;cases c;rw[jz]
theorem nI{row:List Pt}(hs:row.Pairwise plt)(h:row≠[]){i:Nat}{a b:Pt}(e:(ao row.reverse).reverse[i]?=some a)(d:(ao row.reverse).reverse[i+1]?=some b):∀q∈row,0<=aq a b q:=λq c=>by
 have:=iQ (dh hs) (by simpa using h) (gH e) (gH d) (ng q) (L9 (LA.mpr c))
 rwa [n6]at this
theorem qj(hs:row.Pairwise plt)(h:row≠[])(f:(ao row.reverse).reverse[i]?=some a)(e:(ao row.reverse).reverse[i+1]?=some b)(d:(ao row.reverse).reverse[i+2]?=some c):0<aq a b c:=by
 have:=jN (dh hs) (by simpa using h) (gH f) (gH e) (gH d)
 rwa [n6]at this
theorem BO(c:fR u1 u2)(a:fR v1 v2)(i:u1*v2-u2*v1=0)(h:u1*w2-u2*w1<=0)(g:0<=v1*w2-v2*w1):u1*w2-u2*w1=0/\v1*w2-v2*w1=0:=by
 have m:v1*(u1*w2-u2*w1)=u1*(v1*w2-v2*w1):=by grind
 have k:v2*(u1*w2-u2*w1)=u2*(v1*w2-v2*w1):=by grind
 have f:∀{s t A B:Int},0<s->0<t->s*A=t*B->A<=0->0<=B->A=0/\B=0:=λ{s t A B} o q e ha hb=>by
  have n:s*A<=0:=Int.mul_nonpos_of_nonneg_of_nonpos (by lia) ha;have p:0<=t*B:=Lv (by lia) hb;have j:s*A=0:=by lia
  have l:t*B=0:=by lia
  refine⟨(Mo.mp j).resolve_left (by lia),(Mo.mp l).resolve_left (by lia)⟩
 rcases c with c |⟨c,d⟩
 .rcases a with a |⟨a,b⟩
  .exact f a c m h g
  .rw[a]at i;have:=M6 c b;lia
 .rcases a with a |⟨a,b⟩
  .rw[c]at i;have:=M6 d a;lia
  .exact f b d k h g
theorem Ae(b:plt a m)(e:plt c m)(h:aq a m c=0)(f:0<=aq a m q)(d:0<=aq m c q):aq a m q=0/\aq m c q=0:=by
 have k:=BO (w1:=m.1-q.1) (w2:=m.2-q.2) (bI b) (bI e) (by unfold aq at h;grind) (by unfold aq at f;grind) (by unfold aq at d;grind);unfold aq;exact⟨by grind,by grind⟩
theorem E5(a b c):aq a b c=aq b c a:=by unfold aq;grind
theorem IR(hs:row.Pairwise plt)(g:row≠[])(o:(ao row).reverse[i]?=some a)(n:(ao row).reverse[i+1]?=some m)(x:(ao row).length=i+2)
  (h3:(ao row.reverse).reverse[0]?=some m) (h4:(ao row.reverse).reverse[1]?=some c) (ha:plt a m) (hc:plt c m) (big:2<(ao row).length\/2<(ao row.reverse).length):0<aq a m c:=by
 have k:∀{j}{p},(ao row).reverse[j]?=some p->p∈row:=λh=>ce row _ (LA.mp (LW h));have d:∀{j}{p},(ao row.reverse).reverse[j]?=some p->p∈row:=λh=>LA.mp (ce _ _ (LA.mp (LW h)));have s:=iQ hs g o n;have u:=nI hs g h3 h4;have v:=s c (d h4);rcases L_ v with z |z
 .exact z
 .exfalso
  have f:∀q∈row,aq a m q=0/\aq m c q=0:=λq r=>Ae ha hc z.symm (s q r) (u q r);rcases big with b |b
  .have w:0<i:=by lia
   have l:i-1<(ao row).reverse.length:=by simp;lia
   have e:=Ld l;have t:=jN hs g e (by rw[Pg w];exact o) (by rw[show i-1+2=i+1 by lia];exact n);rw[E5,(f _ (k e)).1]at t;lia
  .have l:2<(ao row.reverse).reverse.length:=by simpa using b
   have e:=Ld l;have t:=qj hs g h3 h4 e;rw[(f _ (d e)).2]at t;lia
structure G7(row T B:List Pt)(mn mx:Pt):Prop where
 t0:T[0]?=some mn
 t1:T[T.length-1]?=some mx
 b0:B[0]?=some mx
 b1:B[B.length-1]?=some mn
 lt:2<=T.length
 lb:2<=B.length
 least:∀p∈row,p=mn\/plt mn p
 most:∀p∈row,p=mx\/plt p mx
theorem Gk{l:List Pt}:l.reverse[0]?=l.getLast?:=by rw[List.getLast?_eq_head?_reverse,Qb]
theorem Gp{l:List Pt}:l.reverse[l.reverse.length-1]?=l.head?:=by rw[<-NA,Rz]
theorem ways(hs:row.Pairwise plt)(f:2<=row.length):∃c b,G7 row (ao row).reverse (ao row.reverse).reverse c b:=by
 have j:row≠[]:=λz=>by rw[z]at f;simp at f
 obtain⟨c,b,s,t,m,i,n,p,least,a,_,_⟩:=zr hs f;obtain⟨K,o,e⟩:=cw hs j;obtain⟨r,g,d⟩:=cw (dh hs) (by simpa using j);have l1:2<=(ao row).length:=by rw[m];have:=Nu n;simp;lia
 have l2:2<=(ao row.reverse).length:=by rw[i];have:=Nu p;simp;lia
 have l:row.head?=some row[0]:=by rw[Qb];exact Ld (by lia)
 have h:row.getLast?=some row[row.length-1]:=by rw[NA];exact Ld (by lia)
 have q:row[0]=c:=by
  have hb:=d;rw[Rf,Rz,l]at hb;have:(ao row.reverse).head?=some row[0]:=by rw[cp,SB,hb];simp[jz]
  rw[i]at this;exact (Ma this).symm
 have k:row[row.length-1]=b:=by
  rw[h,m]at e;exact (Ma e).symm
 refine⟨c,b,?_,?_,?_,?_,by simpa using l1,by simpa using l2,least,a⟩
 .rw[Gk,o,l,q]
 .rw[Gp,e,h,k]
 .rw[Gk,cp,Rf,g,SB,Vj,h,k];simp[jz]
 .rw[Gp,i];rfl
section
variable {row T B:List Pt}{mn mx:Pt}
theorem kj(W:G7 row T B mn mx)(c:k<=T.length-1):(T.dropLast++B.dropLast)[k%(T.dropLast++B.dropLast).length]?=T[k]?:=by
 have b:=W.lb;have a:(T.dropLast++B.dropLast).length=T.length-1+(B.length-1):=by simp
 rw[a,LZ (by lia)];by_cases h:k<T.length-1
 .rw[LO (by simpa using h),OS,if_pos h]
 .obtain rfl:k=T.length-1:=by lia
  rw[LS (by simp),M4,Xk,OS,if_pos (by lia),W.b0,W.t1]
theorem E_(W:G7 row T B mn mx)(b:T.length-1<=k)(c:k<=T.length-1+(B.length-1)):(T.dropLast++B.dropLast)[k%(T.dropLast++B.dropLast).length]?=B[k-(T.length-1)]?:=by
 have a:(T.dropLast++B.dropLast).length=T.length-1+(B.length-1):=by simp
 by_cases h:k<T.length-1+(B.length-1)
 .rw[a,LZ h,LS (by simpa using b),M4,OS,if_pos (by lia)]
 .obtain rfl:k=T.length-1+(B.length-1):=by lia
  have:=kj W (k:=0) (by lia);rw[Ss]at this;rw[a,Pj,this,W.t0,show T.length-1+(B.length-1)-(T.length-1)=B.length-1 by lia,W.b1]
end
theorem some_of{l:List Pt}(h:i<l.length):∃a,l[i]?=some a:=⟨_,Ld h⟩
theorem dE(h2:2<=(ST.srt pts).length)(I:i<(aj pts).length):∃a b,(aj pts)[i]?=some a/\(aj pts)[(i+1)%(aj pts).length]?=some b/\(∀p∈pts,0<=aq a b p)/\(2<(aj pts).length->∃c,(aj pts)[(i+2)%(aj pts).length]?=some c/\0<aq a b c):=by
 have r:=cP pts;have F:ST.srt pts≠[]:=λz=>by rw[z]at h2;simp at h2
 obtain⟨mn,mx,W⟩:=ways r h2;have w:∀p∈pts,p∈ST.srt pts:=λp J=>(ST.srt_mem p pts).mpr J
 have hc:aj pts=(ao (ST.srt pts)).reverse.dropLast++(ao (ST.srt pts).reverse).reverse.dropLast:=by
  unfold aj;rw[if_neg (by omega)]
 have tc:∀{j:Nat}{a b:Pt},(ao (ST.srt pts)).reverse[j]?=some a->(ao (ST.srt pts)).reverse[j+1]?=some b->∀q∈ST.srt pts,0<=aq a b q:=λh y=>iQ r F h y;have tt:∀{j:Nat}{a b c:Pt},(ao (ST.srt pts)).reverse[j]?=some a->(ao (ST.srt pts)).reverse[j+1]?=some b->(ao (ST.srt pts)).reverse[j+2]?=some c->0<aq a b c:=λh y A=>jN r F h y A;have bc:∀{j:Nat}{a b:Pt},(ao (ST.srt pts).reverse).reverse[j]?=some a->(ao (ST.srt pts).reverse).reverse[j+1]?=some b->∀q∈ST.srt pts,0<=aq a b q:=λh y=>nI r F h y;have bt:∀{j:Nat}{a b c:Pt},(ao (ST.srt pts).reverse).reverse[j]?=some a->(ao (ST.srt pts).reverse).reverse[j+1]?=some b->(ao (ST.srt pts).reverse).reverse[j+2]?=some c->0<aq a b c:=λh y A=>qj r F h y A;have v:∀{j:Nat}{p:Pt},(ao (ST.srt pts)).reverse[j]?=some p->p∈ST.srt pts:=λh=>ce _ _ (LA.mp (LW h));have x:∀{j:Nat}{p:Pt},(ao (ST.srt pts).reverse).reverse[j]?=some p->p∈ST.srt pts:=λh=>LA.mp (ce _ _ (LA.mp (LW h)));have V:(ao (ST.srt pts)).reverse.Nodup:=(eM r).imp λ{a b} h e=>by subst e;exact bD _ ((rM _ _).mpr h)
 have Y:(ao (ST.srt pts).reverse).reverse.Nodup:=by
  rw[cp,<-N2];have Z:(ao ((ST.srt pts).reverse.map ng)).reverse.Nodup:=(eM (dh r)).imp λ{a b} h e=>by subst e;exact bD _ ((rM _ _).mpr h)
  exact PN _ (λa b (h:a≠b) e=>h (by have:=congrArg ng e;rwa [jz,jz]at this)) Z
 have m1:∀{j:Nat}{a m c:Pt},(ao (ST.srt pts)).reverse[j]?=some a->(ao (ST.srt pts)).reverse[j+1]?=some m->(ao (ST.srt pts)).length=j+2->(ao (ST.srt pts).reverse).reverse[0]?=some m->(ao (ST.srt pts).reverse).reverse[1]?=some c->plt a m->plt c m->2<(ao (ST.srt pts)).length\/2<(ao (ST.srt pts).reverse).length->0<aq a m c:=λo D C a4 X a6 U a8=>IR r F o D C a4 X a6 U a8
 have m2:∀{j:Nat}{a m c:Pt},(ao (ST.srt pts).reverse).reverse[j]?=some a->(ao (ST.srt pts).reverse).reverse[j+1]?=some m->(ao (ST.srt pts).reverse).length=j+2->(ao (ST.srt pts)).reverse[0]?=some m->(ao (ST.srt pts)).reverse[1]?=some c->plt m a->plt m c->2<(ao (ST.srt pts)).length\/2<(ao (ST.srt pts).reverse).length->0<aq a m c:=λ{j a m c} o D C a4 X a6 U a8=>by
  have er:((ST.srt pts).reverse.map ng).reverse=(ST.srt pts).map ng:=by rw[<-N2,RS]
  have fw:∀{k:Nat}{p:Pt},(ao (ST.srt pts)).reverse[k]?=some p->(ao ((ST.srt pts).reverse.map ng).reverse).reverse[k]?=some (ng p):=λ{k p} h=>by
   rw[er,im,<-N2,Lq,h];rfl
  have lb:(ao ((ST.srt pts).reverse.map ng)).length=(ao (ST.srt pts).reverse).length:=by rw[cp,Lg]
  have lt:(ao ((ST.srt pts).reverse.map ng).reverse).length=(ao (ST.srt pts)).length:=by rw[er,im,Lg]
  have:=IR (dh r) (by simpa using F) (gH o) (gH D) (by rw[lb];exact C) (fw a4) (fw X) (oK a6) (oK U) (by rw[lb,lt];exact a8.symm)
  rwa [n6]at this
 rw[hc]at I |-;have R:(ao (ST.srt pts)).reverse.length=(ao (ST.srt pts)).length:=Mw;have lB:(ao (ST.srt pts).reverse).reverse.length=(ao (ST.srt pts).reverse).length:=Mw;generalize (ao (ST.srt pts)).reverse=T at *;generalize (ao (ST.srt pts).reverse).reverse=B at *;have S:=W.lt;have h3:=W.lb;obtain⟨t,n⟩:∃t,T.length=t+1:=⟨T.length-1,by omega⟩
 obtain⟨u,s⟩:∃u,B.length=u+1:=⟨B.length-1,by omega⟩
 have t1:0<t:=by rw[n]at S;exact VE (TZ S)
 have u1:0<u:=by rw[s]at h3;exact VE (TZ h3)
 have Q:(T.dropLast++B.dropLast).length=t+u:=by simp[n,s]
 have M:∀{k:Nat},k<=t->(T.dropLast++B.dropLast)[k%(T.dropLast++B.dropLast).length]?=T[k]?:=λh=>kj W (by rw[n];exact h)
 have O:∀{k:Nat},k<=u->(T.dropLast++B.dropLast)[(t+k)%(T.dropLast++B.dropLast).length]?=B[k]?:=λ{k} h=>by
  rw[E_ W (by rw[n];exact L5 t k) (by rw[n,s];exact MZ h t),n];exact congrArg (λz=>B[z]?) (QX ..)
 have N:∀{k:Nat},k<=t->∃a,T[k]?=some a:=λh=>some_of (by rw[n];exact VF h);have P:∀{k:Nat},k<=u->∃a,B[k]?=some a:=λh=>some_of (by rw[s];exact VF h)
 have l:2<(T.dropLast++B.dropLast).length->2<T.length\/2<B.length:=λh=>by
  rw[Q]at h;rw[n,s];clear Q n s S h3 I R lB;omega
 rw[R,lB]at l;have own:(T.dropLast++B.dropLast)[i]?=(T.dropLast++B.dropLast)[i%(T.dropLast++B.dropLast).length]?:=by rw[LZ I]
 rw[own];have wt:=W.t1;have wb:=W.b1;rw[n]at wt;rw[s]at wb;have H:∀{j k:Nat}{p q:Pt},T[j]?=some p->T[k]?=some q->j≠k->p≠q:=λ{j k p q} o D C e=>C ((PM (aL o) V).mp (by rw[o,D,e]))
 have L:∀{j k:Nat}{p q:Pt},B[j]?=some p->B[k]?=some q->j≠k->p≠q:=λ{j k p q} o D C e=>C ((PM (aL o) Y).mp (by rw[o,D,e]));rw[Q]at I;by_cases G:i<t
 .obtain⟨a,f⟩:=N (Lu G);obtain⟨b,g⟩:=N G;refine⟨a,b,(M (Lu G)).trans f,(M G).trans g,λp J=>tc f g p (w p J),λbig=>?_⟩;by_cases E:i+2<=t
  .obtain⟨c,d⟩:=N E;exact⟨c,(M E).trans d,tt f g d⟩
  .have e:i+1=t:=OP G (Mt (V4 E));obtain⟨c,d⟩:=P u1;cases e;cases Ma (g.symm.trans wt);exact⟨c,(O u1).trans d,m1 f g (R.symm.trans n) W.b0 d ((W.most a (v f)).resolve_left (H f g (L3 (Mz i)))) ((W.most c (x d)).resolve_left (L d W.b0 Wv)) (l big)⟩
 .obtain⟨j,rfl⟩:=Nat.exists_eq_add_of_le (N1 G);have K:j<u:=Nat.lt_of_add_lt_add_left I;obtain⟨a,f⟩:=P (Lu K);obtain⟨b,g⟩:=P K;refine⟨a,b,(O (Lu K)).trans f,(O K).trans g,λp J=>bc f g p (w p J),λbig=>?_⟩;by_cases E:j+2<=u
  .obtain⟨c,d⟩:=P E;exact⟨c,(O E).trans d,bt f g d⟩
  .have e:j+1=u:=OP K (Mt (V4 E));obtain⟨c,d⟩:=N t1;cases e;cases Ma (g.symm.trans wb);refine⟨c,?_,m2 f g (lB.symm.trans s) W.t0 d ((W.least a (x f)).resolve_left (L f g (L3 (Mz j)))) ((W.least c (v d)).resolve_left (H d W.t0 Wv)) (l big)⟩;have:=M t1;rw[Q]at this |-;rw[show t+j+2=1+(t+(j+1)) from Ua (t+(j+1)) 1,VG]
   exact this.trans d
def cd(n q:Int):Int:=-(-n/q)
def unc:List Int->Int×Int
 |[]=>(1,0)
 |b::l=>(b*(unc l).1-(unc l).2,(unc l).1)
structure Lvl(a b:Pt)(g u v s t:Int):Prop where
 g0:0<g
 e1:b.1-a.1=g*u
 e2:b.2-a.2=g*v
 st:s*u+t*v=1
def tx(a c:Pt)(s t:Int):Int:=s*(c.1-a.1)+t*(c.2-a.2)
def ty(a c:Pt)(u v:Int):Int:=u*(c.2-a.2)-v*(c.1-a.1)
def bk(a:Pt)(u v s t x y:Int):Pt:=(u*x-t*y+a.1,v*x+s*y+a.2)
theorem Lvl.area(L:Lvl a b g u v s t)(c):aq a b c=g*ty a c u v:=by
 have:=L.e1;have:=L.e2;unfold aq ty;grind
theorem Lvl.back(L:Lvl a b g u v s t)(c):c.1=u*tx a c s t-t*ty a c u v+a.1/\c.2=v*tx a c s t+s*ty a c u v+a.2:=by
 have:=L.st;unfold tx ty;constructor <;>grind
def wth(a b:Int)(p:Pt):Int:=a*p.1+b*p.2
theorem Hd(m:b<=0)(g:plt u p)(j:plt p v)(h:aq u p v<=0):wth a b p<=wth a b u\/wth a b p<=wth a b v:=by
 rcases M3 (wth a b u) (wth a b p) with c |c
 .rcases M3 (wth a b v) (wth a b p) with f |f
  .exfalso
   have e:(v.1-p.1) *(wth a b p-wth a b u)+(p.1-u.1) *(wth a b p-wth a b v)=-((-b) *(-(aq u p v))):=by unfold wth aq;grind
   have o:0<=(-b) *(-(aq u p v)):=Lv (by lia) (by lia);have r:0<=p.1-u.1:=by unfold plt at g;lia
   have i:0<=v.1-p.1:=by unfold plt at j;lia
   have q:0<=(v.1-p.1) *(wth a b p-wth a b u):=Lv i (by lia);rcases M3 0 (p.1-u.1) with d |d
   .have:=M6 d (show 0<wth a b p-wth a b v by lia);lia
   .have k:u.1=p.1:=by lia
    have l:u.2<p.2:=by unfold plt at g;lia
    have:0<=(-b) *(p.2-u.2):=Lv (by lia) (by lia);have n:wth a b p-wth a b u=-((-b) *(p.2-u.2)):=by unfold wth;rw[k];grind
    lia
  .exact .inr f
 .exact .inl c
theorem yc(hs:row.Pairwise plt)(d:b<=0)(k:p∈row):∃c∈ao row,wth a b p<=wth a b c:=by
 by_cases h:p∈ao row
 .exact⟨p,h,OR _⟩
 .obtain⟨u,l,v,i,f,j,g⟩:=gap hs k h;rcases Hd d f j g with e |e
  .exact⟨u,l,e⟩
  .exact⟨v,i,e⟩
theorem Io(a b)(p):wth (-a) (-b) (ng p)=wth a b p:=by unfold wth ng;grind
theorem EX(a b)(p):wth a b (ng p)=wth (-a) (-b) p:=by unfold wth ng;grind
theorem BX{row:List Pt}(hs:row.Pairwise plt)(f:0<=b)(d:p∈row):∃c∈ao row.reverse,wth a b p<=wth a b c:=by
 obtain⟨c,e,k⟩:=yc (dh hs) (b:=-b) (by lia) (Ln.mpr ⟨p,LA.mpr d,rfl⟩);refine⟨ng c,by rw[cp];exact Ln.mpr ⟨c,e,rfl⟩,?_⟩;rw[Io]at k;rw[EX];exact k
theorem nW(a b)(l:p∈pts):∃c∈aj pts,wth a b p<=wth a b c:=by
 have g:=(ST.srt_mem p pts).mpr l;by_cases e:2<=(ST.srt pts).length
 .have f:=cP pts;obtain⟨q,o,n,r,i,h,j,m,_⟩:=zr f e;have big:=fh e;rw[i,h]at big;rcases PU b 0 with hb |hb
  .obtain⟨c,d,k⟩:=yc f hb g;refine⟨c,?_,k⟩;rw[big];rw[i]at d;rcases Ll.mp d with rfl |d
   .exact LR _ (LA.mpr m)
   .exact Ms _ (LA.mpr d)
  .obtain⟨c,d,k⟩:=BX f hb g;refine⟨c,?_,k⟩;rw[big];rw[h]at d;rcases Ll.mp d with rfl |d
   .exact Ms _ (LA.mpr j)
   .exact LR _ (LA.mpr d)
 .exact⟨p,by rw[c_ e];exact g,OR _⟩
def hiL:List Int->Int
 |[]=>0
 |a::l=>l.foldl max a
theorem fD:∀l (a:Int),l.foldl max a∈a::l
 |[],a=>by simp
 |b::l,a=>by
  have:=fD l (max a b);rw[Nd];rcases Ll.mp this with e |e
  .rw[e];rcases PU a b with h |h
   .rw[O7 h];simp
   .rw[Q1 h];simp
  .exact Li _ (Li _ e)
theorem gK:∀l (a:Int),∀x∈a::l,x<=l.foldl max a
 |[],a,x,h=>by simp at h;rw[h];exact OR _
 |b::l,a,x,h=>by
  have ih:=gK l (max a b);rw[Nd];have c:=ih (max a b) Lo;rcases Ll.mp h with rfl |h
  .lia
  .rcases Ll.mp h with rfl |h
   .lia
   .exact ih x (Li _ h)
def hiW(a b:Int)(l:List Pt):Int:=hiL (l.map (wth a b))
theorem rW(a b)(h:l≠[]):(∃p∈l,wth a b p=hiW a b l)/\∀p∈l,wth a b p<=hiW a b l:=by
 cases l with
 |nil=>exact absurd rfl h
 |cons q l=>
  refine⟨?_,λp c=>?_⟩
  .have:=fD (l.map (wth a b)) (wth a b q);rw[<-LK]at this;obtain⟨p,c,e⟩:=Ln.mp this;exact⟨p,c,e⟩
  .exact gK (l.map (wth a b)) (wth a b q) _ (by rw[<-LK];exact L9 c)
theorem qk(a:3<=(aj l).length):2<=(ST.srt l).length:=by
 rcases NN (ST.srt l).length 2 with h |h
 .rw[c_ (by lia)]at a;lia
 .exact h
theorem C0(h:i<l.length):(gp l i,gp l ((i+1)%l.length))∈sdl l:=Ln.mpr ⟨i,Mc.mpr h,rfl⟩
theorem me(h:l[i]?=some a):gp l i=a:=by simp[gp,h]
theorem CU:((i+1)%n+1)%n=(i+2)%n:=by rw[R7]
theorem cu(d:3<=(aj l).length)(hs:s∈sdl (aj l)):∀q∈l,0<=aq s.1 s.2 q:=by
 obtain⟨i,g,rfl⟩:=Ln.mp hs;obtain⟨a,b,f,e,c,_⟩:=dE (qk d) (Mc.mp g);show ∀q∈l,0<=aq (gp (aj l) i) (gp (aj l) ((i+1)%(aj l).length)) q;rw[me f,me e];exact c
theorem iZ(h:3<=(aj l).length)(hs:(A,B)∈sdl (aj l)):∃C,(B,C)∈sdl (aj l)/\0<aq A B C:=by
 obtain⟨i,o,e⟩:=Ln.mp hs;have p:=Mc.mp o;obtain⟨a,b,n,d,_,m⟩:=dE (qk h) p;obtain⟨c,g,j⟩:=m (by lia);have k:A=a:=by rw[<-me n];exact (congrArg Ph e).symm
 have f:B=b:=by rw[<-me d];exact (congrArg OV e).symm
 refine⟨c,?_,by rw[k,f];exact j⟩;have:=C0 (i:=(i+1)%(aj l).length) (M5 _ (by lia));rw[CU,me d,me g]at this;rw[f];exact this
theorem IS(h:A∈l):∃B,(A,B)∈sdl l:=by
 obtain⟨i,a⟩:=Mn.mp h;have b:=(Ls.mp a).1;have:=C0 b;rw[me a]at this;exact⟨_,this⟩
theorem xE(h:A∈l):∃Z,(Z,A)∈sdl l:=by
 obtain⟨i,a⟩:=Mn.mp h;have c:=(Ls.mp a).1;have b:(i+l.length-1)%l.length<l.length:=M5 _ (by lia);have:=C0 b
 have e:((i+l.length-1)%l.length+1)%l.length=i:=by
  rw[R7,show i+l.length-1+1=i+l.length by lia,VG,LZ c]
 rw[e,me a]at this;exact⟨_,this⟩
theorem vV(g:l.Nodup)(m:(A,B)∈sdl l)(k:(A,C)∈sdl l):B=C:=by
 obtain⟨i,h,e⟩:=Ln.mp m;obtain⟨j,c,a⟩:=Ln.mp k;have b:=Mc.mp h;have f:=Mc.mp c;have d:gp l i=gp l j:=(congrArg Ph e).trans (congrArg Ph a).symm;have:i=j:=(PM b g).mp (by rw[dr b,dr f,d]);subst this;exact (congrArg OV e).symm.trans (congrArg OV a)
theorem HY{b a v1 v2 w1 w2:Int}(g:0<b*v2-a*v1)(c:b*w2-a*w1=0)(d:v1*w2-v2*w1=0):w1=0/\w2=0:=by
 have f:(b*v2-a*v1) *w1=0:=by
  have:(b*v2-a*v1) *w1=v1*(b*w2-a*w1)-b*(v1*w2-v2*w1):=by grind
  rw[this,c,d];simp
 have e:(b*v2-a*v1) *w2=0:=by
  have:(b*v2-a*v1) *w2=v2*(b*w2-a*w1)-a*(v1*w2-v2*w1):=by grind
  rw[this,c,d];simp
 refine⟨?_,?_⟩
 .rcases Mo.mp f with h |h
  .lia
  .exact h
 .rcases Mo.mp e with h |h
  .lia
  .exact h
def wH(l:List P2)(p:P2):Prop:=p∈l/\∃a b:Int,∀q∈l,q≠p->wth a b q<wth a b p
theorem iM(h:wH l p):p∈aj l:=by
 obtain⟨g,a,b,k⟩:=h;obtain⟨c,f,e⟩:=nW a b g;by_cases d:c=p
 .rw[<-d];exact f
 .have:=k c (aO _ c f) d;lia
theorem cH(a:3<=(aj l).length)(g:p∈aj l):wH l p:=by
 obtain⟨Z,f⟩:=xE g;obtain⟨B,n,j⟩:=iZ a f;refine⟨aO _ p g,B.2-Z.2,Z.1-B.1,λq b i=>?_⟩;have c:=cu a f q b;have d:=cu a n q b;dsimp only at c d;have e:wth (B.2-Z.2) (Z.1-B.1) q-wth (B.2-Z.2) (Z.1-B.1) p=-(aq Z p q+aq p B q):=by unfold wth aq;grind
 rcases L_ (WN c d) with h |h
 .lia
 .exfalso
  have m:aq Z p q=0:=by lia
  have k:aq p B q=0:=by lia
  have:=HY (w1:=q.1-p.1) (w2:=q.2-p.2) (by rw[<-(show aq Z p B=(p.1-Z.1) *(B.2-p.2)-(p.2-Z.2) *(B.1-p.1) by unfold aq;grind)];exact j) (by rw[<-m];unfold aq;grind) (by rw[<-k];unfold aq;grind);exact i (MS (by lia) (by lia))
theorem Im{b a v1 v2 w1 w2:Int}(h:b*w2-a*w1=0):(b*v2-a*v1) *w1=(w1*v2-w2*v1) *b/\(b*v2-a*v1) *w2=(w1*v2-w2*v1) *a:=by
 constructor
 .have:(b*v2-a*v1) *w1-(w1*v2-w2*v1) *b=v1*(b*w2-a*w1):=by grind
  rw[h]at this;simp at this;lia
 .have:(b*v2-a*v1) *w2-(w1*v2-w2*v1) *a=v2*(b*w2-a*w1):=by grind
  rw[h]at this;simp at this;lia
theorem jE(i:3<=(aj l).length):(A,B)∈sdl (aj l)↔A∈aj l/\B∈aj l/\A≠B/\∀q∈aj l,0<=aq A B q:=by
 constructor
 .intro h;exact⟨(aX h).1,(aX h).2,Dp (aY l) (by omega) _ h,λq V=>cu i h q (aO _ q V)⟩
 .rintro ⟨w,y,E,t⟩;obtain⟨C,m⟩:=IS w;obtain⟨Z,J⟩:=xE w;by_cases g:B=C
  .rw[g];exact m
  .exfalso
   obtain⟨D,x,Y⟩:=iZ i m;obtain⟨c,u,U⟩:=iZ i J;have:c=C:=vV (aY l) u m;subst this;have p:=(aX m).2;have W:=(aX x).2;have o:=aO _ B y;have L:=cu i m B o;have k2:=t c p;have H:=cu i J B o;have I:=cu i x B o;dsimp only at L H I p W
   have z:(c.1-A.1) *(B.2-A.2)-(c.2-A.2) *(B.1-A.1)=0:=by
    have n:aq A c B=(c.1-A.1) *(B.2-A.2)-(c.2-A.2) *(B.1-A.1):=rfl;have e2:aq A B c=-((c.1-A.1) *(B.2-A.2)-(c.2-A.2) *(B.1-A.1)):=by unfold aq;grind
    omega
   obtain⟨j,k⟩:=Im (v1:=Z.1-A.1) (v2:=Z.2-A.2) z
   have f:0<(c.1-A.1) *(Z.2-A.2)-(c.2-A.2) *(Z.1-A.1):=by
    rw[<-(show aq Z A c=(c.1-A.1) *(Z.2-A.2)-(c.2-A.2) *(Z.1-A.1) by unfold aq;grind)];exact U
   have S:0<=(B.1-A.1) *(Z.2-A.2)-(B.2-A.2) *(Z.1-A.1):=by
    rw[<-(show aq Z A B=(B.1-A.1) *(Z.2-A.2)-(B.2-A.2) *(Z.1-A.1) by unfold aq;grind)];exact H
   generalize (c.1-A.1) *(Z.2-A.2)-(c.2-A.2) *(Z.1-A.1)=d at *;generalize (B.1-A.1) *(Z.2-A.2)-(B.2-A.2) *(Z.1-A.1)=s at *
   have N:s≠0:=λe=>by
    rw[e,Rw]at j k;have v:=(Mo.mp j).resolve_left (Pk f);have r:=(Mo.mp k).resolve_left (Pk f);exact E (MS (Ol v) (Ol r)).symm
   have P:s≠d:=λe=>by
    rw[e]at j k;have v:=MB (Pk f) j;have r:=MB (Pk f) k;exact g (MS ((V5 _).mp v) ((V5 _).mp r))
   have O:s<=d:=by
    have e:d*aq c D B=(d-s) *aq A c D:=by
     have n:d*aq c D B=(D.1-c.1) *(d*(B.2-A.2)-d*(c.2-A.2))-(D.2-c.2) *(d*(B.1-A.1)-d*(c.1-A.1)):=by unfold aq;grind
     rw[n,j,k];unfold aq;grind
    have:0<=(d-s) *aq A c D:=by rw[<-e];exact Lv (NQ f) I
    rw[Pi]at this;exact UH (Int.le_of_mul_le_mul_left (by rw[Pl];exact this) Y)
   obtain⟨_,a,b,top⟩:=cH i y;have K:=top A (aO _ A w) E;have t2:=top c (aO _ c p) (λe=>g e.symm)
   have G:d*(wth a b B-wth a b A)=s*(wth a b c-wth a b A):=by
    have n:d*(wth a b B-wth a b A)=a*(d*(B.1-A.1))+b*(d*(B.2-A.2)):=by unfold wth;grind
    rw[n,j,k];unfold wth;grind
   have T:0<s:=(L_ S).resolve_right (Ne.symm N);have Q:0<s*(wth a b c-wth a b A):=by rw[<-G];exact M6 f (Ob K)
   have X:0<wth a b c-wth a b A:=NP Q T;have M:0<(d-s) *(wth a b c-wth a b A):=M6 (Ob ((L_ O).resolve_right P)) X
   have R:d*(wth a b B-wth a b c)=-((d-s) *(wth a b c-wth a b A)):=by
    have:d*(wth a b B-wth a b c)=d*(wth a b B-wth a b A)-d*(wth a b c-wth a b A):=by grind
    rw[this,G];grind
   have F:0<d*(wth a b B-wth a b c):=M6 f (Ob t2);rw[R]at F;exact absurd (Su F (Int.neg_nonpos_of_nonneg (NQ M))) (RX _)
structure Lin(f:P2->P2)(d:Int):Prop where
 one:d=1\/d=-1
 ex:∃a b c e:Int,a*e-b*c=d/\∀p,f p=(a*p.1+b*p.2,c*p.1+e*p.2)
theorem Lin.det(L:Lin f d)(A B q):aq (f A) (f B) (f q)=d*aq A B q:=by
 obtain⟨a,b,c,e,h,k⟩:=L.ex;rw[k,k,k,<-h];unfold aq;grind
theorem qP(L:Lin f d)(x y):∃j g,∀p,wth j g (f p)=wth x y p:=by
 obtain⟨a,b,c,e,h,k⟩:=L.ex;refine⟨d*(x*e-y*c),d*(y*a-x*b),λp=>?_⟩;rw[k];have i:d*d=1:=by rcases L.one with z |z <;>rw[z] <;>rfl
 have:wth (d*(x*e-y*c)) (d*(y*a-x*b)) (a*p.1+b*p.2,c*p.1+e*p.2)=d*(a*e-b*c) *wth x y p:=by unfold wth;grind
 rw[this,h,i,UZ]
theorem Lin.inj(L:Lin f d)(e:f p=f q):p=q:=by
 obtain⟨x,y,h⟩:=qP L 1 0;obtain⟨i,g,a⟩:=qP L 0 1;have c:wth 1 0 p=wth 1 0 q:=by rw[<-h,<-h,e]
 have b:wth 0 1 p=wth 0 1 q:=by rw[<-a,<-a,e]
 unfold wth at c b;exact MS (by lia) (by lia)
theorem xq(L:Lin f d)(h:wH l p):wH (l.map f) (f p):=by
 obtain⟨i,a,b,k⟩:=h;obtain⟨x,y,e⟩:=qP L a b;refine⟨L9 i,x,y,λq c g=>?_⟩;obtain⟨r,j,rfl⟩:=Ln.mp c;rw[e,e];exact k r j λz=>g (by rw[z])
theorem CS(L:Lin f d)(j:p∈l)(h:wH (l.map f) (f p)):wH l p:=by
 obtain⟨_,a,b,k⟩:=h;obtain⟨u,v,w,z,_,g⟩:=L.ex;refine⟨j,a*u+b*w,a*v+b*z,λq c i=>?_⟩;have e:∀r,wth (a*u+b*w) (a*v+b*z) r=wth a b (f r):=λr=>by rw[g];unfold wth;grind
 rw[e,e];exact k (f q) (L9 c) λz=>i (L.inj z)
theorem lG(L:Lin f d)(c:3<=(aj l).length):3<=(aj (l.map f)).length:=by
 have g:((aj l).map f).Nodup:=PN _ (λa b (h:a≠b) e=>h (L.inj e)) (aY l)
 have:=i9 g λx j=>by
  obtain⟨p,i,rfl⟩:=Ln.mp j;exact iM (xq L (cH c i))
 rw[Lg]at this;lia
theorem dS(L:Lin f d)(b:3<=(aj l).length)(x):x∈aj (l.map f)↔∃p∈aj l,f p=x:=by
 constructor
 .intro h;obtain⟨p,a,rfl⟩:=Ln.mp (aO _ x h);exact⟨p,iM (CS L a (cH (lG L b) h)),rfl⟩
 .rintro ⟨p,a,rfl⟩;exact iM (xq L (cH b a))
def sdf(f:P2->P2)(d:Int)(s:P2×P2):P2×P2:=if d=1 then (f s.1,f s.2) else (f s.2,f s.1)
theorem AR(L:Lin f d)(a:3<=(aj l).length)(t):t∈sdl (aj (l.map f))↔∃s∈sdl (aj l),sdf f d s=t:=by
 have g:=lG L a;have n:∀A B q,aq B A q=-aq A B q:=λA B q=>by unfold aq;grind
 constructor
 .intro h;obtain⟨x,y⟩:=t;obtain⟨u,hy,j,c⟩:=(jE g).mp h;obtain⟨A,m,rfl⟩:=(dS L a x).mp u;obtain⟨B,i,rfl⟩:=(dS L a y).mp hy
  have k:∀q∈aj l,0<=d*aq A B q:=λq b=>by
   have:=c (f q) ((dS L a _).mpr ⟨q,b,rfl⟩)
   rwa [L.det]at this
  rcases L.one with z |z
  .refine⟨(A,B),(jE a).mpr ⟨m,i,λe=>j (by rw[e]),λq b=>?_⟩,by unfold sdf;rw[if_pos z]⟩;have:=k q b;rw[z]at this;lia
  .refine⟨(B,A),(jE a).mpr ⟨i,m,λe=>j (by rw[e]),λq b=>?_⟩,by unfold sdf;rw[if_neg (by lia)]⟩;have:=k q b;rw[n];rw[z]at this;lia
 .rintro ⟨⟨A,B⟩,o,rfl⟩;obtain⟨m,i,j,c⟩:=(jE a).mp o
  have k:∀q∈aj (l.map f),0<=d*aq (f A) (f B) q:=λq b=>by
   obtain⟨p,r,rfl⟩:=(dS L a q).mp b;have:=c p r;rw[L.det,<-RW,show d*d=1 by rcases L.one with z |z <;>rw[z] <;>rfl];lia
  unfold sdf;rcases L.one with z |z
  .rw[if_pos z];refine (jE g).mpr ⟨(dS L a _).mpr ⟨A,m,rfl⟩,(dS L a _).mpr ⟨B,i,rfl⟩,λe=>j (L.inj e),λq b=>?_⟩;have:=k q b;dsimp only;rw[z]at this;lia
  .rw[if_neg (by lia)];refine (jE g).mpr ⟨(dS L a _).mpr ⟨B,i,rfl⟩,(dS L a _).mpr ⟨A,m,rfl⟩,λe=>j (L.inj e.symm),λq b=>?_⟩;have:=k q b;dsimp only;rw[n];rw[z]at this;lia
theorem CA(c:l.Nodup):(sdl l).Nodup:=by
 have h:((sdl l).map (·.1)).Nodup:=by rw[qX];exact c
 exact (MF.mp h).imp λ{a b} k e=>k (by rw[e])
def ub(s:P2×P2):Int:=(s.2.1-s.1.1)/gst s
def vb(s:P2×P2):Int:=(s.2.2-s.1.2)/gst s
def onS(s:P2×P2)(k:Int):P2:=(s.1.1+k*ub s,s.1.2+k*vb s)
theorem jq(s):s.2.1-s.1.1=gst s*ub s:=by
 unfold ub;have h:gst s ∣ s.2.1-s.1.1:=QG ..;rw[Nt h]
theorem jp(s):s.2.2-s.1.2=gst s*vb s:=by
 unfold vb;have h:gst s ∣ s.2.2-s.1.2:=Qv ..;rw[Nt h]
theorem A6(h:s.1≠s.2):∃b a,Lvl s.1 s.2 (gst s) (ub s) (vb s) b a:=by
 have c:=jS h;obtain⟨b,a,G⟩:=oJ (s.2.1-s.1.1) (s.2.2-s.1.2);have d:=G.eq;refine⟨b,a,c,jq s,jp s,?_⟩
 have e:gst s*(b*ub s+a*vb s)=gst s*1:=by
  rw[UR];have:gst s*(b*ub s+a*vb s)=b*(gst s*ub s)+a*(gst s*vb s):=by grind
  rw[this,<-jq,<-jp];exact d
 exact MB (by lia) e
theorem x9(h:s.1≠s.2)(c:aq s.1 s.2 p=0):∃k,p=onS s k:=by
 obtain⟨b,a,L⟩:=A6 h
 have z:ty s.1 p (ub s) (vb s)=0:=by
  rw[L.area]at c;exact (Mo.mp c).resolve_left (by have:=L.g0;lia)
 obtain⟨e,d⟩:=L.back p;refine⟨tx s.1 p b a,MS ?_ ?_⟩
 .show p.1=s.1.1+tx s.1 p b a*ub s;grind
 .show p.2=s.1.2+tx s.1 p b a*vb s;grind
theorem wg(s)(k)(X Y):gst s*aq X Y (onS s k)=(gst s-k) *aq X Y s.1+k*aq X Y s.2:=by
 have d:=jq s;have c:=jp s;have b:s.2.1=s.1.1+gst s*ub s:=by lia
 have a:s.2.2=s.1.2+gst s*vb s:=by lia
 unfold onS aq;rw[b,a];grind
theorem CD(h:s.1≠s.2)(e:onS s j=onS s k):j=k:=by
 obtain⟨cs,ct,L⟩:=A6 h;have st:=L.st;have e1:s.1.1+j*ub s=s.1.1+k*ub s:=congrArg Ph e;have e2:s.1.2+j*vb s=s.1.2+k*vb s:=congrArg OV e
 have a1:(j - k) *ub s=0:=by have:(j - k) *ub s=j*ub s - k*ub s:=by grind
                             omega
 have a2:(j - k) *vb s=0:=by have:(j - k) *vb s=j*vb s - k*vb s:=by grind
                             omega
 have:(j-k) *(cs*ub s+ct*vb s)=cs*((j-k) *ub s)+ct*((j-k) *vb s):=by grind
 rw[st,a1,a2]at this;lia
theorem b_{a b:Int}(c:0<a)(h:0<=a*b):0<=b:=by
 rcases M3 b 0 with z |z
 .have:=M6 c (show 0 < -b by lia);have e:a* -b=-(a*b):=by grind
  lia
 .exact z
def bdr(l:List P2)(p:P2):Prop:=(∀s∈sdl l,0<=aq s.1 s.2 p)/\∃s∈sdl l,aq s.1 s.2 p=0
section
variable {l:List P2} (h3:3≤(aj l).length)
include h3
theorem kL(hs:s∈sdl (aj l)):s.1≠s.2:=Dp (aY l) (by lia) s hs
theorem Hn(hs:s∈sdl (aj l))(q:0<k)(g:k<gst s):onS s k ∉ aj l:=λh=>by
 obtain⟨_,a,b,top⟩:=cH h3 h;have f:=kL h3 hs
 have w:gst s*(wth a b (onS s k)-wth a b s.1)=k*(wth a b s.2-wth a b s.1):=by
  have d:=jq s;have c:=jp s;have e:wth a b s.2-wth a b s.1=a*(s.2.1-s.1.1)+b*(s.2.2-s.1.2):=by unfold wth;grind
  rw[e,d,c];unfold wth onS;grind
 have i:s.1≠onS s k:=λe=>by
  have:onS s 0=onS s k:=by rw[<-e];unfold onS;simp
  have:=CD f this;lia
 have m:s.2≠onS s k:=λe=>by
  have d:=jq s;have c:=jp s;have:onS s (gst s)=onS s k:=by rw[<-e];unfold onS;exact MS (by dsimp only;lia) (by dsimp only;lia)
  have:=CD f this;lia
 have o:=top s.1 (aO _ _ (aX hs).1) i;have t:=top s.2 (aO _ _ (aX hs).2) m;have r:0<gst s*(wth a b (onS s k)-wth a b s.1):=M6 (by lia) (by lia)
 have n:0<wth a b s.2-wth a b s.1:=by
  rcases M3 0 (wth a b s.2-wth a b s.1) with z |z
  .exact z
  .have:=Lv (show 0<=k by lia) (show 0<=-(wth a b s.2-wth a b s.1) by lia);have e:k* -(wth a b s.2-wth a b s.1)=-(k*(wth a b s.2-wth a b s.1)):=by grind
   lia
 have p:k*(wth a b s.2-wth a b s.1)<gst s*(wth a b s.2-wth a b s.1):=Int.mul_lt_mul_of_pos_right g n;have j:gst s*(wth a b (onS s k)-wth a b s.1)<gst s*(wth a b s.2-wth a b s.1):=by lia
 have:=Int.lt_of_mul_lt_mul_left j (by lia);lia
theorem Bw(hs:s∈sdl (aj l)){P:P2}(f:P∈aj l)(c:aq s.1 s.2 P=0):P=s.1\/P=s.2:=by
 have hb:bdr (aj l) P:=⟨λt u=>cu h3 u P (aO _ _ f),s,hs,c⟩
 obtain⟨k,e⟩:=x9 (kL h3 hs) c;have o:=kL h3 hs;have v:=jS o;obtain⟨A,B⟩:=s;obtain⟨Z,d⟩:=xE (aX hs).1;obtain⟨a,b,n⟩:=iZ h3 d;have:a=B:=vV (aY l) b hs;subst this;obtain⟨C,q,r⟩:=iZ h3 hs
 have i:0<=k:=by
  have m:=wg (A,a) k Z A;have z:aq Z A A=0:=by unfold aq;grind
  dsimp only at m;rw[z,Pl,VR,<-e]at m;have:0<=gst (A,a) *aq Z A P:=Lv (by lia) (hb.1 _ d)
  rw[m,Pi]at this;exact b_ n this
 have g:k<=gst (A,a):=by
  have m:=wg (A,a) k a C;have z:aq a C a=0:=by unfold aq;grind
  have p:aq a C A=aq A a C:=by unfold aq;grind
  dsimp only at m;rw[z,Pl,RA,p,<-e]at m;have:0<=gst (A,a) *aq a C P:=Lv (by lia) (hb.1 _ q)
  rw[m,Pi]at this;have:=b_ r this;lia
 rcases L_ i with z |z
 .rcases L_ g with w |w
  .exact absurd (e ▸ f) (Hn h3 hs z w)
  .right
   rw[e,w];have j:=jq (A,a);have h:=jp (A,a);dsimp only at j h;unfold onS;exact MS (by dsimp only;lia) (by dsimp only;lia)
 .left
  rw[e,<-z];unfold onS;simp
end
theorem CO{a b x y c d:Int}(e:a=c-x)(f:b=d-y):(x<c\/(x=c/\y<=d))↔(0<a\/(a=0/\0<=b)):=by
 subst e;subst f;exact or_congr Int.sub_pos.symm (and_congr ⟨λh=>by rw[h,RB],λh=>(Ol h).symm⟩ WO.symm)
theorem rL(h:ST.ltP A B=true):(aq A B p=0/\ST.leP A p=true/\ST.leP p B=true)↔∃k,0<=k/\k<=gst (A,B)/\p=onS (A,B) k:=by
 have l:(A,B).1≠(A,B).2:=λe=>by
  dsimp only at e;subst e;unfold ST.ltP at h;simp at h
 have f:=jS l;have c:=jq (A,B);have g:=jp (A,B);dsimp only at c g;unfold ST.ltP at h;have h:=of_decide_eq_true h
 have i:0<ub (A,B)\/(ub (A,B)=0/\0<vb (A,B)):=by
  rcases h with z |⟨z,w⟩
  .exact .inl (NP (by rw[<-c];exact Ob z) f)
  .rw[z,RB]at c;exact .inr ⟨(Mo.mp c.symm).resolve_left (Pk f),NP (by rw[<-g];exact Ob w) f⟩
 have sg:∀k:Int,(ST.leP A (onS (A,B) k)=true↔0<=k)/\(ST.leP (onS (A,B) k) B=true↔k<=gst (A,B)):=λk=>by
  have r:∀m:Int,(0<m*ub (A,B)\/(m*ub (A,B)=0/\0<=m*vb (A,B)))↔0<=m:=λm=>by
   rcases i with u |⟨u,v⟩
   .constructor
    .rintro (z |⟨z,_⟩)
     .exact NQ (Int.pos_of_mul_pos_left z u)
     .exact Qo ((Mo.mp z).resolve_right (Pk u)).symm
    .intro j;rcases L_ j with z |z
     .left;exact M6 z u
     .right;rw[<-z];simp
   .rw[u,Pl];constructor
    .rintro (z |⟨_,z⟩)
     .exact absurd z (RX _)
     .rw[Pi]at z;exact b_ v z
    .intro j;exact .inr ⟨rfl,Lv j (NQ v)⟩
  have x:(gst (A,B)-k) *ub (A,B)=B.1-(A.1+k*ub (A,B)):=by rw[XB,<-c,XC]
  have s:(gst (A,B)-k) *vb (A,B)=B.2-(A.2+k*vb (A,B)):=by rw[XB,<-g,XC]
  unfold ST.leP onS;rw[decide_eq_true_eq,decide_eq_true_eq];exact⟨(CO (by dsimp only;rw[Ry,Vk]) (by dsimp only;rw[Ry,Vk])).trans (r k),((CO x s).trans (r _)).trans WO⟩
 constructor
 .rintro ⟨d,a,b⟩;obtain⟨k,rfl⟩:=x9 l d;exact⟨k,(sg k).1.mp a,(sg k).2.mp b,rfl⟩
 .rintro ⟨k,o,n,rfl⟩;refine⟨?_,(sg k).1.mpr o,(sg k).2.mpr n⟩;have m:=wg (A,B) k A B;have q:aq A B A=0:=by unfold aq;grind
  have t:aq A B B=0:=by unfold aq;grind
  dsimp only at m;rw[q,t,Pl,Pl,RA]at m;exact (Mo.mp m).resolve_left (Pk f)
theorem Ea(h:a*e-b*c=1\/a*e-b*c=-1):PJ (a*x+b*y) (c*x+e*y)=PJ x y:=by
 apply Nat.dvd_antisymm
 .have f:((PJ (a*x+b*y) (c*x+e*y)):Int) ∣ a*x+b*y:=QG ..;have d:((PJ (a*x+b*y) (c*x+e*y)):Int) ∣ c*x+e*y:=Qv ..;generalize PJ (a*x+b*y) (c*x+e*y)=g at *
  have j:(g:Int) ∣ (a*e-b*c) *x:=by
   have:(a*e-b*c) *x=e*(a*x+b*y)-b*(c*x+e*y):=by grind
   rw[this];exact Sa (Mq f (MJ ..)) (Mq d (MJ ..))
  have l:(g:Int) ∣ (a*e-b*c) *y:=by
   have:(a*e-b*c) *y=a*(c*x+e*y)-c*(a*x+b*y):=by grind
   rw[this];exact Sa (Mq d (MJ ..)) (Mq f (MJ ..))
  have i:∀z,(g:Int) ∣ (a*e-b*c) *z->(g:Int) ∣ z:=λz k=>by
   rcases h with w |w <;>rw[w]at k
   .rwa [UZ]at k
   .rw[Int.neg_one_mul]at k;exact UX.mp k
  exact Xd.mp (Sb (i x j) (i y l))
 .have f:((PJ x y):Int) ∣ x:=QG ..;have d:((PJ x y):Int) ∣ y:=Qv ..;exact Xd.mp (Sb (Ql (Mq f (MJ ..)) (Mq d (MJ ..))) (Ql (Mq f (MJ ..)) (Mq d (MJ ..))))
theorem dN(A B):gst (B,A)=gst (A,B):=by
 unfold gst;rw[show A.1-B.1=-(B.1-A.1) by lia,show A.2-B.2=-(B.2-A.2) by lia,Ww,XD]
theorem Eh(L:Lin f d)(s):gst (sdf f d s)=gst s:=by
 obtain⟨A,B⟩:=s
 have g:gst (f A,f B)=gst (A,B):=by
  obtain⟨a,b,c,e,h,k⟩:=L.ex;unfold gst;rw[k,k];rw[show a*B.1+b*B.2-(a*A.1+b*A.2)=a*(B.1-A.1)+b*(B.2-A.2) by grind,show c*B.1+e*B.2-(c*A.1+e*A.2)=c*(B.1-A.1)+e*(B.2-A.2) by grind];rw[Ea (by rw[h];exact L.one)]
 unfold sdf;split
 .exact g
 .exact (dN _ _).trans g
theorem rJ(l):sdl l=Xe l (l.drop 1++l.take 1):=by
 have c:=qX l;have b:=xR l
 have:sdl l=Xe ((sdl l).map (·.1)) ((sdl l).map (·.2)):=by
  generalize sdl l=s
  induction s with
  |nil=>rfl
  |cons x r a=>simp only[LK,Om];rw[<-a]
 rw[c,b]at this;exact this
theorem Bf{i:Nat}(e:k=(i:Int))(h:i<l.length):atI (l.map pu) k=some (pu (gp l i)):=bP e (by rw[Lq,dr h];rfl)
theorem Szp.mono(h:Szp m p)(a:m<=n):Szp n p:=⟨h.1.mono a,h.2.mono a⟩
theorem FY(Z P B q)(a b):aq Z P B*(wth a b q-wth a b P)=-(aq P B q*(wth a b P-wth a b Z))-aq Z P q*(wth a b P-wth a b B):=by unfold aq wth;grind
theorem FG(c:3<=(aj l).length)(a b):∃Z P B,(Z,P)∈sdl (aj l)/\(P,B)∈sdl (aj l)/\0<aq Z P B/\wth a b P=hiW a b (aj l)/\wth a b Z<=wth a b P/\wth a b B<=wth a b P:=by
 obtain⟨⟨P,h,e⟩,k⟩:=rW a b (l:=aj l) (λz=>by rw[z]at c;simp at c);obtain⟨Z,d⟩:=xE h;obtain⟨B,f,g⟩:=iZ c d;refine⟨Z,P,B,d,f,g,e,?_,?_⟩
 .rw[e];exact k Z (aX d).1
 .rw[e];exact k B (aX f).2
theorem JD(f:3<=(aj l).length)(a b)(c:∀s∈sdl (aj l),0<=aq s.1 s.2 q):wth a b q<=hiW a b (aj l):=by
 obtain⟨Z,P,B,g,i,d,e,j,n⟩:=FG f a b;rw[<-e];have m:0<=aq P B q*(wth a b P-wth a b Z):=Lv (c _ i) (by lia);have k:0<=aq Z P q*(wth a b P-wth a b B):=Lv (c _ g) (by lia);have o:=FY Z P B q a b;rcases M3 (wth a b P) (wth a b q) with h |h
 .have:=M6 d (show 0<wth a b q-wth a b P by lia);lia
 .exact h
theorem sqn(x:Int):0<=x*x:=by
 rcases PU 0 x with h |h
 .exact Lv h h
 .have:=Lv (show 0<=-x by lia) (show 0<=-x by lia)
  rwa [Int.neg_mul_neg]at this
def d8(l:List P2):Int:=if l.length<3 then gst (gp l 0,gp l (l.length-1))+1 else dB l
def cf(a:Int)(n:Nat):List Int:=(MK n).map λ(i:Nat)=>a+(i:Int)
def ER(x:Int)(n:Nat)(y:Int)(m:Nat):List P2:=((cf x n).map λa=>(cf y m).map λb=>(a,b)).flatten
theorem bT:x∈cf a n↔a<=x/\x<a+n:=by
 unfold cf;rw[Ln];constructor
 .rintro ⟨i,b,rfl⟩;have:=Mc.mp b;lia
 .rintro ⟨d,c⟩;exact⟨(x-a).toNat,Mc.mpr (by lia),by lia⟩
theorem iW(a)(n):(cf a n).Nodup:=by
 exact PN _ (λi j (h:i≠j) e=>h (by lia)) VX
theorem Bm:p∈ER x n y m↔(x<=p.1/\p.1<x+n)/\y<=p.2/\p.2<y+m:=by
 unfold ER;rw[V6];constructor
 .rintro ⟨q,c,e⟩;obtain⟨a,ha,rfl⟩:=Ln.mp c;obtain⟨b,hb,rfl⟩:=Ln.mp e;exact⟨bT.mp ha,bT.mp hb⟩
 .rintro ⟨f,d⟩;exact⟨_,Ln.mpr ⟨p.1,bT.mpr f,rfl⟩,Ln.mpr ⟨p.2,bT.mpr d,rfl⟩⟩
theorem ye(x)(n)(y)(m):(ER x n y m).Nodup:=by
 refine Uw.mpr ⟨λq c=>?_,?_⟩
 .obtain⟨a,_,rfl⟩:=Ln.mp c;exact PN _ (λi j (h:i≠j) e=>h (congrArg OV e)) (iW y m)
 .refine MF.mpr ((iW x n).imp λ{a b} h p d q c e=>?_);obtain⟨_,_,rfl⟩:=Ln.mp d;obtain⟨_,_,rfl⟩:=Ln.mp c;exact h (congrArg Ph e)
def loX(l:List P2):Int:=iD (l.map (·.1))
def hiX(l:List P2):Int:=hiL (l.map (·.1))
def loY(l:List P2):Int:=iD (l.map (·.2))
def hiY(l:List P2):Int:=hiL (l.map (·.2))
theorem c8(h:l≠[]):hiL l∈l/\∀a∈l,a<=hiL l:=by
 cases l with
 |nil=>exact absurd rfl h
 |cons a l=>exact⟨fD l a,gK l a⟩
def bxN(l:List P2):Nat:=(hiX l+1-loX l).toNat
def byN(l:List P2):Nat:=(hiY l+1-loY l).toNat
def box(l:List P2):List P2:=ER (loX l) (bxN l) (loY l) (byN l)
theorem JN(a b x):a<=x/\x<a+((b+1-a).toNat:Int)↔a<=x/\x<=b:=by omega
theorem cQ(a:l≠[]):p∈box l↔(loX l<=p.1/\p.1<=hiX l)/\loY l<=p.2/\p.2<=hiY l:=by
 unfold box bxN byN;rw[Bm,JN,JN]
theorem jG{A B:List P2}(a:A.Nodup)(b:B.Nodup)(h:∀p,p∈A↔p∈B):A.length=B.length:=((OY a b).mpr h).length_eq
theorem fV{W:List P2}(h:W.Nodup)(f):(W.filter f).Nodup:=RT f h
theorem uF(f:3<=(aj l).length)(h:∀s∈sdl (aj l),0<=aq s.1 s.2 p):p∈box (aj l):=by
 have d:aj l≠[]:=λz=>by rw[z]at f;simp at f
 have c:∀a b,∃q∈aj l,wth a b p<=wth a b q:=λa b=>by
  obtain⟨⟨q,r,e⟩,_⟩:=rW a b d;exact⟨q,r,by rw[e];exact JD f a b h⟩
 have g:(aj l).map (·.1)≠[]:=by simpa using d
 have hy:(aj l).map (·.2)≠[]:=by simpa using d
 obtain⟨x,j,i⟩:=c 1 0;obtain⟨m,v,y⟩:=c (-1) 0;obtain⟨n,o,t⟩:=c 0 1;obtain⟨k,u,w⟩:=c 0 (-1);have B:=(c8 g).2 x.1 (L9 j);have C:=(cy g).2 m.1 (L9 v);have A:=(c8 hy).2 n.2 (L9 o);have D:=(cy hy).2 k.2 (L9 u);unfold wth at i y t w;rw[cQ d];unfold loX hiX loY hiY;lia
theorem xz(A):box [A]=[A]:=by
 have h:∀p,p∈box [A]↔p∈[A]:=λp=>by
  rw[cQ (by simp),Lz];unfold loX hiX loY hiY iD hiL;simp only[LK,Uv,List.foldl_nil];constructor
  .intro h;exact MS (by lia) (by lia)
  .rintro rfl;lia
 have a:=(OY (ye _ _ _ _) (by simp:[A].Nodup)).mpr h;exact List.perm_singleton.mp a
theorem GC{w v x y:Int}(a:0<w)(b:0<=v)(e:w*y=v*x)(d:0<=x)(c:0<=w-x):0<=y/\0<=v-y:=
 ⟨b_ a (by rw[e];exact Lv b d),b_ a (by rw[U0,e,Pi w v,<-U0];exact Lv b c)⟩
theorem JM{c a i d g b:Int}(k:c<i)(e:(i-c) *(b-a)=(d-a) *(g-c))(l:c<=g)(m:g<=i):(a<=b/\b<=d)\/(d<=b/\b<=a):=by
 have f:=UI l;have j:0<=i-c-(g-c):=by omega
 have w:=Ob k;rcases PU a d with h |h
 .have:=GC w (UI h) e f j;clear e f j w l m k;omega
 .have:=GC (v:=-(d-a)) (y:=-(b-a)) w (by omega) (by rw[UY,Wx,e]) f j;clear e f j w l m k;omega
theorem x5{c f g j b l:Int}(m:c<g\/(c=g/\f<j))(d:(g-c) *(l-f)=(j-f) *(b-c)):((c<=b/\b<=g)/\min f j<=l/\l<=max f j)↔(c<b\/(c=b/\f<=l))/\(b<g\/(b=g/\l<=j)):=by
 rcases m with w |⟨rfl,w⟩
 .constructor
  .rintro ⟨⟨h,a⟩,-⟩;refine⟨(L_ h).imp id λe=>⟨e,?_⟩,(L_ a).imp id λe=>⟨e,?_⟩⟩
   .rw[<-e,RB,Pl]at d;exact Qo (Ol ((Mo.mp d).resolve_left (Pk (Ob w)))).symm
   .rw[e,Pi]at d;exact UH (by have:=Int.eq_of_mul_eq_mul_right (Pk (Ob w)) d;clear d;omega)
  .rintro ⟨h,a⟩;have h:=h.elim NQ λh=>Qo h.1;have a:=a.elim NQ λh=>Qo h.1;refine⟨⟨h,a⟩,?_⟩;rcases JM w d h a with ⟨k,i⟩ |⟨k,i⟩
   .exact⟨QR (Ux ..) k,QR i (RJ ..)⟩
   .exact⟨QR (RK ..) k,QR i (Uy ..)⟩
 .rw[PL (NQ w),O7 (NQ w)];clear d;constructor
  .rintro ⟨⟨h,a⟩,k,i⟩;exact⟨.inr ⟨Wy h a,k⟩,.inr ⟨Wy a h,i⟩⟩
  .rintro ⟨h |h,a |a⟩
   .exact absurd (Int.lt_trans h a) (RX _)
   .exact absurd h (a.1 ▸ RX _)
   .exact absurd a (h.1 ▸ RX _)
   .exact⟨⟨Qo h.1,Qo a.1⟩,h.2,a.2⟩
theorem D4(h:ST.ltP A B=true):(p∈box [A,B]/\aq A B p=0)↔∃k,0<=k/\k<=gst (A,B)/\p=onS (A,B) k:=by
 rw[<-rL h,cQ (by simp)];have lt:=of_decide_eq_true h;have c:loX [A,B]=A.1:=PL (lt.elim NQ λh=>Qo h.1);have a:hiX [A,B]=B.1:=O7 (lt.elim NQ λh=>Qo h.1);rw[c,a,show loY [A,B]=min A.2 B.2 from rfl,show hiY [A,B]=max A.2 B.2 from rfl];unfold ST.leP;rw[decide_eq_true_eq,decide_eq_true_eq];constructor
 .exact λ⟨b,d⟩=>⟨d,(x5 lt (Ol d)).mp b⟩
 .exact λ⟨d,b⟩=>⟨(x5 lt (Ol d)).mpr b,d⟩
theorem mN(A B):sdl [A,B]=[(A,B),(B,A)]:=by
 unfold sdl nxt;simp[Se]
theorem zm(h:aj [A,B]=[A,B]):ST.ltP A B=true:=by
 have g:[A,B].Nodup:=by rw[<-h];exact aY _
 have i:A≠B:=by simpa using g
 have d:=ST.srt_asc [A,B];have f:=λz=>ST.srt_mem z [A,B]
 match e:ST.srt [A,B],d,f with
 |[],_,f=>have:=(f A).mpr (by simp);simp at this
 |[X],_,f=>
  have a:=(f A).mpr (by simp);have b:=(f B).mpr (by simp);rw[Lz]at a b;exact absurd (a.trans b.symm) i
 |X::Y::[],d,_=>
  have c:aj [A,B]=[X,Y]:=by unfold aj;rw[e];simp[ao,bh]
  rw[h]at c;injection c with c1 c2
  injection c2 with c2 _;subst c1 c2;exact (MG.mp d).1 _ (by simp)
 |X::Y::Z::r,_,_=>
  have:=ST.srt_len [A,B];rw[e]at this;simp at this
def f7(l:List P2):Int:=pin l+d8 l
def TP:List P2->Prop
 |[]=>True
 |a::v=>(v.Pairwise λx y=>0<aq a x y)/\TP v
theorem sJ(f)(l):sdl (l.map f)=(sdl l).map λs=>(f s.1,f s.2):=by
 rw[rJ,rJ,<-Vf,<-S8,<-Md];generalize l.drop 1++l.take 1=m
 induction l generalizing m with
 |nil=>rfl
 |cons a l c=>
  cases m with
  |nil=>simp
  |cons b m=>simp only[LK,Om];rw[c]
theorem EJ(k)(s):crs (scl k s.1,scl k s.2)=k*k*crs s:=by unfold crs scl;grind
theorem xy(a:0<=k)(s):gst (scl k s.1,scl k s.2)=k*gst s:=by
 unfold gst scl;rw[show k*s.2.1-k*s.1.1=k*(s.2.1-s.1.1) by grind,show k*s.2.2-k*s.1.2=k*(s.2.2-s.1.2) by grind,Int.gcd_mul_left];rw[Int.natCast_mul,Pr a]
theorem ue(k)(l:List Int):(l.map λx=>k*x).sum=k*l.sum:=by
 induction l with
 |nil=>simp
 |cons a l b=>rw[LK,NH,NH,b];grind
theorem vv(k)(l):area (l.map (scl k))=k*k*area l:=by
 unfold area;rw[sJ,L4,<-ue,L4];congr 1;exact Oc λs _=>EJ k s
theorem El(a:0<=k)(l):dB (l.map (scl k))=k*dB l:=by
 unfold dB;rw[sJ,L4,<-ue,L4];congr 1;exact Oc λs _=>xy a s
def nK(l:List P2)(k:Int):Int:=f7 (aj (l.map (scl k)))
def oj(l:List P2)(k:Int):Int:=pin (aj (l.map (scl k)))
theorem tN(d:0<k)(l):aj (l.map (scl k))=(aj l).map (scl k):=kM (λa b=>ro d a b) (λa b c=>r8 d a b c) l
theorem zL(f:l≠[]):aj (l.map (scl 0))=[(0,0)]:=by
 have b:l.map (scl 0)≠[]:=by simpa using f
 have c:∀q∈l.map (scl 0),q=(0,0):=λq d=>by
  obtain⟨p,_,rfl⟩:=Ln.mp d;unfold scl;simp
 have:ST.srt (l.map (scl 0))=ST.srt [(0,0)]:=fQ λz=>by
  rw[Lz];constructor
  .exact c z
  .rintro rfl;obtain⟨a,r,e⟩:=Qw b;rw[e];have:=c a (by rw[e];simp);rw[this];simp
 rw[e_ this];rfl
theorem xo(a:l≠[]):nK l 0=1/\oj l 0=0:=by
 unfold nK oj;rw[zL a]
 decide
theorem Bq(a b):crs (a,b)+crs (b,a)=0:=by unfold crs;grind
theorem Bv{l m:List P2}(h:∀z,z∈l↔z∈m)(k):aj (l.map (scl k))=aj (m.map (scl k)):=by
 refine e_ (fQ λz=>?_);rw[Ln,Ln];constructor
 .rintro ⟨a,ha,e⟩;exact⟨a,(h a).mp ha,e⟩
 .rintro ⟨a,ha,e⟩;exact⟨a,(h a).mpr ha,e⟩
theorem E9(h:∀z,z∈l↔z∈m)(k):nK l k=nK m k/\oj l k=oj m k:=by
 unfold nK oj;rw[Bv h];exact⟨rfl,rfl⟩
theorem k_(h:ST.ltP a b=true):aj [a,b]=[a,b]:=by
 have e:ST.srt [a,b]=[a,b]:=ST.asc_srt (by simp[ST.Asc,h]);unfold aj;rw[e];simp[ao,bh]
theorem xT(h:ST.ltP a b=true)(c:0<=k):nK [a,b] k=gst (a,b) *k+1/\oj [a,b] k=0:=by
 rcases L_ c with z |z
 .unfold nK oj f7;rw[tN z,k_ h];have e:=xy c (a,b)
  have r:d8 ([a,b].map (scl k))=k*gst (a,b)+1:=by
   unfold d8;rw[if_pos (by simp)];show gst (scl k a,scl k b)+1=_;rw[e]
  have p:pin ([a,b].map (scl k))=0:=by unfold pin;rw[if_pos (by simp)]
  rw[r,p,Pi k];exact⟨by lia,rfl⟩
 .rw[<-z,Pl];exact xo (by simp)
theorem C_(h:a≠b)(c:0<=k):nK [a,b] k=gst (a,b) *k+1/\oj [a,b] k=0:=by
 by_cases d:ST.ltP a b=true
 .exact xT d c
 .have hb:=ST.ltP_tot h (by simpa using d);have:=xT hb c;rw[dN]at this;have s:=E9 (l:=[a,b]) (m:=[b,a]) (λz=>by simp[or_comm]) k
  rw[s.1,s.2];exact this
def DK(l:List P2):Int:=if l.length=2 then gst (gp l 0,gp l 1) else 0
theorem BS(f:l.Nodup)(d:l≠[])(g:l.length<3)(c:0<=k):nK l k=DK l*k+1/\oj l k=0:=by
 have i:=LQ.mpr d;rcases (by lia:l.length=1\/l.length=2) with h |h
 .obtain⟨a,rfl⟩:=len1 h;have w:DK [a]=0:=rfl;rw[w,Rw];rcases L_ c with z |z
  .unfold nK oj f7;rw[tN z];have e:aj [a]=[a]:=rfl;rw[e]
   have r:d8 ([a].map (scl k))=1:=by
    unfold d8;rw[if_pos (by simp)];show gst (scl k a,scl k a)+1=_;unfold gst;simp
   have p:pin ([a].map (scl k))=0:=by unfold pin;rw[if_pos (by simp)]
   rw[r,p];exact⟨by lia,rfl⟩
  .rw[<-z];exact xo (by simp)
 .obtain⟨a,b,rfl⟩:=len2 h;exact C_ (by simpa using f) c
def aV(s:P2×P2)(x:Int):Int:=s.1.2*(s.2.1-s.1.1)+(x-s.1.1) *(s.2.2-s.1.2)
def pE(s:P2×P2)(x:Int):Int:=if s.1.1<=x/\x<s.2.1 then (-(aV s x))/(s.2.1-s.1.1) else 0
def pG(s:P2×P2)(x:Int):Int:=if s.2.1<=x/\x<s.1.1 then (-(aV s x))/(s.1.1-s.2.1)+1 else 0
def eJ(s:P2×P2)(x:Int):Int:=pE s x+pG s x
def fH(s:P2×P2)(a:Int):Int:=max a (min s.1.1 s.2.1)
def g9(s:P2×P2)(b a:Int):Int:=min (a+1) (max s.1.1 s.2.1)-fH s b
def oU(x:Int):Int:=if x<0 then -x else x
def gW(b a:Int)(s:P2×P2):Int:=if g9 s b a<1 then 0 else cT (g9 s b a).toNat (-(s.2.2-s.1.2)) (-(aV s (fH s b))) (oU (s.2.1-s.1.1))+(if s.2.1-s.1.1<0 then g9 s b a else 0)
theorem jW(a)(n):∀m,cf a (n+m)=cf a n++cf (a+n) m
 |0=>by show cf a n=cf a n++[];rw[Ny]
 |m+1=>by
  have s1:∀b k,cf b (k+1)=cf b k++[b+k]:=λb k=>by
   unfold cf;rw[Se,Md];rfl
  rw[<-PX,s1,jW a n m,s1,LH];congr 3;lia
theorem j8(l m:List Int):(l++m).sum=l.sum+m.sum:=by
 induction l with
 |nil=>simp
 |cons a l b=>rw[RL,NH,b,NH];lia
theorem sum_nil{α:Type}{l:List α}{f:α->Int}(h:∀x∈l,f x=0):(l.map f).sum=0:=by
 induction l with
 |nil=>rfl
 |cons a l b=>rw[LK,NH,h a (by simp),b λx c=>h x (Li _ c)];rfl
theorem yf{f:Int->Int}{a p:Int}{n m:Nat}(g:a<=p)(h:p+m<=a+n)(c:∀x,a<=x->x<a+n->(x<p\/p+m<=x)->f x=0):((cf a n).map f).sum=((cf p m).map f).sum:=by
 obtain⟨u,e⟩:∃u:Nat,p=a+u:=⟨(p-a).toNat,by lia⟩
 obtain⟨v,d⟩:∃v:Nat,n=u+(m+v):=⟨n-u-m,by lia⟩
 subst e d;rw[jW,jW,Md,Md,j8,j8,sum_nil,sum_nil (l:=cf (a+↑u+↑m) v)]
 .lia
 .intro x b;have:=bT.mp b;exact c x (by lia) (by lia) (.inr (by lia))
 .intro x b;have:=bT.mp b;exact c x (by lia) (by lia) (.inl (by lia))
theorem sj{a b m p:Int}(h:∀i:Nat,f (p+i)=(a*i+b)/m):∀n,((cf p n).map f).sum=cT n a b m
 |0=>rfl
 |n+1=>by
  rw[jW p n 1,Md,j8,sj h n,Aw];have e:cf (p+n) 1=[p+n]:=by unfold cf;simp
  rw[e];show _+([f (p+(n:Int))]).sum=_;rw[NH,h n];simp
theorem j7{α:Type}(l:List α)(f g:α->Int):(l.map λx=>f x+g x).sum=(l.map f).sum+(l.map g).sum:=by
 induction l with
 |nil=>rfl
 |cons a l b=>simp only[LK,NH];rw[b];lia
theorem y_{α:Type}(l:List α):(l.map λ_=>(1:Int)).sum=l.length:=by
 induction l with
 |nil=>rfl
 |cons a l b=>rw[LK,NH,b,LF];lia
theorem uu(s)(x i):-(aV s (x+i))=-(s.2.2-s.1.2) *i+-(aV s x):=by unfold aV;grind
theorem Il{s:P2×P2}{x:Int}(h:¬ (min s.1.1 s.2.1<=x/\x<max s.1.1 s.2.1)):eJ s x=0:=by
 unfold eJ pE pG;rw[if_neg λz=>h ⟨QR (Ux _ _) z.1,Su z.2 (RJ _ _)⟩,if_neg λz=>h ⟨QR (RK _ _) z.1,Su z.2 (Uy _ _)⟩];rfl
theorem qV(b a:Int)(s:P2×P2):fH s b+g9 s b a=min (a+1) (max s.1.1 s.2.1):=by
 unfold g9;rw[Ry,Int.sub_add_cancel]
theorem G1{a b x:Int}{s:P2×P2}(d:a<=x)(c:x<b+1)(h:¬ (fH s a<=x/\x<fH s a+g9 s a b)):eJ s x=0:=Il λk=>h ⟨Int.max_le.mpr ⟨d,k.1⟩,by rw[qV];exact Int.lt_min.mpr ⟨c,k.2⟩⟩
theorem Ab(left right)(s):gW left right s=((cf left (right+1-left).toNat).map (eJ s)).sum:=by
 have v:left<=fH s left:=Uy _ _;have n:min s.1.1 s.2.1<=fH s left:=RJ _ _;have w:fH s left+g9 s left right<=right+1:=by rw[qV];exact Ux _ _
 have k:fH s left+g9 s left right<=max s.1.1 s.2.1:=by rw[qV];exact RK _ _
 have j:∀x,left<=x->x<right+1->¬ (fH s left<=x/\x<fH s left+g9 s left right)->eJ s x=0:=λx q o h=>G1 q o h;unfold gW;generalize fH s left=f at *;generalize g9 s left right=m at *;by_cases l:m<1
 .rw[if_pos l];refine (sum_nil λx c=>?_).symm;have:=bT.mp c;exact j x this.1 (by omega) (by omega)
 .rw[if_neg l]
  have r:((cf left (right+1-left).toNat).map (eJ s)).sum=((cf f m.toNat).map (eJ s)).sum:=
   yf v (by omega) λx t y c=>j x t (by omega) (by omega)
  rw[r];by_cases d:s.2.1-s.1.1<0
  .rw[if_pos d];rw[QH (by omega)]at n
   rw[Q1 (by omega)]at k
   have g:oU (s.2.1-s.1.1)=s.1.1-s.2.1:=by unfold oU;rw[if_pos d,XE]
   rw[g]
   have e:(cf f m.toNat).map (eJ s)=(cf f m.toNat).map λx=>(-(aV s x))/(s.1.1-s.2.1)+1:=Oc λx c=>by
    have h:=bT.mp c;unfold eJ pE pG;rw[if_neg (by omega),if_pos (by omega),VR]
   have u:=sj (f:=λx=>(-(aV s x))/(s.1.1-s.2.1)) (a:=-(s.2.2-s.1.2)) (b:=-(aV s f)) (m:=s.1.1-s.2.1) (p:=f) (λi=>by rw[uu]) m.toNat;rw[e,j7,y_,u];congr 1;unfold cf;rw[Lg,SN];omega
  .rw[if_neg d];rw[PL (by omega)]at n
   rw[O7 (by omega)]at k
   have g:oU (s.2.1-s.1.1)=s.2.1-s.1.1:=by unfold oU;rw[if_neg d]
   rw[g]
   have e:(cf f m.toNat).map (eJ s)=(cf f m.toNat).map λx=>(-(aV s x))/(s.2.1-s.1.1):=Oc λx c=>by
    have h:=bT.mp c;unfold eJ pE pG;rw[if_pos (by omega),if_neg (by omega),RA]
   rw[e,sj (f:=λx=>(-(aV s x))/(s.2.1-s.1.1)) (a:=-(s.2.2-s.1.2)) (b:=-(aV s f)) (m:=s.2.1-s.1.1) (p:=f) (λi=>by rw[uu]) m.toNat,RA]
theorem Br{α b:Type}(L:List α)(X:List b)(F:α->b->Int):(L.map λs=>(X.map (F s)).sum).sum=(X.map λx=>(L.map λs=>F s x).sum).sum:=by
 induction L with
 |nil=>
  simp only[Uv,List.sum_nil];exact (sum_nil λ_ _=>rfl).symm
 |cons a L c=>
  simp only[LK,NH];rw[c,<-j7]
theorem nR{α:Type}{l:List α}(k:l.Nodup){f:α->Int}{a:α}(g:a∈l)(h:∀x∈l,x≠a->f x=0):(l.map f).sum=f a:=by
 induction l with
 |nil=>simp at g
 |cons b l j=>
  obtain⟨d,i⟩:=MG.mp k;rw[LK,NH];rcases Ll.mp g with e |e
  .subst e;rw[sum_nil λx c=>h x (Li _ c) λz=>d x c z.symm];lia
  .rw[j i e λx c=>h x (Li _ c),h b (by simp) λz=>d a e z];lia
def cO(l:List P2)(p:P2):Bool:=if l.length=1 then decide (p=gp l 0) else if l.length=2 then (decide (aq (gp l 0) (gp l 1) p=0) && (ST.leP (gp l 0) p && ST.leP p (gp l 1))) else (sdl l).all λs=>decide (0<=aq s.1 s.2 p)
theorem lz(a:3<=l.length)(p):cO l p=true↔∀s∈sdl l,0<=aq s.1 s.2 p:=by
 unfold cO;rw[if_neg (by lia),if_neg (by lia),O5];simp only[decide_eq_true_eq]
theorem sO(A B p):cO [A,B] p=true↔aq A B p=0/\ST.leP A p=true/\ST.leP p B=true:=by
 unfold cO;rw[if_neg (by simp),if_pos (by simp),MW,MW,decide_eq_true_eq];rfl
theorem o5(A p):cO [A] p=true↔p=A:=by
 unfold cO;rw[if_pos (by simp),decide_eq_true_eq];rfl
def pi(l:List P2)(x:Int):Int:=(((cf (loY l) (byN l)).filter λy=>cO l (x,y)).length:Nat)
theorem rQ{lo:Int}{m:Nat}(h:∀y,f y=true↔b<=y/\y<=t)(c:b<=t->lo<=b/\t<lo+m)(a:b<=t+1):(((cf lo m).filter f).length:Int)=t-b+1:=by
 have e:((cf lo m).filter f).length=(cf b (t-b+1).toNat).length:=by
  refine ((OY (RT _ (iW lo m)) (iW b _)).mpr λy=>?_).length_eq;rw[Mr,bT,bT,h];lia
 rw[e];unfold cf;rw[Lg,SN];lia
theorem kG(s)(x y):aq s.1 s.2 (x,y)=(s.2.1-s.1.1) *y-aV s x:=by unfold aq aV;grind
theorem Ew(h:s.1.1<s.2.1):0<=aq s.1 s.2 (x,y)↔-((-(aV s x))/(s.2.1-s.1.1))<=y:=by
 rw[kG];have:=OW (a:=-y) (b:=-(aV s x)) (show 0<s.2.1-s.1.1 by lia);have e:-y*(s.2.1-s.1.1)=-((s.2.1-s.1.1) *y):=by grind
 lia
theorem EQ(h:s.2.1<s.1.1):0<=aq s.1 s.2 (x,y)↔y<=(-(aV s x))/(s.1.1-s.2.1):=by
 rw[kG];have:=OW (a:=y) (b:=-(aV s x)) (show 0<s.1.1-s.2.1 by lia);have e:y*(s.1.1-s.2.1)=-((s.2.1-s.1.1) *y):=by grind
 lia
theorem gf(s t)(x):(s.2.1-x) *aq t.1 t.2 s.1+(x-s.1.1) *aq t.1 t.2 s.2=(t.2.1-t.1.1) *aV s x-(s.2.1-s.1.1) *aV t x:=by unfold aq aV;grind
theorem uc{f:P2->Bool}:∀l a,(∃x∈a::l,f x=true)->(∃y∈a::l,f y=false)->∃s∈sdl (a::l),f s.1=true/\f s.2=false:=by
 intro l a g hy;rw[rJ]
 have j:∀l b z,f b=true->(f z=false\/∃y∈l,f y=false)->∃s∈Xe (b::l) (l++[z]),f s.1=true/\f s.2=false:=by
  intro l
  induction l with
  |nil=>
   intro b z hb d;rcases d with h |⟨y,hy,_⟩
   .exact⟨(b,z),by simp,hb,h⟩
   .simp at hy
  |cons c l n=>
   intro b z hb d;rw[RL,Om];by_cases o:f c=true
   .obtain⟨s,m,k⟩:=n c z o (d.imp id λp=>by
     obtain⟨y,hy,h⟩:=p;rcases Ll.mp hy with e |e
     .rw[e,o]at h;cases h
     .exact⟨y,e,h⟩)
    exact⟨s,Li _ m,k⟩
   .exact⟨(b,c),by simp,hb,by simpa using o⟩
 have i:∀l b z,f z=false->(∃x∈b::l,f x=true)->∃s∈Xe (b::l) (l++[z]),f s.1=true/\f s.2=false:=by
  intro l
  induction l with
  |nil=>
   rintro b z d ⟨x,g,h⟩;rw[Lz.mp g]at h;exact⟨(b,z),by simp,h,d⟩
  |cons c l n=>
   rintro b z d ⟨x,g,h⟩;by_cases hb:f b=true
   .exact j (c::l) b z hb (.inl d)
   .rw[RL,Om]
    obtain⟨s,m,k⟩:=n c z d ⟨x,by
     rcases Ll.mp g with e |e
     .rw[e]at h;exact absurd h hb
     .exact e,h⟩
    exact⟨s,Li _ m,k⟩
 by_cases ha:f a=true
 .refine j l a a ha (.inr ?_);obtain⟨y,hy,h⟩:=hy;rcases Ll.mp hy with e |e
  .rw[e,ha]at h;cases h
  .exact⟨y,e,h⟩
 .exact i l a a (by simpa using ha) g
section
variable {l:List P2} (h3:3≤(aj l).length)
include h3
theorem jH(hs:s∈sdl (aj l))(a:t∈sdl (aj l)):0<=aq t.1 t.2 s.1/\0<=aq t.1 t.2 s.2:=⟨cu h3 a _ (aO _ _ (aX hs).1),cu h3 a _ (aO _ _ (aX hs).2)⟩
theorem EA(hs:s∈sdl (aj l))(c:t∈sdl (aj l))(e:s.1.1<=x)(m:x<s.2.1)(k:t.1.1<=x)(v:x<t.2.1):s=t:=by
 have a:=gf s t x;have b:=gf t s x;obtain⟨i,j⟩:=jH h3 hs c;obtain⟨d,g⟩:=jH h3 c hs;have q:=Lv (show 0<=s.2.1-x by omega) i;have u:=Lv (show 0<=x-s.1.1 by omega) j;have n:=Lv (show 0<=t.2.1-x by omega) d;have o:=Lv (show 0<=x-t.1.1 by omega) g;have f:(s.2.1-x) *aq t.1 t.2 s.1=0:=by omega
 have p:(t.2.1-x) *aq s.1 s.2 t.1=0:=by omega
 have h:=(Mo.mp f).resolve_left (by omega);rcases Bw h3 c (aX hs).1 h with r |r
 .obtain⟨A,B⟩:=s;obtain⟨C,D⟩:=t;dsimp only at r;subst r;rw[vV (aY l) hs c]
 .rw[r]at e;omega
theorem Ee(hs:s∈sdl (aj l))(f:t∈sdl (aj l))(I:s.2.1<=x)(Q:x<s.1.1)(O:t.2.1<=x)(k2:x<t.1.1):s=t:=by
 have a:=gf s t x;have b:=gf t s x;obtain⟨g,h⟩:=jH h3 hs f;obtain⟨H,K⟩:=jH h3 f hs;have V:=Lv (show 0<=x-s.2.1 by omega) g;have X:=Lv (show 0<=s.1.1-x by omega) h;have R:=Lv (show 0<=x-t.2.1 by omega) H;have S:=Lv (show 0<=t.1.1-x by omega) K;have P:(s.2.1-x) *aq t.1 t.2 s.1=-((x-s.2.1) *aq t.1 t.2 s.1):=by grind
 have W:(x-s.1.1) *aq t.1 t.2 s.2=-((s.1.1-x) *aq t.1 t.2 s.2):=by grind
 have T:(t.2.1-x) *aq s.1 s.2 t.1=-((x-t.2.1) *aq s.1 s.2 t.1):=by grind
 have U:(x-t.1.1) *aq s.1 s.2 t.2=-((t.1.1-x) *aq s.1 s.2 t.2):=by grind
 have J:(s.1.1-x) *aq t.1 t.2 s.2=0:=by omega
 have d:=(Mo.mp J).resolve_left (by omega);have Z:=kL h3 f;have Y:=kL h3 hs;rcases Bw h3 f (aX hs).2 d with r |r
 .rw[r]at I;omega
 .-- the same end:the same side
  obtain⟨A,B⟩:=s;obtain⟨C,D⟩:=t;dsimp only at *;subst r
  have q:A=C:=by
   obtain⟨i,y,n⟩:=Ln.mp hs;obtain⟨j,w,G⟩:=Ln.mp f;have y:=Mc.mp y;have w:=Mc.mp w
   have d:gp (aj l) ((i+1)%(aj l).length)=gp (aj l) ((j+1)%(aj l).length):=by
    have o:nxt (aj l) i=B:=congrArg OV n;have p:nxt (aj l) j=B:=congrArg OV G;unfold nxt at o p;rw[o,p]
   have E:0<(aj l).length:=by omega
   have inj:∀{u v:Nat},u<(aj l).length->v<(aj l).length->gp (aj l) u=gp (aj l) v->u=v:=λ{u v} k m e=>by
    have F:=aY l;have d:gp (aj l) u=(aj l)[u]:=by simp[gp,k]
    have c:gp (aj l) v=(aj l)[v]:=by simp[gp,m]
    rw[d,c]at e;rcases Pz u v with z |z |z
    .exact absurd e (LD.mp F u v k m z)
    .exact z
    .exact absurd e.symm (LD.mp F v u m k z)
   have c:=inj (M5 _ E) (M5 _ E) d
   have M:i=j:=by
    by_cases g:i+1<(aj l).length <;>by_cases h:j+1<(aj l).length
    .rw[LZ g,LZ h]at c;omega
    .rw[LZ g,show j+1=(aj l).length by omega,Pj]at c;omega
    .rw[LZ h,show i+1=(aj l).length by omega,Pj]at c;omega
    .omega
   have N:gp (aj l) i=A:=congrArg Ph n;have L:gp (aj l) j=C:=congrArg Ph G;rw[<-N,<-L,M]
  rw[q]
theorem AL(w:loX (aj l)<=x)(n:x<hiX (aj l)):∃s∈sdl (aj l),∃t∈sdl (aj l),(s.1.1<=x/\x<s.2.1)/\t.2.1<=x/\x<t.1.1:=by
 have d:aj l≠[]:=λe=>by rw[e]at h3;simp at h3
 have g:(aj l).map (·.1)≠[]:=by simpa using d
 obtain⟨p,b,B⟩:=Ln.mp (cy g).1;obtain⟨q,c,C⟩:=Ln.mp (c8 g).1;have h:p.1<=x:=by show p.1<=x;unfold loX at w;lia
 have k:x<q.1:=by unfold hiX at n;lia
 obtain⟨a,r,e⟩:=Qw d;rw[e]at b c;have i:=uc (f:=λz=>decide (z.1<=x)) r a ⟨p,b,by simpa using h⟩ ⟨q,c,by simpa using k⟩
 have j:=uc (f:=λz=>decide (x<z.1)) r a ⟨q,c,by simpa using k⟩ ⟨p,b,by simpa using h⟩;rw[<-e]at i j;obtain⟨s,o,v,u⟩:=i;obtain⟨t,A,m,y⟩:=j;exact⟨s,o,t,A,⟨by simpa using v,by simpa using u⟩,by simpa using y,by simpa using m⟩
theorem sF(hs:s∈sdl (aj l))(g:t∈sdl (aj l))(r:s.1.1<=x)(q:x<s.2.1)(o:t.2.1<=x)(v:x<t.1.1)(y):cO (aj l) (x,y)=true↔-((-(aV s x))/(s.2.1-s.1.1))<=y/\y<=(-(aV t x))/(t.1.1-t.2.1):=by
 rw[lz h3,<-Ew (by lia),<-EQ (by lia)];constructor
 .intro h;exact⟨h s hs,h t g⟩
 .rintro ⟨b,a⟩ w f;rw[kG]at b a |-;by_cases j:0<=w.2.1-w.1.1
  .have m:=gf s w x;obtain⟨c,d⟩:=jH h3 hs f;have k:=Lv (show 0<=s.2.1-x by lia) c;have n:=Lv (show 0<=x-s.1.1 by lia) d;have i:=Lv j b;have e:(s.2.1-s.1.1) *((w.2.1-w.1.1) *y-aV w x)=(w.2.1-w.1.1) *((s.2.1-s.1.1) *y-aV s x)+((w.2.1-w.1.1) *aV s x-(s.2.1-s.1.1) *aV w x):=by grind
   exact b_ (show 0<s.2.1-s.1.1 by lia) (by lia)
  .have m:=gf t w x;obtain⟨c,d⟩:=jH h3 g f;have k:=Lv (show 0<=x-t.2.1 by lia) c;have n:=Lv (show 0<=t.1.1-x by lia) d;have i:=Lv (show 0<=-(w.2.1-w.1.1) by lia) a;have p:(t.2.1-x) *aq w.1 w.2 t.1=-((x-t.2.1) *aq w.1 w.2 t.1):=by grind
   have u:(x-t.1.1) *aq w.1 w.2 t.2=-((t.1.1-x) *aq w.1 w.2 t.2):=by grind
   have e:(t.1.1-t.2.1) *((w.2.1-w.1.1) *y-aV w x)=-(w.2.1-w.1.1) *((t.2.1-t.1.1) *y-aV t x)-((w.2.1-w.1.1) *aV t x-(t.2.1-t.1.1) *aV w x):=by grind
   exact b_ (show 0<t.1.1-t.2.1 by lia) (by lia)
theorem EL(hs:s∈sdl (aj l))(j:t∈sdl (aj l))(r:s.1.1<=x)(p:x<s.2.1)(n:t.2.1<=x)(D:x<t.1.1):-((-(aV s x))/(s.2.1-s.1.1))<=(-(aV t x))/(t.1.1-t.2.1)+1:=by
 have m:=gf t s x;obtain⟨h,i⟩:=jH h3 j hs;have y:=Lv (show 0<=x-t.2.1 by lia) h;have C:=Lv (show 0<=t.1.1-x by lia) i;have o:(t.2.1-x) *aq s.1 s.2 t.1=-((x-t.2.1) *aq s.1 s.2 t.1):=by grind
 have B:(x-t.1.1) *aq s.1 s.2 t.2=-((t.1.1-x) *aq s.1 s.2 t.2):=by grind
 have c:0<s.2.1-s.1.1:=by lia
 have d:0<t.1.1-t.2.1:=by lia
 have e:=Ow (-(aV s x)) c;have f:=Ow (-(aV t x)) d;have u:(t.2.1-t.1.1) *aV s x=-((t.1.1-t.2.1) *aV s x):=by grind
 generalize (-(aV s x))/(s.2.1-s.1.1)=q at *;generalize (-(aV t x))/(t.1.1-t.2.1)=w at *;generalize s.2.1-s.1.1=a at *;generalize t.1.1-t.2.1=b at *
 have g:a* -(aV t x)-b*aV s x ≥ 0:=by
  have:a* -(aV t x)=-(a*aV t x):=by grind
  lia
 rcases M3 (w+1) (-q) with z |z
 .exfalso
  have k:b*(-(aV s x))<b*((q+1) *a):=OZ e d;have E:a*(-(aV t x))<a*((w+1) *b):=OZ f c;have F:0<=(a*b) *(-q-1-(w+1)):=Lv (Lv (by lia) (by lia)) (by lia);have A:b*(-(aV s x))=-(b*aV s x):=by grind
  have v:(a*b) *(-q-1-(w+1))=-(b*((q+1) *a))-a*((w+1) *b):=by grind
  lia
 .exact z
theorem DO(h:cO (aj l) (x,y)=true):(x,y)∈box (aj l):=uF h3 ((lz h3 _).mp h)
theorem zA(r:loX (aj l)<=x)(p:x<hiX (aj l)):((sdl (aj l)).map λs=>eJ s x).sum=pi (aj l) x:=by
 obtain⟨s,f,t,j,⟨g,d⟩,c,i⟩:=AL h3 r p;have o:=CA (aY l)
 have u:((sdl (aj l)).map λs=>pE s x).sum=(-(aV s x))/(s.2.1-s.1.1):=by
  rw[nR o f λw n h=>?_]
  .unfold pE;rw[if_pos ⟨g,d⟩]
  .unfold pE;rw[if_neg λ⟨a,b⟩=>h (EA h3 n f a b g d)]
 have q:((sdl (aj l)).map λs=>pG s x).sum=(-(aV t x))/(t.1.1-t.2.1)+1:=by
  rw[nR o j λw n h=>?_]
  .unfold pG;rw[if_pos ⟨c,i⟩]
  .unfold pG;rw[if_neg λ⟨a,b⟩=>h (Ee h3 n j a b c i)]
 unfold eJ;rw[j7,u,q];unfold pi;have h:aj l≠[]:=λe=>by rw[e]at h3;simp at h3
 have:=rQ (lo:=loY (aj l)) (m:=byN (aj l)) (sF h3 f j g d c i) (λk=>by
  have y:=(cQ h).mp (DO h3 ((sF h3 f j g d c i _).mpr ⟨OR _,k⟩));have v:=(cQ h).mp (DO h3 ((sF h3 f j g d c i _).mpr ⟨k,OR _⟩));unfold byN;dsimp only at y v;lia) (EL h3 f j g d c i)
 rw[this];lia
end
theorem xZ(h:x<loX l\/hiX l<=x):((sdl l).map λs=>eJ s x).sum=0:=by
 refine sum_nil λs a=>?_;have c:l≠[]:=λe=>by subst e;simp[sdl]at a
 have b:l.map (·.1)≠[]:=by simpa using c
 have i:=(cy b).2 s.1.1 (L9 (aX a).1);have d:=(cy b).2 s.2.1 (L9 (aX a).2);have g:=(c8 b).2 s.1.1 (L9 (aX a).1);have f:=(c8 b).2 s.2.1 (L9 (aX a).2);unfold loX hiX at h;unfold eJ pE pG;rw[if_neg (by lia),if_neg (by lia)];rfl
def hts(l:List P2):List Int:=(l.filter λp=>decide (p.1=hiX l)).map (·.2)
theorem og(b:l≠[]):hts l≠[]:=by
 have c:l.map (·.1)≠[]:=by simpa using b
 obtain⟨q,a,e⟩:=Ln.mp (c8 c).1;intro h;have:q.2∈hts l:=L9 (Mr.mpr ⟨a,by unfold hiX;simpa using e⟩);rw[h]at this;simp at this
theorem i6:y∈hts l↔(hiX l,y)∈l:=by
 unfold hts;rw[Ln];constructor
 .rintro ⟨p,b,rfl⟩;obtain⟨c,a⟩:=Mr.mp b;rw[<-of_decide_eq_true a];exact c
 .intro h;exact⟨(hiX l,y),Mr.mpr ⟨h,by simp⟩,rfl⟩
theorem jK(a:p∈l):p.1<=hiX l:=(c8 (by intro e;rw[U1.mp e]at a;simp at a)).2 _ (L9 a)
theorem w9(a:3<=(aj l).length)(y):cO (aj l) (hiX (aj l),y)=true↔iD (hts (aj l))<=y/\y<=hiL (hts (aj l)):=by
 have g:aj l≠[]:=λe=>by rw[e]at a;simp at a
 have q:=og g;obtain⟨l1,l2⟩:=cy q;obtain⟨p,G⟩:=c8 q;rw[lz a];constructor
 .intro h;have hy:(aj l).map (·.2)≠[]:=by simpa using g
  have d:∀b,(b=1\/b=-1)->∃z∈hts (aj l),b*y<=b*z:=λb hb=>by
   have f:=JD a (1+(hiY (aj l)-loY (aj l))) b h;obtain⟨⟨c,i,r⟩,_⟩:=rW (1+(hiY (aj l)-loY (aj l))) b g;rw[<-r]at f;unfold wth at f;dsimp only at f;have x:=(cy hy).2 c.2 (L9 i);have A:=(c8 hy).2 c.2 (L9 i);have w:=jK i;have top:=i6.mp p;have n:=(cy hy).2 _ (L9 top);have k:=(c8 hy).2 _ (L9 top);have j:=(rW (1+(hiY (aj l)-loY (aj l))) b g).2 _ top;rw[<-r]at j;unfold wth at j;dsimp only at j n k
   have t:c.1=hiX (aj l):=by
    rcases L_ w with z |z
    .exfalso
     have H:1<=1+(hiY (aj l)-loY (aj l)):=by unfold hiY loY;lia
     have m:(1+(hiY (aj l)-loY (aj l))) *1<=(1+(hiY (aj l)-loY (aj l))) *(hiX (aj l)-c.1):=Int.mul_le_mul_of_nonneg_left (by lia) (by lia);have e:(1+(hiY (aj l)-loY (aj l))) *(hiX (aj l)-c.1)=(1+(hiY (aj l)-loY (aj l))) *hiX (aj l)-(1+(hiY (aj l)-loY (aj l))) *c.1:=by grind
     unfold hiY loY at *;rcases hb with rfl |rfl <;>lia
    .exact z
   refine⟨c.2,i6.mpr (by rw[<-t];exact i),?_⟩;rw[t]at f;lia
  obtain⟨u,C,I⟩:=d 1 (.inl rfl);obtain⟨v,E,L⟩:=d (-1) (.inr rfl);have:=G u C;have:=l2 v E;lia
 .rintro ⟨K,J⟩ s o;have D:=cu a o _ (aO _ _ (i6.mp l1));have F:=cu a o _ (aO _ _ (i6.mp p));rw[kG]at D F |-;by_cases B:0<=s.2.1-s.1.1
  .have:=Lv B (show 0<=y-iD (hts (aj l)) by lia);have e:(s.2.1-s.1.1) *(y-iD (hts (aj l)))=(s.2.1-s.1.1) *y-(s.2.1-s.1.1) *iD (hts (aj l)):=by grind
   lia
  .have:=Lv (show 0<=-(s.2.1-s.1.1) by lia) (show 0<=hiL (hts (aj l))-y by lia);have e:-(s.2.1-s.1.1) *(hiL (hts (aj l))-y)=(s.2.1-s.1.1) *y-(s.2.1-s.1.1) *hiL (hts (aj l)):=by grind
   lia
theorem FT(h:ST.ltP A B=true):A.1<B.1\/(A.1=B.1/\A.2<B.2):=by
 exact of_decide_eq_true h
theorem DH(h:ST.ltP A B=true):loX [A,B]=A.1/\hiX [A,B]=B.1/\loY [A,B]=min A.2 B.2/\hiY [A,B]=max A.2 B.2:=by
 have:=FT h;exact⟨(by show min A.1 B.1=A.1;lia),(by show max A.1 B.1=B.1;lia),rfl,rfl⟩
theorem qT(h:ST.ltP A B=true)(a:cO [A,B] p=true):p∈box [A,B]:=by
 have:=(sO A B p).mp a;exact ((D4 h).mpr ((rL h).mp this)).1
theorem Fh(h:ST.ltP A B=true)(k:A.1<=x)(i:x<B.1):((sdl [A,B]).map λs=>eJ s x).sum=pi [A,B] x:=by
 have e:aV (B,A) x=-(aV (A,B) x):=by unfold aV;dsimp only;grind
 have r:eJ (A,B) x=(-(aV (A,B) x))/(B.1-A.1):=by
  unfold eJ pE pG;dsimp only;rw[if_pos ⟨k,i⟩,if_neg (by lia)];lia
 have n:eJ (B,A) x=aV (A,B) x/(B.1-A.1)+1:=by
  unfold eJ pE pG;dsimp only;rw[if_neg (by lia),if_pos ⟨k,i⟩,e,Int.neg_neg];lia
 rw[mN];show eJ (A,B) x+(eJ (B,A) x+0)=_;rw[r,n];have l:∀y,aq A B (x,y)=(B.1-A.1) *y-aV (A,B) x:=λy=>kG (A,B) x y;have g:0<B.1-A.1:=by lia
 have c:∀y,cO [A,B] (x,y)=true↔-((-(aV (A,B) x))/(B.1-A.1))<=y/\y<=aV (A,B) x/(B.1-A.1):=λy=>by
  rw[sO,l];have v:=OW (a:=-y) (b:=-(aV (A,B) x)) g;have C:=OW (a:=y) (b:=aV (A,B) x) g;have G:-y*(B.1-A.1)=-((B.1-A.1) *y):=by grind
  have p:y*(B.1-A.1)=(B.1-A.1) *y:=by grind
  unfold ST.leP;rw[decide_eq_true_eq,decide_eq_true_eq];constructor
  .rintro ⟨d,_,_⟩;lia
  .rintro ⟨u,t⟩;have d:(B.1-A.1) *y-aV (A,B) x=0:=by lia
   refine⟨d,?_,.inl i⟩;rcases L_ k with z |z
   .exact .inl z
   .refine .inr ⟨z,?_⟩;have:aV (A,B) x=(B.1-A.1) *A.2:=by unfold aV;rw[<-z];dsimp only;grind
    have o:(B.1-A.1) *(y-A.2)=0:=by grind
    have:=(Mo.mp o).resolve_left (by lia);lia
 have j:-((-(aV (A,B) x))/(B.1-A.1))<=aV (A,B) x/(B.1-A.1)+1:=by
  have E:=Ow (-(aV (A,B) x)) g;have F:=Ow (aV (A,B) x) g;generalize (-(aV (A,B) x))/(B.1-A.1)=q at *;generalize aV (A,B) x/(B.1-A.1)=w at *;rcases M3 (w+1) (-q) with z |z
  .exfalso
   have D:0<=(B.1-A.1) *(-q-1-(w+1)):=Lv (by lia) (by lia);have p:(B.1-A.1) *(-q-1-(w+1))=-((q+1) *(B.1-A.1))-(w+1) *(B.1-A.1):=by grind
   lia
  .exact z
 have:=rQ (lo:=loY [A,B]) (m:=byN [A,B]) c (λf=>by
  have u:=(cQ (by simp)).mp (qT h ((c _).mpr ⟨OR _,f⟩));have t:=(cQ (by simp)).mp (qT h ((c _).mpr ⟨f,OR _⟩));unfold byN;lia) j
 unfold pi;rw[this];lia
theorem Bh(h:ST.ltP A B=true)(y):cO [A,B] (hiX [A,B],y)=true↔iD (hts [A,B])<=y/\y<=hiL (hts [A,B]):=by
 have a:=DH h;have lt:=FT h;rw[sO,a.2.1];by_cases e:A.1=B.1
 .have b:hts [A,B]=[A.2,B.2]:=by
   unfold hts;rw[a.2.1,NW (by simpa using e),NW (by simp)];rfl
  rw[b];show _↔min A.2 B.2<=y/\y<=max A.2 B.2;unfold ST.leP aq;rw[decide_eq_true_eq,decide_eq_true_eq,e];simp;lia
 .have b:hts [A,B]=[B.2]:=by
   unfold hts;rw[a.2.1,Te (by simpa using e),NW (by simp)];rfl
  rw[b];show _↔B.2<=y/\y<=B.2;unfold ST.leP;rw[decide_eq_true_eq,decide_eq_true_eq];have d:aq A B (B.1,y)=(B.1-A.1) *(y-B.2):=by unfold aq;grind
  rw[d];constructor
  .rintro ⟨k,_,_⟩;have:=(Mo.mp k).resolve_left (by lia);lia
  .intro k;have:y-B.2=0:=by lia
   rw[this];simp;lia
structure Fld(l:List P2):Prop where
 ne:l≠[]
 cr:aj l=l
theorem Fld.cases(F:Fld l):(∃A,l=[A])\/(∃A B,l=[A,B]/\ST.ltP A B=true)\/3<=(aj l).length:=by
 match l,F with
 |[],F=>exact absurd rfl F.ne
 |[A],_=>exact .inl ⟨A,rfl⟩
 |[A,B],F=>exact .inr (.inl ⟨A,B,rfl,zm F.cr⟩)
 |A::B::C::r,F=>exact .inr (.inr (by rw[F.cr];simp))
theorem Fld.in_box(F:Fld l)(h:cO l p=true):p∈box l:=by
 rcases F.cases with ⟨A,rfl⟩ |⟨A,B,rfl,lt⟩ |a
 .rw[(o5 A p).mp h,xz];simp
 .exact qT lt h
 .rw[<-F.cr]at h |-;exact uF a ((lz a p).mp h)
theorem Fld.last(F:Fld l)(y):cO l (hiX l,y)=true↔iD (hts l)<=y/\y<=hiL (hts l):=by
 rcases F.cases with ⟨A,rfl⟩ |⟨A,B,rfl,lt⟩ |b
 .have a:hiX [A]=A.1:=rfl
  have c:hts [A]=[A.2]:=by
   unfold hts;rw[a,NW (by simp)];rfl
  rw[o5,a,c];show _↔A.2<=y/\y<=A.2;constructor
  .intro e;have:y=A.2:=congrArg OV e;lia
  .intro e;exact MS rfl (by dsimp only;lia)
 .exact Bh lt y
 .have:=w9 b y;rw[F.cr]at this;exact this
theorem Fld.colc_last(F:Fld l):pi l (hiX l)=hiL (hts l)-iD (hts l)+1:=by
 have b:=og F.ne;have o:=(c8 b).2 _ (cy b).1;refine rQ F.last (λa=>?_) (by lia);have d:=(cQ F.ne).mp (F.in_box ((F.last _).mpr ⟨OR _,a⟩));have c:=(cQ F.ne).mp (F.in_box ((F.last _).mpr ⟨a,OR _⟩));unfold byN;lia
theorem Fld.colc_out(F:Fld l)(h:x<loX l\/hiX l<x):pi l x=0:=by
 unfold pi
 have:(cf (loY l) (byN l)).filter (λy=>cO l (x,y))=[]:=T3.mpr λy _ k=>by
  have:=(cQ F.ne).mp (F.in_box k);lia
 rw[this];rfl
theorem Fld.col(F:Fld l)(c:loX l<=x)(b:x<hiX l):((sdl l).map λs=>eJ s x).sum=pi l x:=by
 rcases F.cases with ⟨A,rfl⟩ |⟨A,B,rfl,lt⟩ |a
 .have:loX [A]=A.1:=rfl;have:hiX [A]=A.1:=rfl;lia
 .have d:=DH lt;exact Fh lt (by lia) (by lia)
 .have:=zA a (x:=x);rw[F.cr]at this;exact this c b
def pU(l:List P2)(b a:Int):Int:=if hiX l<b\/a<hiX l then 0 else hiL (hts l)-iD (hts l)+1
def nk(l:List P2)(b a:Int):Int:=((sdl l).map (gW b a)).sum+pU l b a
theorem Fld.cols(F:Fld l)(left right):nk l left right=((cf left (right+1-left).toNat).map (pi l)).sum:=by
 unfold nk;have f:(sdl l).map (gW left right)=(sdl l).map λs=>((cf left (right+1-left).toNat).map (eJ s)).sum:=Oc λs _=>Ab left right s;rw[f,Br]
 have d:pU l left right=((cf left (right+1-left).toNat).map λx=>if x=hiX l then hiL (hts l)-iD (hts l)+1 else 0).sum:=by
  unfold pU;by_cases h:hiX l<left\/right<hiX l
  .rw[if_pos h];refine (sum_nil λx a=>?_).symm;have:=bT.mp a;rw[if_neg (by lia)]
  .rw[if_neg h,yf (p:=hiX l) (m:=1) (by lia) (by lia) λx _ _ a=>if_neg (by lia)];have e:cf (hiX l) 1=[hiX l]:=by unfold cf;simp
   rw[e];simp
 rw[d,<-j7];congr 1;refine Oc λx _=>?_;by_cases c:x<loX l
 .rw[xZ (.inl c),F.colc_out (.inl c),if_neg]
  .rfl
  .intro e;have a:l.map (·.1)≠[]:=by simpa using F.ne
   have:=(cy a).2 _ (c8 a).1;unfold loX at c;unfold hiX at e;lia
 .by_cases g:x<hiX l
  .rw[F.col (by lia) g,if_neg (by lia)];lia
  .rw[xZ (.inr (by lia))];by_cases b:x=hiX l
   .rw[if_pos b,b,F.colc_last];lia
   .rw[if_neg b,F.colc_out (.inr (by lia))];rfl
def vg(l:List P2)(x:Int):List Int:=(cf (loY l) (byN l)).filter λy=>cO l (x,y)
theorem qA(F:Fld l):y∈vg l x↔cO l (x,y)=true:=by
 unfold vg;rw[Mr,bT];constructor
 .exact λh=>h.2
 .intro h;have b:=(cQ F.ne).mp (F.in_box h);unfold byN;exact⟨by omega,h⟩
theorem BY(l)(x):(vg l x).Nodup:=RT _ (iW _ _)
def shf(s a b:Int)(p:P2):P2:=(p.1+a,p.2+s*p.1+b)
theorem Fa(s a b)(p q)(h:plt p q):plt (shf s a b p) (shf s a b q):=by
 unfold plt shf at *;rcases h with h |⟨h,k⟩
 .left;lia
 .right;rw[h];lia
theorem rE(s a b)(p q r):aq (shf s a b p) (shf s a b q) (shf s a b r)=aq p q r:=by unfold aq shf;grind
theorem Fe(e:shf s a b p=shf s a b q):p=q:=by
 have c:p.1+a=q.1+a:=congrArg Ph e;have d:p.2+s*p.1+b=q.2+s*q.1+b:=congrArg OV e;have c:p.1=q.1:=by lia
 rw[c]at d;exact MS c (by lia)
theorem Bk(s a b)(l):aj (l.map (shf s a b))=(aj l).map (shf s a b):=kM (Fa s a b) (λp q r=>by rw[rE]) l
theorem x4(s a b)(p q):ST.leP (shf s a b p) (shf s a b q)=ST.leP p q:=by
 unfold ST.leP shf;rw[QU,decide_eq_true_eq,decide_eq_true_eq];constructor
 .rintro (h |⟨h,k⟩)
  .left;lia
  .right
   have:p.1=q.1:=by lia
   rw[this]at k;lia
 .rintro (h |⟨h,k⟩)
  .left;lia
  .right;rw[h];lia
theorem wn{l:List P2}(h:i<l.length):gp (l.map f) i=f (gp l i):=by simp[gp,h]
theorem GO(s a b)(l)(g:l≠[])(p):cO (l.map (shf s a b)) (shf s a b p)=cO l p:=by
 have f:=LQ.mpr g;unfold cO;rw[Lg];by_cases d:l.length=1
 .rw[if_pos d,if_pos d,wn f];exact decide_eq_decide.mpr ⟨Fe,λe=>by rw[e]⟩
 .rw[if_neg d,if_neg d];by_cases c:l.length=2
  .rw[if_pos c,if_pos c,wn f,wn (show 1<l.length by lia),rE,x4,x4]
  .rw[if_neg c,if_neg c,sJ,VN];congr 1
   funext t
   show decide (0<=aq (shf s a b t.1) (shf s a b t.2) (shf s a b p))=_;rw[rE]
theorem Al(r:pts≠[]):∃i d,(aj pts)[0]?=some i/\i∈pts/\d∈pts/\(∀q∈pts,ST.ltP q i=false)/\(∀q∈pts,ST.ltP d q=false)/\(¬ 2<(aj pts).length->(aj pts)[(aj pts).length-1]?=some d):=by
 have l:∀{a b},(a=b\/plt a b)->ST.ltP b a=false:=λ{a b} h=>by
  rw[ST.ltP_no];rcases h with rfl |h
  .lia
  .unfold plt at h;lia
 by_cases m:2<=(ST.srt pts).length
 .have p:=cP pts;obtain⟨i,d,W⟩:=ways p m
  have o:aj pts=(ao (ST.srt pts)).reverse.dropLast++(ao (ST.srt pts).reverse).reverse.dropLast:=by
   unfold aj;rw[if_neg (by lia)]
  have f:=ce _ _ (LA.mp (LW W.t0));have g:=ce _ _ (LA.mp (LW W.t1));refine⟨i,d,?_,(ST.srt_mem _ _).mp f,(ST.srt_mem _ _).mp g,λq c=>l ((W.least q ((ST.srt_mem _ _).mpr c)).imp (λe=>e.symm) id),λq c=>l (W.most q ((ST.srt_mem _ _).mpr c)),λh=>?_⟩
  .have:=kj W (k:=0) (by lia);rw[Ss]at this;rw[o,this];exact W.t0
  .rw[o]at h |-;have n:=W.lt;have t:=W.lb;have s:((ao (ST.srt pts)).reverse.dropLast++(ao (ST.srt pts).reverse).reverse.dropLast).length=(ao (ST.srt pts)).reverse.length-1+((ao (ST.srt pts).reverse).reverse.length-1):=by simp
   have:=kj W (Lk _);rw[W.t1,LZ (by lia)]at this
   rw[<-this];congr 1;lia
 .have n:(ST.srt pts).length=1:=by
   obtain⟨x,j⟩:=Po pts r;have:=Nu ((ST.srt_mem x pts).mpr j);lia
  obtain⟨x,j⟩:=TN.mp n;have all:∀q∈pts,q=x:=λq c=>by have:=(ST.srt_mem q pts).mpr c;rw[j]at this;simpa using this
  have d:x∈pts:=(ST.srt_mem _ _).mp (by rw[j];simp);rw[c_ m,j];exact⟨x,x,rfl,d,d,λq c=>l (.inl (all q c).symm),λq c=>l (.inl (all q c)),λ_=>rfl⟩
theorem yn(L:Lin f d)(A B):gst (f A,f B)=gst (A,B):=by
 have:=Eh L (A,B);unfold sdf at this;split at this
 .exact this
 .rw[<-dN];exact this
theorem Du(L:Lin f d)(h:A≠B)(k):onS (f A,f B) k=f (onS (A,B) k):=by
 have o:0<gst (A,B):=jS h;have l:=jq (A,B);have i:=jp (A,B);have j:=yn L A B;obtain⟨a,b,c,e,_,g⟩:=L.ex
 have n:ub (f A,f B)=a*ub (A,B)+b*vb (A,B):=by
  unfold ub;rw[j];rw[g,g]
  rw[show a*B.1+b*B.2-(a*A.1+b*A.2)=gst (A,B) *(a*ub (A,B)+b*vb (A,B)) by
   have:a*B.1+b*B.2-(a*A.1+b*A.2)=a*(B.1-A.1)+b*(B.2-A.2):=by grind
   rw[this,l,i];grind]
  rw[NO _ (by omega)];rfl
 have m:vb (f A,f B)=c*ub (A,B)+e*vb (A,B):=by
  unfold vb;rw[j];rw[g,g]
  rw[show c*B.1+e*B.2-(c*A.1+e*A.2)=gst (A,B) *(c*ub (A,B)+e*vb (A,B)) by
   have:c*B.1+e*B.2-(c*A.1+e*A.2)=c*(B.1-A.1)+e*(B.2-A.2):=by grind
   rw[this,l,i];grind]
  rw[NO _ (by omega)];rfl
 unfold onS;rw[n,m];rw[g,g];exact MS (by dsimp only;grind) (by dsimp only;grind)
theorem Fy(h:A≠B)(k):onS (B,A) k=onS (A,B) (gst (A,B)-k):=by
 have f:=jq (A,B);have e:=jp (A,B);have b:=jq (B,A);have c:=jp (B,A);have d:0<gst (A,B):=jS h;rw[dN]at b c;dsimp only at *;have u:ub (B,A)=-ub (A,B):=MB (a:=gst (A,B)) (by lia) (by rw[UY];lia)
 have v:vb (B,A)=-vb (A,B):=MB (a:=gst (A,B)) (by lia) (by rw[UY];lia);unfold onS;rw[u,v];exact MS (by dsimp only;grind) (by dsimp only;grind)
def vA(A B p:P2):Prop:=∃k:Int,0<=k/\k<=gst (A,B)/\p=onS (A,B) k
theorem CT(h:A≠B)(p):vA B A p↔vA A B p:=by
 have a:∀{A B},A≠B->vA B A p->vA A B p:=λ{A B} h ⟨k,c,b,e⟩=>by
  rw[dN]at b;exact⟨gst (A,B)-k,by lia,by lia,by rw[e,Fy h]⟩
 exact⟨a h,a h.symm⟩
theorem F2(L:Lin f d)(h:A≠B)(p):vA (f A) (f B) (f p)↔vA A B p:=by
 unfold vA;rw[yn L];constructor
 .rintro ⟨k,b,a,e⟩;exact⟨k,b,a,L.inj (by rw[e,Du L h])⟩
 .rintro ⟨k,b,a,e⟩;exact⟨k,b,a,by rw[e,Du L h]⟩
theorem wW(h:ST.ltP A B=true)(p):cO [A,B] p=true↔vA A B p:=by rw[sO,rL h];rfl
theorem wv(h:A≠B):(ST.ltP A B=true/\aj [A,B]=[A,B])\/(ST.ltP B A=true/\aj [A,B]=[B,A]):=by
 by_cases a:ST.ltP A B=true
 .exact .inl ⟨a,k_ a⟩
 .have hb:=ST.ltP_tot h (by simpa using a);refine .inr ⟨hb,?_⟩;rw[e_ (fQ (m:=[B,A]) λz=>by simp[or_comm]),k_ hb]
theorem HV(L:Lin f d)(F:Fld l)(p):cO (aj (l.map f)) (f p)=cO l p:=by
 rw[QU];rcases F.cases with ⟨A,rfl⟩ |⟨A,B,rfl,lt⟩ |c
 .have e:aj ([A].map f)=[f A]:=rfl;rw[e,o5,o5];exact⟨λh=>L.inj h,λh=>by rw[h]⟩
 .have i:A≠B:=λe=>by rw[e,ST.asc_irr]at lt;cases lt
  have a:f A≠f B:=λe=>i (L.inj e);rw[wW lt,<-F2 L i];show cO (aj [f A,f B]) (f p)=true↔_;rcases wv a with ⟨h,e⟩ |⟨h,e⟩
  .rw[e,wW h]
  .rw[e,wW h,CT a]
 .have m:=lG L c;have g:3<=l.length:=by rw[<-F.cr];exact c
  rw[lz m,lz g];constructor
  .intro h s b;have:=h _ ((AR L c _).mpr ⟨s,by rw[F.cr];exact b,rfl⟩);unfold sdf at this;rcases L.one with e |e
   .rw[if_pos e]at this;rw[L.det,e,UZ]at this;exact this
   .rw[if_neg (by lia)]at this
    rw[L.det,e]at this;have j:aq s.2 s.1 p=-aq s.1 s.2 p:=by unfold aq;grind
    lia
  .intro h t n;obtain⟨s,b,rfl⟩:=(AR L c t).mp n;have k:=h s (by rw[F.cr]at b;exact b);unfold sdf;rcases L.one with e |e
   .rw[if_pos e];rw[L.det,e,UZ];exact k
   .rw[if_neg (by lia)];rw[L.det,e];have j:aq s.2 s.1 p=-aq s.1 s.2 p:=by unfold aq;grind
    lia
theorem Bx(h:a*d-b*c=1\/a*d-b*c=-1):Lin (λp:P2=>(a*p.1+b*p.2,c*p.1+d*p.2)) (a*d-b*c):=⟨h,a,b,c,d,rfl,λ_=>rfl⟩
theorem Dq(a b c d e f)(l:List P2):l.map (ap a b c d e f)=(l.map λp:P2=>(a*p.1+b*p.2,c*p.1+d*p.2)).map (shf 0 e f):=by
 rw[L4];refine Oc λp _=>?_;unfold ap shf;exact MS rfl (by dsimp only[Function.comp];lia)
theorem Gm(e f)(h:a*d-b*c=1\/a*d-b*c=-1)(F:Fld l)(p):cO (aj (l.map (ap a b c d e f))) (ap a b c d e f p)=cO l p:=by
 rw[Dq,Bk]
 have g:ap a b c d e f p=shf 0 e f (a*p.1+b*p.2,c*p.1+d*p.2):=by
  unfold ap shf;exact MS rfl (by dsimp only;lia)
 rw[g,GO _ _ _ _ (dL (by simpa using F.ne))];exact HV (Bx h) F p
theorem ww(e f)(F:Fld l):Fld (aj (l.map (ap a b c d e f))):=⟨dL (by simpa using F.ne),kZ _⟩
theorem IE(h:a*d-b*c=1\/a*d-b*c=-1)(k:ap a b c d e f p=ap a b c d e f q):p=q:=by
 refine (Bx h).inj ?_;have i:a*p.1+b*p.2+e=a*q.1+b*q.2+e:=congrArg Ph k;have g:c*p.1+d*p.2+f=c*q.1+d*q.2+f:=congrArg OV k;exact MS (by dsimp only;lia) (by dsimp only;lia)
theorem HE(h:a*d-b*c=1\/a*d-b*c=-1)(q):∃p,ap a b c d e f p=q:=by
 rcases h with h |h
 .refine⟨(d*(q.1-e)-b*(q.2-f),a*(q.2-f)-c*(q.1-e)),?_⟩;unfold ap;refine MS ?_ ?_
  .dsimp only;have:a*(d*(q.1-e)-b*(q.2-f))+b*(a*(q.2-f)-c*(q.1-e))=(a*d-b*c) *(q.1-e):=by grind
   rw[this,h];lia
  .dsimp only;have:c*(d*(q.1-e)-b*(q.2-f))+d*(a*(q.2-f)-c*(q.1-e))=(a*d-b*c) *(q.2-f):=by grind
   rw[this,h];lia
 .refine⟨(-(d*(q.1-e)-b*(q.2-f)),-(a*(q.2-f)-c*(q.1-e))),?_⟩;unfold ap;refine MS ?_ ?_
  .dsimp only;have:a* -(d*(q.1-e)-b*(q.2-f))+b* -(a*(q.2-f)-c*(q.1-e))=-((a*d-b*c) *(q.1-e)):=by grind
   rw[this,h];lia
  .dsimp only;have:c* -(d*(q.1-e)-b*(q.2-f))+d* -(a*(q.2-f)-c*(q.1-e))=-((a*d-b*c) *(q.2-f)):=by grind
   rw[this,h];lia
def dt(l:List P2)(f:P2->Bool):Int:=(((box l).filter λp=>cO l p && f p).length:Nat)
theorem oh(l):(box l).Nodup:=ye _ _ _ _
theorem f8(F:Fld l){f:P2->Bool}:p∈(box l).filter (λp=>cO l p && f p)↔cO l p=true/\f p=true:=by
 rw[Mr,MW];exact⟨λh=>h.2,λh=>⟨F.in_box h.1,h⟩⟩
theorem jM(F:Fld l)(h:∀p,cO l p=true->f p=g p):dt l f=dt l g:=by
 unfold dt;congr 1;refine jG (fV (oh l) _) (fV (oh l) _) λp=>?_;rw[f8 F,f8 F];exact⟨λk=>⟨k.1,by rw[<-h p k.1];exact k.2⟩,λk=>⟨k.1,by rw[h p k.1];exact k.2⟩⟩
theorem BG(e f)(h:a*d-b*c=1\/a*d-b*c=-1)(F:Fld l)(g:∀p,v (ap a b c d e f p)=u p):dt (aj (l.map (ap a b c d e f))) v=dt l u:=by
 have r:=ww (a:=a) (b:=b) (c:=c) (d:=d) e f F;unfold dt
 have o:((box (aj (l.map (ap a b c d e f)))).filter λp=>cO (aj (l.map (ap a b c d e f))) p && v p).length=(((box l).filter λp=>cO l p && u p).map (ap a b c d e f)).length:=by
  refine jG (fV (oh _) _) (PN _ (λi j (k:i≠j) q=>k (IE h q)) (fV (oh l) _)) λq=>?_;rw[f8 r,Ln];constructor
  .rintro ⟨m,n⟩;obtain⟨p,rfl⟩:=HE (e:=e) (f:=f) h q;rw[Gm e f h F]at m;rw[g]at n;exact⟨p,(f8 F).mpr ⟨m,n⟩,rfl⟩
  .rintro ⟨p,s,rfl⟩;obtain⟨m,n⟩:=(f8 F).mp s;rw[Gm e f h F,g];exact⟨m,n⟩
 rw[o,Lg]
theorem vt(F:Fld l)(left right):nk l left right=dt l λp=>decide (left<=p.1/\p.1<=right):=by
 rw[F.cols]
 have e:((cf left (right+1-left).toNat).map (pi l)).sum=(((cf left (right+1-left).toNat).map λx=>(vg l x).map λy=>((x,y):P2)).flatten.length):=by
  generalize cf left (right+1-left).toNat=X
  induction X with
  |nil=>rfl
  |cons x X g=>
   rw[LK,NH,g,LK,N7,LG,Lg];show ((vg l x).length:Int)+_=_;lia
 rw[e];congr 1;refine jG ?_ (fV (oh l) _) λp=>?_
 .refine Uw.mpr ⟨λq c=>?_,?_⟩
  .obtain⟨x,_,rfl⟩:=Ln.mp c;exact PN _ (λi j (h:i≠j) e=>h (congrArg OV e)) (BY l x)
  .refine MF.mpr ((iW left _).imp λ{a b} h p d q c e=>?_);obtain⟨_,_,rfl⟩:=Ln.mp d;obtain⟨_,_,rfl⟩:=Ln.mp c;exact h (congrArg Ph e)
 .rw[f8 F,V6,decide_eq_true_eq];constructor
  .rintro ⟨q,c,d⟩;obtain⟨x,k,rfl⟩:=Ln.mp c;obtain⟨y,hy,rfl⟩:=Ln.mp d;have:=bT.mp k;exact⟨(qA F).mp hy,by dsimp only;lia⟩
  .rintro ⟨f,m⟩;exact⟨_,Ln.mpr ⟨p.1,bT.mpr (by lia),rfl⟩,Ln.mpr ⟨p.2,(qA F).mpr f,rfl⟩⟩
theorem zB(w:P2->Int)(l):((sdl l).map λs=>w s.2).sum=((sdl l).map λs=>w s.1).sum:=by
 have b:((sdl l).map λs=>w s.2)=(l.drop 1++l.take 1).map w:=by rw[<-xR,L4];rfl
 have a:((sdl l).map λs=>w s.1)=(l.take 1++l.drop 1).map w:=by
  have:((sdl l).map λs=>w s.1)=((sdl l).map (·.1)).map w:=by rw[L4];rfl
  rw[Mb,this,qX]
 rw[b,a,Md,Md,Wz,Wz,Ry]
theorem tV(f:0<n)(c):2*cT n.toNat a (c*n) n=(a-1) *(n-1)+((PJ n a:Nat):Int)-1+2*(c*n):=by
 have e:=QJ (NQ f);have h:=Int.natCast_pos.mpr (Int.gcd_pos_of_ne_zero_left a (Pk f));have g:=QG n a;have k:=zj n.toNat a (c*n) (PJ n a) (by lia) h (Qv n a) (by rw[e];exact g) λd i b=>by rw[e]at b;exact Sb b i
 rw[e,Nt (Int.dvd_mul_of_dvd_right g)]at k;exact k
def vrt(s:P2×P2):Int:=if s.2.1=s.1.1 then s.2.2-s.1.2+gst s else 0
def wgh(p:P2):Int:=p.1*p.2-p.2+p.1
theorem zO{lo b:Int}(e:lo<=s.1.1)(f:s.1.1<=b)(d:lo<=s.2.1)(c:s.2.1<=b):2*gW lo b s=crs s+gst s-vrt s+(wgh s.1-wgh s.2):=by
 obtain⟨⟨x,y⟩,⟨u,v⟩⟩:=s;unfold gW g9 fH oU vrt wgh crs;dsimp only at *;rcases Int.lt_trichotomy x u with h |h |h
 .rw[show max lo (min x u)=x by omega,show min (b+1) (max x u)=u by omega,if_neg (show ¬ u-x<1 by omega),if_neg (show ¬ u-x<0 by omega),if_neg (show ¬ u-x<0 by omega),if_neg (show ¬ u=x by omega)];have k:=tV (n:=u-x) (a:=-(v-y)) (by omega) (-y);rw[Ww]at k;rw[show -(aV ((x,y),(u,v)) x)=-y*(u-x) by unfold aV;grind]
  show _=_+((PJ (u-x) (v-y)):Int)-0+_;grind
 .subst h;rw[if_pos (show min (b+1) (max x x)-max lo (min x x)<1 by omega),if_pos rfl];grind
 .rw[show max lo (min x u)=u by omega,show min (b+1) (max x u)=x by omega,if_neg (show ¬ x-u<1 by omega),if_pos (show u-x<0 by omega),if_pos (show u-x<0 by omega),if_neg (show ¬ u=x by omega)];have k:=tV (n:=x-u) (a:=-(v-y)) (by omega) v;rw[Ww,<-XD,XE]at k;rw[show -(aV ((x,y),(u,v)) u)=v*(x-u) by unfold aV;grind,show -(u-x)=x-u by omega]
  show _=_+((PJ (u-x) (v-y)):Int)-0+_;grind
theorem yg:∀{L:List (P2×P2)},(∀s∈L,2*f s=crs s+gst s-g s+(wgh s.1-wgh s.2))->2*(L.map f).sum=(L.map crs).sum+(L.map gst).sum-(L.map g).sum+((L.map λs=>wgh s.1).sum-(L.map λs=>wgh s.2).sum)
 |[],_=>rfl
 |s::L,h=>by
  have ih:=yg λt a=>h t (Li _ a);have b:=h s Lo;simp only[LK,NH];lia
theorem vT(a:p∈l):loX l<=p.1:=(cy (by intro e;rw[U1.mp e]at a;simp at a)).2 _ (L9 a)
theorem IM(l):2*((sdl l).map (gW (loX l) (hiX l))).sum=area l+dB l-((sdl l).map vrt).sum:=by
 have k:=yg (f:=gW (loX l) (hiX l)) λs c=>by
  obtain⟨b,a⟩:=aX c;exact zO (vT b) (jK b) (vT a) (jK a)
 rw[zB]at k;unfold area dB;lia
theorem Dy(x)(h:y<=v):gst ((x,y),(x,v))=v-y:=by
 show ((PJ (x-x) (v-y):Nat))=v-y;rw[RB,Int.zero_gcd];lia
theorem wq(x)(h:y<=v):vrt ((x,y),(x,v))=2*(v-y):=by
 unfold vrt;rw[if_pos rfl,Dy x h];dsimp only;lia
theorem vE(h:¬ (B.1=A.1/\A.2<B.2)):vrt (A,B)=0:=by
 obtain⟨x,y⟩:=A;obtain⟨u,v⟩:=B;by_cases e:u=x
 .subst e;have:=Dy u (show v<=y by lia);rw[dN]at this;unfold vrt;rw[if_pos rfl,this];dsimp only;lia
 .unfold vrt;rw[if_neg e]
theorem EK(F:Fld l)(H:2<=l.length):((sdl l).map vrt).sum=2*(hiL (hts l)-iD (hts l)):=by
 obtain⟨h,I⟩:=cy (og F.ne);obtain⟨j,G⟩:=c8 (og F.ne);rw[i6]at h j
 have f:∀{p},p∈l->p.1=hiX l->iD (hts l)<=p.2/\p.2<=hiL (hts l):=λ{p} t e=>by
  have:p.2∈hts l:=i6.mpr (by rw[<-e];exact t);exact⟨I _ this,G _ this⟩
 generalize iD (hts l)=y at *;generalize hiL (hts l)=v at *;rcases F.cases with ⟨A,rfl⟩ |⟨A,B,rfl,lt⟩ |C
 .simp at H
 .have U:=f (p:=A) (by simp);have Y:=f (p:=B) (by simp)
  have o:∀z,(hiX [A,B],z)∈[A,B]->(hiX [A,B]=A.1/\z=A.2)\/(hiX [A,B]=B.1/\z=B.2):=λz S=>by
   rcases Ll.mp S with e |e
   .exact .inl ⟨congrArg Ph e,congrArg OV e⟩
   .have e:=Lz.mp e;exact .inr ⟨congrArg Ph e,congrArg OV e⟩
  have r:=o _ h;have u:=o _ j;rw[mN];show vrt (A,B)+(vrt (B,A)+0)=_;rw[vE (B:=A) (by rcases FT lt with z |z <;>lia)];rcases FT lt with z |⟨K,X⟩
  .rw[vE (by lia)];lia
  .obtain⟨x,T⟩:=A;obtain⟨W,y2⟩:=B;subst K;rw[wq x (by lia)];lia
 .have Q:l.Nodup:=by rw[<-F.cr];exact aY l
  have n:∀{p},p∈l->p.1=hiX l->p.2=y\/p.2=v:=λ{p} t e=>by
   have i:=f t e;rcases (show p.2=y\/p.2=v\/(y<p.2/\p.2<v) by lia) with c |c |⟨o,E⟩
   .exact .inl c
   .exact .inr c
   .exfalso
    have M:=cH C (by rw[F.cr];exact t);obtain⟨_,a,b,k⟩:=M;have r:=k _ h (λz=>by rw[<-z]at o;dsimp only at o;lia);have u:=k _ j (λz=>by rw[<-z]at E;dsimp only at E;lia);unfold wth at r u;rw[e]at r u;rcases PU 0 b with z |z
    .have m:=Lv z (show 0<=v-p.2 by lia);rw[U0]at m;dsimp only at u;lia
    .have m:=Lv (show 0<=-b by lia) (show 0<=p.2-y by lia);rw[U0,Wx,Wx]at m;dsimp only at r;lia
  have one:∀s∈sdl l,s≠((hiX l,y),(hiX l,v))->vrt s=0:=λs g J=>by
   obtain⟨A,B⟩:=s;by_cases c:B.1=A.1/\A.2<B.2
   .exfalso
    have P:=cu C (by rw[F.cr];exact g);have w:A∈l:=(aX g).1;have N:B∈l:=(aX g).2;have d:0<=(B.1-A.1) *(y-A.2)-(B.2-A.2) *(hiX l-A.1):=P _ h;have R:=jK w
    have e:A.1=hiX l:=by
     rcases L_ R with z |z
     .have:=M6 (show 0<B.2-A.2 by lia) (show 0<hiX l-A.1 by lia);rw[c.1,RB,Rw]at d;lia
     .exact z
    have Z:=n w e;have p2:=n N (c.1.trans e);have V:=f w e;refine J (MS (MS e ?_) (MS (c.1.trans e) ?_)) <;>dsimp only <;>lia
   .exact vE c
  have D:=(f j rfl).1;by_cases c:y<v
  .have L:((hiX l,y),(hiX l,v))∈sdl l:=by
    have:=(jE C).mpr ⟨by rw[F.cr];exact h,by rw[F.cr];exact j,λz=>by have:=congrArg OV z;dsimp only at this;lia,λq O=>by
     have:=Lv (show 0<=v-y by lia) (show 0<=hiX l-q.1 by have:=jK (l:=l) (by rw[<-F.cr];exact O);lia);unfold aq;dsimp only;rw[RB,Rw];have e:(v-y) *(q.1-hiX l)=-((v-y) *(hiX l-q.1)):=by grind
     lia⟩
    rw[F.cr]at this;exact this
   rw[nR (CA Q) L one,wq _ D]
  .rw[sum_nil λs g=>?_]
   .lia
   .by_cases e:s=((hiX l,y),(hiX l,v))
    .rw[e,wq _ D];lia
    .exact one s g e
theorem xB(F:Fld l):f7 l=dt l λ_=>true:=by
 rcases (show l.length=1\/2<=l.length by have:=LQ.mpr F.ne;lia) with h1 |h2
 .obtain⟨A,rfl⟩:=L2.len1 h1;unfold dt;rw[xz,NW (by rw[(o5 A A).mpr rfl];rfl)];unfold f7 pin d8;rw[if_pos (by simp),if_pos (by simp)];unfold gst;simp
 .have e:(dt l λ_=>true)=nk l (loX l) (hiX l):=by
   rw[vt F];refine jM F λp b=>?_;have:=(cQ F.ne).mp (F.in_box b);exact (decide_eq_true this.1).symm
  have d:=IM l;have h:=EK F h2
  have c:loX l<=hiX l:=by
   obtain⟨p,b⟩:=Po _ F.ne;exact QR (vT b) (jK b)
  rw[e];unfold nk pU;rw[if_neg (by lia)];unfold f7 pin d8;by_cases a:l.length<3
  .obtain⟨A,B,rfl⟩:=L2.len2 (show l.length=2 by lia);have f:area [A,B]=0:=by unfold area;rw[mN];have:=Bq A B;show crs (A,B)+(crs (B,A)+0)=0;lia
   have g:dB [A,B]=2*gst (A,B):=by unfold dB;rw[mN];have:=dN A B;show gst (A,B)+(gst (B,A)+0)=_;lia
   rw[if_pos a,if_pos a];show 0+(gst (A,B)+1)=_;lia
  .rw[if_neg a,if_neg a];lia
def we(l:List P2)(a b c g s t:Int):Int:=if a=0/\b=0 then (if 0<=c then f7 (aj (l.map (scl 1))) else 0) else nk (aj (l.map (ap (a/g) (b/g) (-t) s 0 0))) (gp (aj (l.map (ap (a/g) (b/g) (-t) s 0 0))) 0).1 (c/g)
theorem Ed(b:l≠[]):∀p∈aj l,(gp (aj l) 0).1<=p.1:=λp d=>by
 obtain⟨f,g,a,_,_,c,_⟩:=Al b;have e:gp (aj l) 0=f:=by simp[gp,a]
 rw[e];have:=c p (aO _ p d);have:=of_decide_eq_false this;lia
theorem Bc(F:Fld l)(G:kW a b g s t):we l a b c g s t=dt l λp=>decide (a*p.1+b*p.2<=c):=by
 unfold we;by_cases i:a=0/\b=0
 .rw[if_pos i,i.1,i.2]
  have v:l.map (scl 1)=l:=by
   rw[show scl 1=id from funext λp=>yI p,Wu]
  rw[v,F.cr];by_cases j:0<=c
  .rw[if_pos j,xB F];exact jM F λp _=>(decide_eq_true (by simpa using j)).symm
  .rw[if_neg j];unfold dt
   have:(box l).filter (λp=>cO l p && decide (0*p.1+0*p.2<=c))=[]:=T3.mpr λp _ k=>by
    rw[MW,decide_eq_true_eq]at k;lia
   rw[this];rfl
 .rw[if_neg i]
  have y:0<g:=by
   rcases L_ G.g0 with z |z
   .exact z
   .exfalso
    have m:=Uz.mp (by rw[z];exact G.da);have u:=Uz.mp (by rw[z];exact G.db);exact i ⟨m,u⟩
  have n:=Nt G.da;have r:=Nt G.db
  have o:a/g*s-b/g* -t=1:=by
   have h:=G.eq;have:g*(a/g*s-b/g* -t)=g*1:=by rw[UR];grind
   exact MB (by lia) this
  have f:=ww (a:=a/g) (b:=b/g) (c:=-t) (d:=s) 0 0 F;rw[vt f];have A:=Ed (l:=l.map (ap (a/g) (b/g) (-t) s 0 0)) (by simpa using F.ne)
  rw[jM f (g:=λp=>decide (p.1<=c/g)) λp w=>by
   have hb:=(cQ f.ne).mp (f.in_box w);have B:(aj (l.map (ap (a/g) (b/g) (-t) s 0 0))).map (·.1)≠[]:=by simpa using f.ne
   obtain⟨q,x,e⟩:=Ln.mp (cy B).1;have:=A q x;unfold loX at hb;exact decide_eq_decide.mpr ⟨λk=>k.2,λk=>⟨by lia,k⟩⟩]
  refine BG 0 0 (.inl o) F λp=>decide_eq_decide.mpr ?_;unfold ap;rw[RA,OW y]
  have:(a/g*p.1+b/g*p.2) *g=a*p.1+b*p.2:=by
   rw[<-n,<-r];rw[NO _ (by lia),NO _ (by lia)];grind
  rw[this]
theorem tL{k f g h:P2->Bool}(e:∀p,(f p=true/\(g p=true/\h p=false\/g p=false/\h p=true))\/(f p=false/\g p=false/\h p=false)):∀W:List P2,((W.filter λp=>k p && f p).length:Int)=((W.filter λp=>k p && g p).length:Int)+((W.filter λp=>k p && h p).length:Int)
 |[]=>rfl
 |p::W=>by
  have ih:=tL (k:=k) e W;simp only[VW];rcases e p with ⟨a,⟨b,c⟩ |⟨b,c⟩⟩ |⟨a,b,c⟩ <;>rw[a,b,c] <;>cases k p <;>simp <;>lia
theorem BD(e:∀p,(f p=true/\(g p=true/\h p=false\/g p=false/\h p=true))\/(f p=false/\g p=false/\h p=false)):dt l f=dt l g+dt l h:=tL e _
theorem uC(l)(f):0<=dt l f:=by unfold dt;lia
theorem ud(l)(a b c):dt l (λp=>decide (a*p.1+b*p.2<=c))+dt l (λp=>decide (-a*p.1+-b*p.2<=-c-1))=dt l λ_=>true:=by
 refine (BD λp=>.inl ⟨rfl,?_⟩).symm;have e:-a*p.1+-b*p.2=-(a*p.1+b*p.2):=by grind
 rw[e];generalize a*p.1+b*p.2=w;by_cases h:w<=c
 .exact .inl ⟨decide_eq_true h,decide_eq_false (by lia)⟩
 .exact .inr ⟨decide_eq_false h,decide_eq_true (by lia)⟩
def AQ:List U->Out->Prop:=λa o=>∃l:List P2,a=[lp l]/\0<l.length/\l.length<=900/\(∀p∈l,Szp 2500 p)/\o=.val (.int (d8 l))
theorem wR:OkD P w base T.abt 4 (AQ):=by
 refine okD w8 (by walk_at"ln") ?_;rintro _ _ _ b ⟨l,rfl,c,p,sz,rfl⟩;have k:((l.map pu).length:Int)=(l.length:Int):=by rw[Lg]
 unfold d8;by_cases m:l.length<3
 .rw[if_pos m];refine ae (cD (au dG (aw (bR rfl) rfl T.aab LL (af (aa 0 rfl) am ah)) ag) (by rw[k];exact decide_eq_true (by lia)) ?_);have g:=sz _ (dq c);have h:=sz _ (dq (l:=l) (i:=l.length-1) (by lia));obtain⟨d,a,G⟩:=oJ ((gp l (l.length-1)).1-(gp l 0).1) ((gp l (l.length-1)).2-(gp l 0).2);refine ae (aF (bK (aR (uS T) b (af (aD (aa 0 rfl) ag rfl (IP c)) (af (aD (aa 0 rfl) (dl ag) rfl (E4 c)) am aN) aN) ⟨_,_,_,_,_,d,a,rfl,⟨g.1.mono (by decide),g.2.mono (by decide),h.1.mono (by decide),h.2.mono (by decide)⟩,G,rfl⟩) ag) ?_);exact rfl
 .rw[if_neg m];refine ae (aE (au dG (aw (bR rfl) rfl T.aab LL (af (aa 0 rfl) am ah)) ag) (by rw[k];exact decide_eq_false (by lia)) (ay ?_));refine ae (aF (aw (vI rfl ) rfl T.abu boot_sum (af (EvN.ev (bO (ys:=(((sdl l).map gst).map U.int)) rfl (blk (ai DC) ["land","A","B"] [1,2] rfl rfl rfl rfl (by decide+kernel)) (EvI.z (bV (EvN.ev (df (jZ T) b (af (aa 0 rfl) am ah) ⟨l,rfl,p,rfl⟩)) (.inl rfl))) (λ_ _ _ _=>jI rfl (bJ (aM (i:=1) w8.nd rfl (Or.inl rfl)) (bJ (aM (i:=2) w8.nd rfl (Or.inl rfl)) ft))) (gw (js:=[1,2]) (by decide)) ?clen ?csz ?dom ?celt)) am dg)) ?_)
  case clen=>simp
  case csz=>simp only[gM,Lg];exact Lu (aB (by lia))
  case dom=>
   intro x e;obtain⟨s,_,rfl⟩:=Ln.mp e;exact⟨_,rfl,rfl⟩
  case celt=>
   intro C q t u j x y e hy;rw[L4]at hy;obtain⟨s,r,o,rfl,rfl⟩:=b7 e hy;obtain⟨f,n⟩:=aX o;obtain⟨d,a,G⟩:=oJ (s.2.1-s.1.1) (s.2.2-s.1.2);exact (aR (uS T) b (af (aa 1 rfl) (af (aa 2 rfl) am ah) ah) ⟨_,_,_,_,_,d,a,rfl,⟨(sz _ f).1.mono (by decide),(sz _ f).2.mono (by decide),(sz _ n).1.mono (by decide),(sz _ n).2.mono (by decide)⟩,G,rfl⟩)
  exact rfl
theorem DJ(a:Sz n k)(s:Szp m p):Szp (n+m) (scl k p):=⟨L2.Sz.mul a s.1,L2.Sz.mul a s.2⟩
def p8:List U->Out->Prop:=λa o=>∃(pts:List P2) (k:Int),a=[lp pts,.int k]/\Sz 1000 k/\(∀p∈pts,Szp 3000 p)/\pts≠[]/\pts.length<64/\o=.new ((aj (pts.map (scl k))).map pu)
theorem xP:OkD P w base T.abb 5 (p8):=by
 refine okD yr (by walk_at"ln") ?_;rintro _ _ _ e ⟨pts,k,rfl,c,sz,d,f,rfl⟩;refine ae (cX (df (ka T) e (af (EvN.ev (bO (ys:=(pts.map λp=>pu (scl k p))) rfl (blk (ai vH) ["land","k","P"] [2] rfl rfl rfl rfl (by decide+kernel)) (EvI.z (bV (aa 0 rfl) (.inl rfl))) (λ_ _ _ _=>aM (i:=2) yr.nd rfl (Or.inl rfl)) (bL (by decide)) ?clen ?csz (λ_ _=>trivial) ?celt)) am dg) ⟨pts.map (scl k),by rw[lp,L4];rfl,λp b=>by obtain⟨q,g,rfl⟩:=Ln.mp b;have z:=DJ c (sz q g);exact⟨z.1.mono (by decide),z.2.mono (by decide)⟩,by rw[Lg];exact f,by simpa using d,rfl⟩) ?_)
 case clen=>simp
 case csz=>rw[Lg];exact Lu (aB (by lia))
 case celt=>
  intro C l o r j x y h hy;obtain⟨p,b,a,rfl,rfl⟩:=b7 h hy;have n:=(sz p a).1;have m:=(sz p a).2;exact (bU (aA (aZ (aa 1 rfl) (aD (aa 2 rfl) ag rfl rfl) (by walk_at"mul")) (aA (aZ (aa 1 rfl) (aD (aa 2 rfl) ag rfl rfl) (by walk_at"mul")) bC aQ) aQ))
 exact rfl
def AF:List U->Out->Prop:=λa o=>∃(pts:List P2) (k:Int),a=[lp pts,.int k]/\0<=k/\Sz 1000 k/\(∀p∈pts,Szp 3000 p)/\pts≠[]/\pts.length<64/\o=.new ((aj (pts.map (scl k))).map pu)
theorem lP:OkD P w base T.aa4 6 (AF):=by
 refine okD uZ (by walk_at"ln") ?_;rintro _ _ _ d ⟨pts,k,rfl,e,b,sz,a,c,rfl⟩;refine ae (aE (au dG (aa 1 rfl) ag) (decide_eq_false (by lia)) (ay ?_));refine ae (cX (df (xP T) d (af (aa 0 rfl) (af (aa 1 rfl) am ah) ah) ⟨pts,k,rfl,b,sz,a,c,rfl⟩) ?_);exact rfl
def Dj:List U->Out->Prop:=λa o=>∃l:List P2,a=[lp l]/\l.length<=900/\(∀p∈l,Szp 2500 p)/\o=.val (.int (pin l))
theorem jQ:OkD P w base T.aaQ 5 (Dj):=by
 refine okD qO (by walk_at"ln") ?_;rintro _ _ _ d ⟨l,rfl,b,sz,rfl⟩;have c:((l.map pu).length)=l.length:=by rw[Lg]
 by_cases a:l.length<3
 .refine ae (cD (au dG (aw (bR rfl) rfl T.aab LL (af (aa 0 rfl) am ah)) ag) (by rw[c];exact decide_eq_true (by lia)) ?_);refine ae (aF ag ?_);exact vIO (by unfold pin;rw[if_pos a])
 .refine ae (aE (au dG (aw (bR rfl) rfl T.aab LL (af (aa 0 rfl) am ah)) ag) (by rw[c];exact decide_eq_false (by lia)) (ay ?_));have e:d8 l=dB l:=by unfold d8;rw[if_neg a]
  refine ae (aF (cU (bK (bg (aR (cB T) d (af (aa 0 rfl) am ah) ⟨l,rfl,b,sz,rfl⟩) (aR (wR T) d (af (aa 0 rfl) am ah) ⟨l,rfl,by lia,b,sz,rfl⟩)) ag) ag (by walk_at"div")) ?_);exact vIO (by unfold pin;rw[if_neg a,e])
theorem wG{pts:List P2}(c:Sz 1000 k)(b:∀p∈pts,Szp 1500 p):∀p∈aj (pts.map (scl k)),Szp 2500 p:=λp d=>by
 obtain⟨q,a,rfl⟩:=Ln.mp (aO _ p d);exact DJ c (b q a)
def vR:List U->Out->Prop:=λa o=>∃(pts:List P2) (k:Int),a=[lp pts,.int k]/\0<=k/\Sz 1000 k/\(∀p∈pts,Szp 1500 p)/\pts≠[]/\pts.length<64/\o=.val (.int (f7 (aj (pts.map (scl k)))))
theorem t_  :cj P w K mg base (CXF P w) 7 T.aah.a T.aah.d ["land","k"] (spU K (vR)):=by
 refine AY T.aah.F tf (λm o h=>?_) (λl A f s H E O m o e h=>?_)
 .obtain⟨pts,k,rfl,g,b,sz,c,i,rfl⟩:=h;rfl
 obtain⟨pts,k,rfl,g,b,sz,c,i,rfl⟩:=h;refine Ws.nox ?_;have j:(aj (pts.map (scl k))).length<=900:=LN (fC _) (by rw[Lg];lia);have n:0<(aj (pts.map (scl k))).length:=LQ.mpr (dL (by simpa using c));refine ae (ax 2 tf.nd (EvN.ev (df (lP T) e (af (aa 0 rfl) (af (aa 1 rfl) am ah) ah) ⟨pts,k,rfl,g,b,bw (by decide) sz,c,i,rfl⟩)) ?_);refine ae (aF (bK (aR (jQ T) e (af (aa 2 rfl) am ah) ⟨_,rfl,j,wG b sz,rfl⟩) (aR (wR T) e (af (aa 2 rfl) am ah) ⟨_,rfl,n,j,wG b sz,rfl⟩)) ?_);exact rfl
def xh:List U->Out->Prop:=λa o=>∃(pts:List P2) (k:Int),a=[lp pts,.int k]/\0<=k/\Sz 1000 k/\(∀p∈pts,Szp 1500 p)/\pts≠[]/\pts.length<64/\o=.val (.int (pin (aj (pts.map (scl k)))))
theorem nH  :cj P w K mg base (CXF P w) 7 T.aae.a T.aae.d ["land","k"] (spU K (xh)):=by
 refine AY T.aae.F oM (λl o h=>?_) (λj A c s H E O l o g h=>?_)
 .obtain⟨pts,k,rfl,e,b,sz,f,i,rfl⟩:=h;rfl
 obtain⟨pts,k,rfl,e,b,sz,f,i,rfl⟩:=h;refine Ws.nox ?_;have m:(aj (pts.map (scl k))).length<=900:=LN (fC _) (by rw[Lg];lia);refine ae (aF (aR (jQ T) g (af (EvN.ev (df (lP T) g (af (aa 0 rfl) (af (aa 1 rfl) am ah) ah) ⟨pts,k,rfl,e,b,bw (by decide) sz,f,i,rfl⟩)) am be) ⟨_,rfl,m,wG b sz,rfl⟩) ?_);exact rfl
theorem Gu(a b:Int):(if b<a then b else a)=min a b:=by
 rcases M3 b a with h |h
 .rw[if_pos h,QH (NQ h)]
 .rw[if_neg (XS.mpr h),PL h]
theorem Gn(a b:Int):(if b >a then b else a)=max a b:=by
 rcases M3 a b with h |h
 .rw[if_pos h,O7 (NQ h)]
 .rw[if_neg (XS.mpr h),Q1 h]
theorem JJ{n:Nat}{a b:Int}(d:Sz n a)(c:Sz n b):Sz n (min a b):=by
 rcases PU a b with h |h
 .rw[PL h];exact d
 .rw[QH h];exact c
theorem Ko{n:Nat}{a b:Int}(d:Sz n a)(c:Sz n b):Sz n (max a b):=by
 rcases PU a b with h |h
 .rw[O7 h];exact c
 .rw[Q1 h];exact d
theorem Hy{A B:P2}{l r:Int}(h:¬ g9 (A,B) l r<1):(g9 (A,B) l r).natAbs<=(B.1-A.1).natAbs:=by
 obtain⟨a,_⟩:=A;obtain⟨b,_⟩:=B;unfold g9 fH at *;dsimp only at *;have e:=RK (r+1) (max a b);have d:=RJ l (min a b);generalize min (r+1) (max a b)=x at *;generalize max l (min a b)=y at *;rcases PU a b with c |c
 .rw[O7 c]at e;rw[PL c]at d;lia
 .rw[Q1 c]at e;rw[QH c]at d;lia
def wz:List U->Out->Prop:=λc o=>∃(A B:P2) (b a:Int),c=[pu A,pu B,.int b,.int a]/\Szp 1000 A/\Szp 1000 B/\Sz 1000 b/\Sz 1000 a/\o=.val (.int (gW b a (A,B)))
theorem sq:OkD P w base T.aaR 2 (wz):=by
 refine okD cN (by walk_at"ln") ?_;rintro _ _ _ t ⟨A,B,a,b,rfl,⟨h,i⟩,⟨j,E⟩,u,F,rfl⟩;have l:(if (if B.1<A.1 then B.1 else A.1) >a then (if B.1<A.1 then B.1 else A.1) else a)=fH (A,B) a:=by rw[Gu];exact Gn a _
 have s:(if (if B.1 >A.1 then B.1 else A.1)<b+1 then (if B.1 >A.1 then B.1 else A.1) else b+1)-fH (A,B) a=g9 (A,B) a b:=by rw[Gn,Gu];rfl
 have C:Sz 1000 (fH (A,B) a):=Ko u (JJ h j);have c:Sz 1001 (B.1-A.1):=(L2.Sz.sub' j h).mono (by decide);have d:Sz 1001 (B.2-A.2):=(L2.Sz.sub' E i).mono (by decide);refine ae (ax 4 cN.nd (bg (aD (aa 1 rfl) ag rfl rfl) (aD (aa 0 rfl) ag rfl rfl)) ?_);refine ae (ax 5 cN.nd (bg (aD (aa 1 rfl) ag rfl rfl) (aD (aa 0 rfl) ag rfl rfl)) ?_);refine ae (ax 6 cN.nd (aw (BJ rfl) rfl T.aa8 Vl (af (aa 2 rfl) (af (aw (xO rfl) rfl T.abf V9 (af (aD (aa 0 rfl) ag rfl rfl) (af (aD (aa 1 rfl) ag rfl rfl) am aN) aN)) am be) ah)) ?_);rw[l];refine ae (ax 7 cN.nd (bg (aw (xO rfl) rfl T.abf V9 (af (bK (aa 3 rfl) ag) (af (aw (BJ rfl) rfl T.aa8 Vl (af (aD (aa 0 rfl) ag rfl rfl) (af (aD (aa 1 rfl) ag rfl rfl) am aN) aN)) am be) aQ)) (aa 6 rfl)) ?_);rw[s];refine ae (lD (au dG (aa 7 rfl) ag) (λq=>?_) (λx=>(ay ?_)))
 .refine ae (aF ag ?_);exact vIO (by unfold gW;rw[if_pos (dTb q)])
 .have f:=dFb x;have e:(g9 (A,B) a b).natAbs<=(B.1-A.1).natAbs:=Hy f
  have v:Sz 3000 (g9 (A,B) a b):=by
   exact (Sz.le (y:=B.1-A.1) e c).mono (by decide)
  have o:B.1-A.1≠0:=λz=>by rw[z]at e;simp at e;rw[e]at f;exact f (by decide)
  have m:Sz 2010 (aV (A,B) (fH (A,B) a)):=by
   unfold aV;exact (L2.Sz.add' (L2.Sz.mul (i.mono (n:=1002) (by decide)) (c.mono (n:=1002) (by decide))) (L2.Sz.mul ((L2.Sz.sub' C h).mono (n:=1002) (by decide)) (d.mono (n:=1002) (by decide)))).mono (by decide)
  have p:Sz 3000 (oU (B.1-A.1)):=by
   refine (Sz.le (y:=B.1-A.1) ?_ c).mono (by decide);unfold oU;split <;>omega
  have D:0<oU (B.1-A.1):=by unfold oU;split <;>omega
  have k:Sz 3000 (-(B.2-A.2)):=(Sz.le (y:=B.2-A.2) (by omega) d).mono (by decide);have r:Sz 3000 (-(aV (A,B) (fH (A,B) a))):=(Sz.le (y:=aV (A,B) (fH (A,B) a)) (by omega) m).mono (by decide);refine ae (ax 8 cN.nd (aR (v9 T) t (af (aa 7 rfl) (af (dl (aa 5 rfl)) (af (dl (bK (aZ (aD (aa 0 rfl) ag rfl rfl) (aa 4 rfl) (by walk_at"mul")) (aZ (bg (aa 6 rfl) (aD (aa 0 rfl) ag rfl rfl)) (aa 5 rfl) (by walk_at"mul")))) (af (aw nM rfl T.aa0 PyProof.Rows.boot_abs (af (aa 4 rfl) am ah)) am be) lg) lg) ah) ⟨g9 (A,B) a b,-(B.2-A.2),-(aV (A,B) (fH (A,B) a)),oU (B.1-A.1),rfl,by omega,D,v,k,r,p,rfl⟩) ?_);refine ae (aF (Gx (au dG (aa 4 rfl) ag) (bK (aa 8 rfl) (aa 7 rfl)) (aa 8 rfl)) ?_);refine congrArg Out.val ?_;unfold gW;rw[if_neg f];dsimp only;by_cases g:B.1-A.1<0
  .rw[if_pos (decide_eq_true g),if_pos g]
  .rw[if_neg (by simpa using g),if_neg g,RA]
theorem A8:∀{l},l≠[]->∃M∈l,∀q∈l,ST.ltP M q=false
 |[],h=>absurd rfl h
 |[a],_=>⟨a,by simp,λq c=>by rw[Lz.mp c];exact ST.asc_irr⟩
 |a::b::l,_=>by
  obtain⟨M,d,k⟩:=A8 (l:=b::l) (by simp);by_cases h:ST.ltP M a=true
  .refine⟨a,by simp,λq c=>?_⟩;rcases Ll.mp c with e |e
   .rw[e];exact ST.asc_irr
   .cases hz:ST.ltP a q with
    |false=>rfl
    |true=>have:=ST.ltP_tr h hz;rw[k q e]at this;cases this
  .refine⟨M,Li _ d,λq c=>?_⟩;rcases Ll.mp c with e |e
   .rw[e];simpa using h
   .exact k q e
theorem Jh(d:l≠[]){M:P2}(g:M∈l)(h:∀q∈l,ST.ltP M q=false):M.1=hiX l:=by
 have f:l.map (·.1)≠[]:=by simpa using d
 obtain⟨q,c,e⟩:=Ln.mp (c8 f).1;have a:=jK g;have b:=h q c;unfold ST.ltP at b;have b:=of_decide_eq_false b;unfold hiX at *;lia
def fht(l:List P2)(p:P2):Option U:=if p.1=hiX l then some (.int p.2) else none
theorem yH(l):∀m:List P2,(m.map (fht l)).filterMap id=((m.filter λp=>decide (p.1=hiX l)).map (·.2)).map U.int
 |[]=>rfl
 |p::m=>by
  have ih:=yH l m;rw[LK];by_cases h:p.1=hiX l
  .rw[NW (by simpa using h)];unfold fht at *;rw[if_pos h];simp only[List.filterMap_cons_some (id_eq _),LK];rw[ih]
  .rw[Te (by simpa using h)];unfold fht at *;rw[if_neg h];simp only[List.filterMap_cons_none (id_eq _)];rw[ih]
def z8:List U->Out->Prop:=λc o=>∃(l:List P2) (b a:Int),c=[lp l,.int b,.int a]/\l≠[]/\l.length<=900/\o=.val (.int (pU l b a))
theorem oo:OkD P w base T.aaA 1 (z8):=by
 refine okD dw (by walk_at"ln") ?_;rintro _ _ _ u ⟨l,g,f,rfl,e,G,rfl⟩;obtain⟨M,m,h⟩:=A8 e;have D:=Jh e m h;have n:=og e;refine ae (uT (i:=3) dw.nd rfl (Or.inr rfl) (aD (aw (Hq rfl (jP u) m h) rfl T.aa8 Vl (af (aa 0 rfl) am ah)) ag rfl rfl) ?_);rw[D];unfold pU;refine ae (lD (Tw.t (jh (au dG (aa 3 rfl) (aa 1 rfl)) (λH=>(ix (au fP (aa 3 rfl) (aa 2 rfl)))))) (λr=>?_) (λA=>(ay ?_)))
 .refine ae (aF ag ?_);refine vIO ?_;rw[if_pos];simpa using r
 .refine ae (nj (l.map (fht l)) (j:=4) false rfl dw.nd rfl (Or.inl rfl) (blk (ai fO) ["land","left","right","x","heights","P"] [5] rfl rfl rfl rfl (by decide+kernel)) (EvI.z (bV (aa 0 rfl) (.inl rfl))) (λ_ _ _ _=>aM (i:=5) dw.nd rfl (Or.inl rfl)) (bL (by decide)) ?clen ?csz (λ_ _=>trivial) ?ctest ?celt ?_)
  case clen=>rw[Lg,Lg]
  case csz=>rw[Lg];exact Lu (aB (by lia))
  case ctest=>
   intro C q v E j x o c d
   obtain⟨p,a,F,rfl,b⟩:∃p,l[j]?=some p/\p∈l/\x=pu p/\o=fht l p:=by
    rw[Lq]at c d;obtain⟨p,a,rfl⟩:=Qa.mp c;rw[a]at d;exact⟨p,a,LW a,rfl,(Ma d).symm⟩
   subst b;rw[show (fht l p).isSome=decide (p.1=hiX l) by unfold fht;by_cases k:p.1=hiX l <;>simp[k]];exact (au f6 (aD (aa 5 rfl) ag rfl rfl) (aa 3 rfl))
  case celt=>
   intro C q v E j x y c hy
   obtain⟨p,a,rfl,b⟩:∃p,l[j]?=some p/\x=pu p/\fht l p=some y:=by
    rw[Lq]at c hy;obtain⟨p,a,rfl⟩:=Qa.mp c;rw[a]at hy;exact⟨p,a,rfl,Ma hy⟩
   have B:y=.int p.2:=by
    unfold fht at b;split at b
    .exact (Ma b).symm
    .cases b
   subst B;exact (aD (aa 5 rfl) ag rfl rfl)
  have s:(l.map (fht l)).filterMap id=(hts l).map U.int:=yH l l;rw[s];refine ae (aF (bK (bg (aw (CC rfl (c8 n)) rfl T.aa8 Vl (af (aa 4 rfl) am ah)) (aw (G4 rfl (cy n)) rfl T.abf V9 (af (aa 4 rfl) am ah))) ag) ?_);refine vIO ?_;rw[if_neg];simpa using A
def zl:List U->Out->Prop:=λc o=>∃(l:List P2) (b a:Int),c=[lp l,.int b,.int a]/\l≠[]/\l.length<=900/\(∀p∈l,Szp 1000 p)/\Sz 1000 b/\Sz 1000 a/\o=.val (.int (nk l b a))
theorem vS:OkD P w base T.abd 3 (zl):=by
 refine okD gA (by walk_at"ln") ?_;rintro _ _ _ c ⟨l,b,a,rfl,g,e,sz,i,h,rfl⟩;refine ae (jJ (ys:=(((sdl l).map (gW b a)).map U.int)) (j:=3) false rfl gA.nd rfl (Or.inl rfl) (blk (ai k9) ["land","left","right","parts","A","B"] [4,5] rfl rfl rfl rfl (by decide+kernel)) (EvI.z (bV (EvN.ev (df (jZ T) c (af (aa 0 rfl) am ah) ⟨l,rfl,e,rfl⟩)) (.inl rfl))) (λ_ _ _ _=>jI rfl (bJ (aM gA.nd rfl (Or.inl rfl)) (bJ (aM gA.nd rfl (Or.inl rfl)) ft))) (gw (js:=[4,5]) (by decide)) ?clen ?csz ?dom ?celt ?_)
 case clen=>simp
 case csz=>simp only[gM,Lg];exact Lu (aB (by lia))
 case dom=>
  intro x d;obtain⟨s,_,rfl⟩:=Ln.mp d;exact⟨_,rfl,rfl⟩
 case celt=>
  intro C n p q j x y d hy;rw[L4]at hy;obtain⟨s,o,k,rfl,rfl⟩:=b7 d hy;obtain⟨f,m⟩:=aX k;exact (aR (sq T) c (af (aa 4 rfl) (af (aa 5 rfl) (af (aa 1 rfl) (af (aa 2 rfl) am ah) ah) ah) ah) ⟨s.1,s.2,b,a,rfl,sz _ f,sz _ m,i,h,rfl⟩)
 refine ae (aF (bK (aw (vI rfl ) rfl T.abu boot_sum (af (aa 3 rfl) am ah)) (aR (oo T) c (af (aa 0 rfl) (af (aa 1 rfl) (af (aa 2 rfl) am ah) ah) ah) ⟨l,b,a,rfl,g,e,rfl⟩)) ?_);exact rfl
def v4:List U->Out->Prop:=λd o=>∃(l:List P2) (a b c:Int),d=[lp l,.int a,.int b,.int c]/\Fld l/\l.length<64/\(∀p∈l,Szp 200 p)/\Sz 200 a/\Sz 200 b/\Sz 500 c/\o=.val (.int (dt l λp=>decide (a*p.1+b*p.2<=c)))
theorem Ci:OkD P w base T.aaS 8 (v4):=by
 refine okD j6 (by walk_at"ln") ?_;rintro _ _ _ k ⟨l,a,b,c,rfl,F,E,sz,y,o,O,rfl⟩;obtain⟨g,s,t,G⟩:=xQ a b;have i:=Bc F (c:=c) G;unfold we at i;obtain⟨A,r,K⟩:=Fl G y o;by_cases j:a=0/\b=0
 .rw[if_pos j]at i;refine ae (cD (Tw.t (kg (au f6 (aa 1 rfl) ag) (λS=>(iy (au f6 (aa 2 rfl) ag))))) (by rw[decide_eq_true j.1,decide_eq_true j.2];rfl) ?_)
  refine ae (aF (Gx (au I_ (aa 3 rfl) ag) (EH ((t_ T).mono (by decide)) k rfl T.aah.m T.aah.F.kp T.aah.bd fq (af (aa 0 rfl) am ah) ⟨l,1,rfl,by decide,Sz.mono (m:=8) (by decide) (by decide),bw (by decide) sz,F.ne,E,rfl⟩) ag) ?_);refine congrArg Out.val ?_;rw[<-i];by_cases n:0<=c
  .rw[if_pos (decide_eq_true n),if_pos n]
  .rw[if_neg (by simpa using n),if_neg n]
 .rw[if_neg j]at i
  have X:0<g:=by
   rcases L_ G.g0 with z |z
   .exact z
   .exfalso
    have J:=Uz.mp (by rw[z];exact G.da);have N:=Uz.mp (by rw[z];exact G.db);exact j ⟨J,N⟩
  have U:=Nt G.da;have V:=Nt G.db
  have M:a/g*s-b/g* -t=1:=by
   have h:=G.eq;have:g*(a/g*s-b/g* -t)=g*1:=by rw[UR];grind
   exact MB (by lia) this
  refine ae (aE (Tw.t (kg (au f6 (aa 1 rfl) ag) (λS=>(iy (au f6 (aa 2 rfl) ag))))) (by rw[RC,decide_eq_false_iff_not,decide_eq_false_iff_not];lia) (ay ?_));refine ae (ax 4 j6.nd (aR (p9 T) k (af (aa 1 rfl) (af (aa 2 rfl) am ah) ah) ⟨a,b,g,s,t,rfl,y.mono (by decide),o.mono (by decide),G,rfl⟩) ?_);refine ae (ax 5 j6.nd (aD (aa 4 rfl) ag rfl rfl) ?_);have v:Sz 200 (a/g):=y.ediv;have u:Sz 200 (b/g):=o.ediv;have I:Sz 500 (c/g):=O.ediv;have e:Sz 500 (-t):=(Sz.le (by lia) K).mono (by decide);have f:Sz 500 0:=Sz.mono (m:=8) (by decide) (by decide);have B:=ww (a:=a/g) (b:=b/g) (c:=-t) (d:=s) 0 0 F;have W:(aj (l.map (ap (a/g) (b/g) (-t) s 0 0))).length<=63:=LN (fC _) (by rw[Lg];lia)
  have D:∀p∈aj (l.map (ap (a/g) (b/g) (-t) s 0 0)),Szp 1000 p:=λp Q=>by
   obtain⟨q,x,rfl⟩:=Ln.mp (aO _ p Q);have z:=GH (v.mono (by decide)) (u.mono (by decide)) e (r.mono (by decide)) f f (by decide) (sz q x);exact⟨z.1.mono (by decide),z.2.mono (by decide)⟩
  have C:=LQ.mpr B.ne;have R:Mv (a/g) (b/g) (-t) s 0 0:=⟨.inl M,v.mono (by decide),u.mono (by decide),e.mono (by decide),r.mono (by decide),f.mono (by decide),f.mono (by decide)⟩
  have L:∀p∈l,Szp 5000 (ap (a/g) (b/g) (-t) s 0 0 p):=λq x=>by
   have z:=GH (v.mono (by decide)) (u.mono (by decide)) e (r.mono (by decide)) f f (by decide) (sz q x);exact⟨z.1.mono (by decide),z.2.mono (by decide)⟩
  refine ae (ax 6 j6.nd (EvN.ev (df (oO T) k (af (aa 0 rfl) (af (bU (aA (cU (aa 1 rfl) (aa 5 rfl) ⟨by lia,A.mono (by decide)⟩) (aA (cU (aa 2 rfl) (aa 5 rfl) ⟨by lia,A.mono (by decide)⟩) (aA (dl (aD (aa 4 rfl) ag rfl rfl)) (aA (aD (aa 4 rfl) ag rfl rfl) (aA ag (aA ag bC aJ) aJ) aN) lg) aQ) aQ)) am wB) ah) ⟨l,a/g,b/g,-t,s,0,0,rfl,R,bw (by decide) sz,L,F.ne,E,rfl⟩)) ?_);generalize aj (l.map (ap (a/g) (b/g) (-t) s 0 0))=H at *;refine ae (aF (aR (vS T) k (af (aa 6 rfl) (af (aD (aD (aa 6 rfl) ag rfl (IP C)) ag rfl rfl) (af (cU (aa 3 rfl) (aa 5 rfl) ⟨by lia,A.mono (by decide)⟩) am aQ) aN) ah) ⟨H,(gp H 0).1,c/g,rfl,B.ne,by lia,D,(D _ (dq C)).1,I.mono (by decide),rfl⟩) ?_);exact vIO i
def plus(p q:P2):P2:=(p.1+q.1,p.2+q.2)
def aG(p q:P2):P2:=(p.1-q.1,p.2-q.2)
def cr(u v:P2):Int:=u.1*v.2-u.2*v.1
def ngv(w:P2):Bool:=ST.ltP w (0,0)
theorem j_{w:P2}(h:ngv w=true):fR (-w.1) (-w.2):=by unfold ngv ST.ltP at h;simp at h;unfold fR;lia
theorem kO{w:P2}(h:ngv w=false)(c:w≠(0,0)):fR w.1 w.2:=by
 unfold ngv ST.ltP at h;simp at h;unfold fR;by_cases a:w.1=0
 .by_cases b:w.2=0
  .exact absurd (MS a b) c
  .lia
 .lia
def nl(w o:P2):Bool:=if (ngv w !=ngv o)=true then ngv o else decide (0<=cr w o)
theorem lQ{w o:P2}(b:ngv w=true)(a:ngv o=false):nl w o=false:=by unfold nl;rw[b,a];rfl
theorem kc{w o:P2}(b:ngv w=false)(a:ngv o=true):nl w o=true:=by unfold nl;rw[b,a];rfl
theorem bE{w o:P2}(h:ngv w=ngv o):nl w o=decide (0<=cr w o):=by unfold nl;rw[h];simp
theorem DW(u v):cr (-u.1,-u.2) (-v.1,-v.2)=cr u v:=by unfold cr;grind
theorem gD(u v):cr u v=- cr v u:=by unfold cr;grind
theorem Ia(h:nl x y=false):nl y x=true:=by
 cases hx:ngv x <;>cases hy:ngv y
 .rw[bE (by rw[hx,hy])]at h |-
  have:=of_decide_eq_false h;exact decide_eq_true (by rw[gD];lia)
 .rw[kc hx hy]at h;cases h
 .exact kc hy hx
 .rw[bE (by rw[hx,hy])]at h |-
  have:=of_decide_eq_false h;exact decide_eq_true (by rw[gD];lia)
theorem tU(f:x≠(0,0))(c:y≠(0,0))(e:d≠(0,0))(b:nl x y=true)(a:nl y d=true):nl x d=true:=by
 cases hx:ngv x <;>cases hy:ngv y <;>cases hd:ngv d
 .rw[bE (by rw[hx,hy])]at b
  rw[bE (by rw[hy,hd])]at a
  rw[bE (by rw[hx,hd])];exact decide_eq_true (dQ (kO hx f) (kO hy c) (kO hd e) (of_decide_eq_true b) (of_decide_eq_true a))
 .exact kc hx hd
 .rw[lQ hy hd]at a;cases a
 .exact kc hx hd
 .rw[lQ hx hy]at b;cases b
 .rw[lQ hx hy]at b;cases b
 .rw[lQ hy hd]at a;cases a
 .rw[bE (by rw[hx,hy])]at b
  rw[bE (by rw[hy,hd])]at a
  rw[bE (by rw[hx,hd])];have h:=of_decide_eq_true b;have g:=of_decide_eq_true a;rw[<-DW]at h g;have:=dQ (j_ hx) (j_ hy) (j_ hd) h g;refine decide_eq_true ?_;rw[<-DW];exact this
theorem FD(e:u≠(0,0))(j:v≠(0,0))(f:d≠(0,0))(h:0<cr u v)(a:nl u d=true)(c:nl v d=false):0<=cr u d/\0<=cr d v:=by
 cases hu:ngv u <;>cases hd:ngv d <;>cases hv:ngv v
 .rw[bE (by rw[hu,hd])]at a
  rw[bE (by rw[hv,hd])]at c
  have:=of_decide_eq_false c;exact⟨of_decide_eq_true a,by rw[gD];lia⟩
 .rw[bE (by rw[hu,hd])]at a
  have g:=of_decide_eq_true a;refine⟨g,?_⟩;rcases M3 (cr d v) 0 with z |z
  .exfalso
   have:=eo (kO hu e) (kO hd f) (j_ hv) g (show 0<d.1* -v.2-d.2* -v.1 by unfold cr at z;grind);unfold cr at h;grind
  .exact z
 .rw[kc hv hd]at c;cases c
 .rw[bE (by rw[hv,hd])]at c
  have b:=of_decide_eq_false c;have i:0<cr d v:=by rw[gD];lia
  refine⟨?_,by lia⟩;rcases M3 (cr u d) 0 with z |z
  .exfalso
   have:=eR (kO hu e) (j_ hd) (j_ hv) (show 0<u.1* -d.2-u.2* -d.1 by unfold cr at z;grind) (by unfold cr at i;grind);unfold cr at h;grind
  .exact z
 .rw[lQ hu hd]at a;cases a
 .rw[lQ hu hd]at a;cases a
 .rw[kc hv hd]at c;cases c
 .rw[bE (by rw[hu,hd])]at a
  rw[bE (by rw[hv,hd])]at c
  have:=of_decide_eq_false c;exact⟨of_decide_eq_true a,by rw[gD];lia⟩
theorem Jd(k:u≠(0,0))(c:v≠(0,0))(g:d≠(0,0))(f:ngv u=true)(e:ngv v=false)(i:0<cr u v)(h:nl v d=false\/nl u d=true):0<=cr u d/\0<=cr d v:=by
 rcases h with h |h
 .cases hd:ngv d
  .rw[bE (by rw[e,hd])]at h
   have b:=of_decide_eq_false h;have j:0<cr d v:=by rw[gD];lia
   refine⟨?_,by lia⟩;rcases M3 (cr u d) 0 with z |z
   .exfalso
    have:=eR (j_ f) (kO hd g) (kO e c) (show 0 < -u.1*d.2 - -u.2*d.1 by unfold cr at z;grind) (by unfold cr at j;grind);unfold cr at i;grind
   .exact z
  .rw[kc e hd]at h;cases h
 .cases hd:ngv d
  .rw[lQ f hd]at h;cases h
  .rw[bE (by rw[f,hd])]at h
   have a:=of_decide_eq_true h;refine⟨a,?_⟩;rcases M3 (cr d v) 0 with z |z
   .exfalso
    have:=eo (j_ f) (j_ hd) (kO e c) (by unfold cr at a;grind) (show 0 < -d.1*v.2 - -d.2*v.1 by unfold cr at z;grind);unfold cr at i;grind
   .exact z
theorem Lb(h:0<cr u v)(i:0<=cr u d)(g:0<=cr d v)(c:0<=cr u z)(f:0<=cr v z):0<=cr d z:=by
 have e:cr u v*cr d z=cr d v*cr u z+cr u d*cr v z:=by unfold cr;grind
 have a:=Lv g c;have b:=Lv i f;rcases M3 (cr d z) 0 with w |w
 .have:=Int.mul_neg_of_pos_of_neg h w;lia
 .exact w
def mrg:List P2->List P2->List P2
 |xs,[]=>xs
 |[],y::ys=>y::ys
 |x::xs,y::ys=>if nl x y=true then x::mrg xs (y::ys) else y::mrg (x::xs) ys
termination_by xs ys=>xs.length+ys.length
def pth(p:P2):List P2->List P2
 |[]=>[p]
 |w::ws=>p::pth (plus p w) ws
def sms:List P2->P2
 |[]=>(0,0)
 |w::ws=>plus w (sms ws)
def eK(d:P2)(a:List P2):P2:=sms (a.takeWhile (nl · d))
theorem bv(p):plus p (0,0)=p:=by unfold plus;simp
theorem bG(p q r):plus (plus p q) r=plus p (plus q r):=by unfold plus;refine MS ?_ ?_ <;>simp <;>lia
theorem dM(p q):plus p q=plus q p:=by unfold plus;refine MS ?_ ?_ <;>simp <;>lia
theorem eW(p)(ws):p∈pth p ws:=by cases ws <;>simp[pth]
theorem iu(h:nl x d=true):eK d (x::xs)=plus x (eK d xs):=by unfold eK;rw[QK,if_pos h];rfl
theorem f9(h:nl x d=false):eK d (x::xs)=(0,0):=by unfold eK;rw[QK,if_neg (by rw[h];decide)];rfl
theorem fS(d):∀a p,plus p (eK d a)∈pth p a
 |[],p=>by rw[show eK d []=(0,0) from rfl,bv];exact eW p _
 |w::a,p=>by
  cases h:nl w d with
  |true=>
   rw[iu h,<-bG];exact Li _ (fS d a _)
  |false=>rw[f9 h,bv];exact eW p _
theorem mJ{Q:List P2->List P2->Prop}(b:∀xs,Q xs [])(d:∀y a,Q [] (y::a))(f:∀x xs y a,Q xs (y::a)->Q (x::xs) a->Q (x::xs) (y::a))(xs:List P2):∀a,Q xs a:=by
 induction xs with
 |nil=>exact λa=>by cases a with |nil=>exact b _ |cons y a=>exact d y a
 |cons x xs e=>
  intro a
  induction a with
  |nil=>exact b _
  |cons y a c=>exact f x xs y a (e _) c
theorem FX(l:d≠(0,0)):∀a b p,(∀x∈a,x≠(0,0))->(∀y∈b,y≠(0,0))->plus p (plus (eK d a) (eK d b))∈pth p (mrg a b):=by
 refine mJ (λa p _ _=>?_) (λy b p _ _=>?_) λx a y b g n p i hy=>?_
 .rw[mrg,show eK d []=(0,0) from rfl,bv];exact fS d a p
 .rw[mrg,show eK d []=(0,0) from rfl,dM (0,0),bv];exact fS d _ p
 .have j:=i x Lo;have m:=hy y Lo;rw[mrg];cases h:nl x y with
  |true=>
   rw[if_pos rfl];cases k:nl x d with
   |true=>
    have f:=g (plus p x) (λz c=>i z (Li _ c)) hy;rw[iu k,bG x,<-bG p];exact Li _ f
   |false=>
    have:nl y d=false:=by
     cases e:nl y d with
     |false=>rfl
     |true=>rw[tU j m l h e]at k;cases k
    rw[f9 k,f9 this,bv,bv];exact eW p _
  |false=>
   rw[if_neg (by decide)];have o:=Ia h;cases k:nl y d with
   |true=>
    have f:=n (plus p y) i (λz c=>hy z (Li _ c));rw[iu k,<-bG (eK d (x::a)),dM (eK d (x::a)) y,bG y,<-bG p];exact Li _ f
   |false=>
    have:nl x d=false:=by
     cases e:nl x d with
     |false=>rfl
     |true=>rw[tU m j l o e]at k;cases k
    rw[f9 k,f9 this,bv,bv];exact eW p _
theorem Ja(o):nl (0,0) o=true:=by
 cases h:ngv o with
 |true=>exact kc rfl h
 |false=>rw[bE (by rw[h];rfl)];exact decide_eq_true (by unfold cr;simp)
theorem G6:∀a p,plus p (eK d a)∈pth p (mrg [(0,0)] a)
 |[],p=>by rw[show eK d []=(0,0) from rfl,bv];exact eW p _
 |y::a,p=>by
  rw[mrg,if_pos (Ja y)];refine Li _ ?_;rw[bv];cases a with
  |nil=>rw[mrg];exact fS d _ p
  |cons z b=>rw[mrg];exact fS d _ p
theorem Dm:∀a p,plus p (eK d a)∈pth p (mrg a [(0,0)])
 |[],p=>by rw[show eK d []=(0,0) from rfl,bv];exact eW p _
 |x::a,p=>by
  rw[mrg];cases h:nl x (0,0) with
  |true=>
   rw[if_pos rfl];cases k:nl x d with
   |true=>rw[iu k,<-bG];exact Li _ (Dm a _)
   |false=>rw[f9 k,bv];exact eW p _
  |false=>
   rw[if_neg (by decide)];refine Li _ ?_;rw[bv,mrg];exact fS d _ p
theorem Bg(r:∀p∈A,p∈B)(c:∀p∈aj B,p∈A):aj A=aj B:=by
 by_cases f:2<=(ST.srt B).length
 .have j:=cP B;obtain⟨l,i,v,L,b,o,m,E,J,C,K,I⟩:=zr j f;have q:=fh f
  have n:∀p∈ao (ST.srt B),p∈aj B:=λp a=>by
   rw[q,b,o,NB,NB];rw[b]at a;rcases Ll.mp a with z |z
   .rw[z];exact LR _ (LA.mpr E)
   .exact Ms _ (LA.mpr z)
  have d:∀p∈ao (ST.srt B).reverse,p∈aj B:=λp a=>by
   rw[q,b,o,NB,NB];rw[o]at a;rcases Ll.mp a with z |z
   .rw[z];exact Ms _ (LA.mpr m)
   .exact LR _ (LA.mpr z)
  have u:=cP A;have sub:∀p∈ST.srt A,p∈ST.srt B:=λp a=>(ST.srt_mem p B).mpr (r p ((ST.srt_mem p _).mp a));have G:=nQ j u sub λp a=>(ST.srt_mem p _).mpr (c p (n p a));have w:=kr j u sub λp a=>(ST.srt_mem p _).mpr (c p (d p a))
  have len:2<=(ST.srt A).length:=by
   have g:l∈ST.srt A:=(ST.srt_mem _ _).mpr (c _ (n l (by rw[b];exact Li _ m)));have s:i∈ST.srt A:=(ST.srt_mem _ _).mpr (c _ (n i (by rw[b];exact Lo)))
   have y:l≠i:=λe=>by
    have t:=(cw j (λz=>by rw[z]at f;simp at f)).1;rw[b]at t;have:=kU (st:=i::v) t.desc;have k:=(MG.mp this).1 l m;rw[e]at k;exact bD _ k
   rcases NN (ST.srt A).length 2 with k |k
   .exfalso
    rcases (by lia:(ST.srt A).length=0\/(ST.srt A).length=1) with h |h
    .rw[Np.mp h]at g;cases g
    .obtain⟨x,H⟩:=len1 h;rw[H]at g s;exact y ((Lz.mp g).trans (Lz.mp s).symm)
   .exact k
  rw[fh len,q,G,w]
 .have D:=c_ f;refine e_ (fQ λz=>⟨r z,λF=>c z ?_⟩);rw[D];exact (ST.srt_mem z B).mpr F
theorem wX(c:2<=(ST.srt pts).length):∃a,(aj pts)[0]?=some a/\∀p∈pts,p=a\/plt a p:=by
 obtain⟨a,f,W⟩:=ways (cP pts) c;refine⟨a,?_,λp d=>W.least p ((ST.srt_mem p pts).mpr d)⟩
 have b:aj pts=(ao (ST.srt pts)).reverse.dropLast++(ao (ST.srt pts).reverse).reverse.dropLast:=by
  unfold aj;rw[if_neg (by lia)]
 have e:=W.lt;rw[b,LO (by rw[M4];lia),OS,if_pos (by lia)];exact W.t0
theorem uy(a:2<=(ST.srt pts).length):2<=(aj pts).length:=by
 obtain⟨d,c,W⟩:=ways (cP pts) a
 have b:aj pts=(ao (ST.srt pts)).reverse.dropLast++(ao (ST.srt pts).reverse).reverse.dropLast:=by
  unfold aj;rw[if_neg (by lia)]
 have:=W.lt;have:=W.lb;rw[b,LG,M4,M4];lia
theorem EO(h:plt x y):ngv (aG y x)=false:=by
 unfold plt at h;unfold ngv ST.ltP aG;refine decide_eq_false ?_;simp only;lia
theorem F0(h:plt x y):ngv (aG x y)=true:=by
 unfold plt at h;unfold ngv ST.ltP aG;refine decide_eq_true ?_;simp only;lia
theorem FF(j:u≠(0,0))(f:u.1*z.1+u.2*z.2=0)(i:cr u z=0):z=(0,0):=by
 have e:(u.1*u.1+u.2*u.2) *z.1=u.1*(u.1*z.1+u.2*z.2)-u.2*cr u z:=by unfold cr;grind
 have d:(u.1*u.1+u.2*u.2) *z.2=u.2*(u.1*z.1+u.2*z.2)+u.1*cr u z:=by unfold cr;grind
 rw[f,i]at e d
 have c:u.1*u.1+u.2*u.2≠0:=λk=>by
  have a:=sqn u.1;have b:=sqn u.2;have g:u.1*u.1=0:=by omega
  have h:u.2*u.2=0:=by omega
  refine j (MS ?_ ?_)
  .rcases Mo.mp g with z |z <;>exact z
  .rcases Mo.mp h with z |z <;>exact z
 refine MS ?_ ?_
 .rcases Mo.mp (e.trans (by simp)) with k |k
  .exact absurd k c
  .exact k
 .rcases Mo.mp (d.trans (by simp)) with k |k
  .exact absurd k c
  .exact k
theorem Ib{u:P2}(c:u≠(0,0)):0<u.1*u.1+u.2*u.2:=by
 have a:=sqn u.1;have b:=sqn u.2;rcases M3 0 (u.1*u.1+u.2*u.2) with k |k
 .exact k
 .exfalso
  have d:u.1*u.1=0:=by omega
  have e:u.2*u.2=0:=by omega
  refine c (MS ?_ ?_)
  .rcases Mo.mp d with z |z <;>exact z
  .rcases Mo.mp e with z |z <;>exact z
theorem wu(a b q):aq a b q=cr (aG b a) (aG q b):=by unfold aq cr aG;grind
theorem CP(d:p∈aj l):wH l p:=by
 refine⟨aO l p d,?_⟩;by_cases n:2<=(ST.srt l).length
 .rcases NN (aj l).length 3 with h |h
  .have P:(aj l).length=2:=by have:=uy n;lia
   obtain⟨A,B,f⟩:∃A B,aj l=[A,B]:=by
    match g:aj l,P with
    |[A,B],_=>exact⟨A,B,rfl⟩
   have H:=aY l;rw[f]at H;have K:A≠B:=by simp at H;exact H
   obtain⟨Q,U,z,C,E,_⟩:=dE n (i:=0) (by lia);obtain⟨R,W,D,u,F,_⟩:=dE n (i:=1) (by lia);rw[f]at z C D u;simp at z C D u;subst z C D u
   have s:∀o p,p≠o->(∀c∈aj l,c=p\/c=o)->(∀q∈l,aq o p q=0)->∃a b:Int,∀q∈l,q≠p->wth a b q<wth a b p:=by
    intro o p N g t
    have L:aG p o≠(0,0):=λk=>N (by
     have v:=congrArg Ph k;have I:=congrArg OV k;unfold aG at v I;exact MS (by lia) (by lia))
    have T:=Ib L;refine⟨(aG p o).1,(aG p o).2,λq j m=>?_⟩;have V:wth (aG p o).1 (aG p o).2 p-wth (aG p o).1 (aG p o).2 o=(aG p o).1*(aG p o).1+(aG p o).2*(aG p o).2:=by unfold wth aG;grind
    obtain⟨c,w,S⟩:=nW (aG p o).1 (aG p o).2 j
    have le:wth (aG p o).1 (aG p o).2 q<=wth (aG p o).1 (aG p o).2 p:=by
     rcases g c w with rfl |rfl <;>lia
    rcases L_ le with k |k
    .exact k
    .exfalso
     have O:(aG p o).1*(aG q p).1+(aG p o).2*(aG q p).2=0:=by
      have:wth (aG p o).1 (aG p o).2 q-wth (aG p o).1 (aG p o).2 p=(aG p o).1*(aG q p).1+(aG p o).2*(aG q p).2:=by unfold wth aG;grind
      lia
     have M:=t q j;rw[wu]at M;have:=FF L O M;have v:=congrArg Ph this;have I:=congrArg OV this;unfold aG at v I;exact m (MS (by lia) (by lia))
   have J:∀q∈l,aq A B q=0:=λq j=>by
    have a:=E q j;have b:=F q j;have:aq A B q=- aq B A q:=by unfold aq;grind
    lia
   rw[f]at d;rcases Ll.mp d with rfl |d
   .exact s B p K (λc g=>by rw[f]at g;simpa using g) λq j=>by
     have:aq p B q=- aq B p q:=by unfold aq;grind
     have:=J q j;lia
   .have e:p=B:=by simpa using d
    subst e;exact s A p K.symm (λc g=>by rw[f]at g;simp at g;exact g.symm) J
  .exact (cH h d).2
 .rw[c_ n]at d;refine⟨0,0,λq j m=>absurd ?_ m⟩
  have G:=(ST.srt_mem q l).mpr j
  match hA:ST.srt l with
  |[]=>rw[hA]at d;simp at d
  |[x]=>rw[hA]at d G;simp at d G;exact G.trans d.symm
  |x::y::r=>rw[hA]at n;simp at n
def wys(l:List P2):List P2:=(sdl l).map λs=>aG s.2 s.1
theorem dI(l):(wys l).length=l.length:=by unfold wys sdl;simp
theorem wN(h:i<l.length):(wys l)[i]?=some (aG (gp l ((i+1)%l.length)) (gp l i)):=by
 unfold wys sdl;rw[Lq,Lq,N8 h];rfl
theorem ot:∀a w,sms (a++[w])=plus (sms a) w
 |[],w=>by show plus w (0,0)=plus (0,0) w;exact dM _ _
 |v::a,w=>by show plus v (sms (a++[w]))=plus (plus v (sms a)) w;rw[ot a w,bG]
theorem vW(p q):plus p (aG q p)=q:=by unfold plus aG;refine MS ?_ ?_ <;>simp <;>lia
theorem kF:∀i,i<=l.length->0<l.length->plus (gp l 0) (sms ((wys l).take i))=gp l (i%l.length)
 |0,_,_=>by rw[Rl,Ss];exact bv _
 |i+1,h,a=>by
  have ih:=kF i (by lia) a;rw[Oz,wN (show i<l.length by lia),Va,ot,<-bG,ih,LZ (show i<l.length by lia),vW]
theorem tm(f):∀b:List P2,∃i,i<=b.length/\b.takeWhile f=b.take i/\(∀j w,j<i->b[j]?=some w->f w=true)/\(∀w,b[i]?=some w->f w=false)
 |[]=>⟨0,Lk _,rfl,λj w h=>absurd h (ON _),λw h=>by simp at h⟩
 |w::b=>by
  cases hf:f w with
  |true=>
   obtain⟨i,k,e,d,c⟩:=tm f b;refine⟨i+1,by simp;lia,by rw[QK,if_pos hf,NJ,e],λj v g a=>?_,λv a=>c v (by simpa using a)⟩;cases j with
   |zero=>simp at a;rw[<-a];exact hf
   |succ j=>exact d j v (by lia) (by simpa using a)
  |false=>
   exact⟨0,Mu _,by rw[QK,if_neg (by rw[hf];decide)];rfl,λj v h=>absurd h (ON _),λv a=>by simp at a;rw[<-a];exact hf⟩
theorem DV(a b)(q z):cr (-b,a) (aG q z)=wth a b z-wth a b q:=by unfold cr aG wth;grind
theorem BI(h:p≠q):aG p q≠(0,0):=λk=>h (by
 have b:=congrArg Ph k;have a:=congrArg OV k;unfold aG at b a;exact MS (by lia) (by lia))
theorem yy(X1:pts≠[])(hd:((-b,a):P2)≠(0,0)):∃Z∈aj pts,plus (gp (aj pts) 0) (eK (-b,a) (wys (aj pts)))=Z/\∀q∈pts,wth a b q<=wth a b Z:=by
 have cne:=dL X1;have XY:=LQ.mpr cne;obtain⟨i,i1,i2,L,K⟩:=tm (nl · (-b,a)) (wys (aj pts));rw[dI]at i1
 have eZ:plus (gp (aj pts) 0) (eK (-b,a) (wys (aj pts)))=gp (aj pts) (i%(aj pts).length):=by
  unfold eK;rw[i2];exact kF i i1 XY
 refine⟨_,dq (M5 i XY),eZ,λq J=>?_⟩;generalize hn:(aj pts).length=n at *
 have at_:∀j,j<n->(wys (aj pts))[j]?=some (aG (gp (aj pts) ((j+1)%n)) (gp (aj pts) j)):=λj d=>by
  have:=wN (l:=aj pts) (i:=j) (by omega)
  rwa [hn]at this
 by_cases E:2<=(ST.srt pts).length
 .obtain⟨mn,f1,f2⟩:=wX E;have g0:gp (aj pts) 0=mn:=by simp[gp,f1]
  have nd:=aY pts;have gne:∀j k,j<n->k<n->j≠k->gp (aj pts) j≠gp (aj pts) k:=λj k d hk hjk e=>hjk ((PM (by omega) nd).mp (by rw[dr (by omega),dr (by omega),e]))
  have s:∀j,0<j->j<n->plt (gp (aj pts) 0) (gp (aj pts) j):=λj M d=>by
   rw[g0];rcases f2 _ (aO _ _ (dq (i:=j) (by omega))) with z |z
   .exact absurd (z.trans g0.symm) (gne j 0 d (by omega) (by omega))
   .exact z
  have n2:2<=n:=by have:=uy E;omega
  have pn:∀j,0<j->j<n->ngv (aG (gp (aj pts) j) (gp (aj pts) 0))=false:=λj M d=>EO (s j M d);have nn:∀j,0<j->j<n->ngv (aG (gp (aj pts) 0) (gp (aj pts) j))=true:=λj M d=>F0 (s j M d);by_cases h3:3<=n
  .-- the sides before and behind
   have ZX:∀k,k<n->(k+1)%n=i%n->(∀u v,u=aG (gp (aj pts) ((k+1)%n)) (gp (aj pts) k)->v=aG (gp (aj pts) ((k+2)%n)) (gp (aj pts) ((k+1)%n))->u≠(0,0)->v≠(0,0)->0<cr u v->0<=cr u (-b,a)/\0<=cr (-b,a) v)->wth a b q<=wth a b (gp (aj pts) (i%n)):=by
    intro k hk ek S;obtain⟨A,B,r1,r2,cv,tn⟩:=dE E (i:=k) (by omega);obtain⟨C,Y,m⟩:=tn (by omega);rw[hn]at r2 Y;have k1:(k+1)%n<n:=M5 _ (by omega)
    obtain⟨B',C',s1,H,T,_⟩:=dE E (i:=(k+1)%n) (by omega);rw[hn]at H;rw[show ((k+1)%n+1)%n=(k+2)%n by rw[R7]]at H
    rw[r2]at s1;rw[Y]at H;cases s1;cases H;have P:gp (aj pts) k=A:=by simp[gp,r1]
    have r:gp (aj pts) ((k+1)%n)=B:=by simp[gp,r2]
    have O:gp (aj pts) ((k+2)%n)=C:=by simp[gp,Y]
    rw[wu]at m;have F:aG B A≠(0,0):=λz=>by rw[z]at m;unfold cr at m;simp at m
    have y:aG C B≠(0,0):=λz=>by rw[z]at m;unfold cr at m;simp at m
    obtain⟨c1,c2⟩:=S _ _ rfl rfl (by rw[P,r];exact F) (by rw[r,O];exact y) (by rw[P,r,O];exact m);rw[P,r]at c1;rw[r,O]at c2;have G:=cv q J;rw[wu]at G;have m2:=T q J
    have X:0<=cr (aG C B) (aG q B):=by
     have:aq B C q=cr (aG C B) (aG q B):=by unfold aq cr aG;grind
     rw[<-this];exact m2
    have:=Lb m c1 c2 G X;rw[DV]at this;rw[<-ek,r];omega
   by_cases p:0<i/\i<n
   .refine ZX (i-1) (by omega) (by rw[Pg p.1]) λu v o ev F y D=>?_;rw[Pg p.1,LZ p.2]at o ev;have N:(i-1+2)%n=(i+1)%n:=by rw[show i-1+2=i+1 by omega]
    rw[N]at ev;have f:=at_ (i-1) (by omega)
    rw[Pg p.1,LZ p.2,<-o]at f;have t:=at_ i p.2;rw[<-ev]at t;exact FD F y hd D (L (i-1) u (by omega) f) (K v t)
   .have e0:i%n=0:=by
     rcases Pc i with z |z
     .rw[z,Ss]
     .rw[show i=n by omega,Pj]
    have I:(n-1+1)%n=0:=by rw[Pg (by omega),Pj]
    have G:(n-1+2)%n=1:=by rw[show n-1+2=n+1 by omega,Nat.add_mod_left,LZ (by omega)]
    refine ZX (n-1) (by omega) (by rw[I,e0]) λu v o ev F y D=>?_;rw[I]at o;rw[I,G]at ev;have f:=at_ (n-1) (by omega)
    rw[I,<-o]at f;have t:=at_ 0 (by omega)
    rw[show (0+1)%n=1 from LZ (by omega),<-ev]at t
    refine Jd F y hd (by rw[o];exact nn (n-1) (by omega) (by omega)) (by rw[ev];exact pn 1 (by omega) (by omega)) D ?_;rcases Pc i with z |z
    .left;exact K v (by rw[z];exact t)
    .right;exact L (n-1) u (by omega) f
  .have N:n=2:=by omega
   obtain⟨c,D,hw⟩:=nW a b J;obtain⟨j,d⟩:=Mn.mp D;have jl:j<n:=by have:=(Ls.mp d).1;omega
   have ec:c=gp (aj pts) j:=by simp[gp,d]
   have Q:∀j,j<n->wth a b (gp (aj pts) j)<=wth a b (gp (aj pts) (i%n)):=by
    have w0:=at_ 0 (by omega);have f:=at_ 1 (by omega);rw[show (0+1)%n=1 from LZ (by omega)]at w0
    rw[show (1+1)%n=0 by rw[N]]at f
    have V:=pn 1 (by omega) (by omega);have n1:=nn 1 (by omega) (by omega);intro j d;have c1:=DV a b (gp (aj pts) 1) (gp (aj pts) 0);have anti2:cr (aG (gp (aj pts) 1) (gp (aj pts) 0)) (-b,a)=- cr (-b,a) (aG (gp (aj pts) 1) (gp (aj pts) 0)):=gD _ _;have W:cr (aG (gp (aj pts) 0) (gp (aj pts) 1)) (-b,a)=cr (-b,a) (aG (gp (aj pts) 1) (gp (aj pts) 0)):=by unfold cr aG;grind
    have g:j=0\/j=1:=by omega
    rcases (show i=0\/i=1\/i=2 by omega) with z |z |z
    .subst z;have h:=K _ w0;rw[Ss];cases hg:ngv ((-b,a)) with
     |true=>
      have w:=h;rw[kc V hg]at w;cases w
     |false=>
      have w:=h;rw[bE (by rw[V,hg])]at w
      have:=of_decide_eq_false w;rcases g with rfl |rfl <;>omega
    .subst z;have h:=L 0 _ (by omega) w0;have h2:=K _ f;rw[show 1%n=1 from LZ (by omega)];cases hg:ngv ((-b,a)) with
     |true=>
      rw[bE (by rw[n1,hg])]at h2
      have:=of_decide_eq_false h2;rcases g with rfl |rfl <;>omega
     |false=>
      rw[bE (by rw[V,hg])]at h
      have:=of_decide_eq_true h;rcases g with rfl |rfl <;>omega
    .subst z;have h:=L 1 _ (by omega) f;rw[show 2%n=0 by rw[N]];cases hg:ngv ((-b,a)) with
     |true=>
      rw[bE (by rw[n1,hg])]at h
      have:=of_decide_eq_true h;rcases g with rfl |rfl <;>omega
     |false=>rw[lQ n1 hg]at h;cases h
   have:=Q j jl;rw[ec]at hw;omega
 .have es:=c_ E;have U:q∈aj pts:=by rw[es];exact (ST.srt_mem q pts).mpr J
  have R:=dq (by rw[hn];exact M5 i (by omega))
  have l1:(aj pts).length=1:=by
   have:(aj pts).length=(ST.srt pts).length:=by rw[es]
   omega
  match hA:aj pts,l1 with
  |[x],_=>
   rw[hA]at U R;simp at U R;have:gp [x] (i%n)=x:=R;rw[this,U];exact OR _
def mm(X Y:List P2):List P2:=X.flatMap λp=>Y.map λq=>plus p q
theorem fe:z∈mm X Y↔∃p∈X,∃q∈Y,plus p q=z:=by
 unfold mm;rw[Tu];constructor
 .rintro ⟨p,b,h⟩;obtain⟨q,a,e⟩:=Ln.mp h;exact⟨p,b,q,a,e⟩
 .rintro ⟨p,b,q,a,e⟩;exact⟨p,b,Ln.mpr ⟨q,a,e⟩⟩
def wlk(p:P2):List P2->List P2
 |[]=>[]
 |w::ws=>p::wlk (plus p w) ws
theorem xH:∀a p,pth p a=wlk p a++[plus p (sms a)]
 |[],p=>by show [p]=[]++[plus p (0,0)];rw[bv];rfl
 |w::a,p=>by show p::pth (plus p w) a=(p::wlk (plus p w) a)++[plus p (plus w (sms a))];rw[xH a,bG];rfl
theorem qJ:∀a p,(wlk p a).length=a.length
 |[],_=>rfl
 |w::a,p=>by show (wlk (plus p w) a).length+1=_;rw[qJ a];rfl
theorem u_:∀a w p,wlk p (a++[w])=wlk p a++[plus p (sms a)]
 |[],w,p=>by show [p]=[]++[plus p (0,0)];rw[bv];rfl
 |v::a,w,p=>by show p::wlk (plus p v) (a++[w])=(p::wlk (plus p v) a)++[plus p (plus v (sms a))];rw[u_ a,bG];rfl
theorem FV:∀b a:List P2,sms (mrg b a)=plus (sms b) (sms a):=by
 refine mJ (λb=>?_) (λy a=>?_) λx b y a c d=>?_
 .rw[mrg];exact (bv _).symm
 .rw[mrg];show _=plus (0,0) _;rw[dM,bv]
 .rw[mrg];split
  .show plus x (sms (mrg b (y::a)))=plus (plus x (sms b)) _;rw[c,bG]
  .show plus y (sms (mrg (x::b) a))=plus _ (plus y (sms a));rw[d,<-bG,<-bG,dM y]
theorem sD:∀b a:List P2,(mrg b a).length=b.length+a.length:=by
 refine mJ (λb=>?_) (λy a=>?_) λx b y a c d=>?_
 .rw[mrg];rfl
 .rw[mrg];simp
 .rw[mrg];split
  .rw[LF,c];simp;lia
  .rw[LF,d];simp;lia
theorem oE:∀a p z,z∈pth p a->∃i,i<=a.length/\z=plus p (sms (a.take i))
 |[],p,z,h=>by
  have:z=p:=by simpa [pth] using h
  exact⟨0,Lk _,by rw[this];exact (bv p).symm⟩
 |w::a,p,z,h=>by
  rcases Ll.mp h with e |e
  .exact⟨0,Mu _,by rw[e];exact (bv p).symm⟩
  .obtain⟨i,c,b⟩:=oE a _ z e;exact⟨i+1,by simp;lia,by rw[b,bG];rfl⟩
theorem Dl:∀a b p z,z∈pth p (mrg a b)->∃i j,i<=a.length/\j<=b.length/\z=plus p (plus (sms (a.take i)) (sms (b.take j))):=by
 refine mJ (λa p z h=>?_) (λy b p z h=>?_) λx a y b g k p z h=>?_
 .rw[mrg]at h;obtain⟨i,d,c⟩:=oE a p z h;exact⟨i,0,d,Lk _,by rw[c];show _=plus p (plus _ (0,0));rw[bv]⟩
 .rw[mrg]at h;obtain⟨j,d,c⟩:=oE _ p z h;exact⟨0,j,Lk _,d,by rw[c];show _=plus p (plus (0,0) _);rw[dM (0,0),bv]⟩
 .have start:z=p->∃i j,i<=(x::a).length/\j<=(y::b).length/\z=plus p (plus (sms ((x::a).take i)) (sms ((y::b).take j))):=λe=>
   ⟨0,0,Mu _,Mu _,by rw[e];show p=plus p (plus (0,0) (0,0));rw[bv,bv]⟩
  rw[mrg]at h;split at h
  .rcases Ll.mp (show z∈p::pth (plus p x) (mrg a (y::b)) from h) with e |e
   .exact start e
   .obtain⟨i,j,d,c,f⟩:=g _ z e;refine⟨i+1,j,by simp;lia,c,?_⟩;rw[f,NJ,bG];show plus p (plus x _)=plus p (plus (plus x _) _);rw[bG x]
  .rcases Ll.mp (show z∈p::pth (plus p y) (mrg (x::a) b) from h) with e |e
   .exact start e
   .obtain⟨i,j,d,c,f⟩:=k _ z e;refine⟨i,j+1,d,by simp;lia,?_⟩;rw[f,NJ,bG];show plus p (plus y _)=plus p (plus _ (plus y _));rw[<-bG y,dM y,bG]
theorem oR(h:0<l.length):sms (wys l)=(0,0):=by
 have:=kF l.length (Lk _) h;rw[Mf (by rw[dI];exact Lk _),Pj]at this
 generalize sms (wys l)=z at *;have b:=congrArg Ph this;have a:=congrArg OV this;unfold plus at b a;exact MS (by show z.1=0;lia) (by show z.2=0;lia)
def tog(l m:List P2):List P2:=wlk (plus (gp l 0) (gp m 0)) (mrg (wys l) (wys m))
theorem mT(l m):(tog l m).length=l.length+m.length:=by unfold tog;rw[qJ,sD,dI,dI]
theorem qw(a b c d):plus (plus a b) (plus c d)=plus (plus a c) (plus b d):=by unfold plus;refine MS ?_ ?_ <;>simp <;>lia
theorem xK(a:0<l.length)(c:0<m.length):z∈tog l m↔z∈pth (plus (gp l 0) (gp m 0)) (mrg (wys l) (wys m)):=by
 unfold tog;rw[xH,FV,oR a,oR c,bv,bv];constructor
 .exact λh=>Ms _ h
 .intro h;rcases Mm.mp h with e |e
  .exact e
  .have:=sD (wys l) (wys m);rw[dI,dI]at this;have b:z=plus (gp l 0) (gp m 0):=by simpa using e
   match hw:mrg (wys l) (wys m) with
   |[]=>rw[hw]at this;simp at this;lia
   |w::ws=>rw[b];exact Lo
theorem kz(a:0<l.length)(b:0<m.length):∀z∈tog l m,z∈mm l m:=λz f=>by
 obtain⟨i,j,e,d,c⟩:=Dl _ _ _ z ((xK a b).mp f);rw[dI]at e d;rw[qw,kF i e a,kF j d b]at c;rw[c];exact fe.mpr ⟨_,dq (M5 _ a),_,dq (M5 _ b),rfl⟩
theorem AX(f:l.Nodup)(g:2<=l.length):∀w∈wys l,w≠(0,0):=λw d=>by
 obtain⟨i,a⟩:=Mn.mp d;have c:i<l.length:=by have:=(Ls.mp a).1;rwa [dI]at this
 rw[wN c]at a;cases a;refine BI λe=>?_
 have b:(i+1)%l.length<l.length:=M5 _ (by lia);have:=(PM (j:=i) b f).mp (by rw[dr b,dr c,e]);rcases NN (i+1) l.length with k |k
 .rw[LZ k]at this;lia
 .rw[show i+1=l.length by lia,Pj]at this;lia
theorem x6(p):wys [p]=[(0,0)]:=by
 unfold wys sdl nxt gp aG;simp
theorem one_of(a:0<l.length)(h:¬ 2<=l.length):∃p,l=[p]:=by
 match l,a,h with
 |[p],_,_=>exact⟨p,rfl⟩
 |p::q::r,_,h=>simp at h
theorem Ai(b:l.Nodup)(h:m.Nodup)(c:0<l.length)(e:0<m.length)(i:d≠(0,0)):plus (plus (gp l 0) (eK d (wys l))) (plus (gp m 0) (eK d (wys m)))∈tog l m:=by
 rw[xK c e,qw];have a:eK d [(0,0)]=(0,0):=by rw[iu (Ja d),show eK d []=(0,0) from rfl,bv]
 by_cases g:2<=l.length
 .by_cases f:2<=m.length
  .exact FX i _ _ _ (AX b g) (AX h f)
  .obtain⟨p,rfl⟩:=one_of e f;rw[x6,a,bv];exact Dm _ _
 .obtain⟨p,rfl⟩:=one_of c g;rw[x6,a,dM (0,0),bv];exact G6 _ _
theorem uW(a b)(p q):wth a b (plus p q)=wth a b p+wth a b q:=by unfold wth plus;grind
theorem um{S T:List P2}(l:S≠[])(k:T≠[]):aj (tog (aj S) (aj T))=aj (mm (aj S) (aj T)):=by
 have g:=LQ.mpr (dL l);have h:=LQ.mpr (dL k);refine Bg (kz g h) λp B=>?_;obtain⟨s,a,b,top⟩:=CP B;by_cases d:((-b,a))=(0,0)
 .have j:=congrArg Ph d;have n:=congrArg OV d;simp at j n;have t:0<(tog (aj S) (aj T)).length:=by rw[mT];lia
  obtain⟨z,o⟩:=Po _ (LQ.mp t);have i:=kz g h z o;by_cases e:z=p
  .rw[<-e];exact o
  .have:=top z i e;rw[j,n]at this;unfold wth at this;simp at this
 .obtain⟨m,E,A,v⟩:=yy l d;obtain⟨r,F,w,D⟩:=yy k d;have c:=Ai (aY S) (aY T) g h d;rw[A,w]at c
  have f:∀q∈mm (aj S) (aj T),wth a b q<=wth a b (plus m r):=λq C=>by
   obtain⟨x,u,y,hy,rfl⟩:=fe.mp C;rw[uW,uW];have:=v x (aO _ x u);have:=D y (aO _ y hy);lia
  by_cases e:plus m r=p
  .rw[<-e];exact c
  .have:=top _ (kz g h _ c) e;have:=f p s;lia
theorem qW(h:∀z,z∈A↔z∈B):aj A=aj B:=e_ (fQ h)
theorem F1(z):z∈mm X Y↔z∈mm Y X:=by
 rw[fe,fe];constructor
 .rintro ⟨p,b,q,a,rfl⟩;exact⟨q,a,p,b,dM _ _⟩
 .rintro ⟨p,b,q,a,rfl⟩;exact⟨q,a,p,b,dM _ _⟩
theorem G_(S T):aj (mm S T)=aj (mm T S):=qW F1
theorem Kw(h:0<=k):HT.sIx n m (some k)=min k.toNat n:=by
 unfold HT.sIx;simp;lia
theorem Bp(l:List P2)(a:0<=k)(h:k<=(l.length:Int)):fL (l.map pu) (some k) none=(l.drop k.toNat).map pu:=by
 unfold fL;rw[Kw a,HT.sIx_none,Lg,<-Vf,<-S8,Og (by lia),Mf (by simp)]
def An:List U->Out->Prop:=λa o=>∃p q:P2,a=[pu p,pu q]/\o=.val (pu (plus p q))
theorem yO:OkD P w base T.abB 1 (An):=by
 refine okD Ff (by walk_at"ln") ?_;rintro _ _ _ a ⟨p,q,rfl,rfl⟩;refine ae (aF (bU (aA (bK (aD (aa 0 rfl) ag rfl rfl) (aD (aa 1 rfl) ag rfl rfl)) (aA (bK (aD (aa 0 rfl) ag rfl rfl) (aD (aa 1 rfl) ag rfl rfl)) bC aQ) aQ)) ?_);exact rfl
def zd:List U->Out->Prop:=λa o=>∃l:List P2,a=[lp l]/\l.length<=900/\o=.new ((wys l).map pu)
theorem yE:OkD P w base T.abC 2 (zd):=by
 refine okD qZ (by walk_at"ln") ?_;rintro _ _ _ c ⟨l,rfl,b,rfl⟩;refine ae (cX (bO (ys:=((sdl l).map λs=>pu (aG s.2 s.1))) rfl (blk (ai wf) ["land","A","B"] [1,2] rfl rfl rfl rfl (by decide+kernel)) (EvI.z (bV (EvN.ev (df (jZ T) c (af (aa 0 rfl) am ah) ⟨l,rfl,b,rfl⟩)) (.inl rfl))) (λ_ _ _ _=>jI rfl (bJ (aM qZ.nd rfl (Or.inl rfl)) (bJ (aM qZ.nd rfl (Or.inl rfl)) ft))) (gw (js:=[1,2]) (by decide)) ?clen ?csz ?dom ?celt) ?_)
 case clen=>simp
 case csz=>simp only[gM,Lg];exact Lu (aB (by lia))
 case dom=>
  intro x a;obtain⟨s,_,rfl⟩:=Ln.mp a;exact⟨_,rfl,rfl⟩
 case celt=>
  intro C h g d j x y a hy;obtain⟨s,e,f,rfl,rfl⟩:=b7 a hy;exact (bU (aA (bg (aD (aa 2 rfl) ag rfl rfl) (aD (aa 1 rfl) ag rfl rfl)) (aA (bg (aD (aa 2 rfl) ag rfl rfl) (aD (aa 1 rfl) ag rfl rfl)) bC aQ) aQ))
 unfold wys;rw[L4];rfl
theorem Ca(a b):eqW (.bl a) (.bl b)=(a==b):=by cases a <;>cases b <;>rfl
theorem Ic(x):decide (sgn x >-1)=decide (0<=x):=by
 refine decide_eq_decide.mpr ?_;unfold sgn;split
 .lia
 .split <;>lia
theorem J2(w o):aq (0,0) w o=cr w o:=by unfold aq cr;simp
theorem Jb:Szp 5000 ((0,0):P2):=⟨by decide,by decide⟩
def Eb:List U->Out->Prop:=λa o=>∃w v:P2,a=[pu w,pu v]/\Szp 4000 w/\Szp 4000 v/\o=.val (.bl (nl w v))
theorem tP:OkD P w base T.aa2 3 (Eb):=by
 refine okD uR (by walk_at"ln") ?_;rintro _ _ _ a ⟨w,v,rfl,c,b,rfl⟩;by_cases h:(ngv w !=ngv v)=true
 .refine ae (cD (au (f_ a rfl rfl) (gX (vw (jP a)) (aa 0 rfl) (bU (aA ag (aA ag bC aJ) aJ))) (gX (vw (jP a)) (aa 1 rfl) (bU (aA ag (aA ag bC aJ) aJ)))) (show (!eqW (.bl (ngv w)) (.bl (ngv v)))=true by rw[Ca];exact h) ?_);refine ae (aF (gX (vw (q:=(0,0)) (jP a)) (aa 1 rfl) (bU (aA ag (aA ag bC aJ) aJ))) ?_);refine vB ?_;unfold nl;rw[if_pos h];rfl
 .refine ae (aE (au (f_ a rfl rfl) (gX (vw (jP a)) (aa 0 rfl) (bU (aA ag (aA ag bC aJ) aJ))) (gX (vw (jP a)) (aa 1 rfl) (bU (aA ag (aA ag bC aJ) aJ)))) (show (!eqW (.bl (ngv w)) (.bl (ngv v)))=false by rw[Ca];exact SS.mpr h) (ay ?_));refine ae (aF (gX fP (aR (yR T) a (af (bU (aA ag (aA ag bC aJ) aJ)) (af (aa 0 rfl) (af (aa 1 rfl) am ah) ah) wB) ⟨(0,0),w,v,rfl,Jb,⟨c.1.mono (by decide),c.2.mono (by decide)⟩,⟨b.1.mono (by decide),b.2.mono (by decide)⟩,rfl⟩) (dl ag)) ?_);refine vB ?_;rw[Ic,J2];unfold nl;rw[if_neg h]
theorem xL(ys):mrg [] ys=ys:=by cases ys <;>rw[mrg]
theorem Fp(xs):mrg xs []=xs:=by rw[mrg]
theorem EE(h:nl x y=true):mrg (x::xs) (y::ys)=x::mrg xs (y::ys):=by rw[mrg,if_pos h]
theorem GR(h:nl x y=false):mrg (x::xs) (y::ys)=y::mrg (x::xs) ys:=by rw[mrg,if_neg (by rw[h];decide)]
theorem sE{l:List P2}(h:l[i]?=some p):l.drop i=p::l.drop (i+1):=by
 obtain⟨a,e⟩:=Ls.mp h;rw[L8 a,e]
theorem rF{l:List P2}{k:Nat}(h:l[k]?=some p):atI (l.map pu) (k:Int)=some (pu p):=bP rfl (by rw[Lq,h];rfl)
def yh:List U->Out->Prop:=λc o=>∃b a:List P2,c=[lp b,lp a]/\(∀p∈b,Szp 4000 p)/\(∀p∈a,Szp 4000 p)/\b.length<=400/\a.length<=400/\o=.new ((mrg b a).map pu)
theorem xj:OkD P w base T.abc 4 (yh):=by
 refine okD eT (by walk_at"ln") ?_;rintro _ _ _ F ⟨a,c,rfl,C,G,J,K,rfl⟩;have o:((a.map pu).length)=a.length:=by rw[Lg]
 refine ae (oy (i:=2) eT.nd rfl (Or.inl rfl) (dz bC) ?_);refine ae (ax 3 eT.nd ag ?_);refine ae (gJ (λq:Nat×List P2=>[some (.val (lp a)),some (.val (lp c)),some (.own (q.2.map pu)),some (.val (.int q.1)),none]) (λi q=>q.1<=a.length/\q.2.length=q.1+i/\q.2++mrg (a.drop q.1) (c.drop i)=mrg a c) rfl PassesOwn.never (bV (aa 1 rfl) (.inl rfl)) ?h0 ?hs ?hd)
 case h0=>exact⟨(0,[]),⟨Mu _,rfl,rfl⟩,rfl,rfl,rfl,rfl,trivial⟩
 case hs=>
  rintro M i x ⟨k,r⟩ I ⟨B,H,A⟩;obtain⟨Y,y,E,rfl⟩:=pY I;have L:=aL y;rw[sE y]at A;refine⟨_,(gB (i:=4) eT.nd rfl (Or.inl rfl)),?_⟩;refine n_ (λg=>∃(f:Nat) (n:List P2),(f<=a.length/\n.length=f+i/\n++Y::mrg (a.drop f) (c.drop (i+1))=mrg a c)/\SubP [some (.val (lp a)),some (.val (lp c)),some (.own (n.map pu)),some (.val (.int f)),some (.val (pu Y))] g) (fX (λq:Nat×List P2=>[some (.val (lp a)),some (.val (lp c)),some (.own (q.2.map pu)),some (.val (.int q.1)),some (.val (pu Y))]) (λm q=>m=a.length-q.1/\q.1<=a.length/\q.2.length=q.1+i/\q.2++mrg (a.drop q.1) (Y::c.drop (i+1))=mrg a c) PassesOwn.never ?h0 ?hs) ?hj
  case h0=>exact⟨_,(k,r),⟨rfl,B,H,A⟩,rfl,rfl,rfl,rfl,rfl,trivial⟩
  case hs=>
   rintro m ⟨k,r⟩ ⟨rfl,j,d,b⟩;by_cases u:k<a.length
   .obtain⟨x,p⟩:∃x,a[k]?=some x:=⟨_,Ld u⟩;have D:=LW p;have s:decide (k<((a.map pu).length:Int))=true:=decide_eq_true (by rw[o];lia);rw[sE p]at b;refine⟨decide (k<((a.map pu).length:Int)) && nl x Y,?_,λh=>?_,λh g e=>?_⟩
    .exact (Tw.t (kg (au dG (aa 3 rfl) (aw (bR rfl) rfl T.aab LL (af (aa 0 rfl) am ah))) (λN=>(iy (iC (aR (tP T) F (af (aD (aa 0 rfl) (aa 3 rfl) rfl (rF p)) (af (aa 4 rfl) am ah) aN) ⟨x,Y,rfl,C x D,G Y E,rfl⟩))))))
    .rw[s,PZ]at h;rw[EE h]at b;refine ae (e9 2 rfl (aD (aa 0 rfl) (aa 3 rfl) rfl (rF p)) (by rw[Lg];exact aB (by lia)) ?_)
     refine ae (GK (i:=3) CM eT.nd rfl (Or.inl rfl) rfl ag (ay ?_));refine⟨_,(k+1,r++[x]),?_,⟨rfl,u,by simp[d];lia,by rw[LH];exact b⟩,rfl,rfl,?_,?_,rfl,trivial⟩
     .simp;lia
     .exact congrArg (λl=>some (Sl.own l)) (by simp)
     .exact congrArg (λz=>some (Sl.val (.int z))) (by simp)
    .rw[s,PZ]at h;rw[GR h,<-sE p]at b;exact⟨k,r,⟨j,d,b⟩,e⟩
   .have v:k=a.length:=by lia
    have s:decide (k<((a.map pu).length:Int))=false:=decide_eq_false (by rw[o];lia);refine⟨false,?_,λh=>(nomatch h),λh g e=>⟨k,r,⟨j,d,?_⟩,e⟩⟩
    .exact (Tw.t (o9 (au dG (aa 3 rfl) (aw (bR rfl) rfl T.aab LL (af (aa 0 rfl) am ah))) s))
    .rw[v,QF,xL]at b;rw[v,QF,xL];exact b
  case hj=>
   rintro g ⟨f,n,⟨j,d,b⟩,e⟩;refine dY ?_ e;refine ae (e9 2 rfl (aa 4 rfl) (by rw[Lg];exact aB (by lia)) (ay ?_));refine⟨(f,n++[Y]),⟨j,by simp[d];lia,by rw[LH];exact b⟩,rfl,rfl,?_,rfl,trivial⟩;exact congrArg (λl=>some (Sl.own l)) (by simp)
 case hd=>
  rintro ⟨k,r⟩ g ⟨j,d,b⟩ e;refine dY ?_ e;rw[Lg]at d b;rw[QF,Fp]at b;refine Id 2 rfl ?_;refine ae (cX (lV (aa 2 rfl) (EvN.ev (dj (aa 0 rfl) (du (aa 3 rfl)) dy (.inl rfl))) (by rw[Bp a (by lia) (by lia),Lg,Lg,ND];exact Lu (mS (by lia)))) ?_)
  rw[Bp a (by lia) (by lia),<-Md,<-b];rfl
def vo:List U->Out->Prop:=λa o=>∃l m:List P2,a=[lp l,lp m]/\l≠[]/\m≠[]/\l.length+m.length<64/\(∀p∈l,Szp 3000 p)/\(∀p∈m,Szp 3000 p)/\o=.new ((aj (tog l m)).map pu)
theorem DD(e:Szp 3000 p)(d:Szp 3000 q):Szp 4000 (aG p q):=by
 have c:∀{x y},Sz 3000 x->Sz 3000 y->Sz 4000 (x-y):=λ{x y} a b=>by
  have hb:Sz 3000 (-y):=by unfold Sz at b |-;lia
  have:=(L2.Sz.add' a hb).mono (show _<=4000 by decide)
  rwa [show x+-y=x-y by lia]at this
 exact⟨c e.1 d.1,c e.2 d.2⟩
theorem ET(b:Szp 3000 p)(a:Szp 3000 q):Szp 5000 (plus p q):=
 ⟨(L2.Sz.add' b.1 a.1).mono (by decide),(L2.Sz.add' b.2 a.2).mono (by decide)⟩
theorem BZ(h:∀p∈l,Szp 3000 p):∀w∈wys l,Szp 4000 w:=λw c=>by
 obtain⟨s,d,rfl⟩:=Ln.mp c;obtain⟨a,b⟩:=aX d;exact DD (h _ b) (h _ a)
theorem gp0(h:0<l.length):l[0]?=some (gp l 0):=dr h
theorem lM:OkD P w base T.aa3 5 (vo):=by
 refine okD dP (by walk_at"ln") ?_;rintro _ _ _ c ⟨l,m,rfl,y,A,J,n,k,rfl⟩;have h:=LQ.mpr y;have o:=LQ.mpr A
 have e:∀z∈tog l m,Szp 5000 z:=λz C=>by
  obtain⟨p,B,q,f,rfl⟩:=fe.mp (kz h o z C);exact ET (n p B) (k q f)
 have a:=mT l m;have G:=dI l;have I:=dI m;have H:=sD (wys l) (wys m);refine ae (ax 2 dP.nd (aR (yO T) c (af (aD (aa 0 rfl) ag rfl (rF (gp0 h))) (af (aD (aa 1 rfl) ag rfl (rF (gp0 o))) am aN) aN) ⟨_,_,rfl,rfl⟩) ?_);refine ae (oy (i:=3) dP.nd rfl (Or.inl rfl) (dz bC) ?_);have u:yh [lp (wys l),lp (wys m)] (.new ((mrg (wys l) (wys m)).map pu)):=⟨wys l,wys m,rfl,BZ n,BZ k,by lia,by lia,rfl⟩
 have d:tog l m=wlk (plus (gp l 0) (gp m 0)) (mrg (wys l) (wys m)):=rfl;rw[d]at e a |-;generalize plus (gp l 0) (gp m 0)=g at *;refine ae (gJ (λi:Nat=>[some (.val (lp l)),some (.val (lp m)),some (.val (pu (plus g (sms ((mrg (wys l) (wys m)).take i))))),some (.own ((wlk g ((mrg (wys l) (wys m)).take i)).map pu)),none]) (λi j=>i=j) rfl PassesOwn.never (bV (EvN.ev (df (xj T) c (af (EvN.ev (df (yE T) c (af (aa 0 rfl) am ah) ⟨l,rfl,by lia,rfl⟩)) (af (EvN.ev (df (yE T) c (af (aa 1 rfl) am ah) ⟨m,rfl,by lia,rfl⟩)) am be) be) u)) (.inl rfl)) ?h0 ?hs ?hd)
 case h0=>exact⟨0,rfl,rfl,rfl,congrArg (λz=>some (Sl.val (pu z))) (bv g).symm,rfl,trivial⟩
 case hs=>
  rintro K i x _ v rfl;obtain⟨W,s,E,rfl⟩:=pY v;have r:(mrg (wys l) (wys m)).take (i+1)=(mrg (wys l) (wys m)).take i++[W]:=by rw[Oz,s];rfl
  refine⟨_,(gB (i:=4) dP.nd rfl (Or.inl rfl)),?_⟩;refine ae (e9 3 rfl (aa 2 rfl) (by rw[Lg,qJ,NZ];exact aB (by lia)) ?_);refine ae (ax 2 dP.nd (aR (yO T) c (af (aa 2 rfl) (af (aa 4 rfl) am ah) ah) ⟨_,_,rfl,rfl⟩) (ay ?_));refine⟨i+1,rfl,rfl,rfl,?_,?_,trivial⟩
  .exact congrArg (λz=>some (Sl.val (pu z))) (by rw[r,ot,bG])
  .exact congrArg (λz=>some (Sl.own z)) (by rw[r,u_];simp)
 case hd=>
  rintro q D f t;refine dY ?_ t;rw[Lg]at f;subst f;rw[P8];refine ae (cX (Fc 3 rfl ((ka T).mono (by decide)) c rfl T.aaq.m T.aaq.F.kp T.aaq.b fq am ⟨_,rfl,e,by lia,(λz=>by rw[z]at a;simp at a;lia),rfl⟩) ?_)
  exact rfl
def wa:List U->Out->Prop:=λa o=>∃l m:List P2,a=[lp l,lp m]/\l≠[]/\m≠[]/\l.length+m.length<64/\(∀p∈l,Szp 1000 p)/\(∀p∈m,Szp 1000 p)/\o=.val (.int (area (aj (tog l m))-area l-area m))
theorem Bo:OkD P w base T.aaP 6 (wa):=by
 refine okD CL (by walk_at"ln") ?_;rintro _ _ _ d ⟨l,m,rfl,g,h,n,e,c,rfl⟩;have k:=LQ.mpr g;have o:=LQ.mpr h
 have i:∀p∈aj (tog l m),Szp 2500 p:=λp q=>by
  obtain⟨a,ha,b,hb,rfl⟩:=fe.mp (kz k o p (aO _ p q));exact⟨(L2.Sz.add' (e a ha).1 (c b hb).1).mono (by decide),(L2.Sz.add' (e a ha).2 (c b hb).2).mono (by decide)⟩
 have f:=mT l m;have r:=fC (tog l m);have j:(aj (tog l m)).length<=900:=by lia
 refine ae (aF (bg (bg (aR (cB T) d (af (EvN.ev (df (lM T) d (af (aa 0 rfl) (af (aa 1 rfl) am ah) ah) ⟨l,m,rfl,g,h,n,bw (by decide) e,bw (by decide) c,rfl⟩)) am be) ⟨_,rfl,j,i,rfl⟩) (aR (cB T) d (af (aa 0 rfl) am ah) ⟨l,rfl,by lia,bw (by decide) e,rfl⟩)) (aR (cB T) d (af (aa 1 rfl) am ah) ⟨m,rfl,by lia,bw (by decide) c,rfl⟩)) ?_);exact rfl
def D10:List Nat:=[48,49,50,51,52,53,54,55,56,57]
theorem qQ(c):c∈D10↔48<=c/\c<=57:=by rw[show D10=Xx 48 10 from rfl,List.mem_range'_1];omega
def bN(l:List Nat):List Nat:=if l.head?=some 45 then l.drop 1 else l
theorem jX(h:l.head?=some 45):l=45::bN l:=by
 unfold bN;rw[if_pos h];cases l with
 |nil=>simp at h
 |cons a r=>simp at h;subst h;rfl
theorem ij(h:¬ l.head?=some 45):bN l=l:=if_neg h
theorem Cy(l):(bN l).length<=l.length:=by unfold bN;split <;>simp
def wI(l:List Nat):Bool:=l.all λc=>decide (c∈D10)
theorem tQ(l):wI l=true↔NumText.AllDigits l:=by
 unfold wI NumText.AllDigits;rw[O5];exact⟨λh c a=>(qQ c).mp (of_decide_eq_true (h c a)),λh c a=>decide_eq_true ((qQ c).mpr (h c a))⟩
def okL(l:List Nat):Bool:=(decide (1<=(bN l).length) && decide ((bN l).length<=60)) && (wI (bN l) && !(decide ((bN l).head?=some 48) && (decide (1<(bN l).length) ||decide (l≠bN l))))
structure Num(l:List Nat):Prop where
 l1:1<=(bN l).length
 l2:(bN l).length<=60
 ad:NumText.AllDigits (bN l)
 h0:(bN l).head?=some 48->(bN l).length=1/\l=bN l
theorem mM(l):okL l=true↔Num l:=by
 unfold okL;simp only[MW,decide_eq_true_eq,VA,tQ];constructor
 .rintro ⟨⟨a,b⟩,c,d⟩;refine⟨a,b,c,λh=>?_⟩;rw[decide_eq_true h,PZ,UJ]at d;have i:=of_decide_eq_false d.1;have f:=of_decide_eq_false d.2;exact⟨by lia,Classical.not_not.mp f⟩
 .intro h;refine⟨⟨h.l1,h.l2⟩,h.ad,?_⟩;by_cases z:(bN l).head?=some 48
  .obtain⟨g,e⟩:=h.h0 z;rw[decide_eq_false (show ¬ 1<(bN l).length by lia),decide_eq_false (show ¬ l≠bN l from λk=>k e)];simp
  .rw[decide_eq_false z];rfl
def DR(l:List Nat):Int:=if l.head?=some 45 then -((NumText.digitsVal (bN l):Nat):Int) else ((NumText.digitsVal (bN l):Nat):Int)
theorem ya:∀b a,NumText.AllDigits b->b.foldl (λe c=>e*10+(c-48)) a<(a+1) *10 ^ b.length
 |[],a,_=>by simp
 |c::b,a,h=>by
  have h1:=h c Lo;have f:=ya b (a*10+(c-48)) λd g=>h d (Li _ g);rw[Nd,LF,Oy];refine Lp f ?_;rw[VM (10 ^ b.length) 10,<-Nat.mul_assoc];exact RQ _ (by lia)
theorem sQ(h:m<10 ^ 62):m.log2<1920:=by
 by_cases z:m=0
 .subst z;decide
 .rw[Wi z];exact MP h (by decide+kernel)
theorem Num.text(h:Num l):UO (T' l)=some (DR l):=by
 have c:bN l≠[]:=λe=>by have:=h.l1;rw[e]at this;simp at this
 unfold DR;by_cases z:l.head?=some 45
 .rw[if_pos z];have e:=jX z;refine intText_neg (by simpa using e) h.ad c ?_;rw[bu];have:=congrArg Wg e;rw[LF]at this;have:=h.l2;lia
 .rw[if_neg z,ij z];have a:=h.ad;have b:=h.l2;rw[ij z]at a b c;have:=WQ (x:=T' l) (by simpa using a) (by simpa using c) (by rw[bu];lia)
  simpa using this
def ds(n:Int):List Nat:=(Str.ofString (O9 n)).cps.toList
theorem gv(n):Str.ofString (O9 n)=T' (ds n):=Ds _
theorem gQ(m:Nat):ds (m:Int)=(UA 10 m).map Char.toNat:=Xn m
theorem vZ{m:Nat}(h:0<m):ds (-(m:Int))=45::ds (m:Int):=by
 unfold ds;rw[toString_neg (show (-(m:Int))<0 by lia),WR,WR,show 0 - -m=(m:Int) by lia,String.toList_append,Md];rfl
theorem cE(a:1<=k)(h:n.natAbs<10 ^ k):(ds n).length<=k+1:=by
 rcases M3 n 0 with z |z
 .obtain⟨m,rfl⟩:∃m:Nat,n=-m:=⟨n.natAbs,by lia⟩
  rw[vZ (by lia),LF,gQ,Lg];have:=WA a (n:=m) (by lia);lia
 .obtain⟨m,rfl⟩:∃m:Nat,n=m:=⟨n.toNat,by lia⟩
  rw[gQ,Lg];have:=WA a (n:=m) (by lia);lia
theorem HU:∀d,d<10->48<=(Xf d).toNat/\(Xf d).toNat<=57:=by decide
theorem iq(m:Nat):NumText.AllDigits (ds (m:Int)):=by
 induction m using Uc with
 |_ m b=>
  by_cases h:m<10
  .rw[gQ,Nat.toDigits_of_lt_base h];intro c a;simp at a;rw[a];exact HU m h
  .have d:m%10<10:=M5 m (by decide);have t:UA 10 (m/10)++UA 10 (m%10)=UA 10 (10*(m/10)+m%10):=Nat.toDigits_append_toDigits (by decide) (by omega) d;rw[Nat.div_add_mod]at t;rw[gQ,<-t,Md];intro c a;rcases Mm.mp a with k |k
   .exact b (m/10) (by omega) c (by rw[gQ];exact k)
   .exact b (m%10) (by omega) c (by rw[gQ];exact k)
theorem sN(m:Nat):NumText.digitsVal (ds (m:Int))=m:=by rw[gQ];exact Xp m
theorem uP(m:Nat):ds (m:Int)≠[]:=λe=>by
 have h:=gQ m;rw[e]at h;have:=Nat.toDigits_ne_nil (b:=10) (n:=m);exact this (by simpa using h.symm)
theorem rq{m k:Nat}(a:1<=k)(h:m<10 ^ k):(ds (m:Int)).length<=k:=by
 rw[gQ,Lg];exact WA a h
theorem EF{m:Nat}(h:(ds (m:Int)).head?=some 48):m=0:=by
 cases e:ds m with
 |nil=>rw[e]at h;simp at h
 |cons c r=>
  rw[e]at h;simp at h;subst h;have d:=iq m;have v:=sN m;rw[e]at d v;have b:=v;cases r with
  |nil=>rw[<-b];rfl
  |cons a r=>
   have:=ya (a::r) 0 (λc f=>d c (Li _ f));rw[Pf,U2]at this;have l:=rq (m:=m) (k:=(a::r).length) (by simp) (by rw[<-b];exact this)
   rw[e]at l;simp at l;lia
theorem mG(n):bN (ds n)=ds (n.natAbs:Int)/\((ds n).head?=some 45↔n<0):=by
 rcases M3 n 0 with z |z
 .obtain⟨m,rfl⟩:∃m:Nat,n=-m:=⟨n.natAbs,by lia⟩
  have e:=vZ (m:=m) (by lia);rw[e];refine⟨?_,by simp;lia⟩;unfold bN;rw[if_pos (show (45::ds m).head?=some 45 from rfl)];simp
 .obtain⟨m,rfl⟩:∃m:Nat,n=m:=⟨n.natAbs,by lia⟩
  have a:(ds m).head?≠some 45:=λh=>by
   cases e:ds m with
   |nil=>exact uP m e
   |cons c r=>
    rw[e]at h;simp at h;have:=iq m c (by rw[e];exact Lo)
    lia
  refine⟨?_,by simp[a]⟩;rw[ij a];simp
theorem sR(n):DR (ds n)=n:=by
 obtain⟨e,h⟩:=mG n;unfold DR;rw[e,sN];by_cases z:n<0
 .rw[if_pos (h.mpr z)];omega
 .rw[if_neg λk=>z (h.mp k)];omega
theorem BA(h:n.natAbs<10 ^ 60):okL (ds n)=true:=by
 refine (mM _).mpr ?_;obtain⟨e,b⟩:=mG n;refine⟨?_,?_,?_,λk=>?_⟩
 .rw[e];exact LQ.mpr (uP _)
 .rw[e];exact rq (by decide) h
 .rw[e];exact iq _
 .rw[e]at k |-;have z:=EF k;have a:n=0:=by lia
  subst a;exact⟨by decide+kernel,by rfl⟩
theorem yi(h:n.natAbs<10 ^ 300):UO (T' (ds n))=some n:=by
 obtain⟨e,b⟩:=mG n;have l:=cE (by decide) h;by_cases z:n<0
 .have a:=jX (b.mpr z);rw[e]at a;have:=intText_neg (x:=T' (ds n)) (by simpa using a) (iq _) (uP _) (by rw[bu];lia)
  rw[this,sN];congr 1;lia
 .obtain⟨m,rfl⟩:∃m:Nat,n=m:=⟨n.natAbs,by lia⟩
  have:=WQ (x:=T' (ds m)) (by simpa using iq m) (by simpa using uP m) (by rw[bu];lia);rw[this];simp[sN]
theorem gg(n)(a:c<45\/57<c\/c=47\/c=46):c ∉ ds n:=λh=>by
 rcases M3 n 0 with z |z
 .obtain⟨m,rfl⟩:∃m:Nat,n=-m:=⟨n.natAbs,by lia⟩
  rw[vZ (by lia)]at h
  rcases Ll.mp h with k |k
  .lia
  .have:=iq m c k;lia
 .obtain⟨m,rfl⟩:∃m:Nat,n=m:=⟨n.natAbs,by lia⟩
  have:=iq m c h;lia
def ptD(p:P2):List Nat:=ds p.1++44::ds p.2
def B60(p:P2):Prop:=p.1.natAbs<10 ^ 60/\p.2.natAbs<10 ^ 60
theorem Dx(p):32 ∉ ptD p:=λh=>by
 rcases Mm.mp h with k |k
 .exact gg p.1 (by lia) k
 .rcases Ll.mp k with k |k
  .lia
  .exact gg p.2 (by lia) k
theorem mL(h:B60 p):(ptD p).length<=123:=by
 have b:=cE (by decide) h.1;have a:=cE (by decide) h.2;unfold ptD;simp;lia
def jn:List (List Nat)->List Nat
 |[]=>[]
 |[w]=>w
 |w::r=>w++32::jn r
theorem km(w)(h:r≠[]):jn (w::r)=w++32::jn r:=by
 cases r with
 |nil=>exact absurd rfl h
 |cons a r=>rfl
theorem w6:∀{b},b≠[]->(∀w∈b,32 ∉ w)->spl 32 (jn b)=b
 |[],h,_=>absurd rfl h
 |[w],_,h=>jR (h w Lo)
 |w::a::r,_,h=>by
  rw[km w (by simp),mQ _ (h w Lo),w6 (by simp) λx c=>h x (Li _ c)]
theorem E6:∀b,Txt.join (T' [32]) (b.map T')=T' (jn b):=λb=>by
 show Builtin.Str.glued _ _=_;rw[StrLaws.glued_eq_join]
 induction b with
 |nil=>rfl
 |cons w r c=>
  cases r with
  |nil=>rfl
  |cons a r=>
   rw[km w (by simp)];show T' w++T' [32]++Str.join (T' [32]) ((a::r).map T')=_;rw[c,nZ,nZ];refine congrArg T' ?_;simp
theorem CV:∀b,(∀w∈b,w.length<=c)->(jn b).length<=b.length*(c+1)
 |[],_=>by simp[jn]
 |[w],h=>by have:=h w Lo;simp[jn];lia
 |w::a::r,h=>by
  have e:=CV (a::r) λx d=>h x (Li _ d);have:=h w Lo;rw[km w (by simp),LG,LF,LF,U3,U2];lia
theorem iw(K):Rg K (.type "str") (.type "str")=some true:=rfl
def xl:List U->Out->Prop:=λa o=>∃x,a=[.str x]/\o=.val .non
theorem jY:OkD P w base T.aaT 1 (xl):=by
 refine okD qU (by walk_at"ln") ?_;rintro _ _ _ a ⟨x,rfl,rfl⟩;refine ae (aE (lY (iC (aw (fY (by intro _ h;cases h) (iw _)) rfl T.aaf Qm (af (aa 0 rfl) (af (zp rfl T.aal P5) am ah) ah)))) rfl (ay (ay ?_)));exact rfl
theorem sz1(h:l.length<=8200):(T' l).length<=sizeLine:=by rw[bu];exact Lu (mS (by lia))
theorem hy:((Str.ofString "-"):Str)=⟨#[45]⟩:=rfl
theorem fg:((Str.ofString "0123456789"):Str)=T' D10:=rfl
theorem eqS(x y):eqW (.str x) (.str y)=decide (x=y):=by
 show (x==y)=_;by_cases h:x=y
 .subst h;simp
 .rw[decide_eq_false h];simpa using h
theorem rh(h:T' l=T' m):l=m:=by
 have:=congrArg (λx:Str=>x.cps.toList) h;simpa using this
def zN:List U->Out->Prop:=λa o=>∃l:List Nat,a=[.str (T' l)]/\l.length<=8200/\o=.val (.bl (okL l))
theorem hV:OkD P w base T.aan 1 (zN):=by
 refine okD cC (by walk_at"ln") ?_;rintro _ _ _ A ⟨l,rfl,M,rfl⟩;have fl:=Cy l;have s:=FN l 45;have b:∀{X}{H}{D}{q}{e} x y,x=y->Ev X H D q e (.str x)->Ev X H D q e (.str y):=λx y h=>by subst h;exact id
 have I:Txt.startswith (T' l) (Str.ofString "-")=true→StrLaws.sliceText (T' l) (some 1) none=T' (bN l):=λh=>by
  rw[hy,s]at h;rw[show 1=((1:Nat):Int) from rfl,m_]
  unfold bN;rw[if_pos (of_decide_eq_true h)]
 have R:Txt.startswith (T' l) (Str.ofString "-")=false→T' l=T' (bN l):=λh=>by
  rw[hy,s]at h;rw[ij (of_decide_eq_false h)]
 refine ae (ax 1 cC.nd (Cl (iC (B_ (aa 0 rfl) aC aJ)) (λf=>(b _ _ (I f) (nU (aa 0 rfl) (du ag) dy (sz1 M)))) (λf=>(b _ _ (R f) (aa 0 rfl)))) ?_);have E:((T' (bN l)).length)=((bN l).length):=by rw[bu]
 by_cases g:1<=(bN l).length/\(bN l).length<=60
 .refine ae (aE (Tw.t (jh (au dG (aw (iK (sz1 (by lia))) rfl T.aab LL (af (aa 1 rfl) am ah)) ag) (λf=>(ix (au fP (aw (iK (sz1 (by lia))) rfl T.aab LL (af (aa 1 rfl) am ah)) (vq rfl T.aam)))))) (by rw[E,decide_eq_false (show ¬ ((bN l).length:Int)<1 by lia),decide_eq_false (show ¬ ((bN l).length:Int) >60 by lia)];rfl) (ay ?_));have K:∀c,(!(Builtin.Str.occurrences (Str.ofString "0123456789") ⟨#[c]⟩ 0 (Str.ofString "0123456789").length 1).isEmpty)=decide (c∈D10):=λc=>by rw[fg];exact in1 D10 c
  have d:((bN l).map λc=>decide (c∈D10)).all id=wI (bN l):=by unfold wI;rw[VN];rfl
  refine ae (lD (lY (iC (aw (Gy rfl (bs:=(bN l).map λc=>decide (c∈D10))) rfl T.abE boot_all (af (EvN.ev (bO rfl (blk (ai cV) ["text","figures","sign"] [2] rfl rfl rfl rfl (by decide+kernel)) (EvI.z (Cd (aa 1 rfl))) (λ_ _ _ _=>aM (i:=2) cC.nd rfl (Or.inl rfl)) (bL (by decide)) ?clen ?csz (λ_ _=>trivial) ?celt)) am dg)))) (λu=>?_) (λF=>(ay ?_)))
  case clen=>simp
  case csz=>simp;exact Lu (mS (by lia))
  case celt=>
   intro C S U Y j x y L B;have G:(T' (bN l)).cps.toList=bN l:=by simp
   rw[L4]at B;obtain⟨c,V,W,rfl,rfl⟩:=b7 L B;show Ev _ _ _ _ _ (.bl (decide (c∈D10)));rw[<-K c];exact (gX Js (aa 2 rfl) (IO rfl T.abg))
  .refine ae (aF IG ?_);refine vB ?_
   symm
   rw[d]at u;unfold okL;have:wI (bN l)=false:=by simpa using u
   rw[this];simp
  .rw[d]at F;have ha:wI (bN l)=true:=by simpa using F
   obtain⟨c,r,a⟩:∃c r,bN l=c::r:=by
    cases e:bN l with
    |nil=>rw[e]at g;simp at g
    |cons c r=>exact⟨c,r,rfl⟩
   have n:atI (T' (bN l)).cps.toList 0=some c:=bP rfl (by simp[a]);refine ae (aF (KD (gX (aT A) (aa 0 rfl) aC) (λf=>(GJ (gX (f_ A) (Jw (aa 1 rfl) ag (sz1 (by lia)) n) aC)))) ?_);refine vB ?_
   have G:eqW (.str (T' l)) (.str (Str.ofString "0"))=decide (l=[48]):=by
    rw[eqS];refine decide_eq_decide.mpr ⟨λh=>rh h,λh=>by rw[h];rfl⟩
   have O:eqW (sg c) (.str (Str.ofString "0"))=decide (c=48):=by
    rw[eqS];refine decide_eq_decide.mpr ⟨λh=>?_,λh=>by rw[h];rfl⟩;have:=rh (m:=[48]) h;simpa using this
   rw[G,O,QU,mM];have v:(bN l).head?=some c:=by rw[a];rfl
   constructor
   .intro h;refine⟨g.1,g.2,(tQ _).mp ha,λk=>?_⟩;rw[v]at k;cases k;have J:l=[48]:=by simpa using h
    subst J;exact⟨rfl,rfl⟩
   .intro N;by_cases z:c=48
    .subst z;obtain⟨o,Q⟩:=N.h0 v
     have:l=[48]:=by
      rw[Q,a];rw[a]at o;simp at o;rw[o]
     rw[decide_eq_true this];rfl
    .rw[decide_eq_false z];simp
 .have p:(decide (((bN l).length:Int)<1) ||decide (((bN l).length:Int) >60))=true:=by
   by_cases z:((bN l).length:Int)<1
   .rw[decide_eq_true z];rfl
   .rw[decide_eq_true (show ((bN l).length:Int) >60 by lia)];simp
  refine ae (cD (Tw.t (jh (au dG (aw (iK (sz1 (by lia))) rfl T.aab LL (af (aa 1 rfl) am ah)) ag) (λf=>(ix (au fP (aw (iK (sz1 (by lia))) rfl T.aab LL (af (aa 1 rfl) am ah)) (vq rfl T.aam)))))) (by rw[E];exact p) ?_);refine ae (aF IG ?_);refine vB ?_
  symm
  cases e:okL l with
  |false=>rfl
  |true=>
   have N:=(mM l).mp e;exact absurd ⟨N.l1,N.l2⟩ g
theorem zV(N:Num l):l.length<=61:=by
 have h:=N.l2;by_cases z:l.head?=some 45
 .have e:=congrArg Wg (jX z);rw[LF]at e;lia
 .rw[ij z]at h;lia
def Ar:List U->Out->Prop:=λa o=>∃l:List Nat,a=[.str (T' l)]/\l.length<=8200/\okL l=true/\o=.val (.int (DR l))
theorem e7:OkD P w base T.aaB 2 (Ar):=by
 refine okD nY (by walk_at"ln") ?_;rintro _ _ _ b ⟨l,rfl,c,a,rfl⟩;have N:=(mM l).mp a;refine ae (o4 (aR (jY T) b (af (aa 0 rfl) am ah) ⟨_,rfl,rfl⟩) ?_);refine ae (aE (lY (iC (aR (hV T) b (af (aa 0 rfl) am ah) ⟨l,rfl,c,rfl⟩))) (by rw[a];rfl) (ay ?_));refine ae (aF (b5 (wx N.text (by rw[bu];exact LN (zV N) (by decide))) rfl T.abe V8 (af (aa 0 rfl) am ah)) ?_);exact rfl
def wo:List U->Out->Prop:=λa o=>∃n:Int,a=[.int n]/\n.natAbs<10 ^ 300/\o=.val (.str (T' (ds n)))
theorem vC(h:m<10 ^ 300):m.log2<1920:=by
 by_cases z:m=0
 .subst z;decide
 .rw[Wi z];exact MP h (by decide+kernel)
theorem e8:OkD P w base T.aaC 1 (wo):=by
 refine okD ox (by walk_at"ln") ?_;rintro _ _ _ b ⟨n,rfl,a,rfl⟩;refine ae (aF (b5 (dF (vC a)) rfl T.aal P5 (af (aa 0 rfl) am ah)) ?_);rw[gv]
theorem x_(x y:Str):(x++y).length=x.length+y.length:=by
 show (x.cps++y.cps).size=_;rw[Array.size_append];rfl
theorem tK(a b):T' a++(Str.ofString ",":Str)++T' b=T' (a++44::b):=by
 rw[show (Str.ofString ",")=T' [44] from rfl,nZ,nZ];refine congrArg T' ?_;simp
theorem sz2(h:l.length<=8200):(T' l).length+2<=sizeLine:=by rw[bu];exact Lu (mS (by lia))
def Cg:List U->Out->Prop:=λa o=>∃p:P2,a=[.str (T' (ptD p))]/\B60 p/\o=.val (pu p)
theorem pI:OkD P w base T.aaK 3 (Cg):=by
 refine okD jw (by walk_at"ln") ?_;rintro _ _ _ a ⟨p,rfl,hb,rfl⟩;have b:=mL hb;have e:spl 44 (ptD p)=[ds p.1,ds p.2]:=by unfold ptD;rw[mQ _ (gg p.1 (by lia)),jR (gg p.2 (by lia))]
 have l1:=cE (by decide) hb.1;have l2:=cE (by decide) hb.2;refine ae (o4 (aR (jY T) a (af (aa 0 rfl) am ah) ⟨_,rfl,rfl⟩) ?_);refine ae (ax 1 jw.nd (EvN.ev (nV (c:=44) (aa 0 rfl) aC aJ (sz2 (by lia)) rfl)) ?_);rw[e];refine ae (aE (au nJ (aw (bR rfl) rfl T.aab LL (af (aa 1 rfl) am ah)) ag) rfl (ay ?_));refine ae (aF (bU (aA (aR (e7 T) a (af (aD (aa 1 rfl) ag rfl rfl) am aN) ⟨ds p.1,rfl,by lia,BA hb.1,rfl⟩) (aA (aR (e7 T) a (af (aD (aa 1 rfl) ag rfl rfl) am aN) ⟨ds p.2,rfl,by lia,BA hb.2,rfl⟩) bC be) be)) ?_);rw[sR,sR]
def zu:List U->Out->Prop:=λa o=>∃p:P2,a=[pu p]/\p.1.natAbs<10 ^ 300/\p.2.natAbs<10 ^ 300/\o=.val (.str (T' (ptD p)))
theorem pF:OkD P w base T.aaL 2 (zu):=by
 refine okD pj (by walk_at"ln") ?_;rintro _ _ _ c ⟨p,rfl,d,b,rfl⟩;have l1:=cE (by decide) d;have l2:=cE (by decide) b;have a:(Str.ofString ",").length=1:=rfl;refine ae (aF (fc (fc (aR (e8 T) c (af (aD (aa 0 rfl) ag rfl rfl) am aN) ⟨p.1,rfl,d,rfl⟩) aC (by rw[a,bu];exact Lu (aB (by lia)))) (aR (e8 T) c (af (aD (aa 0 rfl) ag rfl rfl) am aN) ⟨p.2,rfl,b,rfl⟩) (by rw[x_,a,bu,bu];exact Lu (aB (by lia)))) ?_);rw[tK];rfl
abbrev sT(x:List Nat):U:=.str (T' x)
def eQ:List Nat:=[102,105,101,108,100]
def vf:List Nat:=[102,111,108,100]
def oe:List Nat:=[115,104,111,119]
def j3:List Nat:=[97,114,101,97]
def Cm:List Nat:=[114,105,109]
def jF:List Nat:=[99,111,117,110,116]
def jO:List Nat:=[105,110,110,101,114]
def om:List Nat:=[109,105,120,101,100]
def jD:List Nat:=[115,104,97,114,101]
def DU:List Nat:=[115,117,109]
def E3:List U->Out->Prop:=λb o=>∃(w:List Nat) (a:List (List Nat)),b=[sT (jn (w::a))]/\(∀x∈w::a,32 ∉ x)/\(jn (w::a)).length<=8200/\(iR gL (T' w)).isSome=true/\o=.val (.lst ((w::a).map sT))
theorem kQ:OkD P w base T.aaU 1 (E3):=by
 refine okD ky (by walk_at"ln") ?_;rintro _ _ _ j ⟨w,g,rfl,d,b,f,rfl⟩;obtain⟨i,e,a⟩:=T.abn;refine ae (aE (lY (iC (aw (fY (by intro _ h;cases h) (iw _)) rfl T.aaf Qm (af (aa 0 rfl) (af (zp rfl T.aal P5) am ah) ah)))) rfl (ay ?_));refine ae (ax 1 ky.nd (EvN.ev (nV (c:=32) (aa 0 rfl) aC aJ (sz2 b) rfl)) ?_);rw[w6 (by simp) d];refine ae (aE (Be a rfl e (aD (aa 1 rfl) ag rfl (bP rfl rfl))) (by rw[f];rfl) (ay ?_));refine ae (aF (aa 1 rfl) ?_);exact rfl
structure gZ(w:List Nat)(ks:List Str):Prop where
 nf:eqW (sT w) (.str "field")=false
 ex:∃x:Str,iR gL (T' w)=some x/\Txt.words x=ks/\x.length<=sizeLine/\(Builtin.Str.spaceWords x (x.length+1)).length<=sizeLine
def kP:Str:=Str.ofString "P"
def jg:Str:=Str.ofString "NEW"
def eG:Str:=Str.ofString "ONE"
def kK:Str:=Str.ofString "K"
def zH:Str:=Str.ofString "OTHER"
def kA:Str:=Str.ofString "A"
def kB:Str:=Str.ofString "B"
def kC:Str:=Str.ofString "C"
theorem Iy:gZ vf [jg,eG,kK]:=⟨by decide+kernel,Str.ofString "NEW ONE K",by decide+kernel,by decide+kernel,by decide+kernel,by decide+kernel⟩
theorem GT:gZ oe [eG]:=⟨by decide+kernel,Str.ofString "ONE",by decide+kernel,by decide+kernel,by decide+kernel,by decide+kernel⟩
theorem v6:gZ j3 [eG]:=⟨by decide+kernel,Str.ofString "ONE",by decide+kernel,by decide+kernel,by decide+kernel,by decide+kernel⟩
theorem Jk:gZ Cm [eG]:=⟨by decide+kernel,Str.ofString "ONE",by decide+kernel,by decide+kernel,by decide+kernel,by decide+kernel⟩
theorem F8:gZ jF [eG,kK]:=⟨by decide+kernel,Str.ofString "ONE K",by decide+kernel,by decide+kernel,by decide+kernel,by decide+kernel⟩
theorem EC:gZ jO [eG,kK]:=⟨by decide+kernel,Str.ofString "ONE K",by decide+kernel,by decide+kernel,by decide+kernel,by decide+kernel⟩
theorem FB:gZ om [eG,zH]:=⟨by decide+kernel,Str.ofString "ONE OTHER",by decide+kernel,by decide+kernel,by decide+kernel,by decide+kernel⟩
theorem D7:gZ jD [eG,kA,kB,kC]:=⟨by decide+kernel,Str.ofString "ONE A B C",by decide+kernel,by decide+kernel,by decide+kernel,by decide+kernel⟩
theorem Kc:gZ DU [jg,eG,zH]:=⟨by decide+kernel,Str.ofString "NEW ONE OTHER",by decide+kernel,by decide+kernel,by decide+kernel,by decide+kernel⟩
def kh:List U->Out->Prop:=λc o=>(∃(w:List Nat) (a:List (List Nat)) (b:List Str),c=[.lst ((w::a).map sT)]/\gZ w b/\b.length=a.length/\o=.val (.lst (b.map U.str)))\/∃a:List (List Nat),c=[.lst ((eQ::a).map sT)]/\2<=a.length/\a.length<=61/\o=.val (.lst (.str jg::L7 (a.length-1) (.str kP)))
theorem qg:OkD P w base T.abj 1 (kh):=by
 refine okD dC (by rintro B o (⟨_,_,_,rfl,_⟩ |⟨_,rfl,_⟩) <;>rfl) ?_;intro _ _ _ l h;obtain⟨C,m,j⟩:=T.abn;rcases h with ⟨w,a,q,rfl,⟨v,x,i,f,p,s⟩,r,rfl⟩ |⟨a,rfl,y,u,rfl⟩
 .refine ae (ax 1 dC.nd (EvN.ev (vm (Gd j rfl m (aD (aa 0 rfl) ag rfl (bP rfl rfl)) i) p s)) ?_);rw[f];have e:(((w::a).map sT).length:Int)=a.length+1:=by simp
  have b:((q.map U.str).length:Int)=a.length:=by rw[Lg,r]
  refine ae (ax 2 dC.nd (bg (aw (bR rfl) rfl T.aab LL (af (aa 0 rfl) am ah)) ag) ?_);refine ae (aE (au (aT l) (aD (aa 0 rfl) ag rfl (bP rfl rfl)) aC) v (ay ?_));refine ae (aE (au nJ (aw (bR rfl) rfl T.aab LL (af (aa 1 rfl) am ah)) (aa 2 rfl)) (by rw[e,b];simp) (ay ?_));refine ae (aF (aa 1 rfl) ?_);exact rfl
 .have i:iR gL (T' eQ)=some (Str.ofString "NEW P"):=by decide+kernel
  have f:Txt.words (Str.ofString "NEW P")=[jg,kP]:=by decide+kernel
  refine ae (ax 1 dC.nd (EvN.ev (vm (Gd j rfl m (aD (aa 0 rfl) ag rfl (bP rfl rfl)) i) (by decide+kernel) (by decide+kernel))) ?_);rw[f];have e:(((eQ::a).map sT).length:Int)=a.length+1:=by simp
  have b:((([jg,kP]).map U.str).length:Int)=2:=rfl;refine ae (ax 2 dC.nd (bg (aw (bR rfl) rfl T.aab LL (af (aa 0 rfl) am ah)) ag) ?_);rw[e]
  have c:(if 60-1<a.length+1-1-((([jg,kP]).map U.str).length:Int) then 60-1 else a.length+1-1-((([jg,kP]).map U.str).length:Int))=((a.length-2:Nat):Int):=by
   rw[b,if_neg (by lia)];lia
  have d:([jg,kP]).map U.str++L7 (a.length-2) (.str kP)=.str jg::L7 (a.length-1) (.str kP):=by
   rw[show a.length-1=(a.length-2)+1 by lia,Nh];rfl
  refine n_ (λk=>SubP [some (.val (.lst ((eQ::a).map sT))),some (.val (.lst (.str jg::L7 (a.length-1) (.str kP)))),some (.val (.int (a.length+1-1))),none] k) (lD (au (aT l) (aD (aa 0 rfl) ag rfl (bP rfl rfl)) aC) (λA=>?_) (λt=>(ay ?_))) ?hj
  .refine ae (ax 3 dC.nd (bg (aa 2 rfl) (aw (bR rfl) rfl T.aab LL (af (aa 1 rfl) am ah))) ?_);refine ae (ax 1 dC.nd (EvN.ev (lV (aa 1 rfl) (EvN.ev (GQ (EvN.ev (dz (aA aC bC aJ))) (aw (xO rfl) rfl T.abf V9 (af (aa 3 rfl) (af (bg (vq rfl T.aaI) ag) am aQ) ah)) (by rw[c];lia) (by rw[c];lia) (by rw[c];exact Lu (aB (by lia))))) (by rw[NL,c];exact Lu (aB (by simp;lia))))) (ay ?_));refine⟨rfl,?_,rfl,trivial⟩;refine congrArg (λz=>some (Sl.val (.lst z))) ?_;rw[c,NM];exact d
  .exact absurd t (by decide+kernel)
  case hj=>
   intro k n;refine dY ?_ n;have g:((U.str jg::L7 (a.length-1) (U.str kP)).length:Int)=(a.length:Int)+1-1:=by simp;lia
   refine ae (aE (au nJ (aw (bR rfl) rfl T.aab LL (af (aa 1 rfl) am ah)) (aa 2 rfl)) (by rw[g];simp) (ay ?_));refine ae (aF (aa 1 rfl) ?_);exact rfl
structure Nm(l:List Nat):Prop where
 h1:1<=l.length
 h8:l.length<=8
 az:∀c∈l,97<=c/\c<=122
theorem Nm.free(h:Nm l):32 ∉ l:=λz=>by have:=h.az 32 z;lia
theorem lt1(c d):decide (([c]:List Nat) < [d])=decide (c<d):=by
 refine decide_eq_decide.mpr ⟨λh=>?_,λh=>?_⟩
 .cases h with
  |rel h=>exact h
  |cons h=>cases h
 .exact .rel h
theorem v8{α a:Type}{f:α->a}{l:List α}{j:Nat}{x:a}(h:(l.map f)[j]?=some x):∃c,l[j]?=some c/\c∈l/\x=f c:=by
 rw[Lq]at h;obtain⟨c,b,rfl⟩:=Qa.mp h;exact⟨c,b,LW b,rfl⟩
def D_:List U->Out->Prop:=λa o=>∃l:List Nat,a=[sT l]/\Nm l/\o=.val .non
theorem rO:OkD P w base T.aaV 1 (D_):=by
 refine okD gu (by walk_at"ln") ?_;rintro _ _ _ v ⟨l,rfl,e,rfl⟩;have u:=e.h1;have A:=e.h8;have d:(T' l).cps.toList=l:=by simp
 have b:=bu l;refine ae (nj ((T' l).cps.toList.map λc=>some (sg c)) (j:=1) false rfl gu.nd rfl (Or.inl rfl) (blk (ai ig) ["word","letters","sign"] [2] rfl rfl rfl rfl (by decide+kernel)) (EvI.z (Cd (aa 0 rfl))) (λ_ _ _ _=>aM (i:=2) gu.nd rfl (Or.inl rfl)) (bL (by decide)) ?clen ?csz (λ_ _=>trivial) ?ctest ?celt ?_)
 case clen=>simp
 case csz=>simp[d];exact Lu (aB (by lia))
 case ctest=>
  intro C m n s j x o a f;rw[d]at a f;obtain⟨c,g,h,rfl⟩:=v8 a;rw[Lq,g]at f;cases f;have z:=e.az c h
  have k:(!decide ((⟨#[c]⟩:Str).cps.toList<(Str.ofString "a":Str).cps.toList))=true:=by
   show (!decide (([c]:List Nat) < [97]))=true;rw[lt1,decide_eq_false (by lia)];rfl
  have r:(!decide ((Str.ofString "z":Str).cps.toList<(⟨#[c]⟩:Str).cps.toList))=true:=by
   show (!decide (([122]:List Nat) < [c]))=true;rw[lt1,decide_eq_false (by lia)];rfl
  rw[show (some (sg c)).isSome=((!decide ((⟨#[c]⟩:Str).cps.toList<(Str.ofString "a":Str).cps.toList)) && (!decide ((Str.ofString "z":Str).cps.toList<(⟨#[c]⟩:Str).cps.toList))) by rw[k,r];rfl];exact (EU Gr Gr aC (aa 2 rfl) aC)
 case celt=>
  intro C m n s j x y a hy;rw[d]at a hy;obtain⟨c,g,h,rfl⟩:=v8 a;rw[Lq,g]at hy;cases hy;exact (aa 2 rfl)
 have p:((((T' l).cps.toList.map λc=>some (sg c)).filterMap id).length:Int)=(l.length:Int):=by rw[d];simp[Vb]
 refine ae (aE (Tw.t (jh (au dG (aw (iK (by rw[b];exact Lu (aB (by lia)))) rfl T.aab LL (af (aa 0 rfl) am ah)) ag) (λq=>(jh (au fP (aw (iK (by rw[b];exact Lu (aB (by lia)))) rfl T.aab LL (af (aa 0 rfl) am ah)) (vq rfl T.aaw)) (λq=>(ix (au dG (aw (bR rfl) rfl T.aab LL (af (aa 1 rfl) am ah)) (aw (iK (by rw[b];exact Lu (aB (by lia)))) rfl T.aab LL (af (aa 0 rfl) am ah))))))))) (by rw[p,b,decide_eq_false (by lia),decide_eq_false (by lia),decide_eq_false (by lia)];rfl) (ay (ay ?_)));exact rfl
theorem yz:∀{l:List Int},l≠[]->∃M,M∈l/\∀a∈l,a<=M
 |[],h=>absurd rfl h
 |[a],_=>⟨a,Lo,λb hb=>by simp at hb;lia⟩
 |a::b::r,_=>by
  obtain⟨M,f,e⟩:=yz (l:=b::r) (by simp);by_cases h:a<=M
  .exact⟨M,Li _ f,λc d=>by
    rcases Ll.mp d with k |k
    .rw[k];exact h
    .exact e c k⟩
  .exact⟨a,Lo,λc d=>by
    rcases Ll.mp d with k |k
    .rw[k];exact OR _
    .have:=e c k;lia⟩
def Ek:List U->Out->Prop:=λa o=>∃l:List P2,a=[lp l]/\l≠[]/\l.length<=60/\(∀p∈l,B60 p)/\o=.val .non
theorem ut:OkD P w base T.aa5 1 (Ek):=by
 refine okD dX (by walk_at"ln") ?_;rintro _ _ _ B ⟨l,rfl,u,D,hb,rfl⟩;refine ae (uT (i:=1) dX.nd rfl (Or.inl rfl) (EvN.ev (lV (xs:=l.map λp=>U.int p.1) (ys:=l.map λp=>U.int p.2) ?eA ?eB (by rw[Lg,Lg];exact Lu (aB (by lia))))) ?_)
 case eA=>
  refine EvN.ev ?_;refine (bO rfl (blk (ai fj) ["land","numbers","P","number"] [2] rfl rfl rfl rfl (by decide+kernel)) (EvI.z (bV (aa 0 rfl) (.inl rfl))) (λ_ _ _ _=>aM (i:=2) dX.nd rfl (Or.inl rfl)) (bL (by decide)) ?clen ?csz (λ_ _=>trivial) ?celt)
  case clen=>simp
  case csz=>rw[Lg];exact Lu (aB (by lia))
  case celt=>
   intro C g m o j x y d hy;obtain⟨p,b,q,rfl,rfl⟩:=b7 d hy;exact (aD (aa 2 rfl) ag rfl rfl)
 case eB=>
  refine EvN.ev ?_;refine (bO rfl (blk (ai fj) ["land","numbers","P","number"] [2] rfl rfl rfl rfl (by decide+kernel)) (EvI.z (bV (aa 0 rfl) (.inl rfl))) (λ_ _ _ _=>aM (i:=2) dX.nd rfl (Or.inl rfl)) (bL (by decide)) ?clen ?csz (λ_ _=>trivial) ?celt)
  case clen=>simp
  case csz=>rw[Lg];exact Lu (aB (by lia))
  case celt=>
   intro C g m o j x y d hy;obtain⟨p,b,q,rfl,rfl⟩:=b7 d hy;exact (aD (aa 2 rfl) ag rfl rfl)
 have c:(l.map λp=>U.int p.1)++(l.map λp=>U.int p.2)=(l.map (·.1)++l.map (·.2)).map U.int:=by rw[Md,L4,L4];rfl
 rw[c]
 have r:∀n∈l.map (·.1)++l.map (·.2),n.natAbs<10 ^ 60:=λn a=>by
  rcases Mm.mp a with k |k
  .obtain⟨p,b,rfl⟩:=Ln.mp k;exact (hb p b).1
  .obtain⟨p,b,rfl⟩:=Ln.mp k;exact (hb p b).2
 have A:(l.map (·.1)++l.map (·.2)).length<=120:=by simp;lia
 have a:l.map (·.1)++l.map (·.2)≠[]:=by simp[u]
 generalize l.map (·.1)++l.map (·.2)=L at *;obtain⟨M,h,e⟩:=yz (l:=L.map λn=>n.natAbs) (by simp[a])
 have s:M<10 ^ 60:=by
  obtain⟨n,a,rfl⟩:=Ln.mp h;have:=r n a
  exact_mod_cast this
 have v:((l.map pu).length)=l.length:=by rw[Lg]
 have f:(10:Int) ^ (60:Int).toNat=10 ^ 60:=rfl;refine ae (aE (Tw.t (jh (au fP (aw (bR rfl) rfl T.aab LL (af (aa 0 rfl) am ah)) (vq rfl T.aav)) (λE=>(ix (au I_ (aw (CC rfl ⟨h,e⟩) rfl T.aa8 Vl (af (EvN.ev (bO rfl (blk (ai fj) ["land","numbers","P","number"] [3] rfl rfl rfl rfl (by decide+kernel)) (EvI.z (bV (aa 1 rfl) (.inl rfl))) (λ_ _ _ _=>aM (i:=3) dX.nd rfl (Or.inl rfl)) (bL (by decide)) ?clen ?csz (λ_ _=>trivial) ?celt)) am dg)) (xr ag ag ⟨by decide,by decide,by decide⟩)))))) (by rw[v,decide_eq_false (show ¬ (l.length:Int) >60 by lia),f,decide_eq_false (show ¬ M ≥ 10 ^ 60 by lia)];rfl) (ay (ay ?_)))
 case clen=>simp
 case csz=>rw[Lg];exact Lu (aB (by lia))
 case celt=>
  intro C g m o j x y d hy;rw[L4]at hy;obtain⟨n,a,F,rfl,rfl⟩:=b7 d hy;show Ev _ _ _ _ _ (.int n.natAbs);rw[show n.natAbs=(if n<0 then -n else n) by split <;>lia]
  exact (aw nM rfl T.aa0 PyProof.Rows.boot_abs (af (aa 3 rfl) am ah))
 exact rfl
def pX:List U->Out->Prop:=λa o=>(∃pts:List P2,a=[sT eQ,lp pts]/\(∀p∈pts,Szp 5000 p)/\pts.length<64/\pts≠[]/\o=.new ((aj pts).map pu))\/
 (∃(l:List P2) (k:Int),a=[sT vf,.lst [lp l,.int k]]/\p8 [lp l,.int k] (.new ((aj (l.map (scl k))).map pu))/\o=.new ((aj (l.map (scl k))).map pu))\/
 ∃l m:List P2,a=[sT DU,.lst [lp l,lp m]]/\vo [lp l,lp m] o
theorem Fk:OkD P w base T.abD 6 (pX):=by
 refine okD DY (by rintro q o (⟨_,rfl,_⟩ |⟨_,_,rfl,_⟩ |⟨_,_,rfl,_⟩) <;>rfl) ?_;intro _ _ _ a h;rcases h with ⟨pts,rfl,sz,g,f,rfl⟩ |⟨l,k,rfl,h,rfl⟩ |⟨l,m,rfl,h⟩
 .refine ae (cD (au (aT a) (aa 0 rfl) aC) (by decide+kernel) ?_);refine ae (cX (df (ka T) a (af (aa 1 rfl) am ah) ⟨pts,rfl,sz,g,f,rfl⟩) ?_);exact rfl
 .refine ae (aE (au (aT a) (aa 0 rfl) aC) (by decide+kernel) (ay ?_));refine ae (aE (au (aT a) (aa 0 rfl) aC) (by decide+kernel) (ay ?_));refine ae (cD (au (aT a) (aa 0 rfl) aC) (by decide+kernel) ?_);refine ae (cX (df (xP T) a (af (aD (aa 1 rfl) ag rfl rfl) (af (aD (aa 1 rfl) ag rfl rfl) am aN) aN) h) ?_);exact rfl
 .obtain⟨p,i,e,c,b,n,d,j,rfl⟩:=h;refine ae (aE (au (aT a) (aa 0 rfl) aC) (by decide+kernel) (ay ?_));refine ae (aE (au (aT a) (aa 0 rfl) aC) (by decide+kernel) (ay ?_));refine ae (aE (au (aT a) (aa 0 rfl) aC) (by decide+kernel) (ay ?_));refine ae (cD (au (aT a) (aa 0 rfl) aC) (by decide+kernel) ?_);refine ae (cX (df (lM T) a (af (aD (aa 1 rfl) ag rfl rfl) (af (aD (aa 1 rfl) ag rfl rfl) am aN) aN) ⟨p,i,e,c,b,n,d,j,rfl⟩) ?_);exact rfl
structure Fit(l:List P2):Prop where
 ne:l≠[]
 hl:l.length<=60
 sz:∀p∈l,Szp 200 p
 b:∀p∈l,B60 p
inductive Rck:List U->Int->Prop
 |area (l:List P2):Fit l->Rck [sT j3,.lst [lp l]] (area l)
 |rim (l:List P2):Fit l->Rck [sT Cm,.lst [lp l]] (d8 l)
 |count (l:List P2) (k:Int):Fit l->0<=k->Sz 200 k->Rck [sT jF,.lst [lp l,.int k]] (f7 (aj (l.map (scl k))))
 |inner (l:List P2) (k:Int):Fit l->0<=k->Sz 200 k->Rck [sT jO,.lst [lp l,.int k]] (pin (aj (l.map (scl k))))
 |mixed (l m:List P2):Fit l->Fit m->l.length+m.length<64->Rck [sT om,.lst [lp l,lp m]] (area (aj (tog l m))-area l-area m)
 |share (l:List P2) (a b c:Int):Fit l->Fld l->Sz 200 a->Sz 200 b->Sz 200 c->Rck [sT jD,.lst [lp l,.int a,.int b,.int c]] (dt l λp=>decide (a*p.1+b*p.2<=c))
def Dv:List U->Out->Prop:=λa o=>∃n:Int,Rck a n/\o=.val (.int n)
theorem uB:OkD P w base T.aa6 9 (Dv):=by
 refine okD tS (by rintro u o ⟨_,h,_⟩;cases h <;>rfl) ?_;intro _ _ _ d h;obtain⟨n,h,rfl⟩:=h;cases h with
 |area l e=>
  have f:=e.hl;refine ae (cD (au (aT d) (aa 0 rfl) aC) (by decide+kernel) ?_);refine ae (aF (aR (cB T) d (af (aD (aa 1 rfl) ag rfl rfl) am aN) ⟨l,rfl,by lia,bw (by decide) e.sz,rfl⟩) ?_);exact rfl
 |rim l e=>
  have f:=e.hl;have r:=LQ.mpr e.ne;refine ae (aE (au (aT d) (aa 0 rfl) aC) (by decide+kernel) (ay ?_));refine ae (cD (au (aT d) (aa 0 rfl) aC) (by decide+kernel) ?_);refine ae (aF (aR (wR T) d (af (aD (aa 1 rfl) ag rfl rfl) am aN) ⟨l,rfl,r,by lia,bw (by decide) e.sz,rfl⟩) ?_);exact rfl
 |count l k e i g=>
  have f:=e.hl;refine ae (aE (au (aT d) (aa 0 rfl) aC) (by decide+kernel) (ay ?_));refine ae (aE (au (aT d) (aa 0 rfl) aC) (by decide+kernel) (ay ?_));refine ae (cD (au (aT d) (aa 0 rfl) aC) (by decide+kernel) ?_);refine ae (aF (v_ ((t_ T).mono (by decide)) d rfl T.aah.m T.aah.F.kp T.aah.b fq (af (aD (aa 1 rfl) ag rfl rfl) (af (aD (aa 1 rfl) ag rfl rfl) am aN) aN) ⟨l,k,rfl,i,g.mono (by decide),bw (by decide) e.sz,e.ne,by lia,rfl⟩) ?_);exact rfl
 |inner l k e i g=>
  have f:=e.hl;refine ae (aE (au (aT d) (aa 0 rfl) aC) (by decide+kernel) (ay ?_));refine ae (aE (au (aT d) (aa 0 rfl) aC) (by decide+kernel) (ay ?_));refine ae (aE (au (aT d) (aa 0 rfl) aC) (by decide+kernel) (ay ?_));refine ae (cD (au (aT d) (aa 0 rfl) aC) (by decide+kernel) ?_);refine ae (aF (v_ ((nH T).mono (by decide)) d rfl T.aae.m T.aae.F.kp T.aae.b fq (af (aD (aa 1 rfl) ag rfl rfl) (af (aD (aa 1 rfl) ag rfl rfl) am aN) aN) ⟨l,k,rfl,i,g.mono (by decide),bw (by decide) e.sz,e.ne,by lia,rfl⟩) ?_);exact rfl
 |mixed l m e p j=>
  refine ae (aE (au (aT d) (aa 0 rfl) aC) (by decide+kernel) (ay ?_));refine ae (aE (au (aT d) (aa 0 rfl) aC) (by decide+kernel) (ay ?_));refine ae (aE (au (aT d) (aa 0 rfl) aC) (by decide+kernel) (ay ?_));refine ae (aE (au (aT d) (aa 0 rfl) aC) (by decide+kernel) (ay ?_));refine ae (cD (au (aT d) (aa 0 rfl) aC) (by decide+kernel) ?_);refine ae (aF (aR (Bo T) d (af (aD (aa 1 rfl) ag rfl rfl) (af (aD (aa 1 rfl) ag rfl rfl) am aN) aN) ⟨l,m,rfl,e.ne,p.ne,j,bw (by decide) e.sz,bw (by decide) p.sz,rfl⟩) ?_);exact rfl
 |share l a b c e F t q s=>
  have f:=e.hl;refine ae (aE (au (aT d) (aa 0 rfl) aC) (by decide+kernel) (ay ?_));refine ae (aE (au (aT d) (aa 0 rfl) aC) (by decide+kernel) (ay ?_));refine ae (aE (au (aT d) (aa 0 rfl) aC) (by decide+kernel) (ay ?_));refine ae (aE (au (aT d) (aa 0 rfl) aC) (by decide+kernel) (ay ?_));refine ae (aE (au (aT d) (aa 0 rfl) aC) (by decide+kernel) (ay ?_));refine ae (aF (aR (Ci T) d (af (aD (aa 1 rfl) ag rfl rfl) (af (aD (aa 1 rfl) ag rfl rfl) (af (aD (aa 1 rfl) ag rfl rfl) (af (aD (aa 1 rfl) ag rfl rfl) am aN) aN) aN) aN) ⟨l,a,b,c,rfl,F,by lia,e.sz,t,q,s.mono (by decide),rfl⟩) ?_);exact rfl
theorem re(c):∀(l:List Str) a,(∀x∈l,x.length≤c)→l.foldl (λn x=>n+x.length+(Str.ofString " ":Str).length) a≤a+l.length*(c+1)
 |[],a,_=>by simp
 |x::l,a,h=>by
  have h1:=h x Lo;have b:=re c l (a+x.length+(Str.ofString " ").length) λy hy=>h y (Li _ hy);have d:(Str.ofString " ").length=1:=rfl;rw[Nd,LF,U3,U2];generalize l.length*(c+1)=z at *;exact LN b (by lia)
theorem xJ{pts:List P2}(h:∀p∈pts,B60 p)(c:pts.length≤61):Xl (Str.ofString " ") (pts.map λp=>T' (ptD p))=true:=by
 have a:∀x∈pts.map (λp=>T' (ptD p)),x.length<=123:=λx a=>by
  obtain⟨p,d,rfl⟩:=Ln.mp a;have:=mL (h p d);rw[bu];exact this
 have:=re 123 (pts.map λp=>T' (ptD p)) 0 a;unfold Xl;rw[<-So];have e:(pts.map λp=>T' (ptD p)).length*(123+1)<=61*124:=SD (by rw[Lg];exact c) (Lk _)
 have b:Builtin.Str.tooLong ((pts.map λp=>T' (ptD p)).foldl (λn x=>n+x.length+(Str.ofString " ").length) 0)=false:=by
  unfold Builtin.Str.tooLong;rw[Oq];exact decide_eq_false (by lia)
 rw[b];rfl
theorem Jg(pts:List P2):(pts.map λp=>sT (ptD p))=(pts.map λp=>T' (ptD p)).map U.str:=by rw[L4];rfl
theorem JO(h:B60 p):p.1.natAbs<10 ^ 300/\p.2.natAbs<10 ^ 300:=⟨MP h.1 (by decide+kernel),MP h.2 (by decide+kernel)⟩
def vF:List U->Out->Prop:=λa o=>∃pts:List P2,a=[lp pts]/\(∀p∈pts,B60 p)/\pts.length<=61/\o=.val (sT (jn (pts.map ptD)))
theorem nB:OkD P w base T.aaD 3 (vF):=by
 refine okD iz (by walk_at"ln") ?_;rintro _ _ _ b ⟨pts,rfl,hb,c,rfl⟩;refine ae (aF (qK aC ?ej dg (xJ hb c)) ?_)
 case ej=>
  rw[<-Jg];refine EvN.ev ?_;refine (bO rfl (blk (ai fE) ["points","P"] [1] rfl rfl rfl rfl (by decide+kernel)) (EvI.z (bV (aa 0 rfl) (.inl rfl))) (λ_ _ _ _=>aM (i:=1) iz.nd rfl (Or.inl rfl)) (bL (by decide)) ?clen ?csz (λ_ _=>trivial) ?celt)
  case clen=>simp
  case csz=>rw[Lg];exact Lu (aB (by lia))
  case celt=>
   intro C e f h j x y d hy;obtain⟨p,g,a,rfl,rfl⟩:=b7 d hy;exact (aR (pF T) b (af (aa 1 rfl) am ah) ⟨p,rfl,(JO (hb p a)).1,(JO (hb p a)).2,rfl⟩)
 rw[show (pts.map λp=>T' (ptD p))=(pts.map ptD).map T' by rw[L4];rfl];refine congrArg (λz=>Out.val (.str z)) ?_;exact E6 (pts.map ptD)
inductive Ans:List U->List Nat->Prop
 |show_ (l:List P2):Fit l->Ans [sT oe,.lst [lp l]] (jn (l.map ptD))
 |num (w:List Nat) (gs:List U) (n:Int):w≠oe→(eqW (sT w) (.str "show") || (eqW (sT w) (.str "where") || (eqW (sT w) (.str "tell") || (eqW (sT w) (.str "alike") ||eqW (sT w) (.str "thin")))))=false→Rck [sT w,.lst gs] n→n.natAbs<10 ^ 300→Ans [sT w,.lst gs] (ds n)
def A7:List U->Out->Prop:=λa o=>∃t:List Nat,Ans a t/\o=.val (sT t)
theorem Am:OkD P w base T.abk 10 (A7):=by
 refine okD Ay (by rintro i o ⟨_,h,_⟩;cases h <;>rfl) ?_;intro _ _ _ a h;obtain⟨t,h,rfl⟩:=h;cases h with
 |show_ l d=>
  have g:=d.hl;refine ae (cD (au (aT a) (aa 0 rfl) aC) (by decide+kernel) ?_);refine ae (aF (aR (nB T) a (af (aD (aa 1 rfl) ag rfl rfl) am aN) ⟨l,rfl,d.b,by lia,rfl⟩) ?_);exact rfl
 |num w j n _ c f e=>
  simp only[UJ]at c;refine ae (aE (au (aT a) (aa 0 rfl) aC) c.1 (ay ?_));refine ae (aE (au (aT a) (aa 0 rfl) aC) c.2.1 (ay ?_));refine ae (aE (au (aT a) (aa 0 rfl) aC) c.2.2.1 (ay ?_));refine ae (aE (au (aT a) (aa 0 rfl) aC) c.2.2.2.1 (ay ?_));refine ae (aE (au (aT a) (aa 0 rfl) aC) c.2.2.2.2 (ay ?_));refine ae (aF (aR (e8 T) a (af (aR (uB T) a (af (aa 0 rfl) (af (aa 1 rfl) am ah) ah) ⟨n,f,rfl⟩) am be) ⟨n,rfl,e,rfl⟩) ?_);exact rfl
inductive Rd (XZ:List (Str×U)):Str->Str->U->Prop
 |new (l:List Nat):Nm l->Rd XZ jg (T' l) (sT l)
 |one (k n:Str) (u:U):(k=eG\/k=zH)->L2.valU XZ n=some u->Rd XZ k n u
 |pnt (p:P2):B60 p->Rd XZ kP (T' (ptD p)) (pu p)
 |num (d:Str) (k:Int):(d=kK\/d=kA\/d=kB\/d=kC)->k.natAbs<10 ^ 60->Rd XZ d (T' (ds k)) (.int k)
def Ac:LX->List (Str×U)->List U->Out->Prop:=λ_ c d o=>∃a b u,d=[.str a,.str b]/\Rd c a b u/\o=.val u
theorem kE  :cj P w K mg base (CXF P w) 4 T.aao.a T.aao.d ["self","kind","word"] (spD K false T.aad (Ac)):=by
 refine ii T.aao.F qN (λd x v o h=>?_) (λt A j s H z E O a d x v o b h=>?_)
 .obtain⟨c,f,u,rfl,m,rfl⟩:=h;rfl
 obtain⟨c,f,u,rfl,m,rfl⟩:=h;refine Ws.nox ?_;cases m with
 |new l r=>
  refine ae (cD (au (aT b) (aa 1 rfl) aC) (by decide+kernel) ?_);refine ae (o4 (aR (rO T) b (af (aa 2 rfl) am ah) ⟨l,rfl,r,rfl⟩) ?_);refine ae (aF (aa 2 rfl) ?_);exact rfl
 |one k n u e q=>
  refine ae (aE (au (aT b) (aa 1 rfl) aC) (by rcases e with rfl |rfl <;>decide+kernel) (ay ?_));refine ae (cD (au (AG rfl rfl rfl) (aa 1 rfl) (bU (aA aC (aA aC bC aJ) aJ))) (by rcases e with rfl |rfl <;>decide+kernel) ?_);refine ae (aE (GU (i:=0) rfl (o8 (i:=0) rfl T.aac T.aax) (aa 2 rfl) (jP b)) (by rw[q];rfl) (ay ?_));refine ae (aF (Hx (i:=0) rfl (o8 (i:=0) rfl T.aac T.aax) (aa 2 rfl) (jP b) q) ?_);exact rfl
 |pnt p hb=>
  refine ae (aE (au (aT b) (aa 1 rfl) aC) (by decide+kernel) (ay ?_));refine ae (aE (au (AG rfl rfl rfl) (aa 1 rfl) (bU (aA aC (aA aC bC aJ) aJ))) (by decide+kernel) (ay ?_));refine ae (cD (au (aT b) (aa 1 rfl) aC) (by decide+kernel) ?_);refine ae (aF (aR (pI T) b (af (aa 2 rfl) am ah) ⟨p,rfl,hb,rfl⟩) ?_);exact rfl
 |num d k g e=>
  have y:=cE (by decide) e;refine ae (aE (au (aT b) (aa 1 rfl) aC) (by rcases g with rfl |rfl |rfl |rfl <;>decide+kernel) (ay ?_));refine ae (aE (au (AG rfl rfl rfl) (aa 1 rfl) (bU (aA aC (aA aC bC aJ) aJ))) (by rcases g with rfl |rfl |rfl |rfl <;>decide+kernel) (ay ?_));refine ae (aE (au (aT b) (aa 1 rfl) aC) (by rcases g with rfl |rfl |rfl |rfl <;>decide+kernel) (ay ?_));refine ae (aF (aR (e7 T) b (af (aa 2 rfl) am ah) ⟨ds k,rfl,by lia,BA e,rfl⟩) ?_);rw[sR]
def zJ:LX→List (Str×U)→List U→Out→Prop:=λd a b o=>∃(n:Str) (l:List P2),b=[.str n,lp l]∧l≠[]∧l.length≤60∧(∀p∈l,B60 p)∧a.length<1000∧o=.dsk d (.str "ok") (mj a n (lp l))
theorem qI  :cj P w K mg base (CXF P w) 2 T.aaj.a T.aaj.d ["self","name","land"] (spD K true T.aad (zJ)):=by
 refine ii T.aaj.F rc (λd m j o h=>?_) (λg A b s H p E O a d m j o e h=>?_)
 .obtain⟨n,l,rfl,c,f,hb,k,rfl⟩:=h;rfl
 obtain⟨n,l,rfl,c,f,hb,k,rfl⟩:=h;refine Ws.nox ?_;refine ae (o4 (aR (ut T) e (af (aa 2 rfl) am ah) ⟨l,rfl,c,f,hb,rfl⟩) ?_);refine ae (HJ (i:=0) rfl (o8 (i:=0) rfl T.aac T.aax) (aa 1 rfl) (aa 2 rfl) (jP e) (aB (by lia)) ?_);refine ae (Hl (i:=0) rfl aC ?_);exact rfl
theorem yo(h:∀w∈ws,w.length<=123)(a:ws.length<=62):(jn ws).length<=8200:=by
 have:=CV ws h;lia
structure Row(XZ:List (Str×U))(w:List Nat)(ws:List (List Nat))(ks:List Str)(gs:List U):Prop where
 kn:kh [.lst ((w::ws).map sT)] (.val (.lst (ks.map U.str)))
 fr:∀x∈w::ws,32 ∉ x
 ln:∀x∈w::ws,x.length<=123
 nw:ws.length<=61
 l1:ks.length=ws.length
 l2:gs.length=ws.length
 rd:∀(i:Nat) (k:Str) (wd:List Nat) (g:U),ks[i]?=some k->ws[i]?=some wd->gs[i]?=some g->Rd XZ k (T' wd) g
 tb:(iR gL (T' w)).isSome=true
 nn:eqW (sT w) (.str "names")=false
 nd:eqW (sT w) (.str "drop")=false
theorem iI:∀a b,a.length=b.length->(gd a b).length=a.length
 |[],[],_=>rfl
 |_::a,_::b,h=>by rw[gd,LF,iI a b (by simpa using h),LF]
theorem iN:∀d c (i:Nat) x,(gd d c)[i]?=some x->∃a b,d[i]?=some a/\c[i]?=some b/\x=.tup [a,b]
 |[],_,i,x,h=>by simp[gd]at h
 |_::_,[],i,x,h=>by simp[gd]at h
 |a::d,b::c,0,x,h=>by cases h;exact⟨a,b,rfl,rfl,rfl⟩
 |a::d,b::c,i+1,x,h=>iN d c i x h
theorem oQ(a)(r):fL (a::r) (some 1) none=r:=by rw[Da];rfl
def bZ:LX→List (Str×U)→List U→Out→Prop:=λ_ d e o=>∃(w:List Nat) (a:List (List Nat)) (c:Str) (f:List Str) (b:List U) (t:List Nat),e=[sT (jn (w::a))]∧Row d w a (c::f) b∧eqW (.str c) (.str "NEW")=false∧Ans [sT w,.lst b] t∧o=.val (sT t)
theorem dH  :cj P w K mg base (CXF P w) 11 T.aaa.a T.aaa.d ["self","row"] (spD K false T.aad (bZ)):=by
 refine ii T.aaa.F bB (λd r z o h=>?_) (λv A l s H L E O a d r z o b h=>?_)
 .obtain⟨w,e,m,p,n,t,rfl,R,c,u,rfl⟩:=h;rfl
 obtain⟨w,e,m,p,n,t,rfl,R,c,u,rfl⟩:=h;refine Ws.nox ?_;have J:=R.nw;have l1:=R.l1;have l2:=R.l2;refine ae (ax 2 bB.nd (aR (kQ T) b (af (aa 1 rfl) am ah) ⟨w,e,rfl,R.fr,yo R.ln (by simp;lia),R.tb,rfl⟩) ?_);refine ae (ax 3 bB.nd (aR (qg T) b (af (aa 2 rfl) am ah) R.kn) ?_);show Ws _ _ _ _ _ _ [some (.dsk false T.aad a d r),some (.val (sT (jn (w::e)))),some (.val (.lst (sT w::e.map sT))),some (.val (.lst ((m::p).map U.str))),none,none,none];refine ae (jJ (ys:=n) (j:=4) false rfl bB.nd rfl (Or.inl rfl) (blk (ai gN) ["self","row","words","kinds","given","kind","word"] [5,6] rfl rfl rfl rfl (by decide+kernel)) (Cw rfl T.abw (aa 3 rfl) (.inl rfl) (EvN.ev (dj (aa 2 rfl) (du ag) dy (.inl rfl))) (.inl rfl) ?l12 ah aN) (λ_ _ _ _=>jI rfl (bJ (aM bB.nd rfl (Or.inl rfl)) (bJ (aM bB.nd rfl (Or.inl rfl)) ft))) (gw (js:=[5,6]) (by decide)) ?clen ?csz ?dom ?celt ?_)
 case l12=>rw[oQ,Lg,Lg,l1]
 case clen=>rw[oQ,iI _ _ (by rw[Lg,Lg,l1]),Lg,l1,l2]
 case csz=>rw[oQ,iI _ _ (by rw[Lg,Lg,l1]),Lg,l1];exact Lu (aB (by lia))
 case dom=>
  rw[oQ];intro x g;obtain⟨i,B⟩:=Mn.mp g;obtain⟨_,_,_,_,rfl⟩:=iN _ _ _ _ B;exact⟨_,rfl,rfl⟩
 case celt=>
  rw[oQ];intro C G I M j x y g hy;obtain⟨_,_,ha,hb,rfl⟩:=iN _ _ _ _ g;obtain⟨k,D,_,rfl⟩:=v8 ha;obtain⟨q,f,_,rfl⟩:=v8 hb;exact mr (kE T) 0 T.aac b rfl (af (aa 5 rfl) (af (aa 6 rfl) am ah) ah) ⟨k,T' q,y,rfl,R.rd j k q y D f hy,rfl⟩
 refine ae (aE (au (aT b) (aD (aa 2 rfl) ag rfl (bP rfl rfl)) aC) R.nn (ay ?_));refine ae (aE (au (aT b) (aD (aa 2 rfl) ag rfl (bP rfl rfl)) aC) R.nd (ay ?_));refine ae (aE (au (aT b) (aD (aa 3 rfl) ag rfl (bP rfl rfl)) aC) c (ay ?_));refine ae (aF (aR (Am T) b (af (aD (aa 2 rfl) ag rfl (bP rfl rfl)) (af (aa 4 rfl) am ah) aN) ⟨t,u,rfl⟩) ?_);exact rfl
def zZ:LX→List (Str×U)→List U→Out→Prop:=λd a e o=>∃(w y:List Nat) (b:List (List Nat)) (f:List Str) (c:List U) (l:List P2),e=[sT (jn (w::y::b))]∧Row a w (y::b) (jg::f) (sT y::c)∧a.length<1000∧pX [sT w,.lst c] (.new (l.map pu))∧l≠[]∧l.length≤60∧(∀p∈l,B60 p)∧o=.dsk d (.str "ok") (mj a (T' y) (lp l))
theorem mR  :cj P w K mg base (CXF P w) 11 T.aaa.a T.aaa.d ["self","row"] (spD K true T.aad (zZ)):=by
 refine ii T.aaa.F bB (λd D I o h=>?_) (λG A n s H Q E O a d D I o c h=>?_)
 .obtain⟨w,y,e,v,q,l,rfl,R,f,r,u,z,hb,rfl⟩:=h;rfl
 obtain⟨w,y,e,v,q,l,rfl,R,f,r,u,z,hb,rfl⟩:=h;refine Ws.nox ?_;have L:=R.nw;have l1:=R.l1;have l2:=R.l2;refine ae (ax 2 bB.nd (aR (kQ T) c (af (aa 1 rfl) am ah) ⟨w,y::e,rfl,R.fr,yo R.ln (by simp;simp at L;lia),R.tb,rfl⟩) ?_);refine ae (ax 3 bB.nd (aR (qg T) c (af (aa 2 rfl) am ah) R.kn) ?_);show Ws _ _ _ _ _ _ [some (.dsk true T.aad a d D),some (.val (sT (jn (w::y::e)))),some (.val (.lst (sT w::(y::e).map sT))),some (.val (.lst ((jg::v).map U.str))),none,none,none];refine ae (jJ (ys:=sT y::q) (j:=4) false rfl bB.nd rfl (Or.inl rfl) (blk (ai gN) ["self","row","words","kinds","given","kind","word"] [5,6] rfl rfl rfl rfl (by decide+kernel)) (Cw rfl T.abw (aa 3 rfl) (.inl rfl) (EvN.ev (dj (aa 2 rfl) (du ag) dy (.inl rfl))) (.inl rfl) ?l12 ah aN) (λ_ _ _ _=>jI rfl (bJ (aM bB.nd rfl (Or.inl rfl)) (bJ (aM bB.nd rfl (Or.inl rfl)) ft))) (gw (js:=[5,6]) (by decide)) ?clen ?csz ?dom ?celt ?_)
 case l12=>rw[oQ,Lg,Lg,l1]
 case clen=>rw[oQ,iI _ _ (by rw[Lg,Lg,l1]),Lg,l1,l2]
 case csz=>rw[oQ,iI _ _ (by rw[Lg,Lg,l1]),Lg,l1];exact Lu (aB (by lia))
 case dom=>
  rw[oQ];intro x p;obtain⟨i,J⟩:=Mn.mp p;obtain⟨_,_,_,_,rfl⟩:=iN _ _ _ _ J;exact⟨_,rfl,rfl⟩
 case celt=>
  rw[oQ];intro C M N S j x t p hy;obtain⟨_,_,ha,hb,rfl⟩:=iN _ _ _ _ p;obtain⟨k,f,_,rfl⟩:=v8 ha;obtain⟨B,g,_,rfl⟩:=v8 hb;exact mr (kE T) 0 T.aac c rfl (af (aa 5 rfl) (af (aa 6 rfl) am ah) ah) ⟨k,T' B,t,rfl,R.rd j k B t f g hy,rfl⟩
 refine ae (aE (au (aT c) (aD (aa 2 rfl) ag rfl (bP rfl rfl)) aC) R.nn (ay ?_));refine ae (aE (au (aT c) (aD (aa 2 rfl) ag rfl (bP rfl rfl)) aC) R.nd (ay ?_));refine ae (cD (au (aT c) (aD (aa 3 rfl) ag rfl (bP rfl rfl)) aC) (by decide+kernel) ?_);refine ae (F3 (i:=0) rfl (nD (i:=0) rfl T.aac T.aaj.m ((qI T).mono (by decide)) c T.aaj.b fq (af (aD (aa 2 rfl) ag rfl (bP rfl rfl)) (af (EvN.ev (df (Fk T) c (af (aD (aa 2 rfl) ag rfl (bP rfl rfl)) (af (EvN.ev (dj (aa 4 rfl) (du ag) dy (.inl rfl))) am aN) aN) (by rw[oQ];exact r))) am be) aN) ⟨T' y,l,rfl,u,z,hb,f,rfl⟩) ?_);exact rfl
theorem En:cj P w K mg base (CXF P w) 1 T.aai.a T.aai.d ["self"] (spI T.aad):=
 Ey T.aai.F rY rfl rfl rfl T.aac T.aax rfl
def cel(ns:List Int)(k:Int):Int:=if k<(ns.length:Int) then ns.getD k.toNat 0 else 7*k*k+3*k+1
theorem ie(h:∀m∈ns,Sz 1048576 m)(a:0<=k)(b:k<1000):Sz 1048576 (cel ns k):=by
 unfold cel;split
 .exact FZ h _
 .refine Sz.mono (m:=100) ?_ (by decide)
  have:7*k*k<=7*1000*1000:=by
   have:k*k<=1000*1000:=Int.mul_le_mul (by lia) (by lia) a (by lia);rw[RW];lia
  have c:0<=7*k*k:=Lv (by lia) a;unfold Sz;lia
def AJ:List U->Out->Prop:=λb o=>∃(a:List Int) (k:Int),b=[.scr (a.map U.int),.int k]/\a.length<=63/\0<=k/\k<1000/\o=.val (.int (cel a k))
theorem bF:OkD P w base T.aaW 1 (AJ):=by
 refine okD rX (by walk_at"ln") ?_;rintro _ _ _ j ⟨d,k,rfl,g,f,h,rfl⟩;have i:Sz 64 k:=by unfold Sz;lia
 have b:((d.map U.int).length)=d.length:=by rw[Lg]
 refine ae (lD (au dG (aa 1 rfl) (aw (bR rfl) rfl T.aab LL (af (aa 0 rfl) am ah))) (λe=>?_) (λc=>(ay ?_)))
 .rw[b]at e;have a:=dTb e;refine ae (aF (aD (aa 0 rfl) (aa 1 rfl) rfl (Bt f a)) ?_);exact vIO (by unfold cel;rw[if_pos a])
 .rw[b]at c;have a:=dFb c;refine ae (aF (bK (bK (aZ (aZ ag (aa 1 rfl) (by walk_at"mul")) (aa 1 rfl) (by walk_at"mul")) (aZ ag (aa 1 rfl) (by walk_at"mul"))) ag) ?_)
  exact vIO (by unfold cel;rw[if_neg a])
theorem KM(h:0<=y)(a:Sz m y):Sz m (x%(2*y+1)-y):=by
 have c:=Nz x (show 2*y+1≠0 by lia);have b:=M9 x (show 0<2*y+1 by lia);generalize x%(2*y+1)=z at *;refine Sz.le ?_ a;lia
def zn:List U->Out->Prop:=λa o=>∃P Q R:P2,a=[pu P,pu Q,pu R]/\Szp 5000 P/\Szp 5000 Q/\Szp 5000 R/\o=.val (.int (aq P Q R))
theorem rR:OkD P w base T.aaX 1 (zn):=by
 refine okD rH (by walk_at"ln") ?_;rintro _ _ _ g ⟨P,Q,R,rfl,⟨f,a⟩,⟨e,b⟩,⟨d,c⟩,rfl⟩;refine ae (aF (bg (aZ (bg (aD (aa 1 rfl) ag rfl rfl) (aD (aa 0 rfl) ag rfl rfl)) (bg (aD (aa 2 rfl) ag rfl rfl) (aD (aa 0 rfl) ag rfl rfl)) (by walk_at"mul")) (aZ (bg (aD (aa 1 rfl) ag rfl rfl) (aD (aa 0 rfl) ag rfl rfl)) (bg (aD (aa 2 rfl) ag rfl rfl) (aD (aa 0 rfl) ag rfl rfl)) (by walk_at"mul"))) ?_);exact rfl
theorem kD:OkD P w base T.aaY 2 (oW):=by
 refine okD gR (by walk_at"ln") ?_;rintro _ _ _ hr ⟨row,rfl,sz,hl,rfl⟩;refine ae (oy (i:=1) gR.nd rfl (Or.inl rfl) (dz bC) ?_);refine ae (gJ (λst:List P2=>[some (.val (lp row)),some (.own (st.reverse.map pu)),none]) (λi st=>st=ao (row.take i)) rfl PassesOwn.never (bV (aa 0 rfl) (.inl rfl)) ?h0 ?hs ?hd)
 case h0=>exact⟨[],rfl,rfl,rfl,trivial⟩
 case hs=>
  rintro H0 i x _ hx rfl;obtain⟨P,hP,mP,rfl⟩:=pY hx;have hi:=aL hP;have sP:=sz P mP;refine⟨_,(gB (i:=2) gR.nd rfl (Or.inl rfl)),?_⟩;have len0:=iY row i;refine n_ (λps=>SubP [some (.val (lp row)),some (.own ((bh P (ao (row.take i))).reverse.map pu)),some (.val (pu P))] ps) (fX (λs2:List P2=>[some (.val (lp row)),some (.own (s2.reverse.map pu)),some (.val (pu P))]) (λm s2=>m=s2.length/\bh P s2=bh P (ao (row.take i))/\(∀p∈s2,p∈row)/\s2.length<=i) PassesOwn.never ?h0 ?hs) ?hj
  case h0=>exact⟨_,_,⟨rfl,rfl,λq hq=>fW row i q hq,len0⟩,rfl,rfl,rfl,trivial⟩
  case hs=>
   rintro m s2 ⟨rfl,e2,sub,len2⟩
   match s2,e2,sub,len2 with
   |[],e2,sub,len2=>
    refine⟨false,?_,λh=>(nomatch h),λh ps Yj=>e2 ▸ Yj⟩;exact (Tw.t (o9 (au fP (iA 1 rfl rfl T.aab) ag) rfl))
   |[b],e2,sub,len2=>
    refine⟨false,?_,λh=>(nomatch h),λh ps Yj=>e2 ▸ Yj⟩;exact (Tw.t (o9 (au fP (iA 1 rfl rfl T.aab) ag) rfl))
   |b::a::r,e2,sub,len2=>
    have sa:=sz a (sub a (by simp));have sb:=sz b (sub b (by simp));have e1:decide (1<((((b::a::r).reverse.map pu).length:Nat):Int))=true:=decide_eq_true (by simp;lia);refine⟨decide (1<((((b::a::r).reverse.map pu).length:Nat):Int)) && decide (aq a b P<=0),?_,λh=>?_,λh ps Yj=>?_⟩
    .exact (Tw.t (kg (au fP (iA 1 rfl rfl T.aab) ag) (λhz=>(iy (au KN (aR (rR T) hr (af (yP 1 rfl (dl ag) (GF b a r)) (af (yP 1 rfl (dl ag) (GE b (a::r))) (af (aa 2 rfl) am ah) aN) aN) ⟨a,b,P,rfl,sa,sb,sP,rfl⟩) ag)))))
    .rw[e1,PZ]at h;have hd:=dTb h;refine ae (Ga 1 rfl (by simp) (ay ?_))
     refine⟨_,a::r,?_,⟨rfl,?_,λq hq=>sub q (Li _ hq),?_⟩,rfl,?_,rfl,trivial⟩
     .simp
     .rw[←e2];conv=>rhs;unfold bh
      rw[if_pos hd]
     .simp only[LF]at *;lia
     .exact congrArg (λl=>some (Sl.own l)) (by simp)
    .rw[e1,PZ]at h;have hd:=dFb h
     have e3:bh P (b::a::r)=b::a::r:=by conv=>lhs;unfold bh
                                        rw[if_neg hd]
     rw[<-e2,e3];exact Yj
  case hj=>
   intro ps Yj;refine dY ?_ Yj;have e4:=gP hP;have len3:=mO P (ao (row.take i));refine ae (e9 1 rfl (aa 2 rfl) (by rw[Lg,Mw];exact aB (by lia)) (ay ?_));refine⟨_,rfl,rfl,?_,trivial⟩;exact congrArg (λl=>some (Sl.own l)) (by rw[e4];simp)
 case hd=>
  rintro st ps YH Yj;refine dY ?_ Yj;refine ae (pf 1 rfl ?_);rw[YH];simp
def rK:List U->Out->Prop:=λa o=>∃pts:List P2,a=[lp pts]/\(∀p∈pts,Szp 5000 p)/\pts.length<100/\o=.new ((aj pts).map pu)
theorem Bn(h:(ST.srt pts).length=2):aj pts=ST.srt pts:=by
 obtain⟨a,b,e⟩:=L2.len2 h;unfold aj;rw[e];simp[ao,bh]
theorem d_:OkD P w base T.aas 3 (rK):=by
 refine okD d9 (by walk_at"ln") ?_;rintro _ _ _ c ⟨pts,rfl,sz,h,rfl⟩;have k:=ST.srt_len pts;have a:(((ST.srt pts).map pu).length:Int)=((ST.srt pts).length:Int):=by rw[Lg]
 have b:=Bd sz;by_cases j:(ST.srt pts).length<3
 .refine ae (oy (i:=1) d9.nd rfl (Or.inl rfl) (gl rfl (jP c) rfl T.aar rfl T.abm (aa 0 rfl) (by lia) ah) ?_);refine ae (cD (au dG (iA 1 rfl rfl T.aab) ag) (by rw[a];exact decide_eq_true (by lia)) ?_);refine ae (pf 1 rfl ?_)
  have e:aj pts=ST.srt pts:=by
   by_cases f:(ST.srt pts).length=2
   .exact Bn f
   .exact c_ (by lia)
  rw[e]
 .refine ae (ax 1 d9.nd (EvN.ev (gl rfl (jP c) rfl T.aar rfl T.abm (aa 0 rfl) (by lia) ah)) ?_);refine ae (aE (au dG (aw (bR rfl) rfl T.aab LL (af (aa 1 rfl) am ah)) ag) (by rw[a];exact decide_eq_false (by lia)) (ay ?_));have l:=kH (ST.srt pts);have d:=kH (ST.srt pts).reverse;rw[Mw]at d;refine ae (cX (lV (EvN.ev (dj (EvN.ev (df (kD T) c (af (aa 1 rfl) am ah) ⟨ST.srt pts,rfl,b,by lia,rfl⟩)) dy (du (dl ag)) (.inl rfl))) (EvN.ev (dj (EvN.ev (df (kD T) c (af (EvN.ev (AI rfl rfl T.abo rfl T.aa9 (aa 1 rfl) ah)) am be) ⟨(ST.srt pts).reverse,by rw[lp,N2],λp g=>b p (LA.mp g),by rw[Mw];lia,rfl⟩)) dy (du (dl ag)) (.inl rfl))) (by rw[iU,iU,Lg,Lg,M4,M4,Mw,Mw];exact Lu (aB (by lia)))) ?_)
  unfold aj;rw[if_neg (by lia),iU,iU,<-Md]
def gr(c:Int):Int:=if c%3=0 then c/3*48271*982451653%(2*10 ^ (30:Int).toNat+1)-10 ^ (30:Int).toNat else c/3%41-20
theorem pR(c):Sz 100 (gr c):=by
 unfold gr;split
 .exact KM (by decide+kernel) (by decide+kernel)
 .refine Sz.mono (m:=8) ?_ (by decide);unfold Sz;lia
def Et:List U->Out->Prop:=λa o=>∃c:Int,a=[.int c]/\Sz 1048576 c/\o=.val (.int (gr c))
theorem cY:OkD P w base T.aaN 1 (Et):=by
 refine okD ph (by walk_at"ln") ?_;rintro _ _ _ d ⟨c,rfl,e,rfl⟩;unfold gr;refine ae (lD (au f6 (c0 (aa 0 rfl) ag (by walk_at"mod")) ag) (λb=>?_) (λa=>(ay ?_)))
 .refine ae (aF (bg (c0 (aZ (aZ (cU (aa 0 rfl) ag (by walk_at"div")) ag (by walk_at"mul")) ag (by walk_at"mul")) (bK (aZ ag (xr ag ag ⟨by decide,by decide,by decide⟩) (by walk_at"mul")) ag) (by decide+kernel)) (xr ag ag ⟨by decide,by decide,by decide⟩)) ?_);rw[if_pos (dTb b)]
 .refine ae (aF (bg (c0 (cU (aa 0 rfl) ag (by walk_at"div")) ag (by walk_at"mod")) ag) ?_);rw[if_neg (dFb a)]
def lnQ(ns:List Int):Int:=cel ns 0
def ptQ(ns:List Int)(i:Nat):P2:=if lnQ ns%5=1 then (gr (cel ns (8+(i:Int) *2)) *(lnQ ns/5%4),gr (cel ns (8+(i:Int) *2)) *(lnQ ns/20%9-4)+lnQ ns/180%7) else (gr (cel ns (8+(i:Int) *2)),gr (cel ns (8+(i:Int) *2+1)))
theorem Ij(ns)(i):Szp 110 (ptQ ns i):=by
 have a:=pR (cel ns (8+i*2));have b:=pR (cel ns (8+i*2+1));have d:Sz 8 (lnQ ns/5%4):=by unfold Sz;lia
 have c:Sz 8 (lnQ ns/20%9-4):=by unfold Sz;lia
 have e:Sz 8 (lnQ ns/180%7):=by unfold Sz;lia
 unfold ptQ;split
 .exact⟨(L2.Sz.mul a d).mono (by decide),(L2.Sz.add' (L2.Sz.mul a c) (e.mono (n:=108) (by decide))).mono (by decide)⟩
 .exact⟨a.mono (by decide),b.mono (by decide)⟩
def vX(ns:List Int):Nat:=iF 8 ((max 11 (min ns.length 60):Nat):Int) 2
theorem xw(ns):2<=vX ns/\vX ns<=26:=by
 unfold vX iF;split <;>omega
def BU(ns:List Int):List P2:=(MK (vX ns)).map (ptQ ns)
theorem Fm(ns):∀p∈BU ns,Szp 110 p:=λp a=>by
 obtain⟨i,_,rfl⟩:=Ln.mp a;exact Ij ns i
theorem AT(ns):(BU ns).length=vX ns:=by unfold BU;simp
def B8:List U->Out->Prop:=λb o=>∃(a:List Int),b=[.scr (a.map U.int)]/\a.length<=63/\(∀m∈a,Sz 1048576 m)/\o=.new ((BU a).map pu)
theorem o0:OkD P w base T.aaF 2 (B8):=by
 refine okD bM (by walk_at"ln") ?_;rintro _ _ _ d ⟨a,rfl,h,g,rfl⟩;have p:((a.map U.int).length:Int)=(a.length:Int):=by rw[Lg]
 have z:=ie g (k:=0) (by decide) (by decide)
 have hb:(if (if (60:Int)<((a.map U.int).length:Int) then (60:Int) else ((a.map U.int).length:Int)) >11 then (if (60:Int)<((a.map U.int).length:Int) then (60:Int) else ((a.map U.int).length:Int)) else 11)=((max 11 (min a.length 60):Nat):Int):=by
  rw[p];split <;>split <;>lia
 have C:=xw a;refine ae (ax 1 bM.nd (aR (bF T) d (af (aa 0 rfl) (af ag am aJ) ah) ⟨a,_,rfl,h,by decide,by decide,rfl⟩) ?_);rw[show cel a 0=lnQ a from rfl]at *
 refine ae (oy (i:=2) bM.nd rfl (Or.inl rfl) (dz bC) ?_);refine ae (gJ (λi:Nat=>[some (.val (.scr (a.map U.int))),some (.val (.int (lnQ a))),some (.own (((MK i).map (ptQ a)).map pu)),none,none,none]) (λi j=>i=j) rfl PassesOwn.never (BK rfl T.aaH (af ag (af (aw (BJ rfl) rfl T.aa8 Vl (af ag (af (aw (xO rfl) rfl T.abf V9 (af (aw (bR rfl) rfl T.aab LL (af (aa 0 rfl) am ah)) (af ag am aJ) be)) am be) aJ)) (af ag am aJ) be) aJ) (by rw[hb];lia)) ?h0 ?hs ?hd)
 case h0=>exact⟨0,rfl,rfl,rfl,rfl,trivial⟩
 case hs=>
  rintro E i x _ n rfl;rw[hb]at n;obtain⟨r,rfl⟩:=tD n;have D:i<vX a:=r;refine⟨_,(gB (i:=3) bM.nd rfl (Or.inl rfl)),?_⟩;have s:=ie g (k:=8+(i:Int) *2) (by lia) (by lia)
  have t:=ie g (k:=8+(i:Int) *2+1) (by lia) (by lia);have b:(((MK i).map (ptQ a)).map pu).length<=1000:=by simp;lia
  have c:∀{x y:Int},ptQ a i=(x,y)->((MK i).map (ptQ a)).map pu++[pt x y]=((MK (i+1)).map (ptQ a)).map pu:=λ{x y} e=>by
   rw[Se,Md,Md];simp only[LK,Uv];rw[e]
  refine ae (ax 4 bM.nd (aR (cY T) d (af (aR (bF T) d (af (aa 0 rfl) (af (aa 3 rfl) am ah) ah) ⟨a,_,rfl,h,by lia,by lia,rfl⟩) am be) ⟨_,rfl,s,rfl⟩) ?_);refine ae (ax 5 bM.nd (aR (cY T) d (af (aR (bF T) d (af (aa 0 rfl) (af (bK (aa 3 rfl) ag) am aQ) ah) ⟨a,_,rfl,h,by lia,by lia,rfl⟩) am be) ⟨_,rfl,t,rfl⟩) ?_);have B:=pR (cel a (8+(i:Int) *2));have A:Sz 8 (lnQ a/5%4):=by unfold Sz;lia
  have v:Sz 8 (lnQ a/20%9-4):=by unfold Sz;lia
  by_cases f:lnQ a%5=1
  .refine ae (cD (au f6 (c0 (aa 1 rfl) ag (by walk_at"mod")) ag) (decide_eq_true f) ?_);refine ae (ax 5 bM.nd (bK (aZ (aa 4 rfl) (bg (c0 (cU (aa 1 rfl) ag (by walk_at"div")) ag (by walk_at"mod")) ag) (by walk_at"mul")) (c0 (cU (aa 1 rfl) ag (by walk_at"div")) ag (by walk_at"mod"))) ?_);refine ae (ax 4 bM.nd (aZ (aa 4 rfl) (c0 (cU (aa 1 rfl) ag (by walk_at"div")) ag (by walk_at"mod")) (by walk_at"mul")) (ay ?_));refine ae (e9 2 rfl (bU (aA (aa 4 rfl) (aA (aa 5 rfl) bC ah) ah)) (aB b) (ay ?_));refine⟨i+1,rfl,rfl,rfl,?_,trivial⟩;exact congrArg (λl=>some (Sl.own l)) (c (by unfold ptQ;rw[if_pos f]))
  .refine ae (aE (au f6 (c0 (aa 1 rfl) ag (by walk_at"mod")) ag) (decide_eq_false f) (ay ?_));refine ae (e9 2 rfl (bU (aA (aa 4 rfl) (aA (aa 5 rfl) bC ah) ah)) (aB b) (ay ?_));refine⟨i+1,rfl,rfl,rfl,?_,trivial⟩;exact congrArg (λl=>some (Sl.own l)) (c (by unfold ptQ;rw[if_neg f]))
 case hd=>
  rintro q u m o;refine dY ?_ o;rw[hb,iE]at m;have:q=vX a:=m.symm;subst this;refine ae (pf 2 rfl ?_);exact rfl
def yV:List U->Out->Prop:=λa o=>∃n:Int,a=[sT (ds n)]/\n.natAbs<10 ^ 300/\o=.val (.int n)
theorem KO:(Str.ofString "0123456789":Str)=T' D10:=rfl
theorem o3:OkD P w base T.aaE 1 (yV):=by
 refine okD eP (by walk_at"ln") ?_;rintro _ _ _ f ⟨n,rfl,d,rfl⟩;have D:=cE (by decide) d;have F:=rq (by decide) d;obtain⟨A,g⟩:=mG n
 have a:StrLaws.sliceText (T' (ds n)) (some (if eqW (.str (StrLaws.sliceText (T' (ds n)) none (some 1))) (.str (Str.ofString "-"))=true then 1 else 0)) none=T' (ds (n.natAbs:Int)):=by
  have j:StrLaws.sliceText (T' (ds n)) none (some 1)=T' ((ds n).take 1):=HX (ds n) 1
  have u:eqW (.str (T' ((ds n).take 1))) (.str (Str.ofString "-"))=decide (n<0):=by
   rw[eqS];refine decide_eq_decide.mpr ⟨λh=>g.mp ?_,λh=>?_⟩
   .have:=rh (m:=[45]) h;cases e:ds n with
    |nil=>rw[e]at this;cases this
    |cons c r=>rw[e]at this;simp at this;rw[this];rfl
   .have:=g.mpr h;cases e:ds n with
    |nil=>rw[e]at this;cases this
    |cons c r=>rw[e]at this;simp at this;rw[this];rfl
  rw[j,u];by_cases z:n<0
  .rw[decide_eq_true z,if_pos rfl];have:=m_ (ds n) 1;rw[show ((1:Nat):Int)=1 from rfl]at this
   rw[this,<-A,jX (g.mpr z)];simp[bN]
  .rw[decide_eq_false z,if_neg (by simp)];have:=m_ (ds n) 0;rw[show ((0:Nat):Int)=0 from rfl]at this
   rw[this,Sw,show n=(n.natAbs:Int) by lia];simp
 have l:(T' (ds n)).length<=sizeLine:=by rw[bu];exact Lu (aB (by lia))
 refine ae (ax 1 eP.nd (nU (aa 0 rfl) (du (b5 IF rfl T.abe V8 (af (gX (aT f) (nU (aa 0 rfl) dy (du ag) l) aC) am Iq))) dy l) ?_);rw[a];have k:(T' (ds (n.natAbs:Int))).length<=sizeLine:=by rw[bu];exact Lu (aB (by lia))
 have j:(T' (ds (n.natAbs:Int))).cps.toList=ds (n.natAbs:Int):=by simp
 refine ae (gJ (λ_:Unit=>[some (.val (sT (ds n))),some (.val (sT (ds (n.natAbs:Int)))),none]) (λ_ _=>True) rfl PassesOwn.never (Cd (aa 1 rfl)) ?h0 ?hs ?hd)
 case h0=>exact⟨(),trivial,rfl,rfl,trivial⟩
 case hs=>
  intro G i x _ o _;rw[j]at o;obtain⟨c,E,B,rfl⟩:=v8 o;refine⟨_,(gB (i:=2) eP.nd rfl (Or.inl rfl)),?_⟩
  have s:(!(!(Builtin.Str.occurrences (Str.ofString "0123456789") ⟨#[c]⟩ 0 (Str.ofString "0123456789").length 1).isEmpty))=false:=by
   rw[KO,in1 D10 c,decide_eq_true ((qQ c).mpr (iq _ c B))];rfl
  refine ae (aE (au Hh (aa 2 rfl) aC) s (ay (ay ?_)));exact⟨(),trivial,rfl,rfl,trivial⟩
 case hd=>
  intro _ C _ p;refine dY ?_ p
  have q:eqW (sT (ds (n.natAbs:Int))) (.str (Str.ofString ""))=false:=by
   rw[eqS];exact decide_eq_false λh=>uP n.natAbs (rh (m:=[]) h)
  have v:((T' (ds (n.natAbs:Int))).length:Int)=((ds (n.natAbs:Int)).length:Int):=by rw[bu]
  have b:eqW (.str (Str.ofString (O9 n))) (sT (ds n))=true:=by rw[gv,eqS];exact decide_eq_true rfl
  refine ae (aE (Tw.t (jh (au (aT f) (aa 1 rfl) aC) (λy=>(jh (au fP (aw (iK k) rfl T.aab LL (af (aa 1 rfl) am ah)) ag) (λy=>(ix (au (f_ f) (b5 (dF (vC d)) rfl T.aal P5 (af (b5 (wx (yi d) (by rw[bu];lia)) rfl T.abe V8 (af (aa 0 rfl) am ah)) am be)) (aa 0 rfl)))))))) (by rw[q,v,decide_eq_false (by lia),b];rfl) (ay ?_));refine ae (aF (b5 (wx (yi d) (by rw[bu];lia)) rfl T.abe V8 (af (aa 0 rfl) am ah)) ?_);exact rfl
def Bi:List U->Out->Prop:=λa o=>∃l:List P2,a=[lp l]/\(∀p∈l,B60 p)/\l.length<=61/\o=.val (sT (jn (l.map ptD)))
theorem fM:OkD P w base T.aaM 1 (Bi):=by
 refine okD fI (by walk_at"ln") ?_;rintro _ _ _ m ⟨l,rfl,hb,d,rfl⟩;refine ae (aF (qK (l:=l.map λp=>T' (ptD p)) aC ?ej dg (xJ hb d)) ?_)
 case ej=>
  rw[<-Jg];refine EvN.ev ?_;refine (bO (ys:=(l.map λp=>sT (ptD p))) rfl (blk (ai gj) ["points","x","y"] [1,2] rfl rfl rfl rfl (by decide+kernel)) (EvI.z (bV (aa 0 rfl) (.inl rfl))) (λ_ _ _ _=>jI rfl (bJ (aM (i:=1) fI.nd rfl (Or.inl rfl)) (bJ (aM (i:=2) fI.nd rfl (Or.inl rfl)) ft))) (gw (js:=[1,2]) (by decide)) ?clen ?csz ?dom ?celt)
  case clen=>simp
  case csz=>rw[Lg];exact Lu (aB (by lia))
  case dom=>
   intro x a;obtain⟨i,e⟩:=Mn.mp a;obtain⟨p,f,b,rfl⟩:=pY e;exact⟨_,rfl,rfl⟩
  case celt=>
   intro C k n o j x y a hy;obtain⟨p,f,b,rfl,rfl⟩:=b7 a hy;have hb:=hb p b;have h:=sQ (MP hb.1 (show 10 ^ 60<10 ^ 62 by decide+kernel));have g:=sQ (MP hb.2 (show 10 ^ 60<10 ^ 62 by decide+kernel));have l1:=cE (by decide) hb.1;have l2:=cE (by decide) hb.2;have c:(Str.ofString ",":Str).length=1:=rfl;show Ev _ _ _ _ _ (.str (T' (ptD p)));rw[show T' (ptD p)=Str.ofString (O9 p.1)++(Str.ofString ",":Str)++Str.ofString (O9 p.2) by rw[gv,gv,tK];rfl];exact (fc (fc (b5 (dF h) rfl T.aal P5 (af (aa 1 rfl) am ah)) aC (by rw[c,gv,bu];exact Lu (aB (by lia)))) (b5 (dF g) rfl T.aal P5 (af (aa 2 rfl) am ah)) (by rw[x_,c,gv,gv,bu,bu];exact Lu (aB (by lia))))
 rw[show (l.map λp=>T' (ptD p))=(l.map ptD).map T' by rw[L4];rfl];refine congrArg (λz=>Out.val (.str z)) ?_;exact E6 (l.map ptD)
section
variable {X:Cx}{H0:Hp}{O0:List LX}{ps:PSt}{a e e':Expr}{x y z:Str}{X7 X4:Pos}
theorem KS{l:List Nat}{c:Nat}(h:c ∉ l):(Builtin.Str.occurrences (T' l) ⟨#[c]⟩ 0 (T' l).length ((T' l).length+1)).isEmpty=true:=by
 rcases StrLaws.occ_head (T' l) ⟨#[c]⟩ ((T' l).length+1) (Ut 1 _) with ⟨b,a⟩ |⟨i,r,b,a,_⟩
 .rw[b];rfl
 .exact absurd (LW ((at1 l c i).mp a)) h
theorem E1:MtR X "str.replace" (λv c H Q=>∃x y z,v=.str x∧c=[.str y,.str z]∧(Builtin.Str.occurrences x y 0 x.length (x.length+1)).isEmpty=true∧Q (.str x) H):=by
 intro l s j H v c u k Q I f a h;obtain⟨x,y,z,rfl,rfl,b,q⟩:=h;obtain⟨t,rfl⟩:=f;cases a with
 |cons e a=>cases a with
  |cons i a=>
   cases a;obtain⟨d,rfl⟩:=e;obtain⟨g,rfl⟩:=i;refine call_gives F.slot_str_replace (WX _ _ _) F.entry_str_replace (F.args_str_replace_3 _ _ _) (gives_str_replace x y z t d g λw=>by rw[b]at w;cases w) ?_;rw[b];exact⟨.str x,H,I,⟨_,rfl⟩,q⟩
theorem HW{l:List Nat}{c:Nat}(k:Ev X H0 O0 ps a (.str (T' l)))(i:Ev X H0 O0 ps e (.str y))(p:Ev X H0 O0 ps e' (.str z))(r:y=⟨#[c]⟩)(h:c ∉ l)(g:Lr [e,e'] X.env=(false,N4 e X.env)::Lr [e'] X.env)(b:Lr [e'] X.env=(false,N4 e' X.env)::Lr [] X.env)
  (Yf:autoParam (NC a "replace" X.env (N4 a X.env)=N4 a X.env) zM)
  (YO:autoParam (((NT X4 (Lr [e,e'] X.env)).all (λx=>!x.1) && (Ri X4 (Pm [] X.env)).all (λx=>x.1.isSome) && decide ([e,e'].length+([]:List Q9).length+(if ([]:List Q9).isEmpty then 0 else 1)<30))=true) zM)
  (Yg:autoParam ((X7.endLine==X4.line)=true) zM) (Yh:autoParam ((NT X4 (Lr [e'] X.env)).any (·.1)=false) zM):
  Ev X H0 O0 ps (.Call (.Attribute a "replace" X7) [e,e'] [] X4) (.str (T' l)):=by
 subst r
 exact PE.mono (uJ OU PySem.F.slot_str_replace PySem.F.type_str_replace E1 k (ci i (ci p fi b) g) Yf YO Yg g Yh) λu H Q ⟨O,R,q⟩=>⟨O,R,λv A d j=>by
  cases j;exact⟨rfl,O,R.go d,λw t f m=>by cases m;exact⟨O,(R.go d).go f,λw s o n=>by cases n;exact⟨_,_,_,rfl,rfl,KS h,q _ s ((d.trans f).trans o) (.str _)⟩⟩⟩⟩
end
def oY:List U->Out->Prop:=λb o=>∃(x:List Nat) (a:List Int),b=[sT x]/\44 ∉ x/\spl 32 x=a.map ds/\(∀n∈a,n.natAbs<10 ^ 300)/\x.length<=8200/\a.length<=900/\o=.new (a.map U.int)
theorem gV:OkD P w base T.aat 2 (oY):=by
 refine okD gY (by walk_at"ln") ?_;rintro _ _ _ e ⟨x,d,rfl,a,b,hb,p,f,rfl⟩;refine ae (aE (lY (iC (aw (fY (by intro _ h;cases h) (iw _)) rfl T.aaf Qm (af (aa 0 rfl) (af (zp rfl T.aal P5) am ah) ah)))) rfl (ay ?_));refine ae (cX (bO (ys:=(d.map U.int)) rfl (blk (ai eS) ["answer_v","word"] [1] rfl rfl rfl rfl (by decide+kernel)) (EvI.z (bV (EvN.ev (nV (c:=32) (l:=x) (HW (c:=44) (aa 0 rfl) aC aC rfl a aJ aJ) aC aJ (sz2 (by lia)) rfl)) (.inl rfl))) (λ_ _ _ _=>aM (i:=1) gY.nd rfl (Or.inl rfl)) (bL (by decide)) ?clen ?csz (λ_ _=>trivial) ?celt) ?_)
 case clen=>rw[b];simp
 case csz=>rw[b];simp;exact Lu (aB (by lia))
 case celt=>
  rw[b,L4];intro C m o q j x y k hy;obtain⟨n,f,g,rfl,rfl⟩:=b7 k hy;exact (aR (o3 T) e (af (aa 1 rfl) am ah) ⟨n,rfl,hb n g,rfl⟩)
 exact rfl
theorem wc:∀a:List Int,inV (fl .non) ((a.map U.int).map fl)=false
 |[]=>rfl
 |n::r=>by
  have:=wc r;simp only[LK,inV]at this |-;rw[PV,this];rfl
theorem Gv(ns:List Int):(ns.map U.int).all AO=true:=by
 rw[O5];intro x a;obtain⟨n,_,rfl⟩:=Ln.mp a;rfl
def DT:List U->Out->Prop:=λc o=>∃a b:Int,c=[.int a,.int b]/\o=.val (.int (PJ a b))
theorem Dw(a):(if a<0 then -a else a)=(a.natAbs:Int):=by split <;>lia
theorem mz:OkD P w base T.aau 1 (DT):=by
 refine okD c6 (by walk_at"ln") ?_;rintro _ _ _ g ⟨a,b,rfl,rfl⟩;refine ae (ax 0 c6.nd (aw nM rfl T.aa0 PyProof.Rows.boot_abs (af (aa 0 rfl) am ah)) ?_);refine ae (ax 1 c6.nd (aw nM rfl T.aa0 PyProof.Rows.boot_abs (af (aa 1 rfl) am ah)) ?_);rw[Dw,Dw];refine ae (fX (λq:Nat×Nat=>[some (.val (.int q.1)),some (.val (.int q.2))]) (λm q=>m=q.2/\Nat.gcd q.1 q.2=PJ a b) PassesOwn.never ?h0 ?hs)
 case h0=>exact⟨_,(a.natAbs,b.natAbs),⟨rfl,rfl⟩,rfl,rfl,trivial⟩
 case hs=>
  rintro m ⟨x,y⟩ ⟨d,c⟩;refine⟨decide (0<(y:Int)),(au fP (aa 1 rfl) ag),λh=>?_,λh f e=>?_⟩
  .have hy:=dTb h;refine ae (Jo (i:=0) (j:=1) rfl c6.nd rfl rfl (by decide) rfl rfl (af (aa 1 rfl) (af (c0 (aa 0 rfl) (aa 1 rfl) (by walk_at"mod")) am aQ) ah) rfl (ay ?_));refine⟨x%y,(y,x%y),by rw[d];exact M5 _ (by lia),⟨rfl,?_⟩,?_,?_,trivial⟩
   .rw[<-c,Xo y,<-Nat.gcd_rec,Xo]
   .rfl
   .exact congrArg (λz=>some (Sl.val (.int z))) (by simp)
  .have hy:y=0:=by have:=dFb h;lia
   refine dY ?_ e;refine ae (aF (aa 0 rfl) ?_);subst hy;exact vIO (by rw[<-c];simp)
theorem BC{j:Nat}(h:j<l.length):atI (l.map pu) ((0+(j:Int)+1)%((l.map pu).length:Int))=some (pu (nxt l j)):=by
 have e:(0+j+1)%((l.map pu).length)=(((j+1)%l.length:Nat):Int):=by
  rw[Lg,VR];simp
 rw[e];exact Bf rfl (M5 _ (by lia))
theorem uU(h:i<l.length):(sdl l).take (i+1)=(sdl l).take i++[(gp l i,nxt l i)]:=by
 rw[Oz];congr 1;unfold sdl;rw[Lq,N8 h];rfl
def twA(l:List P2)(i:Nat):Int:=(((sdl l).take i).map crs).sum
def edA(l:List P2)(i:Nat):Int:=(((sdl l).take i).map gst).sum
theorem Ck(h:i<l.length):twA l (i+1)=twA l i+crs (gp l i,nxt l i):=by
 unfold twA;rw[uU h,Md,j8];simp
theorem DL(h:i<l.length):edA l (i+1)=edA l i+gst (gp l i,nxt l i):=by
 unfold edA;rw[uU h,Md,j8];simp
theorem yt(l):twA l l.length=area l/\edA l l.length=dB l:=by
 unfold twA edA area dB;rw[Mf (by rw[gM];exact Lk _)];exact⟨rfl,rfl⟩
def DQ:List U->Out->Prop:=λa o=>∃(l:List P2),a=[lp l]/\l.length<=900/\(∀q∈l,Szp 5000 q)/\o=.val (.int (area l))
theorem cG:OkD P w base T.aaG 1 (DQ):=by
 refine okD ck (by walk_at"ln") ?_;rintro _ _ _ m ⟨l,rfl,o,sz,rfl⟩;have b:((l.map pu).length)=l.length:=by rw[Lg]
 refine ae (ax 1 ck.nd ag ?_);refine ae (gJ (λi:Nat=>[some (.val (lp l)),some (.val (.int (twA l i))),none,none,none]) (λi j=>i=j) rfl PassesOwn.never (uH rfl T.aaH (af (aw (bR rfl) rfl T.aab LL (af (aa 0 rfl) am ah)) am be) (by rw[b];lia) (by rw[b];lia)) ?h0 ?hs ?hd)
 case h0=>exact⟨0,rfl,rfl,rfl,trivial⟩
 case hs=>
  rintro s i x _ e rfl;obtain⟨r,rfl⟩:=m7 e;have a:i<l.length:=by lia
  have c:(i+1)%l.length<l.length:=M5 _ (by lia);have k:=(sz _ (dq a)).1;have p:=(sz _ (dq a)).2;have g:Sz 5000 (nxt l i).1:=(sz _ (dq c)).1;have n:Sz 5000 (nxt l i).2:=(sz _ (dq c)).2;refine⟨_,(gB (i:=2) ck.nd rfl (Or.inl rfl)),?_⟩;refine ae (ax 3 ck.nd (aD (aa 0 rfl) (aa 2 rfl) rfl (Bf (by lia) a)) ?_);refine ae (ax 4 ck.nd (aD (aa 0 rfl) (c0 (bK (aa 2 rfl) ag) (aw (bR rfl) rfl T.aab LL (af (aa 0 rfl) am ah)) (by rw[b];lia)) rfl (BC a)) ?_);refine ae (ax 1 ck.nd (bg (bK (aa 1 rfl) (aZ (aD (aa 3 rfl) ag rfl rfl) (aD (aa 4 rfl) ag rfl rfl) (by walk_at"mul"))) (aZ (aD (aa 3 rfl) ag rfl rfl) (aD (aa 4 rfl) ag rfl rfl) (by walk_at"mul"))) (ay ?_));refine⟨i+1,rfl,rfl,?_,trivial⟩;exact congrArg (λz=>some (Sl.val (.int z))) (by rw[Ck a];unfold crs;dsimp only;lia)
 case hd=>
  rintro q h f d;refine dY ?_ d;rw[gT]at f;have:q=l.length:=by lia
  subst this;rw[(yt l).1];refine ae (aF (aa 1 rfl) ?_);exact rfl
def De:List U->Out->Prop:=λa o=>∃(l:List P2),a=[lp l]/\l.length<=900/\o=.val (.int (dB l))
theorem jd:OkD P w base T.aap 2 (De):=by
 refine okD bA (by walk_at"ln") ?_;rintro _ _ _ f ⟨l,rfl,h,rfl⟩;have a:((l.map pu).length)=l.length:=by rw[Lg]
 refine ae (ax 1 bA.nd ag ?_);refine ae (gJ (λi:Nat=>[some (.val (lp l)),some (.val (.int (edA l i))),none,none,none]) (λi j=>i=j) rfl PassesOwn.never (uH rfl T.aaH (af (aw (bR rfl) rfl T.aab LL (af (aa 0 rfl) am ah)) am be) (by rw[a];lia) (by rw[a];lia)) ?h0 ?hs ?hd)
 case h0=>exact⟨0,rfl,rfl,rfl,trivial⟩
 case hs=>
  rintro m i x _ d rfl;obtain⟨k,rfl⟩:=m7 d;have b:i<l.length:=by lia
  refine⟨_,(gB (i:=2) bA.nd rfl (Or.inl rfl)),?_⟩;refine ae (ax 3 bA.nd (aD (aa 0 rfl) (aa 2 rfl) rfl (Bf (by lia) b)) ?_);refine ae (ax 4 bA.nd (aD (aa 0 rfl) (c0 (bK (aa 2 rfl) ag) (aw (bR rfl) rfl T.aab LL (af (aa 0 rfl) am ah)) (by rw[a];lia)) rfl (BC b)) ?_);refine ae (ax 1 bA.nd (bK (aa 1 rfl) (aR (mz T) f (af (bg (aD (aa 4 rfl) ag rfl rfl) (aD (aa 3 rfl) ag rfl rfl)) (af (bg (aD (aa 4 rfl) ag rfl rfl) (aD (aa 3 rfl) ag rfl rfl)) am aQ) aQ) ⟨_,_,rfl,rfl⟩)) (ay ?_));refine⟨i+1,rfl,rfl,?_,trivial⟩;exact congrArg (λz=>some (Sl.val (.int z))) (by rw[DL b];rfl)
 case hd=>
  rintro q g c e;refine dY ?_ e;rw[gT]at c;have:q=l.length:=by lia
  subst this;rw[(yt l).2];refine ae (aF (aa 1 rfl) ?_);exact rfl
theorem Ht(b:Sz m x)(a:Sz m y):Sz (m+1) ((PJ x y:Nat):Int):=by
 refine Sz.le (y:=x.natAbs+y.natAbs) ?_ ?_
 .have:PJ x y<=x.natAbs+y.natAbs:=by
   by_cases h:x=0
   .subst h;simp
   .have:=Xc (by lia) (Int.gcd_dvd_natAbs_left x y);lia
  lia
 .refine (L2.Sz.add' (m:=m) (n:=m) ?_ ?_).mono (by lia)
  .unfold Sz at b |-;lia
  .unfold Sz at a |-;lia
theorem Hs(b:Szp m s.1)(a:Szp m s.2):Sz (m+2) (gst s):=by
 exact (Ht (m:=m+1) ((L2.Sz.sub' a.1 b.1).mono (by lia)) ((L2.Sz.sub' a.2 b.2).mono (by lia))).mono (by lia)
theorem Hc(b:Szp m s.1)(a:Szp m s.2):Sz (m+m+1) (crs s):=by
 exact (L2.Sz.sub' (L2.Sz.mul b.1 a.2) (L2.Sz.mul b.2 a.1)).mono (by lia)
theorem CN:∀(l:List Int),(∀x∈l,Sz m x)->l.sum.natAbs<=l.length*2 ^ m
 |[],_=>by simp
 |a::l,h=>by
  have ih:=CN l λx b=>h x (Li _ b);have ha:=h a Lo;unfold Sz at ha;rw[NH,LF,U3,U2];omega
theorem sV{l:List Int}(h:∀x∈l,Sz m x)(a:l.length<64):Sz (m+6) l.sum:=by
 have:=CN l h;unfold Sz;have e:2 ^ (m+6)=64*2 ^ m:=by rw[Xt];lia
 have:l.length*2 ^ m<64*2 ^ m:=Nat.mul_lt_mul_of_pos_right a (Nat.two_pow_pos m);lia
theorem i5(h:∀p∈l,Szp m p)(b:l.length<64):Sz (m+m+7) (area l):=by
 refine (sV (m:=m+m+1) (λx c=>?_) (by rw[Lg,gM];exact b)).mono (by lia);obtain⟨s,a,rfl⟩:=Ln.mp c;exact Hc (h _ (aX a).1) (h _ (aX a).2)
theorem Dd(h:∀p∈l,Szp m p)(b:l.length<64):Sz (m+8) (dB l):=by
 refine (sV (m:=m+2) (λx c=>?_) (by rw[Lg,gM];exact b)).mono (by lia);obtain⟨s,a,rfl⟩:=Ln.mp c;exact Hs (h _ (aX a).1) (h _ (aX a).2)
theorem DP(a:l≠[])(h:l.length<3):dB l=2*DK l/\d8 l=DK l+1:=by
 unfold d8 DK;rw[if_pos h];rcases (show l.length=1\/l.length=2 by have:=LQ.mpr a;lia) with e |e
 .obtain⟨A,rfl⟩:=L2.len1 e;have:dB [A]=gst (A,A):=by simp[dB,sdl,nxt,gp]
  rw[this];unfold gst;simp
 .obtain⟨A,B,rfl⟩:=L2.len2 e;have:dB [A,B]=gst (A,B)+gst (B,A):=by simp[dB,sdl,Se,nxt,gp]
  rw[this,dN A B];show gst (A,B)+gst (A,B)=2*gst (A,B)/\gst (A,B)+1=gst (A,B)+1;lia
theorem xY(F:Fld l)(h:l.length<3)(f:0<=k):dB l/2+1=d8 l/\dB l*k/2+1=f7 (aj (l.map (scl k)))/\0=pin (aj (l.map (scl k))):=by
 have d:l.Nodup:=by rw[<-F.cr];exact aY l
 obtain⟨e,c⟩:=DP F.ne h;obtain⟨a,b⟩:=BS d F.ne h f;unfold nK at a;unfold oj at b;rw[a,b,e,c,RW];lia
theorem Ka(F:Fld l):aj (l.map (scl 0))=[(0,0)]:=by
 have s:∀p,scl 0 p=(0,0):=λp=>by unfold scl;simp
 have m:∀z,z∈l.map (scl 0)↔z∈([(0,0)]):=λz=>by
  constructor
  .intro a;obtain⟨p,_,rfl⟩:=Ln.mp a;rw[s];exact Lz.mpr rfl
  .intro a;rw[Lz.mp a];obtain⟨p,b⟩:=Po _ F.ne;exact Ln.mpr ⟨p,b,s p⟩
 rw[qW m];rfl
theorem s_(F:Fld l)(h:3<=l.length)(a:0<=k):(area l*k*k+dB l*k)/2+1=f7 (aj (l.map (scl k)))/\(if 0<k then (area l*k*k-dB l*k)/2+1 else 0)=pin (aj (l.map (scl k))):=by
 rcases L_ a with z |z
 .have e:aj (l.map (scl k))=l.map (scl k):=by
   have:=kM (ro z) (r8 z) l;rw[this,F.cr]
  rw[e,if_pos z];unfold f7 pin d8;rw[Lg,if_neg (by lia),if_neg (by lia),vv,El a];have c:k*k*area l=area l*k*k:=by grind
  have b:k*dB l=dB l*k:=Pi _ _;rw[c,b];lia
 .subst z;rw[Ka F];simp only[Pl];exact⟨rfl,rfl⟩
def C6:List U->Out->Prop:=λa o=>∃(l:List P2) (k:Int),a=[lp l,.int k]/\Fld l/\l.length<64/\(∀q∈l,Szp 300 q)/\0<=k/\Sz 100 k/\o=.new [.int (area l),.int (d8 l),.int (f7 (aj (l.map (scl k)))),.int (pin (aj (l.map (scl k))))]
theorem lK:OkD P w base T.aa7 3 (C6):=by
 refine okD dU (by walk_at"ln") ?_;rintro _ _ _ f ⟨l,k,rfl,F,h,sz,e,n,rfl⟩;have b:((l.map pu).length)=l.length:=by rw[Lg]
 have o:=i5 sz h;have p:=Dd sz h;refine ae (ax 2 dU.nd (aR (cG T) f (af (aa 0 rfl) am ah) ⟨l,rfl,by lia,bw (by decide) sz,rfl⟩) ?_);refine ae (ax 3 dU.nd (aR (jd T) f (af (aa 0 rfl) am ah) ⟨l,rfl,by lia,rfl⟩) ?_);refine ae (ax 4 dU.nd ag ?_);by_cases i:l.length<3
 .obtain⟨c,a,m⟩:=xY F i e;refine ae (aE (Tw.t (kg (au fP (aa 1 rfl) ag) (λj=>(iy (au fP (aw (bR rfl) rfl T.aab LL (af (aa 0 rfl) am ah)) ag))))) (by rw[b,RC];exact .inr (decide_eq_false (by lia))) (ay ?_));refine ae (cD (au dG (aw (bR rfl) rfl T.aab LL (af (aa 0 rfl) am ah)) ag) (by rw[b];exact decide_eq_true (by lia)) ?_);refine ae (cX (dz (aA (aa 2 rfl) (aA (bK (cU (aa 3 rfl) ag (by walk_at"div")) ag) (aA (bK (cU (aZ (aa 3 rfl) (aa 1 rfl) (by walk_at"mul")) ag (by walk_at"div")) ag) (aA ag bC aJ) aQ) aQ) ah)) ?_);rw[c,a,m]
 .obtain⟨c,a⟩:=s_ F (by lia) e;have g:d8 l=dB l:=by unfold d8;rw[if_neg i]
  by_cases d:0<k
  .rw[if_pos d]at a;refine ae (cD (Tw.t (kg (au fP (aa 1 rfl) ag) (λj=>(iy (au fP (aw (bR rfl) rfl T.aab LL (af (aa 0 rfl) am ah)) ag))))) (by rw[b,decide_eq_true d,decide_eq_true (by lia)];rfl) ?_)
   refine ae (ax 4 dU.nd (bK (cU (bg (aZ (aZ (aa 2 rfl) (aa 1 rfl) (by walk_at"mul")) (aa 1 rfl) (by walk_at"mul")) (aZ (aa 3 rfl) (aa 1 rfl) (by walk_at"mul"))) ag (by walk_at"div")) ag) (ay ?_));refine ae (aE (au dG (aw (bR rfl) rfl T.aab LL (af (aa 0 rfl) am ah)) ag) (by rw[b];exact decide_eq_false (by lia)) (ay ?_));refine ae (cX (dz (aA (aa 2 rfl) (aA (aa 3 rfl) (aA (bK (cU (bK (aZ (aZ (aa 2 rfl) (aa 1 rfl) (by walk_at"mul")) (aa 1 rfl) (by walk_at"mul")) (aZ (aa 3 rfl) (aa 1 rfl) (by walk_at"mul"))) ag (by walk_at"div")) ag) (aA (aa 4 rfl) bC ah) aQ) ah) ah)) ?_);rw[c,a,g]
  .rw[if_neg d]at a;refine ae (aE (Tw.t (kg (au fP (aa 1 rfl) ag) (λj=>(iy (au fP (aw (bR rfl) rfl T.aab LL (af (aa 0 rfl) am ah)) ag))))) (by rw[RC];exact .inl (decide_eq_false d)) (ay ?_))
   refine ae (aE (au dG (aw (bR rfl) rfl T.aab LL (af (aa 0 rfl) am ah)) ag) (by rw[b];exact decide_eq_false (by lia)) (ay ?_));refine ae (cX (dz (aA (aa 2 rfl) (aA (aa 3 rfl) (aA (bK (cU (bK (aZ (aZ (aa 2 rfl) (aa 1 rfl) (by walk_at"mul")) (aa 1 rfl) (by walk_at"mul")) (aZ (aa 3 rfl) (aa 1 rfl) (by walk_at"mul"))) ag (by walk_at"div")) ag) (aA (aa 4 rfl) bC ah) aQ) ah) ah)) ?_);rw[c,a,g]
def iG(l m:List P2):List P2:=m.flatMap λq=>l.map λp=>plus p q
theorem p5(l m):aj (iG l m)=aj (mm l m):=qW λz=>by
 unfold iG;rw[fe,Tu];constructor
 .rintro ⟨q,a,c⟩;obtain⟨p,b,rfl⟩:=Ln.mp c;exact⟨p,b,q,a,rfl⟩
 .rintro ⟨p,b,q,a,rfl⟩;exact⟨q,a,Ln.mpr ⟨p,b,rfl⟩⟩
theorem zX{l m:List P2}(h:m[i]?=some q):iG l (m.take (i+1))=iG l (m.take i)++l.map λp=>plus p q:=by
 unfold iG;rw[Oz,h,List.flatMap_append];simp
theorem ou(l):∀m,(iG l m).length=m.length*l.length
 |[]=>by simp[iG]
 |q::m=>by
  have:=ou l m;unfold iG at *;rw[List.flatMap_cons,LG,this,Lg,LF,U3];lia
def AC:List U->Out->Prop:=λa o=>∃l m:List P2,a=[lp l,lp m]/\l.length<=30/\m.length<=3/\o=.val (lp (iG l m))
theorem sH:OkD P w base T.aaZ 1 (AC):=by
 refine okD dk (by walk_at"ln") ?_;rintro _ _ _ n ⟨l,m,rfl,e,r,rfl⟩;refine ae (ax 2 dk.nd (EvN.ev (dz bC)) ?_);refine ae (gJ (λi:Nat=>[some (.val (lp l)),some (.val (lp m)),some (.val (lp (iG l (m.take i)))),none,none]) (λi j=>i=j) rfl PassesOwn.never (bV (aa 1 rfl) (.inl rfl)) ?h0 ?hs ?hd)
 case h0=>exact⟨0,rfl,rfl,rfl,rfl,trivial⟩
 case hs=>
  rintro t i x _ b rfl;obtain⟨q,a,k,rfl⟩:=pY b;have step:=zX (l:=l) a;have d:=ou l (m.take i);have st2:(m.take i).length<=3:=by rw[NZ];lia
  have u:=SD st2 e;refine⟨_,(gB (i:=3) dk.nd rfl (Or.inr rfl)),?_⟩;refine ae (ax 2 dk.nd (EvN.ev (lV (aa 2 rfl) (EvN.ev (bO (ys:=(l.map λp=>pu (plus p q))) rfl (blk (ai g_) ["land","other","found","q","p"] [4] rfl rfl rfl rfl (by decide+kernel)) (EvI.z (bV (aa 0 rfl) (.inl rfl))) (λ_ _ _ _=>aM (i:=4) dk.nd rfl (Or.inl rfl)) (bL (by decide)) ?clen ?csz (λ_ _=>trivial) ?celt)) (by rw[Lg,Lg,d];exact Lu (aB (by lia))))) (ay ?_))
  case clen=>simp
  case csz=>rw[Lg];exact Lu (aB (by lia))
  case celt=>
   intro C h o v j x y b hy;obtain⟨p,s,g,rfl,rfl⟩:=b7 b hy;exact (bU (aA (bK (aD (aa 4 rfl) ag rfl rfl) (aD (aa 3 rfl) ag rfl rfl)) (aA (bK (aD (aa 4 rfl) ag rfl rfl) (aD (aa 3 rfl) ag rfl rfl)) bC aQ) aQ))
  refine⟨i+1,rfl,rfl,rfl,?_,trivial⟩;refine congrArg (λz=>some (Sl.val (.lst z))) ?_;rw[step,Md,L4];rfl
 case hd=>
  rintro q f a c;refine dY ?_ c;have:q=m.length:=by rw[Lg]at a;lia
  subst this;refine ae (aF (aa 2 rfl) ?_);exact congrArg (λz=>Out.val (lp (iG l z))) (Mf (Lk _))
theorem nm1(c)(b:97<=c)(a:c<=122):Nm [c]:=⟨Lk 1,show 1<=8 by decide,λx d=>by rw[Lz.mp d];exact⟨b,a⟩⟩
structure Fst(w:List Nat):Prop where
 fr:32 ∉ w
 ln:w.length<=123
 tb:(iR gL (T' w)).isSome=true
 nn:eqW (sT w) (.str "names")=false
 nd:eqW (sT w) (.str "drop")=false
theorem aaq:Fst eQ:=⟨by decide,by decide,by decide+kernel,by decide+kernel,by decide+kernel⟩
theorem abb:Fst vf:=⟨by decide,by decide,by decide+kernel,by decide+kernel,by decide+kernel⟩
theorem Ii:Fst oe:=⟨by decide,by decide,by decide+kernel,by decide+kernel,by decide+kernel⟩
theorem wJ:Fst j3:=⟨by decide,by decide,by decide+kernel,by decide+kernel,by decide+kernel⟩
theorem abt:Fst Cm:=⟨by decide,by decide,by decide+kernel,by decide+kernel,by decide+kernel⟩
theorem aah:Fst jF:=⟨by decide,by decide,by decide+kernel,by decide+kernel,by decide+kernel⟩
theorem Fj:Fst jO:=⟨by decide,by decide,by decide+kernel,by decide+kernel,by decide+kernel⟩
theorem aaP:Fst om:=⟨by decide,by decide,by decide+kernel,by decide+kernel,by decide+kernel⟩
theorem aaS:Fst jD:=⟨by decide,by decide,by decide+kernel,by decide+kernel,by decide+kernel⟩
theorem JG:Fst DU:=⟨by decide,by decide,by decide+kernel,by decide+kernel,by decide+kernel⟩
inductive Rds (XZ:List (Str×U)):List Str->List (List Nat)->List U->Prop
 |nil:Rds XZ [] [] []
 |cons {k:Str}{w:List Nat}{g:U}{ks:List Str}{ws:List (List Nat)}{gs:List U}:32 ∉ w->w.length<=123->Rd XZ k (T' w) g->Rds XZ ks ws gs->Rds XZ (k::ks) (w::ws) (g::gs)
section
variable {XZ:List (Str×U)}{ks:List Str}{w nm:List Nat}{ws:List (List Nat)}{gs:List U}{u:U}
theorem Rds.ok(h:Rds XZ ks ws gs):ks.length=ws.length/\gs.length=ws.length/\(∀x∈ws,32 ∉ x/\x.length<=123)/\∀(i:Nat) k f g,ks[i]?=some k->ws[i]?=some f->gs[i]?=some g->Rd XZ k (T' f) g:=by
 induction h with
 |nil=>exact⟨rfl,rfl,by simp,λi k f g j=>by simp at j⟩
 |cons a b c d q=>
  obtain⟨p,n,o,r⟩:=q;refine⟨by simp[p],by simp[n],λx s=>?_,λi k f g j l m=>?_⟩
  .rcases Ll.mp s with e |e
   .rw[e];exact⟨a,b⟩
   .exact o x e
  .cases i with
   |zero=>cases j;cases l;cases m;exact c
   |succ i=>exact r i k f g j l m
theorem ip(F:Fst w)(k:kh [.lst ((w::ws).map sT)] (.val (.lst (ks.map U.str))))(n:ws.length<=61)(h:Rds XZ ks ws gs):Row XZ w ws ks gs:=by
 obtain⟨d,c,b,f⟩:=h.ok;refine⟨k,λx a=>?_,λx a=>?_,n,d,c,f,F.tb,F.nn,F.nd⟩
 .rcases Ll.mp a with e |e
  .rw[e];exact F.fr
  .exact (b x e).1
 .rcases Ll.mp a with e |e
  .rw[e];exact F.ln
  .exact (b x e).2
theorem ny(k:gZ w ks)(e:ks.length=ws.length):kh [.lst ((w::ws).map sT)] (.val (.lst (ks.map U.str))):=.inl ⟨w,ws,ks,rfl,k,e,rfl⟩
theorem rd1(n:Nm nm)(a:L2.valU XZ (T' nm)=some u)(h:Rds XZ ks ws gs):Rds XZ (eG::ks) (nm::ws) (u::gs):=.cons n.free (by have:=n.h8;lia) (.one _ _ _ (.inl rfl) a) h
theorem rdN(n:Nm nm)(h:Rds XZ ks ws gs):Rds XZ (jg::ks) (nm::ws) (sT nm::gs):=.cons n.free (by have:=n.h8;lia) (.new _ n) h
theorem ke(F:Fst w)(k:gZ w [eG])(n:Nm nm)(a:L2.valU XZ (T' nm)=some u):Row XZ w [nm] [eG] [u]:=ip F (ny k rfl) (by simp) (rd1 n a .nil)
theorem xG:∀{pts:List P2},(∀p∈pts,B60 p)->Rds XZ (L7 pts.length kP) (pts.map ptD) (pts.map pu)
 |[],_=>.nil
 |p::r,h=>by
  have hp:=h p Lo;exact .cons (Dx p) (mL hp) (.pnt _ hp) (xG λq a=>h q (Li _ a))
theorem pO(c:Nm nm)(d:pts≠[])(e:pts.length<=60)(b:∀p∈pts,B60 p):Row XZ eQ (nm::pts.map ptD) (jg::L7 pts.length kP) (sT nm::pts.map pu):=by
 have a:=LQ.mpr d;refine ip aaq (.inr ⟨nm::pts.map ptD,rfl,by simp;lia,by simp;lia,?_⟩) (by simp;lia) (rdN c (xG b));rw[LK,List.map_replicate];simp
theorem rdO(n:Nm nm)(a:L2.valU XZ (T' nm)=some u)(h:Rds XZ ks ws gs):Rds XZ (zH::ks) (nm::ws) (u::gs):=.cons n.free (by have:=n.h8;lia) (.one _ _ _ (.inr rfl) a) h
theorem kT(b:d=kK\/d=kA\/d=kB\/d=kC)(a:n.natAbs<10 ^ 60)(h:Rds XZ ks ws gs):Rds XZ (d::ks) (ds n::ws) (.int n::gs):=.cons (gg n (by lia)) (by have:=cE (by decide) a;lia) (.num _ _ b a) h
end
theorem lu(a:m<=190)(h:Szp m p):B60 p:=by
 have k:∀{n},Sz m n->n.natAbs<10 ^ 60:=λ{n} h=>Lp (by have:=h.mono a;unfold Sz at this;omega) (by decide+kernel);exact⟨k h.1,k h.2⟩
theorem lh(a)(b)(h:b≠[]):∀c,T' (a++32::(c.flatMap λw=>w++[32]))++T' (jn b)=T' (jn (a::(c++b))):=λc=>by
 rw[nZ];refine congrArg T' ?_
 induction c generalizing a with
 |nil=>rw[List.nil_append,km _ h];simp
 |cons w c d=>
  rw[RL,km _ (by simp),<-d w];simp
theorem JV:(Str.ofString "field a ":Str)=T' (eQ++32::([[97]].flatMap λw=>w++[32])):=by decide+kernel
theorem Jq:(Str.ofString "field c ":Str)=T' (eQ++32::([[99]].flatMap λw=>w++[32])):=by decide+kernel
theorem Kb:(Str.ofString "fold b a ":Str)=T' (vf++32::([[98],[97]].flatMap λw=>w++[32])):=by decide+kernel
theorem Jv:(Str.ofString "count a ":Str)=T' (jF++32::([[97]].flatMap λw=>w++[32])):=by decide+kernel
theorem Jp:(Str.ofString "inner a ":Str)=T' (jO++32::([[97]].flatMap λw=>w++[32])):=by decide+kernel
theorem Ke:(Str.ofString "share a ":Str)=T' (jD++32::([[97]].flatMap λw=>w++[32])):=by decide+kernel
theorem Kp:(Str.ofString "area a":Str)=T' (jn [j3,[97]]):=by decide+kernel
theorem JE:(Str.ofString "rim a":Str)=T' (jn [Cm,[97]]):=by decide+kernel
theorem IZ:(Str.ofString "area b":Str)=T' (jn [j3,[98]]):=by decide+kernel
theorem J6:(Str.ofString "sum d a c":Str)=T' (jn [DU,[100],[97],[99]]):=by decide+kernel
theorem IQ:(Str.ofString "mixed c a":Str)=T' (jn [om,[99],[97]]):=by decide+kernel
theorem J3:(Str.ofString "area d":Str)=T' (jn [j3,[100]]):=by decide+kernel
theorem J4:(Str.ofString "show d":Str)=T' (jn [oe,[100]]):=by decide+kernel
def kv1(u:U):List (Str×U):=mj [] (T' [97]) u
def kv2(u v:U):List (Str×U):=mj (kv1 u) (T' [98]) v
def kv3(u v x:U):List (Str×U):=mj (kv2 u v) (T' [99]) x
def kv4(u v x y:U):List (Str×U):=mj (kv3 u v x) (T' [100]) y
theorem v1a(u):L2.valU (kv1 u) (T' [97])=some u:=rfl
theorem v2a(u v):L2.valU (kv2 u v) (T' [97])=some u:=rfl
theorem v2b(u v):L2.valU (kv2 u v) (T' [98])=some v:=rfl
theorem v3a(u v x):L2.valU (kv3 u v x) (T' [97])=some u:=rfl
theorem v3c(u v x):L2.valU (kv3 u v x) (T' [99])=some x:=rfl
theorem v4a(u v x y):L2.valU (kv4 u v x y) (T' [97])=some u:=rfl
theorem v4c(u v x y):L2.valU (kv4 u v x y) (T' [99])=some x:=rfl
theorem v4d(u v x y):L2.valU (kv4 u v x y) (T' [100])=some y:=rfl
theorem F_{l:List P2}(h:∀p∈l,B60 p)(c:l.length<=61):(jn (l.map ptD)).length<=8200:=yo (λw a=>by obtain⟨p,b,rfl⟩:=Ln.mp a;exact mL (h p b)) (by simp;lia)
theorem n300(a:m<=990)(h:Sz m n):n.natAbs<10 ^ 300:=Lp (by have:=h.mono a;unfold Sz at this;omega) (by decide+kernel)
theorem n60(a:m<=190)(h:Sz m n):n.natAbs<10 ^ 60:=Lp (by have:=h.mono a;unfold Sz at this;omega) (by decide+kernel)
structure Due(l:List P2)(k:Int):Prop where
 F:Fld l
 hl:l.length<=26
 sz:∀p∈l,Szp 110 p
 k0:0<=k
 sk:Sz 70 k
theorem Due.fit(h:Due l k):Fit l:=⟨h.F.ne,by have:=h.hl;lia,λp a=>(h.sz p a).mono (by decide),λp a=>lu (by decide) (h.sz p a)⟩
def fJ(l:List P2)(k:Int):List Int:=[area l,d8 l,f7 (aj (l.map (scl k))),pin (aj (l.map (scl k)))]
theorem Due.n300(h:Due l k):∀n∈fJ l k,n.natAbs<10 ^ 300:=by
 have s:=h.hl;have i:=i5 h.sz (by lia);have f:=Dd h.sz (by lia);have g:Sz 400 (area l*k*k):=(L2.Sz.mul (L2.Sz.mul i h.sk) h.sk).mono (by decide);have d:Sz 400 (dB l*k):=(L2.Sz.mul f h.sk).mono (by decide)
 have b:Sz 900 (d8 l)/\Sz 900 (f7 (aj (l.map (scl k))))/\Sz 900 (pin (aj (l.map (scl k)))):=by
  have one:Sz 8 1:=by decide
  have a:∀{n}{x},Sz n x->Sz n (x/2):=λr=>r.ediv;by_cases o:l.length<3
  .obtain⟨c,e,q⟩:=xY h.F o h.k0;rw[<-c,<-e,<-q];exact⟨(L2.Sz.add' (a f) (one.mono (n:=118) (by decide))).mono (by decide),(L2.Sz.add' (a d) (one.mono (n:=400) (by decide))).mono (by decide),Sz.mono (m:=8) (by decide) (by decide)⟩
  .obtain⟨c,e⟩:=s_ h.F (by lia) h.k0;have p:d8 l=dB l:=by unfold d8;rw[if_neg o]
   rw[<-c,<-e,p];refine⟨f.mono (by decide),(L2.Sz.add' (a (L2.Sz.add' g d)) (one.mono (n:=401) (by decide))).mono (by decide),?_⟩;split
   .exact (L2.Sz.add' (a (L2.Sz.sub' g d)) (one.mono (n:=401) (by decide))).mono (by decide)
   .exact Sz.mono (m:=8) (by decide) (by decide)
 intro n j;simp only[fJ,Ll,NG,or_false]at j;rcases j with rfl |rfl |rfl |rfl
 .exact My.n300 (by decide) i
 .exact My.n300 (by decide) b.1
 .exact My.n300 (by decide) b.2.1
 .exact My.n300 (by decide) b.2.2
theorem ik{w:List Nat}(h:(eqW (sT w) (.str "show") || (eqW (sT w) (.str "where") || (eqW (sT w) (.str "tell") || (eqW (sT w) (.str "alike") ||eqW (sT w) (.str "thin")))))=false)(hs:w≠oe)(r:Rck [sT w,.lst gs] n)(a:n.natAbs<10 ^ 300):Ans [sT w,.lst gs] (ds n):=.num w gs n hs h r a
def Av:LX->List (Str×U)->List U->Out->Prop:=λ_ a b o=>∃(l:List P2) (k:Int),b=[.int k]/\L2.valU a (T' [97])=some (lp l)/\Due l k/\o=.val (.lst ((fJ l k).map λn=>sT (ds n)))
theorem rV:cj P w K mg base (CXF P w) 12 T.aag.a T.aag.d ["desk","many"] (spD K false T.aad Av):=by
 refine ii T.aag.F gF (λd c J o h=>?_) (λD A r s H U E O a d c J o e h=>?_)
 .obtain⟨l,k,rfl,_⟩:=h;rfl
 obtain⟨l,k,rfl,m,h,rfl⟩:=h;refine Ws.nox ?_;have fl:=h.fit;have g:=nm1 97 (by decide) (by decide);have q:=n60 (by decide) h.sk;have b:=n300 (by decide) h.sk;have v:=vC b;have u:=cE (by decide) q;have f:=h.n300;have N:(Str.ofString "count a ")++Str.ofString (O9 k)=T' (jn [jF,[97],ds k]):=by rw[Jv,gv,show T' (ds k)=T' (jn [ds k]) from rfl,lh _ _ (by simp)];rfl
 have M:(Str.ofString "inner a ")++Str.ofString (O9 k)=T' (jn [jO,[97],ds k]):=by rw[Jp,gv,show T' (ds k)=T' (jn [ds k]) from rfl,lh _ _ (by simp)];rfl
 have I:bZ d c [.str "area a"] (.val (sT (ds (area l)))):=⟨j3,[[97]],eG,[],[lp l],_,by rw[Kp],ke wJ v6 g m,by decide+kernel,ik (by decide+kernel) (by decide) (.area l fl) (f _ (by simp[fJ])),rfl⟩
 have G:bZ d c [.str "rim a"] (.val (sT (ds (d8 l)))):=⟨Cm,[[97]],eG,[],[lp l],_,by rw[JE],ke abt Jk g m,by decide+kernel,ik (by decide+kernel) (by decide) (.rim l fl) (f _ (by simp[fJ])),rfl⟩
 have L:bZ d c [sT (jn [jF,[97],ds k])] (.val (sT (ds (f7 (aj (l.map (scl k))))))):=⟨jF,[[97],ds k],eG,[kK],[lp l,.int k],_,rfl,ip aah (ny F8 rfl) (by simp) (rd1 g m (kT (.inl rfl) q .nil)),by decide+kernel,ik (by decide+kernel) (by decide) (.count l k fl h.k0 (h.sk.mono (by decide))) (f _ (by simp[fJ])),rfl⟩
 have B:bZ d c [sT (jn [jO,[97],ds k])] (.val (sT (ds (pin (aj (l.map (scl k))))))):=⟨jO,[[97],ds k],eG,[kK],[lp l,.int k],_,rfl,ip Fj (ny EC rfl) (by simp) (rd1 g m (kT (.inl rfl) q .nil)),by decide+kernel,ik (by decide+kernel) (by decide) (.inner l k fl h.k0 (h.sk.mono (by decide))) (f _ (by simp[fJ])),rfl⟩
 have t:((Str.ofString "count a ").length+(Str.ofString (O9 k)).length)≤sizeLine:=by rw[gv,bu];exact LN (MZ u _) (by decide+kernel)
 have p:((Str.ofString "inner a ").length+(Str.ofString (O9 k)).length)≤sizeLine:=by rw[gv,bu];exact LN (MZ u _) (by decide+kernel)
 refine ae (ax 2 gF.nd (EvN.ev (dz (aA aC (aA aC (aA (fc aC (b5 (dF v) rfl T.aal P5 (af (aa 1 rfl) am ah)) t) (aA (fc aC (b5 (dF v) rfl T.aal P5 (af (aa 1 rfl) am ah)) p) bC aQ) aQ) aJ) aJ))) ?_);rw[N,M];refine ae (aF (EvN.ev (bO (ys:=([area l,d8 l,f7 (aj (l.map (scl k))),pin (aj (l.map (scl k)))].map λn=>sT (ds n))) rfl (blk (ai iL) ["desk","many","rows","row"] [3] rfl rfl rfl rfl (by decide+kernel)) (EvI.z (bV (aa 2 rfl) (.inl rfl))) (λ_ _ _ _=>aM (i:=3) gF.nd rfl (Or.inl rfl)) (bL (by decide)) ?clen ?csz (λ_ _=>trivial) ?celt)) ?_)
 case clen=>rfl
 case csz=>exact (show 4<=sizeLine by decide+kernel)
 case celt=>
  intro C Q S R j x y hx hy
  match j,hx,hy with
  |0,hx,hy=>cases hx;cases hy;exact mr (dH T) 0 T.aac e rfl (af (aa 3 rfl) am ah) I
  |1,hx,hy=>cases hx;cases hy;exact mr (dH T) 0 T.aac e rfl (af (aa 3 rfl) am ah) G
  |2,hx,hy=>cases hx;cases hy;exact mr (dH T) 0 T.aac e rfl (af (aa 3 rfl) am ah) L
  |3,hx,hy=>cases hx;cases hy;exact mr (dH T) 0 T.aac e rfl (af (aa 3 rfl) am ah) B
  |j+4,hx,hy=>cases hx
 exact rfl
def mnK(c:Int):Int:=if c/7%3=1 then c*48271%10 ^ (20:Int).toNat else c%7
theorem HH(a:0<m)(h:Sz k m)(z):0<=z%m/\Sz k (z%m):=by
 have b:=Nz z (show m≠0 by lia);have c:=M9 z a;refine⟨b,?_⟩;unfold Sz at *;lia
theorem GP(c):0<=mnK c/\Sz 70 (mnK c):=by
 unfold mnK;split
 .have h:=HH (k:=67) (m:=10 ^ (20:Int).toNat) (by decide+kernel) (by decide+kernel) (c*48271);exact⟨h.1,h.2.mono (by decide)⟩
 .exact⟨by lia,Sz.mono (m:=8) (by unfold Sz;lia) (by decide)⟩
theorem Ah(F:Fld l)(a:0<=k):area (aj (l.map (scl k)))=area l*k*k:=by
 rcases L_ a with z |z
 .have:=kM (ro z) (r8 z) l;rw[this,F.cr,vv];grind
 .subst z;rw[Ka F,Pl];rfl
theorem yw(F:Fld l):f7 (aj (l.map (scl 1)))=dt l λ_=>true:=by
 rw[show scl 1=id from funext yI,Wu,F.cr,xB F]
theorem Ef{m n:Int}(a:0<=m)(b:0<=n)(h:(m+n).natAbs<10 ^ 300):m.natAbs<10 ^ 300/\n.natAbs<10 ^ 300:=by lia
theorem yD(l:List P2):fL (l.map pu) none (some 2)=(l.take 2).map pu:=by rw[show (some 2)=some ((2:Nat):Int) from rfl,zq,S8]
def sM(c:Int):P2:=(c%5-2,c/5%5-2)
theorem D5(c):Szp 8 (sM c):=by unfold sM;constructor <;>unfold Sz <;>dsimp only <;>lia
theorem evS(y)(h:Ev X H0 O0 ps e (.str y)):Ev X H0 O0 ps e (.str y):=h
theorem IX(ns:List Int):(ns.map λn=>sT (ds n))=(ns.map λn=>T' (ds n)).map U.str:=by rw[L4];rfl
theorem tG{ns:List Int}(h:∀n∈ns,n.natAbs<10 ^ 60)(c:ns.length≤3):Xl (Str.ofString " ") (ns.map λn=>T' (ds n))=true:=by
 have a:∀x∈ns.map (λn=>T' (ds n)),x.length<=61:=λx a=>by
  obtain⟨n,d,rfl⟩:=Ln.mp a;rw[bu];exact cE (by decide) (h n d)
 have:=re 61 (ns.map λn=>T' (ds n)) 0 a;unfold Xl;rw[<-So];have e:(ns.map λn=>T' (ds n)).length*(61+1)<=3*62:=SD (by rw[Lg];exact c) (Lk _)
 have b:Builtin.Str.tooLong ((ns.map λn=>T' (ds n)).foldl (λ(n:Nat) (x:Str)=>n+x.length+(Str.ofString " ":Str).length) 0)=false:=by
  unfold Builtin.Str.tooLong;rw[Oq];exact decide_eq_false (by lia)
 rw[b];rfl
theorem Fn{ns:List Int}(h:∀n∈ns,n.natAbs<10 ^ 60)(c:ns.length<=3):(jn (ns.map ds)).length<=8200:=yo (λw a=>by
 obtain⟨n,b,rfl⟩:=Ln.mp a;exact LN (cE (by decide) (h n b)) (by decide)) (by simp;lia)
theorem qo(j:L2.valU XZ (T' [97])=some (lp l))(h:Fit l)(F:Fld l)(e:Sz 110 a)(g:Sz 110 b)(f:Sz 110 c)(i:(dt l λp=>decide (a*p.1+b*p.2<=c)).natAbs<10 ^ 300):
  bZ d XZ [sT (jn (jD::[97]::[a,b,c].map ds))] (.val (sT (ds (dt l λp=>decide (a*p.1+b*p.2<=c))))):=
 ⟨jD,[97]::[a,b,c].map ds,eG,[kA,kB,kC],[lp l,.int a,.int b,.int c],_,rfl,ip aaS (ny D7 rfl) (by simp) (rd1 (nm1 97 (by decide) (by decide)) j (kT (.inr (.inl rfl)) (n60 (by decide) e) (kT (.inr (.inr (.inl rfl))) (n60 (by decide) g) (kT (.inr (.inr (.inr rfl))) (n60 (by decide) f) .nil)))),by decide+kernel,ik (by decide+kernel) (by decide) (.share l a b c h F (e.mono (by decide)) (g.mono (by decide)) (f.mono (by decide))) i,rfl⟩
theorem xM(h:n.natAbs<10 ^ 300):oY [sT (ds n)] (.new ([n].map U.int)):=by
 refine⟨ds n,[n],rfl,gg n (by lia),?_,λm b=>by rw[Lz.mp b];exact h,?_,by simp,rfl⟩
 .show spl 32 (jn [ds n])=[ds n];exact w6 (by simp) λw a=>by rw[Lz.mp a];exact gg n (by lia)
 .have:=cE (k:=300) (by decide) h;lia
theorem Iz:OkD P w base T.abl 13 (j4):=by
 refine okD ca (by walk_at"ln") ?_;rintro _ _ _ g ⟨r,rfl,B,hB,rfl⟩;have hN:=xw r;have pl:=AT r;have pz:=Fm r;have c1:=ie hB (k:=1) (by decide) (by decide);have c2:=ie hB (k:=2) (by decide) (by decide);have c3:=ie hB (k:=3) (by decide) (by decide);have c4:=ie hB (k:=4) (by decide) (by decide);have c5:=ie hB (k:=5) (by decide) (by decide);refine ae (ax 1 ca.nd (EvN.ev (df (o0 T) g (af (aa 0 rfl) am ah) ⟨r,rfl,B,hB,rfl⟩)) ?_);generalize BU r=pts at *;have pn:pts≠[]:=λe=>by rw[e]at pl;simp at pl;lia
 refine ae (ax 2 ca.nd (EvN.ev (df (d_ T) g (af (aa 1 rfl) am ah) ⟨pts,rfl,bw (by decide) pz,by lia,rfl⟩)) ?_);have F:Fld (aj pts):=⟨dL pn,kZ _⟩;have cl:(aj pts).length<=26:=LN (fC _) (by lia);have I:∀p∈aj pts,Szp 110 p:=λp s=>pz p (aO _ p s);generalize hl:aj pts=l at *;obtain⟨k0,K⟩:=GP (cel r 1);refine ae (ax 3 ca.nd (c0 (aR (bF T) g (af (aa 0 rfl) (af ag am aJ) ah) ⟨r,_,rfl,B,by decide,by decide,rfl⟩) ag (by walk_at"mod")) ?_);refine n_ (λps=>SubP [some (.val (.scr (r.map U.int))),some (.val (lp pts)),some (.val (lp l)),some (.val (.int (mnK (cel r 1)))),none,none,none,none,none,none,none,none,none,none,none,none,none,none] ps) (lD (au f6 (c0 (cU (aR (bF T) g (af (aa 0 rfl) (af ag am aJ) ah) ⟨r,_,rfl,B,by decide,by decide,rfl⟩) ag (by walk_at"div")) ag (by walk_at"mod")) ag) (λhT=>?_) (λhF=>(ay ?_))) ?hj
 .refine ae (ax 3 ca.nd (c0 (aZ (aR (bF T) g (af (aa 0 rfl) (af ag am aJ) ah) ⟨r,_,rfl,B,by decide,by decide,rfl⟩) ag (by walk_at"mul")) (xr ag ag ⟨by decide,by decide,by decide⟩) (by decide+kernel)) (ay ?_));refine⟨rfl,rfl,rfl,?_,trivial⟩;exact congrArg (λz=>some (Sl.val (.int z))) (by unfold mnK;rw[if_pos (dTb hT)])
 .refine⟨rfl,rfl,rfl,?_,trivial⟩;exact congrArg (λz=>some (Sl.val (.int z))) (by unfold mnK;rw[if_neg (dFb hF)])
 case hj=>
  intro ps Yj;refine dY ?_ Yj;generalize mnK (cel r 1)=k at *;have D:Due l k:=⟨F,cl,I,k0,K⟩;have fl:=D.fit;have d300:=D.n300;have kb:=n60 (by decide) K;have lk:(ds k).length<=61:=cE (by decide) kb;have Y:=vC (n300 (by decide) K);have pb:∀p∈pts,B60 p:=λp s=>lu (by decide) (pz p s);have lb:=fl.b;have jl:=F_ pb (by lia);have O:(!eqW (.str "ok") (.str "ok"))=false:=by decide+kernel
  have N:∀x:Str,eqW (.str x) (.str x)=true:=λx=>by rw[eqS];exact decide_eq_true rfl
  have na:=nm1 97 (by decide) (by decide);have nb:=nm1 98 (by decide) (by decide);have nc:=nm1 99 (by decide) (by decide);have W:=nm1 100 (by decide) (by decide);refine ae (Hr (i:=4) T.aai.m ((En T).mono (by decide)) g rfl T.abx T.aai.b fq ca.nd rfl (Or.inl rfl) (λJ A=>?_));show Ws _ _ _ _ _ _ [some (.val (.scr (r.map U.int))),some (.val (lp pts)),some (.val (lp l)),some (.val (.int k)),some (.dsk true T.aad J A []),none,none,none,none,none,none,none,none,none,none,none,none,none];refine ae (Cf (iJ O (r_ (f_ g) (nD (i:=4) rfl T.aac T.aaa.m ((mR T).mono (by decide)) g T.aaa.b fq (af (fc aC (aR (fM T) g (af (aa 1 rfl) am ah) ⟨pts,rfl,pb,by lia,rfl⟩) (by rw[bu];exact LN (MZ jl _) (by decide+kernel))) am aQ) ⟨eQ,[97],pts.map ptD,_,_,l,by rw[JV,lh _ _ (by simpa using pn)] <;>rfl,pO na pn (by lia) pb,by decide,.inl ⟨pts,rfl,bw (by decide) pz,by lia,pn,by rw[hl]⟩,F.ne,by lia,lb,rfl⟩) aC)) ?_);refine ay ?_;show Ws _ _ _ _ _ _ [some (.val (.scr (r.map U.int))),some (.val (lp pts)),some (.val (lp l)),some (.val (.int k)),some (.dsk true T.aad J A (kv1 (lp l))),none,none,none,none,none,none,none,none,none,none,none,none,none];refine ae (ax 5 ca.nd (EvN.ev (df (lK T) g (af (aa 2 rfl) (af (aa 3 rfl) am ah) ah) ⟨l,k,rfl,F,by lia,bw (by decide) I,k0,K.mono (by decide),rfl⟩)) ?_);show Ws _ _ _ _ _ _ [some (.val (.scr (r.map U.int))),some (.val (lp pts)),some (.val (lp l)),some (.val (.int k)),some (.dsk true T.aad J A (kv1 (lp l))),some (.val (.lst ((fJ l k).map U.int))),none,none,none,none,none,none,none,none,none,none,none,none];have fne:aj (l.map (scl k))≠[]:=dL (by simpa using F.ne)
  have fz:∀p∈aj (l.map (scl k)),Szp 185 p:=λp s=>by
   obtain⟨q,hq,rfl⟩:=Ln.mp (aO _ p s);exact⟨(L2.Sz.mul K (I q hq).1).mono (by decide),(L2.Sz.mul K (I q hq).2).mono (by decide)⟩
  have fll:(aj (l.map (scl k))).length<=60:=LN (fC _) (by rw[Lg];lia);have fA:=Ah F k0;generalize hf:aj (l.map (scl k))=f at *;have fb:∀p∈f,B60 p:=λp s=>lu (by decide) (fz p s);have ff:Fit f:=⟨fne,fll,λp s=>(fz p s).mono (by decide),fb⟩
  have tl1:((Str.ofString "fold b a ":Str).length+(Str.ofString (O9 k)).length)≤sizeLine:=by rw[gv,bu];exact LN (MZ lk _) (by decide+kernel)
  refine ae (Cf (TwK.t (Gh (iJ (c:=!eqW (.lst ((fJ l k).map λn=>sT (ds n))) (.lst ((fJ l k).map λn=>sT (ds n)))) (by rw[uK 9 _ (nP λ_=>rfl)];rfl) (IT ?t1)) (BN (iJ O (r_ (f_ g) (nD (i:=4) rfl T.aac T.aaa.m ((mR T).mono (by decide)) g T.aaa.b fq (af (fc aC (b5 (dF Y) rfl T.aal P5 (af (aa 3 rfl) am ah)) tl1) am aQ) ⟨vf,[98],[[97],ds k],[eG,kK],[lp l,.int k],f,by rw[Kb,gv,show T' (ds k)=T' (jn [ds k]) from rfl,lh _ _ (by simp)] <;>rfl,ip abb (ny Iy rfl) (by simp) (rdN nb (rd1 na (v1a _) (kT (.inl rfl) kb .nil))),by simp[kv1,mj],.inr (.inl ⟨l,k,rfl,⟨l,k,rfl,K.mono (by decide),bw (by decide) I,F.ne,by lia,by rw[hf]⟩,by rw[hf]⟩),fne,fll,fb,rfl⟩) aC))))) ?_)
  case t1=>
   show Tt _ _ _ [some (.val (.scr (r.map U.int))),some (.val (lp pts)),some (.val (lp l)),some (.val (.int k)),some (.dsk true T.aad J A (kv1 (lp l))),some (.val (.lst ((fJ l k).map U.int))),none,none,none,none,none,none,none,none,none,none,none,none] _ _;refine (au (f_ g (nP λ_=>rfl) (nP λ_=>rfl)) (EY (i:=4) rfl ((rV T).mono (by decide)) g rfl T.aag.m T.aag.F.kp T.aag.b fq (af (aa 3 rfl) am ah) ⟨l,k,rfl,v1a _,D,rfl⟩) (EvN.ev (bO (ys:=((fJ l k).map λn=>sT (ds n))) rfl (blk (ai qx) ["script","points","land","many","desk","due","number","a","b","c","k","under","above","cell","some","other","both","mixed_due"] [6] rfl rfl rfl rfl (by decide+kernel)) (EvI.z (bV (aa 5 rfl) (.inl rfl))) (λ_ _ _ _=>aM (i:=6) ca.nd rfl (Or.inl rfl)) (bL (by decide)) ?clen ?csz (λ_ _=>trivial) ?celt)))
   case clen=>rfl
   case csz=>exact (show 4<=sizeLine by decide+kernel)
   case celt=>
    intro C s' H' fp j x y hx hy;obtain⟨n,R,mn,rfl,rfl⟩:=b7 (l:=fJ l k) (f:=U.int) hx hy;have Y:=vC (d300 n mn);show Ev _ _ _ _ _ (.str (T' (ds n)));rw[<-gv];exact (b5 (dF Y) rfl T.aal P5 (af (aa 6 rfl) am ah))
  refine ay ?_;show Ws _ _ _ _ _ _ [some (.val (.scr (r.map U.int))),some (.val (lp pts)),some (.val (lp l)),some (.val (.int k)),some (.dsk true T.aad J A (kv2 (lp l) (lp f))),some (.val (.lst ((fJ l k).map U.int))),none,none,none,none,none,none,none,none,none,none,none,none];have az:=i5 I (by lia);have aak:Sz 400 (area l*k*k):=(L2.Sz.mul (L2.Sz.mul az K) K).mono (by decide);have ab:bZ A (kv2 (lp l) (lp f)) [.str "area b"] (.val (sT (ds (area f)))):=⟨j3,[[98]],eG,[],[lp f],_,by rw[IZ],ke wJ v6 nb (v2b _ _),by decide+kernel,ik (by decide+kernel) (by decide) (.area f ff) (by rw[fA];exact n300 (by decide) aak),rfl⟩
  have b2:=vC (n300 (by decide) aak);refine ae (aE (au (f_ g) (mr (dH T) 4 T.aac g rfl (af aC am aJ) ab) (b5 (dF b2) rfl T.aal P5 (af (aZ (aZ (aD (aa 5 rfl) ag rfl (bP (i:=0) rfl rfl)) (aa 3 rfl) (by walk_at"mul")) (aa 3 rfl) (by walk_at"mul")) am aQ))) (by rw[gv,fA,N];rfl) (ay ?_));have ga:=(pR (cel r 2)).mono (n:=109) (by decide);have gb:=(pR (cel r 3)).mono (n:=109) (by decide);have gc:=(pR (cel r 4)).mono (n:=109) (by decide);refine ae (Ju (EvN.ev (bO (ys:=([.int (gr (cel r 2)),.int (gr (cel r 3)),.int (gr (cel r 4))])) rfl (blk (ai qx) ["script","points","land","many","desk","due","number","a","b","c","k","under","above","cell","some","other","both","mixed_due"] [10] rfl rfl rfl rfl (by decide+kernel)) (EvI.z (CB rfl T.aaH (af ag (af ag am aJ) aJ) (by decide))) (λ_ _ _ _=>aM (i:=10) ca.nd rfl (Or.inl rfl)) (bL (by decide)) ?clen ?csz (λ_ _=>trivial) ?celt)) (JA [7,8,9] rfl (bJ (aM (i:=7) ca.nd rfl (Or.inl rfl)) (bJ (aM (i:=8) ca.nd rfl (Or.inl rfl)) (bJ (aM (i:=9) ca.nd rfl (Or.inl rfl)) ft))) (.inl rfl) rfl) ?_)
  case clen=>rfl
  case csz=>exact (show 3<=sizeLine by decide+kernel)
  case celt=>
   intro C s' H' fp j x y hx hy
   match j,hx,hy with
   |0,hx,hy=>cases hx;cases hy;exact (aR (cY T) g (af (aR (bF T) g (af (aa 0 rfl) (af (aa 10 rfl) am ah) ah) ⟨r,2,rfl,B,by decide,by decide,rfl⟩) am be) ⟨_,rfl,c2,rfl⟩)
   |1,hx,hy=>cases hx;cases hy;exact (aR (cY T) g (af (aR (bF T) g (af (aa 0 rfl) (af (aa 10 rfl) am ah) ah) ⟨r,3,rfl,B,by decide,by decide,rfl⟩) am be) ⟨_,rfl,c3,rfl⟩)
   |2,hx,hy=>cases hx;cases hy;exact (aR (cY T) g (af (aR (bF T) g (af (aa 0 rfl) (af (aa 10 rfl) am ah) ah) ⟨r,4,rfl,B,by decide,by decide,rfl⟩) am be) ⟨_,rfl,c4,rfl⟩)
   |j+3,hx,hy=>cases hx
  generalize gr (cel r 2)=a at *;generalize gr (cel r 3)=b at *;generalize gr (cel r 4)=c at *;show Ws _ _ _ _ _ _ [some (.val (.scr (r.map U.int))),some (.val (lp pts)),some (.val (lp l)),some (.val (.int k)),some (.dsk true T.aad J A (kv2 (lp l) (lp f))),some (.val (.lst ((fJ l k).map U.int))),none,some (.val (.int a)),some (.val (.int b)),some (.val (.int c)),none,none,none,none,none,none,none,none];have z1:Sz 8 (1:Int):=by decide
  have gna:Sz 110 (-a):=(ga.natle (by lia):Sz 109 (-a)).mono (by decide);have gnb:Sz 110 (-b):=(gb.natle (by lia):Sz 109 (-b)).mono (by decide);have gnc:Sz 110 (-c-1):=(L2.Sz.sub' (gc.natle (by lia):Sz 109 (-c)) (z1.mono (n:=109) (by decide))).mono (by decide);have ua:=ud l a b c;have u0:=uC l λp=>decide (a*p.1+b*p.2<=c);have v0:=uC l λp=>decide (-a*p.1+-b*p.2<=-c-1);have D1:Due l 1:=⟨F,cl,I,by decide,Sz.mono (m:=8) (by decide) (by decide)⟩
  have G:=D1.n300 _ (show f7 (aj (l.map (scl 1)))∈fJ l 1 by simp[fJ]);rw[yw F,<-ua]at G;obtain⟨u3,v3⟩:=Ef u0 v0 G;have va2:=v2a (lp l) (lp f);have su:=qo (d:=A) va2 fl F (ga.mono (by decide)) (gb.mono (by decide)) (gc.mono (by decide)) u3
  have sv:=qo (d:=A) va2 fl F gna gnb gnc v3;have nu:=xM u3;have nv:=xM v3;have eU:f7 (aj (l.map (scl 1)))=(dt l λp=>decide (a*p.1+b*p.2<=c))+(dt l λp=>decide (-a*p.1+-b*p.2<=-c-1)):=by rw[yw F,ua]
  have X:∀n∈[a,b,c],n.natAbs<10 ^ 60:=λn R=>by
   simp only[Ll,NG,or_false]at R;rcases R with rfl |rfl |rfl
   .exact n60 (by decide) ga
   .exact n60 (by decide) gb
   .exact n60 (by decide) gc
  have V:∀n∈[-a,-b,-c-1],n.natAbs<10 ^ 60:=λn R=>by
   simp only[Ll,NG,or_false]at R;rcases R with rfl |rfl |rfl
   .exact n60 (by decide) gna
   .exact n60 (by decide) gnb
   .exact n60 (by decide) gnc
  have tls:∀{x:List Int},(∀n∈x,n.natAbs<10 ^ 60)→x.length≤3→(Str.ofString "share a ":Str).length+(T' (jn (x.map ds))).length≤sizeLine:=λh1 h2=>by rw[bu];exact LN (MZ (Fn h1 h2) _) (by decide+kernel)
  have tsh:∀{x:List Int},x≠[]→(Str.ofString "share a ":Str)++T' (jn (x.map ds))=T' (jn (jD::[97]::x.map ds)):=λh=>by rw[Ke,lh _ _ (by simpa using h)];rfl
  generalize (dt l λp=>decide (a*p.1+b*p.2<=c))=S at *
  generalize (dt l λp=>decide (-a*p.1+-b*p.2<=-c-1))=Z at *
  replace su:bZ A (kv2 (lp l) (lp f)) [.str ((Str.ofString "share a ":Str)++T' (jn ([a,b,c].map ds)))] (.val (sT (ds S))):=by rw[tsh (by simp)];exact su
  replace sv:bZ A (kv2 (lp l) (lp f)) [.str ((Str.ofString "share a ":Str)++T' (jn ([-a,-b,-c-1].map ds)))] (.val (sT (ds Z))):=by rw[tsh (by simp)];exact sv
  refine ae (uT (i:=11) (u:=.lst ([S].map U.int)) ca.nd rfl (Or.inl rfl) (EvN.ev (df (gV T) g (af (mr (dH T) 4 T.aac g rfl (af (fc aC (evS (T' (jn ([a,b,c].map ds))) ?cJ) (tls X (by simp))) am aQ) su) am be) nu)) ?_)
  case cJ=>
   rw[<-E6 ([a,b,c].map ds),L4];refine qK (l:=[a,b,c].map λn=>T' (ds n)) aC ?ej dg (tG X (by simp))
   case ej=>
    rw[<-IX];refine EvN.ev ?_;refine (bO (ys:=([a,b,c].map λn=>sT (ds n))) rfl (blk (ai qx) ["script","points","land","many","desk","due","number","a","b","c","k","under","above","cell","some","other","both","mixed_due"] [6] rfl rfl rfl rfl (by decide+kernel)) (EvI.z (bV (EvN.ev (dz (aA (aa 7 rfl) (aA (aa 8 rfl) (aA (aa 9 rfl) bC ah) ah) ah))) (.inl rfl))) (λ_ _ _ _=>aM (i:=6) ca.nd rfl (Or.inl rfl)) (bL (by decide)) ?clen ?csz (λ_ _=>trivial) ?celt)
    case clen=>rfl
    case csz=>exact (show 3<=sizeLine by decide+kernel)
    case celt=>
     intro C s' H' fp j x y hx hy;obtain⟨n,R,mn,rfl,rfl⟩:=b7 (l:=[a,b,c]) (f:=U.int) hx hy;have Y:=sQ (MP (X n mn) (show 10 ^ 60<10 ^ 62 by decide+kernel));show Ev _ _ _ _ _ (.str (T' (ds n)));rw[<-gv];exact (b5 (dF Y) rfl T.aal P5 (af (aa 6 rfl) am ah))
  show Ws _ _ _ _ _ _ [some (.val (.scr (r.map U.int))),some (.val (lp pts)),some (.val (lp l)),some (.val (.int k)),some (.dsk true T.aad J A (kv2 (lp l) (lp f))),some (.val (.lst ((fJ l k).map U.int))),none,some (.val (.int a)),some (.val (.int b)),some (.val (.int c)),none,some (.val (.lst ([S].map U.int))),none,none,none,none,none,none];refine ae (uT (i:=12) (u:=.lst ([Z].map U.int)) ca.nd rfl (Or.inl rfl) (EvN.ev (df (gV T) g (af (mr (dH T) 4 T.aac g rfl (af (fc aC (evS (T' (jn ([-a,-b,-c-1].map ds))) ?cK) (tls V (by simp))) am aQ) sv) am be) nv)) ?_)
  case cK=>
   rw[<-E6 ([-a,-b,-c-1].map ds),L4];refine qK (l:=[-a,-b,-c-1].map λn=>T' (ds n)) aC ?ej dg (tG V (by simp))
   case ej=>
    rw[<-IX];refine EvN.ev ?_;refine (bO (ys:=([-a,-b,-c-1].map λn=>sT (ds n))) rfl (blk (ai qx) ["script","points","land","many","desk","due","number","a","b","c","k","under","above","cell","some","other","both","mixed_due"] [6] rfl rfl rfl rfl (by decide+kernel)) (EvI.z (bV (EvN.ev (dz (aA (dl (aa 7 rfl)) (aA (dl (aa 8 rfl)) (aA (bg (dl (aa 9 rfl)) ag) bC aQ) lg) lg))) (.inl rfl))) (λ_ _ _ _=>aM (i:=6) ca.nd rfl (Or.inl rfl)) (bL (by decide)) ?clen ?csz (λ_ _=>trivial) ?celt)
    case clen=>rfl
    case csz=>exact (show 3<=sizeLine by decide+kernel)
    case celt=>
     intro C s' H' fp j x y hx hy;obtain⟨n,R,mn,rfl,rfl⟩:=b7 (l:=[-a,-b,-c-1]) (f:=U.int) hx hy;have Y:=sQ (MP (V n mn) (show 10 ^ 60<10 ^ 62 by decide+kernel));show Ev _ _ _ _ _ (.str (T' (ds n)));rw[<-gv];exact (b5 (dF Y) rfl T.aal P5 (af (aa 6 rfl) am ah))
  show Ws _ _ _ _ _ _ [some (.val (.scr (r.map U.int))),some (.val (lp pts)),some (.val (lp l)),some (.val (.int k)),some (.dsk true T.aad J A (kv2 (lp l) (lp f))),some (.val (.lst ((fJ l k).map U.int))),none,some (.val (.int a)),some (.val (.int b)),some (.val (.int c)),none,some (.val (.lst ([S].map U.int))),some (.val (.lst ([Z].map U.int))),none,none,none,none,none];have hmu:(([S].map U.int).length:Int)=1:=rfl;have hmv:(([Z].map U.int).length:Int)=1:=rfl;refine ae (aE (Tw.t (jh (au nJ (aw (bR rfl) rfl T.aab LL (af (aa 11 rfl) am ah)) ag) (λhz=>(jh (au nJ (aw (bR rfl) rfl T.aab LL (af (aa 12 rfl) am ah)) ag) (λhz=>(jh (au (AG rfl rfl (Gv _)) GI (aa 11 rfl)) (λhz=>(ix (au (AG rfl rfl (Gv _)) GI (aa 12 rfl)))))))))) (by rw[wc,wc,hmu,hmv];rfl) (ay ?_));refine ae (aE (Tw.t (jh (au dG (aD (aa 11 rfl) ag rfl (bP (i:=0) rfl rfl)) ag) (λhz=>(jh (au dG (aD (aa 12 rfl) ag rfl (bP (i:=0) rfl rfl)) ag) (λhz=>(ix (au (f_ g) (bK (aD (aa 11 rfl) ag rfl (bP (i:=0) rfl rfl)) (aD (aa 12 rfl) ag rfl (bP (i:=0) rfl rfl))) (aD (EvN.ev (df (lK T) g (af (aa 2 rfl) (af ag am aJ) ah) ⟨l,1,rfl,F,by lia,bw (by decide) I,by decide,Sz.mono (m:=8) (by decide) (by decide),rfl⟩)) ag rfl (bP (i:=2) rfl rfl))))))))) (by rw[decide_eq_false (by lia),decide_eq_false (by lia),eU,Eg,decide_eq_true rfl];rfl) (ay ?_));refine ae (ax 13 ca.nd (aR (bF T) g (af (aa 0 rfl) (af ag am aJ) ah) ⟨r,_,rfl,B,by decide,by decide,rfl⟩) ?_);generalize cel r 5=q at *;have qz:=D5 q;refine ae (ax 14 ca.nd (EvN.ev (lV (EvN.ev (dj (aa 1 rfl) dy (du ag) (.inl rfl))) (EvN.ev (dz (aA (bU (aA (bg (c0 (aa 13 rfl) ag (by walk_at"mod")) ag) (aA (bg (c0 (cU (aa 13 rfl) ag (by walk_at"div")) ag (by walk_at"mod")) ag) bC aQ) aQ)) bC wB))) (by rw[yD,Lg,NZ];exact Lu (aB (by simp;lia))))) ?_);have es:fL (pts.map pu) none (some 2)++[pu (sM q)]=((pts.take 2)++[sM q]).map pu:=by rw[yD,Md];rfl
  have es2:fL (pts.map pu) none (some 2)++[pt (q%5-2) (q/5%5-2)]=((pts.take 2)++[sM q]).map pu:=es;rw[es2];have sl3:(pts.take 2++[sM q]).length<=3:=by rw[LG,NZ];simp;lia
  have H:pts.take 2++[sM q]≠[]:=by simp
  have L:∀p∈pts.take 2++[sM q],Szp 110 p:=λp s=>by
   rcases Mm.mp s with z |z
   .exact pz p (Qx z)
   .rw[Lz.mp z];exact qz.mono (by decide)
  generalize pts.take 2++[sM q]=E at *;refine ae (ax 15 ca.nd (EvN.ev (df (d_ T) g (af (aa 14 rfl) am ah) ⟨E,rfl,bw (by decide) L,by lia,rfl⟩)) ?_);have on:=dL H;have ol:(aj E).length<=3:=LN (fC _) sl3;have Q:∀p∈aj E,Szp 110 p:=λp s=>L p (aO _ p s);have t1:aj (tog l (aj E))=aj (mm l (aj E)):=by rw[<-hl];exact um pn H
  have t2:aj (tog (aj E) l)=aj (mm l (aj E)):=by rw[<-hl];exact (um H pn).trans (G_ _ _)
  have o300:=n300 (n:=area (aj E)) (m:=227) (by decide) (i5 Q (by lia));have hoc:=kZ E;generalize ho:aj E=o at *;have rl:=ou l o;have rb:o.length*l.length<=3*26:=SD ol cl
  have rz:∀p∈iG l o,Szp 112 p:=λp s=>by
   obtain⟨y,hy,s⟩:=Tu.mp s;obtain⟨x,hx,rfl⟩:=Ln.mp s;exact⟨(L2.Sz.add' (I x hx).1 (Q y hy).1).mono (by decide),(L2.Sz.add' (I x hx).2 (Q y hy).2).mono (by decide)⟩
  refine ae (ax 16 ca.nd (EvN.ev (df (d_ T) g (af (aR (sH T) g (af (aa 2 rfl) (af (aa 15 rfl) am ah) ah) ⟨l,o,rfl,by lia,ol,rfl⟩) am be) ⟨iG l o,rfl,bw (by decide) rz,by rw[rl];lia,rfl⟩)) ?_)
  have bne:aj (iG l o)≠[]:=dL λe=>by
   rw[e]at rl;have:=LQ.mpr F.ne;have:=LQ.mpr on;have:=Nat.mul_pos this ‹0<l.length›;simp at rl;lia
  have bz:∀p∈aj (iG l o),Szp 112 p:=λp s=>rz p (aO _ p s)
  have bl:(aj (iG l o)).length<=60:=by
   rw[p5,<-t1];exact LN (fC _) (by rw[mT];lia)
  rw[<-p5]at t1 t2;have lZ:=LQ.mpr F.ne;have oZ:=LQ.mpr on;generalize aj (iG l o)=v at *;have M:Fit v:=⟨bne,bl,λp s=>(bz p s).mono (by decide),λp s=>lu (by decide) (bz p s)⟩
  have fo:Fit o:=⟨on,by lia,λp s=>(Q p s).mono (by decide),λp s=>lu (by decide) (Q p s)⟩
  have sb:∀p∈E,B60 p:=λp s=>lu (by decide) (L p s);have js:=F_ sb (by lia);show Ws _ _ _ _ _ _ [some (.val (.scr (r.map U.int))),some (.val (lp pts)),some (.val (lp l)),some (.val (.int k)),some (.dsk true T.aad J A (kv2 (lp l) (lp f))),some (.val (.lst ((fJ l k).map U.int))),none,some (.val (.int a)),some (.val (.int b)),some (.val (.int c)),none,some (.val (.lst ([S].map U.int))),some (.val (.lst ([Z].map U.int))),some (.val (.int q)),some (.val (lp E)),some (.val (lp o)),some (.val (lp v)),none];refine ae (Cf (TwK.t (Gh (iJ O (r_ (f_ g) (nD (i:=4) rfl T.aac T.aaa.m ((mR T).mono (by decide)) g T.aaa.b fq (af (fc aC (aR (fM T) g (af (aa 14 rfl) am ah) ⟨E,rfl,sb,by lia,rfl⟩) (by rw[bu];exact LN (MZ js _) (by decide+kernel))) am aQ) ⟨eQ,[99],E.map ptD,_,_,o,by rw[Jq,lh _ _ (by simpa using H)] <;>rfl,pO nc H (by lia) sb,by simp[kv2,kv1,mj],.inl ⟨E,rfl,bw (by decide) L,by lia,H,by rw[ho]⟩,on,by lia,fo.b,rfl⟩) aC)) (BN (iJ O (r_ (f_ g) (nD (i:=4) rfl T.aac T.aaa.m ((mR T).mono (by decide)) g T.aaa.b fq (af aC am aJ) ⟨DU,[100],[[97],[99]],[eG,zH],[lp l,lp o],v,by rw[J6],ip JG (ny Kc rfl) (by simp) (rdN W (rd1 na (v3a _ _ _) (rdO nc (v3c _ _ _) .nil))),by simp[kv2,kv1,mj],.inr (.inr ⟨l,o,rfl,⟨l,o,rfl,F.ne,on,by lia,bw (by decide) I,bw (by decide) Q,by rw[t1]⟩⟩),bne,bl,M.b,rfl⟩) aC))))) ?_);refine ay ?_;show Ws _ _ _ _ _ _ [some (.val (.scr (r.map U.int))),some (.val (lp pts)),some (.val (lp l)),some (.val (.int k)),some (.dsk true T.aad J A (kv4 (lp l) (lp f) (lp o) (lp v))),some (.val (.lst ((fJ l k).map U.int))),none,some (.val (.int a)),some (.val (.int b)),some (.val (.int c)),none,some (.val (.lst ([S].map U.int))),some (.val (.lst ([Z].map U.int))),some (.val (.int q)),some (.val (lp E)),some (.val (lp o)),some (.val (lp v)),none];have ba:Sz 300 (area v):=(i5 bz (by lia)).mono (by decide);have oa:Sz 300 (area o):=(i5 Q (by lia)).mono (by decide);have la:Sz 300 (area l):=az.mono (by decide);have ma:Sz 302 (area v-area l-area o):=(L2.Sz.sub' (L2.Sz.sub' ba la) (oa.mono (n:=301) (by decide))).mono (by decide);have ma2:area v-area o-area l=area v-area l-area o:=by lia
  have b3:=vC (n300 (by decide) ma);have b4:=vC (n300 (by decide) ba);have mx:bZ A (kv4 (lp l) (lp f) (lp o) (lp v)) [.str "mixed c a"] (.val (sT (ds (area v-area l-area o)))):=⟨om,[[99],[97]],eG,[zH],[lp o,lp l],_,by rw[IQ],ip aaP (ny FB rfl) (by simp) (rd1 nc (v4c _ _ _ _) (rdO na (v4a _ _ _ _) .nil)),by decide+kernel,ik (by decide+kernel) (by decide) (by have:=Rck.mixed o l fo fl (by lia);rw[t2,ma2]at this;exact this) (n300 (by decide) ma),rfl⟩
  have ad:bZ A (kv4 (lp l) (lp f) (lp o) (lp v)) [.str "area d"] (.val (sT (ds (area v)))):=⟨j3,[[100]],eG,[],[lp v],_,by rw[J3],ke wJ v6 W (v4d _ _ _ _),by decide+kernel,ik (by decide+kernel) (by decide) (.area v M) (n300 (by decide) ba),rfl⟩
  have sd:bZ A (kv4 (lp l) (lp f) (lp o) (lp v)) [.str "show d"] (.val (sT (jn (v.map ptD)))):=⟨oe,[[100]],eG,[],[lp v],_,by rw[J4],ke Ii GT W (v4d _ _ _ _),by decide+kernel,.show_ v M,rfl⟩
  refine ae (ax 17 ca.nd (b5 (dF b3) rfl T.aal P5 (af (bg (bg (aR (cG T) g (af (aa 16 rfl) am ah) ⟨v,rfl,by lia,bw (by decide) bz,rfl⟩) (aR (cG T) g (af (aa 2 rfl) am ah) ⟨l,rfl,by lia,bw (by decide) I,rfl⟩)) (aR (cG T) g (af (aa 15 rfl) am ah) ⟨o,rfl,by lia,bw (by decide) Q,rfl⟩)) am aQ)) ?_);rw[gv];refine ae (aE (Tw.t (jh (au (f_ g) (mr (dH T) 4 T.aac g rfl (af aC am aJ) mx) (aa 17 rfl)) (λhz=>(ix (au (f_ g) (mr (dH T) 4 T.aac g rfl (af aC am aJ) ad) (b5 (dF b4) rfl T.aal P5 (af (aR (cG T) g (af (aa 16 rfl) am ah) ⟨v,rfl,by lia,bw (by decide) bz,rfl⟩) am be))))))) (by rw[gv,N,N];rfl) (ay ?_));refine ae (aF (gX (aT g) (mr (dH T) 4 T.aac g rfl (af aC am aJ) sd) (aR (fM T) g (af (aa 16 rfl) am ah) ⟨v,rfl,M.b,by lia,rfl⟩)) ?_);exact vB (N _)
end
theorem ar1{d:Of}{b:List Str}{a:List Lw}(h:a.length=1)(q:∀c,Rh d ⟨[c],[]⟩=pure (b.zip [c])):Rh d ⟨a,[]⟩=pure (b.zip a):=by obtain⟨_,rfl⟩:=L2.len1 h;exact q _
theorem ar2{d:Of}{b:List Str}{a:List Lw}(h:a.length=2)(q:∀c e,Rh d ⟨[c,e],[]⟩=pure (b.zip [c,e])):Rh d ⟨a,[]⟩=pure (b.zip a):=by obtain⟨_,_,rfl⟩:=L2.len2 h;exact q _ _
theorem ar3{e:Of}{c:List Str}{a:List Lw}(h:a.length=3)(q:∀d f b,Rh e ⟨[d,f,b],[]⟩=pure (c.zip [d,f,b])):Rh e ⟨a,[]⟩=pure (c.zip a):=by obtain⟨_,_,_,rfl⟩:=L2.len3 h;exact q _ _ _
theorem ar4{g:Of}{e:List Str}{b:List Lw}(h:b.length=4)(q:∀f i c d,Rh g ⟨[f,i,c,d],[]⟩=pure (e.zip [f,i,c,d])):Rh g ⟨b,[]⟩=pure (e.zip b):=by
 cases b with
 |nil=>cases h
 |cons a t=>
  obtain⟨_,_,_,rfl⟩:=L2.len3 (VQ h);exact q _ _ _ _
theorem bd_inner_count{K:Le}{D:LX}{j i k t:_}(q:K.lookup D=some ⟨.type "tuple",j,.seq #[.int 1 t] i,k⟩)(g c d:Lw)(f:Option LX)(h e:Lw):cm K (N0 "inner_count" "inner_count" (bY bQ) (bm bQ) (ai bQ) (.ref D) g c d f h e) ["land","k"] []∧∃t,cm K (N0 "inner_count" "inner_count" (bY bQ) (bm bQ) (ai bQ) (.ref D) g c d f h e) ["land","k"] [.int 1 t]:=
 ⟨λs a X b=>by obtain⟨_,_,rfl⟩:=L2.len2 (show a.length=2 by simpa using b);exact BindsTo.of_defaults rfl (X _ _ q) rfl rfl rfl,t,λs a X b=>by obtain⟨_,rfl⟩:=L2.len1 (show a.length=1 by simpa using b);exact BindsTo.of_defaults rfl (X _ _ q) rfl rfl rfl⟩
theorem bd_count{K:Le}{D:LX}{j i k t:_}(q:K.lookup D=some ⟨.type "tuple",j,.seq #[.int 1 t] i,k⟩)(g c d:Lw)(f:Option LX)(h e:Lw):cm K (N0 "count" "count" (bY fB) (bm fB) (ai fB) (.ref D) g c d f h e) ["land","k"] []∧∃t,cm K (N0 "count" "count" (bY fB) (bm fB) (ai fB) (.ref D) g c d f h e) ["land","k"] [.int 1 t]:=
 ⟨λs a X b=>by obtain⟨_,_,rfl⟩:=L2.len2 (show a.length=2 by simpa using b);exact BindsTo.of_defaults rfl (X _ _ q) rfl rfl rfl,t,λs a X b=>by obtain⟨_,rfl⟩:=L2.len1 (show a.length=1 by simpa using b);exact BindsTo.of_defaults rfl (X _ _ q) rfl rfl rfl⟩
theorem tm_ROWS{w:Mp}{K:Le}{h:OG}{D:Str→Option Lw}(X:K.In h)(G:h.Ns MY D){a:LX}{n:Nat}{E F v L S P H A Q C I J y N x M z O B R q u o k d l i j b r s t f g m e c p:Tok}(ta:PySem.W.nsIn K MY "ROWS"=some (some (.ref a)))(U:K.lookup a=some ⟨.type "dict",none,.dict #[⟨PyData.keyHash w.params "field",.str "field" E,.str "NEW P" F⟩,⟨PyData.keyHash w.params "move",.str "move" v,.str "NEW ONE A B C D E F" L⟩,⟨PyData.keyHash w.params "fold",.str "fold" S,.str "NEW ONE K" P⟩,⟨PyData.keyHash w.params "sum",.str "sum" H,.str "NEW ONE OTHER" A⟩,⟨PyData.keyHash w.params "form",.str "form" Q,.str "NEW ONE" C⟩,⟨PyData.keyHash w.params "facing",.str "facing" I,.str "NEW ONE" J⟩,⟨PyData.keyHash w.params "drop",.str "drop" y,.str "ONE" N⟩,⟨PyData.keyHash w.params "names",.str "names" x,.str "" M⟩,⟨PyData.keyHash w.params "show",.str "show" z,.str "ONE" O⟩,⟨PyData.keyHash w.params "area",.str "area" B,.str "ONE" R⟩,⟨PyData.keyHash w.params "rim",.str "rim" q,.str "ONE" u⟩,⟨PyData.keyHash w.params "count",.str "count" o,.str "ONE K" k⟩,⟨PyData.keyHash w.params "inner",.str "inner" d,.str "ONE K" l⟩,⟨PyData.keyHash w.params "mixed",.str "mixed" i,.str "ONE OTHER" j⟩,⟨PyData.keyHash w.params "share",.str "share" b,.str "ONE A B C" r⟩,⟨PyData.keyHash w.params "where",.str "where" s,.str "ONE P" t⟩,⟨PyData.keyHash w.params "tell",.str "tell" f,.str "ONE K P" g⟩,⟨PyData.keyHash w.params "alike",.str "alike" m,.str "ONE OTHER" e⟩,⟨PyData.keyHash w.params "thin",.str "thin" c,.str "ONE" p⟩] n,#[]⟩)(T:(a==Pu)=false):∃a,D "ROWS"=some (.ref a)∧zG w K a gL:=
 ⟨a,W8 X G ta,T,[("field",E,"NEW P",F),("move",v,"NEW ONE A B C D E F",L),("fold",S,"NEW ONE K",P),("sum",H,"NEW ONE OTHER",A),("form",Q,"NEW ONE",C),("facing",I,"NEW ONE",J),("drop",y,"ONE",N),("names",x,"",M),("show",z,"ONE",O),("area",B,"ONE",R),("rim",q,"ONE",u),("count",o,"ONE K",k),("inner",d,"ONE K",l),("mixed",i,"ONE OTHER",j),("share",b,"ONE A B C",r),("where",s,"ONE P",t),("tell",f,"ONE K P",g),("alike",m,"ONE OTHER",e),("thin",c,"ONE",p)],n,rfl,by decide+kernel,U⟩
abbrev spLaw(K:Le):Sp:=spU K j4
theorem law_start(K:Le)(H:Hp)(a:LX)(ns:List Int)(c:ns.length<=63)(d:∀m∈ns,Sz 1048576 m)(_:EG H)(b:SqL K H a (ns.map V.int)):spLaw K [.ref a] H (λv _=>v=.bl true) λ_ _ _=>False:=y6 c d b
theorem law_ok{P:LJ}{w:Mp}{K:Le}{a:Str→Option Lw}{e:LX}(b:a "law"=some (.ref e))(T:Txt w K a):
  ∃c:Of,(∀(s:LB) (u:Lw),W4 s c ⟨[u],[]⟩ [("script",u)])∧∀base:OG,K.In base→base.Ns MY a→cj P w K a base CX0 13 e c ["script"] (spLaw K):=by
 cases b.symm.trans T.abl.m;obtain⟨_,_,_,_,_,_,_,_,_,f,_⟩:=T.abl.F.ex;exact⟨T.abl.d,λs v=>by rw[f];exact .of_eq rfl,λbase _ _=>(Iz T).calm BF⟩
end My
structure PySem.W.Fast:Prop where(tw691192862780364224 tw8359802317305536580 tw9796970872377960546 tw14030475566200074155 tw8271395861711582536 tw17285572279486135532 tw6797345972440929957 tw7940468465079956932 tw8369051756251824345 tw10815252327702661703 tw13987996820614923924 tw12439848265802658789 tw18361457335076406650 tw6980746554801032227 tw6332205912241437066 tw10846250789467392062 tw2341786064582430537 tw6843446394218192024 tw7283843180450498986 tw12065605088548268100 tw648993854885903209 tw6056369106341751587 tw1818613478539861544 tw6984453826545299282 tw10322854601118625761 tw15236199497747725032 tw620160764499905915 tw18326673411709938402 tw4554022414690594443 tw8367876290913798326 tw1129630768123910809 tw13943749892232011866 tw12504826292608662240 tw12905720074289057275 tw13750370180328456888 tw6580463666478341056 tw9180867890918247831 tw3497771880092642021 tw16673057144520182208 tw15570291272778889964 tw3485631706984797266 tw6336659205166125461 tw2891749300240461468 tw18346824492422754068 tw8039737662605535454 tw15253060619809202344 tw3259878117735523981 tw16412558657167766250 tw14441301094750972491 tw6118158086855751977 tw13257528471844697512 tw8003910704846592424 tw15387708850887275738 tw12548279530738571639 tw14905625987506107885 tw9838561696592815345 tw18441412172411530369 tw9960533768032876611 tw11766408887187280984 tw11910997726614517955 tw12309535526626969335 tw4860637109990433736 tw17148564184088179549 tw168927291615180336 tw5269306065765391079 tw8076712770694070048 tw14665231354039232102 tw2450351242979512183 tw6378263216527163958 tw730756449302399402 tw13716189744249897577 tw16643685142728352863 tw3248696010447977864 tw17462055924385086558 tw2252422201861413747 tw16356477806738170998 tw3621961741534875889 tw18302748854493171106 tw14248478924689869122 tw3569113180343049415 tw10686784956962304026 tw18294147355806313531 tw10261533598095108047 tw9013246740643509788 tw8536416727837010620 tw142767110492162118 tw3807471925891203346 tw5471813030962974923 tw5561918994526401803 tw9586245485642204974 tw7329632216200847966 tw320497677714617777 tw2173451136158106425 tw18007404054213262824 tw15638473991143482774 tw1265119188900857564 tw14195554395078283789 tw6979643995675277247 tw12081885814302453077 tw1628769782906786906 tw9086661077542278523 tw2253805778089855661 tw6528663071524577709 tw10828732406206229332 tw4450751104639684591 tw12122308650775476336 tw15460028769070135979 tw3176518387868915964 tw6031998488816489040 tw4566016495979107585 tw13537477060714748671 tw11522943961523487488 tw6839285988032714671 tw14687708565538747767 tw13335166239711415260 tw7591426326334112892 tw6978005090757875184 tw16556844781368011222 tw11822023496849788032 tw16935188324023305181 tw5489391656203530727 tw15932183775706138141 tw6239447329858342537 tw13080280716708321730 tw9675416693926381306 tw12382346109006868866 tw11769379593048627619 tw6101173991456376743 tw223818839891319394 tw3834036882390151947 tw6375156214098707358 tw13964591374730916344 tw13798174519058940129 tw7849722960372291106 tw7219324107564557055 tw17840260067826115280 tw16270148165949922408 tw2347145640528896456 tw1340192419186596372 tw17193331544420265032 tw2075750655089258019 tw10104314036755996355 tw5631737689983105759 tw9411456014031565129 tw571209180993485797 tw2053203709192356832 tw16187476605473500461 tw64351230825097690 tw6531153100321011923 tw9198225972962392021 tw11601378559957166711 tw12153663378032178228 tw398614496879809050 tw14602907982337624802 tw566481440749003240 tw10618530633263936344 tw16156274281075908148 tw8710929544717871573 tw16685251579072584203 tw11023813385556705620 tw14410360256421127564 tw9097751657323357329 tw18390334577333269117 tw14078680698200905746 tw1754210194851949742 tw16489239972581765505 tw9283075185902461451 tw12790348874027152860 tw15937810548588223687 tw2835237746040850917 tw11917336297800813649 tw4709723324910395599 tw5429568654582499617 tw487904604884560904 tw10043630991287284567 tw1737780702310902848 tw11717437486886702024 tw12902371271198080368 tw5734312584677459428 tw3382773394108722285 tw1797533732220691836 tw15964070271486629714 tw18208781920516853488 tw9913822537782620691 tw3447132384884933404 tw12540136790172279821 tw1933342533467174056 tw6560472830626891869 tw13651488457603541453 tw7903119144496357867 tw7263117811860408072 tw6577876836692041014 tw16037417552603045182 tw7827044361571719996 tw5261412186942094865 tw8974200641771081825 tw6528663152635293850 tw5572404224651176231 tw7420374441854331699 tw14668735475522459021 tw12859180868545819790 tw12042239889560351466 tw15156584957721318690 tw1746069694634834150 tw6212042911676516398 tw4396298289032417180 tw10616410225366526813 tw15601145411995533527 tw3128327561201994818 tw16900922971426548897 tw1582507680037449641 tw15023325274419374964 tw8899134704520152081 tw15292853587520902386 tw11211643284892687498 tw2974339012541299142 tw833381049820958245 tw638030396780354451 tw2603111333882006599 tw15993093745633210107 tw753907929105593081 tw18206775697680492158 tw7773024673144922608 tw12597805479030033458 tw13020360682385722865 tw12363423315543138266 tw984475607227937062 tw1354732393452535785 tw5798633864831181358 tw18409909335632049972 tw8905648978922598051 tw10672409486408218882 tw9675973356098617088 tw15944127122750782004 tw6067128764460327717 tw5868507549854804258 tw15947703361745047035 tw2524524224907198417 tw15757407345159952904 tw5023382936499343192 tw9732179835347703945 tw4508640971692957437 tw1039059766719846295 tw13480148581551664061 tw14224809947643699196 tw4174380196574541963 tw11987164024119605441 tw4631922567546993421 tw4986575712415097936 tw13004861550416600287 tw6024765726145756016 tw18125463331685641811 tw6181657654860809799 tw4441386510832024621 tw11544176043672132003 tw16903674488570162580 tw9273586187223388362 tw10800709511228666401 tw9332404525553332826 tw9511289424261025154 tw15765644396309906423 tw8082691930575397522 tw13624113641604862592 tw4079185009980529163 tw7729613588010763847 tw15948579798785239173 tw13628875270036194443 tw6030796498340615844 tw8266296356748220435 tw10071845732060624532 tw15686384370984354789 tw4794244198487136705 tw15439399989476654850 tw13331798837988402510 tw1093098695264970887 tw6551957826595979863 tw16017549147605146263 tw6425144371628789006 tw4791072456458467189 tw16933992959611590860 tw9869791434533353081 tw8001967972688845531 tw6272774400293785309 tw5906329947102811790 tw17076112827045304632 tw10930206000610706655 tw8316718427017699068 tw8196592109777761333 tw17994368866654302262 tw10760193068794118548 tw17408001172316294721 tw9943374600846380632 tw790363928404548541 tw15220804126522629626 tw12829925083644131698 tw12667573594805809551 tw11221381250875656532 tw15878485022874110470 tw13613390508908290721 tw12328652183313926693 tw1719762072434256416 tw4839320202074566999 tw17565064911903153940 tw3561184051520624541 tw15645969068595965418 tw1136891925158531297 tw15227495839286212607 tw4746914869057144680 tw17370255419226198336 tw15038181225672342446 tw7484139813351452335 tw4961079148184985489 tw18385551207038864721 tw16845940915749116750 tw11848435531529398560 tw13170933999035969400 tw12893422217786648223 tw16499488882463537157 tw16948317739173930668 tw760301800723764867 tw14439112557712378518 tw9914899032152593439 tw3856374150341052082 tw3734472403386381437 tw17355288600786403118 tw9866185772831650449 tw5950976604156098903 tw14540829520252637320 tw4877387657381389564 tw15452922802936654753 tw12277913598514346999 tw8332504861792834083 tw7368444278671411367 tw16794864114304777953 tw11832421662718153472 tw10892013190042193016 tw15416995121434536674 tw4296708659436383968 tw13960833482939379564 tw12430514658305722344 tw16510842330047348402 tw3276091105936041075 tw594285056348368682 tw3442989019615568405 tw6927560154930143779 tw8317538300275970549 tw13438776299016035014 tw7689826799043958007 tw3679772553847456929 tw2856902667894081867 tw3315417979009784123 tw2249490040933244470 tw15441620777255317183 tw5598497484505773818 tw15136126164704111718 tw7854330729553708426 tw15244377749454126820 tw2498336130406476201 tw8486792895066121428 tw2285636858637139441 tw13873207157318150357 tw11127436240757371259 tw12283622926260051523 tw8010670048705958249 tw6802371309331143105 tw420130801060137319 tw5149213868575091452 tw121514790122658175 tw2582696376692103230 tw17822876827692980101 tw16190421282520792119 tw9652050578938986130 tw8712607650978107368 tw7097365940059957767 tw6046480681089986132 tw2280572328715043435 tw16395785114043011504 tw11699557537532782198 tw3716654277607576321 tw1223900785390070671 tw18224448736934206810 tw14749903103529899981 tw12950873383342536158 tw10273934304342325911 tw16029698248317179671 tw9951614647316910029 tw8453072955695479217 tw7644254103600702898 tw5812622357758909825 tw5616606428006472578 tw5184044541640692916 tw16730490842840898591 tw12522381350567266731 tw15162950628237137397 tw16227743081656968357 tw16184526534901515944 tw1540138640282767282 tw4905495987797733906 tw2253847756049447033 tw16351147679072191180 tw11067226396797110319 tw7291898741702907483 tw4253336542039460402 tw11801893528515683932 tw10056557697490880516 tw211646077322392782 tw10460839087658455947 tw9809365673094069953 tw5293860065575656834 tw5115253703388373758 tw10020935181654505588 tw17688887886867591448 tw4212642094279752369 tw822394570350677089 tw9859025911493975183 tw968937822473372397 tw9306317713767304209 tw9255688857423850420 tw9086342787448694481 tw9039379511224624572 tw8878644476544704821 tw8872064259002707952 tw8857762028824662089 tw8412921714796124867 tw8348822850931057654 tw7904339907796656501 tw6676857105611202844 tw5832235987098896684 tw5503936586247300384 tw5385058416465513286 tw4688721246994138052 tw4221345168403743415 tw4066770748780267478 tw3801427945358437854 tw3738447219138873058 tw3684194247223034982 tw3034082243358131162 tw2848642366285527216 tw2579466919173033388 tw2466672322988259133 tw2095408769909501044 tw18037662901031770612 tw1669049112900690511 tw16457564181471242867 tw16235198722041409459 tw14590281340649574781 tw14100492844756267223 tw13990861601127339144 tw13970766023536599251 tw13597155980362853414 tw13462080031405708136 tw13084032227803430476 tw12667375936545992485 tw12640599899945655108 tw12151412091576369019 tw11535663904123922012 tw10346387590795032916 tw10310713360099906295 tw9919414268601313733 tw4271737282905888999 tw15403864772403984892 tw14513009097852888069 tw13676025521007274249 tw7329888286389353476 tw1159412442111497152 tw253796012701328781 tw15249009838794161428 tw14600325177634382935 tw13847354118705447243 tw13539291264598299793 tw13483353039377904875 tw10924500699002851733 tw16577792446452707091 tw9580178154667952183 tw519667841469622081 tw9479808243073134537 tw10066137621112234767 tw2767039185950150323 tw3874117586630132713 tw12717773385914556903 tw5956916436121237139 tw14154946306786204031 tw12443903742344067540 tw9153200078126180908 tw7498489803400343705 tw6953295272098311300 tw4740555665547070905 tw3536705826925150417 tw3364143664128059217 tw16860758904836682438 tw16769104810975819320 tw16456255122471643185 tw14189101866657896434 tw13121911136274364869 tw9158450796637619097 tw9134983359017429621 tw8467944567357787022 tw6222779689871868085 tw5826082317462918722 tw3918306339489815202 tw17439162375776697290 tw1417334863314988408 tw11419071202231949677 tw5622391752813467157 tw11254152048315057431 tw17425870329177654946 tw7515618561608929276 tw16262862476456008290 tw6558145472196030720 tw5478229911781709288 tw10682416345909655205 tw17924969505148332358 tw10144963113207902866 tw7550663735671914067 tw4190597143340329345 tw4886973096765783532 tw4272995663341445916 tw15876081307272701412 tw836987666715999690 tw5096711191248428112 tw4775829416418628015 tw4588166767462152686 tw4343784222786098029 tw4221111151719627502 tw3972675656104090809 tw3746387651176681387 tw11282636572312022978 tw5739294492232915580 tw2431041082504289982 tw17052569432130545591 tw16898072755264508282 tw14334069083500593232 tw12551848872895295049 tw116901696882343225 tw11053653870045797209 tw7392192021067204927 tw6047567068442522714 tw12106138535009286926 tw5726634045768112662 tw5517870509810440418 tw2090578258581515049 tw18191741331624643733 tw17476935717770522464 tw15991774118875267995 tw14095236372301978565:0=0)
open PySem PySem.W PyProof.Rows L2
set_option maxRecDepth 100000 in
set_option maxHeartbeats 0 in
set_option maxHeartbeats 0 in
theorem PySem.Challenge.cw_stakefield_k83_whole_counts_by_text_holds : PySem.Challenge.rw_stakefield_k83_whole_counts_by_text.Holds := by
 w_on;o_law;k_head;(case hw=>w_witness2)
 k_fill
 refine L2.walk_ofB (l:=PySem.Challenge.rw_stakefield_k83_whole_counts_by_text) (n:=63) (k:=13) (x:="script") (CX:=CX0) (sp:=My.spLaw) rfl (by decide) rfl ⟨rfl,by decide,by decide⟩ (λw h Y=>by first |exact WD Y |exact PySem.W.km_in_of Y) ?F My.law_start (λ_ _ _ _ z=>z)
 case F=>
  intro w mg fa h KX G hmg
  refine' My.law_ok hmg ⟨_,L2.c_m KX G ?_,⟨?_,?_,?_,?_⟩,(id (α:=NR _ _ _=_) ?_),My.tm_ROWS KX G ?_ ?_ ?_,L2.dfn KX G (by walk_at"b1") ?_ ?_ ?_ ?_,L2.dfn KX G (by walk_at"b1") ?_ ?_ ?_ ?_,L2.dfn KX G (by walk_at"b2") ?_ ?_ ?_ ?_,L2.dfn KX G (λ_ _ _ _ _ _ _ h=>My.ar4 h λ_ _ _ _=>rfl) ?_ ?_ ?_ ?_,L2.dfn KX G (by walk_at"b1") ?_ ?_ ?_ ?_,L2.dfn KX G (by walk_at"b1") ?_ ?_ ?_ ?_,L2.dfn KX G (by walk_at"b1") ?_ ?_ ?_ ?_,L2.dfn KX G (by walk_at"b2") ?_ ?_ ?_ ?_,L2.dfn KX G (by walk_at"b2") ?_ ?_ ?_ ?_,L2.dfn KX G (by walk_at"b2") ?_ ?_ ?_ ?_,L2.dfn KX G (by walk_at"b3") ?_ ?_ ?_ ?_,L2.dfn KX G (by walk_at"b1") ?_ ?_ ?_ ?_,L2.dfn KX G (by walk_at"b1") ?_ ?_ ?_ ?_,L2.dfn KX G (by walk_at"b1") ?_ ?_ ?_ ?_,L2.dfn KX G (by walk_at"b1") ?_ ?_ ?_ ?_,L2.dfn KX G (by walk_at"b1") ?_ ?_ ?_ ?_,L2.dfn KX G (by walk_at"b2") ?_ ?_ ?_ ?_,L2.dfn KX G (by walk_at"b2") ?_ ?_ ?_ ?_,L2.dfn KX G (by walk_at"b2") ?_ ?_ ?_ ?_,L2.dfn KX G (by walk_at"b1") ?_ ?_ ?_ ?_,L2.dfn KX G (by walk_at"b2") ?_ ?_ ?_ ?_,L2.dfn KX G (by walk_at"b2") ?_ ?_ ?_ ?_,L2.dfn KX G (by walk_at"b2") ?_ ?_ ?_ ?_,L2.dfn KX G (by walk_at"b2") ?_ ?_ ?_ ?_,L2.dfn KX G (by walk_at"b2") ?_ ?_ ?_ ?_,L2.dfn KX G (by walk_at"b1") ?_ ?_ ?_ ?_,L2.dfD KX G My.bd_inner_count ?_ ?_ ?_ ?_ ?_,L2.dfD KX G My.bd_count ?_ ?_ ?_ ?_ ?_,L2.dfn KX G (λ_ _ _ _ _ _ _ h=>My.ar4 h λ_ _ _ _=>rfl) ?_ ?_ ?_ ?_,L2.dfn KX G (by walk_at"b3") ?_ ?_ ?_ ?_,L2.dfn KX G (by walk_at"b3") ?_ ?_ ?_ ?_,L2.dfn KX G (λ_ _ _ _ _ _ _ h=>My.ar4 h λ_ _ _ _=>rfl) ?_ ?_ ?_ ?_,L2.dfn KX G (by walk_at"b1") ?_ ?_ ?_ ?_,L2.dfn KX G (by walk_at"b1") ?_ ?_ ?_ ?_,L2.dfn KX G (by walk_at"b1") ?_ ?_ ?_ ?_,L2.dfn KX G (by walk_at"b1") ?_ ?_ ?_ ?_,L2.dfn KX G (by walk_at"b1") ?_ ?_ ?_ ?_,L2.dfn KX G (by walk_at"b1") ?_ ?_ ?_ ?_,L2.dfn KX G (by walk_at"b1") ?_ ?_ ?_ ?_,L2.dfn KX G (by walk_at"b1") ?_ ?_ ?_ ?_,L2.dfn KX G (by walk_at"b1") ?_ ?_ ?_ ?_,L2.dfn KX G (by walk_at"b1") ?_ ?_ ?_ ?_,L2.dfn KX G (by walk_at"b1") ?_ ?_ ?_ ?_,L2.dfn KX G (by walk_at"b2") ?_ ?_ ?_ ?_,L2.dfn KX G (by walk_at"b2") ?_ ?_ ?_ ?_,L2.dfn KX G (by walk_at"b2") ?_ ?_ ?_ ?_,L2.dfn KX G (by walk_at"b2") ?_ ?_ ?_ ?_,L2.dfn KX G (by walk_at"b3") ?_ ?_ ?_ ?_,L2.dfn KX G (by walk_at"b1") ?_ ?_ ?_ ?_,L2.dfn KX G (by walk_at"b1") ?_ ?_ ?_ ?_,L2.dfn KX G (by walk_at"b1") ?_ ?_ ?_ ?_,L2.dfn KX G (by walk_at"b1") ?_ ?_ ?_ ?_,L2.dfn KX G (by walk_at"b1") ?_ ?_ ?_ ?_,L2.dfn KX G (by walk_at"b1") ?_ ?_ ?_ ?_,L2.dfn KX G (by walk_at"b1") ?_ ?_ ?_ ?_,L2.dfn KX G (by walk_at"b2") ?_ ?_ ?_ ?_,L2.dfn KX G (by walk_at"b1") ?_ ?_ ?_ ?_,L2.dfn KX G (by walk_at"b1") ?_ ?_ ?_ ?_,L2.dfn KX G (by walk_at"b2") ?_ ?_ ?_ ?_,L2.dfn KX G (by walk_at"b2") ?_ ?_ ?_ ?_,L2.dfn KX G (by walk_at"b2") ?_ ?_ ?_ ?_,L2.dfn KX G (by walk_at"b1") ?_ ?_ ?_ ?_,L2.idf (by walk_at"b1") ?_ ?_ ?_ ?_ ?_ ?_ ?_,L2.mdf (by walk_at"b3") ?_ ?_ ?_ ?_ ?_,L2.mdf (by walk_at"b3") ?_ ?_ ?_ ?_ ?_,L2.mdf (by walk_at"b2") ?_ ?_ ?_ ?_ ?_,Ml KX G ?_,Ml KX G ?_,Ml KX G ?_,Ml KX G ?_,Ml KX G ?_,Ml KX G ?_,Ml KX G ?_,Ml KX G ?_,Ml KX G ?_,Ml KX G ?_,Ml KX G ?_,Ml KX G ?_,Ml KX G ?_,Ml KX G ?_,Ml KX G ?_,Ml KX G ?_,Ml KX G ?_,L2.g_s KX G ?_,L2.g_i KX G ?_,L2.g_i KX G ?_,L2.g_i KX G ?_,L2.g_i KX G ?_⟩
  all_goals try first |k_is | (dsimp only[L2.exn];first |k_is |k_exc |kit_is) |rfl
