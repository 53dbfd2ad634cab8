import PyProof.Rows.All
import Wide.All
import OpenK.AllK
import Wide.FinOn
import Lean
import PyProof.EqAt
import PyProof.EqKinds
import PyProof.NeKinds
import PyProof.TupleCall
import KE.KDictSum
import KE.KSortTup
import KE.KRevIter
import KE.KRevSl
import PySem.Challenge.RW_stakefield_k81_whole_told_by_text
set_option compiler.extract_closed false
theorem w40(h:0=0:=by rfl):0=0:=h
def w4:=w40._auto_1
theorem v00(h:0=0:=by decide):0=0:=h
def v0:=v00._auto_1
theorem v30(h:0=0:=by first |exact Or.inl rfl |exact Or.inr (Or.inl rfl) |exact Or.inr (Or.inr rfl)):0=0:=h
def v3:=v30._auto_1
theorem q00(h:0=0:=by first |exact .inl rfl |exact .inr rfl |assumption):0=0:=h
def q0:=q00._auto_1
theorem q40(h:0=0:=by intro _;rfl):0=0:=h
def q4:=q40._auto_1
theorem q50(h:0=0:=by first |exact j5 _ |with_unfolding_all rfl):0=0:=h
def q5:=q50._auto_1
theorem q70(h:0=0:=by intro _ _;rfl):0=0:=h
def q7:=q70._auto_1
theorem k00(h:0=0:=by with_unfolding_all rfl):0=0:=h
def k0:=k00._auto_1
theorem k40(h:0=0:=by first |decide | (simp only[Lk,OT];decide)):0=0:=h
def k4:=k40._auto_1
open List renaming length_map->KI,getElem?_eq_getElem->KJ,mem_cons_of_mem->KN,mem_cons->KO,mem_map->KZ,mem_cons_self->K0,getElem?_map->K5,mem_singleton->K9,getElem?_eq_some_iff->K_,map_cons->Lb,map_map->Lh,size_toArray->Lj,length_cons->Lk,mem_reverse->Ll,mem_of_getElem?->Lo,getElem?_append_left->Lp,getElem?_append_right->Lq,getD_eq_getElem?_getD->Lr,pairwise_cons->Lu,mem_append_right->Lv,getElem?_set_ne->Lw,mem_range->Lx,not_mem_nil->Ly,mem_iff_getElem?->Lz,length_append->LB,replicate->LD,length_pos_iff->LF,mem_append->LG,mem_append_left->LI,getElem?_eq_none->LJ,map_append->LO,range->LP,mem_map_of_mem->LU,mem_filter->LW,pairwise_map->LY,pairwise_iff_getElem->L0,length_reverse->L3,sum_cons->Mg,getLast?_eq_getElem?->Mn,length_pos_of_mem->Mp,length_dropLast->Mz,replicate_succ->ME,foldl_cons->MF,getElem?_reverse->MJ,getElem?_replicate->MP,getElem?_cons_succ->MQ,getLast?_cons_cons->MT,perm_ext_iff_of_nodup->MU,length_eq_one_iff->MV,getElem?_take_of_lt->M9,length_replicate->M_,append_nil->Nj,length_eq_zero_iff->Nk,zip_cons_cons->Np,map_reverse->Nt,take_of_length_le->Nv,head?_eq_getElem?->Ny,getElem?_range->NC,map_congr_left->NI,nodup_cons->NN,find?_cons->NP,dropLast_concat_getLast->N0,flatten_cons->N5,ext_getElem?->N8,filterMap_cons->Ob,take_length->Of,map_nil->Og,getElem?_drop->Oh,length_filter_le->Om,drop_eq_getElem_cons->Oo,tail_cons->Ou,mem_of_getLast?->Ow,nodup_append->OC,lookup_cons->OH,all_eq_true->OJ,cons_append->OK,take_succ->OM,getElem?_dropLast->ON,length_set->OS,length_nil->OT,getElem?_toArray->OU,take_append_drop->OV,pairwise_reverse->O6,any_cons->O8,append_assoc->O9,mem_of_head?->Pc,getElem?_inj->Pd,mem_take_iff_getElem->Pi,getElem_mem->Po,lookup->Pr,length->Pu,zipWith->PJ,forIn_cons->PR,range_succ->PY,pairwise_singleton->PZ,drop_eq_nil_of_le->P5,reverse_cons->Qb,getLast?_map->Qd,getLast?_reverse->Qm,length_take->Qp,getElem?_zipWith_eq_some->Qq,all_cons->Qw,of_mem_zip->QC,getElem_of_mem->QD,length_zipWith->QG,filter_sublist->QK,nodup_iff_pairwise_ne->QM,perm_append_singleton->QN,exists_cons_of_ne_nil->QP,mem_filterMap->QR,take_zero->Q1,forIn_nil->Q2,head?_map->Q4,exists_mem_of_ne_nil->Q5,getElem?_set->Ra,Perm->Re,zip_nil_left->Rg,foldl_append->Rh,map_dropLast->Ri,filter_cons_of_pos->Ry,filter_cons_of_neg->Rz,getElem_inj->RB,filter_cons->RE,nodup_range->RF,perm_middle->RI,getElem?_set_self->RM,pairwise_lt_range->RR,length_singleton->R6,nil_append->R7,zip->SK,mem_iff_getElem->SN,dropLast_subset->SQ,reverse_reverse->SR,drop_zero->S2,take_succ_cons->S7,filterMap_map->Tj,head?_reverse->Tz,filter_append->TF,take_sublist->TX,length_range->T5,all_map->Um,mem_flatten->UI,head?_cons->U6,sum_append->Vb,nodup_nil->Vo,foldl->Vw,map_take->VI,map_drop->VJ,toArray->VT,Sublist->V3,range'->Wh,map_id->Wj,sum->Wr
open PySem renaming wpAny_bind->KL,wpAny_pure->KY,Value->K3,starEach->K7,Shared->K8,boot_len->Ld,Program->Lg,Addr->Lm,wpAny->LH,World->LL,model->LM,compareOp->LX,Around->L7,mainGlobals->Mi,wpAny_Call_Name_kw->Ml,wpAny_truthy_bool->Mr,foldedSetIterable->Ms,intKind_is->Mt,sizeLine_eq->MA,attributeBase->MC,argBest->MK,wpAny_holding->MS,codeAny_builtin->MY,plainId_quiet->M0,wpAny_call_entry->M3,backTo->M4,mem_of_lookup->M5,bootBuiltins->M7,FuncData->Ng,Heap->Nh,wpAny_updateSeq->Nn,eval->Nq,Stmt->Nz,wpAny_pyIter_list->NA,wpAny_setState_of->NG,behindInMarks->NJ,wpAny_seqItems->NL,builtinLookup_eq_fast->NO,keywordEach->NT,wpAny_isInstance->NV,swapsWith->NX,cLine->NZ,wpAny_newObj_type->N4,wpAny_tupleItemsOf->Oj,wpAny_tryCatch->Os,sysModules->Ox,wpAny_mono->Oy,wpAny_passesOwn->Oz,wpAny_specialOf->OB,wpAny_eqBool_tuple->OO,Keyword->OR,typeLookup_type->OW,wpAny_ite_split->OX,wpAny_letGo->OY,wpAny_richCompare_same_room->OZ,call_meets->O_,binaryOp->Pk,backToKw->Pl,wpAny_askSetting->Pp,assignEach->Pv,codeAny_mono->Px,typeIs_int->Pz,codeAny->PM,wpAny_callSpecial?_slot->PV,wpAny_rule->P7,sliceBounds->P9,ofAClassStatement->P_,valueAt->Qc,bindArgs->Qg,isSubtype_type->Qj,isSubtype_tuple_tuple->Qk,intKind->Qn,wpAny_pyNext_zip_end->Qu,GenState->Qv,wpAny_execs_nil->QA,wpAny_setEntries_of->QE,richCompare->QI,tupleKind_room_in1->QV,wpAny_getItem_list_slice->Q_,seqItems?->Rc,richCompare_gives->Rf,swapsWithSole->Rl,swappedStores->Rm,setSearchFrom->Ro,strIterType->Rt,rawInt->RC,wpAny_forIn_list->RH,wpAny_pyIter_zip->RK,wpAny_nextOf_list_item->RS,wpAny_isTrue_Compare1->RW,holding->RX,PassesOwn->RY,letOwnedTupleGo->RZ,getMethod->R3,wpAny_eqIsQuiet_tuple->Sa,wpAny_pyNext_zip_item->Sj,wpAny_nextOf_list_end->Sm,strValues->Su,NameKind->SI,typeLookup->SJ,pyNext->SW,wpAny_setField->SZ,isSubtype_stop->S0,intText?->S1,subscripted->S3,hashByValue->S4,wpAny_of_eq->S5,wpAny_field->S6,tupleKind->S9,Scope->S_,assignInOrder->Ta,wpAny_standAt->Tc,wpAny_pyIter_range->Td,evalPart_none->Tg,pickOrder->Tp,wpAny_attempt->Tq,call_function_tree->Tr,wpAny_newList->Tv,wpAny_assign_Name->TJ,getItem->TY,callerA->T3,wpAny_storeSet_of->T4,wpAny_pyIter_slot->T7,Within->Ue,pyIter->Uh,wpAny_typeOf->Uq,wpAny_execs_cons->Ut,wpAny_getItem_of->UD,ZipApart->UK,standAt->UO,IsRangeIter->UP,lastMarks->UQ,Result->UR,cellsFrom->UT,putSet_of->UZ,codeAny_of_tree->U0,updateSeq->U2,wpAny_bindName->Vc,recursionLimit->Vd,entryFor_alias->Vg,wpAny_fieldsOf->Vh,wpAny_newTuple->Vi,numbered_texts->Vj,wpAny_notIn_of->Vk,intText_digits->Vq,builtinsNs->Vt,wpAny_Name->Vu,wpAny_call->Vv,closureFor->Vx,IsPair->Vy,isInstance->Vz,bindName->VA,BindsTo->VB,callWith->VC,JoinOk->VU,atKey->VW,CmpOp->V_,bindL->Wb,bindC->Wc,revObj->Wq,call->Wv
open PySem.W renaming Frag->KM,mg_none_of->LV,kia_one->Mw,emptyDict->M8,findIn->Ni,keepIn->NK,fnOf->N1,instObj->Oa,cellsFrom_some->P1,kitOne->Qf,codeIn->Qh,plainGet->Qo,plainGet_of->QB,lookIn->QZ,methodObj->Q6,hasDictIn->Q7,kitx_list->Q8,takerIn->R5,kitx_tuple->Te,callWith_K->Tf,plainOver->TU,kitx_dict->TV,isFn->Ui,handedIn->Uu,makesIn->US,OpenLaw->UW,kIn_of->Ve,mg_of->VF,WalkO->VG
open PySem.Heap renaming get?_push_of_some->KU,lt_size->Lc,get?_push_size->Le,get?_update_other->LZ,get?_update_self->Me,size_push->MM,SameBut->OD
open Nat renaming le_refl->K1,le_of_lt->La,lt_of_lt_of_le->Ls,ne_of_lt->LA,lt_or_eq_of_le->LC,lt_irrefl->LS,mod_eq_of_lt->Mc,lt_succ_self->Mf,le_trans->Mh,zero_le->Mm,le_of_lt_succ->Mx,lt_of_le_of_lt->MD,lt_trans->MG,lt_or_ge->Nr,lt_succ_of_lt->ND,mod_lt->NF,le_add_right->NU,pow_succ->N2,lt_trichotomy->N6,mul_le_mul_right->Ov,le_of_not_lt->Pm,ne_of_gt->Pw,pow_le_pow_right->Qs,add_le_add_left->QH,eq_zero_or_pos->QU,succ_add_eq_add_succ->Rb,div_div_eq_div_mul->RQ,le_of_succ_le_succ->RU,not_lt_zero->R9,mod_add_mod->R_,le_antisymm->Ss,mod_self->Sy,toDigits->SF,one_mul->S8,mod_eq_sub_mod->Tn,mod_mod_of_dvd->To,add_sub_cancel->Tx,lt_of_succ_lt->T9,lt_of_succ_le->Ub,lt_succ_of_le->Uc,add_mod_right->Ud,add_comm->Uk,mul_comm->Ul,le_max_right->Uv,succ_ne_self->Uy,not_lt_of_gt->Uz,min_le_right->UB,min_eq_right->UC,lt_of_not_le->UG,succ_le_succ->UJ,le_max_left->UU,log2_lt->UV,strongRecOn->UY,min_eq_left->U3,one_ne_zero->U7,add_mul->Va,mul_le_mul->Vs,digitChar->VO,le_of_eq->VQ,add_zero->VR,sub_self->VY,zero_mod->VZ,gcd_comm->V5,le_succ->Wa,pow_add->Wf,add_mod->Wg
open Array renaming length_toList->Li,getElem?_toList->L4,getD_eq_getD_getElem?->MH,getElem?_eq_getElem->NM,getD->N7,getElem?_eq_some_iff->Od,getElem?_replicate->PH,mem_toList_iff->Qr,foldl_toList->QS,forIn_toList->QT,toList_inj->RJ,toList->Ug,toList_map->Uw,size_map->Vf
open Bool renaming false_eq_true->Ln,false_ne_true->Mj,and_eq_true->MN,not_true->MR,not_false->On,eq_iff_iff->OA,true_and->OF,and_eq_true_iff->Qt,beq_eq_decide_eq->R8,and_false->SX,eq_false_iff->T_,or_eq_true->UX,or_false->VD,false_or->VH
open Int renaming mul_nonneg->LK,mul_eq_zero->LR,mul_pos->L5,dvd_trans->L6,lt_or_eq_of_le->L8,lt_or_le->L9,dvd_mul_left->L_,eq_of_mul_eq_mul_left->Ma,mul_nonpos_of_nonneg_of_nonpos->Mb,pos_of_mul_pos_right->Mu,eq_of_sub_eq_zero->ML,mul_neg_of_neg_of_pos->MZ,one_mul->M6,zero_mul->Na,mul_ediv_cancel_left->Nb,le_of_lt->Nc,mul_zero->Nd,sub_pos_of_lt->Nf,ne_of_gt->Nu,toNat_natCast->NH,mul_comm->NQ,nonneg_of_mul_nonneg_right->NR,le_trans->NS,mul_le_mul_of_nonneg_left->NW,dvd_mul_right->N9,emod_add_mul_ediv->Ol,gcd->Ot,emod_lt_of_pos->OP,dvd_add->O4,le_of_eq->O7,gcd_dvd_right->Pb,mul_lt_mul_of_pos_left->Pf,natAbs_of_nonneg->Pg,mul_ediv_cancel'->Ph,mul_neg_of_pos_of_neg->Pj,gcd_dvd_left->Pq,emod_nonneg->PX,le_refl->Qe,natAbs_mul->Qi,natAbs_dvd_natAbs->Ql,lt_irrefl->Qy,dvd_sub->QJ,dvd_refl->QW,mul_one->Rn,dvd_neg->Ru,mul_neg->Rw,dvd_mul_of_dvd_left->RA,max_eq_right->RL,le_ediv_iff_mul_le->RV,dvd_coe_gcd->Sv,le_total->Sw,min_eq_left->Sx,sub_self->SA,le_antisymm->SB,sub_zero->SD,ediv_one->SE,le_of_sub_nonneg->SU,sub_nonneg_of_le->SV,add_sub_cancel->TC,zero_dvd->Us,dvd_antisymm->UE,ediv_le_self->UF,sub_left_inj->UH,sub_mul->U8,sub_nonneg->Vp,mul_assoc->VM,ofNat_dvd->VN,dvd_zero->VX,add_comm->V0,add_zero->V1,ne_of_lt->V2,sub_sub->Wk,mul_sub->Wl,add_mul->Wm
open Option.some renaming inj->LN
open PySem.Value renaming ref->LQ,type->N3,none->Oe,int->OQ,isInt_shape->P6,str->Qz,isStrOf->Rj,bool->SH,float->UN,isInt->V8,bytes->V9
open Classical renaming byContradiction->Md,choose_spec->Si,choose->Ux
open Prod renaming ext->Mo,fst->Qx,snd->QX
open PySem.Around renaming under_plainId->Mq,under->Uj
open PySem.F renaming plain_min_loop->MW,plain_max_loop->MX,called_set->Nl,slot_str_split->Nw,plainAttrs_str->Oc,plain_extend_loop->Oq,entry_str_split->OG,args_str_split_2->PL,plainAttrs_list->PU,entry_min_loop->P3,entry_max_loop->P4,slot_str_partition->QO,slot_dict_getitem->Q3,type_str_split->RT,plain_set_new->Sb,slot_set_iter->Sf,slot_zip_next->Sk,slot_tuple_le->So,slot_tuple_lt->Sq,slot_tuple_gt->Sr
open Option renaming map_eq_some_iff->Nx,getD_some->Pn,isSome_iff_exists->Py,getD_none->RD,isSome_map->Ua,map_some->U9,none->We,map->Ww
open PySem.Obj renaming mapSeq->NB,data_mapFields->Oi,putSet->Qa,isFreed_of_fields->Sg,cls_mapFields->T8
open ToString renaming toString->NY
open List.Pairwise renaming map->N_,nil->Pa,imp_of_mem->PF,sublist->V6
open PySem.Heap.SameBut renaming update->OE,refl->T6
open PyProof.Rows renaming boot_isinstance->O5,boot_list->QF,assignInOrder_cons->QQ,boot_str->QY,envOfC->Q9,AllBare->Rk,boot_int->Rv,boot_sum->Rx,subscriptTail_builtinR->RN,tuples'->Sh,IsTup->SL,subscriptTail->Ti,seqObj->Ts,listUpdate_at->Tu,boot_min->TH,assignInOrder_nil->TM,boot_range->TN,Subscript_->TZ,Keyed->UA,SortKind->UL,boot_max->UM,seqEpoch_at->U4,entry_list_sort->U5,digits10_le->U_,slot_list_sort->Vl,args_list_sort->Vm,sortedHeap_old->Vn,signs_ofString->Vr,IntsAre->VE,keyKind'->VL,bubble->VS
open List.Sublist renaming refl->Pe
open PySem.Calls renaming spliced_cons->PN,spliced_nil->P8,Name_function_global->QL,callWith_builtin->RO
open MonadExcept renaming tryCatch->Rq
open Prod.mk renaming injEq->Rr
open List.Perm renaming append_left->Se,refl->SY
open PySem.Heap.IsSliceOf renaming new->Th
open List.Nodup renaming length_le_of_subset->Uo
open Nat.succ renaming inj->Ur
open List.cons renaming injEq->U1,inj->VP
open PySem.W.KIN renaming signs_num->V4,val_back->V7
open PySem.W.Looks renaming here->Wn
open PySem.W.Dflts renaming none->Wo,noKw->Wp
open PySem.Within renaming cons->Wu
open PySem.Heap.DictOf renaming new->Wx
set_option hygiene false
set_option hygiene true
set_option hygiene false
local macro_rules|`(tactic|walk_at"sC")=>`(tactic|exact⟨rfl,rfl,rfl,by decide+kernel,rfl,by decide+kernel,by decide+kernel⟩)
local macro_rules|`(tactic|walk_at"b1")=>`(tactic|exact λ_ _ _ _ _ _ _ h=>My.ar1 h λ_=>rfl)
local macro_rules|`(tactic|walk_at"b2")=>`(tactic|exact λ_ _ _ _ _ _ _ h=>My.ar2 h λ_ _=>rfl)
local macro_rules|`(tactic|walk_at"b3")=>`(tactic|exact λ_ _ _ _ _ _ _ h=>My.ar3 h λ_ _ _=>rfl)
set_option hygiene true
set_option maxHeartbeats 8000000
set_option Elab.async false
set_option linter.all false
set_option maxRecDepth 100000
namespace L2
open PySem PySem.Spec PyProof.Rows
abbrev Key:=Sum Int Str
def oR:Key->K3->Bool
 | .inl k,v=>V8 k v
 | .inr x,v=>Rj x v
def J9(w:LL):Key->Int
 | .inl k=>hashInt k
 | .inr x=>hashStr w x
theorem b7:∀{k:Key}{v:K3},oR k v=true->(∃i t,k=Sum.inl i/\v=OQ i t)\/(∃x t,k=Sum.inr x/\v=Qz x t)
 | .inl i,v,h=>by
  obtain⟨t,e⟩:=P6 (k:=i) (v:=v) h;exact .inl ⟨i,t,rfl,e⟩
 | .inr x,v,h=>by
  obtain⟨t,e⟩:=Value.isStrOf_shape (x:=x) (v:=v) h;exact .inr ⟨x,t,rfl,e⟩
theorem Ak(i:Int)(t:Tok):oR (.inl i) (.int i t)=true:=by simp[oR,V8]
theorem y8(x:Str)(t:Tok):oR (.inr x) (.str x t)=true:=by simp[oR,Rj]
theorem G7(a b:Int):decide ((Sum.inl a:Key)=Sum.inl b)=(a==b):=by
 by_cases e:a=b
 .subst e;simp
 .have h:¬ (Sum.inl a:Key)=Sum.inl b:=λq=>e (Sum.inl.inj q);rw[decide_eq_false h];exact (beq_eq_false_iff_ne.mpr e).symm
theorem H_(a b:Str):decide ((Sum.inr a:Key)=Sum.inr b)=decide (a=b):=by
 by_cases e:a=b
 .subst e;simp
 .have h:¬ (Sum.inr a:Key)=Sum.inr b:=λq=>e (Sum.inr.inj q);rw[decide_eq_false h,decide_eq_false e]
theorem Ib(a:Int)(b:Str):decide ((Sum.inl a:Key)=Sum.inr b)=false:=decide_eq_false (λq=>nomatch q)
theorem Gf(a:Str)(b:Int):decide ((Sum.inr a:Key)=Sum.inl b)=false:=decide_eq_false (λq=>nomatch q)
noncomputable def cW(prog:Lg)(w:LL):PySem.KeyKind prog w Key where
 is:=oR
 hash:=J9 w
 inj:=λv a b g d=>by
  rcases b7 g with ⟨i,t,rfl,rfl⟩ |⟨x,t,rfl,rfl⟩
  .rcases b7 d with ⟨j,u,rfl,e⟩ |⟨y,u,rfl,e⟩
   .injection e with e1 _;rw[e1]
   .exact nomatch e
  .rcases b7 d with ⟨j,u,rfl,e⟩ |⟨y,u,rfl,e⟩
   .exact nomatch e
   .injection e with e1 _;rw[e1]
 byValue:=λk v h=>by
  rcases b7 h with ⟨i,t,rfl,rfl⟩ |⟨x,t,rfl,rfl⟩ <;>rfl
 pyHash:=λc h=>by
  rcases b7 c with ⟨i,t,rfl,rfl⟩ |⟨x,t,rfl,rfl⟩
  .exact wpAny_pyHash_int h
  .exact wpAny_pyHash_str h
 eqBool:=λf c h=>by
  rcases b7 f with ⟨i,t,rfl,rfl⟩ |⟨x,t,rfl,rfl⟩
  .rcases b7 c with ⟨j,u,rfl,rfl⟩ |⟨y,u,rfl,rfl⟩
   .rw[G7]at h;exact wpAny_eqBool_int h
   .rw[Ib]at h;exact SeqAt.EqAt.int_str i t y u _ _ _ _ h
  .rcases b7 c with ⟨j,u,rfl,rfl⟩ |⟨y,u,rfl,rfl⟩
   .rw[Gf]at h;exact SeqAt.EqAt.str_int x t j u _ _ _ _ h
   .rw[H_]at h;exact wpAny_eqBool_str h
 «strs»:=λk x t v h=>by
  rcases b7 h with ⟨i,u,rfl,e⟩ |⟨y,u,rfl,e⟩
  .exact nomatch e
  .injection e with e1 _;subst e1;cases v <;>rfl
theorem sH(prog:Lg)(w:LL)(i:Int)(t:Tok):(cW prog w).is (.inl i) (.int i t)=true:=Ak i t
theorem ua(prog:Lg)(w:LL)(x:Str)(t:Tok):(cW prog w).is (.inr x) (.str x t)=true:=y8 x t
inductive V where
 |non |bl (b:Bool) |int (i:Int) |str (x:Str) |byt (b:Array UInt8) |flt (b:UInt64) |ref (a:Lm) |ty (n:String)
 deriving DecidableEq
def aR:V->K3->Prop
 | .non,u=>u=Oe
 | .bl b,u=>u=SH b
 | .int i,u=>∃t,u=OQ i t
 | .str x,u=>∃t,u=Qz x t
 | .byt b,u=>∃t,u=V9 b t
 | .flt b,u=>∃t,u=UN b t
 | .ref a,u=>u=LQ a
 | .ty n,u=>u=N3 n
abbrev aS:List V->List K3->Prop:=Paired aR
theorem aS.length{xs:List V}{us:List K3}(r:aS xs us):xs.length=us.length:=Paired.length r
theorem aS.get:∀{a:List V}{b:List K3}{i:Nat}{x:V},aS a b->a[i]?=some x->∃u,b[i]?=some u/\aR x u
 |_,_,_,_,.nil,e=>by simp at e
 |_,_,0,_,.cons r _,e=>by simp at e;subst e;exact⟨_,rfl,r⟩
 |_,_,i+1,x,.cons _ t,e=>by
  obtain⟨u,d,c⟩:=aS.get (i:=i) (x:=x) t (by simpa using e);exact⟨u,by simpa using d,c⟩
theorem aS.append:∀{c a:List V}{d b:List K3},aS c d->aS a b->aS (c++a) (d++b)
 |_,_,_,_,.nil,s=>s
 |_,_,_,_,.cons r t,s=>.cons r (aS.append t s)
theorem aS.take:∀{a:List V}{b:List K3} (n:Nat),aS a b->aS (a.take n) (b.take n)
 |_,_,0,_=>.nil
 |_,_,_+1,.nil=>.nil
 |_,_,n+1,.cons r t=>.cons r (aS.take n t)
theorem aS.drop:∀{a:List V}{b:List K3} (n:Nat),aS a b->aS (a.drop n) (b.drop n)
 |_,_,0,r=>r
 |_,_,_+1,.nil=>.nil
 |_,_,n+1,.cons _ t=>aS.drop n t
def iJ:Option V->Option K3->Prop
 |some v,some u=>aR v u
 |none,none=>True
 |_,_=>False
def KV{a:Type}:List (a×V)->List (a×K3)->Prop:=Paired λ(p:a×V) (q:a×K3)=>p.1=q.1/\aR p.2 q.2
def kV:Key->V
 | .inl i=>.int i
 | .inr x=>.str x
inductive HO where
 /-- a list -/
 |lst (xs:List V)
 /-- a tuple (never changes) -/
 |tup (xs:List V)
 /-- a dict whose keys are ints and texts;one whose keys are tuples of ints and texts (the empty one is both) -/
 |dK (WB:List (Key×V)) |dT (WB:List (List Key×V))
 /-- a set of ints:its members,its size -/
 |set (S:Int->Bool) (n:Nat)
 /-- an instance of the class at C,its dict at dx,its attributes -/
 |ins (C dx:Lm) (fs:List (Str×V))
 /-- the dict of the instance at x -/
 |own (x:Lm)
 /-- the dict of an exception -/
 |xd (fs:List (Str×V))
 /-- a bound method,f of x -/
 |met (f x:Lm)
 /-- a range object lo,lo+1,.. below hi -/
 |rng (lo hi:Int)
 /-- a thing that is known to the object (the script;a dict while a loop walks it):read,never written while it is so -/
 |frz (o:Obj) (u:HO)
 /-- a code object's table -/
 |tbl (ps:Array K3)
 /-- any other thing,by what is true of its one object (a def of one's own:SetO a S n:=HO.ext λh=>..) -/
 |ext (φ:Nh->Prop)
abbrev Hp:=Lm->Option HO
def upd(H:Hp)(a:Lm)(o:HO):Hp:=λb=>if b=a then some o else H b
theorem aH{H:Hp}{a:Lm}{o:HO}:upd H a o a=some o:=by unfold upd;rw[if_pos rfl]
theorem aI{H:Hp}{a b:Lm}{o:HO}(h:b≠a):upd H a o b=H b:=by unfold upd;rw[if_neg h]
theorem IX{H:Hp}{a b:Lm}{o u:HO}(h:H a=some o)(h':H b=some u)(d:o≠u):a≠b:=by
 intro e;subst e;rw[h]at h';exact d (LN h')
theorem dg{H:Hp}{a b:Lm}{o:HO}(h:H a=some o)(h':H b=none):a≠b:=by
 intro e;subst e;rw[h]at h';cases h'
section
variable (P:Lg) (w:LL)
noncomputable def bR(H:Hp)(h:Nh)(a:Lm):HO->Prop
 | .lst xs=>xs.length≤sizeLine∧∃(its:List K3) (n:Nat),aS xs its∧h.get? a=some {cls:=.type "list",data:=.seq its.toArray n }
 | .tup xs=>xs.length<=sizeLine/\∃its:List K3,aS xs its/\SL h a its.toArray
 | .dK WB=>WB.length<=sizeLine/\(a==Ox)=false/\∃d,KV WB d/\h.DictOf (cW P w) a d
 | .dT WB=>WB.length<=sizeLine/\(a==Ox)=false/\∃xs:List (List Key×Lm×K3),
   Paired (λ(p:List Key×V) (q:List Key×Lm×K3)=>p.1=q.1/\H q.2.1=some (.tup (p.1.map kV))/\aR p.2 q.2.2) WB xs/\
   ∃o e j,h.get? a=some o/\o.ExactDict/\o.data=.dict e j/\e.toList=xs.map (entryOfKey (S9 (cW P w)))/\(xs.map (·.1)).Nodup
 | .set S n=>h.SetOf (Qn P w) a S n
 | .ins C c fs=>H c=some (.own a)/\fs.length<=1000/\c≠a/\h.get? a=some (Oa C c)/\
   ∃b,h.Ns1 c b/\(∀f,iJ (fs.lookup f) (b f))/\Ue b (fs.map (·.1))
 | .own _=>∃o,h.get? a=some o
 | .xd fs=>∃b,h.Ns1 a b/\∀f,iJ (fs.lookup f) (b f)
 | .rng lo k=>∃t u v,h.get? a=some {cls:=.type "range",data:=.fields #[.int lo t,.int k u,.int 1 v] }
 | .frz o u=>h.get? a=some o/\bR H h a u
 | .tbl ps=>h.get? a=some {cls:=.none,data:=.fields ps }
 | .met f x=>h.get? a=some (Q6 (.ref f) (.ref x))
 | .ext φ=>φ h/\(∃o,h.get? a=some o)/\∀i g:Nh,φ i->(∀o,i.get? a=some o->g.get? a=some o)->φ g
def HOk(H:Hp)(h:Nh):Prop:=∀a o,H a=some o->bR P w H h a o
end
section
variable {P:Lg}{w:LL}{H H':Hp}{h h':Nh}{a:Lm}{o:HO}
theorem bR.lt(x:bR P w H h a o):a<h.objs.size:=by
 cases o with
 |lst b=>obtain⟨_,_,_,_,e⟩:=x;exact Lc e
 |tup b=>obtain⟨_,_,_,p⟩:=x;exact p.lt
 |dK c=>obtain⟨_,_,_,_,o,_,_,e,_⟩:=x;exact Lc e
 |dT c=>obtain⟨_,_,_,_,o,_,_,e,_⟩:=x;exact Lc e
 |set S n=>obtain⟨o,_,_,_,e,_⟩:=x;exact Lc e
 |ins C i fs=>obtain⟨_,_,_,e,_⟩:=x;exact Lc e
 |own y=>obtain⟨_,e⟩:=x;exact Lc e
 |xd fs=>obtain⟨_,⟨_,_,_,e,_⟩,_⟩:=x;exact Lc e
 |rng l j=>obtain⟨_,_,_,e⟩:=x;exact Lc e
 |frz g u=>obtain⟨e,_⟩:=x;exact Lc e
 |tbl d=>exact Lc (show h.get? a=some _ from x)
 |met f y=>exact Lc (show h.get? a=some _ from x)
 |ext k=>obtain⟨_,⟨_,e⟩,_⟩:=x;exact Lc e
theorem Paired.mapP{α e:Type}{F G:α->e->Prop}:∀{c:List α}{d:List e},Paired F c d->(∀a b,F a b->G a b)->Paired G c d
 |_,_,.nil,_=>.nil
 |_,_,.cons r t,f=>.cons (f _ _ r) (Paired.mapP t f)
theorem bR.stay(x:bR P w H h a o)(k:∀b u,(b=a\/H b=some (.own a))->h.get? b=some u->h'.get? b=some u)
  (ho:∀b,H b=some (.own a)->H' b=some (.own a)) (ht:∀b l,H b=some (.tup l)->H' b=some (.tup l)):bR P w H' h' a o:=by
 induction o with
 |lst l=>obtain⟨z,its,n,r,e⟩:=x;exact⟨z,its,n,r,k _ _ (.inl rfl) e⟩
 |tup l=>obtain⟨z,its,r,g,e,c⟩:=x;exact⟨z,its,r,g,k _ _ (.inl rfl) e,c⟩
 |dK I=>obtain⟨z,y,G,r,g,j,i,e,c⟩:=x;exact⟨z,y,G,r,g,j,i,k _ _ (.inl rfl) e,c⟩
 |dT I=>
  obtain⟨z,y,l,r,g,j,i,e,c⟩:=x;exact⟨z,y,l,Paired.mapP r λp q z=>⟨z.1,ht _ _ z.2.1,z.2.2⟩,g,j,i,k _ _ (.inl rfl) e,c⟩
 |set S n=>obtain⟨g,j,i,t,e,c⟩:=x;exact⟨g,j,i,t,k _ _ (.inl rfl) e,c⟩
 |ins C J fs=>
  obtain⟨d,z,D,e,m,⟨s,j,i,E,c⟩,r⟩:=x;exact⟨ho _ d,z,D,k _ _ (.inl rfl) e,m,⟨s,j,i,k _ _ (.inr d) E,c⟩,r⟩
 |own y=>obtain⟨g,e⟩:=x;exact⟨g,k _ _ (.inl rfl) e⟩
 |xd fs=>obtain⟨m,⟨s,j,i,e,c⟩,r⟩:=x;exact⟨m,⟨s,j,i,k _ _ (.inl rfl) e,c⟩,r⟩
 |rng M K=>obtain⟨t,u,v,e⟩:=x;exact⟨t,u,v,k _ _ (.inl rfl) e⟩
 |frz g u F=>obtain⟨e,q⟩:=x;exact⟨k _ _ (.inl rfl) e,F q⟩
 |tbl A=>
  have e:h.get? a=some {cls:=.none,data:=.fields A }:=x;show h'.get? a=some {cls:=.none,data:=.fields A };exact k a _ (.inl rfl) e
 |met f y=>
  have e:h.get? a=some (Q6 (.ref f) (.ref y)):=x;show h'.get? a=some (Q6 (.ref f) (.ref y));exact k a _ (.inl rfl) e
 |ext L=>obtain⟨p,⟨o,e⟩,B⟩:=x;exact⟨B _ _ p λo q=>k _ _ (.inl rfl) q,⟨o,k _ _ (.inl rfl) e⟩,B⟩
theorem HOk.lt(x:HOk P w H h)(e:H a=some o):a<h.objs.size:=(x a o e).lt
theorem HOk.fresh(x:HOk P w H h)(e:h.objs.size<=a):H a=none:=by
 cases q:H a with
 |none=>rfl
 |some u=>exact absurd (Ls (x.lt q) e) (LS _)
theorem HOk.kept(x:HOk P w H h)(k:∀b u,h.get? b=some u->h'.get? b=some u):HOk P w H h':=λa o e=>
 (x a o e).stay (λb u _ q=>k b u q) (λ_ q=>q) λ_ _ q=>q
theorem HOk.laid(x:HOk P w H h)(k:∀b u,h.get? b=some u->h'.get? b=some u)(i:h.objs.size<=a)(d:bR P w (upd H a o) h' a o):HOk P w (upd H a o) h':=λb u e=>by
 have g:=x.fresh i;by_cases f:b=a
 .subst f;rw[aH]at e;cases e;exact d
 .rw[aI f]at e;exact (x b u e).stay (λc v _ q=>k c v q) (λc q=>by rw[aI (dg q g)];exact q) λc j q=>by rw[aI (dg q g)];exact q
end
def Rd(H:Hp)(a:Lm)(u:HO):Prop:=H a=some u\/∃o,H a=some (.frz o u)
theorem Rd.ok{P:Lg}{w:LL}{H:Hp}{h:Nh}{a:Lm}{u:HO}(r:Rd H a u)(x:HOk P w H h):bR P w H h a u:=by
 rcases r with r |⟨o,r⟩
 .exact x a u r
 .obtain⟨_,q⟩:=x a _ r;exact q
noncomputable def Mut:Option HO->Prop
 |some (.lst _)=>True
 |some (.dK _)=>True
 |some (.dT _)=>True
 |some (.set _ _)=>True
 |some (.ins _ _ _)=>True
 |some (.ext _)=>True
 |_=>False
section
variable {P:Lg}{w:LL}{H:Hp}{h h':Nh}{x e:Lm}{o':HO}
theorem HOk.write(s:HOk P w H h)(i:Mut (H x))(n:e=x\/H e=some (.own x))(k:∀b u,b≠e->h.get? b=some u->h'.get? b=some u)(m:∃u,h'.get? e=some u)
  (new:bR P w (upd H x o') h' x o'):HOk P w (upd H x o') h':=λb u q=>by
 have d:∀c y,H c=some (.own y)->c≠x:=λc y r z=>by subst z;rw[r]at i;exact i
 have f:∀c l,H c=some (.tup l)->c≠x:=λc l r z=>by subst z;rw[r]at i;exact i
 by_cases j:b=x
 .subst j;rw[aH]at q;cases q;exact new
 .rw[aI j]at q;by_cases a:b=e
  .have o:H b=some (.own x):=by
    rcases n with z |z
    .exact absurd (a.trans z) j
    .rw[a];exact z
   rw[q]at o;cases o;obtain⟨v,p⟩:=m;exact⟨v,by rw[a];exact p⟩
  .refine (s b u q).stay (λc v g r=>k c v ?_ r) (λc r=>by rw[aI (d c b r)];exact r) λc l r=>by rw[aI (f c l r)];exact r
   rcases g with rfl |g
   .exact a
   .rintro rfl;rcases n with z |z
    .exact d c b g z
    .rw[g]at z;cases z;exact j rfl
end
structure Un(fs ex:List Lm)(H H':Hp)(h h':Nh):Prop where
 keep:∀b o,h.get? b=some o->H b=none->b ∉ fs->b ∉ ex->h'.get? b=some o
 slot:∀b o,h.get? b=some o->H b=none->b∈fs->b ∉ ex->∃sl,h'.get? b=some {o with slots:=sl }
 free:∀b o,h.get? b=some o->H b=none->b ∉ ex->H' b=none
 there:∀b o,h.get? b=some o->b ∉ ex->∃o',h'.get? b=some o'
 tups:∀b xs,H b=some (.tup xs)->H' b=some (.tup xs)
 frzs:∀b o u,H b=some (.frz o u)->H' b=some (.frz o u)
 tbls:∀b ps,H b=some (.tbl ps)->∃more,H' b=some (.tbl (ps++more))
section
variable {fs fs' ex ex':List Lm}{H H1 H2:Hp}{h h1 h2 h':Nh}{a x e:Lm}{o:HO}
theorem Un.any(u:Un fs ex H H1 h h1){b:Lm}{a:Obj}(q:h.get? b=some a)(n:H b=none)(c:b ∉ ex):∃e,h1.get? b=some {a with slots:=e }:=by
 by_cases d:b∈fs
 .exact u.slot b a q n d c
 .exact⟨a.slots,u.keep b a q n d c⟩
theorem Un.kept(k:∀b u,h.get? b=some u->h'.get? b=some u):Un fs ex H H h h':=
 ⟨λb a q _ _ _=>k b a q,λb a q _ _ _=>⟨a.slots,k b a q⟩,λ_ _ _ n _=>n,λb a q _=>⟨a,k b a q⟩,λ_ _ q=>q,λ_ _ _ q=>q,λ_ c q=>⟨#[],by rw[q];simp⟩⟩
theorem Un.refl:Un fs ex H H h h:=Un.kept λ_ _ q=>q
theorem Un.laid(k:∀b u,h.get? b=some u->h'.get? b=some u)(d:h.objs.size<=a)(c:H a=none):Un fs ex H (upd H a o) h h' where
 keep:=λb u q _ _ _=>k b u q
 slot:=λb u q _ _ _=>⟨u.slots,k b u q⟩
 free:=λb u q n _=>by rw[aI (LA (Ls (Lc q) d))];exact n
 there:=λb u q _=>⟨u,k b u q⟩
 tups:=λb e q=>by rw[aI (dg q c)];exact q
 frzs:=λb u e q=>by rw[aI (dg q c)];exact q
 tbls:=λb f q=>⟨#[],by rw[aI (dg q c),q];simp⟩
theorem Un.write(c:Mut (H x))(l:e=x\/H e=some (.own x))(k:∀b u,b≠e->h.get? b=some u->h'.get? b=some u)(d:∃u,h'.get? e=some u):Un fs ex H (upd H x o) h h':=by
 have g:∀b,H b=none->b≠x:=λb n z=>by subst z;rw[n]at c;exact c
 have i:∀b,H b=none->b≠e:=λb n z=>by
  subst z;rcases l with r |r
  .exact g b n r
  .rw[n]at r;cases r
 have f:∀b u,H b=some u->¬ Mut (some u)->b≠x:=λb u q nm z=>by subst z;rw[q]at c;exact nm c
 refine⟨λb u q n _ _=>k b u (i b n) q,λb u q n _ _=>⟨u.slots,k b u (i b n) q⟩,λb u q n _=>by rw[aI (g b n)];exact n,λb u q _=>?_,
  λb j q=>by rw[aI (f b _ q λz=>z)];exact q,λb u j q=>by rw[aI (f b _ q λz=>z)];exact q,λb m q=>⟨#[],by rw[aI (f b _ q λz=>z),q];simp⟩⟩
 by_cases a:b=e
 .subst a;exact d
 .exact⟨u,k b u a q⟩
end
def trk(h:Nh)(H:Hp):List Lm:=(LP h.objs.size).filter λa=>(H a).isSome
def p0(h:Nh)(H:Hp):Nh:=PySem.W.hideAll h (trk h H)
theorem zF(h:Nh)(H:Hp):(p0 h H).objs.size=h.objs.size:=PySem.W.hideAll_size _ _
theorem Bv{h:Nh}{H:Hp}{b:Lm}{o:Obj}(e:h.get? b=some o)(n:H b=none):(p0 h H).get? b=some o:=
 PySem.W.hideAll_get _ e λa=>by
  have q:(H b).isSome=true:=(LW.mp a).2;rw[n]at q;simp at q
theorem Fh{h:Nh}{H:Hp}{b:Lm}{o:Obj}(e:(p0 h H).get? b=some o):h.get? b=some o/\H b=none:=by
 have a:h.get? b=some o:=PySem.W.of_hideAll (trk h H) e;refine⟨a,?_⟩;cases q:H b with
 |none=>rfl
 |some x=>
  have c:b∈trk h H:=LW.mpr ⟨Lx.mpr (Lc a),by simp[q]⟩;have z:(p0 h H).get? b=none:=PySem.W.hideAll_none (trk h H) c;rw[z]at e;cases e
def Fb(g h:Nh)(L:Lm):List (Lm×Obj):=(LP h.objs.size).filterMap λa=>if a=L\/(g.get? a).isSome=true then none else (h.get? a).map λo=>(a,o)
def rest(g h:Nh)(L d:Lm):List (Lm×Obj):=(Fb g h L).filter λp=>decide (p.1≠d)
structure Mod(K:KM)(mg:Str->Option K3)(base:Nh):Prop where
 kin:K.In base
 glob:base.Ns Mi mg
 blt:∃mb,base.Ns Vt mb∧∀x:Str,x≠"__name__"→mb x=M7 x
 nolimit:base.NoLimit
structure Cx where
 prog:Lg
 w:LL
 K:KM
 mg:Str->Option K3
 base:Nh
 A:L7
 N:List Str
 s₀:K8
 H₀:Hp
 env:Env
 outer:List Env
 stack:List Env
 ex:List Lm
 fn:Str->Bool
 calm:Bool
 pn:List (Lm×Obj)
 xe:K3->K8->Prop
def frs(l:List Env):List Lm:=l.filterMap (·.frame)
abbrev Cx.fs(X:Cx):List Lm:=frs X.outer
def Vis(a:S_)(x:Str):Prop:=a.names.lookup x=some .local\/a.names.lookup x=some .cell\/a.names.lookup x=some .free
def Loc(a:S_)(x:Str):Prop:=a.names.lookup x=some .local\/a.names.lookup x=some .cell
def Ko(a:Env)(h:Nh)(m:Str->Option K3)(x:Str)(u:K3):Prop:=
 (a.kindOf x=some .local/\m x=some u)\/((a.kindOf x=some .cell\/a.kindOf x=some .free)/\∃c,a.cells.lookup x=some c/\h.IsCell c (some u))
structure Cx.Ok(X:Cx):Prop where
 mod:Mod X.K X.mg X.base
 kind:X.env.scope.kind=.function
 glob:X.env.globals=Mi
 blt:X.env.builtins=Vt
 above:X.s₀.heap.objs.size<=X.env.locals
 inj:∀x y c,X.env.cells.lookup x=some c->X.env.cells.lookup y=some c->x=y
 has:∀x,(X.env.kindOf x=some .cell\/X.env.kindOf x=some .free)->∃c,X.env.cells.lookup x=some c
 cab:∀x c,X.fn x=true->X.env.cells.lookup x=some c->X.s₀.heap.objs.size<=c
 hd:X.calm=true->X.A.handled=none
 frames:X.A.frames=some X.stack
 stk:X.stack=X.outer\/(X.stack=X.env::X.outer/\X.env.frame=some X.env.locals)
 exf:∀b∈X.ex,b≠X.env.locals/\∀x c,X.env.cells.lookup x=some c->c≠b
 bs:∀b o,X.base.get? b=some o->X.s₀.heap.get? b=some o/\X.H₀ b=none
 bsz:X.base.objs.size<=X.s₀.heap.objs.size
 noex:∀b o,X.base.get? b=some o->b ∉ X.ex
 exfs:∀b∈X.ex,b ∉ X.fs
 funs:X.s₀.heap.FunFrames X.base X.outer
 frf:∀b∈X.fs,X.H₀ b=none
structure Inv(X:Cx)(Wz:List (Lm×Obj))(σ:List (Option V))(H:Hp)(s:K8):Prop where
 ok:X.Ok
 os:s.os=X.s₀.os
 bare:Rk s.gens
 base:Un X.fs X.ex X.H₀ H X.s₀.heap s.heap
 loc:∃m,s.heap.Ns X.env.locals m/\∀(i:Nat) (x:Str) (v:V),X.N[i]?=some x->σ[i]?=some (some v)->Vis X.env.scope x->∃u,aR v u/\Ko X.env s.heap m x u
 cell:∀x c,X.env.cells.lookup x=some c->∃v,s.heap.IsCell c v
 free:H X.env.locals=none
 freeC:∀x c,X.env.cells.lookup x=some c->H c=none
 pin:∀p∈X.pn++Wz,s.heap.get? p.1=some p.2/\H p.1=none/\p.1≠X.env.locals/\p.1 ∉ X.fs/\∀v,p.2.data≠.cell v
 hok:HOk X.prog X.w H s.heap
 len:σ.length=X.N.length
section
variable {X:Cx}{Wz:List (Lm×Obj)}{σ:List (Option V)}{H H':Hp}{s:K8}{h':Nh}
theorem Cx.Ok.nofr(c:X.Ok){b:Lm}{o:Obj}(e:X.base.get? b=some o):b ∉ X.fs:=λa=>by
 have:=(c.funs.mem a).1;rw[e]at this;cases this
theorem Inv.bs(I:Inv X Wz σ H s):∀b o,X.base.get? b=some o->s.heap.get? b=some o/\H b=none:=λb o e=>
 ⟨I.base.keep b o (I.ok.bs b o e).1 (I.ok.bs b o e).2 (I.ok.nofr e) (I.ok.noex b o e),I.base.free b o (I.ok.bs b o e).1 (I.ok.bs b o e).2 (I.ok.noex b o e)⟩
theorem Inv.bk(I:Inv X Wz σ H s):∀b o,X.base.get? b=some o->s.heap.get? b=some o:=λb o e=>(I.bs b o e).1
theorem Inv.mod(I:Inv X Wz σ H s):Mod X.K X.mg X.base:=I.ok.mod
theorem Inv.kIn(I:Inv X Wz σ H s):X.K.In s.heap:=I.ok.mod.kin.keeps I.bk
theorem Inv.lt(I:Inv X Wz σ H s):X.env.locals<s.heap.objs.size:=let ⟨_,hn,_⟩:=I.loc;hn.lt
theorem Inv.sz(I:Inv X Wz σ H s):X.s₀.heap.objs.size<=s.heap.objs.size:=Mh I.ok.above (La I.lt)
theorem Inv.nofs(I:Inv X Wz σ H s){a:Lm}(h:s.heap.objs.size<=a):a ∉ X.fs:=λb=>by
 obtain⟨_,o,c,_⟩:=I.ok.funs.mem b;exact absurd (Ls (Lc c) (Mh I.sz h)) (LS _)
theorem Inv.cne(I:Inv X Wz σ H s):∀x c,X.env.cells.lookup x=some c->c≠X.env.locals:=λx c e z=>by
 obtain⟨v,o,b,a⟩:=I.cell x c e;obtain⟨m,⟨g,i,h,d,f,_⟩,_⟩:=I.loc;rw[z,d]at b;cases b;rw[f]at a;cases a
theorem Inv.funs(I:Inv X Wz σ H s):s.heap.FunFrames X.base X.outer:=by
 have all:∀(l:List Env),(∀b∈frs l,b∈X.fs)->X.s₀.heap.FunFrames X.base l->s.heap.FunFrames X.base l:=by
  intro l
  induction l with
  |nil=>intro _ _;trivial
  |cons i r h=>
   intro f p;obtain⟨n,⟨L,o,c,m,g,j⟩,k⟩:=p;have a:L∈X.fs:=f L (by unfold frs;rw[Ob,c];exact K0);obtain⟨q,e⟩:=I.base.slot L o g (I.ok.frf L a) a λz=>I.ok.exfs L z a;exact⟨n,⟨L,_,c,m,e,j⟩,h (λb d=>f b (by unfold frs;rw[Ob,c];exact KN _ d)) k⟩
 exact all X.outer (λ_ d=>d) I.ok.funs
theorem Inv.stack(I:Inv X Wz σ H s):s.heap.FunFrames X.base X.stack:=by
 rcases I.ok.stk with e |⟨e,a⟩
 .rw[e];exact I.funs
 .rw[e];obtain⟨m,b,_⟩:=I.loc;refine .cons (by rw[I.ok.kind];decide) a b ?_ I.funs;exact Heap.get?_none_of_le (Mh I.ok.bsz I.ok.above)
theorem Inv.stkSub(I:Inv X Wz σ H s):∀b∈frs X.stack,b∈X.env.locals::X.fs:=λb a=>by
 rcases I.ok.stk with e |⟨e,c⟩
 .rw[e]at a;exact KN _ a
 .rw[e]at a;unfold frs at a;rw[Ob,c]at a;exact a
theorem Inv.stkFree(I:Inv X Wz σ H s):∀b∈frs X.stack,H b=none:=λb a=>by
 rcases KO.mp (I.stkSub b a) with e |a
 .rw[e];exact I.free
 .obtain⟨_,o,c,_⟩:=I.ok.funs.mem a;exact I.base.free b o c (I.ok.frf b a) λz=>I.ok.exfs b z a
theorem Inv.step{g':Array Qv}{t':Nat}{d':Drawn}{ch:List Lm}(I:Inv X Wz σ H s)
  (YN:∀b∈ch,(b∈X.ex\/X.s₀.heap.objs.size<=b)/\b≠X.env.locals/\(∀x c,X.env.cells.lookup x=some c->c≠b)/\∀p∈X.pn++Wz,p.1≠b)
  (keep:∀b o,b≠X.env.locals->b ∉ X.fs->b ∉ ch->s.heap.get? b=some o->H b=none->h'.get? b=some o)
  (slot:∀b o,b≠X.env.locals->b∈X.fs->b ∉ ch->s.heap.get? b=some o->H b=none->∃F,h'.get? b=some {o with slots:=F }) (free:∀b o,b ∉ ch->s.heap.get? b=some o->H b=none->H' b=none)
  (there:∀b o,b ∉ ch->s.heap.get? b=some o->∃A,h'.get? b=some A)
  (tups:∀b j,H b=some (.tup j)->H' b=some (.tup j)) (frzs:∀b o u,H b=some (.frz o u)->H' b=some (.frz o u)) (tbls:∀b D,H b=some (.tbl D)->∃more,H' b=some (.tbl (D++more)))
  (ns:∀m,s.heap.Ns X.env.locals m->h'.Ns X.env.locals m) (hok:HOk X.prog X.w H' h') (hg:Rk g'):
  Inv X Wz σ H' {s with heap:=h',gens:=g',drawn:=d',toks:=t' }:=by
 have C:∀b o,X.s₀.heap.get? b=some o->b≠X.env.locals:=λb o e=>LA (Ls (Lc e) I.ok.above)
 have h:∀b o,X.s₀.heap.get? b=some o->b ∉ X.ex->b ∉ ch:=λb o e a t=>by
  rcases (YN b t).1 with z |z
  .exact a z
  .exact absurd (Ls (Lc e) z) (LS _)
 have N:∀x c,X.env.cells.lookup x=some c->∀v,s.heap.IsCell c v->h'.IsCell c v:=λx c e v R=>by
  obtain⟨o,y,G⟩:=R;have f:c ∉ ch:=λz=>(YN c z).2.2.1 x c e rfl;by_cases L:c∈X.fs
  .obtain⟨F,q⟩:=slot c o (I.cne x c e) L f y (I.freeC x c e);exact⟨_,q,G⟩
  .exact⟨o,keep c o (I.cne x c e) L f y (I.freeC x c e),G⟩
 refine⟨I.ok,I.os,hg,⟨λb o e n t a=>?_,λb o e n t a=>?_,λb o e n a=>?_,λb o e a=>?_,λb j e=>tups b j (I.base.tups b j e),λb o j e=>frzs b o j (I.base.frzs b o j e),λb D e=>?_⟩,?_,λx c e=>?_,?_,λx c e=>?_,λp J=>?_,hok,I.len⟩
 .exact keep b o (C b o e) t (h b o e a) (I.base.keep b o e n t a) (I.base.free b o e n a)
 .obtain⟨F,g⟩:=I.base.slot b o e n t a;obtain⟨E,B⟩:=slot b _ (C b o e) t (h b o e a) g (I.base.free b o e n a);exact⟨E,B⟩
 .obtain⟨A,g⟩:=I.base.there b o e a;exact free b A (h b o e a) g (I.base.free b o e n a)
 .obtain⟨A,g⟩:=I.base.there b o e a;exact there b A (h b o e a) g
 .obtain⟨O,g⟩:=I.base.tbls b D e;obtain⟨T,B⟩:=tbls b _ g;exact⟨O++T,by rw[B,Array.append_assoc]⟩
 .obtain⟨m,P,S⟩:=I.loc;refine⟨m,ns m P,λi x v g B Q=>?_⟩;obtain⟨u,r,l⟩:=S i x v g B Q;refine⟨u,r,?_⟩;rcases l with l |⟨k,c,e,z⟩
  .exact .inl l
  .exact .inr ⟨k,c,e,N x c e _ z⟩
 .obtain⟨v,z⟩:=I.cell x c e;exact⟨v,N x c e v z⟩
 .obtain⟨m,⟨o,_,_,y,_⟩,_⟩:=I.loc;exact free _ o (λz=>(YN _ z).2.1 rfl) y I.free
 .obtain⟨v,o,y,G⟩:=I.cell x c e;exact free c o (λz=>(YN c z).2.2.1 x c e rfl) y (I.freeC x c e)
 .obtain⟨e,n,K,M,d⟩:=I.pin p J;have f:p.1 ∉ ch:=λz=>(YN p.1 z).2.2.2 p J rfl;exact⟨keep p.1 p.2 K M f e n,free p.1 p.2 f e n,K,M,d⟩
theorem Inv.un{t':Nat}(I:Inv X Wz σ H s)(u:Un X.fs [] H H' s.heap h')(c:HOk X.prog X.w H' h'):Inv X Wz σ H' {s with heap:=h',toks:=t' }:=by
 obtain⟨m,⟨o,v,l,g,r⟩,_⟩:=id I.loc;obtain⟨q,i⟩:=u.any g I.free (by simp)
 exact I.step (g':=s.gens) (d':=s.drawn) (ch:=[]) (λ_ z=>nomatch z) (λb o _ d _ e n=>u.keep b o e n d (by simp)) (λb o _ d _ e n=>u.slot b o e n d (by simp)) (λb o _ e n=>u.free b o e n (by simp)) (λb o _ e=>u.there b o e (by simp)) u.tups u.frzs u.tbls (λt j=>by
  obtain⟨p,a,f,h,k⟩:=j;rw[g]at h;cases h;exact⟨_,a,f,i,k⟩) c I.bare
theorem Inv.call{g':Array Qv}{t':Nat}{d':Drawn}{ch:List Lm}(I:Inv X Wz σ H s)(u:Un (frs X.stack) ch H H' s.heap h')(g:HOk X.prog X.w H' h')(t:Rk g')
  (YN:∀b∈ch,(b∈X.ex\/X.s₀.heap.objs.size<=b)/\b≠X.env.locals/\(∀x c,X.env.cells.lookup x=some c->c≠b)/\∀p∈X.pn++Wz,p.1≠b):
  Inv X Wz σ H' {s with heap:=h',gens:=g',drawn:=d',toks:=t' }:=by
 obtain⟨m,⟨o,C,v,i,r⟩,_⟩:=id I.loc;obtain⟨A,d⟩:=u.any i I.free λz=>(YN _ z).2.1 rfl
 exact I.step (ch:=ch) YN (λb o d l a e n=>u.keep b o e n (λz=>(KO.mp (I.stkSub b z)).elim d l) a) (λb o _ _ a e n=>u.any e n a) (λb o a e n=>u.free b o e n a) (λb o a e=>u.there b o e a) u.tups u.frzs u.tbls (λB k=>by
  obtain⟨y,f,h,j,q⟩:=k;rw[i]at j;cases j;exact⟨_,f,h,d,q⟩) g t
theorem Inv.turned{t':Nat}{a:Lm}(I:Inv X Wz σ H s)(k:∀b o,b≠a->s.heap.get? b=some o->h'.get? b=some o)(w:H a=none)(g:a≠X.env.locals)
  (h1:a∈X.ex\/X.s₀.heap.objs.size<=a) (h2:∀x c,X.env.cells.lookup x=some c->c≠a) (h3:∀p∈X.pn++Wz,p.1≠a):Inv X Wz σ H {s with heap:=h',toks:=t' }:=by
 have f:∀b u,H b=some u->b≠a:=λb u e z=>by rw[z,w]at e;cases e
 refine I.step (g':=s.gens) (d':=s.drawn) (ch:=[a]) (λb l=>?_) (λb o _ _ d e _=>k b o (λz=>d (by simp[z])) e) (λb o _ _ d e _=>⟨o.slots,k b o (λz=>d (by simp[z])) e⟩) (λ_ _ _ _ n=>n)
  (λb o d e=>⟨o,k b o (λz=>d (by simp[z])) e⟩) (λ_ _ e=>e) (λ_ _ _ e=>e) (λb y e=>⟨#[],by rw[e];simp⟩) (λm j=>?_) (λb u e=>?_) I.bare
 .have e:b=a:=by simpa using l
  subst e;exact⟨h1,g,h2,h3⟩
 .obtain⟨o,t,h,i,r⟩:=j;exact⟨o,t,h,k _ o (Ne.symm g) i,r⟩
 .refine (I.hok b u e).stay (λc v d q=>k c v ?_ q) (λ_ q=>q) λ_ _ q=>q;rcases d with z |z
  .rw[z];exact f b u e
  .exact f c _ z
theorem Inv.tok(I:Inv X Wz σ H s)(t:Nat):Inv X Wz σ H {s with toks:=t }:=I.un (h':=s.heap) (t':=t) Un.refl I.hok
theorem Inv.kept{t':Nat}(I:Inv X Wz σ H s)(k:∀b u,s.heap.get? b=some u->h'.get? b=some u):Inv X Wz σ H {s with heap:=h',toks:=t' }:=I.un (Un.kept k) (I.hok.kept k)
theorem Inv.laid{a:Lm}{o:HO}{t':Nat}(I:Inv X Wz σ H s)(k:∀b u,s.heap.get? b=some u->h'.get? b=some u)(c:s.heap.objs.size<=a)(d:bR X.prog X.w (upd H a o) h' a o):
  Inv X Wz σ (upd H a o) {s with heap:=h',toks:=t' }:=I.un (Un.laid k c (I.hok.fresh c)) (I.hok.laid k c d)
theorem Inv.write{x e:Lm}{o:HO}{t':Nat}(I:Inv X Wz σ H s)(d:Mut (H x))(c:e=x\/H e=some (.own x))(k:∀b u,b≠e->s.heap.get? b=some u->h'.get? b=some u)(a:∃u,h'.get? e=some u)
  (new:bR X.prog X.w (upd H x o) h' x o):Inv X Wz σ (upd H x o) {s with heap:=h',toks:=t' }:=I.un (Un.write d c k a) (I.hok.write d c k a new)
theorem Inv.weak{a:List (Option V)}(I:Inv X Wz σ H s)(e:a.length=σ.length)(w:∀(i:Nat) v,a[i]?=some (some v)->σ[i]?=some (some v)):Inv X Wz a H s:=
 ⟨I.ok,I.os,I.bare,I.base,let ⟨m,hn,W9⟩:=I.loc;⟨m,hn,λi x v b d c=>W9 i x v b (w i v d) c⟩,I.cell,I.free,I.freeC,I.pin,I.hok,e.trans I.len⟩
theorem Inv.pins_of{a:List (Lm×Obj)}(I:Inv X Wz σ H s)(h:∀p∈a,s.heap.get? p.1=some p.2/\H p.1=none/\p.1≠X.env.locals/\p.1 ∉ X.fs/\∀v,p.2.data≠.cell v):Inv X a σ H s:=
 ⟨I.ok,I.os,I.bare,I.base,I.loc,I.cell,I.free,I.freeC,λp b=>(LG.mp b).elim (λz=>I.pin p (LI _ z)) (h p),I.hok,I.len⟩
theorem sK{N:List Str}(e:N.Nodup){i j:Nat}{x:Str}(a:N[i]?=some x)(b:N[j]?=some x):i=j:=by
 obtain⟨g,c⟩:=K_.mp a;obtain⟨f,d⟩:=K_.mp b;exact (RB e).mp (c.trans d.symm)
theorem o0{M:Model}{A:L7}{E:K3->K8->Prop}{i:Nat}{x:Str}{v:V}{u:K3}{Q:Unit->K8->Prop}(I:Inv X Wz σ H s)(hN:X.N.Nodup)(L:X.N[i]?=some x)(t:Loc X.env.scope x)(r:aR v u)
  (h:∀s',Inv X Wz (σ.set i (some v)) H s'->(∃a,OD a s.heap s'.heap/\(a=X.env.locals\/X.env.cells.lookup x=some a))->Q () s') (hf:autoParam (X.fn x=true\/X.env.scope.names.lookup x=some .local) q0):LH M A (storeName X.env x u) Q E s:=by
 obtain⟨m,hn,hl⟩:=id I.loc;have P:(X.env.scope.kind==.class || (X.env.scope.kind==.module && X.env.locals !=X.env.globals))=false:=by rw[I.ok.kind];rfl
 have C:i<σ.length:=by rw[I.len];exact (K_.mp L).1
 have cne:=I.cne
 have X4:∀{a:Lm}{h':Nh},(∃o,s.heap.get? a=some o/\H a=none)->OD a s.heap h'->HOk X.prog X.w H h':=λ{a h'} ha f b ob e=>by
  obtain⟨_,_,Y3⟩:=ha;refine (I.hok b ob e).stay (λc T l q=>(f.2 c ?_).trans q) (λ_ q=>q) λ_ _ q=>q;rintro rfl;rcases l with rfl |l
  .rw[Y3]at e;cases e
  .rw[Y3]at l;cases l
 rcases t with D |D
 .refine wpAny_storeName_local D hn (λh' hn' f=>?_) P;obtain⟨oL,_,_,Z,_⟩:=id hn;refine h _ ⟨I.ok,I.os,I.bare,⟨λb o e n G t=>?_,λb o e n G t=>?_,I.base.free,λb o e t=>?_,I.base.tups,I.base.frzs,I.base.tbls⟩,⟨_,hn',λj y v' g B e3=>?_⟩,λy c e=>?_,I.free,I.freeC,λp U=>?_,X4 ⟨oL,Z,I.free⟩ f,by simpa using I.len⟩ ⟨_,f,.inl rfl⟩
  .exact (f.2 b (LA (Ls (Lc e) I.ok.above))).trans (I.base.keep b o e n G t)
  .obtain⟨sl,g⟩:=I.base.slot b o e n G t;exact⟨sl,(f.2 b (LA (Ls (Lc e) I.ok.above))).trans g⟩
  .obtain⟨W,g⟩:=I.base.there b o e t;exact⟨W,(f.2 b (LA (Ls (Lc e) I.ok.above))).trans g⟩
  .by_cases J:j=i
   .subst J;rw[L]at g;cases g;rw[RM C]at B;cases B;exact⟨u,r,.inl ⟨D,by simp⟩⟩
   .rw[Lw (Ne.symm J)]at B;obtain⟨u',r',q⟩:=hl j y v' g B e3;refine⟨u',r',?_⟩;rcases q with ⟨k,e⟩ |⟨k,c,e,z⟩
    .refine .inl ⟨k,?_⟩;have:y≠x:=λe=>J (sK hN g (e ▸ L));simp[this,e]
    .exact .inr ⟨k,c,e,z.sameBut f (cne y c e)⟩
  .obtain⟨T,z⟩:=I.cell y c e;exact⟨T,z.sameBut f (cne y c e)⟩
  .obtain⟨e,n,R,Y,d⟩:=I.pin p U;exact⟨(f.2 p.1 R).trans e,n,R,Y,d⟩
 .have F:X.fn x=true:=by
   rcases hf with z |z
   .exact z
   .rw[z]at D;cases D
  obtain⟨c,l⟩:=I.ok.has x (.inl D);obtain⟨T,z⟩:=I.cell x c l;refine wpAny_storeName_cell I.ok.kind D l z (λh' Yd f=>?_);obtain⟨oc,Yq,O⟩:=id z;refine h {s with heap:=h' } ⟨I.ok,I.os,I.bare,⟨λb o e n G t=>?_,λb o e n G t=>?_,I.base.free,λb o e t=>?_,I.base.tups,I.base.frzs,I.base.tbls⟩,⟨m,hn.sameBut f (Ne.symm (cne x c l)),λj y v' g B e3=>?_⟩,λy S e=>?_,I.free,I.freeC,λp U=>?_,X4 ⟨oc,Yq,I.freeC x c l⟩ f,by simpa using I.len⟩ ⟨c,f,.inr l⟩
  .exact (f.2 b (LA (Ls (Lc e) (I.ok.cab x c F l)))).trans (I.base.keep b o e n G t)
  .obtain⟨sl,g⟩:=I.base.slot b o e n G t;exact⟨sl,(f.2 b (LA (Ls (Lc e) (I.ok.cab x c F l)))).trans g⟩
  .obtain⟨W,g⟩:=I.base.there b o e t;exact⟨W,(f.2 b (LA (Ls (Lc e) (I.ok.cab x c F l)))).trans g⟩
  .by_cases J:j=i
   .subst J;rw[L]at g;cases g;rw[RM C]at B;cases B;exact⟨u,r,.inr ⟨.inl D,c,l,Yd⟩⟩
   .rw[Lw (Ne.symm J)]at B;obtain⟨u',r',q⟩:=hl j y v' g B e3;refine⟨u',r',?_⟩;rcases q with q |⟨k,S,e,z'⟩
    .exact .inl q
    .refine .inr ⟨k,S,e,z'.sameBut f ?_⟩;rintro rfl;exact J (sK hN g (I.ok.inj _ _ _ e l ▸ L))
  .by_cases K:S=c
   .subst K;exact⟨_,Yd⟩
   .obtain⟨w2,z2⟩:=I.cell y S e;exact⟨w2,z2.sameBut f K⟩
  .obtain⟨e,n,R,Y,d⟩:=I.pin p U;refine⟨(f.2 p.1 ?_).trans e,n,R,Y,d⟩;intro q;rw[q,Yq]at e;have q':oc=p.2:=LN e;exact d T (by rw[<-q'];exact O)
theorem jy{M:Model}{A:L7}{E:K3->K8->Prop}{i:Nat}{x:Str}{v:V}{u:K3}{Q:Unit->K8->Prop}(I:Inv X Wz σ H s)(d:X.N.Nodup)(c:X.N[i]?=some x)(b:Loc X.env.scope x)(r:aR v u)
  (h:∀a,Inv X Wz (σ.set i (some v)) H a->Q () a) (hf:autoParam (X.fn x=true\/X.env.scope.names.lookup x=some .local) q0):LH M A (storeName X.env x u) Q E s:=
 o0 I d c b r (λa e _=>h a e) hf
theorem Inv.call'{a:K8}{ch:List Lm}(I:Inv X Wz σ H s)(g:a.os=s.os)(u:Un (frs X.stack) ch H H' s.heap a.heap)(d:HOk X.prog X.w H' a.heap)(h:Rk a.gens)
  (YN:∀b∈ch,(b∈X.ex\/X.s₀.heap.objs.size<=b)/\b≠X.env.locals/\(∀x c,X.env.cells.lookup x=some c->c≠b)/\∀p∈X.pn++Wz,p.1≠b):Inv X Wz σ H' a:=by
 obtain⟨h',g',d',t',f⟩:=a;have e:f=s.os:=g;subst e;exact I.call (g':=g') (t':=t') (d':=d') u d h YN
end
abbrev XK:=K3->Option Lm->Hp->Prop
abbrev St:=List (Option V)
abbrev VK:=V->Hp->Prop
abbrev TE:=St->Hp->VK->Prop
abbrev TT:=St->Hp->(Bool->Hp->Prop)->Prop
abbrev TA:=St->Hp->(List V->Hp->Prop)->Prop
structure p9 where
 nx:St->Hp->Prop
 rt:VK
 bk:St->Hp->Prop:=λ_ _=>False
 ct:St->Hp->Prop:=λ_ _=>False
abbrev TS:=p9->St->Hp->Prop
def EP(X:Cx)(c:List (Lm×Obj))(d:St)(Q:VK)(u:K3)(b:K8):Prop:=∃v a,Inv X c d a b/\aR v u/\Q v a
def TP(X:Cx)(d:List (Lm×Obj))(e:St)(Q:Bool->Hp->Prop)(b:Bool)(c:K8):Prop:=∃a,Inv X d e a c/\Q b a
def AP(X:Cx)(d:List (Lm×Obj))(e:St)(Q:List V->Hp->Prop)(us:List K3)(c:K8):Prop:=∃b a,Inv X d e a c/\aS b us/\Q b a
def SP(X:Cx)(d:List (Lm×Obj))(D:p9)(f:Flow)(c:K8):Prop:=
 match f with
 | .next=>∃b a,Inv X d b a c/\D.nx b a
 | .brk=>∃b a,Inv X d b a c/\D.bk b a
 | .cont=>∃b a,Inv X d b a c/\D.ct b a
 | .ret u=>∃v b a,Inv X d b a c/\aR v u/\D.rt v a
def PE(X:Cx)(e:Expr)(t:TE):Prop:=
 ∀(b:List (Lm×Obj)) (s:K8) (a:St) (H:Hp) (Q:VK),Inv X b a H s->t a H Q->LH (LM X.prog X.w) X.A (Nq e X.env) (EP X b a Q) X.xe s
def PT(X:Cx)(e:Expr)(t:TT):Prop:=
 ∀(b:List (Lm×Obj)) (s:K8) (a:St) (H:Hp) (Q:Bool->Hp->Prop),Inv X b a H s->t a H Q->LH (LM X.prog X.w) X.A (isTrue e X.env (Nq e X.env)) (TP X b a Q) X.xe s
def PW(X:Cx)(e:Expr)(t:TT):Prop:=
 ∀(c:Sem K3) (b:List (Lm×Obj)) (s:K8) (a:St) (H:Hp) (Q:Bool->Hp->Prop),Inv X b a H s->t a H Q->LH (LM X.prog X.w) X.A (isTrue e X.env c) (TP X b a Q) X.xe s
theorem PW.pt{X:Cx}{e:Expr}{t:TT}(h:PW X e t):PT X e t:=h _
def PA(X:Cx)(d:List Expr)(t:TA):Prop:=
 ∀(b:Pos) (c:List (Lm×Obj)) (s:K8) (a:St) (H:Hp) (Q:List V->Hp->Prop),Inv X c a H s->t a H Q->LH (LM X.prog X.w) X.A (spliced (M4 b (K7 d X.env))) (AP X c a Q) X.xe s
def PS(X:Cx)(c:Nz)(t:TS):Prop:=
 ∀(a:List (Lm×Obj)) (s:K8) (b:St) (H:Hp) (D:p9),Inv X a b H s->t D b H->LH (LM X.prog X.w) X.A (exec c X.env) (SP X a D) X.xe s
def PSs(X:Cx)(c:List Nz)(t:TS):Prop:=
 ∀(a:List (Lm×Obj)) (s:K8) (b:St) (H:Hp) (D:p9),Inv X a b H s->t D b H->LH (LM X.prog X.w) X.A (execs c X.env) (SP X a D) X.xe s
theorem thn{α:Type}{t:Sem α}{Q b:α->K8->Prop}{M:Model}{A:L7}{E:K3->K8->Prop}{s:K8}(h:LH M A t Q E s)(c:∀a s,Q a s->b a s):LH M A t b E s:=Oy h c λ_ _ x=>x
section
variable {X:Cx}
def Kf(i:Nat):TE:=λa H Q=>∃v,a[i]?=some (some v)/\Q v H
def tC(v:V):TE:=λ_ H Q=>Q v H
theorem fe{i:Nat}{x:Str}{d:Pos}(p:X.N[i]?=some x)(t:Vis X.env.scope x)(b:autoParam ((x==("__debug__":Str))=false) v0)(q:autoParam ((x==("__classdict__":Str))=false) v0):PE X (.Name x d) (Kf i):=by
 intro n s o H Q I h;obtain⟨v,e,h⟩:=h;obtain⟨m,w,y⟩:=I.loc;obtain⟨u,r,l⟩:=y i x v p e t;have f:EP X n o Q u s:=⟨v,H,I,r,h⟩;rcases l with ⟨a,k⟩ |⟨a,c,j,g⟩
 .exact Vu (wpAny_loadName_local I.ok.kind a w k f) b
 .rcases a with a |a
  .exact Vu (wpAny_loadName_cell I.ok.kind a j g f) b
  .exact Vu (wpAny_loadName_free I.ok.kind a j g f q) b
theorem Gz{i j pos}:PE X (.Constant (.int i) j pos) (tC (.int i)):=λ_ _ _ H _ I h=>wpAny_Constant_int ⟨.int i,H,I.tok _,⟨_,rfl⟩,h⟩
theorem IN{b j pos}:PE X (.Constant (.bool b) j pos) (tC (.bl b)):=λ_ _ _ H _ I h=>Constant_bool ⟨.bl b,H,I,rfl,h⟩
theorem GX{j pos}:PE X (.Constant .none j pos) (tC .non):=λ_ _ _ H _ I h=>Constant_none ⟨.non,H,I,rfl,h⟩
theorem Hx{x j pos}:PE X (.Constant (.str x) j pos) (tC (.str x)):=λ_ _ _ H _ I h=>Calls.Constant_str ⟨.str x,H,I.tok _,⟨_,rfl⟩,h⟩
def Gl(X:Cx)(x:Str):Prop:=X.env.kindOf x=some .globalImplicit
theorem j4{E:K3->K8->Prop}{d:List (Lm×Obj)}{s:K8}{e:St}{H:Hp}{x:Str}{u:K3}{a:Pos}{Q:K3->K8->Prop}(I:Inv X d e H s)(b:Gl X x)(c:X.mg x=some u)(h:Q u s)
  (hd:autoParam ((x==("__debug__":Str))=false) v0):LH (LM X.prog X.w) X.A (Nq (.Name x a) X.env) Q E s:=
 QL I.ok.kind b (Calls.loadGlobal_global (by rw[I.ok.glob];exact I.mod.glob.keeps I.bk) c h) hd
theorem dj{E:K3->K8->Prop}{f:List (Lm×Obj)}{s:K8}{g:St}{H:Hp}{x:Str}{u:K3}{a:Pos}{Q:K3->K8->Prop}(I:Inv X f g H s)(c:Gl X x)(d:X.mg x=none)(e:M7 x=some u)(h:Q u s)
  (hn:autoParam (x≠"__name__") v0) (hd:autoParam ((x==("__debug__":Str))=false) v0):LH (LM X.prog X.w) X.A (Nq (.Name x a) X.env) Q E s:=by
 obtain⟨j,i,b⟩:=I.mod.blt;exact QL I.ok.kind c (Calls.loadGlobal_builtin (by rw[I.ok.glob];exact I.mod.glob.keeps I.bk) d (by rw[I.ok.blt];exact i.keeps I.bk) ((b x hn).trans e) h) hd
theorem yr{x:Str}{v:V}{u:K3}{a:Pos}(c:Gl X x)(d:X.mg x=some u)(r:aR v u)(b:autoParam ((x==("__debug__":Str))=false) v0):PE X (.Name x a) (tC v):=
 λ_ _ _ H _ I h=>j4 I c d ⟨v,H,I,r,h⟩ b
theorem Ea{x:Str}{v:V}{u:K3}{a:Pos}(c:Gl X x)(d:X.mg x=none)(e:M7 x=some u)(r:aR v u)(f:autoParam (x≠"__name__") v0)(b:autoParam ((x==("__debug__":Str))=false) v0):PE X (.Name x a) (tC v):=
 λ_ _ _ H _ I h=>dj I c d e ⟨v,H,I,r,h⟩ f b
variable {a b:Expr}{ta tb:TE}{pos:Pos}
def PC(X:Cx)(op:V_)(a b:Expr)(t:TE):Prop:=
 ∀(d:List (Lm×Obj)) (s:K8) (c:St) (H:Hp) (Q:VK),Inv X d c H s->t c H Q->
  LH (LM X.prog X.w) X.A (Nq a X.env) (λv e=>LH (LM X.prog X.w) X.A (Nq b X.env) (λu f=>LH (LM X.prog X.w) X.A (LX op v u) (EP X d c Q) X.xe f) X.xe e) X.xe s
def tB(t:TE):TT:=λb H Q=>t b H λx a=>∃c,x=.bl c/\Q c a
theorem BA{op:V_}{t:TE}(h:PC X op a b t)(e:NJ op b=false:=by first |exact nobehind _ (by decide) (by decide) |rfl):PT X (.Compare a [op] [b] pos) (tB t):=by
 intro g s k H Q I m;refine RW (thn (h g s k H _ I m) λv w e=>thn e λu p n=>thn n λc r o=>?_) e;obtain⟨x,f,l,j,i⟩:=o;obtain⟨d,rfl,q⟩:=i;cases j;exact Mr ⟨f,l,q⟩
theorem Gh{e:Expr}{t:TE}(h:PE X e t)(f:autoParam (∀a,isTrue e X.env a=(do let v <-a;UO e.pos;RX [v] (truthy v))) q4):PT X e (tB t):=by
 intro c s j H Q I l;refine isTrue_plain (thn (h c s j H _ I l) λv n m=>?_) (f _);obtain⟨x,b,k,i,g⟩:=m;obtain⟨d,rfl,q⟩:=g;cases i;exact Mr ⟨b,k,q⟩
variable {tA tB':TT}{rest:List Expr}
def Kn(t u:TT):TT:=λb H Q=>t b H λc a=>if c=true then u b a Q else Q false a
def tOr(t u:TT):TT:=λb H Q=>t b H λc a=>if c=true then Q true a else u b a Q
def Kj(t:TT):TT:=λb H Q=>t b H λc a=>Q (!c) a
theorem Fq(b:PT X a tA):PW X (.BoolOp .And [a] pos) tA:=by
 intro g d s f H Q I h;refine isTrue_and (thn (b d s f H Q I h) λc i e=>?_);cases c with
 |true=>exact isTrue_and_nil e
 |false=>exact e
theorem BG(b:PT X a tA):PW X (.BoolOp .Or [a] pos) tA:=by
 intro g d s f H Q I h;refine isTrue_or (thn (b d s f H Q I h) λc i e=>?_);cases c with
 |false=>exact isTrue_or_nil e
 |true=>exact e
theorem A5(m:PT X a tA)(n:PW X (.BoolOp .And (b::rest) pos) tB'):PW X (.BoolOp .And (a::b::rest) pos) (Kn tA tB'):=by
 intro j f s g H Q I h;refine isTrue_and (thn (m f s g H _ I h) λc l k=>?_);obtain⟨d,e,i⟩:=k;cases c with
 |true=>exact n j f l g d Q e i
 |false=>exact⟨d,e,i⟩
theorem Cq(m:PT X a tA)(n:PW X (.BoolOp .Or (b::rest) pos) tB'):PW X (.BoolOp .Or (a::b::rest) pos) (tOr tA tB'):=by
 intro j f s g H Q I h;refine isTrue_or (thn (m f s g H _ I h) λc l k=>?_);obtain⟨d,e,i⟩:=k;cases c with
 |true=>exact⟨d,e,i⟩
 |false=>exact n j f l g d Q e i
theorem GD(d:PT X a tA):PT X (.UnaryOp .Not a pos) (Kj tA):=by
 intro e s f H Q I h;exact isTrue_not (d e s f H (λc b=>Q (!c) b) I h)
def IS(ta tb:TE):TE:=λb H Q=>ta b H λx a=>∃c,x=.bl c/\if c=true then tb b a Q else Q (.bl false) a
def KC(ta tb:TE):TE:=λb H Q=>ta b H λx a=>∃c,x=.bl c/\if c=true then Q (.bl true) a else tb b a Q
def Iy(ta:TE):TE:=λb H Q=>ta b H λx a=>∃c,x=.bl c/\Q (.bl (!c)) a
theorem Ii{op}{t:TE}(h:PE X a t):PE X (.BoolOp op [a] pos) t:=λb s c H Q I d=>BoolOp_one (h b s c H Q I d)
theorem CQ(n:PE X a ta)(k:PE X (.BoolOp .And (b::rest) pos) tb):PE X (.BoolOp .And (a::b::rest) pos) (IS ta tb):=by
 intro f s g H Q I h;refine BoolOp_and (thn (n f s g H _ I h) λv m l=>?_);obtain⟨x,e,i,j,d⟩:=l;obtain⟨c,rfl,d⟩:=d;cases j;refine Mr ?_;cases c with
 |true=>exact k f m g e Q i d
 |false=>exact⟨.bl false,e,i,rfl,d⟩
theorem FZ(n:PE X a ta)(k:PE X (.BoolOp .Or (b::rest) pos) tb):PE X (.BoolOp .Or (a::b::rest) pos) (KC ta tb):=by
 intro f s g H Q I h;refine BoolOp_or (thn (n f s g H _ I h) λv m l=>?_);obtain⟨x,e,i,j,d⟩:=l;obtain⟨c,rfl,d⟩:=d;cases j;refine Mr ?_;cases c with
 |false=>exact k f m g e Q i d
 |true=>exact⟨.bl true,e,i,rfl,d⟩
theorem Gg(i:PE X a ta):PE X (.UnaryOp .Not a pos) (Iy ta):=by
 intro j s k H Q I h;refine UnaryOp_ (thn (i j s k H _ I h) λv l g=>?_);obtain⟨x,d,e,f,b⟩:=g;obtain⟨c,rfl,b⟩:=b;cases f;exact not_of (Mr ⟨.bl (!c),d,e,rfl,b⟩)
def tIf(t:TT)(ta tb:TE):TE:=λa H Q=>t a H λc b=>if c=true then ta a b Q else tb a b Q
theorem tG{c:Expr}(n:PT X c tA)(m:PE X a ta)(o:PE X b tb):PE X (.IfExp c a b pos) (tIf tA ta tb):=by
 intro e s f H Q I h;refine wpAny_IfExp (thn (n e s f H _ I h) λd j l=>?_);obtain⟨g,i,k⟩:=l;cases d with
 |true=>exact m e j f g Q i k
 |false=>exact o e j f g Q i k
end
def SqL(K:KM)(H:Hp)(a:Lm)(xs:List V):Prop:=
 Rd H a (.lst xs)\/
  ∃(o:Obj) (its:Array K3) (n:Nat),K.lookup a=some o∧o.cls=.type "list"∧o.dict=none∧o.data=.seq its n∧its.size≤sizeLine∧aS xs its.toList
def SqT(K:KM)(H:Hp)(a:Lm)(xs:List V):Prop:=
 Rd H a (.tup xs)\/
  ∃(o:Obj) (its:Array K3) (n:Nat),K.lookup a=some o∧o.cls=.type "tuple"∧o.data=.seq its n∧its.size≤sizeLine∧aS xs its.toList
noncomputable def KA:K3->Option V
 | .none=>some .non
 | .bool b=>some (.bl b)
 | .int i _=>some (.int i)
 | .str x _=>some (.str x)
 | .bytes b _=>some (.byt b)
 | .float b _=>some (.flt b)
 | .ref a=>some (.ref a)
 | .type n=>some (.ty n)
 |_=>none
theorem aR.abs{x:V}{u:K3}(r:aR x u):KA u=some x:=by
 cases x with
 |non=>cases r;rfl
 |bl _=>cases r;rfl
 |int _=>obtain⟨t,rfl⟩:=r;rfl
 |str _=>obtain⟨t,rfl⟩:=r;rfl
 |byt _=>obtain⟨t,rfl⟩:=r;rfl
 |flt _=>obtain⟨t,rfl⟩:=r;rfl
 |ref _=>cases r;rfl
 |ty _=>cases r;rfl
theorem aR.inj{x y:V}{u:K3}(r:aR x u)(q:aR y u):x=y:=LN (r.abs.symm.trans q.abs)
theorem aS.inj:∀{b a:List V}{c:List K3},aS b c->aS a c->b=a
 |_,_,_,.nil,.nil=>rfl
 |_,_,_,.cons r t,.cons d e=>by rw[r.inj d,aS.inj t e]
section
variable {X:Cx}{Wz:List (Lm×Obj)}{σ:St}{H:Hp}{s:K8}{a:Lm}{xs ys:List V}
theorem SqL.of{K:KM}(h:H a=some (.lst xs)):SqL K H a xs:=.inl (.inl h)
theorem SqT.of{K:KM}(h:H a=some (.tup xs)):SqT K H a xs:=.inl (.inl h)
theorem Inv.list(I:Inv X Wz σ H s)(h:SqL X.K H a xs):∃its:List K3,aS xs its/\PlainL s.heap a its.toArray/\xs.length<=sizeLine:=by
 rcases h with h |⟨o,its,n,b,f,c,d,g,r⟩
 .obtain⟨z,its,n,r,e⟩:=h.ok I.hok;exact⟨its,r,⟨_,n,e,rfl,rfl,rfl⟩,z⟩
 .refine⟨its.toList,r,⟨o,n,I.kIn a o b,f,c,by simpa using d⟩,?_⟩;have e:=r.length;simp only[Li]at e;lia
theorem Inv.tuple(I:Inv X Wz σ H s)(h:SqT X.K H a xs):∃its:List K3,aS xs its/\SL s.heap a its.toArray/\xs.length<=sizeLine:=by
 rcases h with h |⟨o,its,n,b,d,c,f,r⟩
 .obtain⟨z,its,r,p⟩:=h.ok I.hok;exact⟨its,r,p,z⟩
 .refine⟨its.toList,r,⟨o,I.kIn a o b,d,n,by simpa using c⟩,?_⟩;have e:=r.length;simp only[Li]at e;lia
theorem Inv.list_inj(I:Inv X Wz σ H s)(h:SqL X.K H a xs)(h':SqL X.K H a ys):xs=ys:=by
 obtain⟨its,r,⟨o,n,e,_,_,d⟩,_⟩:=I.list h;obtain⟨b,g,⟨i,j,f,_,_,c⟩,_⟩:=I.list h';rw[e]at f;cases f;rw[d]at c;injection c with d1 _
 have:its=b:=by simpa using congrArg Ug d1
 subst this;exact r.inj g
theorem Inv.tuple_inj(I:Inv X Wz σ H s)(h:SqT X.K H a xs)(h':SqT X.K H a ys):xs=ys:=by
 obtain⟨its,r,⟨o,e,_,n,d⟩,_⟩:=I.tuple h;obtain⟨b,g,⟨i,f,_,j,c⟩,_⟩:=I.tuple h';rw[e]at f;cases f;rw[d]at c;injection c with d1 _
 have:its=b:=by simpa using congrArg Ug d1
 subst this;exact r.inj g
end
abbrev Cx.wish(X:Cx)(E:K3->K8->Prop):Cx:={X with xe:=E }
abbrev Cx.nox(X:Cx):Cx:=X.wish λ_ _=>False
theorem Cx.Ok.wish{X:Cx}(a:X.Ok)(E:K3->K8->Prop):(X.wish E).Ok:=
 ⟨a.mod,a.kind,a.glob,a.blt,a.above,a.inj,a.has,a.cab,a.hd,a.frames,a.stk,a.exf,a.bs,a.bsz,a.noex,a.exfs,a.funs,a.frf⟩
theorem Cx.Ok.unwish{X:Cx}{E:K3->K8->Prop}(a:(X.wish E).Ok):X.Ok:=
 ⟨a.mod,a.kind,a.glob,a.blt,a.above,a.inj,a.has,a.cab,a.hd,a.frames,a.stk,a.exf,a.bs,a.bsz,a.noex,a.exfs,a.funs,a.frf⟩
section
variable {X:Cx}{Wz:List (Lm×Obj)}{σ:St}{H:Hp}{s:K8}{E:K3→K8→Prop}
theorem Inv.wish(I:Inv X Wz σ H s)(E:K3->K8->Prop):Inv (X.wish E) Wz σ H s:=⟨I.ok.wish E,I.os,I.bare,I.base,I.loc,I.cell,I.free,I.freeC,I.pin,I.hok,I.len⟩
theorem Inv.unwish(I:Inv (X.wish E) Wz σ H s):Inv X Wz σ H s:=⟨I.ok.unwish,I.os,I.bare,I.base,I.loc,I.cell,I.free,I.freeC,I.pin,I.hok,I.len⟩
theorem SP.unwish{D:p9}{f:Flow}{c:K8}(h:SP (X.wish E) Wz D f c):SP X Wz D f c:=by
 cases f with
 |next=>obtain⟨b,a,I,q⟩:=h;exact⟨b,a,I.unwish,q⟩
 |brk=>obtain⟨b,a,I,q⟩:=h;exact⟨b,a,I.unwish,q⟩
 |cont=>obtain⟨b,a,I,q⟩:=h;exact⟨b,a,I.unwish,q⟩
 |ret u=>obtain⟨v,b,a,I,r,q⟩:=h;exact⟨v,b,a,I.unwish,r,q⟩
theorem PSs.nox{a:List Nz}{t:TS}(h:PSs X.nox a t):PSs X a t:=λWz s σ H D I b=>
 Oy (h Wz s σ H D (I.wish _) b) (λ_ _ q=>q.unwish) λ_ _ z=>False.elim z
end
section
variable {X:Cx}{st:Nz}{rest:List Nz}{t u:TS}{e:Expr}{te:TE}{pos:Pos}
def Jm:TS:=λD a H=>D.nx a H
def Kp(t u:TS):TS:=λD a H=>t {D with nx:=u D } a H
theorem Fz:PSs X [] Jm:=λ_ _ a H _ I h=>QA ⟨a,H,I,h⟩
theorem Bd(i:PS X st t)(b:PSs X rest u):PSs X (st::rest) (Kp t u):=by
 intro a s e H D I h;refine Ut (thn (i a s e H {D with nx:=u D } I h) λf c q=>?_);cases f with
 |next=>
  obtain⟨g,d,j,q⟩:=q;exact b a c g d D j q
 |ret v=>exact q
 |brk=>exact q
 |cont=>exact q
theorem DE(c:PS X st t):PSs X [st] t:=by
 intro a s b H D I h;refine Ut (thn (c a s b H D I h) λf d q=>?_);cases f with
 |next=>exact QA q
 |ret v=>exact q
 |brk=>exact q
 |cont=>exact q
theorem Inv.quiet{a:List (Lm×Obj)}{b:St}{H:Hp}{s:K8}(I:Inv X a b H s):interactive X.env=false:=by simp[interactive,I.ok.kind]
def IT(te:TE):TS:=λD a H=>te a H λ_ b=>D.nx a b
theorem lK(f:PE X e te)(hs:autoParam (NX e none pos.line X.env=pure false) w4):PS X (.Expr e pos) (IT te):=by
 intro d s a H D I h;exact wpAny_Expr_any (thn (f d s a H _ I h) λv j ⟨x,b,c,i,g⟩=>⟨a,b,c,g⟩) I.quiet hs
def J8(te:TE):TS:=λD a H=>te a H D.rt
theorem m7(g:PE X e te):PS X (.Return (some e) pos) (J8 te):=by
 intro f s a H D I h;exact wpAny_Return_some (thn (g f s a H _ I h) λv j ⟨x,b,c,d,i⟩=>⟨x,a,b,c,d,i⟩)
def Kh(c:TT)(t u:TS):TS:=λD a H=>c a H λb d=>if b=true then t D a d else u D a d
theorem CU{c:Expr}{a b:List Nz}{k:TT}(m:PT X c k)(p:PSs X a t)(n:PSs X b u):PS X (.If c a b pos) (Kh k t u):=by
 intro e s f H D I h;refine wpAny_If (thn (m e s f H _ I h) λd l o=>?_);obtain⟨g,j,i⟩:=o;cases d with
 |true=>exact p e l f g D j i
 |false=>exact n e l f g D j i
end
abbrev TG:=V->St->Hp->(St->Hp->Prop)->Prop
abbrev TGs:=List V->St->Hp->(St->Hp->Prop)->Prop
def PG(X:Cx)(a:Expr)(t:TG):Prop:=
 ∀(c:List (Lm×Obj)) (s:K8) (d:St) (H:Hp) (v:V) (u:K3) (Q:St->Hp->Prop),Inv X c d H s->aR v u->t v d H Q->
  LH (LM X.prog X.w) X.A (assign a X.env u) (λ_ f=>∃e b,Inv X c e b f/\Q e b) X.xe s
def PGs(X:Cx)(h:List Expr)(t:TGs):Prop:=
 ∀(b:List (Lm×Obj)) (s:K8) (c:St) (H:Hp) (d:List V) (f:List K3) (Q:St->Hp->Prop),Inv X b c H s->aS d f->t d c H Q->
  LH (LM X.prog X.w) X.A (Ta ((Pv h X.env).map (·.2)) f) (λ_ g=>∃e a,Inv X b e a g/\Q e a) X.xe s
section
variable {X:Cx}{pos:Pos}
def tQ(i:Nat):TG:=λv a H Q=>Q (a.set i (some v)) H
theorem aB{i:Nat}{x:Str}(d:X.N.Nodup)(c:X.N[i]?=some x)(b:Loc X.env.scope x)(a:autoParam (X.fn x=true\/X.env.scope.names.lookup x=some .local) q0):PG X (.Name x pos) (tQ i):=by
 intro g s j H v u Q I r h;exact TJ (jy I d c b r (λf e=>⟨_,H,e,h⟩) a)
def Jq:TGs:=λa b H Q=>a=[]/\Q b H
def Gd(t:TG)(u:TGs):TGs:=λc b H Q=>∃v r,c=v::r/\t v b H λd a=>u r d a Q
theorem bO:PGs X [] Jq:=by
 intro b s a H c d Q I r h;obtain⟨e,h⟩:=h;subst e;cases r;exact TM ⟨a,H,I,h⟩
theorem aC{e:Expr}{a:List Expr}{t:TG}{u:TGs}(o:PG X e t)(k:PGs X a u)
  (hs:autoParam ((Pv (e::a) X.env).map (·.2)=assign e X.env::(Pv a X.env).map (·.2)) w4):PGs X (e::a) (Gd t u):=by
 intro c s i H p w Q I r h;obtain⟨v,q,g,h⟩:=h;subst g;cases r with
 |cons r n=>
  rw[hs];refine QQ (thn (o c s i H _ _ _ I r h) λ_ m l=>?_);obtain⟨b,d,j,f⟩:=l;exact k c m b d _ _ Q j n f
def Il(K:KM)(n:Nat)(t:TGs):TG:=λv c H Q=>∃a b,v=.ref a/\SqT K H a b/\b.length=n/\t b c H Q
theorem c6{c:List Expr}{k:Nat}{t:TGs}{n:Nat}(m:X.calm=true)(h:PGs X c t)
  (hn:autoParam ((Pv c X.env).length=n) w4) (Xd:autoParam ((Pv c X.env).findIdx? (·.1)=none) w4):PG X (.Tuple c k pos) (Il X.K n t):=by
 intro g s i H v u Q I r d;obtain⟨a,q,p,l,z,d⟩:=d;subst p;cases r;obtain⟨its,f,x,A⟩:=I.tuple l;refine assign_Tuple_tuple (I.ok.hd m) x (by simp[hn,<-z,f.length]) Xd λy j=>?_;have w:Inv X g i H {s with heap:=y }:=I.kept (t':=s.toks) λb o e=>j b o (LA (Lc e)) e;exact h g _ i H q _ Q w (by simpa using f) d
def Gw(c:TE)(g:TG):TS:=λD a H=>c a H λx b=>g x a b D.nx
theorem HM{a e:Expr}{d:TE}{g:TG}(i:PE X e d)(p:PG X a g)(hs:autoParam (Rl [a] e pos.line X.env=pure false) w4)(m:autoParam (Rm [a] e X.env=pure none) w4)
  (h1:autoParam ((Pv [a] X.env).map (·.2)=[assign a X.env]) w4):PS X (.Assign [a] e pos) (Gw d g):=by
 intro b s c H D I h;refine wpAny_Assign_stores (thn (i b s c H _ I h) λv o n=>?_) hs m;obtain⟨x,f,l,k,j⟩:=n;rw[h1];exact thn (p b o c f x v _ l k j) λ_ r q=>q
theorem v6{i:Nat}{x:Str}{e:Expr}{b:TE}{a:Pos}(n:X.N.Nodup)(o:X.N[i]?=some x)(f:Loc X.env.scope x)(j:PE X e b)(hs:autoParam (NX e (some (.Name x a)) pos.line X.env=pure false) w4)(d:autoParam (X.fn x=true\/X.env.scope.names.lookup x=some .local) q0):
  PS X (.Assign [.Name x a] e pos) (Gw b (tQ i)):=by
 intro g s m H D I h;refine wpAny_Assign_Name (thn (j g s m H _ I h) λv u r=>?_) hs;obtain⟨y,c,p,l,k⟩:=r;exact jy p n o f l (λt q=>⟨_,c,q,k⟩) d
def J3(i j:Nat)(ta:TA):TS:=λD a H=>ta a H λc b=>∃v w,c=[v,w]/\D.nx ((a.set i (some v)).set j (some w)) b
theorem Gv{i j:Nat}{x y:Str}{a b:Expr}{ta:TA}{m k l:Pos}{kt k2 pt2}(C:X.calm=true)(z:X.N.Nodup)(L:X.N[i]?=some x)(Q:X.N[j]?=some y)(T:i≠j)
  (hx:X.env.scope.names.lookup x=some .local) (hy:X.env.scope.names.lookup y=some .local) (ha:PA X [a,b] ta)
  (hw:Rm [.Tuple [.Name x m,.Name y k] kt l] (.Tuple [a,b] k2 pt2) X.env=pure (some [x,y]))
  (hs:autoParam (Rl [.Tuple [.Name x m,.Name y k] kt l] (.Tuple [a,b] k2 pt2) pos.line X.env=pure false) w4):
  PS X (.Assign [.Tuple [.Name x m,.Name y k] kt l] (.Tuple [a,b] k2 pt2) pos) (J3 i j ta):=by
 intro r s t H D I h;rw[exec_Assign_arm];refine KL (Tc ?_);rw[hs];refine KL (KY ?_);rw[if_neg (by decide)];refine KL (Tuple_ (thn (ha _ r s t H _ I h) λR f U=>?_));obtain⟨W,n,M,G,g⟩:=U;obtain⟨v,w,J,g⟩:=g;subst J
 obtain⟨c,d,rfl,F,E⟩:∃c d,R=[c,d]/\aR v c/\aR w d:=by
  cases G with
  |cons p q=>
   cases q with
   |cons B O=>
    cases O;exact⟨_,_,rfl,p,B⟩
 refine N4 ?_ (by show 2<=sizeLine;decide);have P:Inv X r t n {f with heap:=f.heap.push {cls:=.type "tuple",data:=.seq [c,d].toArray } }:=M.kept (t':=f.toks) λb o e=>KU _ e;rw[hw];refine KL (KY ?_);show LH (LM X.prog X.w) X.A (do rule "assign.swapped-stores";let items ←unpackItems (.ref f.heap.objs.size) 2 none;Ta [λv=>VA X.env y v,λv=>VA X.env x v] items.reverse;pure Flow.next) _ _ _;refine KL (P7 (KL (unpackItems_tuple (items:=#[c,d]) (I.ok.hd C) (IsTup.new f.heap _) λh' K=>?_)));have V:=P.kept (h':=h') (t':=f.toks) λb o e=>K b o (LA (Lc e)) e;show LH _ _ (Ta [λv=>VA X.env y v,λv=>VA X.env x v] [d,c] >>=λ_=>pure Flow.next) _ _ _;refine KL (QQ (Vc (jy V z Q (.inl hy) E (λY S=>?_) (.inr hy))));refine QQ (Vc (jy S z L (.inl hx) F (λZ u=>TM (KY ?_)) (.inr hx)));rw[List.set_comm _ _ (Ne.symm T)]at u;exact⟨_,n,u,g⟩
noncomputable def Hy(c:TT)(tb:TS):TS:=λD a H=>∃W:Nat->St->Hp->Prop,(∃m,W m a H)/\∀m a H,W m a H->
 c a H λb d=>if b=true then ∃N:St->Hp->Prop,(∀g f,N g f->∃e,e<m/\W e g f)/\tb {D with nx:=N,ct:=N,bk:=D.nx } a d else D.nx a d
theorem Bc{c:Expr}{C:List Nz}{E:TT}{tb:TS}(t:RY (LM X.prog X.w) X.A X.env X.xe)(F:PT X c E)(G:PSs X C tb):PS X (.While c C [] pos) (Hy E tb):=by
 intro m s K H D I h;obtain⟨W,⟨Q,P⟩,d⟩:=h;refine wpAny_While (codeAny_whileLoop (λn J=>∃x y,Inv X m x y J/\W n x y) ?_ Q ⟨K,H,I,P⟩);rintro n R ⟨a,r,M,O⟩;refine Oz t (thn (F m R a r _ M (d n a r O)) λb L S=>?_);obtain⟨u,B,i⟩:=S;cases b with
 |true=>
  obtain⟨N,z,i⟩:=i;rw[if_pos rfl];refine Oz t (thn (G m L a u _ B i) λf T j=>?_);cases f with
  |next=>
   obtain⟨g,e,q,p⟩:=j;obtain⟨o,l,k⟩:=z g e p;exact⟨o,l,g,e,q,k⟩
  |cont=>
   obtain⟨g,e,q,p⟩:=j;obtain⟨o,l,k⟩:=z g e p;exact⟨o,l,g,e,q,k⟩
  |brk=>exact j
  |ret v=>exact j
 |false=>
  rw[if_neg Mj];exact QA ⟨a,u,B,i⟩
end
structure It where
 go:Nat->Hp->Prop
 yld:Nat->Hp->V->Hp->Prop
 stop:Nat->Hp->Prop
def lD(X:Cx)(a:List (Lm×Obj))(H:Hp)(b:Lm):Prop:=
 H b=none/\b≠X.env.locals/\b ∉ X.fs/\(b∈X.ex\/X.s₀.heap.objs.size<=b)/\(∀x c,X.env.cells.lookup x=some c->c≠b)/\∀p∈X.pn++a,p.1≠b
theorem Inv.fpOk{X:Cx}{f:List (Lm×Obj)}{h:St}{H d:Hp}{s:K8}{b:Lm}(I:Inv X f h H s)(a:s.heap.objs.size<=b)(i:d b=none):lD X f d b:=by
 refine⟨i,Pw (Ls I.lt a),I.nofs a,.inr (Mh I.sz a),λx c e z=>?_,λp g z=>?_⟩
 .obtain⟨v,q⟩:=I.cell x c e;exact absurd (Ls q.lt (by rw[z];exact a)) (LS _)
 .exact absurd (Ls (Lc (I.pin p g).1) (by rw[z];exact a)) (LS _)
structure vL(P:Lg)(w:LL)(K:KM)(tg:Expr)(J:It)(fp:List Lm)(it:Lm)(tn:Nat->Nh->Prop):Prop where
 mem:it∈fp
 obj:∀i h,tn i h->∀b∈fp,∃o,h.get? b=some o/\∀v,o.data≠.cell v
 keep:∀i h h',tn i h->(∀b∈fp,∀o,h.get? b=some o->h'.get? b=some o)->tn i h'
 item:∀(X:Cx),X.prog=P->X.w=w->X.K=K->X.calm=true->∀(i:Nat) (Wz:List (Lm×Obj)) (s:K8) (σ:St) (H:Hp) (E:K3->K8->Prop),Inv X Wz σ H s->(∀b∈fp,lD X Wz H b)->tn i s.heap->J.go i H->
  LH (LM P w) X.A (SW (.ref it)) (λr s1=>∃u,r=some u/\
   LH (LM P w) X.A (RZ tg (.ref it) u) (λ_ s2=>∃x H',Inv X Wz σ H' s2/\aR x u/\J.yld i H x H'/\tn (i+1) s2.heap/\∀b∈fp,H' b=none) E s1) E s
 done:∀(X:Cx),X.prog=P->X.w=w->X.K=K->X.calm=true->∀(i:Nat) (Wz:List (Lm×Obj)) (s:K8) (σ:St) (H:Hp) (E:K3->K8->Prop),Inv X Wz σ H s->(∀b∈fp,lD X Wz H b)->tn i s.heap->J.stop i H->
  LH (LM P w) X.A (SW (.ref it)) (λr s1=>r=none/\Inv X Wz σ H s1) E s
 self:∀(A:L7) (i:Nat) (s:K8) (Q:K3->K8->Prop) (E:K3->K8->Prop),tn i s.heap->Q (.ref it) s->LH (LM P w) A (Uh (.ref it)) Q E s
abbrev TI:=St->Hp->(It->Hp->Prop)->Prop
def PIE(X:Cx)(e:List (Lm×Obj))(j:St)(i:Expr)(R:It->Hp->Prop)(c:K3)(h:K8):Prop:=
 ∃(g:Lm) (d:List Lm) (f:Nat->Nh->Prop) (J:It) (a:Hp),c=.ref g/\Inv X e j a h/\vL X.prog X.w X.K i J d g f/\f 0 h.heap/\(∀b∈d,lD X e a b)/\R J a
def PI(X:Cx)(e a:Expr)(f:TI):Prop:=
 ∀(c:List (Lm×Obj)) (s:K8) (b:St) (H:Hp) (R:It->Hp->Prop),Inv X c b H s->f b H R->
  LH (LM X.prog X.w) X.A (Nq a X.env) (λv d=>LH (LM X.prog X.w) X.A (Uh v) (PIE X c b e R) X.xe d) X.xe s
theorem sr{M:Model}{A:L7}{E:K3->K8->Prop}{s:K8}{a:Expr}{b:Lm}{u:K3}{o:Obj}{n:String}{vs:Array K3}{Q:Unit->K8->Prop}(e:s.heap.get? b=some o)(d:o.cls=.type n)(c:o.data=.fields vs)
  (hn:["enumerate","zip","dict_itemiterator","dict_reverseitemiterator","odict_iterator","itertools.zip_longest","itertools.pairwise"].contains n=false) (hQ:Q () s):LH M A (RZ a (.ref b) u) Q E s:=by
 unfold RZ
 cases a <;>first
  |exact KY hQ
  | (cases u <;>first
    |exact KY hQ
    | (refine KL (wpAny_load e ?_)
       rw[d,c];show LH M A (if (["enumerate","zip","dict_itemiterator","dict_reverseitemiterator","odict_iterator","itertools.zip_longest","itertools.pairwise"].contains n && vs[0]?==some (RC _))=true then _ else _) Q E s;rw[if_neg (by intro h;rw[hn,Bool.false_and]at h;cases h)];exact KY hQ))
def Itl(K:KM)(a:Lm):It:=
 ⟨λi H=>∃b x,SqL K H a b/\b[i]?=some x,λi H x c=>c=H/\∀b,SqL K H a b->b[i]?=some x,λi H=>∃b,SqL K H a b/\b.length<=i⟩
def Itt(K:KM)(a:Lm):It:=
 ⟨λi H=>∃b x,SqT K H a b/\b[i]?=some x,λi H x c=>c=H/\∀b,SqT K H a b->b[i]?=some x,λi H=>∃b,SqT K H a b/\b.length<=i⟩
def Itr(b:Int)(n:Nat):It:=⟨λi _=>i<n,λi H x a=>a=H/\x=.int (b+i),λi _=>n<=i⟩
theorem yX{P:Lg}{w:LL}{K:KM}{Q:Expr}(a j:Lm):vL P w K Q (Itl K a) [j] j (λi h=>h.IsListIter j a i) where
 mem:=by simp
 obj:=λi h f b g=>by
  have e:b=j:=by simpa using g
  subst e;obtain⟨o,e,c,d⟩:=f;exact⟨o,e,λv z=>by rw[d]at z;cases z⟩
 keep:=λi h n f k=>f.at λo e=>k j (by simp) o e
 item:=by
  intro X C D J M i N s O H E I l f G;subst C D J;obtain⟨T,x,m,q⟩:=G;obtain⟨its,r,p,W⟩:=I.list m;obtain⟨u,Z,U⟩:=r.get q;obtain⟨B,F,Y,t,y,A⟩:=l j (by simp);refine wpAny_pyNext_list_item f p.isList (x:=u) (by simpa using Z) λn L R=>?_;have V:Inv X N O H {s with heap:=n }:=I.turned (t':=s.toks) (λb o g e=>(R.2 b g).trans e) B F t y A;obtain⟨o,e,c,d⟩:=id L;exact⟨u,rfl,sr (s:={s with heap:=n }) e c d (by decide) ⟨x,H,V,U,⟨rfl,λys hy=>by rw[I.list_inj hy m];exact q⟩,L,λb g=>(l b g).1⟩⟩
 done:=by
  intro X C D J M i N s O H E I l f G;subst C D J;obtain⟨T,m,q⟩:=G;obtain⟨its,r,p,W⟩:=I.list m;obtain⟨B,F,Y,t,y,A⟩:=l j (by simp);have hl:=r.length;exact wpAny_pyNext_list_end (I.ok.hd M) f p.isList (by simp;lia) λn S=>⟨rfl,I.turned (t':=s.toks) (λb o g e=>S b o g e) B F t y A⟩
 self:=λ_ _ _ _ _ f h=>wpAny_pyIter_listiter f h
theorem vN{P:Lg}{w:LL}{K:KM}{Q:Expr}(a j:Lm):vL P w K Q (Itt K a) [j] j (λi h=>h.IsTupleIter j a i) where
 mem:=by simp
 obj:=λi h f b g=>by
  have e:b=j:=by simpa using g
  subst e;obtain⟨o,e,c,d⟩:=f;exact⟨o,e,λv z=>by rw[d]at z;cases z⟩
 keep:=λi h n f k=>f.at λo e=>k j (by simp) o e
 item:=by
  intro X C D J M i N s O H E I l f G;subst C D J;obtain⟨T,x,m,q⟩:=G;obtain⟨its,r,p,W⟩:=I.tuple m;obtain⟨u,Z,U⟩:=r.get q;obtain⟨B,F,Y,t,y,A⟩:=l j (by simp);refine wpAny_pyNext_tuple_item f (show s.heap.IsTuple a its.toArray from p) (x:=u) (by simpa using Z) λn L R=>?_;have V:Inv X N O H {s with heap:=n }:=I.turned (t':=s.toks) (λb o g e=>(R.2 b g).trans e) B F t y A;obtain⟨o,e,c,d⟩:=id L;exact⟨u,rfl,sr (s:={s with heap:=n }) e c d (by decide) ⟨x,H,V,U,⟨rfl,λys hy=>by rw[I.tuple_inj hy m];exact q⟩,L,λb g=>(l b g).1⟩⟩
 done:=by
  intro X C D J M i N s O H E I l f G;subst C D J;obtain⟨T,m,q⟩:=G;obtain⟨its,r,p,W⟩:=I.tuple m;obtain⟨B,F,Y,t,y,A⟩:=l j (by simp);have hl:=r.length;exact wpAny_pyNext_tuple_end (I.ok.hd M) f (show s.heap.IsTuple a its.toArray from p) (by simp;omega) λn S=>⟨rfl,I.turned (t':=s.toks) (λb o g e=>S b o g e) B F t y A⟩
 self:=λ_ _ _ _ _ f h=>wpAny_pyIter_tupleiter f h
theorem n6{P:Lg}{w:LL}{K:KM}{J:Expr}(c:Lm)(j:Int)(n:Nat):vL P w K J (Itr j n) [c] c (λi h=>UP h c (j+(i:Nat) *1) ((n:Int)-(i:Nat)) 1) where
 mem:=by simp
 obj:=λi h a b d=>by
  have e:b=c:=by simpa using d
  subst e
  exact⟨_,a,λv z=>by
   have O:Data.fields _=Data.cell v:=z;cases O⟩
 keep:=λi h g a k=>k c (by simp) _ a
 item:=by
  intro X u x B l i D s G H E I f a A;subst u x B;obtain⟨r,y,N,m,p,q⟩:=f c (by simp);have W:=Walks.range (prog:=X.prog) (w:=X.w) (I.ok.hd l) c j 1 n;refine W.item i s _ _ A a λv g F Q C R=>?_;obtain⟨t,rfl⟩:=Q;have M:Inv X D G H {s with heap:=g,toks:=F }:=I.turned (λb o d e=>R b o (by simpa using d) e) r y m p q;refine⟨_,rfl,sr (s:={s with heap:=g,toks:=F }) (n:="range_iterator") C rfl rfl (by decide) ⟨.int (j+i),H,M,⟨t,?_⟩,⟨rfl,rfl⟩,C,λb d=>(f b d).1⟩⟩;rw[Rn]
 done:=by
  intro X u x B l i D s G H E I f a A;subst u x B;obtain⟨r,y,N,m,p,q⟩:=f c (by simp);exact wpAny_pyNext_range_end (I.ok.hd l) a (by have:n<=i:=A;lia) λg L=>⟨rfl,I.turned (t':=s.toks) (λb o d e=>L b o d e) r y m p q⟩
 self:=λ_ _ _ _ _ a h=>wpAny_pyIter_rangeiter a h
section
variable {X:Cx}{tg:Expr}
def Js(K:KM)(c:TE):TI:=λe H R=>c e H λx b=>∃a,x=.ref a/\(∃d,SqL K b a d)/\R (Itl K a) b
def J6(K:KM)(c:TE):TI:=λe H R=>c e H λx b=>∃a,x=.ref a/\(∃d,SqT K b a d)/\R (Itt K a) b
theorem DB{l:Expr}{f:TE}(u:PE X l f):PI X tg l (Js X.K f):=by
 intro j s r H R I h;refine thn (u j s r H _ I h) λv d t=>?_;obtain⟨x,g,c,m,k⟩:=t;obtain⟨a,e,⟨y,i⟩,q⟩:=k;subst e;cases m;obtain⟨its,w,p,z⟩:=c.list i;refine NA p.isList ?_;refine⟨d.heap.objs.size,[d.heap.objs.size],_,_,g,rfl,c.kept (t':=d.toks) λb o e=>KU _ e,yX a _,⟨_,Le _ rfl,rfl,rfl⟩,λb n=>?_,q⟩;have e:b=d.heap.objs.size:=by simpa using n
 subst e;exact c.fpOk (K1 _) (c.hok.fresh (K1 _))
theorem Gq{l:Expr}{f:TE}(u:PE X l f):PI X tg l (J6 X.K f):=by
 intro j s r H R I h;refine thn (u j s r H _ I h) λv c t=>?_;obtain⟨x,g,d,m,k⟩:=t;obtain⟨a,e,⟨y,i⟩,q⟩:=k;subst e;cases m;obtain⟨its,w,p,z⟩:=d.tuple i;refine wpAny_pyIter_tuple (show c.heap.IsTuple a its.toArray from p) ?_;refine⟨c.heap.objs.size,[c.heap.objs.size],_,_,g,rfl,d.kept (t':=c.toks) λb o e=>KU _ e,vN a _,⟨_,Le _ rfl,rfl,rfl⟩,λb n=>?_,q⟩;have e:b=c.heap.objs.size:=by simpa using n
 subst e;exact d.fpOk (K1 _) (d.hok.fresh (K1 _))
theorem sF{d:List (Lm×Obj)}{g:St}{H:Hp}{s:K8}{R:It->Hp->Prop}{E:K3->K8->Prop}{a c:Int}{t u v:Tok}{f:Nat}(I:Inv X d g H s)(p:-(2 ^ 62)<=a)(m:a<2 ^ 62)(n:-(2 ^ 62)<=c)(l:c<2 ^ 62)
  (q:R (Itr a (c-a).toNat) H):LH (LM X.prog X.w) X.A (Uh (.ref s.heap.objs.size)) (PIE X d g tg R) E {s with heap:=s.heap.push {cls:=.type "range",data:=.fields #[.int a t,.int c u,.int 1 v] },toks:=f }:=by
 refine Td (IsRange.new ..) (small_one p m n l) ?_;have h:Inv X d g H {s with heap:=s.heap.push {cls:=.type "range",data:=.fields #[.int a t,.int c u,.int 1 v] },toks:=f }:=I.kept λb o e=>KU _ e
 refine⟨(s.heap.push {cls:=.type "range",data:=.fields #[.int a t,.int c u,.int 1 v] }).objs.size,[(s.heap.push {cls:=.type "range",data:=.fields #[.int a t,.int c u,.int 1 v] }).objs.size],_,_,H,rfl,
  h.kept (t':=f) λb o e=>KU _ e,n6 _ a (c-a).toNat,?_,λb k=>?_,q⟩
 .have j:a+((0:Nat):Int) *1=a:=by simp
  have i:(((c-a).toNat:Nat):Int)-((0:Nat):Int)=Builtin.Range.rangeSize a c 1:=by rw[rangeSize_one];split <;>lia
  show UP _ _ (a+((0:Nat):Int) *1) ((((c-a).toNat:Nat):Int)-((0:Nat):Int)) 1;rw[j,i];exact Le _ rfl
 .have e:b=(s.heap.push {cls:=.type "range",data:=.fields #[.int a t,.int c u,.int 1 v] }).objs.size:=by simpa using k
  subst e;exact h.fpOk (K1 _) (h.hok.fresh (K1 _))
def Jg(ta:TA):TI:=λb H R=>ta b H λc a=>∃j:Int,c=[.int j]/\-(2 ^ 62)<=j/\j<2 ^ 62/\R (Itr 0 j.toNat) a
def IP(ta:TA):TI:=λb H R=>ta b H λc a=>∃i j:Int,c=[.int i,.int j]/\(-(2 ^ 62)<=i/\i<2 ^ 62/\-(2 ^ 62)<=j/\j<2 ^ 62)/\R (Itr i (j-i).toNat) a
theorem Aj{a:Expr}{ta:TA}{p b:Pos}(o:Gl X "range")(d:X.mg "range"=none)(n:PA X [a] ta)(hs:autoParam (K7 [a] X.env=[(false,Nq a X.env)]) w4):PI X tg (.Call (.Name "range" p) [a] [] b) (Jg ta):=by
 intro f s k H R I h;refine Call_ (dj I o d TN (PyProof.Rows.callWith_type1 (thn (n b f s k H _ I h) λx y m=>?_) hs rfl));obtain⟨w,v,l,i,c⟩:=m;obtain⟨j,e,c,g,q⟩:=c;subst e;cases i with
 |cons r u=>
  cases u;obtain⟨t,rfl⟩:=r;exact call_range_1 (sF l (by lia) (by lia) c g (by simpa using q))
theorem yZ{a b:Expr}{ta:TA}{p c:Pos}(y:Gl X "range")(k:X.mg "range"=none)(x:PA X [a,b] ta)(hs:autoParam (K7 [a,b] X.env=[(false,Nq a X.env),(false,Nq b X.env)]) w4)(g:autoParam (K7 [b] X.env=[(false,Nq b X.env)]) w4):
  PI X tg (.Call (.Name "range" p) [a,b] [] c) (IP ta):=by
 intro l s u H R I h;refine Call_ (dj I y k TN (PyProof.Rows.callWith_type1 (thn (x c l s u H _ I h) λC D ⟨B,A,v,n,d⟩=>?_) (by rw[hs,g]) (by rw[g];rfl)));obtain⟨i,j,e,⟨d,m,z,w⟩,q⟩:=d;subst e;cases n with
 |cons r f=>
  cases f with
  |cons o f=>
   cases f;obtain⟨t,rfl⟩:=r;obtain⟨E,rfl⟩:=o;exact call_range_2 (sF v d m z w q)
noncomputable def J5(j:TI)(g:TG)(tb:TS):TS:=λD a H=>j a H λJ f=>∃W:Nat->Nat->St->Hp->Prop,(∃m,W 0 m a f)/\∀i m a H,W i m a H->
 (J.stop i H/\D.nx a H)\/(J.go i H/\∃N:St->Hp->Prop,(∀e b,N e b->∃d,d<m/\W (i+1) d e b)/\∀x b,J.yld i H x b->g x a b λc h=>tb {D with nx:=N,ct:=N,bk:=D.nx } c h)
def ko(a:List Lm)(h:Nh):List (Lm×Obj):=a.filterMap λb=>(h.get? b).map λo=>(b,o)
theorem gx{a:List Lm}{h:Nh}{b:Lm}{o:Obj}(c:b∈a)(e:h.get? b=some o):(b,o)∈ko a h:=QR.mpr ⟨b,c,by rw[e];rfl⟩
theorem zi{a:List Lm}{h:Nh}{p:Lm×Obj}(c:p∈ko a h):p.1∈a/\h.get? p.1=some p.2:=by
 obtain⟨b,d,e⟩:=QR.mp c;cases q:h.get? b with
 |none=>rw[q]at e;cases e
 |some o=>
  rw[q]at e;have f:(b,o)=p:=LN e;subst f;exact⟨d,q⟩
theorem Inv.pinned{a:List (Lm×Obj)}{h:St}{H:Hp}{s:K8}{c:List Lm}(I:Inv X a h H s)(j:∀b∈c,lD X a H b)(k:∀b∈c,∃o,s.heap.get? b=some o/\∀v,o.data≠.cell v):Inv X (a++ko c s.heap) h H s:=
 I.pins_of λp i=>(LG.mp i).elim (λz=>I.pin p (Lv _ z)) λz=>by
  obtain⟨g,e⟩:=zi z;obtain⟨m,n,l,_⟩:=j p.1 g;obtain⟨o,f,d⟩:=k p.1 g;rw[e]at f;cases f;exact⟨e,m,n,l,d⟩
theorem Inv.unpinned{a pl:List (Lm×Obj)}{b:St}{H:Hp}{s:K8}(I:Inv X (a++pl) b H s):Inv X a b H s:=I.pins_of λp c=>I.pin p (Lv _ (LI _ c))
theorem GZ{c:Expr}{WW:List Nz}{wi:TI}{g:TG}{tb:TS}{pos:Pos}(P:RY (LM X.prog X.w) X.A X.env X.xe)(hc:X.calm=true)(hi:PI X tg c wi)(hg:PG X tg g)(q:PSs X WW tb)
  (hs:autoParam (∀x,Ms c X.env x=pure x) q4):PS X (.For tg c WW [] pos) (J5 wi g tb):=by
 intro z s σ H D I h;refine wpAny_For (thn (hi z s σ H _ I h) λv s1 h1=>thn h1 λitv s2 h2=>?_) hs;obtain⟨it,E,tn,J,H2,e,I2,T,Y,f2,W,⟨m0,w0⟩,G⟩:=h2;subst e;have k:∀{t:Hp},(∀b∈E,t b=none)->∀b∈E,lD X z t b:=λhn b q=>⟨hn b q,(f2 b q).2⟩
 refine codeAny_forLoop_any (λn s'=>∃i C t,Inv X z C t s'/\tn i s'.heap/\(∀b∈E,t b=none)/\W i n C t) ?_ m0 ⟨0,σ,H2,I2,Y,λb q=>(f2 b q).1,w0⟩;rintro n s3 ⟨i,M,R,I3,F,O,w3⟩;rcases G i n M R w3 with ⟨K,qn⟩ |⟨go,N,hN,step⟩
 .refine Oz P (thn (T.done X rfl rfl rfl hc i z s3 M R X.xe I3 (k O) F K) λr s4 ⟨hr,I4⟩=>?_);subst hr;exact QA ⟨M,R,I4,qn⟩
 .refine Oz P (thn (T.item X rfl rfl rfl hc i z s3 M R X.xe I3 (k O) F go) λr s4 Q=>?_);obtain⟨u,hr,h4⟩:=Q;subst hr;refine Oz P (thn h4 λ_ s5 Q=>?_);obtain⟨x,H5,I5,r5,y5,B,U⟩:=Q;have S:=I5.pinned (k U) (T.obj _ _ B);refine Oz P (thn (hg _ s5 M H5 x u _ S r5 (step x H5 y5)) λ_ s6 Q=>?_);obtain⟨V,H6,I6,q6⟩:=Q;refine Oz P (thn (q _ s6 V H6 _ I6 q6) λf Z y=>?_)
  have j:∀{a:St}{l:Hp},Inv X (z++ko E s5.heap) a l Z->N a l->∃m,m<n/\∃i C t,Inv X z C t Z/\tn i Z.heap/\(∀b∈E,t b=none)/\W i m C t:=λ{a l} p L=>by
   obtain⟨m',hm,w7⟩:=hN a l L;refine⟨m',hm,i+1,a,l,p.unpinned,T.keep _ _ _ B λb q o e=>(p.pin (b,o) (Lv _ (Lv _ (gx q e)))).1,λb q=>?_,w7⟩;obtain⟨o,e,d⟩:=T.obj _ _ B b q;exact (p.pin (b,o) (Lv _ (Lv _ (gx q e)))).2.1
  cases f with
  |next=>obtain⟨a,l,p,L⟩:=y;exact j p L
  |cont=>obtain⟨a,l,p,L⟩:=y;exact j p L
  |brk=>obtain⟨a,l,p,y⟩:=y;exact⟨a,l,p.unpinned,y⟩
  |ret v=>obtain⟨x7,a,l,p,r7,y⟩:=y;exact⟨x7,a,l,p.unpinned,r7,y⟩
end
abbrev R2:=V->V->Hp->VK->Prop
def OpR(X:Cx)(f:K3->K3->Sem K3)(r:R2):Prop:=
 ∀(a:List (Lm×Obj)) (s:K8) (b:St) (H:Hp) (x y:V) (v u:K3) (Q:VK),Inv X a b H s->aR x v->aR y u->r x y H Q->
  LH (LM X.prog X.w) X.A (f v u) (EP X a b Q) X.xe s
def UnR(X:Cx)(f:K3->Sem K3)(r:V->Hp->VK->Prop):Prop:=
 ∀(a:List (Lm×Obj)) (s:K8) (b:St) (H:Hp) (x:V) (v:K3) (Q:VK),Inv X a b H s->aR x v->r x H Q->
  LH (LM X.prog X.w) X.A (f v) (EP X a b Q) X.xe s
def cp(X:Cx)(f:K3)(r:List V->Hp->VK->Prop):Prop:=
 ∀(b:List (Lm×Obj)) (s:K8) (c:St) (H:Hp) (a:List V) (d:List K3) (Q:VK),Inv X b c H s->aS a d->r a H Q->
  LH (LM X.prog X.w) X.A (call f d) (EP X b c Q) X.xe s
def tOp(r:R2)(ta tb:TE):TE:=λa H Q=>ta a H λx b=>tb a b λy c=>r x y c Q
def tUn(r:V->Hp->VK->Prop)(ta:TE):TE:=λb H Q=>ta b H λx a=>r x a Q
def rI(C:Int->Int->Prop)(g:Int->Int->V):R2:=λx y H Q=>∃i j,x=.int i/\y=.int j/\C i j/\Q (g i j) H
def rI0(g:Int->Int->V):R2:=λx y H Q=>∃i j,x=.int i/\y=.int j/\Q (g i j) H
def rU(g:Int->V):V->Hp->VK->Prop:=λx H Q=>∃i,x=.int i/\Q (g i) H
section
variable {X:Cx}{a b c:Expr}{ta tb tc:TE}{pos:Pos}
theorem GC(B:PE X a ta)(o:PE X b tb){e:List (Lm×Obj)}{s:K8}{d:St}{H:Hp}{R:V->V->Hp->Prop}(I:Inv X e d H s)
  (h:ta d H λx i=>tb d i λy c=>R x y c) {Q:K3->K8->Prop}{f:K3->K3->Sem K3}
  (hf:∀v u g x y c,Inv X e d c g->aR x v->aR y u->R x y c->LH (LM X.prog X.w) X.A (f v u) Q X.xe g):
  LH (LM X.prog X.w) X.A (Nq a X.env) (λv t=>LH (LM X.prog X.w) X.A (Nq b X.env) (λu p=>LH (LM X.prog X.w) X.A (f v u) Q X.xe p) X.xe t) X.xe s:=by
 refine thn (B e s d H _ I h) λv z j=>?_;obtain⟨x,i,q,n,l⟩:=j;refine thn (o e z d i _ q l) λu g j=>?_;obtain⟨y,c,r,m,k⟩:=j;exact hf v u g x y c r n m k
theorem uJ{op:Operator}{r:R2}(d:OpR X (Pk op) r)(l:PE X a ta)(f:PE X b tb):PE X (.BinOp a op b pos) (tOp r ta tb):=by
 intro e s g H Q I h;exact wpAny_BinOp (GC l f I h λv u i x y c k m j q=>d e i g c x y v u Q k m j q)
theorem JV{op:UnaryOp}{r:V->Hp->VK->Prop}(j:UnR X (unaryOp op) r)(i:PE X a ta):PE X (.UnaryOp op a pos) (tUn r ta):=by
 intro b s c H Q I h;exact UnaryOp_ (thn (i b s c H _ I h) λv g ⟨x,d,e,f,k⟩=>j b g c d x v Q e f k)
theorem opI{f:K3->K3->Sem K3}{C:Int->Int->Prop}{g:Int->Int->Int}
  (rule:∀(i j:Int) (t u:Tok) (s:K8) (Q:K3->K8->Prop) (E:K3->K8->Prop),C i j->Q (.int (g i j) s.toks) {s with toks:=s.toks+1 }->LH (LM X.prog X.w) X.A (f (.int i t) (.int j u)) Q E s):
  OpR X f (rI C λi j=>.int (g i j)):=by
 intro e s k H x y v u Q I c b h;obtain⟨i,j,rfl,rfl,a,q⟩:=h;obtain⟨t,rfl⟩:=c;obtain⟨d,rfl⟩:=b;exact rule i j t d s _ _ a ⟨.int (g i j),H,I.tok _,⟨_,rfl⟩,q⟩
theorem JP{f:K3->K3->Sem K3}{g:Int->Int->Int}
  (rule:∀(i j:Int) (t u:Tok) (s:K8) (Q:K3->K8->Prop) (E:K3->K8->Prop),Q (.int (g i j) s.toks) {s with toks:=s.toks+1 }->LH (LM X.prog X.w) X.A (f (.int i t) (.int j u)) Q E s):
  OpR X f (rI0 λi j=>.int (g i j)):=by
 intro d s e H x y v u Q I b a h;obtain⟨i,j,rfl,rfl,q⟩:=h;obtain⟨t,rfl⟩:=b;obtain⟨c,rfl⟩:=a;exact rule i j t c s _ _ ⟨.int (g i j),H,I.tok _,⟨_,rfl⟩,q⟩
theorem DL{f:K3->K3->Sem K3}{g:Int->Int->Bool}
  (rule:∀(i j:Int) (t u:Tok) (s:K8) (Q:K3->K8->Prop) (E:K3->K8->Prop),Q (.bool (g i j)) s->LH (LM X.prog X.w) X.A (f (.int i t) (.int j u)) Q E s):
  OpR X f (rI0 λi j=>.bl (g i j)):=by
 intro d s e H x y v u Q I b a h;obtain⟨i,j,rfl,rfl,q⟩:=h;obtain⟨t,rfl⟩:=b;obtain⟨c,rfl⟩:=a;exact rule i j t c s _ _ ⟨.bl (g i j),H,I,rfl,q⟩
def JU(i j:Int):Prop:=0<=j/\j<=1000000/\i.natAbs<2 ^ 64
theorem GA:OpR X (Pk .Add) (rI0 λi j=>.int (i+j)):=JP λ_ _ _ _ _ _ _ q=>add_int q
theorem GT:OpR X (Pk .Sub) (rI0 λi j=>.int (i-j)):=JP λ_ _ _ _ _ _ _ q=>sub_int q
theorem GL:OpR X (Pk .Mod) (rI (λ_ j=>0<j) λi j=>.int (i%j)):=opI λi j _ _ _ _ _ a q=>by
 have b:(0:Int)<j:=a;exact mod_int' (by lia) (by rw[Int.fmod_eq_emod_of_nonneg i (by lia)];exact q)
theorem Hw:OpR X (Pk .Pow) (rI JU λi j=>.int (i ^ j.toNat)):=opI λ_ _ _ _ _ _ _ a q=>pow_int_small a.1 a.2.1 a.2.2 q
theorem unI{f:K3->Sem K3}{g:Int->Int}
  (rule:∀(i:Int) (t:Tok) (s:K8) (Q:K3->K8->Prop) (E:K3->K8->Prop),Q (.int (g i) s.toks) {s with toks:=s.toks+1 }->LH (LM X.prog X.w) X.A (f (.int i t)) Q E s):
  UnR X f (rU λi=>.int (g i)):=by
 intro b s c H x v Q I a h;obtain⟨i,rfl,q⟩:=h;obtain⟨t,rfl⟩:=a;exact rule i t s _ _ ⟨.int (g i),H,I.tok _,⟨_,rfl⟩,q⟩
theorem Gm:UnR X (unaryOp .USub) (rU λi=>.int (-i)):=unI λ_ _ _ _ _ q=>neg_int q
theorem i9{b:List (Lm×Obj)}{c:St}{H:Hp}{s:K8}{Q:VK}{k a:Bool}(I:Inv X b c H s)(q:Q (.bl k) H)(e:k=a):EP X b c Q (.bool a) s:=by
 subst e;exact⟨.bl k,H,I,rfl,q⟩
theorem JG:OpR X (LX .Lt) (rI0 λi j=>.bl (decide (i<j))):=DL λ_ _ _ _ _ _ _ q=>lt_int q
theorem I0:OpR X (LX .LtE) (rI0 λi j=>.bl (decide (i<=j))):=DL λ_ _ _ _ _ _ _ q=>le_int q
theorem Jo:OpR X (LX .Gt) (rI0 λi j=>.bl (decide (j<i))):=DL λ_ _ _ _ _ _ _ q=>gt_int q
theorem JL:OpR X (LX .GtE) (rI0 λi j=>.bl (decide (j<=i))):=DL λ_ _ _ _ _ _ _ q=>ge_int q
theorem zm:OpR X (LX .In) (λx y H Q=>∃i j,x=.str i/\y=.str j/\Q (.bl (!(Builtin.Str.occurrences j i 0 j.length 1).isEmpty)) H):=by
 intro c s d H x y v u Q I b a h;obtain⟨i,j,rfl,rfl,q⟩:=h;obtain⟨t,rfl⟩:=b;obtain⟨e,rfl⟩:=a;exact in_str (i9 I q rfl)
theorem j5(b:Expr){op:V_}(h:autoParam (op≠.In) v0)(a:autoParam (op≠.NotIn) v0):NJ op b=false:=by
 have c:(op==CmpOp.In)=false:=by cases op <;>first |rfl |exact absurd rfl h
 have d:(op==CmpOp.NotIn)=false:=by cases op <;>first |rfl |exact absurd rfl a
 cases b <;>simp[NJ,c,d]
theorem DH{op:V_}{r:R2}(d:OpR X (LX op) r)(m:PE X a ta)(g:PE X b tb)(e:NJ op b=false):PE X (.Compare a [op] [b] pos) (tOp r ta tb):=by
 intro f s i H Q I h;exact wpAny_Compare1 (GC m g I h λv u j x y c l n k q=>d f j i c x y v u Q l n k q) e
def FQ(t:TE):TT:=λb H Q=>t b H λx a=>∃k,x=.bl k/\Q k a
theorem x_{op:V_}{r:R2}(l:OpR X (LX op) r)(E:PE X a ta)(t:PE X b tb)(m:NJ op b=false):PT X (.Compare a [op] [b] pos) (FQ (tOp r ta tb)):=by
 intro d s f H Q I h
 refine RW (thn (E d s f H _ I h) λv D ⟨x,g,A,q,o⟩=>thn (t d D f g _ A o) λu w ⟨y,i,B,p,n⟩=>
  thn (l d w f i x y v u _ B q p n) λc J z9=>?_) m
 obtain⟨z,C,G,j,k,e,F⟩:=z9
 subst e;cases j;exact Mr ⟨C,G,F⟩
noncomputable def BK(r g:R2)(ta tb tc:TE):TE:=λa H Q=>ta a H λx c=>tb a c λy e=>r x y e λz b=>∃k,z=.bl k/\
 (if k=true then tc a b λd f=>g y d f Q else Q (.bl false) b)
theorem BQ{op i:V_}{r l:R2}(B:OpR X (LX op) r)(U:OpR X (LX i) l)(V:PE X a ta)(F:PE X b tb)(A:PE X c tc)
  (hm:autoParam (UQ [op,i] [b,c]=false) k0):PE X (.Compare a [op,i] [b,c] pos) (BK r l ta tb tc):=by
 intro f s g H Q I h
 refine Compare_chain (thn (V f s g H _ I h) λv T ⟨x,p,K,E,D⟩=>chain_link (thn (F f T g p _ K D) λu J ⟨y,q,N,j,C⟩=>
  thn (B f J g q x y v u _ N E j C) λd L z9=>?_)) hm
 obtain⟨z,m,o,t,k,e,n⟩:=z9
 subst e;cases t;refine Mr ?_;cases k with
 |false=>exact ite_ff ⟨.bl false,m,o,rfl,n⟩
 |true=>exact ite_tt (chain_last (thn (A f L g m _ o n) λM P ⟨O,G,R,w,S⟩=>U f P g G y O u M Q R j w S))
theorem BR{op i:V_}{r l:R2}(B:OpR X (LX op) r)(W8:OpR X (LX i) l)(ha:PE X a ta)(J:PE X b tb)(C:PE X c tc)
  (hm:autoParam (UQ [op,i] [b,c]=false) k0):PT X (.Compare a [op,i] [b,c] pos) (FQ (BK r l ta tb tc)):=by
 intro f s g H Q I h
 refine isTrue_chain (thn (ha f s g H _ I h) λv s1 ⟨x,p,N,G,F⟩=>test_link (thn (J f s1 g p _ N F) λu M ⟨y,q,S,j,D⟩=>
  thn (B f M g q x y v u _ S G j D) λd O z9=>?_)) hm
 obtain⟨z,m,o,t,k,e,n⟩:=z9
 subst e;cases t;refine Mr ?_;cases k with
 |false=>
  obtain⟨k',E,P⟩:=n;cases E;exact ite_ff ⟨m,o,P⟩
 |true=>
  refine ite_tt (test_last (thn (C f O g m _ o n) λR V ⟨U,K,Y,w,Z⟩=>thn (W8 f V g K y U u R _ Y j w Z) λd' s5 z9=>?_));obtain⟨z2,H5,L,T,k2,A,W⟩:=z9;subst A;cases T;exact Mr ⟨H5,L,W⟩
theorem nW:(sizeLine:Nat)<2 ^ 63:=by rw[MA];decide
theorem vY:OpR X (Pk .Add) (λx y H Q=>∃i j,x=.str i/\y=.str j/\i.length+j.length<=sizeLine/\Q (.str (i++j)) H):=by
 intro e s g H x y v u Q I c a h;obtain⟨i,j,rfl,rfl,b,q⟩:=h;obtain⟨t,rfl⟩:=c;obtain⟨d,rfl⟩:=a;exact add_str (λd f=>⟨.str (i++j),H,I.tok _,⟨_,rfl⟩,q⟩) b
theorem cX{x:V}{us:List K3}(r:aS [x] us):∃u,us=[u]/\aR x u:=by
 cases r with
 |cons b a=>cases a;exact⟨_,rfl,b⟩
theorem jm{x y:V}{us:List K3}(r:aS [x,y] us):∃u a,us=[u,a]/\aR x u/\aR y a:=by
 cases r with
 |cons c b=>
  cases b with
  |cons d e=>cases e;exact⟨_,_,rfl,c,d⟩
theorem AL:cp X (.builtin "abs") (λa H Q=>∃i,a=[.int i]∧Q (.int (if i<0 then -i else i)) H):=by
 intro c s d H a e Q I r h;obtain⟨i,rfl,q⟩:=h;obtain⟨u,rfl,t,rfl⟩:=cX r;exact call_abs_int λu b=>⟨.int (if i<0 then -i else i),H,I.tok _,⟨_,rfl⟩,q⟩
theorem yW(c:X.calm=true):cp X (.builtin "max") (λb H Q=>∃i j,b=[.int i,.int j]∧Q (.int (if j >i then j else i)) H):=by
 intro d s f H b m Q I r h;obtain⟨i,j,rfl,q⟩:=h;obtain⟨u,g,rfl,⟨t,rfl⟩,⟨n,rfl⟩⟩:=jm r;refine max_two_ints (I.ok.hd c) λl e k=>⟨_,H,I.kept k,?_,q⟩
 by_cases a:j >i
 .rw[if_pos a,if_pos a];exact⟨_,rfl⟩
 .rw[if_neg a,if_neg a];exact⟨_,rfl⟩
theorem yJ(c:X.calm=true):cp X (.builtin "min") (λb H Q=>∃i j,b=[.int i,.int j]∧Q (.int (if j<i then j else i)) H):=by
 intro d s f H b m Q I r h;obtain⟨i,j,rfl,q⟩:=h;obtain⟨u,g,rfl,⟨t,rfl⟩,⟨n,rfl⟩⟩:=jm r;refine min_two_ints (I.ok.hd c) λl e k=>⟨_,H,I.kept k,?_,q⟩
 by_cases a:j<i
 .rw[if_pos a,if_pos a];exact⟨_,rfl⟩
 .rw[if_neg a,if_neg a];exact⟨_,rfl⟩
theorem y3:cp X (.type "int") (λa H Q=>(∃i,a=[.int i]∧Q (.int i) H)∨∃k,a=[.bl k]∧Q (.int (if k then 1 else 0)) H):=by
 intro c s d H a e Q I r h;rcases h with ⟨i,rfl,q⟩ |⟨k,rfl,q⟩
 .obtain⟨u,rfl,t,rfl⟩:=cX r;exact call_int_int ⟨.int i,H,I,⟨_,rfl⟩,q⟩
 .obtain⟨u,rfl,b⟩:=cX r;cases b;exact call_int_bool ⟨.int (if k then 1 else 0),H,I.tok _,⟨_,rfl⟩,q⟩
theorem qw:cp X (.type "str") (λa H Q=>∃i,a=[.int i]∧i.natAbs.log2<1920∧Q (.str (NY i)) H):=by
 intro c s d H a e Q I r h;obtain⟨i,rfl,b,q⟩:=h;obtain⟨u,rfl,t,rfl⟩:=cX r;exact PySem.P.str_of_int b ⟨.str _,H,I.tok _,⟨_,rfl⟩,q⟩
end
structure wk(h:Nh)(x dx C:Lm)(mA:Str->Option K3):Prop where
 obj:h.get? x=some (Oa C dx)
 ns:h.Ns1 dx mA
 ne:dx≠x
theorem yT{h:Nh}{f:Lm}{d:Str->Option K3}(n:h.Ns1 f d):∃g,h.get? f=some g/\∀b,QZ b g=some (d b):=by
 obtain⟨o,i,r,j,l,m,_,k⟩:=n;refine⟨o,j,λb=>?_⟩;have e:=k b;unfold nsFind findBy at e;rw[<-Array.find?_toList]at e;unfold QZ;rw[l];dsimp only;split
 .rename_i y q
  rw[q]at e;exact congrArg some e
 .rename_i q
  rw[q]at e
  have a:i.toList.any (·.refKey)=false:=by
   rw[List.any_eq_false];intro y hy;obtain⟨z,t,c⟩:=m y (Qr.mp hy);simp[DictEntry.refKey,c]
  have p:¬ i.toList.any (·.refKey)=true:=by rw[a];exact Mj
  rw[if_neg p];exact congrArg some e
theorem wk.look{h:Nh}{x c C:Lm}{d:Str->Option K3}(I:wk h x c C d):∃b,PySem.W.InstAt h x (Oa C c) C (some b)/\∀a,QZ a b=some (d a):=
 let ⟨b,ho,hl⟩:=yT I.ns
 ⟨b,⟨I.obj,rfl,rfl,ho⟩,hl⟩
section
variable {prog:Lg}{w:LL}{A:L7}{E:K3→K8→Prop}{s:K8}{K:KM}{x dx C f:Lm}{mA:Str→Option K3}{name:Str}{v:K3}
theorem Fg{a:Bool}{Q:K3->K8->Prop}(X:K.In s.heap)(I:wk s.heap x dx C mA)(c:Qo K C name=true)(d:Q7 K C=true)
  (ha:Ni K (.ref C) name=some none) (hv:mA name=some v) (Y5:Uu v=true) (h:Q v {s with toks:=s.toks+1 }):
  LH (LM prog w) A (getAttr (.ref x) name a) Q E s:=by
 obtain⟨e,J,b⟩:=I.look;exact PySem.W.get_value X J (QB c).1 (PySem.W.findObj_own d ha rfl (by rw[b,hv])) Y5 h
theorem CP{pl:Sem Bool}{Q:K3×List K3->K8->Prop}(X:K.In s.heap)(I:wk s.heap x dx C mA)(a:Qo K C name=true)
  (hf:Ni K (.ref C) name=some (some (.ref f))) (ht:Ui K (.ref f)=true) (hv:mA name=none) (h:Q (.ref f,[.ref x]) s):
  LH (LM prog w) A (R3 (.ref x) name pl) Q E s:=by
 obtain⟨c,J,b⟩:=I.look;exact PySem.W.method_fn X J (QB a).1 (QB a).2 hf (beq_iff_eq.mp ht) (by show (QZ name c).map (·.isSome)=some false;rw[b,hv];rfl) h
theorem EW{ns:List Str}{Q:Unit->K8->Prop}(X:K.In s.heap)(I:wk s.heap x dx C mA)
  (hs:Ni K (.ref C) "__setattr__"=some (some (.builtin "object.__setattr__"))) (hp:TU K C=true) (ht:R5 K C name=some none) (hh:Q7 K C=true)
  (hw:Ue mA ns) (hsz:ns.length<=sizeLine)
  (h:∀d,wk d x dx C (λy=>if y=name then some v else mA y)->OD dx s.heap d->Q () {s with heap:=d,toks:=s.toks+2 }):
  LH (LM prog w) A (setAttr (.ref x) name v) Q E s:=by
 obtain⟨p,J,q⟩:=I.look;refine PySem.W.set_plain X J hs (PySem.W.osa_open (s:={s with toks:=s.toks+1 }) (r:=none) X J hp ht λb=>?_);obtain⟨cd,k,m⟩:=PySem.W.any_some hh;have j:s.heap.get? x=some ⟨.ref C,some dx,.plain,#[]⟩:=I.obj;refine KL (KY (KL (KL (wpAny_loadPart j (KL (Wn (s:={s with toks:=s.toks+1 }) (PySem.W.looks_clsIn X k) ?_))))));rw[m];refine KY (a:=some dx) (KL (KY (KL ?_)));refine wpAny_nsSet1 (s:={s with toks:=s.toks+1 }) I.ns λd c i=>?_;obtain⟨o,l,n,f,g,e⟩:=c.count (Wu name v hw);refine KL (wpAny_lookBehind f (by rw[g];exact pastItsLine_dict (Mh e (by rw[Lk];lia))) ?_);exact KY (h _ ⟨(i.2 _ (Ne.symm I.ne)).trans I.obj,c,I.ne⟩ i)
theorem Bl{R:UR->K8->Prop}{vs:List K3}{b:List (Str×K3)}(X:K.In s.heap)(c:US K C=true)
  (hi:Ni K (.ref C) "__init__"=some (some (.ref f))) (hf:PySem.W.typeIn K (.ref f)=some (.type "function"))
  (h:PM (LM prog w) (A.under (.builtin "type.__call__" ⟨.ref C::vs,b⟩)) (.call (.ref f) ⟨.ref (s.heap.objs.size+1)::vs,b⟩) (PySem.W.InitBack (s.heap.objs.size+1) R)
   {s with heap:=(s.heap.push M8).push (Oa C s.heap.objs.size) }):
  PM (LM prog w) A (.call (.ref C) ⟨vs,b⟩) R s:=by
 obtain⟨e,g,d,t,i⟩:=s;exact PySem.W.make_core (PySem.W.makes_of X c) (PySem.W.looks_findIn X hi) (λa=>PySem.W.bind_fn X a hf) (.inl rfl) h
end
def iG(f:Str)(v:V):List (Str×V)->List (Str×V)
 |[]=>[(f,v)]
 | (g,x)::r=>if g=f then (g,v)::r else (g,x)::iG f v r
theorem kU(f g:Str)(v:V):∀fs:List (Str×V),(iG f v fs).lookup g=if g=f then some v else fs.lookup g
 |[]=>by
  show Pr g [(f,v)]=_;by_cases h:g=f
  .have hb:(g==f)=true:=beq_iff_eq.mpr h;simp only[Pr,hb,if_pos h]
  .have hb:(g==f)=false:=beq_eq_false_iff_ne.mpr h;simp only[Pr,hb,if_neg h]
 | (k,x)::r=>by
  have b:=kU f g v r;rw[show iG f v ((k,x)::r)=(if k=f then (k,v)::r else (k,x)::iG f v r) from rfl];by_cases a:k=f
  .rw[if_pos a];by_cases h:g=k
   .have hb:(g==k)=true:=beq_iff_eq.mpr h;simp only[Pr,hb,if_pos (h.trans a)]
   .have hb:(g==k)=false:=beq_eq_false_iff_ne.mpr h;simp only[Pr,hb,if_neg (λe:g=f=>h (e.trans a.symm))]
  .rw[if_neg a];by_cases h:g=k
   .have hb:(g==k)=true:=beq_iff_eq.mpr h;simp only[Pr,hb,if_neg (λe:g=f=>a (h.symm.trans e))]
   .have hb:(g==k)=false:=beq_eq_false_iff_ne.mpr h;simp only[Pr,hb];exact b
theorem kC(f:Str)(v:V):∀fs:List (Str×V),f∈(iG f v fs).map (·.1)/\∀g,g∈fs.map (·.1)->g∈(iG f v fs).map (·.1)
 |[]=>⟨by simp[iG],λg h=>by simp at h⟩
 | (k,x)::r=>by
  obtain⟨c,b⟩:=kC f v r;rw[show iG f v ((k,x)::r)=(if k=f then (k,v)::r else (k,x)::iG f v r) from rfl];by_cases a:k=f
  .rw[if_pos a];subst a;exact⟨by simp,λg h=>by simpa using h⟩
  .rw[if_neg a];refine⟨?_,λg h=>?_⟩
   .rw[Lb];exact KN _ c
   .rw[Lb]at h |-;rcases KO.mp h with e |e
    .exact KO.mpr (.inl e)
    .exact KN _ (b g e)
theorem kX(f:Str)(v:V):∀fs:List (Str×V),(iG f v fs).length<=fs.length+1
 |[]=>by simp[iG]
 | (k,x)::r=>by
  have ih:=kX f v r;rw[show iG f v ((k,x)::r)=(if k=f then (k,v)::r else (k,x)::iG f v r) from rfl];by_cases a:k=f
  .rw[if_pos a,Lk,Lk];lia
  .rw[if_neg a,Lk,Lk];lia
theorem iJ.some_of{v:V}{o:Option K3}(r:iJ (some v) o):∃u,o=some u/\aR v u:=by
 cases o with
 |none=>exact (show False from r).elim
 |some u=>exact⟨u,rfl,r⟩
theorem iJ.none_of{o:Option K3}(r:iJ none o):o=none:=by
 cases o with
 |none=>rfl
 |some u=>exact (show False from r).elim
theorem yw{v:V}{u:K3}(r:aR v u):Uu u=true:=by
 cases v with
 |non=>cases (show u=Oe from r);rfl
 |bl b=>cases (show u=SH b from r);rfl
 |int i=>obtain⟨t,e⟩:=(show ∃t,u=OQ i t from r);cases e;rfl
 |str x=>obtain⟨t,e⟩:=(show ∃t,u=Qz x t from r);cases e;rfl
 |byt b=>obtain⟨t,e⟩:=(show ∃t,u=V9 b t from r);cases e;rfl
 |flt b=>obtain⟨t,e⟩:=(show ∃t,u=UN b t from r);cases e;rfl
 |ref a=>cases (show u=LQ a from r);rfl
 |ty n=>cases (show u=N3 n from r);rfl
section
variable {P:Lg}{w:LL}{H H':Hp}{h h':Nh}{a C dx:Lm}{fs fs':List (Str×V)}
theorem lH(c:HOk P w H h)(e:H a=some (.ins C dx fs)):∃b,wk h a dx C b/\(∀f,iJ (fs.lookup f) (b f))/\Ue b (fs.map (·.1))/\fs.length<=1000/\H dx=some (.own a):=by
 obtain⟨d,z,g,i,b,n,r,q⟩:=(show bR P w H h a (.ins C dx fs) from c a _ e)
 exact⟨b,⟨i,n,g⟩,r,q,z,d⟩
end
structure Cls(K:KM)(C:Lm):Prop where
 pg:Qo K C Str.empty=true
 hd:Q7 K C=true
 po:TU K C=true
 sa:Ni K (.ref C) "__setattr__"=some (some (.builtin "object.__setattr__"))
theorem Cls.get{K:KM}{C:Lm}(c:Cls K C)(f:Str):Qo K C f=true:=c.pg
def gy(K:KM)(C:Lm)(f:Str):Prop:=Ni K (.ref C) f=some none
theorem gy.taker{K:KM}{C:Lm}{f:Str}(n:gy K C f):R5 K C f=some none:=by
 unfold R5;rw[show Ni K (.ref C) f=some none from n];rfl
structure Df(K:KM)(C:Lm)(m:Str)(f:Lm):Prop where
 at_:Ni K (.ref C) m=some (some (.ref f))
 fn:Ui K (.ref f)=true
 kp:NK K (.ref f)=true
section
variable {X:Cx}{Wz:List (Lm×Obj)}{σ:St}{H:Hp}{s:K8}{a C dx:Lm}{fs:List (Str×V)}{f:Str}{v:V}{A:L7}{E:K3→K8→Prop}
theorem vq{b:Bool}{Q:K3->K8->Prop}(I:Inv X Wz σ H s)(e:H a=some (.ins C dx fs))(c:Cls X.K C)(n:gy X.K C f)(l:fs.lookup f=some v)
  (h:∀u d,Inv X Wz σ H d->aR v u->Q u d):LH (LM X.prog X.w) A (getAttr (.ref a) f b) Q E s:=by
 obtain⟨i,O,r,_,_,_⟩:=lH I.hok e;obtain⟨u,j,g⟩:=iJ.some_of (v:=v) (o:=i f) (by rw[<-l];exact r f);exact Fg I.kIn O (c.get f) c.hd n j (yw g) (h u _ (I.tok _) g)
theorem uT{m:Str}{g:Lm}{pl:Sem Bool}{Q:K3×List K3->K8->Prop}(I:Inv X Wz σ H s)(e:H a=some (.ins C dx fs))(c:Cls X.K C)(k:Df X.K C m g)(l:fs.lookup m=none)
  (h:Q (.ref g,[.ref a]) s):LH (LM X.prog X.w) A (R3 (.ref a) m pl) Q E s:=by
 obtain⟨b,O,r,_,_,_⟩:=lH I.hok e;have d:b m=none:=iJ.none_of (by rw[<-l];exact r m);exact CP I.kIn O (c.get m) k.at_ k.fn d h
theorem wE{y:V}{u:K3}{Q:Unit->K8->Prop}(I:Inv X Wz σ H s)(e:H a=some (.ins C dx fs))(c:Cls X.K C)(n:gy X.K C f)(G:fs.length<1000)(v:aR y u)
  (h:∀k,Inv X Wz σ (upd H a (.ins C dx (iG f y fs))) k->Q () k):LH (LM X.prog X.w) A (setAttr (.ref a) f u) Q E s:=by
 obtain⟨i,O,r,l,_,j⟩:=lH I.hok e;have B:(fs.map (·.1)).length<=sizeLine:=by rw[KI,MA];lia
 refine EW I.kIn O c.sa c.po n.taker c.hd l B λD d m=>h _ ?_;have p:∃o,D.get? dx=some o:=let ⟨o,_,_,e',_⟩:=d.ns;⟨o,e'⟩;refine I.write (x:=a) (e:=dx) (by rw[e];exact True.intro) (.inr j) (λb q t z=>(m.2 b t).trans z) p ?_
 refine⟨by rw[aI O.ne];exact j,?_,O.ne,d.obj,_,d.ns,λg=>?_,λg F=>?_⟩
 .have:=kX f y fs;lia
 .show iJ ((iG f y fs).lookup g) (if g=f then some u else i g);rw[kU];by_cases q:g=f
  .rw[if_pos q,if_pos q];exact v
  .rw[if_neg q,if_neg q];exact r g
 .by_cases q:g=f
  .rw[q];exact (kC f y fs).1
  .refine (kC f y fs).2 g (l g λz=>F ?_);show (if g=f then some u else i g)=none;rw[if_neg q];exact z
theorem Inv.made(I:Inv X Wz σ H s):Inv X Wz σ (upd (upd H s.heap.objs.size (.own (s.heap.objs.size+1))) (s.heap.objs.size+1) (.ins C s.heap.objs.size []))
  {s with heap:=(s.heap.push M8).push (Oa C s.heap.objs.size) }:=by
 have d:(s.heap.push M8).get? s.heap.objs.size=some M8:=Le s.heap rfl
 have h:((s.heap.push M8).push (Oa C s.heap.objs.size)).get? (s.heap.objs.size+1)=some (Oa C s.heap.objs.size):=by
  have:=Le (s.heap.push M8) (o:=Oa C s.heap.objs.size) rfl
  rwa [MM]at this
 have g:(s.heap.push M8).Ns s.heap.objs.size (λ_=>none):=⟨M8,#[],_,d,rfl,(λe i=>absurd i (by simp)),λ_=>rfl⟩
 have f:=I.laid (a:=s.heap.objs.size) (o:=.own (s.heap.objs.size+1)) (h':=s.heap.push M8) (t':=s.toks) (λb u q=>KU _ q) (K1 _) ⟨_,d⟩;refine f.laid (a:=s.heap.objs.size+1) (o:=.ins C s.heap.objs.size []) (t':=s.toks) (λb u q=>KU _ q) (VQ (MM _ _)) ?_;have c:s.heap.objs.size≠s.heap.objs.size+1:=LA (Mf _);refine⟨by rw[aI c,aH],Mm _,c,h,λ_=>none,(Heap.Ns1.of_empty g).at λo q=>KU _ q,λ_=>True.intro,λy hy=>absurd rfl hy⟩
theorem EA{prog:Lg}{w:LL}{a:Env}{e:Expr}{f:Str}{b:Pos}{s:K8}{Q:K3->K8->Prop}(d:MC e f a (Nq e a)=Nq e a)
  (h:LH (LM prog w) A (Nq e a) (λo c=>LH (LM prog w) A (getAttr o f true) Q E c) E s):LH (LM prog w) A (Nq (.Attribute e f b) a) Q E s:=
 Attribute_any_ h (by rw[arm_eval_Attribute,d])
end
def J0(K:KM)(ta:TE)(f:Str):TE:=λd H Q=>ta d H λx b=>∃a C c fs v,x=.ref a/\b a=some (.ins C c fs)/\Cls K C/\gy K C f/\fs.lookup f=some v/\Q v b
noncomputable def Ka(K:KM)(ta g:TE)(f:Str):TS:=λD b H=>g b H λy e=>ta b e λx d=>∃a C c fs,x=.ref a/\d a=some (.ins C c fs)/\Cls K C/\gy K C f/\fs.length<1000/\
 D.nx b (upd d a (.ins C c (iG f y fs)))
section
variable {X:Cx}{o e WR:Expr}{f:Str}{pos WU tpos:Pos}{ta tv:TE}
theorem HU(g:PE X e ta)(j:MC e f X.env (Nq e X.env)=Nq e X.env):PE X (.Attribute e f pos) (J0 X.K ta f):=by
 intro d s k H Q I h;refine EA j (thn (g d s k H _ I h) λu B r=>?_);obtain⟨x,b,o,t,a,C,y,fs,v,w,i,c,n,l,q⟩:=r;subst w;obtain rfl:u=LQ a:=t;exact vq o i c n l λA z p m=>⟨v,b,p,m,q⟩
theorem HC(w:PE X o ta)(p:PE X WR tv)(hs:NX WR (some (.Attribute o f WU)) pos.line X.env=pure false):PS X (.Assign [.Attribute o f WU] WR pos) (Ka X.K ta tv f):=by
 intro d s b H D I h;refine plainObj_wpAny_Assign_Attribute (thn (p d s b H _ I h) λu v ⟨y,e,j,k,q⟩=>thn (w d v b e _ j q) λr G t=>?_) hs;obtain⟨x,E,m,z,a,C,F,fs,A,i,c,n,l,g⟩:=t;subst A;obtain rfl:r=LQ a:=z;exact wE m i c n l k λJ B=>⟨b,_,B,g⟩
end
section
variable {X:Cx}{Wz:List (Lm×Obj)}{σ:St}{H:Hp}{s:K8}{A:L7}{E:K3→K8→Prop}{Q:K3→K8→Prop}{c:K3}{b:Bool}
inductive lv (K:KM) (H:Hp):V->K3->Prop where
 |non:lv K H .non (.type "NoneType")
 |bl (x:Bool):lv K H (.bl x) (.type "bool")
 |int (i:Int):lv K H (.int i) (.type "int")
 |str (x:Str):lv K H (.str x) (.type "str")
 |flt (x:UInt64):lv K H (.flt x) (.type "float")
 |lst {a:Lm}{xs:List V} (e:H a=some (.lst xs)):lv K H (.ref a) (.type "list")
 |frz {a:Lm}{o:Obj}{xs:List V} (e:H a=some (.frz o (.lst xs))):lv K H (.ref a) (.type "list")
 |tup {a:Lm}{xs:List V} (e:H a=some (.tup xs)):lv K H (.ref a) (.type "tuple")
 |dK {a:Lm}{WB:List (Key×V)} (e:H a=some (.dK WB)):lv K H (.ref a) (.type "dict")
 |dT {a:Lm}{WB:List (List Key×V)} (e:H a=some (.dT WB)):lv K H (.ref a) (.type "dict")
 |ins {a C dx:Lm}{fs:List (Str×V)} (e:H a=some (.ins C dx fs)) (cl:Cls K C) (ha:Ni K (.ref C) "__class__"=some (some (.builtin "object.__class__")))
   (hn:PySem.W.specialIn K (.builtin "object.__class__") "__get__"=some (some (.builtin "getset_descriptor.__get__"))) (XC:PySem.W.takesIn K (.builtin "object.__class__")=some true)
   (hm:PySem.W.mroIn K C (.type "object")=some true):lv K H (.ref a) (.ref C)
theorem eR{x:V}{u t:K3}(I:Inv X Wz σ H s)(f:aR x u)(B:lv X.K H x t)(e:Qf X.K t c=some b)(h:∀F,Q (.bool b) {s with toks:=F }):
  LH (LM X.prog X.w) A (call (.builtin "isinstance") [u,c]) Q E s:=by
 cases B with
 |non=>cases (show u=Oe from f);exact Mw PySem.W.kitx_none I.kIn True.intro e (λz=>nomatch z) h
 |bl y=>cases (show u=SH y from f);exact Mw PySem.W.kitx_bool I.kIn True.intro e (λz=>nomatch z) h
 |int i=>obtain⟨t,q⟩:=(show ∃t,u=OQ i t from f);cases q;exact Mw PySem.W.kitx_int I.kIn True.intro e (λz=>nomatch z) h
 |str y=>obtain⟨t,q⟩:=(show ∃t,u=Qz y t from f);cases q;exact Mw PySem.W.kitx_str I.kIn True.intro e (λz=>nomatch z) h
 |flt y=>obtain⟨t,q⟩:=(show ∃t,u=UN y t from f);cases q;exact Mw PySem.W.kitx_float I.kIn True.intro e (λz=>nomatch z) h
 | @lst a j d=>
  cases (show u=LQ a from f);obtain⟨_,_,n,_,g⟩:=(show bR X.prog X.w H s.heap a (.lst j) from I.hok a _ d)
  exact Mw Q8 I.kIn ⟨_,g,rfl⟩ e (λz=>nomatch z) h
 | @frz a D j d=>
  cases (show u=LQ a from f);obtain⟨_,_,_,n,_,g⟩:=(show bR X.prog X.w H s.heap a (.frz D (.lst j)) from I.hok a _ d)
  exact Mw Q8 I.kIn ⟨_,g,rfl⟩ e (λz=>nomatch z) h
 | @tup a j d=>
  cases (show u=LQ a from f);obtain⟨_,_,_,p⟩:=(show bR X.prog X.w H s.heap a (.tup j) from I.hok a _ d)
  obtain⟨o,g,k,_⟩:=p;exact Mw Te I.kIn ⟨o,g,k⟩ e (λz=>nomatch z) h
 | @dK a l d=>
  cases (show u=LQ a from f);obtain⟨_,_,R,_,p⟩:=(show bR X.prog X.w H s.heap a (.dK l) from I.hok a _ d)
  obtain⟨o,G,r,g,k,_⟩:=p;exact Mw TV I.kIn ⟨o,g,k.1⟩ e (λz=>nomatch z) h
 | @dT a l d=>
  cases (show u=LQ a from f);obtain⟨_,_,j,_,o,G,r,g,k,_⟩:=(show bR X.prog X.w H s.heap a (.dT l) from I.hok a _ d)
  exact Mw TV I.kIn ⟨o,g,k.1⟩ e (λz=>nomatch z) h
 | @ins a C S fs d m M L N v=>
  cases (show u=LQ a from f);obtain⟨P,O,_⟩:=lH I.hok d;obtain⟨T,J,_⟩:=O.look;exact Mw (PySem.W.kitx_own (m.get _) m.hd M L N v) I.kIn J e (λz=>nomatch z) h
end
structure cB(k:Nat)(A:L7):Prop where
 hd:A.handled=none
 dp:A.depth+3*k+5<Vd
 un:A.units+16*k+200<NZ
theorem cB.mono{j k:Nat}{A:L7}(r:cB k A)(h:j<=k):cB j A:=⟨r.hd,by have:=r.dp;lia,by have:=r.un;lia⟩
theorem cB.deeper{k:Nat}{A:L7}(r:cB (k+1) A)(a:Env):cB k (A.deeper a):=
 ⟨r.hd,by have:=r.dp;show A.depth+1+3*k+5<_;lia,by have:=r.un;show A.units+3+16*k+200<_;lia⟩
theorem wB{A:L7}{C:Lm}{us:List K3}{a:List (Str×K3)}:(A.under (.builtin "type.__call__" ⟨.ref C::us,a⟩)).depth=A.depth+1:=by
 first |rfl |simp[Uj,Code.weight,Code.isCreation,Code.isGuard,Code.isCaller,Code.frames,Code.isFrame,guardIds]
theorem vP{A:L7}{C:Lm}{us:List K3}{a:List (Str×K3)}:(A.under (.builtin "type.__call__" ⟨.ref C::us,a⟩)).units=A.units+1:=by
 first |rfl |simp[Uj,Code.cUnits,Code.frames,Code.isFrame]
theorem cB.make{k:Nat}{A:L7}(r:cB (k+1) A)(C:Lm)(us:List K3)(a:List (Str×K3)):cB k (A.under (.builtin "type.__call__" ⟨.ref C::us,a⟩)):=
 ⟨r.hd,by have:=r.dp;rw[wB];omega,by have:=r.un;rw[vP];omega⟩
theorem cB.depth{k:Nat}{A:L7}(r:cB k A):A.depth<Vd:=by have:=r.dp;lia
def IC:TA:=λ_ H Q=>Q [] H
def Iz(ta:TE)(d:TA):TA:=λa H Q=>ta a H λx b=>d a b λe c=>Q (x::e) c
variable {es:List Expr}
section
variable {X:Cx}{e:Expr}{te:TE}{t:TA}{pos:Pos}
theorem dP:PA X [] IC:=λ_ _ _ _ H Q I h=>P8 ⟨[],H,I,.nil,h⟩
theorem cx(q:PE X e te)(k:PA X es t)(hs:autoParam (K7 (e::es) X.env=(false,Nq e X.env)::K7 es X.env) w4):PA X (e::es) (Iz te t):=by
 intro pos a s b H Q I h;rw[hs];show LH _ _ (spliced ((false,Nq e X.env)::M4 pos (K7 es X.env))) _ _ s;refine PN (thn (q a s b H _ I h) λu p o=>?_);obtain⟨x,c,m,j,g⟩:=o;exact thn (k pos a p b c _ m g) λv r ⟨l,d,n,i,f⟩=>⟨x::l,d,n,.cons j i,f⟩
def Kg(t:TA):TE:=λc H Q=>t c H λb a=>b.length<=sizeLine/\∀p,a p=none->Q (.ref p) (upd a p (.tup b))
def Kl(t:TA):TE:=λc H Q=>t c H λb a=>b.length<=sizeLine/\∀p,a p=none->Q (.ref p) (upd a p (.lst b))
theorem He{x1}(h:PA X es t):PE X (.Tuple es x1 pos) (Kg t):=by
 intro i s k H Q I g;refine wpAny_Tuple_spliced (thn (h pos i s k H _ I g) λl a ⟨j,c,d,r,z,q⟩=>⟨by rw[<-r.length];exact z,?_⟩);have f:c a.heap.objs.size=none:=d.hok.fresh (K1 _);refine⟨.ref a.heap.objs.size,upd c a.heap.objs.size (.tup j),d.laid (t':=a.toks) (λb u e=>KU _ e) (K1 _) ?_,rfl,q _ f⟩;exact⟨z,l,r,⟨_,Le _ rfl,rfl,_,rfl⟩⟩
theorem HK(h:PA X es t):PE X (.List es pos) (Kl t):=by
 intro i s k H Q I g;refine wpAny_List_spliced (thn (h pos i s k H _ I g) λl a ⟨j,c,d,r,z,q⟩=>⟨by rw[<-r.length];exact z,?_⟩);have f:c a.heap.objs.size=none:=d.hok.fresh (K1 _);refine⟨.ref a.heap.objs.size,upd c a.heap.objs.size (.lst j),d.laid (t':=a.toks) (λb u e=>KU _ e) (K1 _) ?_,rfl,q _ f⟩;exact⟨z,l,0,r,Le _ rfl⟩
end
abbrev Sp:=List V->Hp->VK->XK->Prop
abbrev CXT:=List Env->Hp->K8->XK->K3->K8->Prop
structure vg(P:Lg)(w:LL)(K:KM)(mg:Str->Option K3)(base:Nh)(A:L7)(outer:List Env)(s:K8)(H:Hp):Prop where
 frames:A.frames=some outer
 mod:Mod K mg base
 bs:∀b o,base.get? b=some o->s.heap.get? b=some o/\H b=none
 bsz:base.objs.size<=s.heap.objs.size
 funs:s.heap.FunFrames base outer
 frf:∀b∈frs outer,H b=none
 hok:HOk P w H s.heap
 bare:Rk s.gens
def CE(a:List Env)(P:Lg)(w:LL)(H:Hp)(s:K8)(Q:VK)(u:K3)(b:K8):Prop:=
 ∃v c,b.os=s.os/\Rk b.gens/\Un (frs a) [] H c s.heap b.heap/\HOk P w c b.heap/\aR v u/\Q v c
def CR(CX:CXT)(a:List Env)(P:Lg)(w:LL)(H:Hp)(s:K8)(Q:VK)(E:XK)(r:UR)(b:K8):Prop:=
 match r with
 | .ok (.ret u)=>CE a P w H s Q u b
 | .ok _=>False
 | .error e=>CX a H s E e b
structure cF(P:Lg)(w:LL)(K:KM)(mg:Str->Option K3)(base:Nh)(CX:CXT)(k:Nat)(f:Lm)(fd:Ng)(ps:List Str)(sp:Sp):Prop where
 len:∀vs H Q E,sp vs H Q E->vs.length=ps.length
 run:∀(A:L7) (outer:List Env) (s:K8) (H:Hp) (args:Args) (us:List K3) (vs:List V) (Q:VK) (E:XK),cB k A->vg P w K mg base A outer s H->VB s fd args (ps.zip us)->aS vs us->sp vs H Q E->
  PM (LM P w) A (.call (.ref f) args) (CR CX outer P w H s Q E) s
theorem cF.mono{P:Lg}{w:LL}{K:KM}{g:Str->Option K3}{a:Nh}{CX:CXT}{j k:Nat}{f:Lm}{e:Ng}{d:List Str}{sp:Sp}(F:cF P w K g a CX j f e d sp)(h:j<=k):
  cF P w K g a CX k f e d sp:=⟨F.len,λA b s H c m i Q E l=>F.run A b s H c m i Q E (l.mono h)⟩
theorem vg.make{P:Lg}{w:LL}{K:KM}{c:Str->Option K3}{b:Nh}{A:L7}{a:List Env}{s:K8}{H:Hp}(e:vg P w K c b A a s H)(C:Lm)(us:List K3)(d:List (Str×K3)):
  vg P w K c b (A.under (.builtin "type.__call__" ⟨.ref C::us,d⟩)) a s H:=⟨by first |exact e.frames | (simpa [Uj,Code.envs,Code.isFrame,pushEnvs] using e.frames),e.mod,e.bs,e.bsz,e.funs,e.frf,e.hok,e.bare⟩
section
variable {X:Cx}{Wz:List (Lm×Obj)}{σ:St}{H:Hp}{s s':K8}
theorem Inv.env0(I:Inv X Wz σ H s):vg X.prog X.w X.K X.mg X.base X.A X.stack s H:=
 ⟨I.ok.frames,I.ok.mod,I.bs,Mh I.ok.bsz I.sz,I.stack,I.stkFree,I.hok,I.bare⟩
theorem Inv.after{Q:VK}{u:K3}(I:Inv X Wz σ H s)(h:CE X.stack X.prog X.w H s Q u s'):EP X Wz σ Q u s':=by
 obtain⟨v,j,i,a,un,c,r,q⟩:=h;obtain⟨f,g,d,t,e⟩:=s';obtain rfl:e=s.os:=i;exact⟨v,j,I.call (h':=f) (g':=g) (d':=d) (t':=t) (ch:=[]) un c a (λb z=>absurd z (by simp)),r,q⟩
end
def Jt(sp:Sp)(b:List V)(E:XK)(t:TA):TE:=λc H Q=>t c H λd a=>sp (d++b) a Q E
noncomputable def IZ(C:Lm)(m:Str)(sp:Sp)(e:List V)(E:XK)(ta:TE)(t:TA):TE:=λc H Q=>ta c H λx b=>∃a d fs,x=.ref a/\b a=some (.ins C d fs)/\fs.lookup m=none/\
 t c b λg f=>sp (x::(g++e)) f Q E
noncomputable def JB(C:Lm)(sp:Sp)(c:List V)(E:XK)(t:TA):TE:=λe H Q=>t e H λf b=>∀x a,b x=none->b a=none->a≠x->
 sp (.ref x::(f++c)) (upd (upd b a (.own x)) x (.ins C a [])) (λv d=>v=.non/\Q (.ref x) d) E
def cJ(K:KM)(d:Ng)(c:List Str)(b:List K3):Prop:=
 ∀(s:K8) (a:List K3),K.In s.heap->(a++b).length=c.length->VB s d ⟨a,[]⟩ (c.zip (a++b))
theorem cJ.all{K:KM}{c:Ng}{b:List Str}(h:∀a:List K3,a.length=b.length->Qg c ⟨a,[]⟩=pure (b.zip a)):cJ K c b []:=λs a _ d=>by
 rw[Nj]at d |-;exact .of_eq (h a d)
def eE(CX:CXT)(X:Cx)(E:XK):Prop:=∀(b:List (Lm×Obj)) (c:St) (H:Hp) (s:K8) (e:K3) (a:K8),Inv X b c H s->CX X.stack H s E e a->X.xe e a
section
variable {X:Cx}{CX:CXT}{k:Nat}{f C:Lm}{fd:Ng}{ps:List Str}{sp:Sp}{XE:List V}{ds:List K3}{E:XK}{x m:Str}{p pos WI:Pos}{e o:Expr}{ta:TE}{t:TA}
theorem De{b:List (Lm×Obj)}{c:St}{H:Hp}{s:K8}{Q:VK}{us:List K3}{vs:List V}(F:cF X.prog X.w X.K X.mg X.base CX k f fd ps sp)(j:cB k X.A)(l:cJ X.K fd ps ds)(i:aS XE ds)(g:eE CX X E)
  (I:Inv X b c H s) (r:aS vs us) (h:sp (vs++XE) H Q E):LH (LM X.prog X.w) X.A (call (.ref f) us) (EP X b c Q) X.xe s:=by
 have d:aS (vs++XE) (us++ds):=r.append i;have n:(us++ds).length=ps.length:=by rw[<-d.length];exact F.len _ _ _ _ h
 refine Vv (Px (F.run X.A X.stack s H ⟨us,[]⟩ (us++ds) (vs++XE) Q E j I.env0 (l s us I.kIn n) d h) λr m a=>?_);cases r with
 |error e=>exact g b c H s e m I a
 |ok fl=>
  cases fl with
  |ret u=>exact I.after a
  |next=>exact False.elim a
  |brk=>exact False.elim a
  |cont=>exact False.elim a
theorem rQ(F:cF X.prog X.w X.K X.mg X.base CX k f fd ps sp)(i:cB k X.A)(n:Gl X x)(c:X.mg x=some (.ref f))(m:NK X.K (.ref f)=true)(j:cJ X.K fd ps ds)(g:aS XE ds)(b:eE CX X E)
  (ha:PA X (e::es) t) (W2:autoParam ((x==("__debug__":Str))=false) v0) (he:autoParam (K7 (e::es) X.env=(false,Nq e X.env)::K7 es X.env) w4) (WX:autoParam ((M4 pos (K7 es X.env)).any (·.1)=false) w4):
  PE X (.Call (.Name x p) (e::es) [] pos) (Jt sp XE E t):=by
 intro d s l H Q I h;refine Ml (j4 I n c ?_ W2);refine Tf (h₀:=X.base) I.ok.mod.kin m (thn (ha pos d s l H _ I h) λv y ⟨u,o,a,r,q⟩=>⟨a.kIn,?_⟩) he WX;exact De F i j g b a r q
theorem xK{pl:Sem Bool}(y:PE X o ta)(c:Cls X.K C)(b:Df X.K C m f)(F:cF X.prog X.w X.K X.mg X.base CX k f fd ps sp)(D:cB k X.A)(G:cJ X.K fd ps ds)(B:aS XE ds)(p:eE CX X E)(M:PA X (e::es) t)
  (Xd:autoParam (K7 (e::es) X.env=(false,Nq e X.env)::K7 es X.env) w4) (WX:autoParam ((M4 pos (K7 es X.env)).any (·.1)=false) w4)
  (ht:autoParam (Nq (.Call (.Attribute o m WI) (e::es) [] pos) X.env=(do
   let ov <-Nq o X.env
   UO WI.atName
   let (f,first) <-RX [ov] (R3 ov m pl)
   VC pos f first (M4 pos (K7 (e::es) X.env)) (Pl pos (NT [] X.env)))) w4):
  PE X (.Call (.Attribute o m WI) (e::es) [] pos) (IZ C m sp XE E ta t):=by
 intro d s g H Q I h;refine PySem.W.methodCall_KW (pl:=pl) (thn (y d s g H _ I h) λu L J=>?_) ht;obtain⟨x,n,i,N,a,R,fs,O,z,l,q⟩:=J;subst O;obtain rfl:u=LQ a:=N;refine uT i z c b l ?_;refine Tf (first:=[.ref a]) (h₀:=X.base) I.ok.mod.kin b.kp (thn (M pos d L g n _ i q) λus S ⟨vs,P,j,r,v⟩=>⟨j.kIn,?_⟩) Xd WX;exact De (us:=.ref a::us) (vs:=.ref a::vs) F D G B p j (.cons rfl r) v
structure Mk(K:KM)(C f:Lm):Prop where
 makes:US K C=true
 init:Ni K (.ref C) "__init__"=some (some (.ref f))
 fn:Ui K (.ref f)=true
 kp:NK K (.ref C)=true
theorem A_{d:List (Lm×Obj)}{g:St}{H:Hp}{s:K8}{Q:VK}{us:List K3}{vs:List V}(M:Mk X.K C f)(F:cF X.prog X.w X.K X.mg X.base CX k f fd ps sp)(o:cB (k+1) X.A)(p:cJ X.K fd ps ds)(n:aS XE ds)
  (hx:eE CX X E) (I:Inv X d g H s) (r:aS vs us)
  (h:∀x b,H x=none->H b=none->b≠x->sp (.ref x::(vs++XE)) (upd (upd H b (.own x)) x (.ins C b [])) (λv l=>v=.non/\Q (.ref x) l) E):
  LH (LM X.prog X.w) X.A (call (.ref C) us) (EP X d g Q) X.xe s:=by
 have i:=h (s.heap.objs.size+1) s.heap.objs.size (I.hok.fresh (Wa _)) (I.hok.fresh (K1 _)) (LA (Mf _));have c:=Inv.made (C:=C) I;have j:aS (V.ref (s.heap.objs.size+1)::(vs++XE)) (LQ (s.heap.objs.size+1)::(us++ds)):=.cons rfl (r.append n)
 have y:(LQ (s.heap.objs.size+1)::us++ds).length=ps.length:=by
  have e:=j.length;rw[F.len _ _ _ _ i]at e;exact e.symm
 refine Vv (Bl (f:=f) I.kIn M.makes M.init (beq_iff_eq.mp M.fn) (Px (F.run _ X.stack _ _ ⟨LQ (s.heap.objs.size+1)::us,[]⟩ (LQ (s.heap.objs.size+1)::(us++ds)) _ _ E (o.make C us [])
  (c.env0.make C us []) (p _ (LQ (s.heap.objs.size+1)::us) c.kIn y) j i) λr q a=>?_))
 cases r with
 |error e=>exact hx d g _ _ e q c a
 |ok fl=>
  cases fl with
  |ret u=>
   obtain⟨v,t,B,m,ev,z⟩:=c.after a;subst ev;exact⟨m,⟨V.ref (s.heap.objs.size+1),t,B,rfl,z⟩⟩
  |next=>exact False.elim a
  |brk=>exact False.elim a
  |cont=>exact False.elim a
theorem CV(M:Mk X.K C f)(F:cF X.prog X.w X.K X.mg X.base CX k f fd ps sp)(b:cB (k+1) X.A)(e:Gl X x)(g:X.mg x=some (.ref C))(d:cJ X.K fd ps ds)(a:aS XE ds)(c:eE CX X E)
  (W2:autoParam ((x==("__debug__":Str))=false) v0):PE X (.Call (.Name x p) [] [] pos) (JB C sp XE E IC):=by
 intro i s j H Q I h;refine Ml (j4 I e g ?_ W2);exact PySem.W.callWith_K0 I.kIn M.kp (A_ (us:=[]) M F b d a c I .nil h)
end
structure ar(N P:List Str)(sc:S_):Prop where
 kind:sc.kind=.function
 co:sc.isCoroutine=false
 gen:sc.isGenerator=false
 nd:N.Nodup
 pre:N.take P.length=P
 par:∀x∈P,sc.names.lookup x=some .local\/sc.names.lookup x=some .cell
 nofree:∀y∈sc.names,y.2≠.free
theorem o3{a:Str->Option SI}{x:Str}:∀{binds:List (Str×K3)}{m:Str->Option K3},(∀v,(x,v) ∉ binds)->Wb a binds m x=m x
 |[],_,_=>rfl
 | (n,v)::r,m,h=>by
  unfold Wb;rw[o3 λw b=>h w (KN _ b)];split
  .have:x≠n:=by rintro rfl;exact h v K0
   simp[this]
  .rfl
theorem pY{a:Str->Option SI}{x:Str}:∀{binds:List (Str×K3)}{m:Str->Option K3},(∀v,(x,v) ∉ binds)->Wc a binds m x=m x
 |[],_,_=>rfl
 | (n,v)::r,m,h=>by
  unfold Wc;rw[pY λw b=>h w (KN _ b)];split
  .rfl
  .have:x≠n:=by rintro rfl;exact h v K0
   simp[this]
theorem oW{a:Str->Option SI}{x:Str}{v:K3}:∀{P:List Str}{b:List K3}{i:Nat}{m:Str->Option K3},P.Nodup->P[i]?=some x->b[i]?=some v->a x=some .local->
  Wb a (P.zip b) m x=some v
 |[],_,_,_,_,h,_,_=>by simp at h
 |_::_,[],_,_,_,_,h,_=>by simp at h
 |p::P,w::b,0,m,nd,h1,h2,hk=>by
  simp at h1 h2;subst h1;subst h2;show Wb a ((p,w)::P.zip b) m p=_;unfold Wb;rw[o3 λv c=>(NN.mp nd).1 (QC c).1,if_pos hk];simp
 |p::P,w::b,i+1,m,nd,h1,h2,hk=>by
  show Wb a ((p,w)::P.zip b) m x=_;unfold Wb;exact oW (i:=i) (NN.mp nd).2 (by simpa using h1) (by simpa using h2) hk
theorem oU{a:Str->Option SI}{x:Str}{v:K3}:∀{P:List Str}{b:List K3}{i:Nat}{m:Str->Option K3},P.Nodup->P[i]?=some x->b[i]?=some v->a x≠some .local->
  Wc a (P.zip b) m x=some v
 |[],_,_,_,_,h,_,_=>by simp at h
 |_::_,[],_,_,_,_,h,_=>by simp at h
 |p::P,w::b,0,m,nd,h1,h2,hk=>by
  simp at h1 h2;subst h1;subst h2;show Wc a ((p,w)::P.zip b) m p=_;unfold Wc;rw[pY λv c=>(NN.mp nd).1 (QC c).1,if_neg hk];simp
 |p::P,w::b,i+1,m,nd,h1,h2,hk=>by
  show Wc a ((p,w)::P.zip b) m x=_;unfold Wc;exact oU (i:=i) (NN.mp nd).2 (by simpa using h1) (by simpa using h2) hk
def start(N:List Str)(vs:List V):St:=vs.map some++LD (N.length-vs.length) none
noncomputable def nu(CX:CXT)(P:Lg)(w:LL)(K:KM)(mg:Str->Option K3)(base:Nh)(N:List Str)(d:Str)(c:S_)(f:Lm)(b:K3)(A:L7)(outer:List Env)(s:K8)(H:Hp)(E:XK):Cx where
 prog:=P
 w:=w
 K:=K
 mg:=mg
 base:=base
 A:=A.deeper (Q9 d c s.heap.objs.size f b)
 N:=N
 s₀:=s
 H₀:=H
 env:=Q9 d c s.heap.objs.size f b
 outer:=outer
 stack:=Q9 d c s.heap.objs.size f b::outer
 ex:=[]
 calm:=true
 fn:=λ_=>true
 pn:=[]
 xe:=λe h=>LH (LM P w) (A.deeper (Q9 d c s.heap.objs.size f b)) (leaving (Q9 d c s.heap.objs.size f b) e) (λ_ a=>CX outer H s E e a) (λg a=>CX outer H s E g a) h
theorem ut{a:S_}{n:Nat}{x:Str}(h:a.names.lookup x=some .cell):∃c,(UT n a.names []).lookup x=some c:=by
 have q:=P1 a.names n [] (.inl h);exact Py.mp q
theorem zn{CX:CXT}{P:Lg}{w:LL}{K:KM}{G:Str->Option K3}{j:Nh}{N ps:List Str}{D:Str}{l:S_}{f:Lm}{B:K3}{A:L7}{d:List Env}{s L:K8}{H:Hp}{E:XK}{us:List K3}{vs:List V}
  (S:ar N ps l) (hd:A.handled=none) (e0:vg P w K G j A d s H) (hl:vs.length=ps.length) (r:aS vs us)
  (x:InCallC s s.heap.objs.size (Wb (Q9 D l s.heap.objs.size f B).kindOf (ps.zip us) λ_=>none) (UT (s.heap.objs.size+1) l.names []) (Wc (Q9 D l s.heap.objs.size f B).kindOf (ps.zip us) λ_=>none) L):
  Inv (nu CX P w K G j N D l f B A d s H E) [] (start N vs) H L:=by
 have T:ps.length<=N.length:=by have:=congrArg Pu S.pre;rw[Qp]at this;lia
 obtain⟨F,Q,rfl,J⟩:=x.done;have m:∀b:Lm,b ∉ (nu CX P w K G j N D l f B A d s H E).ex:=λb z=>absurd (show b∈([]:List Lm) from z) (by simp)
 refine⟨⟨e0.mod,S.kind,rfl,rfl,K1 _,λy z c F g=>?_,λy hy=>?_,λy c _ h=>?_,λ_=>hd,Around.frames_deeper e0.frames,.inr ⟨rfl,rfl⟩,λb z=>absurd z (m b),e0.bs,e0.bsz,λb _ _=>m b,λb z=>absurd z (m b),e0.funs,e0.frf⟩,
  rfl,e0.bare,Un.kept J,⟨_,x.toInCall.ns,λi y v F g R=>?_⟩,λy c h=>⟨_,x.cell y c h⟩,e0.hok.fresh (K1 _),λy c h=>?_,λp o=>absurd (show p∈([]:List (Lm×Obj)) from o) (by simp),e0.hok.kept J,?_⟩
 .exact name_of_addr x.apart (M5 F) (M5 g)
 .have hy:l.names.lookup y=some .cell\/l.names.lookup y=some .free:=hy;rcases hy with hy |hy
  .exact ut hy
  .exact absurd rfl (S.nofree _ (M5 hy))
 .exact La (x.above y c (M5 h))
 .have C:i<vs.length:=by
   unfold start at g;by_cases C:i<vs.length
   .exact C
   .rw[Lq (by simpa using C)]at g
    rw[MP]at g;split at g <;>cases g
  have O:vs[i]?=some v:=by
   unfold start at g;rw[Lp (by simpa using C),K5]at g
   cases e:vs[i]? with
   |none=>rw[e]at g;cases g
   |some a=>rw[e]at g;cases g;rfl
  obtain⟨u,I,M⟩:=r.get O
  have o:ps[i]?=some y:=by
   rw[<-S.pre,M9 (by lia)];exact F
  have t:ps.Nodup:=by rw[<-S.pre];exact S.nd.sublist (TX _ _)
  refine⟨u,M,?_⟩;rcases S.par y (Lo o) with k |k
  .exact .inl ⟨k,oW t o I k⟩
  .obtain⟨c,e⟩:=ut (n:=s.heap.objs.size+1) k;refine .inr ⟨.inl k,c,e,?_⟩;have q:=x.cell y c e;rw[oU t o I (by show l.names.lookup y≠_;rw[k];decide)]at q
   exact q
 .exact e0.hok.fresh (La (x.above y c (M5 h)))
 .unfold start;show _=N.length;rw[LB,KI,M_];lia
theorem FB{CX:CXT}{P:Lg}{w:LL}{K:KM}{C:Str->Option K3}{d:Nh}{k:Nat}{f:Lm}{j m:Str}{X:Arguments}{M:List Nz}{g:S_}{R kV T Z c ct oc:K3}{U od:Option Lm}
  {X5:Array (Option K3)}{N ps:List Str}{sp:Sp} (lk:K.lookup f=some ⟨oc,od,.func (N1 j m X M g R kV T Z U c ct),X5⟩) (W0:Qh K c m=true) (S:ar N ps g)
  (len:∀h H Q E,sp h H Q E->h.length=ps.length)
  (W3:∀(A:L7) (a:List Env) (s:K8) (H:Hp) (h:List V) (Q:VK) (E:XK),cB k (A.deeper (Q9 m g s.heap.objs.size f c))->sp h H Q E->
   ∃t,PSs (nu CX P w K C d N m g f c A a s H E) M t/\t {nx:=λ_ i=>Q .non i,rt:=Q } (start N h) H):
  cF P w K C d CX (k+1) f (N1 j m X M g R kV T Z U c ct) ps sp:=by
 refine⟨len,λA a s H args us h Q E F z hb r Xw=>?_⟩;have hl:=len _ _ _ _ Xw;have O:K.In s.heap:=z.mod.kin.keeps λb o e=>(z.bs b o e).1;have L:s.heap.NoLimit:=z.mod.nolimit.keeps λb o e=>(z.bs b o e).1
 have l:∀y∈ps.zip us,g.names.lookup y.1=some .local\/(g.names.lookup y.1=some .cell/\((UT (s.heap.objs.size+1) g.names []).lookup y.1).isSome=true):=λ⟨n,v⟩ hy=>by
  rcases S.par n (QC hy).1 with q |q
  .exact .inl q
  .exact .inr ⟨q,P1 _ _ _ (.inl q)⟩
 refine codeAny_call_function F.depth (O _ _ lk) rfl S.co S.gen rfl (PySem.W.codeRec_of O W0) (hb _ _ _ _ ?_);refine wpAny_newFunctionEnv_cells S.kind l λenv he s1 x=>?_;subst he;refine⟨L.keeps x.toInCall.keep,codeAny_func ?_⟩;obtain⟨t,ht,hq⟩:=W3 A a s H h Q E (F.deeper _) Xw;have I:Inv (nu CX P w K C d N m g f c A a s H E) [] (start N h) H s1:=zn S F.hd z hl r x;refine Oy (ht [] s1 (start N h) H _ I hq) (λfl G p=>?_) λe G p=>p
 have Y:∀{B:St}{i:Hp}{v:V}{u:K3},Inv (nu CX P w K C d N m g f c A a s H E) [] B i G->aR v u->Q v i->CE a P w H s Q u G:=
  λ{B i v u} J D q=>⟨v,i,J.os,J.bare,J.base,J.hok,D,q⟩
 cases fl with
 |ret u=>
  obtain⟨v,B,i,J,D,q⟩:=p;exact Y J D q
 |next=>
  obtain⟨B,i,J,q⟩:=p;exact Y (v:=V.non) (u:=Oe) J rfl q
 |brk=>
  obtain⟨_,_,_,q⟩:=p;exact False.elim q
 |cont=>
  obtain⟨_,_,_,q⟩:=p;exact False.elim q
section
variable {X:Cx}{x:Str}{p pos:Pos}{e:Expr}{t:TA}{id T:String}{r:List V→Hp→VK→Prop}
def tCB(r:List V->Hp->VK->Prop)(t:TA):TE:=λb H Q=>t b H λc a=>r c a Q
theorem ue(d:cp X (.builtin id) r)(v:Gl X x)(f:X.mg x=none)(m:M7 x=some (.builtin id))(u:PA X (e::es) t)(o:autoParam (x≠"__name__") v0)(k:autoParam ((x==("__debug__":Str))=false) v0)
  (he:autoParam (K7 (e::es) X.env=(false,Nq e X.env)::K7 es X.env) w4) (WX:autoParam ((M4 pos (K7 es X.env)).any (·.1)=false) w4):PE X (.Call (.Name x p) (e::es) [] pos) (tCB r t):=by
 intro a s b H Q I h;refine Ml (dj I v f m ?_ o k);exact PyProof.Rows.callWith_builtin1 (thn (u pos a s b H _ I h) λn q ⟨g,c,l,j,i⟩=>d a q b c g n Q l j i) he WX
theorem pV(d:cp X (.type T) r)(v:Gl X x)(f:X.mg x=none)(m:M7 x=some (.type T))(u:PA X (e::es) t)(o:autoParam (x≠"__name__") v0)(k:autoParam ((x==("__debug__":Str))=false) v0)
  (he:autoParam (K7 (e::es) X.env=(false,Nq e X.env)::K7 es X.env) w4) (WX:autoParam ((M4 pos (K7 es X.env)).any (·.1)=false) w4):PE X (.Call (.Name x p) (e::es) [] pos) (tCB r t):=by
 intro a s b H Q I h;refine Ml (dj I v f m ?_ o k);exact PyProof.Rows.callWith_type1 (thn (u pos a s b H _ I h) λn q ⟨g,c,l,j,i⟩=>d a q b c g n Q l j i) he WX
end
end L2
namespace HT
open PySem PyProof.Rows
section
variable {prog:Lg}{w:LL}{A:L7}{E:K3→K8→Prop}{s:K8}
def sIx(n d:Nat):Option Int->Nat
 |none=>d
 |some v=>if v<0 then (v+(n:Int)).toNat else min v.toNat n
end
end HT
namespace L2
open PySem PySem.Spec PyProof.Rows
abbrev TO:=St->Hp->(Option Int->Hp->Prop)->Prop
def PO(X:Cx)(e:Option Expr)(t:TO):Prop:=
 ∀(c:List (Lm×Obj)) (s:K8) (a:St) (H:Hp) (Q:Option Int->Hp->Prop),Inv X c a H s->t a H Q->
  LH (LM X.prog X.w) X.A (evalPart e X.env) (λu d=>∃o b,Inv X c a b d/\IsPart u o/\Q o b) X.xe s
def Fv:TO:=λ_ H Q=>Q none H
def IJ(t:TE):TO:=λb H Q=>t b H λx a=>∃i,x=.int i/\Q (some i) a
section
variable {X:Cx}{e:Expr}{te:TE}{lo hi:Option Expr}{tl th:TO}{pos p2:Pos}
theorem D5:PO X none Fv:=by
 intro a s b H Q I h;rw[Tg];exact KY ⟨none,H,I,.none,h⟩
theorem Eg(h:PE X e te):PO X (some e) (IJ te):=by
 intro b s f H Q I j;rw[evalPart_some];refine thn (h b s f H _ I j) λu l k=>?_;obtain⟨x,a,g,d,c⟩:=k;obtain⟨i,rfl,q⟩:=c;obtain⟨t,rfl⟩:=d;exact⟨some i,a,g,.int i t,q⟩
def SlR(X:Cx)(r:V->Option Int->Option Int->Hp->VK->Prop):Prop:=
 ∀(d:List (Lm×Obj)) (s:K8) (e:St) (H:Hp) (x:V) (v c a:K3) (lo hi:Option Int) (b:Lm) (Q:VK),Inv X d e H s->aR x v->s.heap.IsSliceOf b c a .none->IsPart c lo->IsPart a hi->r x lo hi H Q->
  ∃T f,SJ (.type T) "__getitem__"=pure (some (.builtin f))∧s.TypeIs v T∧LH (LM X.prog X.w) X.A (TY v (.ref b)) (EP X d e Q) X.xe s
def tSl(r:V->Option Int->Option Int->Hp->VK->Prop)(te:TE)(tl th:TO):TE:=λa H Q=>te a H λx b=>tl a b λl c=>th a c λu d=>r x l u d Q
theorem tM{r:V->Option Int->Option Int->Hp->VK->Prop}(z:SlR X r)(p:PE X e te)(M:PO X lo tl)(G:PO X hi th):PE X (.Subscript e (.Slice lo hi none p2) pos) (tSl r te tl th):=by
 intro c s d H Q I h;refine TZ (thn (p c s d H _ I h) λv K i=>?_);obtain⟨x,k,D,y,t⟩:=i;refine wpAny_Slice (thn (M c K d k _ D t) λf C ⟨l,n,F,m,o⟩=>thn (G c C d n _ F o) λg a i=>?_);obtain⟨u,j,O,pu,N⟩:=i;rw[Tg];refine KY ?_;have J:Inv X c d j {a with heap:=a.heap.push {cls:=.type "slice",data:=.fields #[f,g,.none] } }:=O.kept (t':=a.toks) λb P q=>KU _ q;obtain⟨T,R,B,E,L⟩:=z c {a with heap:=a.heap.push {cls:=.type "slice",data:=.fields #[f,g,.none] } } d j x v f g l u a.heap.objs.size Q J y (Th ..) m pu N;show LH (LM X.prog X.w) X.A (Ti e (.Slice lo hi none p2) v (.ref a.heap.objs.size)) (EP X c d Q) X.xe {a with heap:=a.heap.push {cls:=.type "slice",data:=.fields #[f,g,.none] } };exact tail_any (ops:=[.ref a.heap.objs.size,v]) E B L (by with_unfolding_all rfl)
def zp(xs:List V)(lo hi:Option Int):List V:=(xs.drop (HT.sIx xs.length 0 lo)).take (HT.sIx xs.length xs.length hi-HT.sIx xs.length 0 lo)
theorem ur(xs:List V)(lo hi:Option Int):(zp xs lo hi).length<=xs.length:=by
 unfold zp;rw[Qp,List.length_drop];lia
end
def ixN(n:Nat)(i:Int):Option Nat:=if 0<=i then (if i<n then some i.toNat else none) else if -(n:Int)<=i then some (i+n).toNat else none
def atI{α:Type}(xs:List α)(i:Int):Option α:=(ixN xs.length i).bind λj=>xs[j]?
theorem Fp{n:Nat}{i:Int}{j:Nat}(h:ixN n i=some j):seqIndex? i n=some j/\j<n/\-(n:Int)<=i/\i<n:=by
 unfold ixN at h;by_cases b:0<=i
 .rw[if_pos b]at h;by_cases a:i<n
  .rw[if_pos a]at h;have e:i.toNat=j:=LN h;exact⟨by rw[seqIndex_of b a,e],by lia,by lia,a⟩
  .rw[if_neg a]at h;cases h
 .rw[if_neg b]at h;by_cases a:-(n:Int)<=i
  .rw[if_pos a]at h;have e:(i+n).toNat=j:=LN h;exact⟨by rw[seqIndex_neg (by lia) a,e],by lia,a,by lia⟩
  .rw[if_neg a]at h;cases h
theorem qP{α:Type}{xs:List α}{i:Int}{v:α}(h:atI xs i=some v):∃j,seqIndex? i xs.length=some j/\xs[j]?=some v/\j<xs.length/\-(xs.length:Int)<=i/\i<xs.length:=by
 unfold atI at h;cases e:ixN xs.length i with
 |none=>rw[e]at h;cases h
 |some j=>
  rw[e]at h;obtain⟨c,a,b,d⟩:=Fp e;exact⟨j,c,h,a,b,d⟩
theorem wJ{α:Type}{xs:List α}{j:Nat}{v:α}(h:xs[j]?=some v):atI xs (j:Int)=some v:=by
 have a:j<xs.length:=(K_.mp h).1
 have e:ixN xs.length (j:Int)=some j:=by
  unfold ixN;rw[if_pos (by lia),if_pos (by lia)];simp
 unfold atI;rw[e];exact h
def lW(b:Expr):Prop:=∀o i,S3 b false o i=operate [o,i] (TY o i)
def IxR(X:Cx)(r:R2):Prop:=
 ∀(d a:Expr) (b:List (Lm×Obj)) (s:K8) (c:St) (H:Hp) (x y:V) (v u:K3) (Q:VK),Inv X b c H s->aR x v->aR y u->r x y H Q->
  S3 a false v u=operate [v,u] (TY v u)->LH (LM X.prog X.w) X.A (Ti d a v u) (EP X b c Q) X.xe s
def MtR(X:Cx)(e:String)(r:V->List V->Hp->VK->Prop):Prop:=
 ∀(a:List (Lm×Obj)) (s:K8) (c:St) (H:Hp) (x:V) (b:List V) (v:K3) (d:List K3) (Q:VK),Inv X a c H s->aR x v->aS b d->r x b H Q->
  LH (LM X.prog X.w) X.A (call (.builtin e) (v::d)) (EP X a c Q) X.xe s
section
variable {X:Cx}{a b:Expr}{ta tb:TE}{pos:Pos}
theorem IxR.or{r c:R2}(h:IxR X r)(h':IxR X c):IxR X (λx y H Q=>r x y H Q\/c x y H Q):=by
 intro g a b s d H x y v u Q I i e q f;rcases q with q |q
 .exact h g a b s d H x y v u Q I i e q f
 .exact h' g a b s d H x y v u Q I i e q f
theorem B5{r:R2}(e:IxR X r)(l:PE X a ta)(f:PE X b tb)(hs:lW b):PE X (.Subscript a b pos) (tOp r ta tb):=by
 intro d s g H Q I h;exact TZ (GC l f I h λv u i x y c k m j q=>e a b d i g c x y v u Q k m j q (hs _ _))
def Ks(K:KM):R2:=λx y H Q=>∃p a i v,x=.ref p/\y=.int i/\SqL K H p a/\atI a i=some v/\Q v H
def JW(K:KM):R2:=λx y H Q=>∃p a i v,x=.ref p/\y=.int i/\SqT K H p a/\atI a i=some v/\Q v H
def Ki:R2:=λx y H Q=>∃z i c,x=.str z/\y=.int i/\z.length<=sizeLine/\atI z.cps.toList i=some c/\Q (.str ⟨#[c]⟩) H
theorem xn:IxR X (Ks X.K):=by
 intro O c e s f H x y v u Q I G E h l;obtain⟨p,L,i,z,rfl,rfl,o,B,q⟩:=h;cases G;obtain⟨t,rfl⟩:=E;obtain⟨its,r,b,M⟩:=I.list o;obtain⟨j,a,F,P,D,n⟩:=qP B;obtain⟨w,m,A⟩:=r.get F;have J:=r.length;have N:=nW;have k:EP X e f Q w s:=⟨z,H,I,A,q⟩;by_cases g:0<=i
 .have d:i.toNat=j:=by
   rw[seqIndex_of g n]at a;exact LN a
  exact item_listR b.isList g (by lia) (by rw[d];simpa using m) k l
 .have d:(i+(its.toArray.size:Int)).toNat=j:=by
   rw[seqIndex_neg (by lia) D]at a
   rw[Lj,<-J];exact LN a
  exact RN (x:=w) b.isList.typeIs slot_list_getitem.lookup
   (wpAny_getItem_list_neg (Q:=λr C=>r=w/\EP X e f Q r C) b.isList (by lia) (by rw[Lj] <;>lia) (by lia) (by rw[d];simpa using m) ⟨rfl,k⟩) l
theorem HD:IxR X (JW X.K):=by
 intro M a c s d H x y v u Q I B l h n;obtain⟨p,F,i,z,rfl,rfl,e,g,q⟩:=h;cases B;obtain⟨t,rfl⟩:=l;obtain⟨its,r,b,J⟩:=I.tuple e;obtain⟨j,D,A,N,G,E⟩:=qP g;obtain⟨w,o,f⟩:=r.get A;have C:=r.length;have L:=nW;have m:EP X c d Q w s:=⟨z,H,I,f,q⟩
 exact RN (x:=w) b.typeIs slot_tuple_getitem.lookup
  (getItem_tuple (j:=j) (Q:=λr k=>r=w/\EP X c d Q r k) b (by lia) (by lia) (by rw[Lj,<-C];exact D) (by simpa using o) ⟨rfl,m⟩) n
theorem GE:IxR X Ki:=by
 intro C a r s w H x y v u Q I o l h m;obtain⟨z,i,c,rfl,rfl,A,f,q⟩:=h;obtain⟨t,rfl⟩:=o;obtain⟨D,rfl⟩:=l;obtain⟨j,b,n,E,k,d⟩:=qP f;have p:z.cps.toList.length=z.length:=by simp[Str.length]
 rw[p]at b k d;have B:=nW
 exact tail_any (typeIs_str s z t) slot_str_getitem.lookup (getItem_str (c:=c) (by
  have g:decide (i < -(2 ^ 63:Int))=false:=decide_eq_false (by lia);have e:decide (i ≥ 2 ^ 63)=false:=decide_eq_false (by lia);rw[g,e,VD]) (by rw[b];simpa using n) ⟨.str ⟨#[c]⟩,H,I.tok _,⟨_,rfl⟩,q⟩) m
theorem rM(a b:Option Int)(n:Nat):(P9 a b none n).1=((HT.sIx n 0 a:Nat):Int)/\(P9 a b none n).2.1=((HT.sIx n n b:Nat):Int)/\(P9 a b none n).2.2=1:=by
 refine⟨?_,?_,rfl⟩
 .cases a with
  |none=>simp[P9,HT.sIx]
  |some i=>
   simp only[P9,HT.sIx,RD,show (1:Int) >0 by decide,if_true];by_cases h:i<0
   .simp only[h,if_true] <;>lia
   .simp only[h,if_false] <;>lia
 .cases b with
  |none=>simp[P9,HT.sIx]
  |some i=>
   simp only[P9,HT.sIx,RD,show (1:Int) >0 by decide,if_true];by_cases h:i<0
   .simp only[h,if_true] <;>lia
   .simp only[h,if_false] <;>lia
theorem oJ(a:List K3)(b c:Option Int):slicePick a.toArray b c none=((a.drop (HT.sIx a.length 0 b)).take (HT.sIx a.length a.length c-HT.sIx a.length 0 b)).toArray:=by
 obtain⟨f,d,e⟩:=rM b c a.toArray.size;unfold slicePick;rw[f,d,e];simp only[sliceRange_one,pick_run,Lj] <;>rfl
def J2(K:KM):V->Option Int->Option Int->Hp->VK->Prop:=λx c d H Q=>∃a b,x=.ref a/\SqL K H a b/\∀p,H p=none->Q (.ref p) (upd H p (.lst (zp b c d)))
theorem Ez:SlR X (J2 X.K):=by
 intro n s w H x v u y d e t Q I m l g pu h;obtain⟨a,c,rfl,i,q⟩:=h;cases m;obtain⟨its,r,f,k⟩:=I.list i;have j:=r.length;refine⟨"list",_,slot_list_getitem.lookup,f.isList.typeIs,?_⟩;refine Q_ f.isList l g pu .none (by simp) ?_ (by rw[Lj] <;>lia);rw[oJ,<-j];refine⟨.ref s.heap.objs.size,_,I.laid (t':=s.toks) (o:=.lst (zp c d e)) (λb p q=>KU _ q) (K1 _) ?_,rfl,q _ (I.hok.fresh (K1 _))⟩;exact⟨Mh (ur c d e) k,_,0,(r.drop (HT.sIx c.length 0 d)).take (HT.sIx c.length c.length e-HT.sIx c.length 0 d),Le _ rfl⟩
def iV:V->Bool
 | .non=>true
 | .bl _=>true
 | .int _=>true
 | .str _=>true
 |_=>false
def eqV:V->V->Bool
 | .non,.non=>true
 | .bl a,.bl b=>a==b
 | .bl a,.int b=>(if a then 1 else 0)==b
 | .int a,.bl b=>a==(if b then 1 else 0)
 | .int a,.int b=>a==b
 | .str a,.str b=>a==b
 |_,_=>false
theorem HB{A:L7}{s:K8}{y x:V}{u v:K3}(e:aR y u)(c:aR x v)(g:iV y=true)(f:iV x=true):SeqAt.EqAt A s u v (eqV y x):=by
 cases y with
 |non=>
  cases e;cases x with
  |non=>cases c;exact SeqAt.EqAt.same _
  |bl b=>cases c;exact SeqAt.EqAt.none_bool b
  |int b=>obtain⟨t,rfl⟩:=c;exact SeqAt.EqAt.none_int b t
  |str b=>obtain⟨t,rfl⟩:=c;exact SeqAt.EqAt.none_str b t
  |_=>exact absurd (show false=true from f) Mj
 |bl a=>
  cases e;cases x with
  |non=>cases c;exact SeqAt.EqAt.bool_none a
  |bl b=>cases c;exact SeqAt.EqAt.bool_bool a b
  |int b=>obtain⟨t,rfl⟩:=c;exact SeqAt.EqAt.bool_int a b t
  |str b=>obtain⟨t,rfl⟩:=c;exact SeqAt.EqAt.bool_str a b t
  |_=>exact absurd (show false=true from f) Mj
 |int a=>
  obtain⟨d,rfl⟩:=e;cases x with
  |non=>cases c;exact SeqAt.EqAt.int_none a d
  |bl b=>cases c;exact SeqAt.EqAt.int_bool a d b
  |int b=>obtain⟨t,rfl⟩:=c;exact SeqAt.EqAt.int_int a d b t
  |str b=>obtain⟨t,rfl⟩:=c;exact SeqAt.EqAt.int_str a d b t
  |_=>exact absurd (show false=true from f) Mj
 |str a=>
  obtain⟨d,rfl⟩:=e;cases x with
  |non=>cases c;exact SeqAt.EqAt.str_none a d
  |bl b=>cases c;exact SeqAt.EqAt.str_bool a d b
  |int b=>obtain⟨t,rfl⟩:=c;exact SeqAt.EqAt.str_int a d b t
  |str b=>obtain⟨t,rfl⟩:=c;exact SeqAt.EqAt.str_str a d b t
  |_=>exact absurd (show false=true from f) Mj
 |_=>exact absurd (show false=true from g) Mj
noncomputable def eqU(x:V)(u:K3):Bool:=match u with
 | .none=>eqV .non x
 | .bool b=>eqV (.bl b) x
 | .int i _=>eqV (.int i) x
 | .str z _=>eqV (.str z) x
 |_=>false
theorem A1{x y:V}{u:K3}(r:aR y u)(f:iV y=true):eqU x u=eqV y x:=by
 cases y with
 |non=>cases r;rfl
 |bl b=>cases r;rfl
 |int i=>obtain⟨t,rfl⟩:=r;rfl
 |str z=>obtain⟨t,rfl⟩:=r;rfl
 |_=>exact absurd (show false=true from f) Mj
theorem qz{x:V}:∀{a:List V}{b:List K3},aS a b->a.all iV=true->b.any (eqU x)=a.any λy=>eqV y x
 |_,_,.nil,_=>rfl
 |y::a,u::b,.cons r t,f=>by
  rw[Qw,MN]at f;rw[O8,O8,A1 r f.1,qz t f.2]
theorem mh{A:L7}{s:K8}{x:V}{v:K3}(d:aR x v)(e:iV x=true):∀{b:List V}{c:List K3},aS b c->b.all iV=true->∀u∈c,SeqAt.EqAt A s u v (eqU x u)
 |_,_,.nil,_=>λu a=>by cases a
 |y::b,u::c,.cons r t,f=>λg a=>by
  rw[Qw,MN]at f;rcases KO.mp a with rfl |a
  .rw[A1 r f.1];exact HB r d f.1 e
  .exact mh d e t f.2 g a
def inV(x:V)(xs:List V):Bool:=xs.any λy=>eqV y x
def rIn(K:KM)(b:Bool):R2:=λx y H Q=>∃p a,y=.ref p/\(SqL K H p a\/SqT K H p a)/\iV x=true/\a.all iV=true/\Q (.bl (if b then !inV x a else inV x a)) H
theorem zR:OpR X (LX .In) (rIn X.K false):=by
 intro i s k H x y v u Q I e f h;obtain⟨p,j,rfl,a,d,fs,q⟩:=h;cases f;rcases a with a |a
 .obtain⟨its,r,b,g⟩:=I.list a;refine SeqAt.in_listAt (eqU x) b.isList (λw c=>mh e d r fs w (by simpa using c)) ⟨.bl _,H,I,rfl,?_⟩;rw[show its.toArray.any (eqU x)=its.any (eqU x) by simp,qz r fs];exact q
 .obtain⟨its,r,b,g⟩:=I.tuple a;refine SeqAt.in_tupleAt (eqU x) b (λw c=>mh e d r fs w (by simpa using c)) ⟨.bl _,H,I,rfl,?_⟩;rw[show its.toArray.any (eqU x)=its.any (eqU x) by simp,qz r fs];exact q
theorem je:cp X (.builtin "len") (λf H Q=>∃p a,f=[.ref p]∧(SqL X.K H p a∨SqT X.K H p a)∧Q (.int a.length) H):=by
 intro j s k H f l Q I r h;obtain⟨p,a,rfl,b,q⟩:=h;obtain⟨u,rfl,i⟩:=cX r;cases i;have m:=nW;rcases b with b |b
 .obtain⟨its,d,c,g⟩:=I.list b;have e:=d.length;exact Calls.call_len_list c.isList (by simp only[Lj] <;>lia) ⟨.int a.length,H,I.tok _,⟨s.toks+1,by rw[Lj,e]⟩,q⟩
 .obtain⟨its,d,c,g⟩:=I.tuple b;have e:=d.length;exact len_tuple c (by simp only[Lj] <;>lia) ⟨.int a.length,H,I.tok _,⟨s.toks+1,by rw[Lj,e]⟩,q⟩
theorem qE:cp X (.builtin "len") (λa H Q=>∃z,a=[.str z]∧z.length≤sizeLine∧Q (.int z.length) H):=by
 intro c s d H a e Q I r h;obtain⟨z,rfl,b,q⟩:=h;obtain⟨u,rfl,t,rfl⟩:=cX r;have f:=nW;exact len_str (by lia) ⟨.int z.length,H,I.tok _,⟨_,rfl⟩,q⟩
theorem qm:cp X (.type "list") (λy H Q=>∃p c,y=[.ref p]∧(SqL X.K H p c∨SqT X.K H p c)∧∀l,H l=none→Q (.ref l) (upd H l (.lst c))):=by
 intro A s B H y E Q I r h;obtain⟨p,c,rfl,g,q⟩:=h;obtain⟨u,rfl,D⟩:=cX r;cases D
 have z:∀(its:List K3),aS c its->c.length<=sizeLine->∀(a:Nh) (d:Nat),(∀b x,s.heap.get? b=some x->a.get? b=some x)->
   a.get? s.heap.objs.size=some {cls:=.type "list",dict:=none,data:=.seq its.toArray d,slots:=#[] }→EP X A B Q (.ref s.heap.objs.size) {s with heap:=a }:=λits f j a d i e=>
  ⟨.ref s.heap.objs.size,_,I.laid (t':=s.toks) i (K1 _) (show bR X.prog X.w _ a _ (.lst c) from ⟨j,its,d,f,e⟩),rfl,q _ (I.hok.fresh (K1 _))⟩
 rcases g with g |g
 .obtain⟨its,f,k,j⟩:=I.list g;have C:=f.length;obtain⟨o,t,m,n,v⟩:=k.isList;exact call_list_seq p (.inl rfl) t m v (λa d i e=>z its f j a d i e) (by simp only[Lj] <;>omega)
 .obtain⟨its,f,k,j⟩:=I.tuple g;have C:=f.length;obtain⟨o,t,m,n,v⟩:=k;exact call_list_seq p (.inr rfl) t m v (λa d i e=>z its f j a d i e) (by simp only[Lj] <;>omega)
theorem oE:cp X (.type "tuple") (λj H Q=>∃p a,j=[.ref p]∧((SqL X.K H p a∧∀l,H l=none→Q (.ref l) (upd H l (.tup a)))∨(SqT X.K H p a∧Q (.ref p) H))):=by
 intro i s k H j z Q I r h;obtain⟨p,a,rfl,h⟩:=h;obtain⟨u,rfl,x⟩:=cX r;cases x;rcases h with ⟨f,q⟩ |⟨f,q⟩
 .obtain⟨its,g,d,n⟩:=I.list f;have y:=g.length;refine call_tuple_list d.isList (λc t=>?_) (by simp only[Lj] <;>lia);have m:Inv X i k H {s with heap:=c }:=I.kept (t':=s.toks) t
  have v:Inv X i k (upd H c.objs.size (.tup a)) {s with heap:=c.push {cls:=.type "tuple",data:=.seq its.toArray } }:=
   m.laid (t':=s.toks) (λb o e=>KU _ e) (K1 _) (show bR X.prog X.w _ _ _ (.tup a) from ⟨n,its,g,IsTup.new _ _⟩)
  exact⟨.ref c.objs.size,_,v,rfl,q _ (m.hok.fresh (K1 _))⟩
 .obtain⟨its,g,d,n⟩:=I.tuple f;exact call_tuple_same d ⟨.ref p,H,I,rfl,q⟩
def tyV(K:KM)(T:String)(x:V)(H:Hp):Prop:=match x with
 | .str _=>T="str"
 | .int _=>T="int"
 | .ref p=>(T="list"∧∃b,SqL K H p b)∨(T="tuple"∧∃o,K.lookup p=some o∧o.cls=.type "tuple"∧o.dict=none)∨
   (T="dict"∧((∃a,H p=some (.dK a))∨∃a,H p=some (.dT a)))∨(T="set"∧∃S n,H p=some (.set S n))
 |_=>False
theorem AZ{q:List (Lm×Obj)}{u:St}{H:Hp}{s:K8}{T:String}{x:V}{v:K3}(I:Inv X q u H s)(r:aR x v)(f:tyV X.K T x H):
  s.TypeIs v T/\∀a,v=.ref a->∃k,s.heap.get? a=some k/\k.dict=none:=by
 cases x with
 |str z=>
  obtain⟨t,rfl⟩:=r;cases (show T="str" from f);exact⟨typeIs_str s z t,λ_ e=>nomatch e⟩
 |int i=>
  obtain⟨t,rfl⟩:=r;cases (show T="int" from f);exact⟨Pz s i t,λ_ e=>nomatch e⟩
 |ref p=>
  cases r;rcases f with ⟨rfl,y,l⟩ |⟨rfl,o,b,m,h⟩ |⟨rfl,b⟩ |⟨rfl,S,n,b⟩
  .obtain⟨its,_,j,_⟩:=I.list l;refine⟨j.isList.typeIs,λa e=>?_⟩;cases e;obtain⟨o,n,e,c,h,_⟩:=j;exact⟨o,e,h⟩
  .refine⟨⟨o,I.kIn p o b,m⟩,λa e=>?_⟩;cases e;exact⟨o,I.kIn _ o b,h⟩
  .have z:∃o,s.heap.get? p=some o/\o.ExactDict:=by
    rcases b with ⟨w,b⟩ |⟨w,b⟩
    .obtain⟨_,_,_,_,o,_,_,e,d,_⟩:=I.hok p _ b;exact⟨o,e,d⟩
    .obtain⟨_,_,_,_,o,_,_,e,d,_⟩:=I.hok p _ b;exact⟨o,e,d⟩
   obtain⟨o,e,d⟩:=z;refine⟨⟨o,e,d.1⟩,λa g=>?_⟩;cases g;exact⟨o,e,d.2.1⟩
  .obtain⟨o,_,_,_,e,d,_⟩:=I.hok p _ b;refine⟨⟨o,e,d.1⟩,λa g=>?_⟩;cases g;exact⟨o,e,d.2.1⟩
 |_=>exact False.elim f
def J4(K:KM)(T:String)(r:V->List V->Hp->VK->Prop)(c:TE):TE:=λb H Q=>c b H λx a=>tyV K T x a/\r x [] a Q
def tBM(K:KM)(T:String)(r:V->List V->Hp->VK->Prop)(e:TE)(t:TA):TE:=λb H Q=>e b H λx a=>tyV K T x a/\t b a λd c=>r x d c Q
variable {o e:Expr}{es:List Expr}{to:TE}{t:TA}{name:Str}{WI WC:Pos}{T id:String}{r:V→List V→Hp→VK→Prop}
theorem B7(l:PlainAttrs T)(a:Slot T name id)(b:typeOf (.builtin id)=pure (.type "method_descriptor"))(j:MtR X id r)(i:PE X o to)
  (WN:autoParam (MC o name X.env (Nq o X.env)=Nq o X.env) w4) (WO:autoParam ((WI.endLine==WC.line)=true) w4):PE X (.Call (.Attribute o name WI) [] [] WC) (J4 X.K T r to):=by
 intro c s e H Q I h;refine wpAny_Call_method0_late WN WO (thn (i c s e H _ I h) λv p n=>?_);obtain⟨x,g,f,d,ty,k⟩:=n;obtain⟨q,m⟩:=AZ f d ty;exact⟨T,id,l,a,b,q,m,RO rfl (PySem.evalArgs_none (j c p e g x [] v [] Q f d .nil k))⟩
theorem pf(z:PlainAttrs T)(a:Slot T name id)(d:typeOf (.builtin id)=pure (.type "method_descriptor"))(m:MtR X id r)(l:PE X o to)(E:PA X (e::es) t)
  (WN:autoParam (MC o name X.env (Nq o X.env)=Nq o X.env) w4)
  (W4:autoParam (((M4 WC (K7 (e::es) X.env)).all (λx=>!x.1) && (Pl WC (NT [] X.env)).all (λx=>x.1.isSome)
   && decide ((e::es).length+([]:List OR).length+(if ([]:List OR).isEmpty then 0 else 1)<30))=true) w4)
  (WO:autoParam ((WI.endLine==WC.line)=true) w4) (hs:autoParam (K7 (e::es) X.env=(false,Nq e X.env)::K7 es X.env) w4) (WQ:autoParam ((M4 WC (K7 es X.env)).any (·.1)=false) w4):
  PE X (.Call (.Attribute o name WI) (e::es) [] WC) (tBM X.K T r to t):=by
 intro b s c H Q I h;refine wpAny_Call_method_late WN W4 WO rfl (thn (l b s c H _ I h) λv D C=>?_);obtain⟨x,j,i,g,ty,q⟩:=C;obtain⟨F,B⟩:=AZ i g ty;refine⟨T,id,z,a,d,F,B,?_⟩;have f:=E WC b D c j _ i q;rw[hs]at f |-;refine RO (by show (false || (M4 WC (K7 es X.env)).any (·.1))=false;rw[WQ] <;>rfl) (Calls.evalArgs_plain ?_)
 exact thn f λA w ⟨p,k,y,u,n⟩=>m b w c k x p v A Q y g u n
end
def MtM(X:Cx)(e:String)(r:V->List V->Hp->VK->Prop):Prop:=
 ∀(a:List (Lm×Obj)) (s:K8) (c:St) (H:Hp) (x:V) (b:List V) (v:K3) (d:List K3) (Q:VK),Inv X a c H s->aR x v->aS b d->r x b H Q->
  LH (LM X.prog X.w) X.A (call (.builtin e) (v::d)) (EP X a c Q) X.xe s
theorem aS.one:∀{x:V}{a:List K3},aS [x] a->∃u,a=[u]/\aR x u
 |_,_,.cons r .nil=>⟨_,rfl,r⟩
theorem aS.zero:∀{a:List K3},aS [] a->a=[]
 |_,.nil=>rfl
theorem aS.dropLast{xs:List V}{us:List K3}(h:aS xs us):aS xs.dropLast us.dropLast:=by
 induction h with
 |nil=>exact .nil
 |cons r t a=>
  cases t with
  |nil=>exact .nil
  |cons q b=>exact .cons r a
theorem aS.rep{xs:List V}{us:List K3}(h:aS xs us):∀k:Nat,aS (LD k xs).flatten (LD k us).flatten
 |0=>.nil
 |k+1=>by
  rw[ME,ME,N5,N5];exact aS.append h (aS.rep h k)
theorem wz{α:Type}(l:List α):l.eraseIdx (l.length-1)=l.dropLast:=by
 induction l with
 |nil=>rfl
 |cons a r c=>
  cases r with
  |nil=>rfl
  |cons b r=>
   have e:(a::b::r).length-1=((b::r).length-1)+1:=by
    have f:(a::b::r).length=r.length+2:=rfl;have d:(b::r).length=r.length+1:=rfl;lia
   rw[e,List.eraseIdx_cons_succ,c]
   all_goals rfl
theorem oZ(a:List K3):∀(k:Nat) (WY:List K3),
  Vw (λd c=>d++c) WY.toArray (LD k a.toArray)=(WY++(LD k a).flatten).toArray
 |0,WY=>by simp
 |k+1,WY=>by
  have e:WY.toArray++a.toArray=(WY++a).toArray:=by simp
  have b:(WY++a)++(LD k a).flatten=WY++(LD (k+1) a).flatten:=by
   rw[ME,N5,O9]
  rw[<-b,<-oZ a k (WY++a),<-e,ME,MF]
section
variable {X:Cx}{Wz:List (Lm×Obj)}{σ:St}{H:Hp}{s:K8}{l b:Lm}{xs ys zs:List V}
theorem Inv.lset{a its':List K3}{n:Nat}{f:Array K3->Array K3}{t':Nat}(I:Inv X Wz σ H s)(c:H l=some (.lst xs))
  (e:s.heap.get? l=some {cls:=.type "list",data:=.seq a.toArray n }) (hf:f a.toArray=its'.toArray) (hv:aS ys its') (hz:ys.length≤sizeLine):
  Inv X Wz σ (upd H l (.lst ys)) {s with heap:=s.heap.update l (NB f),toks:=t' }:=by
 have q:=PySem.IsL.update e f;rw[hf]at q;refine I.write (x:=l) (e:=l) (by rw[c];exact trivial) (.inl rfl) (λg u b d=>(LZ s.heap (NB f) (Ne.symm b)).trans d) ⟨_,q⟩ ?_
 exact⟨hz,its',_,hv,q⟩
theorem Inv.lnew{a:List K3}{t':Nat}(I:Inv X Wz σ H s)(c:aS ys a)(b:ys.length<=sizeLine):
  Inv X Wz σ (upd H s.heap.objs.size (.lst ys)) {s with heap:=s.heap.push {cls:=.type "list",data:=.seq a.toArray },toks:=t' }:=
 I.laid (λ_ _ q=>KU _ q) (K1 _) ⟨b,a,0,c,Le _ rfl⟩
theorem Inv.fresh(I:Inv X Wz σ H s):H s.heap.objs.size=none:=I.hok.fresh (K1 _)
theorem Inv.lstM(I:Inv X Wz σ H s)(a:H l=some (.lst xs)):xs.length≤sizeLine∧∃(its:List K3) (n:Nat),aS xs its∧xs.length=its.length∧s.heap.get? l=some {cls:=.type "list",data:=.seq its.toArray n }:=by
 obtain⟨z,its,n,r,e⟩:=I.hok l _ a;exact⟨z,its,n,r,r.length,e⟩
theorem uG{n:Nat}(h:n<=sizeLine):Builtin.List.listTooLong n=false:=by
 unfold Builtin.List.listTooLong;exact decide_eq_false (by lia)
end
section
variable {X:Cx}
def DC:V->List V->Hp->VK->Prop:=λx b H Q=>∃l a y,x=.ref l/\b=[y]/\H l=some (.lst a)/\a.length<sizeLine/\Q .non (upd H l (.lst (a++[y])))
theorem pN:MtM X "list.append" DC:=by
 intro f s j H x g v m Q I d b h;obtain⟨l,i,y,rfl,rfl,a,k,q⟩:=h;cases d;obtain⟨u,rfl,c⟩:=b.one;obtain⟨z,its,n,r,o,e⟩:=I.lstM a;refine O_ F.slot_list_append ⟨_,e,rfl⟩ F.entry_list_append (F.args_list_append_2 _ _) (PySem.list_append l its.toArray n u (by rw[Lj];lia)) ⟨e,?_⟩;refine⟨.non,_,I.lset (its':=its++[u]) a e (by simp) (r.append (.cons c .nil)) ?_,rfl,q⟩;rw[LB,R6];lia
def Ey:V->List V->Hp->VK->Prop:=λx d H Q=>∃l b c a,x=.ref l/\d=[.ref b]/\H l=some (.lst c)/\H b=some (.lst a)/\c.length+a.length<=sizeLine/\Q .non (upd H l (.lst (c++a)))
theorem zf:MtM X "list.extend" Ey:=by
 intro w s B H x y v E Q I t g h;obtain⟨l,b,A,G,rfl,rfl,d,p,D,q⟩:=h;cases t;obtain⟨u,rfl,m⟩:=g.one;cases m;obtain⟨z,its,n,r,J,e⟩:=I.lstM d;obtain⟨C,a,o,i,k,f⟩:=I.lstM p;have c:its.toArray.size+a.toArray.size<=sizeLine:=by rw[Lj,Lj];omega
 have j:¬ (!its.toArray.isEmpty && Builtin.List.listTooLong (its.toArray.size+a.toArray.size))=true:=by
  rw[uG c,SX];exact Mj
 refine O_ F.slot_list_extend ⟨_,e,rfl⟩ F.entry_list_extend (F.args_list_extend_2 _ _)
  (AutoSeq1.list_extend_list_list_0 l its.toArray n b a.toArray o j (by rw[Lj];omega) (by omega)) ⟨e,f,?_⟩
 refine⟨.non,_,I.lset (its':=its++a) d e (by simp) (r.append i) ?_,rfl,q⟩;rw[LB];omega
def Kz:V->List V->Hp->VK->Prop:=λx b H Q=>∃l a y,x=.ref l/\b=[]/\H l=some (.lst a)/\a[a.length-1]?=some y/\Q y (upd H l (.lst a.dropLast))
theorem HG:MtM X "list.pop" Kz:=by
 intro k s p H x m v t Q I i c h;obtain⟨l,o,y,rfl,rfl,b,hy,q⟩:=h;cases i;have a:=c.zero;subst a;obtain⟨z,its,n,r,j,e⟩:=I.lstM b;obtain⟨u,g,f⟩:=r.get hy
 have d:its.toArray[its.toArray.size-1]?=some u:=by
  show its.toArray[its.length-1]?=some u;rw[<-L4,<-j];exact g
 refine O_ F.slot_list_pop ⟨_,e,rfl⟩ F.entry_list_pop (F.args_list_pop_1 _) (MeetsSeq.list_pop_last l its.toArray n u d (by rw[Lj];lia)) ⟨e,?_⟩;refine⟨y,_,I.lset (its':=its.dropLast) b e ?_ r.dropLast ?_,f,q⟩
 .show its.toArray.eraseIdxIfInBounds (its.toArray.size-1)=its.dropLast.toArray;rw[Lj,List.eraseIdxIfInBounds_toArray,wz]
 .rw[Mz];lia
noncomputable def J_:R2:=λx y H Q=>∃l b c a,x=.ref l/\y=.ref b/\H l=some (.lst c)/\H b=some (.lst a)/\c.length+a.length<=sizeLine/\∀p,H p=none->Q (.ref p) (upd H p (.lst (c++a)))
theorem GM:OpR X (Pk .Add) J_:=by
 intro o s t H x y v u Q I m i h;obtain⟨l,b,p,C,rfl,rfl,j,k,A,q⟩:=h;cases m;cases i;obtain⟨z,its,n,r,D,e⟩:=I.lstM j;obtain⟨w,a,B,d,g,c⟩:=I.lstM k;refine PySem.P.add_list e c ?_ (by rw[Lj,Lj];lia);have f:its.toArray++a.toArray=(its++a).toArray:=by simp
 rw[f];exact⟨.ref _,_,I.lnew (t':=s.toks) (r.append d) (by rw[LB];lia),rfl,q _ I.fresh⟩
noncomputable def Kv:R2:=λx y H Q=>∃l k a,x=.ref l/\y=.int k/\H l=some (.lst a)/\-(2 ^ 63)<=k/\k<2 ^ 63/\a.length*k.toNat<=sizeLine/\
 ∀p,H p=none->Q (.ref p) (upd H p (.lst (LD k.toNat a).flatten))
theorem Eh{α:Type}(xs:List α)(k:Nat):(LD k xs).flatten.length=k*xs.length:=by
 induction k with
 |zero=>simp
 |succ k a=>rw[ME,N5,LB,a,Nat.succ_mul,Uk]
theorem Ht:OpR X (Pk .Mult) Kv:=by
 intro J s M H x y v u Q I D p h;obtain⟨l,k,L,rfl,rfl,B,G,C,g,q⟩:=h;cases D;obtain⟨t,rfl⟩:=p;obtain⟨z,its,n,r,E,e⟩:=I.lstM B;have w:its.toArray.size*k.toNat<=sizeLine:=by rw[Lj,<-E];exact g
 have b:¬ its.toArray.size*k.toNat >(2 ^ 63-1)/8:=by
  have:(sizeLine:Nat)<=(2 ^ 63-1)/8:=by decide
  omega
 have o:¬ (!Builtin.List.listFitsIndex k)=true:=by
  rw[fitsIndex_both G C];exact Mj
 have i:¬ Builtin.List.listTooLong (its.toArray.size*k.toNat)=true:=by
  rw[uG w];exact Mj
 have c:Vw (λd f=>d++f) #[] (LD (if its.toArray.isEmpty=true then 0 else k.toNat) its.toArray)=(LD k.toNat its).flatten.toArray:=by
  have A:∀m:Nat,Vw (λd f=>d++f) #[] (LD m its.toArray)=(LD m its).flatten.toArray:=λm=>by
   have:=oZ its m [];rw[R7]at this;exact this
  rw[A];cases its with
  |nil=>simp
  |cons a K=>rw[if_neg (by simp)]
 refine wpAny_binaryOp_repeat_ref (T:="list") (U:="int") (by decide) ⟨_,e,rfl⟩ (λj=>Pz j k t) noFill_list_mul F.fills_int_mul F.slot_int_rmul repeat_list F.slot_int_index.lookup
  (O_ F.slot_int_rmul (Pz s k t) F.entry_int_rmul (F.args_int_rmul_2 _ _) (int___rmul___int_list k t l its.toArray n)
   ⟨e,rfl,⟨_,e,rfl⟩,O_ F.slot_list_mul ⟨_,e,rfl⟩ F.entry_list_mul (F.args_list_mul_2 _ _) (AutoListH.list___mul___list_int_3 l its.toArray n k t o b i) ⟨e,?_⟩⟩)
 rw[c];exact⟨.ref _,_,I.lnew (t':=s.toks) (r.rep k.toNat) (by rw[Eh,Ul];exact g),rfl,q _ I.fresh⟩
end
end L2
namespace Att
open PySem PySem.W PySem.Calls PyProof.Rows
theorem lw{P:Params}{h:Nh}:∀(c:List Int) (d:List K3),WellAll P h d (c.map WData.int)->VE d c:=by
 intro c
 induction c with
 |nil=>
  intro d w;rw[Og]at w;cases w;exact .nil
 |cons n c e=>
  intro d w;rw[Lb]at w;cases w with
  |cons a b=>
   cases a;exact .cons _ _ (e _ b)
theorem script_of{l:OpenLaw}{n:Nat}(t:l.most=some n){P:Params}{h:Nh}{args:List WData}{c:List K3}
  (XZ:l.row.toRowW.claim.pre args=true) (hwl:WellAll P h c args):
  ∃a i b,c=[LQ a]∧args=[WData.list (b.map WData.int)]∧h.get? a=some {cls:=.type "list",data:=.seq i.toArray }∧VE i b∧b.length≤n:=by
 have hsh:WShape.hasAll [] args [.list .int]=true:=(pre_splitW XZ).1;have g:l.pre.holds [] {args:=args }=true:=(pre_splitW XZ).2;obtain⟨d,r,rfl,w,u⟩:=hasAllW_cons hsh;obtain rfl:=hasAllW_nil u;obtain⟨x,rfl,v⟩:=hasW_list w;obtain⟨b,rfl⟩:=items_int v
 have m:b.length<=n:=by
  unfold OpenLaw.pre at g
  have f:(WTm.not (.lt (.lit (.int (n:Int))) (.len (.arg 0)))).holds [] {args:=[.list (b.map .int)] }=true:=by
   have f:=(holds_andW g).1;rw[t]at f;exact f
  have e:=condW_of f (w_not (w_lt w_lit (w_len_list (w_arg rfl))));rw[KI]at e;refine Pm λq=>?_
  have o:(n:Int)<((b.length:Nat):Int):=by lia
  first
   | (rw[decide_eq_true o]at e;exact absurd e (by decide))
   | (simp at e;lia)
 cases hwl with
 |cons p s=>
  cases s;cases p with
  |list j k=>exact⟨_,_,b,rfl,rfl,j,lw b _ k,m⟩
theorem post_true(l:OpenLaw)(args:List WData):l.row.toRowW.claim.post args (.bool true) args=true:=
 postW_of (r:=l.row.toRowW) (X:=(true==true))
  (show WShape.has [] (.bool true) .bool=true by first |rfl |decide |simp[WShape.has,WShape.arms,WShape.armsAll])
  (show (WTm.eq .res (.lit (.bool true))).value [] {args:=args,res:=some (.bool true),after:=args }=some (.bool (true==true)) from w_eq_bool (w_res rfl) w_lit) rfl
end Att
namespace L2
open PySem PySem.Spec PyProof.Rows
theorem oX:∀{b:List K3}{a:List Int},VE b a->aS (a.map V.int) b
 |_,_,.nil=>.nil
 |_,_,.cons n t h=>.cons ⟨t,rfl⟩ (oX h)
def El(H:Hp):Prop:=∀b,H b=none\/∃o a,H b=some (.frz o (.lst a))
theorem Bn{P:Lg}{w:LL}{K:KM}{y E:Str->Option K3}{CX:CXT}{k:Nat}{I a:Lm}{N:Ng}{x:Str}{sp:Sp}{c:K8}{vs:List K3}{ns:List Int}
  (KX:K.In c.heap) (hns:c.heap.Ns Mi y) (hb:c.heap.Ns Vt E) (hbb:∀x:Str,x≠"__name__"→E x=M7 x) (hlim:c.heap.NoLimit) (hg:c.gens=#[])
  (ha:c.heap.get? a=some {cls:=.type "list",data:=.seq vs.toArray }) (hi:VE vs ns) (hl:ns.length≤sizeLine) (hr:cB k T3)
  (F:∀base:Nh,K.In base->base.Ns Mi y->cF P w K y base CX k I N [x] sp) (hbind:∀(s:K8) (u:K3),VB s N ⟨[u],[]⟩ [(x,u)])
  (Xw:∀H:Hp,El H->SqL K H a (ns.map V.int)->sp [.ref a] H (λv _=>v=.bl true) λ_ _ _=>False)
  (hCX:∀H e f,CX [] H c (λ_ _ _=>False) e f->False):
  PM (LM P w) T3 (.call (.ref I) ⟨[.ref a],[]⟩) (λr f=>r=.ok (.ret (.bool true))/\OldK c.heap f.heap/\f.os=c.os/\Rk f.gens) c:=by
 have L:=oX hi;have p:=hi.length
 have i:∀H:Hp,El H->SqL K H a (ns.map V.int)->HOk P w H c.heap->(∀b,H b≠none->b=a)->(H a≠none->K.lookup a=none)->
   PM (LM P w) T3 (.call (.ref I) ⟨[.ref a],[]⟩) (λr f=>r=.ok (.ret (.bool true))/\OldK c.heap f.heap/\f.os=c.os/\Rk f.gens) c:=by
  intro H R hS t M hK;have O:∀{b:Lm}{o:Obj},c.heap.get? b=some o->H b=none->(p0 c.heap H).get? b=some o:=λe n=>Bv e n
  have J:∀{b:Lm}{o:Obj}{A:Array DictEntry}{l:Nat},c.heap.get? b=some o->o.data=.dict A l->H b=none:=λ{b o A l} e d=>by
   cases q:H b with
   |none=>rfl
   |some u=>
    have G:b=a:=M b (by rw[q];simp);subst G;rw[ha]at e;cases e;have S:Data.seq vs.toArray _=Data.dict A l:=d;cases S
  have g:∀{b:Lm}{m:Str->Option K3},c.heap.Ns b m->(p0 c.heap H).Ns b m:=λ{b m} ⟨o,A,l,e,d,r⟩=>⟨o,A,l,O e (J e d),d,r⟩
  have C:K.In (p0 c.heap H):=λb o e=>O (KX b o e) (by
   cases q:H b with
   |none=>rfl
   |some u=>
    have G:b=a:=M b (by rw[q];simp);subst G;rw[hK (by rw[q];simp)]at e;cases e)
  have X:Mod K y (p0 c.heap H):=⟨C,g hns,⟨E,g hb,hbb⟩,let ⟨mc,h1,h2⟩:=hlim;⟨mc,g h1,h2⟩⟩;have Y:vg P w K y (p0 c.heap H) T3 [] c H:=⟨rfl,X,λb o e=>Fh e,VQ (zF _ _),trivial,λb hb=>absurd (show b∈([]:List Lm) from hb) (by simp),t,.of_eq hg⟩
  refine Px ((F _ C (g hns)).run T3 [] c H ⟨[.ref a],[]⟩ [.ref a] [.ref a] _ _ hr Y (hbind c (.ref a)) (.cons rfl .nil) (Xw H R hS)) λr f h=>?_;cases r with
  |error e=>exact (hCX H e f h).elim
  |ok fl=>
   cases fl with
   |next=>exact False.elim h
   |brk=>exact False.elim h
   |cont=>exact False.elim h
   |ret u=>
    obtain⟨v,H',U,D,un,j,Z,q⟩:=h;have q':v=.bl true:=q;subst q';obtain rfl:u=SH true:=Z;refine⟨rfl,OldK.of_keep λb o e=>?_,U,D⟩;cases q:H b with
    |none=>exact un.keep b o e q (by intro z;exact absurd (show b∈([]:List Lm) from z) (by simp)) (by simp)
    |some u=>
     rcases R b with z |⟨W,xs,z⟩
     .rw[q]at z;cases z
     .have z2:=un.frzs b W _ z;obtain⟨Q,_⟩:=t b _ z;obtain⟨T,_⟩:=j b _ z2;rw[e]at Q;cases Q;exact T
 cases hk:K.lookup a with
 |some o=>
  have e:=KX a o hk;rw[ha]at e;cases e;refine i (λ_=>none) (λ_=>.inl rfl) (.inr ⟨_,vs.toArray,_,hk,rfl,rfl,rfl,by rw[Lj,p];exact hl,by simpa using L⟩) (λb u z=>by have B:(none:Option HO)=some u:=z;cases B) (λb z=>absurd rfl z) λz=>absurd rfl z
 |none=>
  refine i (λb=>if b=a then some (.frz {cls:=.type "list",data:=.seq vs.toArray } (.lst (ns.map V.int))) else none) (λb=>?_) (.inl (.inr ⟨{cls:=.type "list",data:=.seq vs.toArray },if_pos rfl⟩)) (λb u z=>?_) (λb z=>?_) λ_=>hk
  .by_cases hb:b=a
   .exact .inr ⟨_,_,if_pos hb⟩
   .exact .inl (if_neg hb)
  .by_cases hb:b=a
   .have B:=(if_pos hb).symm.trans z;cases B;subst hb;exact⟨ha,by rw[KI];exact hl,vs,_,L,ha⟩
   .have B:=(if_neg hb).symm.trans z;cases B
  .by_cases hb:b=a
   .exact hb
   .exact absurd (if_neg hb) z
abbrev KOf{K:KM}{h:Nh}(_:K.In h):KM:=K
end L2
namespace L2
open PySem PySem.Spec PyProof.Rows
noncomputable def cf(s:Nz):Arguments:=match s with
 | .FunctionDef _ a _ _ _ _ _ _ _ _=>a
 |_=>{posonlyargs:=[],args:=[],vararg:=none,kwonlyargs:=[],kw_defaults:=[],kwarg:=none,defaults:=[] }
def bq(s:Nz):List Nz:=match s with
 | .FunctionDef _ _ b _ _ _ _ _ _ _=>b
 |_=>[]
def ai(s:Nz):S_:=match s with
 | .FunctionDef _ _ _ _ _ _ a _ _ _=>a
 |_=>{kind:=.function,names:=[],isGenerator:=false,isCoroutine:=false }
abbrev CX0:CXT:=λ_ _ _ _ _ _=>False
abbrev E0:XK:=λ_ _ _=>False
structure Fun(K:KM)(x WD:Str)(st:Nz)(f:Lm)(fd:Ng):Prop where
 ex:∃(oc:K3) (od:Option Lm) (kV Xh pm:K3) (an:Option Lm) (cdv ct:K3) (X5:Array (Option K3)),
  fd=N1 x WD (cf st) (bq st) (ai st) .none kV Xh pm an cdv ct/\K.lookup f=some ⟨oc,od,.func fd,X5⟩/\Qh K cdv WD=true
 kp:NK K (.ref f)=true
section
variable {P:Lg}{w:LL}{K:KM}{mg:Str→Option K3}{base:Nh}
theorem Fun.binds{x l:Str}{b:Nz}{f:Lm}{k:Ng}{d:List Str}(F:Fun K x l b f k)
  (h:∀(kV c e:K3) (j:Option Lm) (a g:K3) (i:List K3),i.length=d.length->Qg (N1 x l (cf b) (bq b) (ai b) .none kV c e j a g) ⟨i,[]⟩=pure (d.zip i)):cJ K k d []:=by
 obtain⟨n,m,kV,c,e,j,a,g,o,rfl,q,p⟩:=F.ex;exact .all (h kV c e j a g)
theorem kq{x d:Str}{b:Nz}{f:Lm}{m:K3}{o j:Option Lm}{n:Array (Option K3)}{g h e a i:K3}(l:K.lookup f=some ⟨m,o,.func (N1 x d (cf b) (bq b) (ai b) .none g h e j a i),n⟩)
  (c:Qh K a d=true) (k:NK K (.ref f)=true):Fun K x d b f (N1 x d (cf b) (bq b) (ai b) .none g h e j a i):=⟨⟨m,o,g,h,e,j,a,i,n,rfl,l,c⟩,k⟩
end
theorem am{n:Nat}(h:n<=1000):n<sizeLine:=MD h (by decide)
theorem lC{A B:Prop}(h:B):if false=true then A else B:=by
 rw[if_neg Mj];exact h
theorem oM{A B:Prop}(h:A):if true=true then A else B:=by
 rw[if_pos rfl];exact h
def aT(H a:Hp):Prop:=∀b o,H b=some o->a b=some o
theorem aT.refl(H:Hp):aT H H:=λ_ _ h=>h
theorem aT.trans{H d e:Hp}(a:aT H d)(b:aT d e):aT H e:=λc o h=>b c o (a c o h)
theorem aT.free{H a:Hp}(e:aT H a){l:Lm}(h:a l=We):H l=We:=by
 cases q:H l with
 |none=>rfl
 |some o=>
  rw[e l o q]at h;cases h
theorem aT.seq{K:KM}{H b:Hp}{a:Lm}{xs:List V}(e:aT H b)(h:SqL K H a xs):SqL K b a xs:=by
 rcases h with (h |⟨o,h⟩) |h
 .exact .inl (.inl (e _ _ h))
 .exact .inl (.inr ⟨o,e _ _ h⟩)
 .exact .inr h
def Sz(m:Nat)(x:Int):Prop:=x.natAbs<2 ^ m
theorem Sz.mono(h:Sz m x)(a:m<=n):Sz n x:=Ls h (Qs (by decide) a)
theorem Sz.neg(h:Sz m x):Sz m (-x):=by unfold Sz at *;rw[Int.natAbs_neg];exact h
theorem Sz.add(a:Sz m x)(b:Sz m y):Sz (m+1) (x+y):=by
 unfold Sz at *;have:=Int.natAbs_add_le x y;rw[N2];omega
theorem Sz.sub(a:Sz m x)(b:Sz m y):Sz (m+1) (x-y):=by
 rw[Int.sub_eq_add_neg];exact a.add b.neg
theorem Sz.mul(a:Sz m x)(b:Sz n y):Sz (m+n) (x*y):=by
 unfold Sz at *;rw[Qi,Wf];exact Nat.mul_lt_mul'' a b
theorem Sz.le(h:x.natAbs<=y.natAbs)(a:Sz m y):Sz m x:=MD h a
theorem Sz.ediv(a:Sz m x):Sz m (x/y):=Sz.le (Int.natAbs_ediv_le_natAbs x y) a
theorem Sz.abs(a:Sz m x):Sz m (if x<0 then -x else x):=by split;exact a.neg;exact a
instance (m:Nat) (x:Int):Decidable (Sz m x):=inferInstanceAs (Decidable (x.natAbs<2 ^ m))
theorem Sz.add'(a:Sz m x)(b:Sz n y):Sz (max m n+1) (x+y):=(a.mono (UU m n)).add (b.mono (Uv m n))
theorem Sz.sub'(a:Sz m x)(b:Sz n y):Sz (max m n+1) (x-y):=(a.mono (UU m n)).sub (b.mono (Uv m n))
theorem Sz.lit(h:Sz m x):Sz m x:=h
theorem Sz.ok(a:Sz m x)(b:Sz n y)(h:m+n<=134217728):IntMulOk x y:=
 PyProof.Rows.mulOk_of_bits (intBits_le_iff.mpr a) (intBits_le_iff.mpr b) h
theorem Sz.log(h:Sz m x)(a:m<=9000)(b:x≠0):x.natAbs.log2<9000:=by
 have q:=(UV (by lia)).mpr (show x.natAbs<2 ^ m from h);lia
def FF(_ j:Int):Prop:=0<j/\Sz 9000 j
def F9(_ j:Int):Prop:=j≠0/\Sz 9000 j
section
variable {X:Cx}{a b c:Expr}{ta tb tc:TE}{pos:Pos}
theorem Ew:OpR X (Pk .Mult) (rI IntMulOk λi j=>.int (i*j)):=opI λ_ _ _ _ _ _ _ a q=>mul_int q a
theorem CB:OpR X (Pk .FloorDiv) (rI FF λi j=>.int (i/j)):=opI λi j _ _ _ _ _ a q=>by
 have b:=a.1;exact floordiv_int (by lia) (by rw[Int.fdiv_eq_ediv_of_nonneg i (by lia)];exact q) (.inl (PyProof.noPylong_of_log2 (a.2.log (by decide) (by lia))))
theorem AU:OpR X (Pk .FloorDiv) (rI F9 λi j=>.int (i.fdiv j)):=opI λi j _ _ _ _ _ a q=>
 floordiv_int a.1 q (.inl (PyProof.noPylong_of_log2 (a.2.log (by decide) a.1)))
theorem JK(b:Gl X x)(d:X.mg x=none)(c:M7 x=some (.type n))(e:autoParam (x≠"__name__") v0)(a:autoParam ((x==("__debug__":Str))=false) v0):PE X (.Name x pos) (tC (.ty n)):=
 Ea b d c rfl e a
theorem wD:cp X (.type "int") (λa H Q=>∃k,a=[.bl k]∧Q (.int (if k then 1 else 0)) H):=by
 intro b s c H a d Q I r h;obtain⟨k,rfl,q⟩:=h;exact y3 b s c H _ d Q I r (.inr ⟨k,rfl,q⟩)
end
theorem kit_int_int(K):Qf K (.type "int") (.type "int")=some true:=rfl
theorem kit_int_bool(K):Qf K (.type "int") (.type "bool")=some false:=rfl
theorem aO(h:H p=none)(o):aT H (upd H p o):=λb u q=>by rw[aI (dg q h)];exact q
theorem aT.put(e:aT H H')(h:H l=none)(o):aT H (upd H' l o):=λb u q=>by rw[aI (dg q h)];exact e b u q
theorem aT.tup{K:KM}{H b:Hp}{a:Lm}{xs:List V}(e:aT H b)(h:SqT K H a xs):SqT K b a xs:=by
 rcases h with (h |⟨o,h⟩) |h
 .exact .inl (.inl (e _ _ h))
 .exact .inl (.inr ⟨o,e _ _ h⟩)
 .exact .inr h
end L2
namespace L2
open PySem PySem.W PySem.Calls PySem.Spec PyProof.Rows
theorem tJ{ns:List Int}(h:WData.layableAll [WData.list (ns.map WData.int)]=true):∀n∈ns,Sz 1048576 n:=by
 intro n e;have c:=(PySem.W.layableW_arg h) _ (K9.mpr rfl);have a:=PySem.W.layableW_item c (WData.int n) (KZ.mpr ⟨n,e,rfl⟩);have b:=(PySem.W.layableW_iff.mp a).2.2;have d:Builtin.Int.intBits n<=1048576:=by simpa only[WData.weight,Builtin.Int.intBits] using b
 exact intBits_le_iff.mp d
theorem qr{l:UW} 
  (hn:l.most=some n) (hdf:d.params.defaults=[])
  (call:∀w b c k s j o x cd u a e i,
   PySem.W.Ground q loose [] XP w b k s c.heap->YP w c.heap->
   c.heap.get? j=some o->o.data=.func (docDef d.name d.params d.body d.scope x cd u)->c.heap.CodeRec cd d.name->k d.name=some (.ref j)->
   c.heap.get? a=some {cls:=.type "list",data:=.seq e.toArray }→VE e i→i.length≤n→(∀m∈i,Sz 1048576 m)→c.gens=#[]→
   PM (LM l.prog w) T3 (.call (.ref j) ⟨[.ref a],[]⟩) (λr p=>r=.ok (.ret (.bool true))/\OldK c.heap p.heap/\p.os=c.os/\Rk p.gens) c):
  VG q loose XP YP l.row.toRowW d [] (λf e=>Wv f e):=by
 intro w b c k s G Y j o x cd u B kV D H M A t P z y as K h O v I;obtain rfl:B=.none:=Wo A hdf;obtain rfl:kV=.none:=Wp A;obtain⟨a,e,i,rfl,rfl,g,F,L⟩:=Att.script_of hn K v;refine PySem.W.enter_call (Px (call w b c k s j o x cd u a e i G Y D (PySem.W.fd_plain H) M t g F L (tJ h) P) λr p C=>?_);obtain⟨rfl,N,Q,J⟩:=C;exact⟨.inl ⟨.bool true,.bool true,[],rfl,λ_=>rfl,.bool true,Att.post_true l _,λ_=>⟨Pa,λ_ E=>(nomatch E)⟩⟩,N,Q,J⟩
theorem walk_ofB{l:UW}{K:Params->KM}{sp:KM->Sp} 
  (hn:l.most=some n) (hn2:n<=sizeLine) (hdf:d.params.defaults=[]) (hr:cB k T3)
  (hY:∀w h,YP w h->(K w.params).In h)
  (F:∀w i r h,(K w.params).In h->h.Ns Mi i->i d.name=some (.ref r)->
   ∃y,(∀s u,VB s y ⟨[u],[]⟩ [(x,u)])/\
    ∀base,(K w.params).In base->base.Ns Mi i->cF l.prog w (K w.params) i base CX k r y [x] (sp (K w.params)))
  (Xw:∀K H a (p:List Int),p.length<=n->(∀m∈p,Sz 1048576 m)->El H->SqL K H a (p.map V.int)->sp K [.ref a] H (λv _=>v=.bl true) λ_ _ _=>False)
  (hCX:∀H s e z,CX [] H s (λ_ _ _=>False) e z->False):
  VG q loose XP YP l.row.toRowW d [] (λf B=>Wv f B):=by
 refine qr hn hdf λw D N i P r o U cd R a B p G Y Q S W t j E C c O=>?_;have A:=hY w _ Y;obtain⟨y,I,J⟩:=F w i r _ A G.T.g t;exact Bn A G.T.g G.T.b G.T.builtins G.T.nolimit O j E (Mh C hn2) hr J I (λH L M=>Xw _ H a p C c L M) λH e z=>hCX H N e z
end L2
namespace L2
theorem cQ{α:Type}{xs:List α}{i:Nat}{v:α}(e:k=(i:Int))(h:xs[i]?=some v):atI xs k=some v:=by subst e;exact wJ h
theorem Sz.natle(a:Sz m y)(h:x.natAbs<=y.natAbs):Sz m x:=Sz.le h a
end L2
namespace L2
open PySem PySem.Spec PyProof.Rows
noncomputable abbrev aZ(X:Cx)(c:S_)(b:List (Str×Lm))(C:Lm)(s:K8)(H:Hp)(a:List Lm):Cx:=
 {X with s₀:=s,H₀:=H,env:=compEnvC c b C X.env,outer:=X.stack,ex:=a,fn:=λ_=>false,pn:=[],xe:=λ_ _=>False }
def mask:List Nat->St->St
 |[],σ=>σ
 |i::is,σ=>mask is (σ.set i none)
theorem h_:∀is a,(mask is a).length=a.length
 |[],_=>rfl
 |i::is,a=>by rw[mask,h_ is];simp
theorem mL:∀is σ j v,(mask is σ)[j]?=some (some v)->σ[j]?=some (some v)/\j ∉ is
 |[],σ,j,v,h=>⟨h,by simp⟩
 |i::is,σ,j,v,h=>by
  obtain⟨a,b⟩:=mL is _ j v h;by_cases e:i=j
  .subst e;rw[Ra]at a;simp at a
  .rw[Lw e]at a;exact⟨a,by simp[Ne.symm e,b]⟩
structure dG(X:Cx)(WA:S_)(cl:List (Str×Lm))(is:List Nat):Prop where
 clos:Vx WA X.env=pure cl
 cell:∀y∈WA.names,y.2≠.cell
 kind:WA.kind=.function
 names:∀y∈WA.names,y.2=.local->WA.names.lookup y.1=some .local
 cls:∀x c,cl.lookup x=some c->X.env.cells.lookup x=some c
 free:∀x,((relabel WA X.env).names.lookup x=some .cell\/(relabel WA X.env).names.lookup x=some .free)->Vis X.env.scope x/\X.env.scope.names.lookup x≠some .local/\∃c,cl.lookup x=some c
 own:∀i x,X.N[i]?=some x->(relabel WA X.env).names.lookup x=some .local->i∈is
section
variable {X:Cx}{Wz:List (Lm×Obj)}{σ:St}{H:Hp}{s:K8}
theorem sM(I:Inv X Wz σ H s)(B:dG X WA cl is)(d:∀b∈fp,lD X Wz H b)(q:∀b∈fp,b<s.heap.objs.size)
  (hn:h₁.Ns s.heap.objs.size m) (hk:∀b o,s.heap.get? b=some o->h₁.get? b=some o):
  Inv (aZ X WA cl s.heap.objs.size s H fp) [] (mask is σ) H {s with heap:=h₁,toks:=t' }:=by
 refine⟨⟨I.ok.mod,B.kind,I.ok.glob,I.ok.blt,K1 _,λx y c f t=>I.ok.inj x y c (B.cls x c f) (B.cls y c t),λx E=>(B.free x E).2.2,λx c h=>(by cases h),I.ok.hd,I.ok.frames,.inl rfl,λb a=>⟨LA (q b a),λx c e=>(d b a).2.2.2.2.1 x c (B.cls x c e)⟩,
  I.bs,Mh I.ok.bsz I.sz,λb o e a=>?_,λb a z=>?_,I.stack,I.stkFree⟩,rfl,I.bare,Un.kept hk,⟨m,hn,λi x v f t M=>?_⟩,λx c e=>?_,I.hok.fresh (K1 _),λx c e=>I.freeC x c (B.cls x c e),λp D=>absurd (show p∈([]:List (Lm×Obj)) from D) (by simp),I.hok.kept hk,?_⟩
 .rcases (d b a).2.2.2.1 with z |z
  .exact I.ok.noex b o e z
  .exact absurd (Ls (Lc e) (Mh I.ok.bsz z)) (LS _)
 .rcases KO.mp (I.stkSub b z) with e |e
  .exact (d b a).2.1 e
  .exact (d b a).2.2.1 e
 .obtain⟨F,G⟩:=mL is σ i v t;have n:=M;rcases n with z |z
  .exact absurd (B.own i x f z) G
  .obtain⟨K,w,c,A⟩:=B.free x z;obtain⟨P,_,L⟩:=I.loc;obtain⟨u,r,l⟩:=L i x v f F K;refine⟨u,r,.inr ⟨z,c,A,?_⟩⟩;rcases l with ⟨k,_⟩ |⟨_,O,J,o,g,j⟩
   .exact absurd k w
   .have C:=B.cls x c A;rw[J]at C;cases C;exact⟨o,hk _ _ g,j⟩
 .obtain⟨v,o,g,j⟩:=I.cell x c (B.cls x c e);exact⟨v,o,hk _ _ g,j⟩
 .show (mask is σ).length=X.N.length;rw[h_];exact I.len
end
noncomputable def goC(a:List (Str×Lm)):List (Str×SI)->List (Str×Lm)->List (Str×Lm)
 |[],WY=>WY
 | (n,k)::r,WY=>goC a r (if (k==.free)=true then (n,(a.lookup n).getD 0)::WY else WY)
theorem uX(h:∀y∈WA.names,y.2=.free->(env.cells.lookup y.1).isSome=true):Vx WA env=pure (goC env.cells WA.names []):=by
 have all:∀a d,(∀y∈a,y.2=.free->(env.cells.lookup y.1).isSome=true)->
   (forIn a d (λx l=>match x with | (name,b)=>if (b==.free)=true then (do let c <-cellOf env name;pure (ForInStep.yield ((name,c)::l))) else pure (ForInStep.yield l)):Sem (List (Str×Lm)))=pure (goC env.cells a d):=by
  intro a
  induction a with
  |nil=>intro d _;rfl
  |cons y r i=>
   intro d hy;obtain⟨n,k⟩:=y;rw[PR];by_cases m:k=.free
   .subst m;have:=hy (n,.free) K0 rfl;obtain⟨c,g⟩:=Py.mp this;have e:cellOf env n=pure c:=by unfold cellOf;rw[g]
    simp only[beq_self_eq_true,if_true,e,pure_bind];rw[i _ λy f=>hy y (KN _ f)];simp only[goC,beq_self_eq_true,if_true,g,Pn]
   .have j:(k==NameKind.free)=false:=by simpa using m
    simp only[j,Ln,if_false,pure_bind];rw[i _ λy f=>hy y (KN _ f)];simp only[goC,j,Ln,if_false]
 simp only[Vx];have:=all WA.names [] h;simpa using this
theorem xr:∀a g,(∀y∈a,y.2=.free->(Xu.lookup y.1).isSome=true)->(∀x c,g.lookup x=some c->Xu.lookup x=some c)->
  ∀x c,(goC Xu a g).lookup x=some c->Xu.lookup x=some c
 |[],_,_,f,x,c,h=>f x c h
 | (n,k)::r,g,hy,f,x,c,h=>by
  refine xr r _ (λy l=>hy y (KN _ l)) (λd i e=>?_) x c h;by_cases hk:k=.free
  .subst hk;simp only[beq_self_eq_true,if_true]at e;rw[OH]at e;by_cases hx:(d==n)=true
   .rw[hx]at e;have XX:d=n:=by simpa using hx
    obtain⟨m,b⟩:=Py.mp (hy (n,.free) K0 rfl);simp only[b,Pn]at e;rw[XX,b];exact e
   .have:(d==n)=false:=by simpa using hx
    rw[this]at e;exact f d i e
  .have j:(k==NameKind.free)=false:=by simpa using hk
   rw[j]at e;exact f d i e
theorem yl:∀a b,((x,NameKind.free)∈a\/∃c,b.lookup x=some c)->∃c,(goC Xu a b).lookup x=some c
 |[],_,h=>by
  rcases h with h |h
  .cases h
  .exact h
 | (n,k)::r,b,h=>by
  rw[goC];refine yl r _ ?_;rcases h with h |⟨c,h⟩
  .rcases KO.mp h with e |h
   .cases e
    right
    simp
   .exact .inl h
  .right
   by_cases hk:k=.free
   .subst hk;simp only[beq_self_eq_true,if_true];rw[OH];cases hx:x==n with
    |true=>exact⟨_,rfl⟩
    |false=>exact⟨c,h⟩
   .have hb:(k==NameKind.free)=false:=by simpa using hk
    rw[hb];exact⟨c,h⟩
theorem dz{b:Env}{x:Str}{c:SI}:∀{a:List (Str×SI)},
  (a.map λ(n,k)=>if (k==NameKind.free && b.scope.kind==.function && b.kindOf n==some .cell) then (n,NameKind.cell) else (n,k)).lookup x=some c->a.lookup x=some c\/(c=.cell/\a.lookup x=some .free)
 |[],h=>by simp at h
 | (n,k)::r,h=>by
  have ih:=@dz b x c r
  change Pr x ((if (k==NameKind.free && b.scope.kind==.function && b.kindOf n==some .cell)=true then (n,NameKind.cell) else (n,k))::_)=_ at h
  by_cases d:(k==NameKind.free && b.scope.kind==.function && b.kindOf n==some .cell)=true
  .rw[if_pos d]at h;rw[OH]at h |-;cases hx:x==n with
   |true=>
    rw[hx]at h
    have e:k=.free:=by
     have:=(Qt.mp (Qt.mp d).1).1;simpa using this
    subst e;have f:=h;cases f;exact .inr ⟨rfl,rfl⟩
   |false=>rw[hx]at h;exact ih h
  .rw[if_neg d]at h;rw[OH]at h |-;cases hx:x==n with
   |true=>rw[hx]at h;exact .inl h
   |false=>rw[hx]at h;exact ih h
noncomputable def Cc(a b:S_)(N:List Str)(is:List Nat):Bool:=
 a.names.all (λy=>y.2 !=.cell) && a.names.all (λy=>y.2 !=.local ||a.names.lookup y.1==some .local) && a.names.all (λy=>y.2 !=.free ||b.names.lookup y.1==some .cell) &&
  (LP N.length).all λi=>match N[i]? with |some x=>a.names.lookup x !=some .local ||is.contains i |none=>true
theorem blk(W7)(N)(is)(b:X.N=N)(hs:X.env.scope=W7)(d:X.env.cells=UT (X.env.locals+1) W7.names [])(q:WA.kind=.function)(h:Cc WA W7 N is=true):dG X WA (goC X.env.cells WA.names []) is:=by
 subst b;unfold Cc at h;simp only[MN,OJ]at h;obtain⟨⟨⟨u,p⟩,t⟩,o⟩:=h
 have m:∀y∈WA.names,y.2=.free->W7.names.lookup y.1=some .cell:=λy hy e=>by
  have:=t y hy;simp only[UX,bne_iff_ne,ne_eq,beq_iff_eq]at this;exact this.resolve_left λz=>z e
 have l:∀y∈WA.names,y.2=.free->(X.env.cells.lookup y.1).isSome=true:=λy hy e=>by
  rw[d];exact P1 _ _ _ (.inl (m y hy e))
 have g:∀y∈WA.names,y.2≠.cell:=λy hy=>by have:=u y hy;simpa using this
 refine⟨uX l,g,q,λy hy e=>?_,xr _ _ l (λx c e=>by simp at e),λx a=>?_,λi x k r=>?_⟩
 .have:=p y hy;simp only[UX,bne_iff_ne,ne_eq,beq_iff_eq]at this;exact this.resolve_left λz=>z e
 .have f:(x,NameKind.free)∈WA.names:=by
   rcases a with a |a
   .rcases dz a with z |⟨_,z⟩
    .exact absurd rfl (g _ (M5 z))
    .exact M5 z
   .rcases dz a with z |⟨z,_⟩
    .exact M5 z
    .cases z
  have j:=m _ f rfl;refine⟨.inr (.inl (by rw[hs];exact j)),(by rw[hs,show W7.names.lookup x=some .cell from j];intro z;cases z),yl _ _ (.inl f)⟩
 .have n:=(K_.mp k).1;have:=o i (Lx.mpr n);rw[k]at this
  have s:WA.names.lookup x=some .local:=by
   rcases dz r with z |⟨z,_⟩
   .exact z
   .cases z
  simp only[s,bne_self_eq_false,VH,List.contains_iff_mem]at this;exact this
end L2
namespace L2
open PySem PySem.Spec PySem.W PyProof.Rows
noncomputable def CXF(P:Lg)(w:LL):CXT:=λa H s E e d=>∃(g:Lm) (c h:K3) (B:Nh) (f:Hp),e=.ref g/\d.os=s.os/\Rk d.gens/\Un (frs a) [] H f s.heap d.heap/\HOk P w f d.heap/\f g=none/\
 (∀b o,s.heap.get? b=some o->b ∉ frs a->H b=none->B.get? b=some o)/\(∀b u,f b=some u->∃o,B.get? b=some o)/\(∀b o,s.heap.get? b=some o->b ∉ frs a->∃i,B.get? b=some i)/\
 Heap.FlyingW B a g c h d.heap/\E c none f
theorem kT:eE (CXF P w) X E0:=λ_ _ _ _ _ _ _ h=>by
 obtain⟨_,_,_,_,_,_,_,_,_,_,_,_,_,_,_,a⟩:=h;exact a.elim
theorem Fun.okF{K:Frag}{d:Nz}(F:Fun K x WD d f fd)(S:ar N ps (ai d))(e:∀c H Q E,sp c H Q E->c.length=ps.length)
  (W3:∀b A a s H c Q E,cB k (A.deeper (Q9 WD (ai d) s.heap.objs.size f b))->sp c H Q E->
   ∃t,PSs (nu (CXF P w) P w K mg base N WD (ai d) f b A a s H E) (bq d) t/\t {nx:=λ_ h=>Q .non h,rt:=Q } (start N c) H):cF P w K mg base (CXF P w) (k+1) f fd ps sp:=by
 obtain⟨p,n,kV,m,o,u,b,r,q,rfl,l,i⟩:=F.ex;exact FB l i S e λA a s H c Q E g j=>W3 b A a s H c Q E g j
end L2
namespace L2
open PySem PySem.Spec PyProof.Rows
theorem o4:(LP n).all e=true↔∀j,j<n->e j=true:=by
 rw[OJ];exact⟨λh j a=>h j (Lx.mpr a),λh j a=>h j (Lx.mp a)⟩
end L2
namespace PySem.W
open PySem PySem.Spec PySem.Calls PyProof.Rows PySem.Builtin PySem.Builtin.ObjectAttr PySem.Builtin.Getset_descriptor
section
variable {prog:Lg}{w:LL}{A:L7}{E:K3→K8→Prop}{s:K8}{K:Frag}{x C:Lm}
def OfCls(x C:Lm)(h:Nh):Prop:=∃o,h.get? x=some o/\o.cls=.ref C
variable (hga:findIn K (.ref C) "__getattribute__"=some (some (.builtin "BaseException.__getattribute__"))) (hgn:findIn K (.ref C) "__getattr__"=some none) (ha:findIn K (.ref C) "__class__"=some (some (.builtin "object.__class__")))
 (hn:specialIn K (.builtin "object.__class__") "__get__"=some (some (.builtin "getset_descriptor.__get__"))) (XC:takesIn K (.builtin "object.__class__")=some true) (hm:mroIn K C (.type "object")=some true) (hmB:mroIn K C (.type "BaseException")=some true)
include ha hn XC hm in
end
structure XcOk(K:Frag)(C:Lm):Prop where
 ga:findIn K (.ref C) "__getattribute__"=some (some (.builtin "BaseException.__getattribute__"))
 gn:findIn K (.ref C) "__getattr__"=some none
 at_:findIn K (.ref C) "__class__"=some (some (.builtin "object.__class__"))
 sp:specialIn K (.builtin "object.__class__") "__get__"=some (some (.builtin "getset_descriptor.__get__"))
 tk:takesIn K (.builtin "object.__class__")=some true
 mo:mroIn K C (.type "object")=some true
 mb:mroIn K C (.type "BaseException")=some true
end PySem.W
namespace L2
open PySem PySem.Spec PyProof.Rows
inductive TyX where
 |nm (n:String) |xc (C:Lm)
inductive U where
 |non |bl (b:Bool) |int (i:Int) |str (x:Str) |ty (n:TyX) |dic |scr (xs:List U) |tup (xs:List U) |lst (xs:List U)
def U.items:U->Option (List U)
 | .scr xs=>some xs
 | .tup xs=>some xs
 | .lst xs=>some xs
 |_=>none
def hid(H:Hp)(O:List Lm):Hp:=λb=>if b∈O then none else H b
theorem iq(h:hid H O b=some o):H b=some o/\b ∉ O:=by
 unfold hid at h;split at h
 .cases h
 .exact⟨h,by assumption⟩
theorem cZ(h:H b=some o)(n:b ∉ O):hid H O b=some o:=by
 unfold hid;rw[if_neg n];exact h
theorem aE:aT (hid H O) H:=λ_ _ h=>(iq h).1
theorem aN(e:aT H H'):aT (hid H O) (hid H' O):=λ_ _ h=>cZ (e _ _ (iq h).1) (iq h).2
theorem bI(e:∀a∈O',a∈O):aT (hid H O) (hid H O'):=λ_ _ h=>cZ (iq h).1 λz=>(iq h).2 (e _ z)
theorem bu(e:aT H H')(n:H a=none):aT (hid H O) (hid H' (a::O)):=λb o h=>by
 obtain⟨c,d⟩:=iq h;refine cZ (e _ _ c) λz=>?_;rcases KO.mp z with y |y
 .subst y;rw[n]at c;cases c
 .exact d y
theorem lL(h:a∈O):hid (upd H a o) O=hid H O:=by
 funext b
 unfold hid;split
 .rfl
 .rename_i n
  rw[aI λe=>n (by rw[e];exact h)]
inductive Rp (K:KM) (H:Hp):V->U->Prop where
 |non:Rp K H .non .non
 |bl (b:Bool):Rp K H (.bl b) (.bl b)
 |int (i:Int):Rp K H (.int i) (.int i)
 |str (x:Str):Rp K H (.str x) (.str x)
 |ty (n:String):Rp K H (.ty n) (.ty (.nm n))
 |dic {a:Lm}{WB:List (Key×V)} (h:H a=some (.dK WB)):Rp K H (.ref a) .dic
 |xc {a C:Lm} (h:H a=some (.ext (PySem.W.OfCls a C))) (k:PySem.W.XcOk K C):Rp K H (.ref a) (.ty (.xc C))
 |scr {a:Lm}{vs:List V}{xs:List U} (h:SqL K H a vs) (hl:vs.length=xs.length) (hi:∀(i:Nat) (v:V) (x:U),vs[i]?=some v->xs[i]?=some x->Rp K H v x):Rp K H (.ref a) (.scr xs)
 |tup {a:Lm}{vs:List V}{xs:List U} (h:SqT K H a vs) (hl:vs.length=xs.length) (hi:∀(i:Nat) (v:V) (x:U),vs[i]?=some v->xs[i]?=some x->Rp K H v x):Rp K H (.ref a) (.tup xs)
 |lst {a:Lm}{vs:List V}{xs:List U} (h:H a=some (.lst vs)) (hl:vs.length=xs.length) (hi:∀(i:Nat) (v:V) (x:U),vs[i]?=some v->xs[i]?=some x->Rp K H v x):Rp K H (.ref a) (.lst xs)
theorem Rp.same{K:KM}(e:aT H H')(h:Rp K H v u):Rp K H' v u:=by
 induction h with
 |non=>exact .non
 |bl b=>exact .bl b
 |int i=>exact .int i
 |str x=>exact .str x
 |ty n=>exact .ty n
 |dic h=>exact .dic (e _ _ h)
 |xc h k=>exact .xc (e _ _ h) k
 |scr h a d c=>exact .scr (e.seq h) a c
 |tup h a d c=>exact .tup (e.tup h) a c
 |lst h a d c=>exact .lst (e _ _ h) a c
structure Rps(K:KM)(H:Hp)(vs:List V)(xs:List U):Prop where
 len:vs.length=xs.length
 at_:∀(i:Nat) (v:V) (x:U),vs[i]?=some v->xs[i]?=some x->Rp K H v x
theorem Rps.same{K:KM}(e:aT H H')(h:Rps K H vs xs):Rps K H' vs xs:=⟨h.len,λi v x a b=>(h.at_ i v x a b).same e⟩
theorem Rps.nil{K:KM}:Rps K H [] []:=⟨rfl,λi v x h=>by simp at h⟩
theorem Rps.cons{K:KM}{H:Hp}{v:V}{x:U}{vs:List V}{xs:List U}(h:Rp K H v x)(t:Rps K H vs xs):Rps K H (v::vs) (x::xs):=by
 refine⟨by simp[t.len],λi a b d c=>?_⟩;cases i with
 |zero=>simp at d c;subst d;subst c;exact h
 |succ i=>exact t.at_ i a b (by simpa using d) (by simpa using c)
theorem Rps.snoc{K:KM}(h:Rps K H vs xs)(t:Rps K H ws ys):Rps K H (vs++ws) (xs++ys):=by
 refine⟨by simp[h.len,t.len],λi a b d c=>?_⟩;by_cases e:i<vs.length
 .rw[Lp e]at d;rw[Lp (by rw[<-h.len];exact e)]at c
  exact h.at_ i a b d c
 .have f:=Pm e;rw[Lq f]at d;rw[Lq (by rw[<-h.len];exact f),<-h.len]at c
  exact t.at_ _ a b d c
theorem Rps.get{K:KM}{i:Nat}(h:Rps K H vs xs)(e:xs[i]?=some x):∃v,vs[i]?=some v/\Rp K H v x:=by
 have a:i<vs.length:=by rw[h.len];exact (K_.mp e).1
 exact⟨vs[i],KJ a,h.at_ i _ x (KJ a) e⟩
theorem Rps.atI{K:KM}(h:Rps K H vs xs)(e:L2.atI xs i=some x):∃v,L2.atI vs i=some v/\Rp K H v x:=by
 unfold L2.atI at e |-;rw[h.len];cases q:ixN xs.length i with
 |none=>rw[q]at e;cases e
 |some j=>
  rw[q]at e;obtain⟨v,b,a⟩:=h.get e;exact⟨v,b,a⟩
theorem Rps.cons_inv{K:KM}(h:Rps K H vs (x::xs)):∃v c,vs=v::c/\Rp K H v x/\Rps K H c xs:=by
 cases vs with
 |nil=>have:=h.len;simp at this
 |cons v c=>
  refine⟨v,c,rfl,h.at_ 0 v x rfl rfl,by have:=h.len;simpa using this,λi a b e d=>h.at_ (i+1) a b (by simpa using e) (by simpa using d)⟩
theorem Rps.nil_inv{K:KM}(h:Rps K H vs []):vs=[]:=Nk.mp (by rw[h.len];rfl)
structure DkR(K:KM)(H:Hp)(kv:List (Key×V))(WB:List (Str×U)):Prop where
 len:kv.length=WB.length
 at_:∀(i:Nat) (k:Key) (v:V) (x:Str) (u:U),kv[i]?=some (k,v)->WB[i]?=some (x,u)->k=.inr x/\Rp K H v u
theorem DkR.same{K:KM}(e:aT H H')(h:DkR K H kv WB):DkR K H' kv WB:=⟨h.len,λi k v x u a b=>⟨(h.at_ i k v x u a b).1,(h.at_ i k v x u a b).2.same e⟩⟩
inductive Sl where
 |val (u:U) |own (xs:List U) |pin (w:V) (u:U) |dsk (w:Bool) (C a d:Lm) (WB:List (Str×U))
abbrev PSt:=List (Option Sl)
noncomputable def DK(K:KM)(H:Hp)(O c:List Lm)(v:V):Sl->Prop
 | .val u=>Rp K (hid H O) v u
 | .own xs=>∃a e,v=.ref a/\a∈O/\a ∉ c/\H a=some (.lst e)/\Rps K (hid H O) e xs
 | .pin w u=>v=w/\Rp K (hid H O) v u
 | .dsk w C a d g=>∃f b,v=.ref a∧d∈O∧(w=true→d ∉ c)∧H a=some (.ins C f [("lands",.ref d)])∧H d=some (.dK b)∧DkR K (hid H O) b g
structure Rs(K:KM)(H0:Hp)(O0:List Lm)(ps:PSt)(σ:St)(H:Hp)(O:List Lm):Prop where
 same:aT H0 H
 old:∀a∈O0,a∈O
 new:∀a∈O,a∈O0\/H0 a=none
 dom:∀a∈O,H a≠none
 len:σ.length=ps.length
 at_:∀(i:Nat) (s:Sl),ps[i]?=some (some s)->∃v,σ[i]?=some (some v)/\DK K H O O0 v s
 inj:∀(i j:Nat) (xs ys:List U) (a:Lm),ps[i]?=some (some (.own xs))->ps[j]?=some (some (.own ys))->σ[i]?=some (some (.ref a))->σ[j]?=some (some (.ref a))->i=j
section
variable {K:KM}{H0 H H':Hp}{O0 O:List Lm}{ps:PSt}{σ:St}
theorem DK.same(e:aT H H')(h:DK K H O O0 v s):DK K H' O O0 v s:=by
 cases s with
 |val u=>exact Rp.same (aN e) h
 |own n=>obtain⟨a,m,g,c,f,i,b⟩:=h;exact⟨a,m,g,c,f,e _ _ i,b.same (aN e)⟩
 |pin w u=>exact⟨h.1,Rp.same (aN e) h.2⟩
 |dsk w C a d o=>obtain⟨j,l,g,c,f,i,b,k⟩:=h;exact⟨j,l,g,c,f,e _ _ i,e _ _ b,k.same (aN e)⟩
theorem Rs.go(R:Rs K H0 O0 ps σ H O)(e:aT H H'):Rs K H0 O0 ps σ H' O:=
 ⟨R.same.trans e,R.old,R.new,λa b z=>R.dom a b (e.free z),R.len,λi s h=>let ⟨v,h1,h2⟩:=R.at_ i s h;⟨v,h1,h2.same e⟩,R.inj⟩
theorem b9{α:Type}{xs:List α}{y x:α}(h:(xs.set i y)[j]?=some x):(i=j/\x=y)\/(i≠j/\xs[j]?=some x):=by
 by_cases e:i=j
 .subst e;rw[Ra]at h;simp at h;exact .inl ⟨rfl,h.2.symm⟩
 .rw[Lw e]at h;exact .inr ⟨e,h⟩
theorem hU{α:Type}{xs:List α}{y:α}(h:i<xs.length):(xs.set i y)[i]?=some y:=by rw[Ra];simp[h]
theorem aK{α:Type}{xs:List α}{y:α}(h:xs[i]?=some y):i<xs.length:=(K_.mp h).1
theorem nY(h:(ps.set i (some (.val u)))[j]?=some (some (.own xs))):i≠j/\ps[j]?=some (some (.own xs)):=by
 rcases b9 h with ⟨_,e⟩ |h
 .cases e
 .exact h
theorem Rs.set(R:Rs K H0 O0 ps σ H O)(r:Rp K (hid H O) v u):Rs K H0 O0 (ps.set i (some (.val u))) (σ.set i (some v)) H O:=by
 refine⟨R.same,R.old,R.new,R.dom,by simp[R.len],λj s h=>?_,λj k t l a c b g f=>?_⟩
 .rcases b9 h with ⟨e,q⟩ |⟨n,q⟩
  .subst e;cases q;have d:=aK h;rw[OS]at d;exact⟨v,hU (by rw[R.len];exact d),r⟩
  .obtain⟨w,c,b⟩:=R.at_ j s q;exact⟨w,by rw[Lw n];exact c,b⟩
 .obtain⟨p,o⟩:=nY c;obtain⟨x,m⟩:=nY b;rw[Lw p]at g;rw[Lw x]at f;exact R.inj j k t l a o m g f
theorem Rs.drop(R:Rs K H0 O0 ps σ H O):Rs K H0 O0 (ps.set i none) (σ.set i o) H O:=by
 have b:∀{j}{s},(ps.set i none)[j]?=some (some s)->i≠j/\ps[j]?=some (some s):=λ{j s} h=>by
  rcases b9 h with ⟨_,e⟩ |h
  .cases e
  .exact h
 refine⟨R.same,R.old,R.new,R.dom,by simp[R.len],λj s h=>?_,λj k t l a d c g f=>?_⟩
 .obtain⟨n,q⟩:=b h;obtain⟨w,d,c⟩:=R.at_ j s q;exact⟨w,by rw[Lw n];exact d,c⟩
 .obtain⟨r,p⟩:=b d;obtain⟨u,m⟩:=b c;rw[Lw r]at g;rw[Lw u]at f;exact R.inj j k t l a p m g f
theorem Rs.own(R:Rs K H0 O0 ps σ H O)(e:aT H H')(n:H a=none)(h:H' a=some (.lst vs))(r:Rps K (hid H' (a::O)) vs xs):
  Rs K H0 O0 (ps.set i (some (.own xs))) (σ.set i (some (.ref a))) H' (a::O):=by
 have S:a ∉ O:=λz=>R.dom a z n;have G:a ∉ O0:=λz=>S (R.old a z);have V:=R.same.free n
 have L:∀(j:Nat) m,ps[j]?=some (some (.own m))->σ[j]?≠some (some (.ref a)):=λj m p g=>by
  obtain⟨v,c,b,P,f,U,_⟩:=R.at_ j _ p;rw[g]at c;cases c;cases f;exact S U
 refine⟨R.same.trans e,λb o=>KN _ (R.old b o),λb o=>?_,λb o z=>?_,by simp[R.len],λj s q=>?_,λj k m T b p g c f=>?_⟩
 .rcases KO.mp o with y |y
  .subst y;exact .inr V
  .exact R.new b y
 .rcases KO.mp o with y |y
  .subst y;rw[h]at z;cases z
  .exact R.dom b y (e.free z)
 .rcases b9 q with ⟨X,F⟩ |⟨W,F⟩
  .subst X;cases F;have l:=aK q;rw[OS]at l;exact⟨.ref a,hU (by rw[R.len];exact l),a,vs,rfl,K0,G,h,r⟩
  .obtain⟨w,p,g⟩:=R.at_ j s F;refine⟨w,by rw[Lw W];exact p,?_⟩;cases s with
   |val u=>exact Rp.same (bu e n) g
   |own m=>
    obtain⟨b,P,t,I,D,E,B⟩:=g;exact⟨b,P,t,KN _ I,D,e _ _ E,B.same (bu e n)⟩
   |pin z u=>exact⟨g.1,Rp.same (bu e n) g.2⟩
   |dsk w C b d WB=>obtain⟨Y,kv,t,I,D,E,B,Z⟩:=g;exact⟨Y,kv,t,KN _ I,D,e _ _ E,e _ _ B,Z.same (bu e n)⟩
 .rcases b9 p with ⟨N,A⟩ |⟨M,A⟩ <;>rcases b9 g with ⟨J,x⟩ |⟨Q,x⟩
  .rw[<-N,<-J]
  .subst N;have l:=aK c;rw[OS]at l;rw[hU l]at c;cases c;rw[Lw Q]at f;exact absurd f (L k T x)
  .subst J;have l:=aK f;rw[OS]at l;rw[hU l]at f;cases f;rw[Lw M]at c;exact absurd c (L j m A)
  .rw[Lw M]at c;rw[Lw Q]at f;exact R.inj j k m T b A x c f
theorem Rs.write(R:Rs K H0 O0 ps σ H O)(m:ps[i]?=some (some (.own xs)))(hs:σ[i]?=some (some (.ref a)))(r:Rps K (hid H O) vs ys):
  Rs K H0 O0 (ps.set i (some (.own ys))) σ (upd H a (.lst vs)) O:=by
 obtain⟨v,I,b,Z,V,A,E,B,Y⟩:=R.at_ i _ m;rw[hs]at I;cases I;cases V;have T:=(R.new a A).resolve_left E;have h:hid (upd H a (.lst vs)) O=hid H O:=lL A;refine⟨R.same.put T _,R.old,R.new,λb S z=>?_,by simp[R.len],λj s q=>?_,λj k G F b P L X U=>?_⟩
 .by_cases e:b=a
  .subst e;rw[aH]at z;cases z
  .rw[aI e]at z;exact R.dom b S z
 .rcases b9 q with ⟨M,n⟩ |⟨J,n⟩
  .subst M;cases n;exact⟨.ref a,hs,a,vs,rfl,A,E,aH,by rw[h];exact r⟩
  .obtain⟨w,D,l⟩:=R.at_ j s n;refine⟨w,D,?_⟩;cases s with
   |val u=>exact (show Rp K (hid (upd H a (.lst vs)) O) w u by rw[h];exact l)
   |own G=>
    obtain⟨b,F,p,o,y,g,f⟩:=l;subst p;have:b≠a:=λz=>by subst z;exact J (R.inj i j xs G b m n hs D)
    exact⟨b,F,rfl,o,y,by rw[aI this];exact g,by rw[h];exact f⟩
   |pin z u=>exact⟨l.1,by rw[h];exact l.2⟩
   |dsk w C b d WB=>
    obtain⟨Q,W,p,o,y,g,f,N⟩:=l;exact⟨Q,W,p,o,y,by rw[aI λz=>by rw[z,B]at g;cases g];exact g,by rw[aI λz=>by rw[z,B]at f;cases f];exact f,by rw[h];exact N⟩
 .have t:∃c,ps[j]?=some (some (.own c)):=by
   rcases b9 P with ⟨e,_⟩ |⟨_,z⟩
   .subst e;exact⟨_,m⟩
   .exact⟨_,z⟩
  have x:∃c,ps[k]?=some (some (.own c)):=by
   rcases b9 L with ⟨e,_⟩ |⟨_,z⟩
   .subst e;exact⟨_,m⟩
   .exact⟨_,z⟩
  obtain⟨_,t⟩:=t;obtain⟨_,x⟩:=x;exact R.inj j k _ _ b t x X U
def SubP:PSt->PSt->Prop
 |[],[]=>True
 |none::p,_::q=>SubP p q
 |some s::p,t::q=>t=some s/\SubP p q
 |_,_=>False
theorem SubP.at_:∀{p q},SubP p q->p.length=q.length/\∀(i:Nat) s,p[i]?=some (some s)->q[i]?=some (some s)
 |[],[],_=>⟨rfl,λi s h=>by simp at h⟩
 |none::p,t::q,h=>by
  obtain⟨b,a⟩:=SubP.at_ (q:=q) h;refine⟨by simp[b],λi s e=>?_⟩;cases i with
  |zero=>simp at e
  |succ i=>exact a i s (by simpa using e)
 |some s0::p,t::q,h=>by
  obtain⟨c,h⟩:=h;obtain⟨b,a⟩:=SubP.at_ h;refine⟨by simp[b],λi s e=>?_⟩;cases i with
  |zero=>simp at e;subst e;rw[c];rfl
  |succ i=>exact a i s (by simpa using e)
 |[],_::_,h=>h.elim
 |none::_,[],h=>h.elim
 |some _::_,[],h=>h.elim
theorem Rs.sub(R:Rs K H0 O0 ps σ H O)(h:SubP WZ ps):Rs K H0 O0 WZ σ H O:=by
 obtain⟨k,b⟩:=h.at_;exact⟨R.same,R.old,R.new,R.dom,R.len.trans k.symm,λi s e=>R.at_ i s (b i s e),λi j g d a c f=>R.inj i j g d a (b _ _ c) (b _ _ f)⟩
end
def Ev(X:Cx)(f:Hp)(c:List Lm)(b:PSt)(e:Expr)(u:U):Prop:=
 PE X e λd H Q=>∃O,Rs X.K f c b d H O/\∀v a,aT H a->Rp X.K (hid a O) v u->Q v a
def EvN(X:Cx)(h:Hp)(f:List Lm)(d:PSt)(e:Expr)(xs:List U):Prop:=
 PE X e λg H Q=>∃O,Rs X.K h f d g H O/\∀a c b,aT H b->H a=none->b a=some (.lst c)->Rps X.K (hid b (a::O)) c xs->Q (.ref a) b
def Tt(X:Cx)(g:Hp)(d:List Lm)(c:PSt)(e:Expr)(b:Bool):Prop:=
 PT X e λf H Q=>∃O,Rs X.K g d c f H O/\∀a,aT H a->Q b a
def Tw(X:Cx)(g:Hp)(d:List Lm)(c:PSt)(e:Expr)(b:Bool):Prop:=
 PW X e λf H Q=>∃O,Rs X.K g d c f H O/\∀a,aT H a->Q b a
def EvA(X:Cx)(g:Hp)(e:List Lm)(c:PSt)(d:List Expr)(us:List U):Prop:=
 PA X d λf H Q=>∃O,Rs X.K g e c f H O/\∀b a,aT H a->Rps X.K (hid a O) b us->Q b a
theorem PE.mono(h:PE X e t)(m:∀a H Q,t' a H Q->t a H Q):PE X e t':=λb s a H Q I q=>h b s a H Q I (m a H Q q)
theorem PT.mono(h:PT X e t)(m:∀a H Q,t' a H Q->t a H Q):PT X e t':=λb s a H Q I q=>h b s a H Q I (m a H Q q)
theorem PW.mono(h:PW X e t)(m:∀a H Q,t' a H Q->t a H Q):PW X e t':=λb c s a H Q I q=>h b c s a H Q I (m a H Q q)
theorem PA.mono(h:PA X e t)(m:∀a H Q,t' a H Q->t a H Q):PA X e t':=λb c s a H Q I q=>h b c s a H Q I (m a H Q q)
theorem PS.mono(h:PS X e t)(m:∀D a H,t' D a H->t D a H):PS X e t':=λb s a H D I q=>h b s a H D I (m D a H q)
theorem PSs.mono(h:PSs X e t)(m:∀D a H,t' D a H->t D a H):PSs X e t':=λb s a H D I q=>h b s a H D I (m D a H q)
variable {es:List Expr}
section
variable {X:Cx}{H0:Hp}{O0:List Lm}{ps:PSt}{a b c e:Expr}{pos p:Pos}{u x y:U}{xs ys us:List U}{i j:Int}
theorem EvN.ev(h:EvN X H0 O0 ps e xs):Ev X H0 O0 ps e (.lst xs):=PE.mono h λi H Q ⟨O,R,k⟩=>⟨O,R,λa j d s n h r=>by
 have f:a ∉ O:=λz=>R.dom a z n;have c:aT (hid d (a::O)) (hid d O):=bI λb g=>KN _ g;exact k _ d s (.lst (cZ h f) (r.same c).len (r.same c).at_)⟩
theorem aa(i:Nat){x:Str}(h:ps[i]?=some (some (.val u)))(d:autoParam (X.N[i]?=some x) w4)(c:autoParam (Vis X.env.scope x) v3)(b:autoParam ((x==("__debug__":Str))=false) v0)
  (W0:autoParam ((x==("__classdict__":Str))=false) v0):Ev X H0 O0 ps (.Name x pos) u:=PE.mono (fe d c b W0) λf H Q ⟨O,R,k⟩=>by
 obtain⟨v,e,a⟩:=R.at_ i _ h;exact⟨v,e,k v H (.refl H) a⟩
theorem ag{i j pos}:Ev X H0 O0 ps (.Constant (.int i) j pos) (.int i):=PE.mono Gz λ_ H _ ⟨_,_,k⟩=>k _ H (.refl H) (.int i)
theorem IB{i j pos}:Ev X H0 O0 ps (.Constant (.bool i) j pos) (.bl i):=PE.mono IN λ_ H _ ⟨_,_,k⟩=>k _ H (.refl H) (.bl i)
theorem F3{j pos}:Ev X H0 O0 ps (.Constant .none j pos) .non:=PE.mono GX λ_ H _ ⟨_,_,k⟩=>k _ H (.refl H) .non
theorem aF{i j pos}:Ev X H0 O0 ps (.Constant (.str i) j pos) (.str i):=PE.mono Hx λ_ H _ ⟨_,_,k⟩=>k _ H (.refl H) (.str i)
theorem Aa{x:Str}(b:Gl X x)(c:X.mg x=none)(d:M7 x=some (.type n))(e:autoParam (x≠"__name__") v0)(a:autoParam ((x==("__debug__":Str))=false) v0):Ev X H0 O0 ps (.Name x pos) (.ty (.nm n)):=
 PE.mono (JK b c d e a) λ_ H _ ⟨_,_,k⟩=>k _ H (.refl H) (.ty n)
theorem two(R:Rs X.K H0 O0 ps σ H O)
  (ha:∀σ H Q,(∃O,Rs X.K H0 O0 ps σ H O/\∀v a,aT H a->Rp X.K (hid a O) v x->Q v a)->ta σ H Q) (hb:∀σ H Q,(∃O,Rs X.K H0 O0 ps σ H O/\∀v a,aT H a->Rp X.K (hid a O) v y->Q v a)->tb σ H Q)
  (h:∀v w a,aT H a->Rs X.K H0 O0 ps σ a O->Rp X.K (hid a O) v x->Rp X.K (hid a O) w y->r v w a Q):tOp r ta tb σ H Q:=
 ha σ H _ ⟨O,R,λv d b f=>hb σ d _ ⟨O,R.go b,λw g c e=>h v w g (b.trans c) (R.go (b.trans c)) (f.same (aN c)) e⟩⟩
theorem F7{g:Int->Int->Int}(c:OpR X (Pk op) (rI0 λi j=>.int (g i j)))(l:Ev X H0 O0 ps a (.int i))(f:Ev X H0 O0 ps b (.int j)):Ev X H0 O0 ps (.BinOp a op b pos) (.int (g i j)):=
 PE.mono (uJ c l f) λm H Q ⟨O,R,k⟩=>two R (λ_ _ _ z=>z) (λ_ _ _ z=>z) λv w h s _ e d=>by
  cases e;cases d;exact⟨i,j,rfl,rfl,k _ h s (.int _)⟩
theorem r9{g:Int->Int->Int}(d:OpR X (Pk op) (rI C λi j=>.int (g i j)))(m:Ev X H0 O0 ps a (.int i))(h:Ev X H0 O0 ps b (.int j))(c:C i j):Ev X H0 O0 ps (.BinOp a op b pos) (.int (g i j)):=
 PE.mono (uJ d m h) λn H Q ⟨O,R,k⟩=>two R (λ_ _ _ z=>z) (λ_ _ _ z=>z) λv w l s _ f e=>by
  cases f;cases e;exact⟨i,j,rfl,rfl,c,k _ l s (.int _)⟩
theorem cR(c:Ev X H0 O0 ps a (.int i))(d:Ev X H0 O0 ps b (.int j)):Ev X H0 O0 ps (.BinOp a .Add b pos) (.int (i+j)):=F7 GA c d
theorem bo(c:Ev X H0 O0 ps a (.int i))(d:Ev X H0 O0 ps b (.int j)):Ev X H0 O0 ps (.BinOp a .Sub b pos) (.int (i-j)):=F7 GT c d
theorem aY(c:Ev X H0 O0 ps a (.int i))(d:Ev X H0 O0 ps b (.int j))(e:IntMulOk i j):Ev X H0 O0 ps (.BinOp a .Mult b pos) (.int (i*j)):=r9 Ew c d e
theorem gP(c:Ev X H0 O0 ps a (.int i))(d:Ev X H0 O0 ps b (.int j))(e:FF i j):Ev X H0 O0 ps (.BinOp a .FloorDiv b pos) (.int (i/j)):=r9 CB c d e
theorem Gi(c:Ev X H0 O0 ps a (.int i))(d:Ev X H0 O0 ps b (.int j))(e:F9 i j):Ev X H0 O0 ps (.BinOp a .FloorDiv b pos) (.int (i.fdiv j)):=r9 AU c d e
theorem ft(c:Ev X H0 O0 ps a (.int i))(d:Ev X H0 O0 ps b (.int j))(e:0<j):Ev X H0 O0 ps (.BinOp a .Mod b pos) (.int (i%j)):=r9 GL c d e
theorem xf(c:Ev X H0 O0 ps a (.int i))(d:Ev X H0 O0 ps b (.int j))(e:JU i j):Ev X H0 O0 ps (.BinOp a .Pow b pos) (.int (i ^ j.toNat)):=r9 Hw c d e
theorem ce(b:Ev X H0 O0 ps a (.int i)):Ev X H0 O0 ps (.UnaryOp .USub a pos) (.int (-i)):=
 PE.mono (JV Gm b) λd H Q ⟨O,R,k⟩=>⟨O,R,λv c s r=>by cases r;exact⟨i,rfl,k _ c s (.int _)⟩⟩
end
def U.isN:U->Bool
 | .non=>true
 |_=>false
def U.isB(a:Bool):U->Bool
 | .bl b=>a==b
 | .int j=>(if a then 1 else 0)==j
 |_=>false
def U.isI(i:Int):U->Bool
 | .bl b=>i==(if b then 1 else 0)
 | .int j=>i==j
 |_=>false
def U.isS(a:Str):U->Bool
 | .str b=>a==b
 |_=>false
def U.isT(f:List U->Bool):U->Bool
 | .tup ys=>f ys
 |_=>false
def U.isL(f:List U->Bool):U->Bool
 | .lst ys=>f ys
 | .scr ys=>f ys
 |_=>false
def U.isC(f:U->Bool)(g:List U->Bool):List U->Bool
 |[]=>false
 |y::ys=>f y && g ys
mutual
def eqW:U->U->Bool
 | .non=>U.isN
 | .bl a=>U.isB a
 | .int i=>U.isI i
 | .str a=>U.isS a
 | .tup xs=>U.isT (eqWs xs)
 | .lst xs=>U.isL (eqWs xs)
 | .scr xs=>U.isL (eqWs xs)
 |_=>λ_=>false
def eqWs:List U->List U->Bool
 |[]=>List.isEmpty
 |x::xs=>U.isC (eqW x) (eqWs xs)
end
def U.okS(f:Nat->Bool):Nat->Bool
 |0=>false
 |n+1=>f n
mutual
def okU:Nat->U->Bool
 |_,.ty _=>false
 |_,.dic=>false
 |n,.tup a=>U.okS (λn=>okUs n a) n
 |n,.lst a=>U.okS (λn=>okUs n a) n
 |n,.scr a=>U.okS (λn=>okUs n a) n
 |_,_=>true
def okUs:Nat->List U->Bool
 |_,[]=>true
 |n,x::xs=>okU n x && okUs n xs
end
theorem jI:∀{n}{a}{i:Nat}{x},okUs n a=true->a[i]?=some x->okU n x=true
 |n,[],i,x,_,h=>by simp at h
 |n,y::a,0,x,h,e=>by simp at e;subst e;simp[okUs]at h;exact h.1
 |n,y::a,i+1,x,h,e=>by simp[okUs]at h;exact jI h.2 (by simpa using e)
theorem jP:∀b a,((LP (min b.length a.length)).all (λj=>eqW (b.getD j .non) (a.getD j .non)) && b.length==a.length)=eqWs b a
 |[],[]=>rfl
 |[],y::a=>rfl
 |x::b,[]=>rfl
 |x::b,y::a=>by
  have ih:=jP b a;show _=(eqW x y && eqWs b a);rw[<-ih];simp only[Lk,Nat.succ_min_succ];rw[List.range_succ_eq_map,Qw,Um];have e:((b.length+1==a.length+1))=(b.length==a.length):=by simp
  rw[e,Bool.and_assoc];rfl
theorem IsU.list(I:Inv X Wz σ H s){xs:List U}(h:SqL X.K H a vs)(c:vs.length=xs.length):∃its,aS vs its/\s.heap.IsList a its.toArray/\its.length=xs.length:=by
 obtain⟨its,r,b,_⟩:=I.list h;exact⟨its,r,b.isList,by rw[<-r.length,c]⟩
theorem IsU.tup{X:Cx}{d:List (Lm×Obj)}{e:St}{H:Hp}{s:K8}(I:Inv X d e H s){a:Lm}{xs:List U}{vs:List V}(h:SqT X.K H a vs)(c:vs.length=xs.length):∃its,aS vs its/\SL s.heap a its.toArray/\its.length=xs.length:=by
 obtain⟨its,r,b,_⟩:=I.tuple h;exact⟨its,r,b,by rw[<-r.length,c]⟩
section
variable {X:Cx}{Wz:List (Lm×Obj)}{σ:St}{H:Hp}{s:K8}
inductive Kd (s:K8):K3->U->Prop
 |non:Kd s .none .non
 |bl (b:Bool):Kd s (.bool b) (.bl b)
 |int (i:Int) (t:Tok):Kd s (.int i t) (.int i)
 |str (x:Str) (t:Tok):Kd s (.str x t) (.str x)
 |scr {a:Lm}{xs:List U}{its:List K3} (pl:s.heap.IsList a its.toArray):Kd s (.ref a) (.scr xs)
 |lst {a:Lm}{xs:List U}{its:List K3} (pl:s.heap.IsList a its.toArray):Kd s (.ref a) (.lst xs)
 |tup {a:Lm}{xs:List U}{its:List K3} (pl:SL s.heap a its.toArray):Kd s (.ref a) (.tup xs)
structure Ia(X:Cx)(H:Hp)(n:Nat)(xs:List U)(vs:List V)(its:List K3):Prop where
 r:aS vs its
 l:its.length=xs.length
 hl:vs.length=xs.length
 hi:∀(i:Nat) (v:V) (x:U),vs[i]?=some v->xs[i]?=some x->Rp X.K H v x
 o:okUs n xs=true
theorem Rp.kd(I:Inv X Wz σ H s){n:Nat}{v:V}{x:U}{p:K3}(R:Rp X.K H v x)(q:aR v p)(o:okU n x=true):Kd s p x:=by
 cases R with
 |non=>cases (show p=Oe from q);exact .non
 |bl b=>cases (show p=SH b from q);exact .bl b
 |int i=>obtain⟨t,rfl⟩:=(show ∃t,p=OQ i t from q);exact .int i t
 |str i=>obtain⟨t,rfl⟩:=(show ∃t,p=Qz i t from q);exact .str i t
 |scr c d e=>cases q;obtain⟨its,r,a,l⟩:=IsU.list I c d;exact .scr a
 |lst c d e=>cases q;obtain⟨its,r,a,l⟩:=IsU.list I (SqL.of c) d;exact .lst a
 |tup c d e=>cases q;obtain⟨its,r,a,l⟩:=IsU.tup I c d;exact .tup a
 |ty |dic |xc=>cases o
theorem wy{n:Nat}{f:Nat->Bool}(o:U.okS f n=true):∃m,n=m+1/\f m=true:=by
 cases n with
 |zero=>cases o
 |succ n=>exact⟨n,rfl,o⟩
theorem Rp.its(I:Inv X Wz σ H s){n:Nat}{v:V}{x:U}{a:Lm}(R:Rp X.K H v x)(q:aR v (.ref a))(o:okU n x=true):∃m g h its,n=m+1/\Ia X H m g h its/\((SqL X.K H a h/\s.heap.IsList a its.toArray/\(x=.lst g\/x=.scr g))\/(SqT X.K H a h/\SL s.heap a its.toArray/\x=.tup g)):=by
 cases R with
 |non |bl |int |str=>exact nomatch q
 |scr b c f=>cases q;obtain⟨m,e,o⟩:=wy o;obtain⟨its,r,d,l⟩:=IsU.list I b c;exact⟨m,_,_,its,e,⟨r,l,c,f,o⟩,.inl ⟨b,d,.inr rfl⟩⟩
 |lst b c f=>cases q;obtain⟨m,e,o⟩:=wy o;obtain⟨its,r,d,l⟩:=IsU.list I (SqL.of b) c;exact⟨m,_,_,its,e,⟨r,l,c,f,o⟩,.inl ⟨SqL.of b,d,.inl rfl⟩⟩
 |tup b c f=>cases q;obtain⟨m,e,o⟩:=wy o;obtain⟨its,r,d,l⟩:=IsU.tup I b c;exact⟨m,_,_,its,e,⟨r,l,c,f,o⟩,.inr ⟨b,d,rfl⟩⟩
 |ty |dic |xc=>cases o
structure Knd(s:K8)(P:K3->K3->Bool->Prop):Prop where
 nn:P .none .none true
 nb:∀b,P .none (.bool b) false
 ni:∀i t,P .none (.int i t) false
 ns:∀c t,P .none (.str c t) false
 bn:∀b,P (.bool b) .none false
 bb:∀a b,P (.bool a) (.bool b) (a==b)
 bi:∀a j t,P (.bool a) (.int j t) ((if a then 1 else 0)==j)
 bs:∀a c t,P (.bool a) (.str c t) false
 jn:∀i t,P (.int i t) .none false
 jb:∀i t b,P (.int i t) (.bool b) (i==(if b then 1 else 0))
 ji:∀i t j u,P (.int i t) (.int j u) (i==j)
 js:∀i t c u,P (.int i t) (.str c u) false
 sn:∀c t,P (.str c t) .none false
 sb:∀c t b,P (.str c t) (.bool b) false
 si:∀c t i u,P (.str c t) (.int i u) false
 ss:∀c t d u,P (.str c t) (.str d u) (c==d)
 nl:∀{l:Lm}{its:Array K3},s.heap.IsList l its->P .none (.ref l) false
 nt:∀{l:Lm}{its:Array K3},SL s.heap l its->P .none (.ref l) false
 bl:∀{l:Lm}{its:Array K3} b,s.heap.IsList l its->P (.bool b) (.ref l) false
 bt:∀{l:Lm}{its:Array K3} b,SL s.heap l its->P (.bool b) (.ref l) false
 jl:∀{l:Lm}{its:Array K3} i t,s.heap.IsList l its->P (.int i t) (.ref l) false
 jt:∀{l:Lm}{its:Array K3} i t,SL s.heap l its->P (.int i t) (.ref l) false
 sl:∀{l:Lm}{its:Array K3} c t,s.heap.IsList l its->P (.str c t) (.ref l) false
 st:∀{l:Lm}{its:Array K3} c t,SL s.heap l its->P (.str c t) (.ref l) false
 ln:∀{l:Lm}{its:Array K3},s.heap.IsList l its->P (.ref l) .none false
 tn:∀{l:Lm}{its:Array K3},SL s.heap l its->P (.ref l) .none false
 lb:∀{l:Lm}{its:Array K3} b,s.heap.IsList l its->P (.ref l) (.bool b) false
 tb:∀{l:Lm}{its:Array K3} b,SL s.heap l its->P (.ref l) (.bool b) false
 lj:∀{l:Lm}{its:Array K3} i t,s.heap.IsList l its->P (.ref l) (.int i t) false
 tj:∀{l:Lm}{its:Array K3} i t,SL s.heap l its->P (.ref l) (.int i t) false
 ls:∀{l:Lm}{its:Array K3} c t,s.heap.IsList l its->P (.ref l) (.str c t) false
 ts:∀{l:Lm}{its:Array K3} c t,SL s.heap l its->P (.ref l) (.str c t) false
theorem Knd.all{P:K3->K3->Bool->Prop}(k:Knd s P){p q:K3}{x y:U}(h:Kd s p x)(f:Kd s q y)(g:∀a b,p=.ref a->q=.ref b->P p q (eqW x y)):P p q (eqW x y):=by
 cases h with
 |non=>cases f with
  |non=>exact k.nn
  |bl b=>exact k.nb b
  |int i t=>exact k.ni i t
  |str c t=>exact k.ns c t
  |scr e |lst e=>exact k.nl e
  |tup e=>exact k.nt e
 |bl a=>cases f with
  |non=>exact k.bn a
  |bl b=>exact k.bb a b
  |int i t=>exact k.bi a i t
  |str c t=>exact k.bs a c t
  |scr e |lst e=>exact k.bl a e
  |tup e=>exact k.bt a e
 |int j u=>cases f with
  |non=>exact k.jn j u
  |bl b=>exact k.jb j u b
  |int i t=>exact k.ji j u i t
  |str c t=>exact k.js j u c t
  |scr e |lst e=>exact k.jl j u e
  |tup e=>exact k.jt j u e
 |str d u=>cases f with
  |non=>exact k.sn d u
  |bl b=>exact k.sb d u b
  |int i t=>exact k.si d u i t
  |str c t=>exact k.ss d u c t
  |scr e |lst e=>exact k.sl d u e
  |tup e=>exact k.st d u e
 |scr e |lst e=>cases f with
  |non=>exact k.ln e
  |bl b=>exact k.lb b e
  |int i t=>exact k.lj i t e
  |str c t=>exact k.ls c t e
  |_=>exact g _ _ rfl rfl
 |tup e=>cases f with
  |non=>exact k.tn e
  |bl b=>exact k.tb b e
  |int i t=>exact k.tj i t e
  |str c t=>exact k.ts c t e
  |_=>exact g _ _ rfl rfl
theorem EF(h:xs.length=ys.length)(c:∀(i:Nat) x y,xs[i]?=some x->ys[i]?=some y->eqW x y=true):eqWs xs ys=true:=by
 rw[<-jP,MN,o4];refine⟨λj d=>?_,by simp[h]⟩;have b:j<xs.length:=by lia
 have a:j<ys.length:=by lia
 rw[Lr,KJ b,Lr,KJ a];exact c j _ _ (KJ b) (KJ a)
theorem Rp.one_of(I:Inv X Wz σ H s){n:Nat}{v:V}{x y:U}{p:K3}(M:∀m,n=m+1->∀{v:V}{x y:U}{p:K3},Rp X.K H v x->Rp X.K H v y->aR v p->okU m x=true->okU m y=true->eqW x y=true)(E:Rp X.K H v x)(D:Rp X.K H v y)(q:aR v p)(F:okU n x=true)(J:okU n y=true):eqW x y=true:=by
 have g:∀a,p=.ref a->eqW x y=true:=λa e=>by
  subst e;obtain⟨m,P,N,its,f,d,j⟩:=E.its I q F;obtain⟨Q,L,O,G,k,w,h⟩:=D.its I q J;subst f;cases k
  have c:N=O->eqWs P L=true:=by
   rintro rfl;refine EF (d.hl.symm.trans w.hl) λi x y f k=>?_;have z:=d.hl ▸ aK f;obtain⟨u,_,q⟩:=d.r.get (KJ z);exact M _ rfl (d.hi i _ x (KJ z) f) (w.hi i _ y (KJ z) k) q (jI d.o f) (jI w.o k)
  rcases j with ⟨C,t,j⟩ |⟨C,t,j⟩ <;>rcases h with ⟨A,B,h⟩ |⟨A,B,h⟩
  .rcases j with rfl |rfl <;>rcases h with rfl |rfl <;>exact c (I.list_inj C A)
  .exact absurd rfl (SeqAt.ne_of_list_tuple t B)
  .exact absurd rfl (SeqAt.ne_of_list_tuple B t)
  .subst j h;exact c (I.tuple_inj C A)
 have l:=D.kd I q J;cases E.kd I q F with
 |non=>cases l;rfl
 |bl b=>cases l;exact beq_self_eq_true b
 |int b=>cases l;exact beq_self_eq_true b
 |str b=>cases l;exact beq_self_eq_true b
 |_=>exact g _ rfl
theorem Rp.one(I:Inv X Wz σ H s):∀n {v}{x y}{p},Rp X.K H v x->Rp X.K H v y->aR v p->okU n x=true->okU n y=true->eqW x y=true:=by
 intro n
 induction n with
 |zero=>exact Rp.one_of I λm e=>by cases e
 |succ n a=>exact Rp.one_of I λ_ e=>by cases e;exact a
theorem AR{A:L7}(a:A.units<NZ):Knd s (SeqAt.EqAt A s):=⟨SeqAt.EqAt.same _,SeqAt.EqAt.none_bool,SeqAt.EqAt.none_int,SeqAt.EqAt.none_str,SeqAt.EqAt.bool_none,SeqAt.EqAt.bool_bool,SeqAt.EqAt.bool_int,SeqAt.EqAt.bool_str,SeqAt.EqAt.int_none,SeqAt.EqAt.int_bool,SeqAt.EqAt.int_int,SeqAt.EqAt.int_str,SeqAt.EqAt.str_none,SeqAt.EqAt.str_bool,SeqAt.EqAt.str_int,SeqAt.EqAt.str_str,(SeqAt.EqAt.none_list · a),(SeqAt.EqAt.none_tuple · a),(SeqAt.EqAt.bool_list · · a),(SeqAt.EqAt.bool_tuple · · a),(SeqAt.EqAt.int_list · · · a),(SeqAt.EqAt.int_tuple · · · a),(SeqAt.EqAt.str_list · · · a),(SeqAt.EqAt.str_tuple · · · a),(SeqAt.EqAt.list_none · a),(SeqAt.EqAt.tuple_none · a),(SeqAt.EqAt.list_bool · · a),(SeqAt.EqAt.tuple_bool · · a),(SeqAt.EqAt.list_int · · · a),(SeqAt.EqAt.tuple_int · · · a),(SeqAt.EqAt.list_str · · · a),(SeqAt.EqAt.tuple_str · · · a)⟩
theorem CJ{A:L7}(a:A.units<NZ):Knd s (SeqAt.RcAt A s):=⟨SeqAt.RcAt.none_none,SeqAt.RcAt.none_bool,SeqAt.RcAt.none_int,SeqAt.RcAt.none_str,SeqAt.RcAt.bool_none,SeqAt.RcAt.bool_bool,SeqAt.RcAt.bool_int,SeqAt.RcAt.bool_str,SeqAt.RcAt.int_none,SeqAt.RcAt.int_bool,SeqAt.RcAt.int_int,SeqAt.RcAt.int_str,SeqAt.RcAt.str_none,SeqAt.RcAt.str_bool,SeqAt.RcAt.str_int,SeqAt.RcAt.str_str,(SeqAt.RcAt.none_list · a),(SeqAt.RcAt.none_tuple · a),(SeqAt.RcAt.bool_list · · a),(SeqAt.RcAt.bool_tuple · · a),(SeqAt.RcAt.int_list · · · a),(SeqAt.RcAt.int_tuple · · · a),(SeqAt.RcAt.str_list · · · a),(SeqAt.RcAt.str_tuple · · · a),(SeqAt.RcAt.list_none · a),(SeqAt.RcAt.tuple_none · a),(SeqAt.RcAt.list_bool · · a),(SeqAt.RcAt.tuple_bool · · a),(SeqAt.RcAt.list_int · · · a),(SeqAt.RcAt.tuple_int · · · a),(SeqAt.RcAt.list_str · · · a),(SeqAt.RcAt.tuple_str · · · a)⟩
structure Knq(A:L7)(s:K8)(P:K3->K3->Bool->Prop):Prop where
 k:Knd s P
 ll:∀{a b:Lm}{xs ys:Array K3}{e:Nat->Bool},s.heap.IsList a xs->s.heap.IsList b ys->xs.size=ys.size->(∀j (h1:j<xs.size) (h2:j<ys.size),SeqAt.EqAt A.in1 s xs[j] ys[j] (e j))->P (.ref a) (.ref b) ((LP xs.size).all e)
 ln:∀{a b:Lm}{xs ys:Array K3},s.heap.IsList a xs->s.heap.IsList b ys->(xs.size !=ys.size)=true->P (.ref a) (.ref b) false
 lt:∀{a b:Lm}{xs ys:Array K3},s.heap.IsList a xs->SL s.heap b ys->P (.ref a) (.ref b) false
 tl:∀{a b:Lm}{xs ys:Array K3},SL s.heap a xs->s.heap.IsList b ys->P (.ref a) (.ref b) false
 tt:∀{a b:Lm}{xs ys:Array K3}{e:Nat->Bool},SL s.heap a xs->SL s.heap b ys->(∀j (h1:j<xs.size) (h2:j<ys.size),SeqAt.EqAt A.in1 s xs[j] ys[j] (e j))->P (.ref a) (.ref b) ((LP (min xs.size ys.size)).all e && xs.size==ys.size)
theorem C3(I:Inv X Wz σ H s){n:Nat}{vs B:List V}{xs ys:List U}{c h:List K3}(d:Ia X H n xs vs c)(f:Ia X H n ys B h){A:L7}
  (rc0:∀(x y:U) (v w:V) (p q:K3),Rp X.K H v x->Rp X.K H w y->aR v p->aR w q->okU n x=true->okU n y=true->SeqAt.RcAt A s p q (eqW x y)) (hu:A.units<NZ)
  (j:Nat) (j1:j<c.length) (j2:j<h.length):SeqAt.EqAt A s c[j] h[j] (eqW (xs.getD j .non) (ys.getD j .non)):=by
 have C:j<vs.length:=d.r.length ▸ j1;have D:j<B.length:=f.r.length ▸ j2;obtain⟨x,u⟩:∃x,xs[j]?=some x:=⟨_,KJ (d.l ▸ j1)⟩;obtain⟨y,t⟩:∃y,ys[j]?=some y:=⟨_,KJ (f.l ▸ j2)⟩;rw[Lr,Lr,u,t];have k:=d.hi j _ x (KJ C) u;have R2:=f.hi j _ y (KJ D) t;obtain⟨p,J,g⟩:=d.r.get (KJ C);obtain⟨q,E,i⟩:=f.r.get (KJ D);rw[show c[j]=p from LN ((KJ j1).symm.trans J),show h[j]=q from LN ((KJ j2).symm.trans E)];have m:=jI d.o u;have z:=jI f.o t;refine (AR hu).all (k.kd I g m) (R2.kd I i z) λa b G F=>?_;subst G F;by_cases e:a=b
 .subst e;rw[<-g.inj i]at R2;show SeqAt.EqAt A s _ _ (eqW x y);rw[Rp.one I n k R2 g m z];exact SeqAt.EqAt.same _
 .exact SeqAt.EqAt.of_refs e (rc0 x y _ _ _ _ k R2 g i m z)
theorem Knq.all{A:L7}{P:K3->K3->Bool->Prop}(k:Knq A s P)(I:Inv X Wz σ H s){n:Nat}{x y:U}{v w:V}{p q:K3}(j:∀m,n=m+1->∀(x y:U) (v w:V) (p q:K3),Rp X.K H v x->Rp X.K H w y->aR v p->aR w q->okU m x=true->okU m y=true->SeqAt.RcAt A.in1 s p q (eqW x y))(F:∀m,n=m+1->A.in1.units<NZ)
  (R1:Rp X.K H v x) (R2:Rp X.K H w y) (q1:aR v p) (q2:aR w q) (o1:okU n x=true) (o2:okU n y=true):P p q (eqW x y):=by
 refine k.k.all (R1.kd I q1 o1) (R2.kd I q2 o2) λa b B z=>?_;subst B z;obtain⟨m,t,J,its,C,h,d⟩:=R1.its I q1 o1;obtain⟨L,o,M,E,u,i,c⟩:=R2.its I q2 o2;subst C;cases u;have r:=C3 I h i (j m rfl) (F m rfl);rcases d with ⟨G,e,d⟩ |⟨G,e,d⟩ <;>rcases c with ⟨D,f,c⟩ |⟨D,f,c⟩
 .have:P (.ref a) (.ref b) (eqWs t o):=by
   rw[<-jP,<-h.l,<-i.l];by_cases g:its.length=E.length
   .have:=k.ll e f g r;rw[<-g,Nat.min_self,beq_self_eq_true,Bool.and_true];exact this
   .rw[beq_false_of_ne g,SX];exact k.ln e f (bne_iff_ne.mpr g)
  rcases d with rfl |rfl <;>rcases c with rfl |rfl <;>exact this
 .subst c;rcases d with rfl |rfl <;>exact k.lt e f
 .subst d;rcases c with rfl |rfl <;>exact k.tl e f
 .subst d c;show P _ _ (eqWs t o);rw[<-jP,<-h.l,<-i.l];exact k.tt e f r
theorem sU{A:L7}(a:A.units<NZ):Knq A s (SeqAt.RcAt A s):=⟨CJ a,(SeqAt.RcAt.lists · · · a ·),(SeqAt.RcAt.lists_lengths · · · a),(SeqAt.RcAt.list_tuple · · a),(SeqAt.RcAt.tuple_list · · a),(SeqAt.RcAt.tuples · · a ·)⟩
theorem Ik(I:Inv X Wz σ H s):∀n A x y v w p q,Rp X.K H v x->Rp X.K H w y->aR v p->aR w q->okU n x=true->okU n y=true->A.units+n<NZ->SeqAt.RcAt A s p q (eqW x y):=by
 intro n
 induction n with
 |zero=>exact λA x y v w p q d R2 c b f g a=>(sU a).all I (λm e=>by cases e) (λm e=>by cases e) d R2 c b f g
 |succ n j=>
  intro A x y v w p q d R2 c b f g a;have h:A.in1.units+n<NZ:=Rb A.units n ▸ a;exact (sU (MD (NU _ _) a)).all I (λ_ e x y v w p q l k i t r o=>by cases e;exact j A.in1 x y v w p q l k i t r o h) (λ_ _=>MD (NU _ n) h) d R2 c b f g
theorem Bo{A:L7}(a:A.units<NZ):Knq A s (λp q b=>SeqAt.RcNeAt A s p q (!b)):=⟨⟨SeqAt.RcNeAt.none_none,SeqAt.RcNeAt.none_bool,SeqAt.RcNeAt.none_int,SeqAt.RcNeAt.none_str,SeqAt.RcNeAt.bool_none,SeqAt.RcNeAt.bool_bool,SeqAt.RcNeAt.bool_int,SeqAt.RcNeAt.bool_str,SeqAt.RcNeAt.int_none,SeqAt.RcNeAt.int_bool,SeqAt.RcNeAt.int_int,SeqAt.RcNeAt.int_str,SeqAt.RcNeAt.str_none,SeqAt.RcNeAt.str_bool,SeqAt.RcNeAt.str_int,SeqAt.RcNeAt.str_str,(SeqAt.RcNeAt.none_list · a),(SeqAt.RcNeAt.none_tuple · a),(SeqAt.RcNeAt.bool_list · · a),(SeqAt.RcNeAt.bool_tuple · · a),(SeqAt.RcNeAt.int_list · · · a),(SeqAt.RcNeAt.int_tuple · · · a),(SeqAt.RcNeAt.str_list · · · a),(SeqAt.RcNeAt.str_tuple · · · a),(SeqAt.RcNeAt.list_none · a),(SeqAt.RcNeAt.tuple_none · a),(SeqAt.RcNeAt.list_bool · · a),(SeqAt.RcNeAt.tuple_bool · · a),(SeqAt.RcNeAt.list_int · · · a),(SeqAt.RcNeAt.tuple_int · · · a),(SeqAt.RcNeAt.list_str · · · a),(SeqAt.RcNeAt.tuple_str · · · a)⟩,(SeqAt.RcNeAt.lists · · · a ·),(SeqAt.RcNeAt.lists_lengths · · · a),(SeqAt.RcNeAt.list_tuple · · a),(SeqAt.RcNeAt.tuple_list · · a),(SeqAt.RcNeAt.tuples · · a ·)⟩
theorem GI(I:Inv X Wz σ H s)(n)(A)(x y)(v w)(p q)(k:Rp X.K H v x)(i:Rp X.K H w y)(f:aR v p)(d:aR w q)(m:okU (n+1) x=true)(r:okU (n+1) y=true)(b:A.units+(n+1)<NZ):SeqAt.RcNeAt A s p q (!eqW x y):=by
 have a:A.in1.units+n<NZ:=Rb A.units n ▸ b;exact (Bo (MD (NU _ _) b)).all I (λ_ e x y v w p q h g c o l j=>by cases e;exact Ik I n A.in1 x y v w p q h g c o l j a) (λ_ _=>MD (NU _ n) a) k i f d m r
end
def OpS(X:Cx)(f:K3->K3->Sem K3)(x y:U)(z:V):Prop:=OpR X f λv w H Q=>Rp X.K H v x/\Rp X.K H w y/\Q z H
section
variable {X:Cx}{H0:Hp}{O0:List Lm}{ps:PSt}{a b c e:Expr}{rest:List Expr}{pos p:Pos}{u x y:U}{xs ys us:List U}{i j:Int}{k m:Bool}
theorem Rp.out{K:KM}(h:Rp K (hid H O) v u):Rp K H v u:=h.same aE
theorem dH(g:OpS X (LX op) x y (.bl k))(e:Ev X H0 O0 ps a x)(f:Ev X H0 O0 ps b y)(i:autoParam (NJ op b=false) q5):Ev X H0 O0 ps (.Compare a [op] [b] pos) (.bl k):=
 PE.mono (DH g e f i) λj H Q ⟨O,R,q⟩=>two R (λ_ _ _ z=>z) (λ_ _ _ z=>z) λv w h s _ c d=>⟨c.out,d.out,q _ h s (.bl _)⟩
theorem au(g:OpS X (LX op) x y (.bl k))(e:Ev X H0 O0 ps a x)(f:Ev X H0 O0 ps b y)(i:autoParam (NJ op b=false) q5):Tt X H0 O0 ps (.Compare a [op] [b] pos) k:=
 PT.mono (x_ g e f i) λj H Q ⟨O,R,q⟩=>two R (λ_ _ _ z=>z) (λ_ _ _ z=>z) λv w h s _ c d=>⟨c.out,d.out,_,rfl,q h s⟩
theorem yk{g:Int->Int->Bool}(a:OpR X (LX op) (rI0 λi j=>.bl (g i j))):OpS X (LX op) (.int i) (.int j) (.bl (g i j)):=by
 intro b s e H v w p q Q I d c h;obtain⟨l,f,k⟩:=h;cases l;cases f;exact a b s e H _ _ _ _ Q I d c ⟨i,j,rfl,rfl,k⟩
theorem eM:OpS X (LX .Lt) (.int i) (.int j) (.bl (decide (i<j))):=yk JG
theorem JY:OpS X (LX .LtE) (.int i) (.int j) (.bl (decide (i<=j))):=yk I0
theorem e7:OpS X (LX .Gt) (.int i) (.int j) (.bl (decide (j<i))):=yk Jo
theorem Ku:OpS X (LX .GtE) (.int i) (.int j) (.bl (decide (j<=i))):=yk JL
theorem KG(k:X.A.units+10<NZ)(g:okU 9 x=true)(e:okU 9 y=true):OpS X (LX .Eq) x y (.bl (eqW x y)):=by
 intro i s j H v w p q Q I c b h;obtain⟨a,f,d⟩:=h;exact Ik I 9 X.A x y v w p q a f c b g e (by lia) X.prog X.w _ _ (i9 I d rfl)
theorem Kx(k:X.A.units+10<NZ)(g:okU 9 x=true)(e:okU 9 y=true):OpS X (LX .NotEq) x y (.bl (!eqW x y)):=by
 intro i s j H v w p q Q I c b h;obtain⟨a,f,d⟩:=h;exact GI I 8 X.A x y v w p q a f c b g e (by omega) X.prog X.w _ _ (i9 I d rfl)
theorem bA:OpS X (LX .Eq) (.int i) (.int j) (.bl (decide (i=j))):=by
 rintro g s h H v w p q Q I a b ⟨e,c,d⟩;cases e;cases c;obtain⟨t,rfl⟩:=a;obtain⟨f,rfl⟩:=b;exact eq_int (i9 I d (R8 i j))
theorem tY:OpS X (LX .NotEq) (.int i) (.int j) (.bl (!decide (i=j))):=by
 rintro g s h H v w p q Q I a b ⟨e,c,d⟩;cases e;cases c;obtain⟨t,rfl⟩:=a;obtain⟨f,rfl⟩:=b;exact ne_int (i9 I d (by rw[bne,R8]))
theorem gG(h:Ev X H0 O0 ps e (.bl k))(c:autoParam (∀a,isTrue e X.env a=(do let v <-a;UO e.pos;RX [v] (truthy v))) q4):Tt X H0 O0 ps e k:=
 PT.mono (Gh h c) λd H Q ⟨O,R,q⟩=>⟨O,R,λv b s r=>by cases r;exact⟨_,rfl,q b s⟩⟩
theorem iX(h:Tt X H0 O0 ps a k):Tt X H0 O0 ps (.UnaryOp .Not a pos) (!k):=PT.mono (GD h) λb H Q ⟨O,R,q⟩=>⟨O,R,q⟩
theorem Tw.t(h:Tw X H0 O0 ps e k):Tt X H0 O0 ps e k:=h.pt
theorem wc(h:Tt X H0 O0 ps a k):Tw X H0 O0 ps (.BoolOp .And [a] pos) k:=Fq h
theorem jv(h:Tt X H0 O0 ps a k):Tw X H0 O0 ps (.BoolOp .Or [a] pos) k:=BG h
theorem wI(c:Tt X H0 O0 ps a k)(f:k=true->Tw X H0 O0 ps (.BoolOp .And (b::rest) pos) m):Tw X H0 O0 ps (.BoolOp .And (a::b::rest) pos) (k && m):=by
 cases k with
 |true=>exact PW.mono (A5 c (f rfl)) λg H Q ⟨O,R,q⟩=>⟨O,R,λd s=>by exact oM (⟨O,R.go s,λe i=>q e (s.trans i)⟩)⟩
 |false=>exact PW.mono (A5 c (λ_ _ _ _ _ _ _ h=>h.elim) (tB':=λ_ _ _=>False)) λg H Q ⟨O,R,q⟩=>⟨O,R,λd s=>by exact lC (q d s)⟩
theorem lG(c:Tt X H0 O0 ps a k)(f:k=false->Tw X H0 O0 ps (.BoolOp .Or (b::rest) pos) m):Tw X H0 O0 ps (.BoolOp .Or (a::b::rest) pos) (k ||m):=by
 cases k with
 |false=>exact PW.mono (Cq c (f rfl)) λg H Q ⟨O,R,q⟩=>⟨O,R,λd s=>by exact lC (⟨O,R.go s,λe i=>q e (s.trans i)⟩)⟩
 |true=>exact PW.mono (Cq c (λ_ _ _ _ _ _ _ h=>h.elim) (tB':=λ_ _ _=>False)) λg H Q ⟨O,R,q⟩=>⟨O,R,λd s=>by exact oM (q d s)⟩
theorem mV{op}(h:Ev X H0 O0 ps a u):Ev X H0 O0 ps (.BoolOp op [a] pos) u:=Ii h
theorem pK(c:Ev X H0 O0 ps a (.bl k))(g:k=true->Ev X H0 O0 ps (.BoolOp .And (b::rest) pos) (.bl m)):Ev X H0 O0 ps (.BoolOp .And (a::b::rest) pos) (.bl (k && m)):=by
 cases k with
 |true=>exact PE.mono (CQ c (g rfl)) λi H Q ⟨O,R,q⟩=>⟨O,R,λv d s r=>by cases r;exact⟨_,rfl,by exact oM (⟨O,R.go s,λv f j e=>q v f (s.trans j) e⟩)⟩⟩
 |false=>exact PE.mono (CQ c (λ_ _ _ _ _ _ h=>h.elim) (tb:=λ_ _ _=>False)) λi H Q ⟨O,R,q⟩=>⟨O,R,λv d s r=>by cases r;exact⟨_,rfl,by exact lC (q _ d s (.bl _))⟩⟩
theorem Gn(c:Ev X H0 O0 ps a (.bl k))(g:k=false->Ev X H0 O0 ps (.BoolOp .Or (b::rest) pos) (.bl m)):Ev X H0 O0 ps (.BoolOp .Or (a::b::rest) pos) (.bl (k ||m)):=by
 cases k with
 |false=>exact PE.mono (FZ c (g rfl)) λi H Q ⟨O,R,q⟩=>⟨O,R,λv d s r=>by cases r;exact⟨_,rfl,by exact lC (⟨O,R.go s,λv f j e=>q v f (s.trans j) e⟩)⟩⟩
 |true=>exact PE.mono (FZ c (λ_ _ _ _ _ _ h=>h.elim) (tb:=λ_ _ _=>False)) λi H Q ⟨O,R,q⟩=>⟨O,R,λv d s r=>by cases r;exact⟨_,rfl,by exact oM (q _ d s (.bl _))⟩⟩
theorem I_(b:Ev X H0 O0 ps a (.bl k)):Ev X H0 O0 ps (.UnaryOp .Not a pos) (.bl (!k)):=PE.mono (Gg b) λd H Q ⟨O,R,q⟩=>⟨O,R,λv c s r=>by cases r;exact⟨_,rfl,q _ c s (.bl _)⟩⟩
theorem BV(g:Tt X H0 O0 ps c k)(i:k=true->Ev X H0 O0 ps a u)(j:k=false->Ev X H0 O0 ps b u):Ev X H0 O0 ps (.IfExp c a b pos) u:=by
 cases k with
 |true=>exact PE.mono (tG g (i rfl) (λ_ _ _ _ _ _ h=>h.elim) (tb:=λ_ _ _=>False)) λm H Q ⟨O,R,q⟩=>⟨O,R,λl s=>by exact oM (⟨O,R.go s,λv e f d=>q v e (s.trans f) d⟩)⟩
 |false=>exact PE.mono (tG g (λ_ _ _ _ _ _ h=>h.elim) (j rfl) (ta:=λ_ _ _=>False)) λm H Q ⟨O,R,q⟩=>⟨O,R,λl s=>by exact lC (⟨O,R.go s,λv e f d=>q v e (s.trans f) d⟩)⟩
theorem aj:EvA X H0 O0 ps [] []:=PA.mono dP λa H Q ⟨O,R,q⟩=>q [] H (.refl H) .nil
theorem ac(h:Ev X H0 O0 ps e u)(g:EvA X H0 O0 ps es us)(hs:autoParam (K7 (e::es) X.env=(false,Nq e X.env)::K7 es X.env) w4):EvA X H0 O0 ps (e::es) (u::us):=
 PA.mono (cx h g hs) λj H Q ⟨O,R,q⟩=>⟨O,R,λv i a d=>⟨O,R.go a,λk f b c=>q _ f (a.trans b) (.cons (d.same (aN b)) c)⟩⟩
theorem Rs.hidnew{K:KM}(R:Rs K H0 O0 ps σ H O){p:Lm}(n:H p=none):hid (upd H p o) O p=some o:=cZ aH λz=>R.dom p z n
theorem Jd{x1}(h:EvA X H0 O0 ps es us)(f:autoParam (us.length<=sizeLine) k4):Ev X H0 O0 ps (.Tuple es x1 pos) (.tup us):=
 PE.mono (He h) λj H Q ⟨O,R,q⟩=>⟨O,R,λg i d b=>⟨by rw[b.len];exact f,λp c=>by
  have e:=aO c (.tup g);have a:=b.same (aN e);exact q _ _ (d.trans e) (.tup (SqT.of ((R.go d).hidnew c)) a.len a.at_)⟩⟩
theorem II(h:EvA X H0 O0 ps es us)(d:autoParam (us.length<=sizeLine) k4):EvN X H0 O0 ps (.List es pos) us:=
 PE.mono (HK h) λg H Q ⟨O,R,q⟩=>⟨O,R,λe f c b=>⟨by rw[b.len];exact d,λp a=>by
  exact q p e _ (c.trans (aO a _)) (c.free a) aH (b.same (bu (aO a _) a))⟩⟩
theorem aw(o:Ev X H0 O0 ps a x)(n:Ev X H0 O0 ps b (.int i))(g:x.items=some xs)(k:atI xs i=some u)(hs:autoParam (lW b) q7):Ev X H0 O0 ps (.Subscript a b pos) u:=
 PE.mono (B5 (xn.or HD) o n hs) λp H Q ⟨O,R,q⟩=>two R (λ_ _ _ z=>z) (λ_ _ _ z=>z) λv w j s _ m l=>by
  cases l;cases m with
  |scr h e c=>cases g;obtain⟨z,f,d⟩:=Rps.atI ⟨e,c⟩ k;exact .inl ⟨_,_,i,z,rfl,rfl,aE.seq h,f,q z j s d⟩
  |lst h e c=>cases g;obtain⟨z,f,d⟩:=Rps.atI ⟨e,c⟩ k;exact .inl ⟨_,_,i,z,rfl,rfl,aE.seq (SqL.of h),f,q z j s d⟩
  |tup h e c=>cases g;obtain⟨z,f,d⟩:=Rps.atI ⟨e,c⟩ k;exact .inr ⟨_,_,i,z,rfl,rfl,aE.tup h,f,q z j s d⟩
  |_=>cases g
theorem fq(n:Nat){x:Str}(h:ps[n]?=some (some (.own xs)))(j:Ev X H0 O0 ps b (.int i))(m:atI xs i=some u)(l:autoParam (X.N[n]?=some x) w4)(o:autoParam (Vis X.env.scope x) v3)(g:autoParam ((x==("__debug__":Str))=false) v0)
  (W0:autoParam ((x==("__classdict__":Str))=false) v0) (hs:autoParam (lW b) q7):Ev X H0 O0 ps (.Subscript (.Name x p) b pos) u:=
 PE.mono (B5 xn (fe l o g W0) j hs) λB H Q t=>by
  obtain⟨O,R,q⟩:=t;obtain⟨v,A,a,f,rfl,D,C,c,e⟩:=R.at_ n _ h;refine⟨_,A,O,R,λw k s r=>?_⟩;cases r;obtain⟨z,d,y⟩:=e.atI m;exact⟨a,f,i,z,rfl,rfl,SqL.of (s _ _ c),d,q z k s (y.same (aN s))⟩
def dJ(X:Cx)(f:K3)(us:List U)(u:U):Prop:=cp X f λc H Q=>∃O,(∀a∈O,H a≠none)/\Rps X.K (hid H O) c us/\∀v b,aT H b->Rp X.K (hid b O) v u->Q v b
def F1(X:Cx)(f:K3)(us:List U)(xs:List U):Prop:=cp X f λc H Q=>∃O,(∀a∈O,H a≠none)/\Rps X.K (hid H O) c us/\∀a c b,aT H b->H a=none->b a=some (.lst c)->Rps X.K (hid b (a::O)) c xs->Q (.ref a) b
theorem ao{a:String}(d:dJ X (.builtin a) us u)(o:Gl X f)(g:X.mg f=none)(l:M7 f=some (.builtin a))(n:EvA X H0 O0 ps (e::es) us)(m:autoParam (f≠"__name__") v0)(j:autoParam ((f==("__debug__":Str))=false) v0)
  (he:autoParam (K7 (e::es) X.env=(false,Nq e X.env)::K7 es X.env) w4) (WX:autoParam ((M4 pos (K7 es X.env)).any (·.1)=false) w4):Ev X H0 O0 ps (.Call (.Name f p) (e::es) [] pos) u:=
 PE.mono (ue d o g l n m j he WX) λt H Q ⟨O,R,q⟩=>⟨O,R,λs r b i=>⟨O,(R.go b).dom,i,λv c k h=>q v c (b.trans k) h⟩⟩
theorem cG{a:String}(d:dJ X (.type a) us u)(o:Gl X f)(g:X.mg f=none)(l:M7 f=some (.type a))(n:EvA X H0 O0 ps (e::es) us)(m:autoParam (f≠"__name__") v0)(j:autoParam ((f==("__debug__":Str))=false) v0)
  (he:autoParam (K7 (e::es) X.env=(false,Nq e X.env)::K7 es X.env) w4) (WX:autoParam ((M4 pos (K7 es X.env)).any (·.1)=false) w4):Ev X H0 O0 ps (.Call (.Name f p) (e::es) [] pos) u:=
 PE.mono (pV d o g l n m j he WX) λt H Q ⟨O,R,q⟩=>⟨O,R,λs r b i=>⟨O,(R.go b).dom,i,λv c k h=>q v c (b.trans k) h⟩⟩
theorem iC{d:String}(i:F1 X (.type d) us xs)(u:Gl X f)(j:X.mg f=none)(r:M7 f=some (.type d))(t:EvA X H0 O0 ps (e::es) us)(s:autoParam (f≠"__name__") v0)(m:autoParam ((f==("__debug__":Str))=false) v0)
  (he:autoParam (K7 (e::es) X.env=(false,Nq e X.env)::K7 es X.env) w4) (WX:autoParam ((M4 pos (K7 es X.env)).any (·.1)=false) w4):EvN X H0 O0 ps (.Call (.Name f p) (e::es) [] pos) xs:=
 PE.mono (pV i u j r t s m he WX) λw H Q ⟨O,R,q⟩=>⟨O,R,λc v b l=>⟨O,(R.go b).dom,l,λa c g o n h k=>q a c g (b.trans o) (b.free n) h k⟩⟩
theorem bW{K:KM}(h:Rps K H vs [x]):∃v,vs=[v]/\Rp K H v x:=by
 obtain⟨v,c,rfl,b,a⟩:=h.cons_inv;rw[a.nil_inv];exact⟨v,rfl,b⟩
theorem iE{K:KM}(h:Rps K H vs [x,y]):∃v w,vs=[v,w]/\Rp K H v x/\Rp K H w y:=by
 obtain⟨v,d,rfl,c,a⟩:=h.cons_inv;obtain⟨w,rfl,b⟩:=bW a;exact⟨v,w,rfl,c,b⟩
theorem cp.mono(h:cp X f r)(m:∀a H Q,r' a H Q->r a H Q):cp X f r':=λb s c H a us Q I v q=>h b s c H a us Q I v (m a H Q q)
theorem qM{K:KM}(h:Rp K H v x)(d:x.items=some xs):∃a e,v=.ref a/\(SqL K H a e\/SqT K H a e)/\Rps K H e xs:=by
 cases h with
 |scr h c b=>cases d;exact⟨_,_,rfl,.inl h,c,b⟩
 |lst h c b=>cases d;exact⟨_,_,rfl,.inl (SqL.of h),c,b⟩
 |tup h c b=>cases d;exact⟨_,_,rfl,.inr h,c,b⟩
 |_=>cases d
theorem wW{K:KM}{a:Lm}(h:SqL K (hid H O) a vs\/SqT K (hid H O) a vs):SqL K H a vs\/SqT K H a vs:=h.imp (λz=>aE.seq z) λz=>aE.tup z
theorem bj(e:x.items=some xs):dJ X (.builtin "len") [x] (.int xs.length):=cp.mono je λi H Q c=>by
 obtain⟨O,d,r,q⟩:=c;obtain⟨v,rfl,h⟩:=bW r;obtain⟨a,f,rfl,g,b⟩:=qM h e;exact⟨a,f,rfl,wW g,by rw[b.len];exact q _ H (.refl H) (.int _)⟩
theorem G3(n:Nat){x:Str}(h:ps[n]?=some (some (.own xs)))(k:Gl X "len")(d:X.mg "len"=none)(g:autoParam (X.N[n]?=some x) w4)(i:autoParam (Vis X.env.scope x) v3)(f:autoParam ((x==("__debug__":Str))=false) v0)
  (W0:autoParam ((x==("__classdict__":Str))=false) v0) (hs:autoParam (K7 [.Name x p'] X.env=(false,Nq (.Name x p') X.env)::K7 [] X.env) w4) (WX:autoParam ((M4 pos (K7 [] X.env)).any (·.1)=false) w4):Ev X H0 O0 ps (.Call (.Name "len" pc) [.Name x p'] [] pos) (.int xs.length):=
 PE.mono (ue je k d Ld (cx (fe g i f W0) dP hs) (by decide) (by decide) hs WX) λm H Q j=>by
  obtain⟨O,R,q⟩:=j;obtain⟨v,l,a,e,rfl,p,o,b,c⟩:=R.at_ n _ h;exact⟨_,l,a,e,rfl,.inl (SqL.of b),by rw[c.len];exact q _ H (.refl H) (.int _)⟩
theorem nH:dJ X (.builtin "abs") [.int i] (.int (if i<0 then -i else i)):=cp.mono AL λb H Q a=>by
 obtain⟨O,d,r,q⟩:=a;obtain⟨v,rfl,h⟩:=bW r;cases h;exact⟨i,rfl,q _ H (.refl H) (.int _)⟩
theorem Jh(c:X.calm=true):dJ X (.builtin "max") [.int i,.int j] (.int (if j >i then j else i)):=cp.mono (yW c) λe H Q b=>by
 obtain⟨O,d,r,q⟩:=b;obtain⟨v,w,rfl,h,a⟩:=iE r;cases h;cases a;exact⟨i,j,rfl,q _ H (.refl H) (.int _)⟩
theorem Gc(c:X.calm=true):dJ X (.builtin "min") [.int i,.int j] (.int (if j<i then j else i)):=cp.mono (yJ c) λe H Q b=>by
 obtain⟨O,d,r,q⟩:=b;obtain⟨v,w,rfl,h,a⟩:=iE r;cases h;cases a;exact⟨i,j,rfl,q _ H (.refl H) (.int _)⟩
theorem qF:dJ X (.type "int") [.bl k] (.int (if k then 1 else 0)):=cp.mono wD λb H Q a=>by
 obtain⟨O,d,r,q⟩:=a;obtain⟨v,rfl,h⟩:=bW r;cases h;exact⟨k,rfl,q _ H (.refl H) (.int _)⟩
theorem j7(g:x.items=some xs):F1 X (.type "list") [x] xs:=cp.mono qm λj H Q f=>by
 obtain⟨O,d,r,q⟩:=f;obtain⟨v,rfl,h⟩:=bW r;obtain⟨a,c,rfl,i,e⟩:=qM h g;exact⟨a,c,rfl,wW i,λl b=>q l c _ (aO b _) b aH (e.same (bu (aO b _) b))⟩
theorem D9(j:x=.lst xs∨x=.scr xs):dJ X (.type "tuple") [x] (.tup xs):=cp.mono oE λm H Q k=>by
 obtain⟨O,d,r,q⟩:=k;obtain⟨v,rfl,h⟩:=bW r;have g:∀{l}{o},H l=none->hid (upd H l o) O l=some o:=λ{l o} b=>cZ aH λz=>d _ z b;rcases j with rfl |rfl
 .cases h with
  |lst h b e=>exact⟨_,_,rfl,.inl ⟨aE.seq (SqL.of h),λl a=>q _ _ (aO a _) (.tup (SqT.of (g a)) b λi v x f c=>(e i v x f c).same (aN (aO a _)))⟩⟩
 .cases h with
  |scr h b e=>exact⟨_,_,rfl,.inl ⟨aE.seq h,λl a=>q _ _ (aO a _) (.tup (SqT.of (g a)) b λi v x f c=>(e i v x f c).same (aN (aO a _)))⟩⟩
noncomputable def tyU:U->K3
 | .non=>.type "NoneType" | .bl _=>.type "bool" | .int _=>.type "int" | .str _=>.type "str" | .ty _=>.type "type" | .dic=>.type "dict" | .scr _=>.type "list" | .tup _=>.type "tuple" | .lst _=>.type "list"
theorem fY(p:∀m,x≠.ty m)(h:Qf X.K (tyU x) (.type n)=some k):dJ X (.builtin "isinstance") [x,.ty (.nm n)] (.bl k):=by
 intro A s C H J us Q I r u;obtain⟨O,d,y,q⟩:=u;obtain⟨v,w,rfl,E,D⟩:=iE y;cases D;obtain⟨F,L,rfl,a,B⟩:=jm r;cases B;have c:∀l,EP X A C Q (.bool k) {s with toks:=l }:=λl=>⟨.bl k,H,I.tok _,rfl,q _ H (.refl H) (.bl _)⟩
 cases E with
 |non=>exact eR I a .non h c
 |bl b=>exact eR I a (.bl b) h c
 |int b=>exact eR I a (.int b) h c
 |str b=>exact eR I a (.str b) h c
 |ty m=>exact absurd rfl (p _)
 |dic e=>exact eR I a (.dK (aE _ _ e)) h c
 |xc e M=>exact absurd rfl (p _)
 |scr e t j=>
  cases a;obtain⟨its,_,f,_⟩:=I.list (aE.seq e);obtain⟨o,G,i,g,_⟩:=f;exact Mw Q8 I.kIn ⟨o,i,g⟩ h (λz=>nomatch z) c
 |lst e t j=>exact eR I a (.lst (aE _ _ e)) h c
 |tup e t j=>
  cases a;obtain⟨its,_,f,_⟩:=I.tuple (aE.tup e);obtain⟨o,i,g,_⟩:=f;exact Mw Te I.kIn ⟨o,i,g⟩ h (λz=>nomatch z) c
end
inductive Out where
 |val (u:U) |new (xs:List U) |exc (C:Lm) |dsk (d:Lm) (u:U) (WB:List (Str×U))
noncomputable def pw(K:KM)(c:Hp)(e:List Lm)(Q:VK)(E:XK):Out->Prop
 | .val u=>∀v b,aT c b->Rp K (hid b e) v u->Q v b
 | .new xs=>∀a g b,aT c b->c a=none->b a=some (.lst g)->Rps K (hid b (a::e)) g xs->Q (.ref a) b
 | .exc C=>∀b,aT c b->E (.ref C) none b
 | .dsk d u h=>∀v f b,aT c b->b d=some (.dK f)->DkR K (hid b (d::e)) f h->Rp K (hid b (d::e)) v u->Q v b
theorem pw.later{K:KM}(e:aT H0 H1)(h:pw K H0 O0 Q E o):pw K H1 O0 Q E o:=by
 cases o with
 |val u=>exact λv b s r=>h v b (e.trans s) r
 |new g=>exact λa f b s n q r=>h a f b (e.trans s) (e.free n) q r
 |exc C=>exact λb s=>h b (e.trans s)
 |dsk d u i=>exact λv c b s q r p=>h v c b (e.trans s) q r p
structure PD where
 nx:PSt->Prop
 rt:Out->Prop
 bk:PSt->Prop:=λ_=>False
 ct:PSt->Prop:=λ_=>False
structure Lf(K:KM)(H0:Hp)(O0:List Lm)(E:XK)(D:PD)(D':p9):Prop where
 nx:∀ps σ H O,Rs K H0 O0 ps σ H O->D.nx ps->D'.nx σ H
 bk:∀ps σ H O,Rs K H0 O0 ps σ H O->D.bk ps->D'.bk σ H
 ct:∀ps σ H O,Rs K H0 O0 ps σ H O->D.ct ps->D'.ct σ H
 rt:∀o,D.rt o->pw K H0 O0 D'.rt E o
def Ws(X:Cx)(b:Hp)(a:List Lm)(E:XK)(f:List Nz)(D:PD)(e:PSt):Prop:=PSs X f λc d H=>Lf X.K b a E D c/\∃O,Rs X.K b a e d H O
def W1(X:Cx)(b:Hp)(a:List Lm)(E:XK)(s:Nz)(D:PD)(e:PSt):Prop:=PS X s λc d H=>Lf X.K b a E D c/\∃O,Rs X.K b a e d H O
variable {WW:List Nz}
section
variable {X:Cx}{H0:Hp}{O0:List Lm}{E:XK}{ps WZ:PSt}{D:PD}{s:Nz}{ss:List Nz}{a b c e:Expr}{pos p:Pos}{u x y:U}{xs ys us:List U}{k:Bool}
theorem ay(h:D.nx ps):Ws X H0 O0 E [] D ps:=PSs.mono Fz λb a H ⟨L,O,R⟩=>L.nx ps a H O R h
theorem ae(h:W1 X H0 O0 E s {D with nx:=λp=>Ws X H0 O0 E ss D p } ps):Ws X H0 O0 E (s::ss) D ps:=by
 have c:PSs X ss λb a H=>∃p,Ws X H0 O0 E ss D p/\Lf X.K H0 O0 E D b/\∃O,Rs X.K H0 O0 p a H O:=λd s a H b I ⟨p,w,l,r⟩=>w d s a H b I ⟨l,r⟩;exact PSs.mono (Bd h c) λb a H ⟨L,O,R⟩=>⟨⟨λp a H O R q=>⟨p,q,L,O,R⟩,L.bk,L.ct,L.rt⟩,O,R⟩
theorem d9(h:Ws X H0 O0 E ss D WZ)(hs:SubP WZ ps):Ws X H0 O0 E ss D ps:=PSs.mono h λa b H ⟨L,O,R⟩=>⟨L,O,R.sub hs⟩
theorem xg{x:Str}(c:X.N.Nodup)(f:X.N[i]?=some x)(b:Loc X.env.scope x)(d:Ev X H0 O0 ps e u)(h:D.nx (ps.set i (some (.val u))))(hs:autoParam (NX e (some (.Name x WU)) pos.line X.env=pure false) w4)(a:autoParam (X.fn x=true\/X.env.scope.names.lookup x=some .local) q0):
  W1 X H0 O0 E (.Assign [.Name x WU] e pos) D ps:=PS.mono (v6 c f b d hs a) λg k H ⟨L,O,R⟩=>⟨O,R,λv j s r=>L.nx _ _ _ O ((R.go s).set r) h⟩
theorem fT{x:Str}(f:X.N.Nodup)(g:X.N[i]?=some x)(c:Loc X.env.scope x)(d:EvN X H0 O0 ps e xs)(h:D.nx (ps.set i (some (.own xs))))(hs:autoParam (NX e (some (.Name x WU)) pos.line X.env=pure false) w4)(b:autoParam (X.fn x=true\/X.env.scope.names.lookup x=some .local) q0):
  W1 X H0 O0 E (.Assign [.Name x WU] e pos) D ps:=PS.mono (v6 f g c d hs b) λk m H ⟨L,O,R⟩=>⟨O,R,λa j l s n q r=>L.nx _ _ _ _ (R.own s n q r) h⟩
theorem nT(a:Tt X H0 O0 ps c k)(g:k=true->Ws X H0 O0 E tb D ps)(d:k=false->Ws X H0 O0 E fb D ps):W1 X H0 O0 E (.If c tb fb pos) D ps:=by
 cases k with
 |true=>exact PS.mono (CU a (g rfl) (λ_ _ _ _ _ _ h=>h.elim) (u:=λ_ _ _=>False)) λb f H ⟨L,O,R⟩=>⟨O,R,λe s=>oM ⟨L,O,R.go s⟩⟩
 |false=>exact PS.mono (CU a (λ_ _ _ _ _ _ h=>h.elim) (d rfl) (t:=λ_ _ _=>False)) λb f H ⟨L,O,R⟩=>⟨O,R,λe s=>lC ⟨L,O,R.go s⟩⟩
theorem Rs.ret{K:KM}(R:Rs K H0 O0 ps σ H O)(r:Rp K (hid H O) v u):Rp K (hid H O0) v u:=r.same (bI R.old)
theorem aJ(b:Ev X H0 O0 ps e u)(h:D.rt (.val u)):W1 X H0 O0 E (.Return (some e) pos) D ps:=
 PS.mono (m7 b) λc d H ⟨L,O,R⟩=>⟨O,R,λv a s r=>L.rt _ h v a (R.same.trans s) ((R.go s).ret r)⟩
theorem c7(g:EvN X H0 O0 ps e xs)(h:D.rt (.new xs)):W1 X H0 O0 E (.Return (some e) pos) D ps:=
 PS.mono (m7 g) λi j H ⟨L,O,R⟩=>⟨O,R,λa f d s n q r=>L.rt _ h a f d (R.same.trans s) (R.same.free n) q (r.same (bI λb c=>by
  rcases KO.mp c with y |y
  .subst y;exact K0
  .exact KN _ (R.old b y)))⟩
theorem gu(i:Nat){x:Str}(e:ps[i]?=some (some (.own xs)))(h:D.rt (.new xs))(l:autoParam (X.N[i]?=some x) w4)(n:autoParam (Vis X.env.scope x) v3)(j:autoParam ((x==("__debug__":Str))=false) v0)
  (W0:autoParam ((x==("__classdict__":Str))=false) v0):W1 X H0 O0 E (.Return (some (.Name x p)) pos) D ps:=
 PS.mono (m7 (fe l n j W0)) λr s H o=>by
  obtain⟨L,O,R⟩:=o;obtain⟨v,q,a,g,rfl,c,m,d,f⟩:=R.at_ i _ e;refine⟨_,q,L.rt _ h a g H R.same ((R.new a c).resolve_left m) d (f.same (bI λb k=>?_))⟩;rcases KO.mp k with y |y
  .subst y;exact c
  .exact R.old b y
theorem km(a:Ev X H0 O0 ps e u)(h:D.nx ps)(hs:autoParam (NX e none pos.line X.env=pure false) w4):W1 X H0 O0 E (.Expr e pos) D ps:=
 PS.mono (lK a hs) λb d H ⟨L,O,R⟩=>⟨O,R,λv c s r=>L.nx _ _ _ O (R.go s) h⟩
theorem c8(i){x:Str}(c:ps[i]?=some (some (.own xs)))(l:Ev X H0 O0 ps e u)(j:xs.length<sizeLine)(h:D.nx (ps.set i (some (.own (xs++[u])))))
  (hN:autoParam (X.N[i]?=some x) w4) (hv:autoParam (Vis X.env.scope x) v3) (hd:autoParam ((x==("__debug__":Str))=false) v0) (W0:autoParam ((x==("__classdict__":Str))=false) v0)
  (WN:autoParam (MC (.Name x xp) "append" X.env (Nq (.Name x xp) X.env)=Nq (.Name x xp) X.env) w4)
  (W4:autoParam (((M4 WC (K7 [e] X.env)).all (λx=>!x.1) && (Pl WC (NT [] X.env)).all (λx=>x.1.isSome) && decide ([e].length+([]:List OR).length+(if ([]:List OR).isEmpty then 0 else 1)<30))=true) w4)
  (WO:autoParam ((WI.endLine==WC.line)=true) w4) (Xy:autoParam (K7 [e] X.env=(false,Nq e X.env)::K7 [] X.env) w4) (WQ:autoParam ((M4 WC (K7 [] X.env)).any (·.1)=false) w4)
  (hs:autoParam (NX (.Call (.Attribute (.Name x xp) "append" WI) [e] [] WC) none pos.line X.env=pure false) w4):W1 X H0 O0 E (.Expr (.Call (.Attribute (.Name x xp) "append" WI) [e] [] WC) pos) D ps:=
 PS.mono (lK (pf PU PySem.F.slot_list_append PySem.F.type_list_append pN (fe hN hv hd W0) (cx l dP Xy) WN W4 WO Xy WQ) hs) λm o H k=>by
  obtain⟨L,O,R⟩:=k;obtain⟨v,f,a,g,rfl,q,p,b,d⟩:=R.at_ i _ c;refine⟨_,f,.inl ⟨rfl,_,SqL.of b⟩,O,R,λw n s r=>⟨a,g,w,rfl,rfl,s _ _ b,by rw[d.len];exact j,?_⟩⟩;exact L.nx _ _ _ O ((R.go s).write c f ((d.same (aN s)).snoc (.cons r .nil))) h
theorem Cv(i){x:Str}(g:ps[i]?=some (some (.own xs)))(n:xs≠[])(h:D.nx (ps.set i (some (.own xs.dropLast))))
  (hN:autoParam (X.N[i]?=some x) w4) (hv:autoParam (Vis X.env.scope x) v3) (hd:autoParam ((x==("__debug__":Str))=false) v0) (W0:autoParam ((x==("__classdict__":Str))=false) v0)
  (WN:autoParam (MC (.Name x xp) "pop" X.env (Nq (.Name x xp) X.env)=Nq (.Name x xp) X.env) w4)
  (WO:autoParam ((WI.endLine==WC.line)=true) w4)
  (hs:autoParam (NX (.Call (.Attribute (.Name x xp) "pop" WI) [] [] WC) none pos.line X.env=pure false) w4):W1 X H0 O0 E (.Expr (.Call (.Attribute (.Name x xp) "pop" WI) [] [] WC) pos) D ps:=
 PS.mono (lK (B7 PU PySem.F.slot_list_pop PySem.F.type_list_pop HG (fe hN hv hd W0) WN WO) hs) λp q H o=>by
  obtain⟨L,O,R⟩:=o;obtain⟨v,l,a,b,rfl,s,r,f,e⟩:=R.at_ i _ g;have k:0<b.length:=by rw[e.len];exact LF.mpr n
  have m:b.length-1<b.length:=by lia
  refine⟨_,l,.inl ⟨rfl,_,SqL.of f⟩,a,b,b[b.length-1],rfl,rfl,f,KJ m,?_⟩;refine L.nx _ _ _ O (R.write g l ⟨by simp[e.len],λj v x d c=>?_⟩) h;rw[ON]at d c;split at d
  .split at c
   .exact e.at_ j v x d c
   .cases c
  .cases d
end
def rq:List Nat->TGs
 |[]=>Jq
 |j::js=>Gd (tQ j) (rq js)
def setAll:PSt->List Nat->List U->PSt
 |ps,j::js,u::us=>setAll (ps.set j (some (.val u))) js us
 |ps,_,_=>ps
def lM:St->List Nat->List V->St
 |σ,j::js,u::us=>lM (σ.set j (some u)) js us
 |σ,_,_=>σ
theorem Rs.setAll{K:KM}:∀{js}{ps}{b}{a}{c},Rs K H0 O0 ps b H O->Rps K (hid H O) a c->Rs K H0 O0 (L2.setAll ps js c) (lM b js a) H O
 |[],ps,b,a,c,R,r=>by cases c <;>cases a <;>exact R
 |j::js,ps,b,a,[],R,r=>by rw[r.nil_inv];exact R
 |j::js,ps,b,a,u::c,R,r=>by
  obtain⟨v,f,rfl,d,e⟩:=r.cons_inv;exact Rs.setAll (js:=js) (R.set d) e
theorem ke:∀{b}{σ}{a},a.length=b.length->Q (lM σ b a) H->rq b a σ H Q
 |[],σ,[],_,q=>⟨rfl,q⟩
 |j::b,σ,v::a,e,q=>⟨v,a,rfl,ke (by simpa using e) q⟩
 |[],_,_::_,e,_=>by simp at e
 |_::_,_,[],e,_=>by simp at e
def TgS(X:Cx)(c:Hp)(b:List Lm)(g:Expr)(f:PSt)(u:U)(e:PSt):Prop:=
 PG X g λv h H Q=>∃O,Rs X.K c b f h H O/\Rp X.K (hid H O) v u/\∀d a,aT H a->Rs X.K c b e d a O->Q d a
theorem PG.mono(h:PG X e t)(m:∀v a H Q,t' v a H Q->t v a H Q):PG X e t':=λb s a H v u Q I r q=>h b s a H v u Q I r (m v a H Q q)
theorem PI.mono(h:PI X tg e t)(m:∀a H Q,t' a H Q->t a H Q):PI X tg e t':=λb s a H Q I q=>h b s a H Q I (m a H Q q)
def Yl(K:KM)(J:It)(G:Hp)(xs:List U):Prop:=
 ∀a,aT G a->(∀i,i<xs.length->J.go i a/\∀x b,J.yld i a x b->b=a/\∃u,xs[i]?=some u/\Rp K G x u)/\J.stop xs.length a
def EvI(X:Cx)(g:Hp)(d:List Lm)(f:PSt)(c a:Expr)(xs:List U):Prop:=
 PI X c a λe H R=>∃O,Rs X.K g d f e H O/\∀J b,aT H b->Yl X.K J (hid b O) xs->R J b
section
variable {X:Cx}{H0:Hp}{O0:List Lm}{E:XK}{ps WZ:PSt}{D:PD}{s:Nz}{ss:List Nz}{a b c e tg iter:Expr}{pos p:Pos}{u x y:U}{xs ys us:List U}{k:Bool}
theorem g_{x:Str}(c:X.N.Nodup)(d:X.N[i]?=some x)(b:Loc X.env.scope x)(a:autoParam (X.fn x=true\/X.env.scope.names.lookup x=some .local) q0):TgS X H0 O0 (.Name x pos) ps u (ps.set i (some (.val u))):=
 PG.mono (aB c d b a) λv e H Q ⟨O,R,r,q⟩=>q _ H (.refl H) (R.set r)
theorem xU{k:Nat}(js)(e:X.calm=true)(h:PGs X es (rq js))(b:us.length=js.length)(i:autoParam ((Pv es X.env).length=js.length) w4)(g:autoParam ((Pv es X.env).findIdx? (·.1)=none) w4):TgS X H0 O0 (.Tuple es k pos) ps (.tup us) (setAll ps js us):=
 PG.mono (c6 e h i g) λv j H Q c=>by
  obtain⟨O,R,r,q⟩:=c;cases r with
  |tup d a f=>exact⟨_,_,rfl,aE.tup d,a.trans b,ke (a.trans b) (q _ H (.refl H) (R.setAll ⟨a,f⟩))⟩
theorem FT(a:Ev X H0 O0 ps e u)(f:TgS X H0 O0 tg ps u WZ)(h:D.nx WZ)(hs:autoParam (Rl [tg] e pos.line X.env=pure false) w4)(c:autoParam (Rm [tg] e X.env=pure none) w4)
  (h1:autoParam ((Pv [tg] X.env).map (·.2)=[assign tg X.env]) w4):W1 X H0 O0 E (.Assign [tg] e pos) D ps:=
 PS.mono (HM a f hs c h1) λk l H ⟨L,O,R⟩=>⟨O,R,λv g d b=>⟨O,R.go d,b,λj i m R2=>L.nx _ _ _ O R2 h⟩⟩
theorem Iw{x y:Str}{kt k2 pt2}(c:X.calm=true)(e:X.N.Nodup)(f:X.N[i]?=some x)(g:X.N[j]?=some y)(k:i≠j)
  (hx:X.env.scope.names.lookup x=some .local) (hy:X.env.scope.names.lookup y=some .local) (ha:EvA X H0 O0 ps [a,b] [u,w])
  (hw:Rm [.Tuple [.Name x px,.Name y py] kt pt] (.Tuple [a,b] k2 pt2) X.env=pure (some [x,y])) (h:D.nx ((ps.set i (some (.val u))).set j (some (.val w))))
  (hs:autoParam (Rl [.Tuple [.Name x px,.Name y py] kt pt] (.Tuple [a,b] k2 pt2) pos.line X.env=pure false) w4):
  W1 X H0 O0 E (.Assign [.Tuple [.Name x px,.Name y py] kt pt] (.Tuple [a,b] k2 pt2) pos) D ps:=
 PS.mono (Gv c e f g k hx hy ha hw hs) λq r H ⟨L,O,R⟩=>⟨O,R,λp o m d=>by
  obtain⟨v,z,rfl,n,l⟩:=iE d;exact⟨v,z,rfl,L.nx _ _ _ O (((R.go m).set n).set l) h⟩⟩
theorem bL(n:Ev X H0 O0 ps iter x)(m:x=.lst xs\/x=.scr xs):EvI X H0 O0 ps tg iter xs:=
 PI.mono (DB n) λp H Q ⟨O,R,q⟩=>⟨O,R,λv f s r=>by
  have j:∃a b,v=.ref a/\SqL X.K (hid f O) a b/\Rps X.K (hid f O) b xs:=by
   rcases m with rfl |rfl
   .cases r with
    |lst c k d=>exact⟨_,_,rfl,SqL.of c,k,d⟩
   .cases r with
    |scr c k d=>exact⟨_,_,rfl,c,k,d⟩
  obtain⟨a,b,rfl,c,e⟩:=j;refine⟨a,rfl,⟨b,aE.seq c⟩,q _ f s λo h=>⟨λi g=>?_,⟨b,h.seq c,by rw[e.len];exact K1 _⟩⟩⟩;have l:i<b.length:=by rw[e.len];exact g
  refine⟨⟨b,b[i],h.seq c,KJ l⟩,λz t y=>⟨y.1,xs[i],KJ g,e.at_ i z _ (y.2 b (h.seq c)) (KJ g)⟩⟩⟩
theorem Ir(k:Ev X H0 O0 ps iter (.tup xs)):EvI X H0 O0 ps tg iter xs:=
 PI.mono (Gq k) λn H Q ⟨O,R,q⟩=>⟨O,R,λv g s r=>by
  cases r with
  | @tup a b _ c l j=>
   have d:Rps X.K (hid g O) b xs:=⟨l,j⟩;refine⟨a,rfl,⟨b,aE.tup c⟩,q _ g s λm f=>⟨λi e=>?_,⟨b,f.tup c,by rw[d.len];exact K1 _⟩⟩⟩;have h:i<b.length:=by rw[d.len];exact e
   refine⟨⟨b,b[i],f.tup c,KJ h⟩,λz o y=>⟨y.1,xs[i],KJ e,d.at_ i z _ (y.2 b (f.tup c)) (KJ e)⟩⟩⟩
def fK(a:Int)(n:Nat):List U:=(LP n).map λ(i:Nat)=>U.int (a+(i:Int))
theorem b_{a:Int}:(fK a n).length=n:=by simp[fK]
theorem o5{a:Int}(h:i<n):(fK a n)[i]?=some (.int (a+(i:Int))):=by
 unfold fK;rw[K5,NC h];rfl
theorem dN{b:Int}(h:(fK b n)[i]?=some x):i<n/\x=.int (b+(i:Int)):=by
 have a:=aK h;rw[b_]at a;rw[o5 a]at h;exact⟨a,(LN h).symm⟩
theorem jA{K:KM}{a:Int}:Yl K (Itr a n) G (fK a n):=λc e=>by
 rw[b_];refine⟨λi b=>⟨b,λz d y=>⟨y.1,_,o5 b,?_⟩⟩,K1 _⟩;rw[y.2];exact .int _
theorem mR(f:Gl X "range")(b:X.mg "range"=none)(e:EvA X H0 O0 ps [a] [.int j])(g:-(2 ^ 62)≤j)(d:j<2 ^ 62)(hs:autoParam (K7 [a] X.env=[(false,Nq a X.env)]) w4):EvI X H0 O0 ps tg (.Call (.Name "range" p) [a] [] pos) (fK 0 j.toNat):=
 PI.mono (Aj f b e hs) λk H Q ⟨O,R,q⟩=>⟨O,R,λi c s r=>by
  obtain⟨v,rfl,h⟩:=bW r;cases h;exact⟨j,rfl,g,d,q _ c s jA⟩⟩
theorem Ck(k:Gl X "range")(d:X.mg "range"=none)(g:EvA X H0 O0 ps [a,b] [.int i,.int j])(h:-(2 ^ 62)≤i∧i<2 ^ 62∧-(2 ^ 62)≤j∧j<2 ^ 62)(hs:autoParam (K7 [a,b] X.env=[(false,Nq a X.env),(false,Nq b X.env)]) w4)(f:autoParam (K7 [b] X.env=[(false,Nq b X.env)]) w4):
  EvI X H0 O0 ps tg (.Call (.Name "range" p) [a,b] [] pos) (fK i (j-i).toNat):=
 PI.mono (yZ k d g hs f) λn H Q ⟨O,R,q⟩=>⟨O,R,λm e s r=>by
  obtain⟨v,w,rfl,c,l⟩:=iE r;cases c;cases l;exact⟨i,j,rfl,h,q _ e s jA⟩⟩
theorem Rs.rebase{K:KM}(R:Rs K H0 O0 ps σ H O):Rs K (hid H (O.filter λa=>decide (a ∉ O0))) O0 ps σ H O:=
 ⟨aE,R.old,λa b=>by
  by_cases h:a∈O0
  .exact .inl h
  .right;unfold hid;rw[if_pos (LW.mpr ⟨b,by simpa using h⟩)],R.dom,R.len,R.at_,R.inj⟩
theorem Rs.base{K:KM}(R:Rs K H0 O0 ps σ H O):aT H0 (hid H (O.filter λa=>decide (a ∉ O0))):=λb o h=>by
 refine cZ (R.same b o h) λz=>?_;obtain⟨c,d⟩:=LW.mp z;rcases R.new b c with y |y
 .simp[y]at d
 .rw[h]at y;cases y
theorem Rs.unbase{K:KM}(e:aT H0 H1)(R:Rs K H1 O0 ps σ H O):Rs K H0 O0 ps σ H O:=
 ⟨e.trans R.same,R.old,λa b=>(R.new a b).imp id λz=>e.free z,R.dom,R.len,R.at_,R.inj⟩
theorem Rs.seen{K:KM}(R:Rs K H0 O0 ps σ H O)(d:Rs K (hid H (O.filter λa=>decide (a ∉ O0))) O0 X7 σ2 H2 O2):aT (hid H O) (hid H2 O2):=λb o h=>by
 obtain⟨f,c⟩:=iq h;have e:hid H (O.filter λa=>decide (a ∉ O0)) b=some o:=cZ f λz=>c (LW.mp z).1;refine cZ (d.same b o e) λz=>?_;rcases d.new b z with y |y
 .exact c (R.old b y)
 .rw[e]at y;cases y
theorem Io(S:X.calm=true)(P:RY (LM X.prog X.w) X.A X.env X.xe)(hi:EvI X H0 O0 ps tg iter xs)(f:Nat->PSt->Prop)(h0:f 0 ps)
  (hs:∀H0 i x ps,xs[i]?=some x->f i ps->∃WZ,TgS X H0 O0 tg ps x WZ/\Ws X H0 O0 E WW {D with nx:=f (i+1),ct:=f (i+1),bk:=D.nx } WZ) (hd:∀ps,f xs.length ps->D.nx ps)
  (hf:autoParam (∀x,Ms iter X.env x=pure x) q4):W1 X H0 O0 E (.For tg iter WW [] pos) D ps:=by
 have hg:PG X tg λv c H Q=>∃b ps u WZ,TgS X b O0 tg ps u WZ/\∃O,Rs X.K b O0 ps c H O/\Rp X.K (hid H O) v u/\∀g d,aT H d->Rs X.K b O0 WZ g d O->Q g d:=
  λl s c H v u Q I r ⟨b,ps,w,WZ,t,z⟩=>t l s c H v u Q I r z
 have V:PSs X WW λh c H=>∃b n WZ,Ws X b O0 E WW n WZ/\Lf X.K b O0 E n h/\∃O,Rs X.K b O0 WZ c H O:=λl s c H h I ⟨b,n,WZ,w,z⟩=>w l s c H h I z;refine PS.mono (GZ P S hi hg V hf) λh c H ⟨L,O,R⟩=>⟨O,R,λJ b s1 Y=>?_⟩
 have B:=R.go s1;have base:=B.base;refine⟨λi m c H=>m=xs.length-i/\i<=xs.length/\∃ps j,f i ps/\Rs X.K (hid b (O.filter λa=>decide (a ∉ O0))) O0 ps c H j,⟨_,rfl,Mm _,ps,O,h0,B.rebase⟩,?_⟩;rintro i m Z N ⟨rfl,M,k,C,G,R2⟩;have seen:=B.seen R2;obtain⟨y1,W⟩:=Y N (seen.trans aE);by_cases F:i<xs.length
 .obtain⟨T,U⟩:=y1 i F;refine .inr ⟨T,λg d=>∃ps j,f (i+1) ps/\Rs X.K (hid b (O.filter λa=>decide (a ∉ O0))) O0 ps g d j,λg d z=>⟨xs.length-(i+1),by omega,rfl,F,z⟩,λx H3 y=>?_⟩;obtain⟨rfl,u,hu,r⟩:=U x H3 y;obtain⟨WZ,t,w⟩:=hs (hid b (O.filter λa=>decide (a ∉ O0))) i u k hu G;refine⟨_,k,u,WZ,t,C,R2,r.same seen,λg d s' R'=>⟨_,_,WZ,w,?_,C,R'⟩⟩;exact⟨λp c H O R q=>⟨p,O,q,R⟩,λp c H O R q=>L.nx _ _ _ _ (R.unbase base) q,λp c H O R q=>⟨p,O,q,R⟩,λo q=>(L.rt o q).later base⟩
 .have e:i=xs.length:=by omega
  subst e;exact .inl ⟨W,L.nx _ _ _ _ (R2.unbase base) (hd k G)⟩
theorem Ep(o:RY (LM X.prog X.w) X.A X.env X.xe)(e:Nat->PSt->Prop)(m)(v:e m ps)
  (hs:∀m ps,e m ps->∃b,Tt X H0 O0 ps c b/\(b=true->Ws X H0 O0 E WW {D with nx:=λp=>∃d,d<m/\e d p,ct:=λp=>∃d,d<m/\e d p,bk:=D.nx } ps)/\(b=false->D.nx ps)):W1 X H0 O0 E (.While c WW [] pos) D ps:=by
 have x:PT X c λa H Q=>∃ps b,Tt X H0 O0 ps c b/\∃O,Rs X.K H0 O0 ps a H O/\∀j,aT H j->Q b j:=λh s a H Q I ⟨ps,b,t,z⟩=>t h s a H Q I z;have r:PSs X WW λf a H=>∃i WZ,Ws X H0 O0 E WW i WZ/\Lf X.K H0 O0 E i f/\∃O,Rs X.K H0 O0 WZ a H O:=λh s a H f I ⟨i,WZ,w,z⟩=>w h s a H f I z;refine PS.mono (Bc o x r) λf a H ⟨L,O,R⟩=>⟨λm a H=>∃ps O,e m ps/\Rs X.K H0 O0 ps a H O,⟨m,ps,O,v,R⟩,?_⟩
 rintro m u F ⟨g,k,y,R2⟩;obtain⟨b,t,C,B⟩:=hs m g y;refine⟨g,b,t,k,R2,λJ n=>?_⟩;cases b with
 |true=>
  refine oM ⟨λa H=>∃d,d<m/\∃ps O,e d ps/\Rs X.K H0 O0 ps a H O,λG j z=>z,_,g,C rfl,?_,k,R2.go n⟩;exact⟨λp a H O R ⟨d,l,q⟩=>⟨d,l,p,O,q,R⟩,λp a H O R q=>L.nx _ _ _ _ R q,λp a H O R ⟨d,l,q⟩=>⟨d,l,p,O,q,R⟩,L.rt⟩
 |false=>exact lC (L.nx _ _ _ _ (R2.go n) (B rfl))
def eJ:List Nat->PSt->PSt
 |[],ps=>ps
 |i::is,ps=>eJ is (ps.set i none)
theorem Rs.mask{K:KM}:∀{is}{ps}{a},Rs K H0 O0 ps a H O->Rs K H0 O0 (eJ is ps) (L2.mask is a) H O
 |[],ps,a,R=>R
 |i::is,ps,a,R=>Rs.mask (is:=is) (R.drop)
theorem Rs.hide{K:KM}(R:Rs K H0 O0 ps σ H O)(e:aT H H')(n:H l=none)(d:H' l≠none):Rs K H0 O0 ps σ H' (l::O):=by
 refine⟨R.same.trans e,λa f=>KN _ (R.old a f),λa f=>?_,λa f z=>?_,R.len,λi s h=>?_,R.inj⟩
 .rcases KO.mp f with y |y
  .subst y;exact .inr (R.same.free n)
  .exact R.new a y
 .rcases KO.mp f with y |y
  .subst y;exact d z
  .exact R.dom a y (e.free z)
 .obtain⟨w,v,c⟩:=R.at_ i s h;refine⟨w,v,?_⟩;cases s with
  |val u=>exact Rp.same (bu e n) c
  |own ys=>
   obtain⟨b,q,g,o,k,m,j⟩:=c;exact⟨b,q,g,KN _ o,k,e _ _ m,j.same (bu e n)⟩
  |pin z u=>exact⟨c.1,Rp.same (bu e n) c.2⟩
  |dsk w C b d x=>obtain⟨p,t,g,o,k,m,j,r⟩:=c;exact⟨p,t,g,KN _ o,k,e _ _ m,e _ _ j,r.same (bu e n)⟩
theorem sE{js is:List Nat}:∀{b}{a},(∀j∈js,j∈is)->∀n v,n ∉ is->b[n]?=some (some v)->(lM b js a)[n]?=some (some v):=by
 induction js with
 |nil=>intro b a _ n v _ h;cases a <;>exact h
 |cons j js f=>
  intro b a c n v d h;cases a with
  |nil=>exact h
  |cons w g=>exact f (λz e=>c z (KN _ e)) n v d (by rw[Lw (λz=>d (by rw[<-z];exact c j K0))];exact h)
def GOk(g:TG)(K:KM)(is:List Nat)(f:PSt->U->PSt)(c:U->Prop):Prop:=
 ∀(H0:Hp) (O0:List Lm) (ps:PSt) (a:St) (H:Hp) (O:List Lm) (v:V) (u:U) (Q:St->Hp->Prop),c u->Rs K H0 O0 ps a H O->Rp K (hid H O) v u->
  (∀b,Rs K H0 O0 (f ps u) b H O->(∀(n:Nat) (w:V),n ∉ is->a[n]?=some (some w)->b[n]?=some (some w))->Q b H)->g v a H Q
theorem bS{K:KM}(h:i∈is):GOk (tQ i) K is (λps u=>ps.set i (some (.val u))) λ_=>True:=λH0 O0 ps b H O v u Q _ R r q=>
 q _ (R.set r) λn w a e=>by rw[Lw (λz=>a (by rw[<-z];exact h))];exact e
theorem cy{K:KM}(h:∀j∈js,j∈is):GOk (Il K js.length (rq js)) K is (λps u=>match u with | .tup us=>setAll ps js us |_=>ps) λu=>∃us,u=.tup us/\us.length=js.length:=λH0 O0 ps i H O v u Q d R r q=>by
 obtain⟨us,rfl,b⟩:=d;cases r with
 |tup c a f=>exact⟨_,_,rfl,aE.tup c,a.trans b,ke (a.trans b) (q _ (R.setAll ⟨a,f⟩) λn w g e=>sE h n w g e)⟩
end
def Yz(K:KM)(J:It)(G:Hp)(xs:List U):Prop:=
 ∀b,aT G b->(∀i,i<xs.length->J.go i b/\∀x d,J.yld i b x d->aT b d/\∃u,xs[i]?=some u/\∀c,(∀a∈c,b a≠none)->aT G (hid b c)->Rp K (hid d c) x u)/\J.stop xs.length b
def EvZ(X:Cx)(g:Hp)(d:List Lm)(f:PSt)(c a:Expr)(xs:List U):Prop:=
 PI X c a λe H R=>∃O,Rs X.K g d f e H O/\∀J b,aT H b->Yz X.K J (hid b O) xs->R J b
def FA(is:List Nat)(h:St)(l:Lm)(g:TE)(W:Nat->Nat->Hp->Prop)(i m:Nat)(c:St)(b:Bool)(f:Hp):Prop:=
 (∀(j:Nat) (v:V),(mask is h)[j]?=some (some v)->c[j]?=some (some v))/\
   if b=true then g c f λy e=>∃d,e l=some (.lst d)/\d.length<sizeLine/\∃a,a<m/\W (i+1) a (upd e l (.lst (d++[y]))) else ∃a,a<m/\W (i+1) a f
def w_(is:List Nat)(g:TG)(j:TT)(h:TE)(d:St)(Q:VK)(J:It)(c:Hp):Prop:=∀l,c l=none->
 ∃W:Nat->Nat->Hp->Prop,(∃m,W 0 m (upd c l (.lst [])))/\∀i m a,W i m a->
  (J.stop i a/\Q (.ref l) a)\/(J.go i a/\∀x e,J.yld i a x e->g x (mask is d) e λb f=>j b f (FA is d l h W i m b))
def Tst(X:Cx)(g:S_)(e:List (Str×Lm))(a:List Expr)(b:TT):Prop:=(a=[]/\∀f H Q,b f H Q->Q true H)\/∃c,a=[c]/\∀C s H d,PT (aZ X g e C s H d) c b
abbrev eL(h:Nh):Nh:=h.push {cls:=.type "list",dict:=none,data:=.seq ([]:List K3).toArray }
noncomputable abbrev bX(X:Cx)(c:S_)(b:List (Str×Lm))(s:K8)(H:Hp)(l:Lm)(a:List Lm):Cx:=aZ X c b s.heap.objs.size s (upd H l (.lst [])) a
section
variable {X:Cx}{Wz:List (Lm×Obj)}{σ:St}{H:Hp}{s:K8}
theorem pX(hc:X.calm=true)(B:dG X WA cl is)
  (hg:∀C s H h,PG (aZ X WA cl C s H h) tg g) (ht:Tst X WA cl cs tt) (he:∀C s H h,PE (aZ X WA cl C s H h) Xn te) (hs:∀x,Ms iter X.env x=pure x)
  (I:Inv X Wz σ H s) (hi:LH (LM X.prog X.w) X.A (Nq iter X.env) (λv s1=>LH (LM X.prog X.w) X.A (Uh v) (PIE X Wz σ tg (w_ is g tt te σ Q0)) X.xe s1) X.xe s)
  (WT:∀l C j k m,Inv X Wz σ j k->k.heap.Ns C m->j C=none->C≠X.env.locals->C ∉ X.fs->X.s₀.heap.objs.size<=C->(∀x c,X.env.cells.lookup x=some c->c≠C)->(∀p∈X.pn++Wz,p.1≠C)->Q0 (.ref l) j->
   compPost (LM X.prog X.w) X.A X.xe use Q (.ref l) C (.ok .next) k):
  LH (LM X.prog X.w) X.A (comprehension (.ListComp Xn [⟨tg,iter,cs,0⟩] WA pos) WA X.env pos0 (newList []) false (Nq iter X.env) use) Q X.xe s:=by
 refine wpAny_comprehension_free rfl hs B.clos B.kind B.names (thn hi λxv s1 h1=>thn h1 λitv a h2=>?_);obtain⟨it,h,tn,J,F,e,I2,T,st2,f2,R⟩:=h2;subst e;refine N4 (wpAny_newFunctionEnv B.cell (by intro y hy;simp at hy) (λK hns Yi=>?_) B.kind);have hl:=I2.hok.fresh (K1 _);obtain⟨W,⟨m0,w0⟩,Z⟩:=R a.heap.objs.size hl
 have N:Inv X Wz σ (upd F a.heap.objs.size (.lst [])) {a with heap:=eL a.heap }:=
  I2.laid (λb u e=>KU _ e) (K1 _) ⟨Mm _,[],0,.nil,Le _ rfl⟩
 have hfl:∀b∈h,b<a.heap.objs.size:=λb f=>let ⟨o,e,_⟩:=T.obj 0 _ st2 b f;Lc e
 have S:∀b∈h,lD X Wz (upd F a.heap.objs.size (.lst [])) b:=λb f=>⟨by rw[aI (LA (hfl b f))];exact (f2 b f).1,(f2 b f).2⟩
 have kp:∀b o,(eL a.heap).get? b=some o->K.get? b=some o:=λb o e=>
  Yi.extBut b o (LA (Lc e)) (KU _ e)
 have U:=T.keep 0 _ _ st2 λb _ o e=>kp b o (KU _ e)
 have V:∀b∈h,b<(eL a.heap).objs.size:=λb f=>by
  rw[MM];exact ND (hfl b f)
 have I4:=sM (t':=a.toks+([]:List (Str×K3)).length) N B S V hns kp
 have L:PM (LM X.prog X.w) X.A (.compLoop (.ListComp Xn [⟨tg,iter,cs,0⟩] WA pos) 0 (.ref it) (.ref a.heap.objs.size) (compEnvC WA cl (eL a.heap).objs.size X.env))
   (compPost (LM X.prog X.w) X.A X.xe use Q (.ref a.heap.objs.size) (eL a.heap).objs.size)
   {a with heap:=K,toks:=a.toks+([]:List (Str×K3)).length }:=by
  generalize hs3:({a with heap:=eL a.heap }:K8)=D at *
  have hC:(eL a.heap).objs.size=D.heap.objs.size:=by rw[<-hs3]
  rw[hC]
  have YD:∀{j},(∀b∈h,j b=none)->∀b∈h,lD (bX X WA cl D F a.heap.objs.size h) [] j b:=λhn b f=>
   ⟨hn b f,(I4.ok.exf b f).1,I4.ok.exfs b f,.inl f,λx c e=>(I4.ok.exf b f).2 x c e,λp hp=>absurd hp (by simp)⟩
  have back:∀{WM}{j}{pp}{k},Inv (bX X WA cl D F a.heap.objs.size h) pp WM j k->Inv X Wz σ j k:=λI'=>
   N.call' I'.os I'.base I'.hok I'.bare λb f=>⟨(S b f).2.2.2.1,(S b f).2.1,(S b f).2.2.2.2.1,(S b f).2.2.2.2.2⟩
  refine codeAny_loop rfl (λn k=>∃i j,Inv (bX X WA cl D F a.heap.objs.size h) [] (mask is σ) j k/\tn i k.heap/\(∀b∈h,j b=none)/\W i n j) ?_ m0 ⟨0,_,(by subst hs3;exact I4),U,λb f=>(S b f).1,w0⟩;rintro n s5 ⟨i,H5,I5,st5,Y,w5⟩;refine wpAny_noted ?_;rw[compTurn_list];refine KL (Tc (KL ?_));rcases Z i n H5 w5 with ⟨stop,q⟩ |⟨go,step⟩
  .refine thn (T.done (bX X WA cl D F a.heap.objs.size h) rfl rfl rfl hc i [] s5 _ H5 _ I5 (YD Y) st5 stop) λr s6 ⟨hr,I6⟩=>?_;subst hr;refine KY ?_;obtain⟨m6,hn6,_⟩:=I6.loc;refine WT _ D.heap.objs.size H5 s6 m6 (back I6) hn6 I6.free (Pw N.lt) (N.nofs (K1 _)) N.sz (λx c e=>?_) (λp hp=>?_) q
   .obtain⟨v,z⟩:=N.cell x c e;exact LA z.lt
   .exact LA (Lc (N.pin p hp).1)
  .refine thn (T.item (bX X WA cl D F a.heap.objs.size h) rfl rfl rfl hc i [] s5 _ H5 _ I5 (YD Y) st5 go) λr s6 G=>?_;obtain⟨u,hr,h6⟩:=G;subst hr;refine KL (thn h6 λ_ s7 G=>?_);obtain⟨x,H7,I7,r7,y7,M,fr7⟩:=G;have I7':=I7.pinned (YD fr7) (T.obj _ _ M);refine KL (Oy (hg _ _ _ _ _ s7 (mask is σ) H7 x u _ I7' r7 (step x H7 y7)) (λ_ s8 G=>?_) λ_ _ z=>z.elim);obtain⟨t,H8,I8,q8⟩:=G;refine KL (Oy (Q:=TP (bX X WA cl D F a.heap.objs.size h) ([]++ko h s7.heap) t (FA is σ a.heap.objs.size te W i n t)) (E:=λ_ _=>False) ?_ (λbb s9 ⟨H9,P,sub,q9⟩=>?_) λ_ _ z=>z.elim)
   .rcases ht with ⟨rfl,z⟩ |⟨c,rfl,z⟩
    .exact wpAny_tests_nil ⟨H8,I8,z _ _ _ q8⟩
    .exact wpAny_tests_one (z _ _ _ _ _ s8 t H8 _ I8 q8)
   have fpn:∀{j}{k}{WM},Inv (bX X WA cl D F a.heap.objs.size h) ([]++ko h s7.heap) WM j k->tn (i+1) k.heap/\∀b∈h,j b=none:=λ{j k WM} J=>⟨T.keep _ _ _ M λb f o e=>(J.pin (b,o) (Lv _ (Lv _ (gx f e)))).1,λb f=>by
    obtain⟨o,e,d⟩:=T.obj _ _ M b f;exact (J.pin (b,o) (Lv _ (Lv _ (gx f e)))).2.1⟩
   cases bb with
   |true=>
    simp only[if_true];refine KL (KL (Oy (he _ _ _ _ _ s9 t H9 _ P q9) (λv s10 G=>?_) λ_ _ z=>z.elim));obtain⟨y,H10,I10,r10,vs,hl10,hz,m',hm,w'⟩:=G;refine KL (Oy (pN (X:=bX X WA cl D F a.heap.objs.size h) _ s10 t H10 (.ref a.heap.objs.size) [y] (.ref a.heap.objs.size) [v] (λ_ j=>j=upd H10 a.heap.objs.size (.lst (vs++[y]))) I10 rfl (.cons r10 .nil) ⟨_,vs,y,rfl,rfl,hl10,hz,rfl⟩) (λz s11 G=>?_) λ_ _ z=>z.elim);obtain⟨zv,H11,O,_,e11⟩:=G;subst e11;obtain⟨k1,k2⟩:=fpn O;exact KY (KY ⟨rfl,m',hm,i+1,_,(O.unpinned).weak (by rw[O.len,h_,I.len]) sub,k1,k2,w'⟩)
   |false=>
    simp only[Ln,if_false];obtain⟨m',hm,w'⟩:=q9;obtain⟨k1,k2⟩:=fpn P
    first
     |exact KY ⟨rfl,m',hm,i+1,_,(P.unpinned).weak (by rw[P.len,h_,I.len]) sub,k1,k2,w'⟩
     |exact KL (KY (KY ⟨rfl,m',hm,i+1,_,(P.unpinned).weak (by rw[P.len,h_,I.len]) sub,k1,k2,w'⟩))
 exact codeAny_compStart_list L (T.self X.A 0 _ _ _ U L)
theorem AD(f:X.calm=true)(B:dG X WA cl is)
  (hi:PI X tg iter wi) (hg:∀C s H a,PG (aZ X WA cl C s H a) tg g) (ht:Tst X WA cl cs tt) (he:∀C s H a,PE (aZ X WA cl C s H a) Xn te) (hs:∀x,Ms iter X.env x=pure x):
  PE X (.ListComp Xn [⟨tg,iter,cs,0⟩] WA pos) λσ H Q=>wi σ H (w_ is g tt te σ Q):=by
 intro Wz s σ H Q I h;rw[eval_ListComp];refine pX f B hg ht he hs I (hi Wz s σ H _ I h) λl C j v m u p t r y k c d q=>⟨m,p,λw n=>?_⟩
 exact⟨.ref l,j,u.turned (λb o i e=>n.extBut b o i e) t (Ne.symm r.symm) (.inr k) c d,rfl,q⟩
theorem tE(r:X.calm=true)(A:X.N.Nodup)(G:X.N[j]?=some y)(z:Loc X.env.scope y)(B:dG X WA cl is)
  (hi:PI X tg iter wi) (hg:∀C s H d,PG (aZ X WA cl C s H d) tg g) (ht:Tst X WA cl cs tt) (he:∀C s H d,PE (aZ X WA cl C s H d) Xn te) (hs:∀x,Ms iter X.env x=pure x)
  (hsw:NX (.ListComp Xn [⟨tg,iter,cs,0⟩] WA pos) (some (.Name y py)) Xz.line X.env=pure true) (hf:X.fn y=true\/X.env.scope.names.lookup y=some .local):
  PS X (.Assign [.Name y py] (.ListComp Xn [⟨tg,iter,cs,0⟩] WA pos) Xz) (Gw (λσ H Q=>wi σ H (w_ is g tt te σ Q)) (tQ j)):=by
 intro Wz s σ H D I h;rw[exec_Assign_Name_used _ _ _ _ hsw];refine KL (Tc (KL ?_));refine KL (Oy (pX r B hg ht he hs I (hi Wz s σ H _ I h) λl C u w m P K O k T E i n q=>?_) (λ_ w p=>KY (KY p)) λ_ _ e=>e);refine TJ (o0 P A G z (v:=.ref l) rfl (λR F L=>?_) hf);obtain⟨a,J,M⟩:=L
 have f:C≠a:=by
  rcases M with e |e
  .rw[e];exact k
  .exact Ne.symm (i _ _ e)
 refine⟨m,K.sameBut J f,λS c=>⟨_,u,F.turned (λb o t e=>c.extBut b o t e) O k (.inr E) i n,q⟩⟩
end
section
variable {X:Cx}{H0:Hp}{O0:List Lm}{E:XK}{ps:PSt}{D:PD}{tg iter cond Xn:Expr}{pos Xz py:Pos}{xs ys:List U}{fs:List (Option U)}{WA:S_}{cl:List (Str×Lm)}{is:List Nat}{g:TG}{f:PSt→U→PSt}{dom:U→Prop}{cs:List Expr}{y:Str}{j:Nat}
theorem Yl.z{K:KM}(Y:Yl K J G xs):Yz K J G xs:=λa b=>⟨λi c=>⟨((Y a b).1 i c).1,λx f y=>by
 obtain⟨rfl,u,e,r⟩:=((Y a b).1 i c).2 x f y;exact⟨.refl _,u,e,λg _ d=>r.same d⟩⟩,(Y a b).2⟩
theorem EvI.z(h:EvI X H0 O0 ps tg iter xs):EvZ X H0 O0 ps tg iter xs:=PI.mono h λb H R ⟨O,r,q⟩=>⟨O,r,λJ a s Y=>q J a s Y.z⟩
theorem t_(hg:GOk g X.K is f dom)(WG:fs.length=xs.length)(hz:xs.length<=sizeLine)(Xi:∀x∈xs,dom x)
  (ht:(cs=[]/\∀o∈fs,o.isSome=true)\/∃c,cs=[c]/\∀C s H t (i:Nat) (x:U) (o:Option U),xs[i]?=some x->fs[i]?=some o->Tt (aZ X WA cl C s H t) H0 O0 (f (eJ is ps) x) c o.isSome)
  (he:∀C s H t (i:Nat) (x y:U),xs[i]?=some x->fs[i]?=some (some y)->Ev (aZ X WA cl C s H t) H0 O0 (f (eJ is ps) x) Xn y):
  ∃tt te,Tst X WA cl cs tt/\(∀C s H t,PE (aZ X WA cl C s H t) Xn te)/\∀h A O Q J,Rs X.K H0 O0 ps h A O->Yz X.K J (hid A O) xs->
   (∀a n d,aT A d->A a=none->d a=some (.lst n)->Rps X.K (hid d (a::O)) n (fs.filterMap id)->Q (.ref a) d)->w_ is g tt te h Q J A:=by
 refine⟨λh H Q=>∃(i:Nat) (x:U) (o:Option U),xs[i]?=some x/\fs[i]?=some o/\∃L,Rs X.K H0 O0 (f (eJ is ps) x) h H L/\∀d,aT H d->Q o.isSome d,λh H Q=>∃i x y,xs[i]?=some x/\fs[i]?=some (some y)/\∃L,Rs X.K H0 O0 (f (eJ is ps) x) h H L/\∀v d,aT H d->Rp X.K (hid d L) v y->Q v d,
  ?_,λC s H t P R h d Q I ⟨i,x,y,W,p,z⟩=>he C s H t i x y W p P R h d Q I z,λh A O Q J R1 Y WT l G=>?_⟩
 .refine ht.imp (λ⟨a,b⟩=>⟨a,λh H Q ⟨i,x,o,_,p,_,_,q⟩=>b o (Lo p) ▸ q H (.refl H)⟩) λ⟨c,a,b⟩=>⟨c,a,λC s H t P R h d Q I ⟨i,x,o,W,p,z⟩=>b C s H t i x o W p P R h d Q I z⟩
 refine⟨λi m B=>m=xs.length-i/\i<=xs.length/\aT A B/\∃n,B l=some (.lst n)/\n.length<=i/\Rps X.K (hid B (l::O)) n ((fs.take i).filterMap id),⟨_,rfl,Mm _,aO G _,[],aH,K1 _,by rw[Q1];exact .nil⟩,?_⟩;rintro i m B ⟨rfl,hi,D,n,p,hv,N⟩;have seen:aT (hid A O) (hid B (l::O)):=bu D G;obtain⟨y1,y2⟩:=Y B (seen.trans aE);by_cases S:i<xs.length
 .obtain⟨g1,g2⟩:=y1 i S;refine .inr ⟨g1,λx H3 y=>?_⟩;obtain⟨F,u,V,r⟩:=g2 x H3 y;have R2:=((R1.mask (is:=is)).hide D G (by rw[p];intro z;cases z)).go F;have h3:=F _ _ p;refine hg H0 O0 _ _ H3 (l::O) x u _ (Xi u (Lo V)) R2 (r (l::O) (λb hb z=>by rcases KO.mp hb with k |k;(rw[k,p]at z;cases z);exact R1.dom b k (D.free z)) seen) λσ4 R4 keep=>?_;obtain⟨o,M⟩:∃o,fs[i]?=some o:=⟨_,KJ (by lia)⟩
  refine⟨i,u,o,V,M,_,R4,λH5 E=>⟨λj w e=>keep j w (mL is h j w e).2 e,?_⟩⟩;have Z:=(N.same (aN F)).same (aN E);have e:(fs.take (i+1)).filterMap id=(fs.take i).filterMap id++o.toList:=by rw[OM,M,Option.toList_some,List.filterMap_append];cases o <;>rfl
  cases o with
  |none=>exact lC ⟨xs.length-(i+1),by lia,rfl,S,(D.trans F).trans E,n,E _ _ h3,by lia,by rw[e];simpa using Z⟩
  |some yv=>
   refine oM ⟨i,u,yv,V,M,_,R4.go E,λv H6 T r6=>⟨n,T _ _ (E _ _ h3),by lia,xs.length-(i+1),by lia,rfl,S,(((D.trans F).trans E).trans T).put G _,n++[v],aH,by simp;lia,?_⟩⟩;rw[lL K0,e];exact (Z.same (aN T)).snoc (.cons r6 .nil)
 .have e:i=xs.length:=by lia
  subst e;rw[<-WG,Of]at N;exact .inl ⟨y2,WT l n B D G p N⟩
theorem yg(e:X.calm=true)(B:dG X WA cl is)(p:EvZ X H0 O0 ps tg iter xs)(w:∀C s H b,PG (aZ X WA cl C s H b) tg g)(j:GOk g X.K is f dom)(t:fs.length=xs.length)(u:xs.length<=sizeLine)(l:∀x∈xs,dom x)
  (ht:(cs=[]/\∀o∈fs,o.isSome=true)\/∃c,cs=[c]/\∀C s H b (i:Nat) (x:U) (o:Option U),xs[i]?=some x->fs[i]?=some o->Tt (aZ X WA cl C s H b) H0 O0 (f (eJ is ps) x) c o.isSome)
  (he:∀C s H b (i:Nat) (x y:U),xs[i]?=some x->fs[i]?=some (some y)->Ev (aZ X WA cl C s H b) H0 O0 (f (eJ is ps) x) Xn y)
  (hs:∀x,Ms iter X.env x=pure x):EvN X H0 O0 ps (.ListComp Xn [⟨tg,iter,cs,0⟩] WA pos) (fs.filterMap id):=by
 obtain⟨G,F,A,v,z⟩:=t_ j t u l ht he;exact PE.mono (AD e B p w A v hs) λE H Q ⟨O,R,q⟩=>⟨O,R,λJ D d Y=>z _ _ _ _ _ (R.go d) Y λa k m s n h r=>q a k m (d.trans s) (d.free n) h r⟩
theorem nF(e:Bool)(p:X.calm=true)(u:X.N.Nodup)(v:X.N[j]?=some y)(t:Loc X.env.scope y)(B:dG X WA cl is)
  (hi:EvZ X H0 O0 ps tg iter xs) (hg:∀C s H d,PG (aZ X WA cl C s H d) tg g) (gk:GOk g X.K is f dom) (WG:fs.length=xs.length) (hz:xs.length<=sizeLine) (Xi:∀x∈xs,dom x)
  (ht:(cs=[]/\∀o∈fs,o.isSome=true)\/∃c,cs=[c]/\∀C s H d (i:Nat) (x:U) (o:Option U),xs[i]?=some x->fs[i]?=some o->Tt (aZ X WA cl C s H d) H0 O0 (f (eJ is ps) x) c o.isSome)
  (he:∀C s H d (i:Nat) (x y:U),xs[i]?=some x->fs[i]?=some (some y)->Ev (aZ X WA cl C s H d) H0 O0 (f (eJ is ps) x) Xn y) (h:D.nx (ps.set j (some (if e then .own (fs.filterMap id) else .val (.lst (fs.filterMap id))))))
  (hs:∀x,Ms iter X.env x=pure x) (hsw:NX (.ListComp Xn [⟨tg,iter,cs,0⟩] WA pos) (some (.Name y py)) Xz.line X.env=pure true) (hf:X.fn y=true\/X.env.scope.names.lookup y=some .local):
  W1 X H0 O0 E (.Assign [.Name y py] (.ListComp Xn [⟨tg,iter,cs,0⟩] WA pos) Xz) D ps:=by
 obtain⟨V,T,G,w,F⟩:=t_ gk WG hz Xi ht he;refine PS.mono (tE p u v t B hi hg G w hs hsw hf) λP S H ⟨L,O,R⟩=>⟨O,R,λJ I k Y=>F _ _ _ _ _ (R.go k) Y λa M Q s n m r=>?_⟩
 cases e with
 |true=>exact L.nx _ _ _ _ ((R.go k).own s n m r) h
 |false=>
  have A:a ∉ O:=λz=>(R.go k).dom a z n;have l:=r.same (bI λb q=>KN a q);exact L.nx _ _ _ _ (((R.go k).go s).set (.lst (cZ m A) l.len l.at_)) h
theorem fmS(ys:List U):(ys.map some).filterMap id=ys:=by simp[Tj]
theorem bv(c:X.calm=true)(B:dG X WA cl is)(j:EvZ X H0 O0 ps tg iter xs)(d:∀C s H a,PG (aZ X WA cl C s H a) tg g)(e:GOk g X.K is f dom)
  (WG:ys.length=xs.length) (hz:xs.length<=sizeLine) (Xi:∀x∈xs,dom x) (he:∀C s H a (i:Nat) (x y:U),xs[i]?=some x->ys[i]?=some y->Ev (aZ X WA cl C s H a) H0 O0 (f (eJ is ps) x) Xn y)
  (hs:autoParam (∀x,Ms iter X.env x=pure x) q4):EvN X H0 O0 ps (.ListComp Xn [⟨tg,iter,[],0⟩] WA pos) ys:=
 fmS ys ▸ yg c B j d e (by simpa using WG) hz Xi (.inl ⟨rfl,by simp⟩) (λC s H a i x y h b=>he C s H a i x y h (by simpa using b)) hs
theorem ff(b:Bool)(e:X.calm=true)(l:X.N.Nodup)(d:X.N[j]?=some y)(k:Loc X.env.scope y)(B:dG X WA cl is)
  (hi:EvZ X H0 O0 ps tg iter xs) (hg:∀C s H a,PG (aZ X WA cl C s H a) tg g) (gk:GOk g X.K is f dom) (WG:ys.length=xs.length) (hz:xs.length<=sizeLine) (Xi:∀x∈xs,dom x)
  (he:∀C s H a (i:Nat) (x y:U),xs[i]?=some x->ys[i]?=some y->Ev (aZ X WA cl C s H a) H0 O0 (f (eJ is ps) x) Xn y) (h:D.nx (ps.set j (some (if b then .own ys else .val (.lst ys)))))
  (hs:autoParam (∀x,Ms iter X.env x=pure x) q4)
  (hsw:autoParam (NX (.ListComp Xn [⟨tg,iter,[],0⟩] WA pos) (some (.Name y py)) Xz.line X.env=pure true) w4) (hf:autoParam (X.fn y=true\/X.env.scope.names.lookup y=some .local) q0):
  W1 X H0 O0 E (.Assign [.Name y py] (.ListComp Xn [⟨tg,iter,[],0⟩] WA pos) Xz) D ps:=
 nF b e l d k B hi hg gk (by simpa using WG) hz Xi (.inl ⟨rfl,by simp⟩) (λC s H a i x y m c=>he C s H a i x y m (by simpa using c)) ((fmS ys).symm ▸ h) hs hsw hf
theorem E6(fs:List (Option U))(b:X.calm=true)(B:dG X WA cl is)(e:EvZ X H0 O0 ps tg iter xs)(c:∀C s H a,PG (aZ X WA cl C s H a) tg g)(d:GOk g X.K is f dom)
  (WG:fs.length=xs.length) (hz:xs.length<=sizeLine) (Xi:∀x∈xs,dom x) (ht:∀C s H a (i:Nat) (x:U) (o:Option U),xs[i]?=some x->fs[i]?=some o->Tt (aZ X WA cl C s H a) H0 O0 (f (eJ is ps) x) cond o.isSome)
  (he:∀C s H a (i:Nat) (x y:U),xs[i]?=some x->fs[i]?=some (some y)->Ev (aZ X WA cl C s H a) H0 O0 (f (eJ is ps) x) Xn y)
  (hs:autoParam (∀x,Ms iter X.env x=pure x) q4):EvN X H0 O0 ps (.ListComp Xn [⟨tg,iter,[cond],0⟩] WA pos) (fs.filterMap id):=
 yg b B e c d WG hz Xi (.inr ⟨_,rfl,ht⟩) he hs
theorem vD(fs:List (Option U))(b:Bool)(d:X.calm=true)(k:X.N.Nodup)(c:X.N[j]?=some y)(e:Loc X.env.scope y)(B:dG X WA cl is)
  (hi:EvZ X H0 O0 ps tg iter xs) (hg:∀C s H a,PG (aZ X WA cl C s H a) tg g) (gk:GOk g X.K is f dom) (WG:fs.length=xs.length) (hz:xs.length<=sizeLine) (Xi:∀x∈xs,dom x)
  (ht:∀C s H a (i:Nat) (x:U) (o:Option U),xs[i]?=some x->fs[i]?=some o->Tt (aZ X WA cl C s H a) H0 O0 (f (eJ is ps) x) cond o.isSome)
  (he:∀C s H a (i:Nat) (x y:U),xs[i]?=some x->fs[i]?=some (some y)->Ev (aZ X WA cl C s H a) H0 O0 (f (eJ is ps) x) Xn y) (h:D.nx (ps.set j (some (if b then .own (fs.filterMap id) else .val (.lst (fs.filterMap id))))))
  (hs:autoParam (∀x,Ms iter X.env x=pure x) q4)
  (hsw:autoParam (NX (.ListComp Xn [⟨tg,iter,[cond],0⟩] WA pos) (some (.Name y py)) Xz.line X.env=pure true) w4) (hf:autoParam (X.fn y=true\/X.env.scope.names.lookup y=some .local) q0):
  W1 X H0 O0 E (.Assign [.Name y py] (.ListComp Xn [⟨tg,iter,[cond],0⟩] WA pos) Xz) D ps:=
 nF b d k c e B hi hg gk WG hz Xi (.inr ⟨_,rfl,ht⟩) he h hs hsw hf
end
noncomputable def spU(K:KM)(c:List U->Out->Prop):Sp:=λd H Q E=>∃b O o,(∀a∈O,H a≠none)/\Rps K (hid H O) d b/\c b o/\pw K H O Q E o
section
variable {X:Cx}{H0:Hp}{O0:List Lm}{E:XK}{ps WZ:PSt}{D:PD}{s:Nz}{ss:List Nz}{a b c e:Expr}{pos p:Pos}{u x y:U}{xs ys us:List U}{k:Bool}
 {CX:CXT}{n:Nat}{f C:Lm}{fd:Ng}{pn:List Str}{WJ:List U->Out->Prop}{nm:Str}
theorem Gy(F:cF X.prog X.w X.K X.mg X.base CX n f fd pn (spU X.K WJ))(l:cB n X.A)(s:Gl X nm)(g:X.mg nm=some (.ref f))(r:NK X.K (.ref f)=true)(m:cJ X.K fd pn [])(c:eE CX X E0)
  (ha:EvA X H0 O0 ps (e::es) us) (h:WJ us (.val u)) (W2:autoParam ((nm==("__debug__":Str))=false) v0) (he:autoParam (K7 (e::es) X.env=(false,Nq e X.env)::K7 es X.env) w4) (WX:autoParam ((M4 pos (K7 es X.env)).any (·.1)=false) w4):
  Ev X H0 O0 ps (.Call (.Name nm p) (e::es) [] pos) u:=
 PE.mono (rQ F l s g r m .nil c ha W2 he WX) λt H Q ⟨O,R,q⟩=>⟨O,R,λi b a k=>by
  show spU X.K WJ (i++[]) b Q _;rw[Nj];exact⟨us,O,.val u,(R.go a).dom,k,h,λv d o j=>q v d (a.trans o) j⟩⟩
theorem Hg(F:cF X.prog X.w X.K X.mg X.base CX n f fd pn (spU X.K WJ))(m:cB n X.A)(v:Gl X nm)(j:X.mg nm=some (.ref f))(u:NK X.K (.ref f)=true)(o:cJ X.K fd pn [])(g:eE CX X E0)
  (ha:EvA X H0 O0 ps (e::es) us) (h:WJ us (.new xs)) (W2:autoParam ((nm==("__debug__":Str))=false) v0) (he:autoParam (K7 (e::es) X.env=(false,Nq e X.env)::K7 es X.env) w4) (WX:autoParam ((M4 pos (K7 es X.env)).any (·.1)=false) w4):
  EvN X H0 O0 ps (.Call (.Name nm p) (e::es) [] pos) xs:=
 PE.mono (rQ F m v j u o .nil g ha W2 he WX) λx H Q ⟨O,R,q⟩=>⟨O,R,λb d c l=>by
  show spU X.K WJ (b++[]) d Q _;rw[Nj];exact⟨us,O,.new xs,(R.go c).dom,l,h,λa b i r s t k=>q a b i (c.trans r) (c.free s) t k⟩⟩
end
section
variable {P:Lg}{w:LL}{K:KM}{mg:Str→Option K3}{base:Nh}{N pn:List Str}{WD nm:Str}{WA:S_}{f:Lm}{cd:K3}{A:L7}{outer:List Env}{s:K8}{H H0:Hp}{O0:List Lm}{E:XK}{D:PD}{ps:PSt}{u:U}
def gD(N:List Str)(us:List U):PSt:=us.map (λu=>some (.val u))++LD (N.length-us.length) none
theorem JH{m:Nz}(F:Fun K nm WD m f fd)(S:ar N pn (ai m))(n:∀b o,WJ b o->b.length=pn.length)
  (W3:∀g A outer s H E O b o,cB k (A.deeper (Q9 WD (ai m) s.heap.objs.size f g))->WJ b o->
   Ws (nu (CXF P w) P w K mg base N WD (ai m) f g A outer s H E) H O E (bq m) ⟨λ_=>o=.val .non,λt=>t=o,λ_=>False,λ_=>False⟩ (gD N b)):cF P w K mg base (CXF P w) (k+1) f fd pn (spU K WJ):=by
 refine F.okF S (λu H Q E h=>?_) λg A outer s H u Q E x h=>?_
 .obtain⟨b,O,o,_,r,p,_⟩:=h;rw[r.len];exact n b o p
 .obtain⟨b,O,o,d,r,p,q⟩:=h;refine⟨_,W3 g A outer s H E O b o x p,⟨λps L y C R e=>?_,λ_ _ _ _ _ e=>e.elim,λ_ _ _ _ _ e=>e.elim,λt e=>by subst e;exact q⟩,O,?_⟩
  .subst e;exact q .non y R.same .non
  .refine⟨.refl H,λa h=>h,λa h=>.inl h,d,?_,λi I e=>?_,λi j J D a l G _ _=>?_⟩
   .unfold start gD;rw[LB,LB,KI,KI,M_,M_,r.len]
   .unfold gD at e;by_cases c:i<b.length
    .rw[Lp (by simpa using c),K5,KJ c]at e
     cases e;obtain⟨v,B,z⟩:=r.get (KJ c);refine⟨v,?_,z⟩;unfold start;rw[Lp (by simpa [r.len] using c),K5,B];rfl
    .rw[Lq (by simpa using c),MP]at e
     split at e <;>cases e
   .exfalso
    unfold gD at l;by_cases c:i<b.length
    .rw[Lp (by simpa using c),K5,KJ c]at l
     cases l
    .rw[Lq (by simpa using c),MP]at l
     split at l <;>cases l
end
section
variable {X:Cx}{H0:Hp}{O0:List Lm}{ps:PSt}{a b c e:Expr}{rest:List Expr}{pos p p2:Pos}{u x y:U}{xs ys us:List U}{i j:Int}{k m:Bool}{lo hi:Option Expr}{l h:Option Int}
def EvO(X:Cx)(H0:Hp)(O0:List Lm)(ps:PSt)(e:Option Expr)(n:Option Int):Prop:=PO X e λb H Q=>∃O,Rs X.K H0 O0 ps b H O/\∀a,aT H a->Q n a
theorem dh:EvO X H0 O0 ps none none:=λa s b H Q I ⟨O,R,q⟩=>D5 a s b H Q I (q H (.refl H))
theorem dr(d:Ev X H0 O0 ps e (.int i)):EvO X H0 O0 ps (some e) (some i):=λb s c H Q I ⟨O,R,q⟩=>Eg d b s c H Q I ⟨O,R,λv a s r=>by cases r;exact⟨i,rfl,q a s⟩⟩
def iF(xs:List U)(lo hi:Option Int):List U:=(xs.drop (HT.sIx xs.length 0 lo)).take (HT.sIx xs.length xs.length hi-HT.sIx xs.length 0 lo)
theorem Rps.drop{K:KM}(r:Rps K H vs xs)(n):Rps K H (vs.drop n) (xs.drop n):=⟨by simp[r.len],λi v x b a=>r.at_ _ v x (by rwa [Oh]at b) (by rwa [Oh]at a)⟩
theorem Rps.take{K:KM}(r:Rps K H vs xs)(n):Rps K H (vs.take n) (xs.take n):=⟨by simp[r.len],λi v x a b=>by
 by_cases c:i<n
 .rw[M9 c]at a b;exact r.at_ i v x a b
 .rw[List.getElem?_take_eq_none (by lia)]at a
  cases a⟩
theorem Rps.cut{K:KM}(r:Rps K H vs xs):Rps K H (zp vs l h) (iF xs l h):=by
 unfold zp iF;rw[r.len];exact (r.drop _).take _
theorem df(t:Ev X H0 O0 ps e x)(f:EvO X H0 O0 ps lo l)(d:EvO X H0 O0 ps hi h)(r:x=.lst xs\/x=.scr xs):EvN X H0 O0 ps (.Subscript e (.Slice lo hi none p2) pos) (iF xs l h):=
 PE.mono (tM Ez t f d) λy H Q ⟨O,R,q⟩=>⟨O,R,λv m j n=>⟨O,R.go j,λw o=>⟨O,R.go (j.trans o),λz u=>by
  have k:∃a i,v=.ref a/\SqL X.K (hid m O) a i/\Rps X.K (hid m O) i xs:=by
   rcases r with rfl |rfl
   .cases n with
    |lst c f d=>exact⟨_,_,rfl,SqL.of c,f,d⟩
   .cases n with
    |scr c f d=>exact⟨_,_,rfl,c,f,d⟩
  obtain⟨a,i,rfl,c,s⟩:=k;have b:=o.trans u;refine⟨a,i,rfl,b.seq (aE.seq c),λp g=>q p _ _ ((j.trans b).trans (aO g _)) ((j.trans b).free g) aH ?_⟩;exact (s.cut.same (aN b)).same (bu (aO g _) g)⟩⟩⟩
theorem mM(n:Ev X H0 O0 ps a (.lst xs))(l:Ev X H0 O0 ps b (.lst ys))(m:xs.length+ys.length<=sizeLine):EvN X H0 O0 ps (.BinOp a .Add b pos) (xs++ys):=
 PE.mono (uJ GM n l) λr H Q ⟨O,R,q⟩=>two R (λ_ _ _ z=>z) (λ_ _ _ z=>z) λv w o s _ k j=>by
  cases k with
  |lst h e i=>
   cases j with
   |lst g f d=>
    refine⟨_,_,_,_,rfl,rfl,aE _ _ h,aE _ _ g,by rw[e,f];exact m,λp c=>q p _ _ (s.trans (aO c _)) (s.free c) aH ?_⟩;exact (Rps.snoc ⟨e,i⟩ ⟨f,d⟩).same (bu (aO c _) c)
def fl:U->V
 | .bl b=>.bl b | .int i=>.int i | .str x=>.str x |_=>.non
def Cl:U->Bool
 | .bl _=>true | .int _=>true | .str _=>true | .non=>true |_=>false
theorem FS{K:KM}(h:Rp K H v u)(f:Cl u=true):v=fl u/\iV v=true:=by
 cases h <;>first |exact⟨rfl,rfl⟩ |simp[Cl]at f
theorem AS{K:KM}:∀{vs}{xs},Rps K H vs xs->xs.all Cl=true->vs=xs.map fl/\vs.all iV=true
 |vs,[],r,_=>by rw[r.nil_inv];exact⟨rfl,rfl⟩
 |vs,x::xs,r,f=>by
  obtain⟨v,h,rfl,g,a⟩:=r.cons_inv;simp only[Qw,MN]at f;obtain⟨b,d⟩:=FS g f.1;obtain⟨c,e⟩:=AS a f.2;refine⟨by rw[Lb,<-b,<-c],?_⟩;simp only[Qw,MN];exact⟨d,e⟩
theorem CW(d:Cl x=true)(l:y.items=some ys)(b:ys.all Cl=true):OpS X (LX .In) x y (.bl (inV (fl x) (ys.map fl))):=by
 intro f s n H v w p q Q I j i h;obtain⟨c,u,m⟩:=h;obtain⟨a,g,rfl,z,r⟩:=qM u l;obtain⟨k,e⟩:=FS c d;obtain⟨t,o⟩:=AS r b;exact zR f s n H v _ p q Q I j i ⟨a,g,rfl,z,e,o,by rw[k,t];exact m⟩
theorem FM{bs:List Bool}(C:X.calm=true):dJ X (.builtin "all") [.lst (bs.map U.bl)] (.bl (bs.all id)):=by
 intro V s σ H W us Q I r f;obtain⟨O,d,B,q⟩:=f;obtain⟨v,rfl,R⟩:=bW B;obtain⟨S,rfl,D⟩:=cX r;cases R with
 | @lst a k _ f P y=>
  cases D;obtain⟨its,g,c,_⟩:=I.list (SqL.of (aE _ _ f));have G:its.length=bs.length:=by rw[<-g.length,P,KI]
  have L:∀(i:Nat) z,its.toArray[i]?=some z->z=.bool (bs.getD i false):=λi z e=>by
   have hi:i<its.length:=by have:=aK (show its[i]?=some z by simpa using e);exact this
   have m:i<bs.length:=by lia
   have p:i<k.length:=by rw[g.length];exact hi
   obtain⟨u,l,w⟩:=g.get (KJ p);have N:=y i k[i] (.bl bs[i]) (KJ p) (by rw[K5,KJ m];rfl);have E:its[i]?=some z:=by simpa using e
   rw[E]at l;cases l;generalize k[i]=wi at *;cases N;rw[Lr,KJ m];exact w
  refine call_all_walk (NA c.isList ?_);have J:a≠s.heap.objs.size:=by obtain⟨o,e,_⟩:=c.isList;exact LA (Lc e)
  refine⟨s.heap.objs.size,_,_,_,_,_,λi=>bs.getD i false,rfl,Walks.list (A:=X.A.in1) (I.ok.hd C) s.heap.objs.size a J its.toArray,⟨⟨_,Le _ rfl,rfl,rfl⟩,c.isList.push _⟩,λi z Y T E' K F=>?_,λh' Z M=>?_⟩
  .rw[L i z K];exact Mr F
  .have e:(LP its.toArray.size).all (λi=>bs.getD i false)=bs.all id:=by
    rw[Lj,G,OA,o4,OJ];constructor
    .intro h x t;obtain⟨i,hi,rfl⟩:=QD t;have:=h i hi
     rwa [Lr,KJ hi]at this
    .intro h j n;rw[Lr,KJ n];exact h _ (Po n)
   rw[e];refine⟨.bl _,H,I.kept λb o e=>M b o ?_ (KU _ e),rfl,q _ H (.refl H) (.bl _)⟩;intro z;have:b=s.heap.objs.size:=by simpa using z
   exact absurd (Lc e) (by rw[this];exact LS _)
end
theorem Ws.nox(h:Ws X.nox H0 O0 E ss D ps):Ws X H0 O0 E ss D ps:=PSs.nox h
theorem cF.calm{K:KM}(F:cF P w K mg base (CXF P w) k f fd ps sp)(h:∀c H Q E,sp c H Q E->sp c H Q E0):cF P w K mg base CX0 k f fd ps sp:=by
 refine⟨F.len,λA a s H b n c Q E g d i m l=>Px (F.run A a s H b n c Q E0 g d i m (h _ _ _ _ l)) λr o q=>?_⟩;cases r with
 |ok fl=>
  cases fl with
  |ret u=>exact q
  |next=>exact q
  |brk=>exact q
  |cont=>exact q
 |error e=>
  obtain⟨_,_,_,_,_,_,_,_,_,_,_,_,_,_,_,j⟩:=q;exact j.elim
def jh:List U->Out->Prop:=λb o=>∃a:List Int,b=[.scr (a.map U.int)]/\a.length<=63/\(∀m∈a,Sz 1048576 m)/\o=.val (.bl true)
theorem Ao{K:KM}(vs)(H)(Q)(E)(h:spU K jh vs H Q E):spU K jh vs H Q E0:=by
 obtain⟨f,O,o,d,r,⟨b,e,a,c,rfl⟩,q⟩:=h;exact⟨f,O,_,d,r,⟨b,e,a,c,rfl⟩,q⟩
theorem yz{K:KM}{ns:List Int}(j:ns.length<=63)(f:∀m∈ns,Sz 1048576 m)(h:SqL K H a (ns.map V.int)):spU K jh [.ref a] H (λv _=>v=.bl true) E:=by
 refine⟨[.scr (ns.map U.int)],[],.val (.bl true),λa g=>(nomatch g),.cons ?_ .nil,⟨ns,rfl,j,f,rfl⟩,λv k s r=>by cases r;rfl⟩;have e:hid H []=H:=by funext b;unfold hid;rw[if_neg (by simp)]
 rw[e];refine .scr h (by simp) λi v x c d=>?_;rw[K5]at c d;cases q:ns[i]? with
 |none=>rw[q]at c;cases c
 |some n=>rw[q]at c d;cases c;cases d;exact .int n
theorem fU(a:cB k A):A.units+10<NZ:=by have:=a.un;lia
theorem Ba{ns:List Int}(b:0<=k)(h:k<(ns.length:Int)):atI (ns.map U.int) k=some (.int (ns.getD k.toNat 0)):=by
 have a:k.toNat<ns.length:=by lia
 have q:atI (ns.map U.int) ((k.toNat:Nat):Int)=some (.int (ns.getD k.toNat 0)):=wJ (by rw[K5,Lr,KJ a] <;>rfl)
 rwa [show ((k.toNat:Nat):Int)=k by lia]at q
theorem DY{ns:List Int}(h:∀m∈ns,Sz 1048576 m)(i):Sz 1048576 (ns.getD i 0):=by
 by_cases a:i<ns.length
 .rw[Lr,KJ a,Pn];exact h _ (Po a)
 .rw[Lr,LJ (by lia),RD];exact Sz.mono (m:=8) (by decide) (by decide)
abbrev pt(x y:Int):U:=.tup [.int x,.int y]
theorem dTb[Decidable p](h:decide p=true):p:=of_decide_eq_true h
theorem dFb[Decidable p](h:decide p=false):¬ p:=of_decide_eq_false h
theorem nTb[Decidable p](h:(!decide p)=true):¬ p:=by simpa using h
theorem nFb[Decidable p](h:(!decide p)=false):p:=by simpa using h
theorem vB(h:a=b):Out.val (.bl a)=Out.val (.bl b):=by rw[h]
theorem vIO(h:a=b):Out.val (.int a)=Out.val (.int b):=by rw[h]
mutual
theorem Do:∀n u,okU n u=true->eqW u u=true
 |_,.non,_=>rfl
 |_,.bl b,_=>beq_self_eq_true b
 |_,.int b,_=>beq_self_eq_true b
 |_,.str b,_=>beq_self_eq_true b
 |n+1,.tup a,h=>eqWs_refl n a h
 |n+1,.lst a,h=>eqWs_refl n a h
 |n+1,.scr a,h=>eqWs_refl n a h
theorem eqWs_refl:∀n a,okUs n a=true->eqWs a a=true
 |_,[],_=>rfl
 |n,x::a,h=>by
  simp only[okUs,MN]at h;exact Qt.mpr ⟨Do n x h.1,eqWs_refl n a h.2⟩
end
section
variable {X:Cx}{H0:Hp}{O0:List Lm}{E:XK}{ps:PSt}{D:PD}{a b c e:Expr}{rest:List Expr}{pos:Pos}{k:Bool}
theorem bY(b:Tt X H0 O0 ps c k)(a:k=true)(h:Ws X H0 O0 E tb D ps):W1 X H0 O0 E (.If c tb fb pos) D ps:=nT b (λ_=>h) (λe=>by rw[a]at e;cases e)
theorem aL(b:Tt X H0 O0 ps c k)(a:k=false)(h:Ws X H0 O0 E fb D ps):W1 X H0 O0 E (.If c tb fb pos) D ps:=nT b (λe=>by rw[a]at e;cases e) (λ_=>h)
theorem kH(d:Tt X H0 O0 ps a k)(c:k=false):Tw X H0 O0 ps (.BoolOp .And (a::b::rest) pos) false:=by
 subst c;exact wI (m:=true) d λh=>by cases h
theorem Jb(d:Ev X H0 O0 ps a (.bl k))(c:k=true):Ev X H0 O0 ps (.BoolOp .Or (a::b::rest) pos) (.bl true):=by
 subst c;exact Gn (m:=true) d λh=>by cases h
end
section
variable {X:Cx}{H0:Hp}{O0:List Lm}{E:XK}{ps:PSt}{D:PD}{tg iter c:Expr}{pos:Pos}{xs:List U}{α:Type}
theorem TgS.sub(h:TgS X H0 O0 tg p u WZ)(hs:SubP p p'):TgS X H0 O0 tg p' u WZ:=PG.mono h λv a H Q ⟨O,R,r,q⟩=>⟨O,R.sub hs,r,q⟩
theorem Tt.sub(h:Tt X H0 O0 p e k)(hs:SubP p p'):Tt X H0 O0 p' e k:=PT.mono h λa H Q ⟨O,R,q⟩=>⟨O,R.sub hs,q⟩
theorem fQ(c:α->PSt)(Q:Nat->α->Prop)(h:X.calm=true)(f:RY (LM X.prog X.w) X.A X.env X.xe)(k:EvI X H0 O0 ps tg iter xs)(j:∃a,Q 0 a/\SubP (c a) ps)
  (hs:∀H0 i x (a:α),xs[i]?=some x->Q i a->∃d,TgS X H0 O0 tg (c a) x d/\Ws X H0 O0 E WW {D with nx:=λp=>∃b,Q (i+1) b/\SubP (c b) p,ct:=λp=>∃b,Q (i+1) b/\SubP (c b) p,bk:=D.nx } d)
  (hd:∀a ps,Q xs.length a->SubP (c a) ps->D.nx ps) (hf:autoParam (∀x,Ms iter X.env x=pure x) q4):W1 X H0 O0 E (.For tg iter WW [] pos) D ps:=
 Io h f k (λi ps=>∃a,Q i a/\SubP (c a) ps) j (λH0 i x ps g l=>by
  obtain⟨a,q,e⟩:=l;obtain⟨d,t,w⟩:=hs H0 i x a g q;exact⟨d,t.sub e,w⟩) (λps ⟨a,q,e⟩=>hd a ps q e) hf
theorem im(h:α->PSt)(Q:Nat->α->Prop)(n:RY (LM X.prog X.w) X.A X.env X.xe)(o:∃m a,Q m a/\SubP (h a) ps)
  (hs:∀m a,Q m a->∃b,Tt X H0 O0 (h a) c b/\(b=true->Ws X H0 O0 E WW {D with nx:=λp=>∃d f,d<m/\Q d f/\SubP (h f) p,ct:=λp=>∃d f,d<m/\Q d f/\SubP (h f) p,bk:=D.nx } (h a))/\(b=false->∀ps,SubP (h a) ps->D.nx ps)):W1 X H0 O0 E (.While c WW [] pos) D ps:=by
 obtain⟨m,a,q,i⟩:=o;refine Ep n (λm ps=>∃a,Q m a/\SubP (h a) ps) m ⟨a,q,i⟩ λm ps s=>?_;obtain⟨a,q,i⟩:=s;obtain⟨b,t,u,r⟩:=hs m a q;refine⟨b,t.sub i,λe=>?_,λe=>r e ps i⟩;refine d9 (PSs.mono (u e) λv j H ⟨L,O,R⟩=>⟨⟨λp j H O R ⟨d,f,l,k,g⟩=>L.nx p j H O R ⟨d,l,f,k,g⟩,L.bk,λp j H O R ⟨d,f,l,k,g⟩=>L.ct p j H O R ⟨d,l,f,k,g⟩,L.rt⟩,O,R⟩) i
end
abbrev P2:=Int×Int
abbrev pu(p:P2):U:=.tup [.int p.1,.int p.2]
abbrev lp(l:List P2):U:=.lst (l.map pu)
theorem Be(p q):eqW (pu p) (pu q)=decide (p=q):=by
 obtain⟨a,b⟩:=p;obtain⟨c,d⟩:=q;show (a==c && (b==d && true))=_;rw[OA];simp
theorem uK{l:List P2}{i:Nat}(h:(l.map pu)[i]?=some x):∃p,l[i]?=some p/\p∈l/\x=pu p:=by
 rw[K5]at h;cases q:l[i]? with
 |none=>rw[q]at h;cases h
 |some p=>rw[q]at h;cases h;exact⟨p,rfl,Lo q,rfl⟩
theorem bG{α:Type}{l:List α}{f:α->U}{g:α->U}{i:Nat}(b:(l.map f)[i]?=some x)(c:(l.map g)[i]?=some y):∃a,l[i]?=some a/\a∈l/\x=f a/\y=g a:=by
 rw[K5]at b c;cases q:l[i]? with
 |none=>rw[q]at b;cases b
 |some p=>rw[q]at b c;cases b;cases c;exact⟨p,rfl,Lo q,rfl,rfl⟩
theorem W1.mono(h:W1 X H0 O0 E s {D with nx:=J } ps)(m:∀ps,J ps->D.nx ps):W1 X H0 O0 E s D ps:=
 PS.mono h λb a H ⟨L,O,R⟩=>⟨⟨λp a H O R q=>L.nx p a H O R (m p q),L.bk,L.ct,L.rt⟩,O,R⟩
theorem my(J)(b:W1 X H0 O0 E s {D with nx:=J } ps)(a:∀ps,J ps->Ws X H0 O0 E ss D ps):Ws X H0 O0 E (s::ss) D ps:=
 ae (W1.mono b a)
end L2
namespace L2
open PySem PySem.Spec PySem.W PyProof.Rows
section
variable {X:Cx}
def p9.drop(D:p9)(i:Nat):p9:=⟨λa H=>D.nx (a.set i none) H,D.rt,λa H=>D.bk (a.set i none) H,λa H=>D.ct (a.set i none) H⟩
variable {H0:Hp}{O0:List Lm}{E:XK}{ps:PSt}{D:PD}{a e:Expr}{es:List Expr}{us:List U}{k:Bool}{n:Nat}{fd:Ng}{pn:List Str}{WJ:List U→Out→Prop}
def PD.drop(D:PD)(i:Nat):PD:=⟨λp=>D.nx (p.set i none),D.rt,λp=>D.bk (p.set i none),λp=>D.ct (p.set i none)⟩
end
end L2
namespace L2
open PySem
theorem aX:K7 (.Constant c j pos::es) env=(false,Nq (.Constant c j pos) env)::K7 es env:=by rw[K7];intro e p h;cases h
theorem n9:K7 (.Tuple l j pos::es) env=(false,Nq (.Tuple l j pos) env)::K7 es env:=by rw[K7];intro e p h;cases h
theorem vQ:K7 (.List l pos::es) env=(false,Nq (.List l pos) env)::K7 es env:=by rw[K7];intro e p h;cases h
theorem mY:K7 (.UnaryOp o a pos::es) env=(false,Nq (.UnaryOp o a pos) env)::K7 es env:=by rw[K7];intro e p h;cases h
theorem be:K7 (.BinOp a o b pos::es) env=(false,Nq (.BinOp a o b pos) env)::K7 es env:=by rw[K7];intro e p h;cases h
theorem af:K7 (.Name x pos::es) env=(false,Nq (.Name x pos) env)::K7 es env:=by rw[K7];intro e p h;cases h
theorem aD:K7 (.Subscript a b pos::es) env=(false,Nq (.Subscript a b pos) env)::K7 es env:=by rw[K7];intro e p h;cases h
theorem a9:K7 (.Call f a k pos::es) env=(false,Nq (.Call f a k pos) env)::K7 es env:=by rw[K7];intro e p h;cases h
theorem wo:K7 (.Compare a o c pos::es) env=(false,Nq (.Compare a o c pos) env)::K7 es env:=by rw[K7];intro e p h;cases h
theorem bF:K7 (.ListComp e g sc pos::es) env=(false,Nq (.ListComp e g sc pos) env)::K7 es env:=by rw[K7];intro e p h;cases h
structure EvS(X:Cx)(H0:Hp)(O0:List Lm)(ps:PSt)(es:List Expr)(us:List U):Prop where
 a:EvA X H0 O0 ps es us
section
variable {X:Cx}{H0:Hp}{O0:List Lm}{ps:PSt}{e:Expr}{es:List Expr}{u:U}{us:List U}{pos:Pos}
theorem a_:EvS X H0 O0 ps [] []:=⟨aj⟩
theorem av(c:Ev X H0 O0 ps e u)(b:EvS X H0 O0 ps es us)(hs:K7 (e::es) X.env=(false,Nq e X.env)::K7 es X.env):EvS X H0 O0 ps (e::es) (u::us):=⟨ac c b.a hs⟩
theorem bD{x1}(h:EvS X H0 O0 ps es us)(b:autoParam (us.length<=sizeLine) k4):Ev X H0 O0 ps (.Tuple es x1 pos) (.tup us):=Jd h.a b
theorem cE(h:EvS X H0 O0 ps es us)(b:autoParam (us.length<=sizeLine) k4):EvN X H0 O0 ps (.List es pos) us:=II h.a b
end
end L2
namespace ST
open PySem PySem.SetTable
def Ris(xs:Array Nat):Prop:=∀(i j x y:Nat),i<j->xs[i]?=some x->xs[j]?=some y->x<y
theorem Ris.inj(h:Ris xs){i j x:Nat}(b:xs[i]?=some x)(a:xs[j]?=some x):i=j:=by
 rcases N6 i j with z |z |z
 .exact absurd (h i j x x z b a) (LS _)
 .exact z
 .exact absurd (h j i x x z a b) (LS _)
theorem fv{xs:Array Nat}(h:i<xs.size):xs[i]?=some xs[i]:=by simp[h]
theorem x9{xs:Array Nat}(h:xs[i]?=some x):i<xs.size:=(Od.mp h).1
theorem qS(R:Ris xs)(j):∀WL lo a,lo<=a->a<=xs.size->a-lo<=WL->(∀i x,i<lo->xs[i]?=some x->x<j)->(∀i x,a<=i->xs[i]?=some x->j<=x)->
  (∀i x,i<below.go xs j WL lo a->xs[i]?=some x->x<j)/\(∀i x,below.go xs j WL lo a<=i->xs[i]?=some x->j<=x)/\below.go xs j WL lo a<=xs.size
 |0,lo,a,n,g,m,h,f=>by
  have e:lo=a:=by lia
  subst e;rw[below.go];exact⟨h,f,g⟩
 |WL+1,lo,a,n,g,m,h,f=>by
  rw[below.go];by_cases l:lo<a
  .rw[if_pos l];have d:(lo+a)/2<xs.size:=by lia
   have e:xs.getD ((lo+a)/2) j=xs[(lo+a)/2]:=by simp[N7,d]
   simp only[e];split
   .rename_i c
    refine qS R j WL _ a (by lia) g (by lia) (λi x k b=>?_) f;rcases LC (show i<=(lo+a)/2 by lia) with z |z
    .exact MG (R i _ x _ z b (fv d)) c
    .subst z;rw[fv d]at b;cases b;exact c
   .rename_i c
    refine qS R j WL lo _ (by lia) (by lia) (by lia) h (λi x k b=>?_);rcases LC k with z |z
    .exact Mh (Pm c) (La (R _ i _ x z (fv d) b))
    .subst z;rw[fv d]at b;cases b;exact Pm c
  .rw[if_neg l];have e:lo=a:=by lia
   subst e;exact⟨h,f,g⟩
theorem gj(R:Ris xs)(j):(∀i x,i<below xs j->xs[i]?=some x->x<j)/\(∀i x,below xs j<=i->xs[i]?=some x->j<=x)/\below xs j<=xs.size:=
 qS R j xs.size 0 xs.size (Mm _) (K1 _) (by lia) (λi x h=>absurd h (R9 _)) (λi x h e=>absurd (x9 e) (by lia))
theorem BM(R:Ris xs)(h:xs[i]?=some j):below xs j=i:=by
 obtain⟨c,b,d⟩:=gj R j;rcases N6 (below xs j) i with z |z |z
 .have a:=MG z (x9 h);have:=b _ _ (K1 _) (fv a);have:=R _ _ _ _ z (fv a) h;lia
 .exact z
 .have:=c i j z h;lia
theorem pR{t:SetTable}(R:Ris t.place)(h:t.place[i]?=some j):t.slot j=.live i:=by
 unfold SetTable.slot;simp only[BM R h,h,beq_self_eq_true,if_true]
theorem zo{t:SetTable}(a:t.dummies=#[])(h:∀i:Nat,t.place[i]?≠some j):t.slot j=.empty:=by
 unfold SetTable.slot;have e:(t.place[below t.place j]?==some j)=false:=by simpa using h _
 simp only[e,a];simp[SetTable.has]
theorem vG{t:SetTable}(R:Ris t.place)(b:t.dummies=#[])(j):(t.slot j=.empty/\∀i:Nat,t.place[i]?≠some j)\/∃i,t.slot j=.live i/\t.place[i]?=some j:=by
 by_cases h:∃i:Nat,t.place[i]?=some j
 .obtain⟨i,a⟩:=h;exact .inr ⟨i,pR R a,a⟩
 .exact .inl ⟨zo b λi e=>h ⟨i,e⟩,λi e=>h ⟨i,e⟩⟩
theorem yP(R:Ris xs){mask:Nat}(l:xs.size<=mask):∃s,s<=mask/\∀i:Nat,xs[i]?≠some s:=by
 apply Md;intro j
 have all:∀s,s<=mask->∃i:Nat,xs[i]?=some s:=λs f=>by
  apply Md;intro h;exact j ⟨s,f,λi e=>h ⟨i,e⟩⟩
 have c:∀s,s<=mask->∃i:Nat,xs[i]?=some s/\s<=i:=by
  intro s
  induction s with
  |zero=>intro h;obtain⟨i,a⟩:=all 0 h;exact⟨i,a,Mm _⟩
  |succ s g=>
   intro h;obtain⟨i,a,d⟩:=g (by lia);obtain⟨k,b⟩:=all (s+1) h;refine⟨k,b,?_⟩;rcases N6 i k with z |z |z
   .lia
   .subst z;rw[a]at b;cases b
   .have:=R k i _ _ z b a;lia
 obtain⟨i,a,d⟩:=c mask (K1 _);have:=x9 a;lia
noncomputable def adv(mask:Nat)(p:Probe):Probe:=
 if p.more >0 then {p with j:=p.j+1,more:=p.more-1 } else
 {p with j:=(leap mask p.i p.perturb).1,more:=runEnd mask (leap mask p.i p.perturb).1-(leap mask p.i p.perturb).1,i:=(leap mask p.i p.perturb).1,perturb:=(leap mask p.i p.perturb).2 }
theorem oB(t:SetTable)(p:Probe):t.advance p=adv t.mask p:=by
 unfold SetTable.advance adv;split
 .rfl
 .rfl
def start(mask:Nat)(h:Int):Probe:={j:=bits h%(mask+1),more:=runEnd mask (bits h%(mask+1))-bits h%(mask+1),i:=bits h%(mask+1),perturb:=bits h,dummy:=none }
noncomputable def pth(mask:Nat)(h:Int):Nat->Probe
 |0=>start mask h
 |n+1=>adv mask (pth mask h n)
def bg(mask:Nat)(h:Int):Nat->Nat×Nat
 |0=>(bits h%(mask+1),bits h)
 |r+1=>leap mask (bg mask h r).1 (bg mask h r).2
theorem lQ{mask:Nat}:∀m (p:Probe) (f:Nat->Probe),f 0=p->(∀n,f (n+1)=adv mask (f n))->m<=p.more->f m={p with j:=p.j+m,more:=p.more-m }
 |0,p,f,a,_,_=>by rw[a];rfl
 |m+1,p,f,a,b,c=>by
  rw[b m,lQ m p f a b (by lia)];unfold adv;rw[if_pos (by show p.more-m >0;lia)];simp only[Probe.mk.injEq];exact⟨by lia,by lia,trivial,trivial,trivial⟩
theorem mW(mask)(h):∀n,(pth mask h n).dummy=none
 |0=>rfl
 |n+1=>by
  rw[pth];unfold adv;split
  .exact mW mask h n
  .exact mW mask h n
theorem zg(mask i):runEnd mask i-i<=9:=by unfold runEnd;split <;>lia
theorem xi(mask)(h):∀r,∃n,n<=10*r/\pth mask h n={j:=(bg mask h r).1,more:=runEnd mask (bg mask h r).1-(bg mask h r).1,i:=(bg mask h r).1,perturb:=(bg mask h r).2,dummy:=none }
 |0=>⟨0,K1 _,rfl⟩
 |r+1=>by
  obtain⟨n,c,e⟩:=xi mask h r;have b:=zg mask (bg mask h r).1;have step:=lQ (runEnd mask (bg mask h r).1-(bg mask h r).1) (pth mask h n) (λm=>pth mask h (n+m)) rfl (λm=>rfl) (by rw[e];exact K1 _);refine⟨n+(runEnd mask (bg mask h r).1-(bg mask h r).1)+1,by lia,?_⟩;rw[pth];have a:=step;rw[a,e];unfold adv;rw[if_neg (by simp)];rfl
theorem EB(h):bits h<2 ^ 64:=by
 unfold bits;lia
theorem pM(mask)(h):∀r,(bg mask h r).2=bits h/32 ^ r
 |0=>by simp[bg]
 |r+1=>by
  rw[bg];show (bg mask h r).2/32=_;rw[pM mask h r,RQ,N2]
theorem zr(mask)(h)(r)(a:12<=r):(bg mask h r).2/32=0:=by
 rw[pM];have b:=EB h;rw[RQ];apply Nat.div_eq_of_lt;have:32 ^ 12*32<=32 ^ r*32:=Ov _ (Qs (by decide) a);exact Ls (Ls b (by decide)) this
def cK:Nat->Nat
 |0=>1
 |k+1=>cK k*(4*cK k+2)
theorem Cj:∀k,∃m,cK k=2 ^ k*(2*m+1)
 |0=>⟨0,by simp[cK]⟩
 |k+1=>by
  obtain⟨m,e⟩:=Cj k;refine⟨2*(cK k) *m+m+cK k,?_⟩;rw[cK,N2];have:cK k*(4*cK k+2)=2 ^ k*(2*m+1) *(4*cK k+2):=by rw[<-e]
  rw[this];generalize cK k=c;generalize 2 ^ k=p;grind
def iI:Nat->Nat->Nat
 |0,x=>x
 |n+1,x=>5*iI n x+1
theorem mS(m x):∀n,iI (m+n) x=iI n (iI m x)
 |0=>rfl
 |n+1=>by rw[<-Nat.add_assoc,iI,mS m x n,iI]
theorem nO:∀k x,iI (2 ^ k) x=(1+4*cK k) *x+cK k
 |0,x=>by simp[iI,cK]
 |k+1,x=>by
  rw[N2,Nat.mul_two,mS,nO k,nO k,cK];generalize cK k=c;grind
theorem vV(k x):iI (2 ^ k) x%2 ^ (k+1)=(x+2 ^ k)%2 ^ (k+1):=by
 rw[nO];obtain⟨m,e⟩:=Cj k;rw[e]
 have:(1+4*(2 ^ k*(2*m+1))) *x+2 ^ k*(2*m+1)=(x+2 ^ k)+2 ^ (k+1) *(2*(2*m+1) *x+m):=by
  rw[N2];generalize 2 ^ k=p;grind
 rw[this,Nat.add_mul_mod_self_left]
theorem IY{a p:Nat}(h:a<p+p):a%p=if a<p then a else a-p:=by
 split
 .exact Mc (by assumption)
 .rw[Tn (by omega),Mc (by omega)]
theorem D0{a b p:Nat}(f:a<p+p)(d:b<p+p)(e:a%p=b%p)(n:a≠b):(a+p)%(p+p)=b:=by
 rw[IY f,IY d]at e;by_cases c:a<p
 .rw[if_pos c]at e;rw[Mc (by omega)]
  split at e <;>omega
 .rw[if_neg c]at e;rw[Tn (by omega),Mc (by omega)]
  split at e <;>omega
theorem i0(x):∀k y,∃n,n<2 ^ k/\iI n x%2 ^ k=y%2 ^ k
 |0,y=>⟨0,by simp,by simp[Nat.mod_one]⟩
 |k+1,y=>by
  obtain⟨n,i,e⟩:=i0 x k y;have c:2 ^ (k+1)=2 ^ k+2 ^ k:=by rw[N2];omega
  have g:0<2 ^ k:=Nat.pow_pos (by decide);by_cases h:iI n x%2 ^ (k+1)=y%2 ^ (k+1)
  .exact⟨n,by omega,h⟩
  .refine⟨n+2 ^ k,by omega,?_⟩;rw[mS,vV];generalize iI n x=z at *;have d:z%2 ^ (k+1)%2 ^ k=z%2 ^ k:=To _ ⟨2,by rw[N2]⟩;have f:y%2 ^ (k+1)%2 ^ k=y%2 ^ k:=To _ ⟨2,by rw[N2]⟩;have l1:=NF z (show 0<2 ^ (k+1) by omega);have l2:=NF y (show 0<2 ^ (k+1) by omega);rw[<-R_];rw[<-d,<-f]at e;generalize z%2 ^ (k+1)=a at *;generalize y%2 ^ (k+1)=b at *;rw[c]at *;generalize 2 ^ k=p at *;exact D0 l1 l2 e h
theorem om{mask k:Nat}(a:mask+1=2 ^ k)(h):∀q,(bg mask h (12+q)).1=iI q (bg mask h 12).1%2 ^ k
 |0=>by
  rw[iI]
  have:(bg mask h 12).1<2 ^ k:=by
   rw[<-a];exact NF _ (by lia)
  exact (Mc this).symm
 |q+1=>by
  show (leap mask (bg mask h (12+q)).1 (bg mask h (12+q)).2).1=_;unfold leap;simp only[zr mask h (12+q) (by lia)];rw[om a h q,a,iI,VR,Ul 5 _];generalize iI q (bg mask h 12).1=z;generalize 2 ^ k=m;rw[Wg,Nat.mod_mul_mod,<-Wg]
theorem cover{mask k:Nat}(a:mask+1=2 ^ k)(h)(s)(hs:s<=mask):∃n,n<10*turns mask/\(pth mask h n).j=s:=by
 obtain⟨q,c,e⟩:=i0 (bg mask h 12).1 k s;obtain⟨n,d,b⟩:=xi mask h (12+q);refine⟨n,?_,?_⟩
 .unfold turns;lia
 .rw[b];rw[om a h q,e];exact Mc (by lia)
def Liv(t:SetTable)(j:Nat):Prop:=∃i:Nat,t.place[i]?=some j
structure TOk(t:SetTable)(hs:List Int):Prop where
 R:Ris t.place
 d:t.dummies=#[]
 k:∃k,3<=k/\t.mask+1=2 ^ k
 n:t.place.size=hs.length
 f:t.place.size<=t.mask
 le:∀(i x:Nat),t.place[i]?=some x->x<=t.mask
 reach:∀(i j:Nat) (h:Int),t.place[i]?=some j->hs[i]?=some h->∃m,(pth t.mask h m).j=j/\∀m',m'<m->Liv t (pth t.mask h m').j
theorem least{P:Nat->Prop}:∀n,P n->∃m,m<=n/\P m/\∀k,k<m->¬ P k:=by
 intro n
 induction n using UY with
 |_ n d=>
  intro h;by_cases a:∃k,k<n/\P k
  .obtain⟨k,a,b⟩:=a;obtain⟨m,g,c,e⟩:=d k a b;exact⟨m,by lia,c,e⟩
  .exact⟨n,K1 _,h,λk f b=>a ⟨k,f,b⟩⟩
theorem vU(T:TOk t hs)(h):∃N,N<10*turns t.mask/\¬ Liv t (pth t.mask h N).j/\∀m,m<N->Liv t (pth t.mask h m).j:=by
 obtain⟨s,a,c⟩:=yP T.R T.f;obtain⟨k,_,d⟩:=T.k;obtain⟨n,p,e⟩:=cover d h s a;obtain⟨m,q,g,o⟩:=least (P:=λn=>¬ Liv t (pth t.mask h n).j) n (by show ¬ Liv t (pth t.mask h n).j;rw[e];rintro ⟨i,b⟩;exact c i b);exact⟨m,by lia,g,λk l=>Md λz=>o k l z⟩
theorem sL(T:TOk t hs)(hashAt)(h)(q:¬ Liv t (pth t.mask h N).j)(s:∀m,m<N->Liv t (pth t.mask h m).j):∀WL n,n<=N->N-n<WL->
  (probe.go t hashAt h WL (pth t.mask h n)=some (.empty (pth t.mask h N).j none)/\∀m i,n<=m->m<N->t.place[i]?=some (pth t.mask h m).j->hashAt i≠h)\/
  ∃m i,n<=m/\m<N/\t.place[i]?=some (pth t.mask h m).j/\hashAt i=h/\probe.go t hashAt h WL (pth t.mask h n)=some (.candidate (pth t.mask h m).j i (pth t.mask h (m+1)))/\
   ∀b a,n<=b->b<m->t.place[a]?=some (pth t.mask h b).j->hashAt a≠h
 |0,n,_,u=>by lia
 |WL+1,n,r,u=>by
  rw[probe.go];rcases vG T.R T.d (pth t.mask h n).j with ⟨e,B⟩ |⟨i,e,c⟩
  .have hN:n=N:=by
    rcases LC r with z |z
    .obtain⟨i,c⟩:=s n z;exact absurd c (B i)
    .exact z
   subst hN;refine .inl ⟨by simp only[e,mW],λm i l k=>by lia⟩
  .have hN:n<N:=by
    rcases LC r with z |z
    .exact z
    .subst z;exact absurd ⟨i,c⟩ q
   simp only[e];by_cases f:hashAt i=h
   .refine .inr ⟨n,i,K1 _,hN,c,f,?_,λb a l k=>by lia⟩;simp only[f,beq_self_eq_true,if_true,oB];rfl
   .have y:(hashAt i==h)=false:=by simpa using f
    simp only[y,Ln,if_false,oB];have x:=sL T hashAt h q s WL (n+1) (by lia) (by lia);rcases x with ⟨p,o⟩ |⟨m,w,p,o,D,C,A,v⟩
    .refine .inl ⟨p,λm a l k g=>?_⟩;rcases LC l with z |z
     .exact o m a z k g
     .subst z;rw[T.R.inj g c];exact f
    .refine .inr ⟨m,w,by lia,o,D,C,A,λb a l k g=>?_⟩;rcases LC l with z |z
     .exact v b a z k g
     .subst z;rw[T.R.inj g c];exact f
theorem B9(T:TOk t hs){N i:Nat}(b:¬ Liv t (pth t.mask h N).j)(c:hs[i]?=some h):∃m j,m<N/\t.place[i]?=some j/\(pth t.mask h m).j=j:=by
 have a:i<t.place.size:=by rw[T.n];exact (K_.mp c).1
 obtain⟨m,e,d⟩:=T.reach i _ h (fv a) c;refine⟨m,_,?_,fv a,e⟩;rcases N6 m N with z |z |z
 .exact z
 .subst z;exact absurd ⟨i,by rw[e];exact fv a⟩ b
 .exact absurd (d N z) b
theorem fO{α:Type}(xs)(p)(x:α):(insertAt xs p x).toList=xs.toList.take p++x::xs.toList.drop p:=by
 unfold insertAt;simp[Array.toList_extract];exact Nv (by simp)
theorem cT{α:Type}{xs:Array α}{x:α}(e:p<=xs.size)(i):(insertAt xs p x)[i]?=if i<p then xs[i]? else if i=p then some x else xs[i-1]?:=by
 rw[<-L4,fO];have d:(xs.toList.take p).length=p:=by simp;lia
 by_cases a:i<p
 .rw[if_pos a,Lp (by lia),M9 a,L4]
 .rw[if_neg a,Lq (by lia),d];by_cases b:i=p
  .subst b;simp
  .rw[if_neg b];obtain⟨q,c⟩:∃q,i-p=q+1:=⟨i-p-1,by lia⟩
   rw[c,MQ,Oh,L4];congr 1;lia
theorem iP{α:Type}(xs)(p)(x:α)(a:p<=xs.size):(insertAt xs p x).size=xs.size+1:=by
 rw[<-Li,fO];simp;lia
def jd{α:Type}(xs:List α)(p:Nat)(x:α):List α:=xs.take p++x::xs.drop p
theorem A3{α:Type}{xs:List α}{x:α}(e:p<=xs.length)(i):(jd xs p x)[i]?=if i<p then xs[i]? else if i=p then some x else xs[i-1]?:=by
 unfold jd;have d:(xs.take p).length=p:=by simp;lia
 by_cases a:i<p
 .rw[if_pos a,Lp (by lia),M9 a]
 .rw[if_neg a,Lq (by lia),d];by_cases b:i=p
  .subst b;simp
  .rw[if_neg b];obtain⟨q,c⟩:∃q,i-p=q+1:=⟨i-p-1,by lia⟩
   rw[c,MQ,Oh];congr 1;lia
theorem Fe(R:Ris xs)(m:∀i:Nat,xs[i]?≠some j):Ris (insertAt xs (below xs j) j):=by
 obtain⟨k,n,o⟩:=gj R j
 have gt:∀i x,below xs j<=i->xs[i]?=some x->j<x:=λi x l c=>by
  rcases LC (n i x l c) with z |z
  .exact z
  .subst z;exact absurd c (m i)
 intro a b x y h c hy;rw[cT o]at c hy;by_cases f:a<below xs j
 .rw[if_pos f]at c;by_cases d:b<below xs j
  .rw[if_pos d]at hy;exact R a b x y h c hy
  .rw[if_neg d]at hy;by_cases e:b=below xs j
   .rw[if_pos e]at hy;cases hy;exact k a x f c
   .rw[if_neg e]at hy;exact R a (b-1) x y (by lia) c hy
 .rw[if_neg f]at c;have d:¬ b<below xs j:=by lia
  rw[if_neg d]at hy;have e:¬ b=below xs j:=by lia
  rw[if_neg e]at hy;by_cases g:a=below xs j
  .rw[if_pos g]at c;cases c;exact gt (b-1) y (by lia) hy
  .rw[if_neg g]at c;exact R (a-1) (b-1) x y (by lia) c hy
theorem xW(b:p<=xs.size)(s):(∃i:Nat,(insertAt xs p j)[i]?=some s)↔s=j\/∃i:Nat,xs[i]?=some s:=by
 constructor
 .rintro ⟨i,a⟩;rw[cT b]at a;split at a
  .exact .inr ⟨i,a⟩
  .split at a
   .cases a;exact .inl rfl
   .exact .inr ⟨i-1,a⟩
 .rintro (rfl |⟨i,a⟩)
  .exact⟨p,by rw[cT b,if_neg (LS _),if_pos rfl]⟩
  .by_cases h:i<p
   .exact⟨i,by rw[cT b,if_pos h];exact a⟩
   .exact⟨i+1,by rw[cT b,if_neg (by lia),if_neg (by lia)];simpa using a⟩
theorem TOk.put(T:TOk t hs)(A:¬ Liv t (pth t.mask h N).j)(E:∀m,m<N->Liv t (pth t.mask h m).j)(D:(pth t.mask h N).j<=t.mask)(w:t.place.size+1<=t.mask):
  TOk (t.put (pth t.mask h N).j).1 (jd hs (t.put (pth t.mask h N).j).2 h):=by
 have C:∀i,t.place[i]?≠some (pth t.mask h N).j:=λi e=>A ⟨i,e⟩;obtain⟨_,_,f⟩:=gj T.R (pth t.mask h N).j;have u:below t.place (pth t.mask h N).j<=hs.length:=by rw[<-T.n];exact f
 have B:(if SetTable.has t.dummies (pth t.mask h N).j then eraseAt t.dummies (below t.dummies (pth t.mask h N).j) else t.dummies)=#[]:=by
  rw[T.d];simp[SetTable.has]
 unfold SetTable.put;simp only[B];refine⟨Fe T.R C,rfl,T.k,?_,?_,λi x e=>?_,λi j v c a=>?_⟩
 .show (insertAt _ _ _).size=(jd hs _ h).length;rw[iP _ _ _ f,T.n];unfold jd;simp;lia
 .show (insertAt _ _ _).size<=t.mask;rw[iP _ _ _ f];exact w
 .rcases (xW f x).mp ⟨i,e⟩ with z |⟨q,y⟩
  .rw[z];exact D
  .exact T.le q x y
 .have b:∀s,Liv t s->Liv {t with place:=insertAt t.place (below t.place (pth t.mask h N).j) (pth t.mask h N).j,dummies:=#[] } s:=λs z=>(xW f s).mpr (.inr z);rw[cT f]at c;rw[A3 u]at a;split at c
  .rename_i z
   rw[if_pos z]at a;obtain⟨m,p,o⟩:=T.reach i j v c a;exact⟨m,p,λl g=>b _ (o l g)⟩
  .rename_i z
   rw[if_neg z]at a;split at c
   .rename_i r
    rw[if_pos r]at a;cases c;cases a;exact⟨N,rfl,λl g=>b _ (E l g)⟩
   .rename_i r
    rw[if_neg r]at a;obtain⟨m,p,o⟩:=T.reach (i-1) j v c a;exact⟨m,p,λl g=>b _ (o l g)⟩
theorem Bg{mask:Nat}(h):∀n,(pth mask h n).j+(pth mask h n).more<=mask
 |0=>by
  show bits h%(mask+1)+(runEnd mask (bits h%(mask+1))-bits h%(mask+1))<=mask;have:=NF (bits h) (show 0<mask+1 by lia);unfold runEnd;split <;>lia
 |n+1=>by
  have a:=Bg (mask:=mask) h n;rw[pth];unfold adv;split
  .simp only;lia
  .show (leap mask _ _).1+(runEnd mask (leap mask _ _).1-(leap mask _ _).1)<=mask;have:(leap mask (pth mask h n).i (pth mask h n).perturb).1<mask+1:=NF _ (by lia);unfold runEnd;split <;>lia
def OL(owner:Array (Option Nat))(j:Nat):Prop:=∃k:Nat,owner[j]?=some (some k)
def nr(mask:Nat)(h:Int):Nat->Nat
 |0=>0
 |r+1=>nr mask h r+(runEnd mask (bg mask h r).1-(bg mask h r).1)+1
theorem F8(mask)(h):∀r,pth mask h (nr mask h r)={j:=(bg mask h r).1,more:=runEnd mask (bg mask h r).1-(bg mask h r).1,i:=(bg mask h r).1,perturb:=(bg mask h r).2,dummy:=none }
 |0=>rfl
 |r+1=>by
  have e:=F8 mask h r;have step:=lQ (runEnd mask (bg mask h r).1-(bg mask h r).1) (pth mask h (nr mask h r)) (λm=>pth mask h (nr mask h r+m)) rfl (λm=>rfl) (by rw[e];exact K1 _);have a:=step;rw[nr,pth,a,e];unfold adv;rw[if_neg (by simp)];rfl
theorem vc(mask)(h)(r k)(b:k<=runEnd mask (bg mask h r).1-(bg mask h r).1):(pth mask h (nr mask h r+k)).j=(bg mask h r).1+k:=by
 have e:=F8 mask h r;have step:=lQ k (pth mask h (nr mask h r)) (λm=>pth mask h (nr mask h r+m)) rfl (λm=>rfl) (by rw[e];exact b);have a:=step;rw[a,e]
theorem zB(mask i):i<=runEnd mask i:=by unfold runEnd;split <;>lia
theorem EY(mask)(h):∀r,(bg mask h r).1<=mask
 |0=>Mx (NF _ (by lia))
 |r+1=>Mx (NF _ (by lia))
theorem uL{mask i:Nat}(h:i<=mask):runEnd mask i<=mask:=by unfold runEnd;split <;>lia
theorem xS{mask:Nat}(hsz:owner.size=mask+1)(h):∀WL r,(∃d,r<=d/\d<r+WL/\owner[(bg mask h d).1]?=some none)->(∀m,m<nr mask h r->OL owner (pth mask h m).j)->
  ∃N,layClean.free mask owner WL (bg mask h r).1 (bg mask h r).2=some (pth mask h N).j/\owner[(pth mask h N).j]?=some none/\∀m,m<N->OL owner (pth mask h m).j
 |0,r,⟨d,x,E,_⟩,_=>by lia
 |WL+1,r,i,u=>by
  rw[layClean.free];have hge:=zB mask (bg mask h r).1;have B:=uL (EY mask h r);have g:∀k,k<runEnd mask (bg mask h r).1+1-(bg mask h r).1->(bg mask h r).1+k<owner.size:=λk t=>by lia
  cases hf:(LP (runEnd mask (bg mask h r).1+1-(bg mask h r).1)).find? λk=>(owner.getD ((bg mask h r).1+k) (some 0)).isNone with
  |some k=>
   obtain⟨l,C,y⟩:=List.find?_range_eq_some.mp hf;have t:=Lx.mp C;have s:=g k t
   have A:owner[(bg mask h r).1+k]?=some none:=by
    have:owner.getD ((bg mask h r).1+k) (some 0)=owner[(bg mask h r).1+k]:=by simp[N7,s]
    rw[this]at l;have:owner[(bg mask h r).1+k]=none:=by simpa using l
    simp[s,this]
   have p:=vc mask h r k (by lia);refine⟨nr mask h r+k,by simp only[p],by rw[p];exact A,λm n=>?_⟩;by_cases b:m<nr mask h r
   .exact u m b
   .obtain⟨q,rfl⟩:∃q,m=nr mask h r+q:=⟨m-nr mask h r,by lia⟩
    have c:=y q (by lia);have f:=g q (by lia);rw[vc mask h r q (by lia)];have:owner.getD ((bg mask h r).1+q) (some 0)=owner[(bg mask h r).1+q]:=by simp[N7,f]
    rw[this]at c;cases a:owner[(bg mask h r).1+q] with
    |none=>rw[a]at c;simp at c
    |some v=>exact⟨v,by simp[f,a]⟩
  |none=>
   have o:∀q,q<runEnd mask (bg mask h r).1+1-(bg mask h r).1->OL owner ((bg mask h r).1+q):=λq c=>by
    have:=List.find?_eq_none.mp hf q (Lx.mpr c);have f:=g q c;have e:owner.getD ((bg mask h r).1+q) (some 0)=owner[(bg mask h r).1+q]:=by simp[N7,f]
    rw[e]at this;cases a:owner[(bg mask h r).1+q] with
    |none=>rw[a]at this;simp at this
    |some v=>exact⟨v,by simp[f,a]⟩
   have next:=xS hsz h WL (r+1) (by
    obtain⟨d,x,E,w⟩:=i;refine⟨d,?_,by lia,w⟩;rcases LC x with z |z
    .exact z
    .subst z;obtain⟨v,a⟩:=o 0 (by lia);rw[VR,w]at a;cases a) (λm n=>by
    by_cases b:m<nr mask h r
    .exact u m b
    .obtain⟨q,rfl⟩:∃q,m=nr mask h r+q:=⟨m-nr mask h r,by lia⟩
     have D:nr mask h r+q<nr mask h r+(runEnd mask (bg mask h r).1-(bg mask h r).1)+1:=n;rw[vc mask h r q (by lia)];exact o q (by lia))
   exact next
structure OI(mask:Nat)(owner:Array (Option Nat))(hs:List Int):Prop where
 sz:owner.size=mask+1
 lt:∀(j k:Nat),owner[j]?=some (some k)->k<hs.length
 inj:∀(i j k:Nat),owner[i]?=some (some k)->owner[j]?=some (some k)->i=j
 all:∀k:Nat,k<hs.length->∃j:Nat,owner[j]?=some (some k)
 reach:∀(j k:Nat) (h:Int),owner[j]?=some (some k)->hs[k]?=some h->∃m,(pth mask h m).j=j/\∀m',m'<m->OL owner (pth mask h m').j
theorem OI.free{mask:Nat}(O:OI mask owner hs)(v:hs.length<=mask):∃s,s<=mask/\owner[s]?=some none:=by
 apply Md;intro q
 have h:∀s,s<=mask->OL owner s:=λs l=>by
  have i:s<owner.size:=by rw[O.sz];lia
  cases e:owner[s] with
  |none=>exact absurd ⟨s,l,by simp[i,e]⟩ q
  |some k=>exact⟨k,by simp[i,e]⟩
 have p:((LP (mask+1)).map λs=>(owner.getD s none).getD 0).Nodup:=by
  rw[QM,LY];refine PF ?_ (RR);intro a b r o u e;obtain⟨c,d⟩:=h a (by have:=Lx.mp r;lia);obtain⟨t,j⟩:=h b (by have:=Lx.mp o;lia);have g:(owner.getD a none).getD 0=c:=by simp[MH,d]
  have n:(owner.getD b none).getD 0=t:=by simp[MH,j]
  rw[g,n]at e;subst e;have:=O.inj a b c d j;lia
 have sub:((LP (mask+1)).map λs=>(owner.getD s none).getD 0) ⊆ LP hs.length:=by
  intro x m;obtain⟨s,f,rfl⟩:=KZ.mp m;obtain⟨c,d⟩:=h s (by have:=Lx.mp f;lia);have g:(owner.getD s none).getD 0=c:=by simp[MH,d]
  rw[g];exact Lx.mpr (O.lt s c d)
 have:=Uo p sub;simp at this;lia
theorem OI.step{mask k:Nat}(E:mask+1=2 ^ k){owner:Array (Option Nat)}{hs:List Int}(O:OI mask owner hs)(D:hs.length<=mask)(h):
  ∃j,layClean.free mask owner (turns mask) (bits h%(mask+1)) (bits h)=some j/\OI mask (owner.setIfInBounds j (some hs.length)) (hs++[h]):=by
 obtain⟨s,r,C⟩:=O.free D;obtain⟨q,G,e⟩:=i0 (bg mask h 12).1 k s;have t:(bg mask h (12+q)).1=s:=by rw[om E h q,e];exact Mc (by lia)
 obtain⟨N,F,o,B⟩:=xS O.sz h (turns mask) 0 ⟨12+q,Mm _,by unfold turns;lia,by rw[t];exact C⟩ (λm g=>absurd g (R9 _));refine⟨_,F,?_⟩;generalize hj:(pth mask h N).j=j at *;have p:=(Od.mp o).1
 have get:∀i,(owner.setIfInBounds j (some hs.length))[i]?=if j=i then some (some hs.length) else owner[i]?:=λi=>by
  rw[Array.getElem?_setIfInBounds];split
  .rename_i z;subst z;simp[p]
  .rfl
 have l:∀i,OL owner i->OL (owner.setIfInBounds j (some hs.length)) i:=λi ⟨v,f⟩=>by
  refine⟨v,?_⟩;rw[get,if_neg (λz=>by subst z;rw[o]at f;cases f)];exact f
 refine⟨by simp[O.sz],λi v e=>?_,λa b v c d=>?_,λv f=>?_,λi v u c d=>?_⟩
 .rw[get]at e;split at e
  .cases e;simp
  .have:=O.lt i v e;simp;lia
 .rw[get]at c d;split at c <;>split at d
  .lia
  .cases c;exact absurd (O.lt b _ d) (LS _)
  .cases d;exact absurd (O.lt a _ c) (LS _)
  .exact O.inj a b v c d
 .simp at f;rcases LC (Mx f) with z |z
  .obtain⟨i,n⟩:=O.all v z;refine⟨i,?_⟩;rw[get,if_neg (λy=>by subst y;rw[o]at n;cases n)];exact n
  .subst z;exact⟨j,by rw[get,if_pos rfl]⟩
 .rw[get]at c;split at c
  .rename_i z
   cases c;simp at d;subst d;exact⟨N,by rw[hj];exact z,λm g=>l _ (B m g)⟩
  .have f:=O.lt i v c;rw[Lp f]at d;obtain⟨m,x,w⟩:=O.reach i v u c d;exact⟨m,x,λA g=>l _ (w A g)⟩
theorem x4{mask k:Nat}(c:mask+1=2 ^ k):∀more done a,OI mask a done->done.length+more.length<=mask+1->∃b,more.foldl (λi h=>do
  let (a,k) <-i
  let j <-layClean.free mask a (turns mask) (bits h%(mask+1)) (bits h)
  pure (a.setIfInBounds j (some k),k+1)) (some (a,done.length))=some (b,done.length+more.length)/\OI mask b (done++more)
 |[],done,a,O,_=>⟨a,by simp,by simpa using O⟩
 |h::more,done,a,O,hl=>by
  obtain⟨j,e,g⟩:=O.step c (by simp at hl;lia) h;obtain⟨f,d,l⟩:=x4 c more (done++[h]) _ g (by simp at hl |-;lia);refine⟨f,?_,by simpa using l⟩;rw[MF]
  have:(do
   let (a,k) <-some (a,done.length)
   let j <-layClean.free mask a (turns mask) (bits h%(mask+1)) (bits h)
   pure (a.setIfInBounds j (some k),k+1):Option (Array (Option Nat)×Nat))=some (a.setIfInBounds j (some done.length),done.length+1):=by
   simp[e]
  rw[this];simp only[LB,R6]at d;rw[d];simp;lia
theorem tP{mask k:Nat}(c:mask+1=2 ^ k)(d:hs.size<=mask+1):∃a,layClean mask hs=some a/\OI mask a hs.toList:=by
 have f:OI mask (Array.replicate (mask+1) none) []:=⟨by simp,λj k e=>by simp[PH]at e,λi j k e=>by simp[PH]at e,λk h=>by simp at h,λj k h e=>by simp[PH]at e⟩
 obtain⟨b,e,O⟩:=x4 c hs.toList [] _ f (by simpa using d);refine⟨b,?_,by simpa using O⟩;unfold layClean;rw[<-QS];simp only[OT]at e;rw[e];rfl
theorem tO(n):∀WL k,n<2 ^ (k+WL)->∃a,k<=a/\sizeAbove.go n WL (2 ^ k)=2 ^ a/\n<2 ^ a/\(2 ^ a<=2*n\/a=k)
 |0,k,h=>⟨k,K1 _,rfl,by simpa using h,.inr rfl⟩
 |WL+1,k,h=>by
  rw[sizeAbove.go];by_cases Yg:2 ^ k<=n
  .rw[if_pos Yg,<-N2];obtain⟨a,e,b,c,d⟩:=tO n WL (k+1) (by rw[show k+1+WL=k+(WL+1) by lia];exact h);refine⟨a,by lia,b,c,.inl ?_⟩;rcases d with z |z
   .exact z
   .subst z;rw[N2];lia
  .rw[if_neg Yg];exact⟨k,K1 _,rfl,by lia,.inr rfl⟩
theorem above(n)(h:n<2 ^ 60):∃k,3<=k/\sizeAbove n=2 ^ k/\n<2 ^ k/\2 ^ k<=2*n+8:=by
 obtain⟨k,c,a,b,d⟩:=tO n 64 3 (Ls h (Qs (by decide) (by decide)));refine⟨k,c,a,b,?_⟩;rcases d with z |z
 .lia
 .subst z;lia
def dZ(mask:Nat)(owner:Array (Option Nat)):List (Nat×Nat):=(LP (mask+1)).filterMap λj=>(owner.getD j none).map (j,·)
theorem tV(owner:Array (Option Nat)):∀l:List Nat,(l.filterMap λj=>(owner.getD j none).map (j,·)).map (·.1)=l.filter λj=>(owner.getD j none).isSome
 |[]=>rfl
 |a::l=>by
  have ih:=tV owner l;rw[Ob,RE];cases owner.getD a none with
  |none=>simpa using ih
  |some v=>simpa using ih
theorem e9{mask:Nat}(hsz:owner.size=mask+1)(j k):(j,k)∈dZ mask owner↔owner[j]?=some (some k):=by
 unfold dZ;rw[QR];constructor
 .rintro ⟨a,c,e⟩;have b:a<owner.size:=by rw[hsz];exact Lx.mp c
  cases hv:owner.getD a none with
  |none=>rw[hv]at e;cases e
  |some v=>
   rw[hv]at e;cases e;have:owner.getD j none=owner[j]:=by simp[N7,b]
   rw[this]at hv;simp[b,hv]
 .intro e;have b:=(Od.mp e).1;refine⟨j,Lx.mpr (by lia),?_⟩;rw[MH,e];rfl
theorem yy(mask)(owner):(dZ mask owner).Pairwise λa b=>a.1<b.1:=by
 have:=(RR (n:=mask+1)).filter λj=>(owner.getD j none).isSome;rw[<-tV owner (LP (mask+1)),LY]at this;exact this
theorem Hu{l:List Nat}(h:l.Pairwise (· < ·)):Ris l.toArray:=by
 intro i j x y b a hy;rw[OU]at a hy;obtain⟨f,d⟩:=K_.mp a;obtain⟨c,e⟩:=K_.mp hy;have:=L0.mp h i j f c b;rw[d,e]at this;exact this
theorem EV{mask k:Nat}(Q:3<=k)(y:mask+1=2 ^ k)(P:hs.size<=mask)(finger moves)(led plain):
  ∃t d,laid mask finger moves led plain hs=some (t,d)/\TOk t (d.toList.map λi=>hs.getD i 0)/\d.toList.Perm (LP hs.size)/\t.mask=mask/\t.led=led/\t.plain=plain/\t.moves=moves:=by
 obtain⟨c,e,O⟩:=tP y (hs:=hs) (by lia);have w:=yy mask c
 have F:((dZ mask c).map (·.2)).Nodup:=by
  rw[QM,LY];refine PF ?_ w;intro a b N E R f;have z:=(e9 O.sz a.1 a.2).mp N;have L:=(e9 O.sz b.1 b.2).mp E;rw[f]at z;have:=O.inj a.1 b.1 b.2 z L;lia
 have g:((dZ mask c).map (·.2)).Perm (LP hs.size):=by
  refine (MU F RF).mpr λx=>?_;rw[KZ,Lx];constructor
  .rintro ⟨⟨j,v⟩,s,rfl⟩;have:=O.lt j v ((e9 O.sz j v).mp s);simpa using this
  .intro A;obtain⟨j,I⟩:=O.all x (by simpa using A);exact⟨(j,x),(e9 O.sz j x).mpr I,rfl⟩
 have r:(dZ mask c).length=hs.size:=by have:=g.length_eq;simpa using this
 refine⟨_,_,by unfold laid;rw[e];rfl,⟨?_,rfl,⟨k,Q,y⟩,?_,?_,λi x f=>?_,λi j h l o=>?_⟩,?_,rfl,rfl,rfl,rfl⟩
 .show Ris ((dZ mask c).map (·.1)).toArray;exact Hu (by rw[LY];exact w)
 .show ((dZ mask c).map (·.1)).toArray.size=_;simp[dZ]
 .show ((dZ mask c).map (·.1)).toArray.size<=mask;simp[r,P]
 .change ((dZ mask c).map (·.1)).toArray[i]?=some x at f
  rw[OU,K5]at f;cases q:(dZ mask c)[i]? with
  |none=>rw[q]at f;cases f
  |some p=>
   rw[q]at f;cases f;have:=(e9 O.sz p.1 p.2).mp (Lo q);have:=(Od.mp this).1;show p.1<=mask;have S:=O.sz;lia
 .change ((dZ mask c).map (·.1)).toArray[i]?=some j at l
  change (((dZ mask c).map (·.2)).toArray.toList.map λi=>hs.getD i 0)[i]?=some h at o
  rw[OU,K5]at l;rw[K5,K5]at o;cases q:(dZ mask c)[i]? with
  |none=>rw[q]at l;cases l
  |some p=>
   rw[q]at l o;cases l;have u:=(e9 O.sz p.1 p.2).mp (Lo q);have G:=O.lt _ _ u
   have M:hs.toList[p.2]?=some h:=by
    have H:hs.getD p.2 0=h:=by simpa using o
    have:p.2<hs.size:=by simpa using G
    rw[<-H];simp[N7,this]
   obtain⟨m,C,B⟩:=O.reach _ _ h u M;refine⟨m,C,λD s=>?_⟩;obtain⟨v,J⟩:=B D s;obtain⟨n,K⟩:=Lz.mp ((e9 O.sz _ v).mpr J);refine⟨n,?_⟩;show ((dZ mask c).map (·.1)).toArray[n]?=_;rw[OU,K5,K];rfl
 .show ((dZ mask c).map (·.2)).toArray.toList.Perm _;simpa using g
variable {prog:Lg}{E:K3→K8→Prop}
section
variable {w:LL}{A:L7}{s:K8}
abbrev TK(prog:Lg)(w:LL)(h:Nh)(k:List Int)(b:Lm):Prop:=IsTupleKey (Qn prog w) h k b
abbrev hsh(prog:Lg)(w:LL)(k:List Int):Int:=tupleKeyHash (Qn prog w) k
theorem TK.ints{h:Nh}{k:List Int}{vs:List K3}(x:ItemsAre (Qn prog w) k vs):∀v∈vs,∃n t,v=.int n t:=by
 induction x with
 |nil=>intro v a;simp at a
 |cons c _ b=>
  intro v a;rcases KO.mp a with rfl |a
  .obtain⟨t,rfl⟩:=P6 c;exact⟨_,t,rfl⟩
  .exact b v a
theorem o7(f:TK prog w s.heap k a)(h:Q false s):LH (LM prog w) A (P_ 8 (.ref a)) Q E s:=by
 have l:=f.typeIs;obtain⟨o,items,n,g,_,i,m⟩:=f;unfold P_;refine KL (Uq l ?_);dsimp only;rw[if_pos (by decide)];refine KL (KY ?_);simp only[MR,Ln,if_false];refine KL (NL g i ?_);refine KL ?_;rw[<-QT];refine RH _ (λrest r b=>r.1=none/\b=s/\∀v∈rest,∃n t,v=OQ n t) _ ?_ ?_ _ _ ⟨rfl,rfl,TK.ints (h:=s.heap) m⟩
 .rintro v rest r b ⟨d,rfl,c⟩;obtain⟨n,t,rfl⟩:=c v K0;have e:P_ 7 (OQ n t)=pure false:=by unfold P_;rfl
  rw[e];refine KL (KY ?_);simp only[Ln,if_false];exact KY ⟨rfl,rfl,λu j=>c u (KN _ j)⟩
 .rintro ⟨q,p⟩ b ⟨d,rfl,_⟩;subst d;exact KY h
theorem IR(f:TK prog w s.heap k a)(h:Q true s):LH (LM prog w) A (S4 8 (.ref a)) Q E s:=by
 have l:=f.typeIs;obtain⟨o,items,n,g,_,i,m⟩:=f;unfold S4;refine KL (OB l F.slot_tuple_hash.lookup ?_);show LH _ _ (Rc (.ref a) >>=_) _ _ s;refine KL (NL g i ?_);refine KL ?_;show LH _ _ (forIn items _ _) _ _ s;rw[<-QT];refine RH _ (λrest r c=>r.1=none/\c=s/\∀v∈rest,∃n t,v=OQ n t) _ ?_ ?_ _ _ ⟨rfl,rfl,TK.ints (h:=s.heap) m⟩
 .rintro v rest r c ⟨b,rfl,d⟩;obtain⟨n,t,rfl⟩:=d v K0;have e:S4 7 (OQ n t)=pure true:=by unfold S4;rfl
  rw[e];refine KL (KY ?_);simp only[MR,Ln,if_false];exact KY ⟨rfl,rfl,λu j=>d u (KN _ j)⟩
 .rintro ⟨q,p⟩ c ⟨b,rfl,_⟩;simp only at b;subst b;exact KY h
theorem vx(g:TK prog w s.heap k a)(m:∀v∈l,∃c b,v=.ref b/\TK prog w s.heap c b)(h:Q false s):
  LH (LM prog w) A (searchCouldBeSeen (.ref a) l) Q E s:=by
 refine KL ?_;refine RH _ (λrest r e=>r.1=none/\e=s/\∀v∈rest,∃c b,v=.ref b/\TK prog w s.heap c b) _ ?_ ?_ _ _ ⟨rfl,rfl,m⟩
 .rintro v rest r e ⟨i,rfl,f⟩;obtain⟨c,b,rfl,j⟩:=f v K0;dsimp only;split
  .exact KY ⟨rfl,rfl,λu d=>f u (KN _ d)⟩
  .refine KL (Sa g ?_);simp only[MR,Ln,if_false];refine KL (Sa j ?_);simp only[MR,Ln,if_false];refine KL (o7 g ?_);simp only[Ln,if_false];refine KL (o7 j ?_);simp only[Ln,if_false];exact KY ⟨rfl,rfl,λu d=>f u (KN _ d)⟩
 .rintro ⟨o,n⟩ e ⟨i,rfl,_⟩;subst i;exact KY h
def ents(prog:Lg)(w:LL)(a:List (List Int×Lm)):List (Int×K3):=a.map λp=>(hsh prog w p.1,.ref p.2)
theorem xM{i:Nat}:(ents prog w kb)[i]?=(kb[i]?).map λp=>(hsh prog w p.1,.ref p.2):=by unfold ents;rw[K5]
theorem DO(kb):(ents prog w kb).map (·.1)=kb.map λp=>hsh prog w p.1:=by unfold ents;rw[Lh];rfl
theorem TOk.fits(T:TOk t hs){n:Nat}(c:hs.length=n):t.fits n=true:=by
 have b:=T.n;have e:=T.f;have a:t.fill=t.place.size:=by unfold fill;rw[T.d];rfl
 unfold SetTable.fits;rw[a];simp[b,c];lia
theorem TOk.gave(T:TOk t hs):t.gaveWay=false:=by
 obtain⟨k,b,a⟩:=T.k;unfold SetTable.gaveWay;obtain⟨j,rfl⟩:∃j,k=j+1:=⟨k-1,by lia⟩
 have:t.mask%2=1:=by lia
 simp[this]
theorem uu(hu:A.units<NZ)
  (ho:s.heap.get? S=some o) (hd:o.data=.set es ep t) (he:es.toList=ents prog w kb) (T:TOk t (kb.map λp=>hsh prog w p.1)) (YO:∀p∈kb,TK prog w s.heap p.1 p.2) (hx:TK prog w s.heap k x)
  (hN:N<10*turns t.mask) (h0:¬ Liv t (pth t.mask (hsh prog w k) N).j) (h1:∀m,m<N->Liv t (pth t.mask (hsh prog w k) m).j) 
  (qf:(∀p∈kb,p.1≠k)->Q (.free (pth t.mask (hsh prog w k) N).j false) s) (qt:(∃p∈kb,p.1=k)->Q (.there none) s):
  ∀u n K,n<=N->N-n<u->K.getD (t.probeStart (hsh prog w k))=pth t.mask (hsh prog w k) n->
   (∀(m i:Nat) p,m<n->t.place[i]?=some (pth t.mask (hsh prog w k) m).j->kb[i]?=some p->p.1≠k)->
   LH (LM prog w) A (Ro S (.ref x) (hsh prog w k) true u K) Q E s:=by
 have B:es.size=kb.length:=by rw[<-Li,he];simp[ents]
 have W5:t.fits es.size=true:=T.fits (by rw[KI,B]);have I:∀i:Nat,es[i]?=(kb[i]?).map λ(p:List Int×Lm)=>(hsh prog w p.1,LQ p.2):=λi=>by rw[<-L4,he,xM]
 intro u
 induction u with
 |zero=>intro n K _ h;lia
 |succ u ih=>
  intro n K hn hf Xd XZ;unfold Ro;refine KL (NG ho hd W5 ?_);dsimp only;rw[T.gave];simp only[Ln,if_false];rw[Xd];have g:∀(i:Nat) (p:List Int×Lm),kb[i]?=some p->((es[i]?.map (λ(e:Int×K3)=>e.1)).getD 0:Int)=hsh prog w p.1:=λi p r=>by rw[I,r];rfl
  have pg:=sL T (λ(i:Nat)=>(es[i]?.map (λ(e:Int×K3)=>e.1)).getD 0) (hsh prog w k) h0 h1 (10*turns t.mask) n hn (by lia);split
  .rename_i met f
   rcases pg with ⟨e,WH⟩ |⟨m,i,X,Z,F,Y,e,l⟩
   .have q:=f.symm.trans e;cases q;dsimp only;refine KY (qf λp r d=>?_);obtain⟨i,V⟩:=Lz.mp r;obtain⟨m,j,hm,F,hj⟩:=B9 T (h:=hsh prog w k) h0 (i:=i) (by rw[K5,V,<-d];rfl);rcases Nr m n with M |M
    .exact XZ m i p M (by rw[hj];exact F) V d
    .exact WH m i M hm (by rw[hj];exact F) (by rw[g i p V,d])
   .have q:=f.symm.trans e;cases q;dsimp only;have W:i<kb.length:=by rw[<-B,<-show t.place.size=es.size by rw[T.n,KI,B]];exact x9 F
    obtain⟨p,r⟩:∃p,kb[i]?=some p:=⟨_,KJ W⟩;have J:=Lo r;have D:es[i]?=some (hsh prog w p.1,LQ p.2):=by rw[I,r];rfl
    have rest:LH (LM prog w) A (do
      let Zb <-RX [LQ p.2] (eqBool (LQ p.2) (.ref x))
      let (es',_,t') <-setState S
      if true && Zb then return .there none
      let some same:=t'.sameMemory t.moves t.mask |unsupported "set.changed-during-lookup:is-the-new-block-at-the-old-address"
      let C <-match (if same then t'.slot (pth t.mask (hsh prog w k) m).j else .empty) with
       | .live i'=>match es'[i']? with
        |some (_,y')=>do pure (if <-isSame y' (LQ p.2) then some i' else none)
        |none=>pure none
       |_=>pure none
      match C with
      |none=>rule "set.search.anew";Ro S (.ref x) (hsh prog w k) true u none
      |some i'=>if Zb then return .there (some i') else Ro S (.ref x) (hsh prog w k) true u (some (pth t.mask (hsh prog w k) (m+1)))) Q E s:=by
     refine KL (MS (OO hu (YO p J) hx ?_));refine KL (NG ho hd W5 ?_);dsimp only;by_cases d:p.1=k
     .rw[decide_eq_true d];simp only[Bool.and_self,if_true];exact KY (qt ⟨p,J,d⟩)
     .rw[decide_eq_false d];simp only[SX,Ln,if_false];have U:t.sameMemory t.moves t.mask=some true:=by unfold SetTable.sameMemory;simp
      rw[U];dsimp only;rw[if_pos rfl,pR T.R F];dsimp only;rw[D];dsimp only;refine KL (wpAny_isSame_ref_self ?_);refine KL (KY ?_);simp only[if_true];refine ih (m+1) (some (pth t.mask (hsh prog w k) (m+1))) (by lia) (by lia) rfl λO i' G b a H=>?_;rcases Nr O n with z |z
      .exact XZ O i' G z a H
      .rcases LC (Mx b) with y |y
       .have:=l O i' z y a;intro L;exact this (by rw[g i' G H,L])
       .subst y;have ei:=T.R.inj F a;subst ei;rw[r]at H;cases H;exact d
    by_cases c:t.led=true
    .rw[c];simp only[MR,Ln,if_false];rw[D];exact rest
    .rw[show t.led=false by simpa using c];simp only[On,if_true];refine KL (vx hx (λv hv=>?_) ?_)
     .obtain⟨L,P,rfl⟩:=KZ.mp hv
      have b:L∈es.toList:=by
       have:=Qr.mp P;exact Qr.mpr (Array.mem_filter.mp this).1
      rw[he]at b;obtain⟨G,H,rfl⟩:=KZ.mp b;exact⟨G.1,G.2,rfl,YO G H⟩
     .simp only[Ln,if_false];rw[D];exact rest
  .rename_i Xk
   rcases pg with ⟨e,WH⟩ |⟨m,i,X,Z,F,Y,e,l⟩
   .exact absurd e (Xk _)
   .exact absurd e (Xk _)
structure SP(prog:Lg)(w:LL)(h:Nh)(S:Lm)(kb:List (List Int×Lm)):Prop where
 ex:∃o es ep t,h.get? S=some o∧o.ExactSet∧o.data=.set es ep t∧es.toList=ents prog w kb∧TOk t (kb.map λp=>hsh prog w p.1)∧t.led=(!w.params.followText "set-order")∧t.plain=true∧t.tooFull=false∧t.mask<8*kb.length+8
 keys:∀p∈kb,TK prog w h p.1 p.2
 nd:(kb.map (·.1)).Nodup
theorem TK.keep{es ep t}(x:TK prog w h k b)(g:h.get? S=some o)(e:o.data=.set es ep t)(hs:OD S h h'):TK prog w h' k b:=by
 obtain⟨c,items,n,d,f,a,j⟩:=x
 have i:b≠S:=by
  rintro rfl;obtain rfl:c=o:=LN (d.symm.trans g);rw[e]at a;exact nomatch a
 exact⟨c,items,n,(hs.2 b i).trans d,f,a,j⟩
theorem vw(x)(es):byScan (.ref x) es=false:=by simp[byScan,Value.scannable]
theorem uF{α a:Type}(f:α->a)(xs)(p)(x:α):(jd xs p x).map f=jd (xs.map f) p (f x):=by
 unfold jd;rw[LO,Lb,VI,VJ]
theorem fV{α:Type}(xs)(p)(x:α):(jd xs p x).Perm (xs++[x]):=by
 refine RI.trans ?_;rw[OV];exact (QN x xs).symm
theorem uH{α b:Type}{a:List α}(f:α->b)(d:b):∀(o:List Nat),(∀i∈o,i<a.length)->o.map (λi=>((a.map f).toArray).getD i d)=(o.filterMap λi=>a[i]?).map f
 |[],_=>rfl
 |i::o,h=>by
  have hi:=h i K0;rw[Lb,Ob,KJ hi,uH f d o λj c=>h j (KN _ c)];simp[N7,hi]
theorem yM{α:Type}{b:List α}{o:List Nat}(h:o.Perm (LP b.length)):(o.filterMap λi=>b[i]?).Perm b:=by
 refine (h.filterMap _).trans ?_
 suffices (LP b.length).filterMap (λi=>b[i]?)=b by rw[this]
 have:∀(l a:List α),(Wh a.length l.length).filterMap (λi=>(a++l)[i]?)=l:=by
  intro l
  induction l with
  |nil=>intro a;rfl
  |cons x l c=>
   intro a;rw[Lk,List.range'_succ,Ob];have e:(a++x::l)[a.length]?=some x:=by rw[Lq (K1 _)];simp
   rw[e];have:=c (a++[x]);simpa using this
 have q:=this b [];simpa [List.range_eq_range'] using q
theorem EJ(T:TOk t hs)(h:t.tooFull=false):t.place.size+1<=t.mask:=by
 obtain⟨k,c,b⟩:=T.k;have a:t.fill=t.place.size:=by unfold fill;rw[T.d];rfl
 unfold tooFull at h;simp at h;lia
theorem IG(x:s.heap.get? S=some o)(C:o.ExactSet)(q:o.data=.set es ep t)(B:es.toList=ents prog w kb)
  (T:TOk t (kb.map λp=>hsh prog w p.1)) (hl:t.led=(!w.params.followText "set-order")) (hp:t.plain=true) (YO:∀p∈kb,TK prog w s.heap p.1 p.2) (Yb:(kb.map (·.1)).Nodup) (h1:0<kb.length) (hn:kb.length≤1000)
  (h:∀D XH,OD S s.heap D->SP prog w D S XH->XH.Perm kb->Q () {s with heap:=D }):LH (LM prog w) A (setRelay S (grown kb.length)) Q E s:=by
 have b:es.size=kb.length:=by rw[<-Li,B];simp[ents]
 have O:t.fits es.size=true:=T.fits (by rw[KI,b]);have z:∀i:Nat,es[i]?=(kb[i]?).map λp=>(hsh prog w p.1,LQ p.2):=λi=>by rw[<-L4,B,xM]
 have V:grown kb.length=kb.length*4:=by unfold grown;rw[if_neg (by lia)]
 rw[V];obtain⟨k,P,M,Z,Y⟩:=above (kb.length*4) (by lia);have L:(sizeAbove (kb.length*4)-1)+1=2 ^ k:=by lia
 obtain⟨c,a,e,T',g,H,X,F,_⟩:=EV P L (hs:=es.map (·.1)) (by rw[Vf,b];lia) t.finger (t.movedTo (sizeAbove (kb.length*4)-1)) t.led t.plain;have m:t.relaid (es.map (·.1)) (kb.length*4)=some (c,a):=e;have G:a.toList.Perm (LP kb.length):=by rw[Vf,b]at g;exact g
 have R:∀i∈a.toList,i<kb.length:=λi U=>Lx.mp (G.mem_iff.mp U);have l:=yM G
 have v:(a.filterMap (λi=>es[i]?)).toList=ents prog w (a.toList.filterMap λi=>kb[i]?):=by
  rw[Array.toList_filterMap];unfold ents;rw[List.map_filterMap];congr 1
  funext i
  rw[z]
 have f:(a.filterMap (λi=>es[i]?)).size=es.size:=by
  rw[<-Li,v,b];unfold ents;rw[KI,l.length_eq]
 refine KL (NG x q O ?_);dsimp only;rw[if_neg (by rw[M,MA];lia),m]
 have j:LH (LM prog w) A (do
   if (a.filterMap (λi=>es[i]?)).size !=es.size then unsupported "internal:set-table-lost-an-element"
   pure (a.filterMap (λi=>es[i]?),c):Sem (Array (Int×K3)×SetTable)) (λr N=>LH (LM prog w) A (storeSet S r.1 r.2) Q E N) E s:=by
  rw[f];simp only[bne_self_eq_false,Ln,if_false];refine KY ?_;refine T4 x q ?_ (by rw[f,b,MA];lia)
  have y:(s.heap.update S (Qa (a.filterMap (λi=>es[i]?)) c)).get? S=some {o with data:=.set (a.filterMap (λi=>es[i]?)) (ep+1) c }:=by
   have:=Me (Qa (a.filterMap (λi=>es[i]?)) c) x (by rw[UZ _ c q];rfl);rw[UZ _ c q]at this;exact this
  have I:=OE s.heap S (Qa (a.filterMap (λi=>es[i]?)) c);refine h _ (a.toList.filterMap λi=>kb[i]?) I ⟨⟨_,_,_,c,y,C,rfl,v,?_,by rw[X];exact hl,by rw[F];exact hp,?_,?_⟩,λp W=>?_,?_⟩ l
  .have:=uH (λp=>hsh prog w p.1) 0 a.toList R;rw[<-this]
   have K:(es.map (·.1))=((kb.map λp=>hsh prog w p.1)).toArray:=by
    apply RJ.mp;rw[Uw,B,DO]
   rw[K]at T';exact T'
  .have J:c.fill=c.place.size:=by unfold fill;rw[T'.d];rfl
   have u:=T'.n;rw[KI,G.length_eq,T5]at u;unfold tooFull;rw[J,u,H];simp;lia
  .rw[H,l.length_eq];lia
  .exact (YO p (l.mem_iff.mp W)).keep x q I
  .exact ((l.map (·.1)).nodup_iff).mpr Yb
 exact KL j
theorem u_(hu:A.units<NZ)(P:SP prog w s.heap S kb)(U:TK prog w s.heap k x)(hn:kb.length<1000)
  (h:∀b J XH,OD S s.heap J->SP prog w J S XH->(if k∈kb.map (·.1) then XH=kb else XH.Perm (kb++[(k,x)]))->Q b {s with heap:=J }):
  LH (LM prog w) A (setAddHashed S (.ref x) (hsh prog w k)) Q E s:=by
 obtain⟨⟨o,c,X,t,g,u,f,M,T,hl,W,Zc,YG⟩,V,Yb⟩:=P;have P0:SP prog w s.heap S kb:=⟨⟨o,c,X,t,g,u,f,M,T,hl,W,Zc,YG⟩,V,Yb⟩;have F:c.size=kb.length:=by rw[<-Li,M];simp[ents]
 have Z:t.fits c.size=true:=T.fits (by rw[KI,F]);obtain⟨N,hN,h0,h1⟩:=vU T (hsh prog w k);have hN':N<100000:=by unfold turns at hN;lia
 unfold setAddHashed setAddHashedIn;refine MS (KL (NG g f Z ?_));dsimp only;rw[vw];simp only[Ln,if_false];unfold setSearch;refine KL (uu hu g f M T V U hN h0 h1 (λXk=>?_) (λG=>?_) 100000 0 none (Mm _) (by lia) rfl λm i p hm=>by lia)
 .dsimp only;have K:k ∉ kb.map (·.1):=λz=>by obtain⟨p,L,e⟩:=KZ.mp z;exact Xk p L e
  refine KL (NG g f Z ?_);dsimp only;generalize hj:(pth t.mask (hsh prog w k) N).j=j at *;have T1:=T.put (h:=hsh prog w k) (N:=N) (by rw[hj];exact h0) h1 (by have:=Bg (mask:=t.mask) (hsh prog w k) N;lia) (EJ T Zc);rw[hj]at T1;have v:(t.put j).1.plain=true:=W;have l:(t.put j).1.led=(!w.params.followText "set-order"):=hl;have y:(t.put j).1.mask=t.mask:=rfl;generalize (t.put j).1=d at *;generalize (t.put j).2=q at *;have R:(jd kb q (k,x)).length=kb.length+1:=by rw[(fV kb q (k,x)).length_eq];simp
  have C:(insertAt c q (hsh prog w k,LQ x)).toList=ents prog w (jd kb q (k,x)):=by
   rw[fO,M];unfold ents;rw[uF];rfl
  have D:(insertAt c q (hsh prog w k,LQ x)).size=kb.length+1:=by
   rw[<-Li,C];unfold ents;rw[KI,R]
  have T2:TOk d ((jd kb q (k,x)).map λp=>hsh prog w p.1):=by rw[uF];exact T1
  rw[if_pos v];refine KL (IR U ?_);rw[if_pos rfl]
  have I:(s.heap.update S (Qa (insertAt c q (hsh prog w k,LQ x)) d)).get? S=some {o with data:=.set (insertAt c q (hsh prog w k,LQ x)) (X+1) d }:=by
   have:=Me (Qa (insertAt c q (hsh prog w k,LQ x)) d) g (by rw[UZ _ d f];rfl);rw[UZ _ d f]at this;exact this
  have O:=OE s.heap S (Qa (insertAt c q (hsh prog w k,LQ x)) d)
  have n:∀p∈jd kb q (k,x),TK prog w (s.heap.update S (Qa (insertAt c q (hsh prog w k,LQ x)) d)) p.1 p.2:=λp L=>by
   have:=(fV kb q (k,x)).mem_iff.mp L;rcases LG.mp this with z |z
   .exact (V p z).keep g f O
   .rw[K9.mp z];exact U.keep g f O
  have r:((jd kb q (k,x)).map (·.1)).Nodup:=by
   rw[((fV kb q (k,x)).map (·.1)).nodup_iff,LO,OC];refine⟨Yb,by simp,λa ha b Y=>?_⟩;simp at Y;subst Y;rintro rfl;exact K ha
  refine KL (T4 g f ?_ (by rw[D,MA];lia));rw[On,OF];by_cases B:d.tooFull=true
  .rw[if_pos B,F,<-R];refine KL (IG (s:={s with heap:=s.heap.update S (Qa (insertAt c q (hsh prog w k,LQ x)) d) }) I u rfl C T2 l v n r (by lia) (by lia) λJ XH H P' pm=>KY ?_);exact h true J XH (O.trans H) P' (by rw[if_neg K];exact pm.trans (fV kb q (k,x)))
  .rw[if_neg B];refine KY (h true _ (jd kb q (k,x)) O ⟨⟨_,_,_,d,I,u,rfl,C,T2,l,v,by simpa using B,by rw[y,R];lia⟩,n,r⟩ (by rw[if_neg K];exact fV kb q (k,x)))
 .dsimp only;refine KY ?_;have K:k∈kb.map (·.1):=by obtain⟨p,L,e⟩:=G;exact KZ.mpr ⟨p,L,e⟩
  exact h false s.heap kb (T6 S s.heap) P0 (by rw[if_pos K])
end
section
variable {w:LL}{A:L7}
theorem TK.moved(x:TK prog w s.heap k b)(c:b ∉ wr)(m:Moved wr G s s'):TK prog w s'.heap k b:=by
 obtain⟨o,its,n,e,d,a,f⟩:=x;exact⟨o,its,n,m.heap b o c e,d,a,f⟩
theorem SP.moved(x:SP prog w s.heap S kb)(g:S ∉ wr)(e:∀p∈kb,p.2 ∉ wr)(m:Moved wr G s s'):SP prog w s'.heap S kb:=by
 obtain⟨⟨o,d,c,t,f,r⟩,b,h⟩:=x;exact⟨⟨o,d,c,t,m.heap S o g f,r⟩,λp a=>(b p a).moved (e p a) m,h⟩
structure Got(kx:Nat->List Int×Lm)(i:Nat)(kb:List (List Int×Lm)):Prop where
 src:∀p∈kb,∃j,j<i/\p=kx j
 all:∀j,j<i->(kx j).1∈kb.map (·.1)
 len:kb.length<=i
variable {R:UR→K8→Prop}{I:Lm}{fp wr:List Lm}{G:Array Qv→Array Qv→Prop}{n:Nat}{P:Nat→K3→Prop}{St:Nat→K8→Prop}
theorem Au(W:WalksS prog w A.in1 I fp wr G n P St)(Y:A.in1.units<NZ)(V:S ∉ fp)(d:Nat->List Int×Lm)(hP:∀i v,P i v->v=.ref (d i).2)(r:∀i,i<n->(d i).2 ∉ wr)(hn:n<=1000):
  ∀k i s u,n-i=k->i<=n->St i s->SP prog w s.heap S u->Got d i u->(∀j,j<n->TK prog w s.heap (d j).1 (d j).2)->
   (∀C E,Moved (S::wr) G s C->SP prog w C.heap S E->Got d n E->R (.ok (.ret .none)) C)->
   PM (LM prog w) A (.builtin "set.update.loop" ⟨[.ref S,.ref I],[]⟩) R s:=by
 have x:S ∉ wr:=λh=>V (W.sub _ h);have more:∀b∈wr,b∈S::wr:=λb y=>KN _ y;intro k
 induction k with
 |zero=>
  intro i s u hk hi N Q g X T;obtain rfl:i=n:=by lia
  refine MY PyProof.Rows.F.entry_set_update_loop ?_;rw[Mq PyProof.Rows.F.plain_set_update_loop _];refine KL (W.done s _ _ N λC m=>?_);exact KY (T C u (m.mono more) (Q.moved x (λp l=>by obtain⟨j,a,rfl⟩:=g.src p l;exact r j a) m) g)
 |succ k ih=>
  intro i s u hk hi N Q g X T;have D:i<n:=by lia
  have YO:∀p∈u,p.2 ∉ wr:=λp l=>by obtain⟨j,a,rfl⟩:=g.src p l;exact r j (by lia)
  refine MY PyProof.Rows.F.entry_set_update_loop ?_;rw[Mq PyProof.Rows.F.plain_set_update_loop _];refine KL (W.item i s _ _ D N λv f pv M m=>?_);obtain rfl:=hP i v pv;have B:=Q.moved x YO m;have q:∀j,j<n->TK prog w f.heap (d j).1 (d j).2:=λj a=>(X j a).moved (r j a) m;refine KL (MS ?_);unfold setAdd;refine MS (KL (wpAny_pyHash_tuple Y (q i D) ?_));refine u_ (s:={f with toks:=f.toks+((d i).1.length+1) }) Y B (q i D) (by have:=g.len;lia) λb h' E J U c=>?_;obtain⟨⟨o,es,ep,t,Z,hex,hd,K⟩,hks,Yb⟩:=B;have same:∀b o,b ∉ S::wr->f.heap.get? b=some o->h'.get? b=some o:=λb o y e=>by rw[J.2 b (λz=>y (by rw[z];exact K0))];exact e
  refine KY ⟨M0 PyProof.Rows.F.plain_set_update_loop _,ih (i+1) _ E (by lia) D (W.frame _ f _ _ M (by show f.toks<=f.toks+_;lia) λb y o e=>?_) U ?_ (λj a=>(q j a).keep Z hd J) λs2 O m2 H g2=>?_⟩
  .rw[J.2 b (λz=>V (by rw[<-z];exact y))];exact e
  .by_cases L:(d i).1∈u.map (·.1)
   .rw[if_pos L]at c;subst c;refine⟨λp l=>?_,λj a=>?_,by have:=g.len;lia⟩
    .obtain⟨j,a,e⟩:=g.src p l;exact⟨j,by lia,e⟩
    .rcases LC (Mx a) with z |z
     .exact g.all j z
     .rw[z];exact L
   .rw[if_neg L]at c;refine⟨λp l=>?_,λj a=>?_,by rw[c.length_eq];have:=g.len;simp;lia⟩
    .rcases LG.mp (c.mem_iff.mp l) with z |z
     .obtain⟨j,a,e⟩:=g.src p z;exact⟨j,by lia,e⟩
     .exact⟨i,Mf i,by rw[K9.mp z]⟩
    .rw[(c.map (·.1)).mem_iff,LO];rcases LC (Mx a) with z |z
     .exact LI _ (g.all j z)
     .rw[z];exact Lv _ (by simp)
  .exact T s2 O (Moved.trans W.gtrans ((m.mono more).then_heap (by show f.toks<=f.toks+_;lia) same) m2) H g2
end
section
variable {w:LL}{A:L7}{s:K8}
abbrev cO(w:LL):Obj:={cls:=.type "set",dict:=none,data:=.set #[] 0 (.fresh 0 0 (!w.params.followText "set-order")) }
theorem Ch:TOk (.fresh 0 0 (!w.params.followText "set-order")) [] where
 R:=by intro i j x y _ h;simp[SetTable.fresh]at h
 d:=rfl
 k:=⟨3,by decide,rfl⟩
 n:=rfl
 f:=by show 0<=7;decide
 le:=by intro i x h;simp[SetTable.fresh]at h
 reach:=by intro i x h a;simp[SetTable.fresh]at a
theorem AB(e:h.get? S=some (cO w)):SP prog w h S []:=by
 refine⟨⟨_,_,_,_,e,⟨rfl,rfl,rfl⟩,rfl,rfl,Ch,rfl,rfl,by simp[SetTable.tooFull,SetTable.fresh,SetTable.fill],by show 7<8;decide⟩,λp a=>by simp at a,by simp⟩
theorem Ej(a)(h:Q (.ref s.heap.objs.size) {s with heap:=s.heap.push (cO w) }):
  PM (LM prog w) A (.call (.builtin "set.__new__") ⟨[.type "set",a],[]⟩) (wants Q E) s:=by
 refine U0 ?_;refine KL (S5 (PySem.F.newCall_set_1 a) (KY ⟨M0 Sb _,MY PySem.F.entry_set_new ?_⟩));rw[Mq Sb _];unfold Builtin.«set.__new__» Builtin.Frozenset.newClass;have b:=sub_set_self
 wp_walk
 refine Pp (KY ?_);simp only[newObj];exact KL (wpAny_alloc (KY (KY h)))
set_option maxRecDepth 100000 in
theorem call_set_pts(t:Nat->List Int×Lm)(hh:A.handled=none)(hu:A.in1.in1.in1.units<NZ)(hl:s.heap.IsList l items)
  (Xo:∀i (v:K3),items[i]?=some v->v=.ref (t i).2) (XC:∀i,i<items.size->TK prog w s.heap (t i).1 (t i).2) (hn:items.size<=1000)
  (h:∀a I f,SP prog w a s.heap.objs.size f->Got t items.size f->(∀b o,s.heap.get? b=some o->a.get? b=some o)->Q (.ref s.heap.objs.size) {s with heap:=a,toks:=I }):
  LH (LM prog w) A (call (.type "set") [.ref l]) Q E s:=by
 obtain⟨cc,tl,V⟩:=Nl.mro;have L:=Nl.made;have hsub:=Nl.sub;refine Vv (U0 ?_);refine KY ⟨Code.quiet_builtin _ (by decide+kernel),MY PySem.F.entry_type_call ?_⟩;rw[Around.under_plain (weight_type_call_type "set" [.ref l] []) rfl];have g1:=Nl.notType;have g2:=Nl.canCreate;have g3:=PySem.F.typeCall_set_1 (.ref l)
 repeat (any_goals (first |assumption |wp_step))
 refine Px (Ej (w:=w) (.ref l) (E:=E) (Q:=λD WE=>D=.ref s.heap.objs.size/\WE={s with heap:=s.heap.push (cO w) }) ⟨rfl,rfl⟩) λr WE M=>?_;cases r with
 |error e=>exact M
 |ok fl=>
  cases fl with
  |ret D=>
   obtain⟨rfl,rfl⟩:=M;have hS:(s.heap.push (cO w)).get? s.heap.objs.size=some (cO w):=Le _ rfl;have hT:Shared.TypeIs {s with heap:=s.heap.push (cO w) } (.ref s.heap.objs.size) "set":=⟨_,hS,rfl⟩
   have hli:=Nl.init.lookup;have hbi:=Nl.init.bind (.ref s.heap.objs.size)
   repeat (any_goals (first |assumption |wp_step))
   refine Px (codeAny_call_builtin (R:=wants (λr Y=>r=.none/\∃a I f,Y={s with heap:=a,toks:=I }/\
     SP prog w a s.heap.objs.size f/\Got t items.size f/\(∀b o,s.heap.get? b=some o->a.get? b=some o)) E) Nl.init.plain PySem.F.entry_set_init (check_set_init_1 hT ?_)) λu Y K=>?_
   .obtain⟨ol,H,x,X,C⟩:=hl;obtain⟨ocls,n,N,c⟩:=ol;simp only at x C;subst x;subst C;have G:(s.heap.push (cO w)).get? l=some {cls:=.type "list",dict:=n,data:=.seq items X,slots:=c }:=KU _ H;have k1:=PySem.F.sub_list_set;have k2:=PySem.F.sub_list_frozenset;have k3:(N3 "list"==N3 "dict")=false:=by decide
    have W:(s.heap.push (cO w)).IsList l items:=⟨_,G,rfl,X,rfl⟩;unfold Builtin.«set.__init__» noKeywords Builtin.Frozenset.updateFrom;generalize hPI:Uh=PI
    wp_walk
    subst hPI;refine NA W (KL (wpAny_runValue ?_));have B:l<s.heap.objs.size:=Lc H;have h3:A.in1.in1.in1.handled=none:=by simp[hh]
    have d:(s.heap.push (cO w)).objs.size=s.heap.objs.size+1:=MM ..;have y:l≠(s.heap.push (cO w)).objs.size:=by rw[d];exact LA (ND B)
    have XI:s.heap.objs.size ∉ [(s.heap.push (cO w)).objs.size,l]:=by
     rw[d];intro z;rcases KO.mp z with z |z
     .exact absurd z (LA (Mf _))
     .exact absurd (K9.mp z) (Pw B)
    refine Au ((Walks.list h3 _ l y items).toS) hu XI t Xo (λi hi=>?_) hn (items.size-0) 0 _ [] (by lia) (Mm _)
     ⟨⟨_,Le _ rfl,rfl,rfl⟩,(W.push _)⟩ ?_ ⟨λp hp=>by simp at hp,λj Z=>by lia,by simp⟩ (λj Z=>?_) λs' f m O g=>?_
    .intro z;have U:=K9.mp z;obtain⟨o,_,_,J,_⟩:=XC i hi;have:=Lc J;rw[U,d]at this;exact LS _ (MG (Mf _) this)
    .exact AB (KU _ hS)
    .obtain⟨o,its,k,J,r⟩:=XC j Z;exact⟨o,its,k,KU _ (KU _ J),r⟩
    .obtain⟨a,g',d',T,S⟩:=s';obtain rfl:g'=s.gens:=m.gens;obtain rfl:d'=s.drawn:=m.drawn;obtain rfl:S=s.os:=m.os;refine KY ?_;show LH _ _ (ret Oe) _ _ _;refine KY ⟨rfl,a,T,f,rfl,O,g,λb o e=>?_⟩;have P:=Lc e;refine m.heap b o (λz=>?_) (KU _ (KU _ e));rcases KO.mp z with z |z
     .exact absurd z (LA P)
     .have U:=K9.mp z;rw[U,d]at P;exact LS _ (MG (Mf _) P)
   .cases u with
    |error e=>exact K
    |ok q=>
     cases q with
     |ret r=>
      obtain⟨rfl,a,I,f,rfl,O,g,Y9⟩:=K
      repeat (any_goals (first |assumption |wp_step))
      exact h _ _ f O g Y9
     |_=>exact K.elim
  |_=>exact M.elim
end
theorem eU:Slot "set_iterator" "__next__" "set_iterator.__next__":=
 .of (owner:="set_iterator") (n:="__next__") (by rw[OW,NO];kernel_rfl) (by decide+kernel) (by decide+kernel) (by decide+kernel) (by first |exact .inl (by decide+kernel) |exact .inr (by decide+kernel)) (by rw[Qj];kernel_rfl)
theorem mf:entryFor table "set_iterator.__next__"=some Builtin.«set_iterator.__next__»:=entryFor_of_tree (by kernel_rfl)
theorem pI(a):argsOk "set_iterator.__next__" ⟨[a],[]⟩:=by unfold argsOk;kernel_rfl
theorem v4:entryFor table "set.__iter__"=some Builtin.«frozenset.__iter__»:=Vg (id':="frozenset.__iter__") (by kernel_rfl) rfl (by decide+kernel) (by kernel_rfl)
theorem vm{α:Type}{l:List α}(h:i<l.length):(l[i]::l.eraseIdx i).Perm l:=by
 rw[List.eraseIdx_eq_take_drop_succ];refine RI.symm.trans ?_;rw[<-Oo h,OV]
theorem xE{α:Type}(next):∀WL k a (out:Array α),a.length=WL->(pickOrder.go next WL k a out).toList.Perm (out.toList++a)
 |0,k,a,out,h=>by
  obtain rfl:a=[]:=Nk.mp h;rw[pickOrder.go,Nj]
 |WL+1,k,a,out,h=>by
  have b:next k%a.length<a.length:=NF _ (by lia)
  rw[pickOrder.go,KJ b];refine (xE next WL (k+1) _ _ (by rw[List.length_eraseIdx_of_lt b];lia)).trans ?_;rw[Array.toList_push,O9];refine Se _ ?_;rw[List.singleton_append];exact vm b
theorem Cs{α:Type}(next)(xs:Array α):(Tp next xs).toList.Perm xs.toList:=by
 unfold Tp;have:=xE next xs.size 0 xs.toList #[] (by simp)
 simpa using this
section
variable {w:LL}{A:L7}{s:K8}
noncomputable def de(w:LL)(S:Lm)(a:Array (Int×K3))(b:Nat):List K3:=(if w.params.followText "set-order"=true then Tp (w.params.setOrder S b) a else a).toList.map (·.2)
theorem f7(w)(S)(es)(ep):(de w S es ep).Perm (es.toList.map (·.2)):=by
 refine List.Perm.map _ ?_;split
 .exact Cs _ es
 .exact SY _
def hX(t:SetTable):Nat->Nat
 |0=>0
 |j+1=>t.place.getD j 0+1
def ba(w:LL)(t:SetTable)(i:Nat):Nat:=if w.params.followText "set-order"=true then 0 else hX t i
def wq(w:LL)(h:Nh)(b S:Lm)(t:SetTable)(i n a:Nat):Prop:=∃o,h.get? b=some o∧o.cls=.type "set_iterator"∧o.data=.fields #[RC (ba w t i),RC i,.ref S,RC n,RC a]
theorem wq.ty(x:wq w s.heap it S t i n ep):s.TypeIs (.ref it) "set_iterator":=let ⟨o,ho,hc,_⟩:=x;⟨o,ho,hc⟩
structure SO(prog:Lg)(w:LL)(o:Obj)(es:Array (Int×K3))(ep:Nat)(t:SetTable)(hs:List Int):Prop where
 ex:o.ExactSet
 d:o.data=.set es ep t
 T:TOk t hs
 n:hs.length=es.size
 led:t.led=(!w.params.followText "set-order")
 plain:t.plain=true
theorem BN{es ep t hs}(O:SO prog w o es ep t hs)(a:s.heap.get? S=some o)(h:Q false s):LH (LM prog w) A (setDrawn S) Q E s:=by
 refine KL (NG a O.d (O.T.fits O.n) (KL (KL (Pp (KY (KY ?_))))));have q:Q (!w.params.followText "set-order" && (!t.plain && decide (es.size >1))) s:=by rw[O.plain];simpa using h
 exact q
theorem C5{es ep t hs}(O:SO prog w o es ep t hs)(a:s.heap.get? S=some o)
  (hQ:Q (.ref s.heap.objs.size) {s with heap:=s.heap.push {cls:=.type "set_iterator",data:=.fields #[RC 0,RC 0,.ref S,RC es.size,RC ep] } }):LH (LM prog w) A (Uh (.ref S)) Q E s:=by
 have b:s.TypeIs (.ref S) "set":=⟨o,a,O.ex.1⟩;refine T7 b Sf (M3 Sf b v4 ?_ (PySem.F.args_set_iter_1 _));show LH _ _ (Builtin.Frozenset.sizeOf S >>=_) _ _ s;refine KL (KL (QE a O.d (O.T.fits O.n) (KY ?_)));refine KL (BN O a ?_);simp only[Ln,if_false];refine KL (KY ?_);refine KL (wpAny_setEpoch_of a O.d (O.T.fits O.n) ?_);refine KL (N4 (KY ⟨_,rfl,"set_iterator",_,⟨_,Le _ rfl,rfl⟩,eU.lookup,?_⟩));exact hQ
theorem wA(T:TOk t hs)(g:i<=t.place.size):below t.place (hX t i)=i:=by
 obtain⟨c,d,f⟩:=gj T.R (hX t i);cases i with
 |zero=>
  dsimp only[hX]at *;rcases QU (below t.place 0) with z |z
  .exact z
  .have:=c 0 _ z (fv (by lia));lia
 |succ j=>
  dsimp only[hX]at *;have a:j<t.place.size:=by lia
  have e:t.place.getD j 0=t.place[j]:=by simp[N7,a]
  rw[e]at c d f |-;generalize hb:below t.place (t.place[j]+1)=b at *;rcases N6 b (j+1) with z |z |z
  .have:=d j t.place[j] (by lia) (fv a);lia
  .exact z
  .have q:=c (j+1) _ z (fv (by lia));have:=T.R j (j+1) _ _ (by lia) (fv a) (fv (show j+1<t.place.size by lia));lia
theorem mt{es ep t hs}(O:SO prog w o es ep t hs)(c:s.heap.get? S=some o)(r:i<=es.size)
  (h:Q (((de w S es ep)[i]?).map λv=>(v,ba w t (i+1))) s):LH (LM prog w) A (setNext S (ba w t i) i ep) Q E s:=by
 have g:=O.T.fits O.n;have u:t.place.size=es.size:=by rw[O.T.n,O.n]
 refine KL (NG c O.d g (KL (KL (Pp (KY ?_)))));by_cases a:w.params.followText "set-order"=true
 .dsimp only;rw[show (LM prog w).w.params.followText "set-order"=true from a,if_pos rfl,if_neg (by simp)];refine KL (KL (NG c O.d g (KL (KL (Pp (KY ?_))))));rw[show (LM prog w).w.params.followText "set-order"=true from a,if_pos rfl];refine KL (Pp (KY (KY ?_)))
  have e:Ww (λe=>(e.2,ba w t i)) (Tp (w.params.setOrder S ep) es)[i]?=((de w S es ep)[i]?).map λv=>(v,ba w t (i+1)):=by
   unfold de ba;rw[if_pos a,if_pos a,if_pos a,K5,L4,Option.map_map];rfl
  have q:Q (Ww (λe=>(e.2,ba w t i)) (Tp (w.params.setOrder S ep) es)[i]?) s:=by rw[e];exact h
  exact q
 .have f:w.params.followText "set-order"=false:=by simpa using a
  rw[show (LM prog w).w.params.followText "set-order"=false from f,if_neg (by simp)];have m:ba w t i=hX t i:=by unfold ba;rw[if_neg a]
  have l:below t.place (ba w t i)=i:=by rw[m];exact wA O.T (by lia)
  have p:(match es[below t.place (ba w t i)]?,t.place[below t.place (ba w t i)]? with
    |some (_,x),some j=>some (x,j+1)
    |_,_=>none)=((de w S es ep)[i]?).map λv=>(v,ba w t (i+1)):=by
   rw[l];unfold de ba;rw[if_neg a,if_neg a,K5,L4];rcases Nr i es.size with z |z
   .have b:i<t.place.size:=by lia
    simp[z,b,N7,hX]
   .have b:t.place.size<=i:=by lia
    simp[z,b]
  split
  .rename_i k
   exact absurd (show (!t.plain && decide (es.size >1))=true from k) (by rw[O.plain];simp)
  .refine KL ?_;show LH _ _ (if (!t.led && !es.isEmpty)=true then unsupported "set:maker-not-led" else pure ()) _ _ _;rw[O.led,f,if_neg (by simp)];refine KY (KY ?_)
   have q:Q (match es[below t.place (ba w t i)]?,t.place[below t.place (ba w t i)]? with
    |some (_,x),some j=>some (x,j+1)
    |_,_=>none) s:=by rw[p];exact h
   exact q
theorem yU{es ep t hs}(O:SO prog w o es ep t hs)(f:s.heap.get? S=some o)(c:wq w s.heap it S t i es.size ep)(g:(de w S es ep)[i]?=some v)
  (hQ:∀e,wq w e it S t (i+1) es.size ep->OD it s.heap e->Q (some v) {s with heap:=e }):LH (LM prog w) A (SW (.ref it)) Q E s:=by
 obtain⟨m,a,j,b⟩:=id c;have k:=O.T.fits O.n;refine KL (Tq (PV c.ty eU (M3 eU c.ty mf ?_ (pI _))));refine KL (KY ?_);refine KL (Vh a b ?_);dsimp only[RC];refine KL (QE f O.d k ?_);rw[if_neg (by simp)]
 have l:i<es.size:=by
  have q:=(K_.mp g).1;rw[(f7 w S es ep).length_eq,KI,Li]at q;exact q
 rw[show ((ba w t i:Nat):Int).toNat=ba w t i from NH _,show (i:Int).toNat=i from NH _,show (ep:Int).toNat=ep from NH _];refine KL (mt O f (La l) ?_);rw[g];refine KL (SZ a b (by simp) ?_);have h:=Me (Obj.mapFields (·.setIfInBounds 0 (OQ ((ba w t (i+1):Nat)) 0))) a (Sg (Oi b _));refine KL (SZ h (Oi b _) (by simp) ?_);refine KY ⟨_,rfl,KY (hQ _ ?_ ((OE ..).trans (OE ..)))⟩;refine⟨_,Me _ h (Sg (Oi (Oi b _) _)),(T8 ..).trans ((T8 ..).trans j),?_⟩;rw[Oi (Oi b _)];simp[RC]
theorem Bf{es ep t hs}(g:A.handled=none)(O:SO prog w o es ep t hs)(e:s.heap.get? S=some o)(b:wq w s.heap it S t es.size es.size ep)
  (hQ:∀f,Heap.ExtBut it s.heap f->Q none {s with heap:=f }):LH (LM prog w) A (SW (.ref it)) Q E s:=by
 obtain⟨i,a,j,c⟩:=id b;have h:=O.T.fits O.n;refine KL (Tq (PV b.ty eU (M3 eU b.ty mf ?_ (pI _))));refine KL (KY ?_);refine KL (Vh a c ?_);dsimp only[RC];refine KL (QE e O.d h ?_);rw[if_neg (by simp)];rw[show ((ba w t es.size):Int).toNat=ba w t es.size from NH _,show (es.size:Int).toNat=es.size from NH _,show (ep:Int).toNat=ep from NH _];refine KL (mt O e (K1 _) ?_);rw[show (de w S es ep)[es.size]?=none from LJ (by rw[(f7 w S es ep).length_eq,KI,Li];exact K1 _)];refine KL (SZ a c (by simp) ?_);refine KL ?_;simp only[newExc,newTuple];refine KL (N4 ?_ (by size_fits));refine KL (S5 (by first |rfl | (simp only[firstArgMember];rfl)) ?_);refine N4 ?_ (by size_fits);simp only[raiseNew];refine KL (wpAny_handled ?_);rw[show A.in1.handled=none from g];refine KL (KY (wpAny_throw ?_));refine KL (NV ⟨_,Le _ rfl,rfl⟩ S0 ?_);exact KY (hQ _ (((OE ..).extBut.push _).push _))
end
end ST
namespace ST
open PySem PySem.SetTable PySem.W
theorem pA:Slot "set_iterator" "__iter__" "set_iterator.__iter__":=
 .of (owner:="set_iterator") (n:="__iter__") (by rw[OW,NO];kernel_rfl) (by decide+kernel) (by decide+kernel) (by decide+kernel) (by first |exact .inl (by decide+kernel) |exact .inr (by decide+kernel)) (by rw[Qj];kernel_rfl)
theorem v_:entryFor table "set_iterator.__iter__"=some Builtin.«dict_keyiterator.__iter__»:=Vg (id':="dict_keyiterator.__iter__") (by kernel_rfl) rfl (by decide+kernel) (by kernel_rfl)
theorem ze(a):argsOk "set_iterator.__iter__" ⟨[a],[]⟩:=by unfold argsOk;kernel_rfl
section
variable {prog:Lg}{w:LL}{A:L7}{E:K3→K8→Prop}{s:K8}
theorem DJ(a:wq w s.heap it S t i n ep)(h:Q (.ref it) s):LH (LM prog w) A (Uh (.ref it)) Q E s:=by
 refine T7 a.ty pA (M3 pA a.ty v_ ?_ (ze _));exact KY ⟨_,rfl,"set_iterator",_,a.ty,eU.lookup,h⟩
theorem zU(n:A.handled=none){d S:Lm}(u:S≠d){o:Obj}{es ep t hs}(O:SO prog w o es ep t hs):
  Walks prog w A d [d,S] [d] es.size (λi v=>(de w S es ep)[i]?=some v) (λi h=>wq w h d S t i es.size ep/\h.get? S=some o) where
 sub:=λb c=>by simp at c;simp[c]
 frame:=λ_ _ _ a m=>⟨let ⟨x,hx,r⟩:=a.1;⟨x,m d (by simp) x hx,r⟩,m S (by simp) o a.2⟩
 item:=λi s Q E q a f=>by
  obtain⟨v,l⟩:∃v,(de w S es ep)[i]?=some v:=⟨_,KJ (by rw[(f7 w S es ep).length_eq,KI,Li];exact q)⟩
  refine yU O a.2 a.1 l λj g k=>?_;exact f v j s.toks l ⟨g,(k.2 S u).trans a.2⟩ λb x c e=>k.extBut b x (λz=>c (by simp[z])) e
 done:=λs Q E a f=>Bf n O a.2 a.1 λj p=>f j s.toks λb x c e=>p b x (λz=>c (by simp[z])) e
 self:=λ_ _ _ _ a f=>DJ a.1 f
theorem C7(c:s.TypeIs (.ref r) "set")(h:Q false s):LH (LM prog w) A (Builtin.List.listLengthHint (.ref r)) Q E s:=by
 unfold Builtin.List.listLengthHint;refine KL (OB c PySem.F.slot_set_len.lookup ?_);generalize hid:("set.__len__":String)=a
 wp_delta
 rw[show splitId a=some ("set","__len__") from by subst hid;decide+kernel];subst hid;refine KL (NV (T:="set") (b:=true) c (by rw[Qj];kernel_rfl) ?_);refine OX (λz=>absurd z (by decide)) (λ_=>?_);refine OX (λ_=>?_) (λz=>absurd (by decide+kernel) z);exact KL (Uq c (KY h))
theorem Et{S:Lm}{o:Obj}{es ep t hs}(O:SO prog w o es ep t hs):KdlSrc prog w "set" S S es.size (λi v=>(de w S es ep)[i]?=some v) (λh=>h.get? S=some o) where
 type:=λ_ a=>⟨o,a,O.ex.1⟩
 there:=λ_ a=>⟨Lc a,Lc a⟩
 keep:=λ_ _ a c=>c S (.inl rfl) o a
 notList:=by decide
 notTuple:=by decide
 hint:=λ_ _ _ _ a b=>C7 ⟨o,a,O.ex.1⟩ b
 iter:=λ_ s d a=>⟨_,_,(λ_ _ b=>C5 O a b),zU d (LA (Lc a)) O,⟨⟨_,Le _ rfl,rfl,by simp[ba,hX]⟩,KU _ a⟩⟩
end
end ST
namespace ST
open PySem PySem.W PyProof.Rows
inductive gW (lt:Nat->Nat->Bool) (n:Nat) {α:Type}:KasT α->α->Prop
 |ret (a:α):gW lt n (.ret a) a
 |ask {i j:Nat}{k:Bool->KasT α}{a:α}:i<n->j<n->gW lt n (k (lt i j)) a->gW lt n (.ask i j k) a
variable {lt:Nat→Nat→Bool}{n:Nat}
theorem gW.bind{α c:Type}{t:KasT α}{a:α}{f:α->KasT c}{b:c}(h:gW lt n t a)(h':gW lt n (f a) b):gW lt n (t.bind f) b:=by
 induction h with
 |ret a=>exact h'
 |ask g d _ e=>exact gW.ask g d (e h')
theorem gW.wp{α:Type}{t:KasT α}{a:α}(h:gW lt n t a)(c:∀i j C,i<n->j<n->C (lt i j) s->cmp i j C s){Q:α->K8->Prop}(q:Q a s):t.kasWp cmp Q s:=by
 induction h with
 |ret a=>exact q
 |ask e b _ d=>exact c _ _ _ e b (d q)
structure LtO(n:Nat)(lt:Nat->Nat->Bool):Prop where
 tr:∀i j k,lt i j=true->lt j k=true->lt i k=true
 tot:∀i j,i<n->j<n->i≠j->lt i j=false->lt j i=true
 asy:∀i j,lt i j=true->lt j i=false
abbrev g(p:Array Nat)(k:Nat):Nat:=p.getD k 0
theorem DA(h:p[k]?=q[l]?):g p k=g q l:=by
 unfold g;rw[MH,MH,h]
structure PP(n:Nat)(p:Array Nat):Prop where
 perm:p.toList.Perm (LP n)
theorem PP.size(h:PP n p):p.size=n:=by rw[<-Li,h.perm.length_eq,T5]
theorem PP.mem(h:PP n p)(a:k<n):g p k<n:=by
 have b:k<p.size:=by rw[h.size];exact a
 have e:g p k=p[k]:=by simp[g,N7,b]
 rw[e];exact Lx.mp (h.perm.mem_iff.mp (by simp))
theorem PP.inj(h:PP n p)(a:k<n)(b:l<n)(e:g p k=g p l):k=l:=by
 have j:k<p.toList.length:=by rw[Li,h.size];exact a
 have i:l<p.toList.length:=by rw[Li,h.size];exact b
 have f:=h.perm.nodup_iff.mpr RF;have c:g p k=p.toList[k]:=by simp[g,N7,h.size,a]
 have d:g p l=p.toList[l]:=by simp[g,N7,h.size,b]
 exact (RB f).mp (by rw[<-c,<-d,e])
theorem PP.of(h:PP n p)(a:q.Perm p):PP n q:=⟨(Array.perm_iff_toList_perm.mp a).trans h.perm⟩
def Srt(lt:Nat->Nat->Bool)(p:Array Nat)(m:Nat):Prop:=∀i j,i<j->j<m->lt (g p i) (g p j)=true
def Dsc(lt:Nat->Nat->Bool)(p:Array Nat)(m:Nat):Prop:=∀i j,i<j->j<m->lt (g p j) (g p i)=true
theorem Srt.one(p):Srt lt p 1:=λi j b a=>by omega
theorem Srt.more(O:LtO n lt)(S:Srt lt p m)(c:1<=m)(h:lt (g p (m-1)) (g p m)=true):Srt lt p (m+1):=λi j a b=>by
 rcases LC (Mx b) with z |z
 .exact S i j a z
 .subst z;rcases LC (show i<=j-1 by lia) with y |y
  .exact O.tr _ _ _ (S i (j-1) y (by lia)) h
  .subst y;exact h
theorem Dsc.more(O:LtO n lt)(S:Dsc lt p m)(c:1<=m)(h:lt (g p m) (g p (m-1))=true):Dsc lt p (m+1):=λi j a b=>by
 rcases LC (Mx b) with z |z
 .exact S i j a z
 .subst z;rcases LC (show i<=j-1 by lia) with y |y
  .exact O.tr _ _ _ h (S i (j-1) y (by lia))
  .subst y;exact h
theorem rH(O:LtO n lt)(P:PP n p):∀f m,1<=m->m+f=n->Srt lt p m->∃a,gW lt n (kas_asc p f m) a/\m<=a/\a<=n/\Srt lt p a/\(a<n->lt (g p a) (g p (a-1))=true)
 |0,m,b,c,S=>⟨m,.ret m,K1 _,by lia,S,λh=>by lia⟩
 |f+1,m,b,c,S=>by
  by_cases hc:lt (g p m) (g p (m-1))=true
  .refine⟨m,.ask (P.mem (by lia)) (P.mem (by lia)) ?_,K1 _,by lia,S,λ_=>hc⟩;rw[if_pos hc];exact .ret m
  .have Yd:lt (g p m) (g p (m-1))=false:=by simpa using hc
   have j:=O.tot _ _ (P.mem (show m<n by lia)) (P.mem (show m-1<n by lia)) (λe=>by have:=P.inj (by lia) (by lia) e;lia) Yd;obtain⟨a,r,l,k,i,d⟩:=rH O P f (m+1) (by lia) (by lia) (S.more O b j);refine⟨a,.ask (P.mem (by lia)) (P.mem (by lia)) ?_,by lia,k,i,d⟩;rw[if_neg hc];exact r
theorem um(O:LtO n lt)(P:PP n p):∀f m,1<=m->m+f=n->Dsc lt p m->∃a,gW lt n (kas_desc f p m 0) (p,a,0)/\m<=a/\a<=n/\Dsc lt p a
 |0,m,b,c,S=>⟨m,.ret _,K1 _,by lia,S⟩
 |f+1,m,b,c,S=>by
  by_cases hc:lt (g p m) (g p (m-1))=true
  .obtain⟨a,r,k,d,i⟩:=um O P f (m+1) (by lia) (by lia) (S.more O b hc);refine⟨a,.ask (P.mem (by lia)) (P.mem (by lia)) ?_,by lia,d,i⟩;rw[if_pos hc,if_neg (by lia)];exact r
  .have j:lt (g p m) (g p (m-1))=false:=by simpa using hc
   have h:=O.tot _ _ (P.mem (show m<n by lia)) (P.mem (show m-1<n by lia)) (λe=>by have:=P.inj (by lia) (by lia) e;lia) j;refine⟨m,.ask (P.mem (by lia)) (P.mem (by lia)) ?_,K1 _,by lia,S⟩;rw[if_neg hc];refine .ask (P.mem (by lia)) (P.mem (by lia)) ?_;rw[if_pos h];exact .ret _
theorem A2(P:PP n p)(a:m<=n)(b:k<m):g (kas_rev p 0 m) k=g p (m-1-k):=by
 refine DA ?_;unfold kas_rev;rw[getElem?_mirror (by rw[P.size];exact a) _ (by lia)];split
 .congr 1;lia
 .congr 1;lia
theorem Cb(P:PP n p)(i j):PP n (kas_rev p i j):=P.of (mirror_perm _ _ _ _)
theorem DX(P:PP n p)(a:m<=n)(D:Dsc lt p m):Srt lt (kas_rev p 0 m) m:=λi j c b=>by
 rw[A2 P a (by omega),A2 P a b];exact D _ _ (by omega) (by omega)
theorem zH(O:LtO n lt)(P:PP n p)(B:2<=n):∃m a,gW lt n (kas_count n p) (m,a)/\PP n a/\1<=m/\m<=n/\Srt lt a m:=by
 obtain⟨m,r,h,f,b,o⟩:=rH O P (n-1) 1 (K1 _) (by lia) (Srt.one p);by_cases c:m=n
 .exact⟨m,p,r.bind (by rw[if_pos (by simp[c])];exact .ret _),P,h,f,b⟩
 .have g:¬ ((m==n)=true):=by simpa using c
  by_cases k:m >1
  .refine⟨m,p,r.bind ?_,P,h,f,b⟩;rw[if_neg g,if_pos k];refine .ask (P.mem (by lia)) (P.mem (by lia)) ?_;rw[if_pos (b 0 (m-1) (by lia) (by lia))];exact .ret _
  .obtain rfl:m=1:=by lia
   have t:=Dsc.more O (λi j x y=>by lia) (K1 _) (o (by lia));obtain⟨d,w,z,q,l⟩:=um O P (n-2) 2 (by lia) (by lia) t;obtain⟨e,v,A,u,s,C⟩:=rH O (Cb P 0 d) (n-d) d (by lia) (by lia) (DX P q l);refine⟨e,kas_rev p 0 d,r.bind ?_,Cb P 0 d,by lia,u,s⟩;rw[if_neg g,if_neg k];refine gW.bind w ?_;rw[if_neg (by simp)];exact v.bind (.ret _)
theorem kF(O:LtO n lt)(P:PP n p)(d:k<n)(S:Srt lt p k):∀f l r,l<=r->r<=k->r-l<=f->(∀i,i<l->lt (g p i) (g p k)=true)->(∀i,r<=i->i<k->lt (g p k) (g p i)=true)->
  ∃c,gW lt n (kas_place p k f l r) c/\c<=k/\(∀i,i<c->lt (g p i) (g p k)=true)/\(∀i,c<=i->i<k->lt (g p k) (g p i)=true)
 |0,l,r,B,v,A,a,b=>⟨l,.ret l,by lia,a,λi x y=>b i (by lia) y⟩
 |f+1,l,r,B,v,A,a,b=>by
  unfold kas_place;by_cases hlr:l ≥ r
  .rw[if_pos hlr];exact⟨l,.ret l,by lia,a,λi x y=>b i (by lia) y⟩
  .rw[if_neg hlr];have hm:(l+r)/2<k:=by lia
   by_cases h:lt (g p k) (g p ((l+r)/2))=true
   .obtain⟨c,o,j,t,m⟩:=kF O P d S f l ((l+r)/2) (by lia) (by lia) (by lia) a λi q s=>by
     rcases LC q with z |z
     .exact O.tr _ _ _ h (S _ _ z s)
     .rw[<-z];exact h
    refine⟨c,.ask (P.mem d) (P.mem (by lia)) ?_,j,t,m⟩;rw[if_pos h];exact o
   .have w:lt (g p k) (g p ((l+r)/2))=false:=by simpa using h
    have u:=O.tot _ _ (P.mem d) (P.mem (show (l+r)/2<n by lia)) (λe=>by have:=P.inj d (by lia) e;lia) w
    obtain⟨c,o,j,t,m⟩:=kF O P d S f ((l+r)/2+1) r (by lia) v (by lia) (λi q=>by
     rcases LC (Mx q) with z |z
     .exact O.tr _ _ _ (S _ _ z hm) u
     .rw[z];exact u) b
    refine⟨c,.ask (P.mem d) (P.mem (by lia)) ?_,j,t,m⟩;rw[if_neg h];exact o
theorem ya(O:LtO n lt):∀f k p,k+f=n->PP n p->Srt lt p k->∃a,gW lt n (kas_bin f p k) a/\PP n a/\Srt lt a n
 |0,k,p,d,P,S=>⟨p,.ret p,P,by rw[<-d];exact S⟩
 |f+1,k,p,d,P,S=>by
  obtain⟨l,v,x,w,q⟩:=kF O P (show k<n by lia) S k 0 k (Mm _) (K1 _) (by lia) (λi h=>by lia) (λi h B=>by lia)
  have at_:∀j,g (VS p k (k-l)) j=if j=l then g p k else if l<j/\j<=k then g p (j-1) else g p j:=λj=>by
   have e:=getElem?_bubble (xs:=p) (src:=k) (by rw[P.size];lia) (k-l) (by lia) j;rw[show k-(k-l)=l by lia]at e
   split
   .rename_i z;rw[if_pos z]at e;exact DA e
   .rename_i z
    rw[if_neg z]at e;split
    .rename_i y;rw[if_pos y]at e;exact DA e
    .rename_i y;rw[if_neg y]at e;exact DA e
  have o:g (VS p k (k-l)) l=g p k:=by rw[at_,if_pos rfl]
  have m:∀j,l<j->j<=k->g (VS p k (k-l)) j=g p (j-1):=λj y z=>by rw[at_,if_neg (by lia),if_pos ⟨y,z⟩]
  have b:∀j,j<l->g (VS p k (k-l)) j=g p j:=λj y=>by rw[at_,if_neg (by lia),if_neg (by lia)]
  have t:Srt lt (VS p k (k-l)) (k+1):=λi j u A=>by
   rcases N6 j l with y |y |y
   .rw[b i (by lia),b j y];exact S _ _ u (by lia)
   .rw[y,o,b i (by lia)];exact w i (by lia)
   .rw[m j y (by lia)];rcases N6 i l with z |z |z
    .rw[b i z];exact S _ _ (by lia) (by lia)
    .rw[z,o];exact q (j-1) (by lia) (by lia)
    .rw[m i z (by lia)];exact S _ _ (by lia) (by lia)
  obtain⟨a,r,s,c⟩:=ya O f (k+1) (VS p k (k-l)) (by lia) (P.of (bubble_perm _ _ _)) t;exact⟨a,v.bind r,s,c⟩
theorem CD(O:LtO n lt)(d:2<=n):∃p,gW lt n (kas_sort n) p/\PP n p/\Srt lt p n:=by
 obtain⟨m,p,r,P,g,h,S⟩:=zH O (p:=VT (LP n)) ⟨by simp⟩ d;by_cases a:m<n
 .obtain⟨b,e,f,c⟩:=ya O (n-max m 1) (max m 1) p (by lia) P (by rw[show max m 1=m by lia];exact S);exact⟨b,r.bind (by rw[if_pos a];exact e),f,c⟩
 .obtain rfl:m=n:=by lia
  exact⟨p,r.bind (by rw[if_neg a];exact .ret _),P,S⟩
def ltP(a b:Int×Int):Bool:=decide (a.1<b.1\/(a.1=b.1/\a.2<b.2))
theorem kD(e:ltP a b=true)(d:ltP b c=true):ltP a c=true:=by
 unfold ltP at *;simp at *;lia
theorem iD(c:ltP a b=true):ltP b a=false:=by
 unfold ltP at *;simp at *;lia
theorem ltP_tot(h:a≠b)(c:ltP a b=false):ltP b a=true:=by
 unfold ltP at *;have:¬ (a.1=b.1/\a.2=b.2):=λz=>h (Mo z.1 z.2);simp at *;lia
section
variable {prog:Lg}{w:LL}{A:L7}{E:K3→K8→Prop}{s:K8}
theorem TK.two(k:TK prog w h [x,y] b):∃o its n t u,h.get? b=some o∧o.cls=.type "tuple"∧o.data=.seq its n∧its.toList=[.int x t,.int y u]:=by
 obtain⟨o,its,n,i,g,e,a⟩:=k;cases WS:its.toList with
 |nil=>rw[WS]at a;cases a
 |cons l r=>
  rw[WS]at a;cases a with
  |cons j f=>
   cases f with
   |cons d c=>
    cases c;obtain⟨t,rfl⟩:=P6 j;obtain⟨u,rfl⟩:=P6 d;exact⟨o,its,n,t,u,i,g,e,WS⟩
theorem GN(i:TK prog w s.heap [a.1,a.2] x)(l:TK prog w s.heap [b.1,b.2] y)(h:Q (ltP a b) s):LH (LM prog w) A (keyLt' (Sh true) (.ref x) (.ref y)) Q E s:=by
 obtain⟨o,its,n,t,u,j,_,k,g⟩:=i.two;obtain⟨r,c,B,C,v,q,_,p,e⟩:=l.two;refine kat_lt j k q p ?_;rw[g,e];refine kat_cons ((Qn prog w).eqBool (a:=a.1) (b:=b.1) (Mt _ _ _ _) (Mt _ _ _ _) ?_);by_cases d:a.1=b.1
 .rw[decide_eq_true d];refine kat_yes (kat_cons ((Qn prog w).eqBool (a:=a.2) (b:=b.2) (Mt _ _ _ _) (Mt _ _ _ _) ?_));by_cases f:a.2=b.2
  .rw[decide_eq_true f];refine kat_yes (kat_nil ?_);have z:ltP a b=false:=by unfold ltP;simp;lia
   rw[z]at h
   have m:decide (its.size<c.size)=false:=by
    rw[<-Li,<-Li,g,e];simp
   rw[m];exact h
  .rw[decide_eq_false f];refine kat_no (kat_one _ _ (lt_int ?_));have z:ltP a b=decide (a.2<b.2):=by unfold ltP;rw[d];simp
   rw[z]at h;exact h
 .rw[decide_eq_false d];refine kat_no (oneLt_int ?_);have z:ltP a b=decide (a.1<b.1):=by unfold ltP;simp[d]
  rw[z]at h;exact h
abbrev PB:=List ((Int×Int)×Lm)
abbrev refs(pb:PB):List K3:=pb.map λp=>LQ p.2
theorem BC(e:∀p∈pb,TK prog w s.heap [p.1.1,p.1.2] p.2)(m:0<pb.length)(h:Q (Sh true) s):LH (LM prog w) A (VL (refs pb).toArray) Q E s:=by
 obtain⟨fs,b,d,c⟩:∃fs,KatTups s.heap (refs pb) fs/\fs.length=pb.length/\∀v∈fs,∃n t,v=OQ n t:=by
  clear h m
  induction pb with
  |nil=>exact⟨[],.nil,rfl,λv a=>by simp at a⟩
  |cons p r k=>
   obtain⟨fs,b,d,c⟩:=k λq f=>e q (KN _ f);obtain⟨o,its,n,t,u,i,g,l,j⟩:=(e p K0).two;refine⟨.int p.1.1 t::fs,.cons i g l (by rw[<-L4,j];rfl) b,by simp[d],λv a=>?_⟩;rcases KO.mp a with z |z
   .exact⟨_,_,z⟩
   .exact c v z
 refine kat_kind (T:=.type "int") b (by lia) (λv a=>?_) (by decide) h;obtain⟨n,t,rfl⟩:=c v a;exact Looks.of_pure rfl
end
end ST
namespace ST
open PySem PySem.W PyProof.Rows PySem.Calls
theorem AY{α j:Type}(f:α->j){l m:List j}(h:l.Perm m):∀a,m=a.map f->∃b,Re b a/\l=List.map f b:=by
 induction h with
 |nil=>intro a e;exact⟨a,.refl _,e⟩
 | @cons x l m _ r=>
  intro a e
  match a,e with
  |[],e=>simp at e
  |k::a,e=>
   rw[Lb,U1]at e;obtain⟨b,p,q⟩:=r a e.2;exact⟨k::b,p.cons k,by rw[Lb,<-q,e.1]⟩
 |swap x y l=>
  intro a e
  match a,e with
  |[],e=>simp at e
  |[_],e=>simp at e
  |k::k'::a,e=>
   simp only[Lb,U1]at e;exact⟨k'::k::a,.swap k k' a,by rw[Lb,Lb,<-e.2.2,e.1,e.2.1]⟩
 |trans _ _ i c=>
  intro a e;obtain⟨d,t,o⟩:=c a e;obtain⟨g,n,s⟩:=i d o;exact⟨g,n.trans t,s⟩
def ptsOf(a:List (List Int×Lm)):PB:=a.map λp=>((p.1.getD 0 0,p.1.getD 1 0),p.2)
end ST
namespace ST
open PySem
def ins(x:Int×Int):List (Int×Int)->List (Int×Int)
 |[]=>[x]
 |y::r=>if x=y then y::r else if ltP x y=true then x::y::r else y::ins x r
def srt(pts:List (Int×Int)):List (Int×Int):=pts.foldr ins []
theorem ins_mem(x z):∀l,z∈ins x l↔z=x\/z∈l
 |[]=>by simp[ins]
 |y::r=>by
  unfold ins;split
  .rename_i h;subst h;simp
  .split
   .simp
   .rw[KO,ins_mem x z r,KO];constructor
    .rintro (h |h |h)
     .exact .inr (.inl h)
     .exact .inl h
     .exact .inr (.inr h)
    .rintro (h |h |h)
     .exact .inr (.inl h)
     .exact .inl h
     .exact .inr (.inr h)
abbrev Asc(l:List (Int×Int)):Prop:=l.Pairwise (λx y=>ltP x y=true)
theorem ins_asc(x):∀l,Asc l->Asc (ins x l)
 |[],_=>by simp[ins]
 |y::r,h=>by
  unfold ins;split
  .exact h
  .rename_i f
   obtain⟨c,d⟩:=Lu.mp h;split
   .rename_i a
    refine Lu.mpr ⟨λz b=>?_,h⟩;rcases KO.mp b with e |e
    .rw[e];exact a
    .exact kD a (c z e)
   .rename_i a
    refine Lu.mpr ⟨λz b=>?_,ins_asc x r d⟩;rcases (ins_mem x z r).mp b with e |e
    .rw[e];exact ltP_tot f (by simpa using a)
    .exact c z e
theorem srt_mem(z):∀l,z∈srt l↔z∈l
 |[]=>by simp[srt]
 |y::r=>by
  show z∈ins y (srt r)↔_;rw[ins_mem,srt_mem z r,KO]
theorem srt_asc:∀l,Asc (srt l)
 |[]=>Pa
 |y::r=>ins_asc y (srt r) (srt_asc r)
theorem asc_irr:ltP x x=false:=by unfold ltP;simp
theorem asc_one:∀{l m},Asc l->Asc m->(∀z,z∈l↔z∈m)->l=m
 |[],[],_,_,_=>rfl
 |[],y::r,_,_,h=>by have:=(h y).mpr K0;simp at this
 |x::l,[],_,_,h=>by have:=(h x).mp K0;simp at this
 |x::l,y::m,hl,hm,h=>by
  obtain⟨d,g⟩:=Lu.mp hl;obtain⟨c,f⟩:=Lu.mp hm
  have e:x=y:=by
   rcases KO.mp ((h x).mp K0) with z |z
   .exact z
   .rcases KO.mp ((h y).mpr K0) with b |b
    .exact b.symm
    .have:=iD (c x z);rw[d y b]at this;cases this
  subst e;congr 1;refine asc_one g f λz=>⟨λa=>?_,λa=>?_⟩
  .rcases KO.mp ((h z).mp (KN _ a)) with e |e
   .have:=d z a;rw[e,asc_irr]at this;cases this
   .exact e
  .rcases KO.mp ((h z).mpr (KN _ a)) with e |e
   .have:=c z a;rw[e,asc_irr]at this;cases this
   .exact e
theorem asc_srt(h:Asc l):srt l=l:=asc_one (srt_asc l) h λz=>srt_mem z l
theorem wY(x):∀l,(ins x l).length<=l.length+1
 |[]=>by simp[ins]
 |y::r=>by
  have:=wY x r;unfold ins;split
  .simp
  .split
   .simp
   .simp only[Lk];lia
theorem srt_len:∀l,(srt l).length<=l.length
 |[]=>K1 _
 |y::r=>by
  have h1:=wY y (srt r);have a:=srt_len r;show (ins y (srt r)).length<=_;simp only[Lk];lia
end ST
namespace L2
open PySem PySem.Spec PyProof.Rows
theorem KH{p:Nat->Lm->Prop}(h:∀i,i<n->∃b,p i b):∃f:Nat->Lm,∀i,i<n->p i (f i):=by
 refine⟨λi=>if k:i<n then Ux (h i k) else 0,λi a=>?_⟩;dsimp only;rw[dif_pos a];exact Si (h i a)
theorem Bm:M7 "set"=some (.type "set"):=by decide+kernel
end L2
namespace ST
open PySem
variable {G:Array Qv→Array Qv→Prop}{P:Nat→K3→Prop}{T:String}
section
variable {prog:Lg}{w:LL}{A:L7}{s:K8}{R:UR→K8→Prop}{I:Lm}{fp wr:List Lm}{n:Nat}{St:Nat→K8→Prop}
def Fa(prog:Lg)(w:LL)(T:String):Prop:=∀(A:L7) (E:K3->K8->Prop) (s:K8) (r:Lm) (Q:Bool->K8->Prop),s.TypeIs (.ref r) T->(∀b,Q b s)->LH (LM prog w) A (Builtin.List.listLengthHint (.ref r)) Q E s
end
section
variable {prog:Lg}{w:LL}{A:L7}{E:K3→K8→Prop}{s:K8}{I:Lm}{Fi:K8→Prop}
theorem call_list_any(v:s.TypeIs (.ref I) T)(B:(N3 T==N3 "list")=false)(x:(N3 T==N3 "tuple")=false)(j:Fa prog w T)
  (self:∀d Q E,(∀b o,s.heap.get? b=some o->d.get? b=some o)->Q (.ref I) {s with heap:=d }->LH (LM prog w) A.in1.in1 (Uh (.ref I)) Q E {s with heap:=d })
  (loop:∀R d c,(∀b o,s.heap.get? b=some o→d.get? b=some o)→d.get? s.heap.objs.size=some {cls:=.type "list",dict:=none,data:=.seq #[] c,slots:=#[] }→(∀a,Fi a→R (.ok (.ret .none)) a)→PM (LM prog w) A.in1 (.builtin "list.extend.loop" ⟨[.ref s.heap.objs.size,.ref I,.none],[]⟩) R {s with heap:=d })
  (hQ:∀a,Fi a→Q (.ref s.heap.objs.size) a):LH (LM prog w) A (call (.type "list") [.ref I]) Q E s:=by
 refine callType_codes (Q₁:=λi q=>i=.ref s.heap.objs.size∧q={s with heap:=s.heap.push {cls:=.type "list",data:=.seq #[] } }) PySem.F.called_list (PySem.F.typeCall_list_1 _) PySem.F.entry_list_init (code_list_new _ ⟨rfl,rfl⟩) λi q h=>?_;obtain⟨rfl,rfl⟩:=h;have k:(s.heap.push {cls:=.type "list",data:=.seq #[] }).get? s.heap.objs.size=some {cls:=.type "list",data:=.seq #[] }:=Le _ rfl;have t:∀b o,s.heap.get? b=some o→(s.heap.push {cls:=.type "list",data:=.seq #[] }).get? b=some o:=λb o e=>KU _ e;have lt:∀b o,s.heap.get? b=some o->s.heap.objs.size≠b:=λb o e=>Pw (Lc e);generalize s.heap.objs.size=S at *;refine⟨⟨_,k,rfl⟩,PySem.F.args_list_init_2 _ _,?_⟩;refine KL ?_;refine KL (NL k rfl (KY ?_));refine KL (Nn k rfl ?_);have m:=Me (NB (λ_=>#[])) k rfl;have l:∀b o,s.heap.get? b=some o→((s.heap.push {cls:=.type "list",data:=.seq #[] }).update S (NB (λ_=>#[]))).get? b=some o:=λb o e=>(LZ _ _ (lt b o e)).trans (t b o e);refine KL (OY ?_);generalize (s.heap.push {cls:=.type "list",data:=.seq #[] }).update S (NB (λ_=>#[]))=z at *
 obtain⟨y,p,u⟩:=v;have g:({s with heap:=z }:K8).TypeIs (.ref I) T:=⟨y,l _ _ p,u⟩
 refine KL (Uq g ?_);have r:Builtin.List.listSameRef (.ref S) (.ref I)=false:=by simp[Builtin.List.listSameRef,lt _ _ p]
 simp only[r,B,x,VD,Ln,if_false];refine KL (self _ _ _ l (KL (MS (j _ _ _ _ _ g λb=>?_))));refine OX (λ_=>?_) (λ_=>KY ⟨M0 Oq _,loop _ _ _ l m λa f=>⟨rfl,hQ a f⟩⟩);refine KL (P7 (KL ?_));refine KL (Nn m rfl ?_);have n:=Me (NB (·.push Oe)) m rfl;refine Nn n rfl (KY ⟨M0 Oq _,loop _ _ _ (λb o e=>?_) (Me (NB (·.pop)) n rfl) λa f=>⟨rfl,hQ a f⟩⟩);exact (LZ _ _ (lt b o e)).trans ((LZ _ _ (lt b o e)).trans (l b o e))
end
section
variable {prog:Lg}{w:LL}{A:L7}{E:K3→K8→Prop}{s:K8}{I:Lm}{fp wr:List Lm}{n:Nat}{St:Nat→K8→Prop}
theorem call_list_it(W:WalksS prog w A.in1.in1 I fp wr G n P St)(u:∀i s,St i s→s.TypeIs (.ref I) T)(z:(N3 T==N3 "list")=false)(v:(N3 T==N3 "tuple")=false)(h:Fa prog w T)(r:St 0 s)(j:∀b∈fp,b<s.heap.objs.size) 
  (hQ:∀a d f,Moved (s.heap.objs.size::wr) G s a->
   a.heap.get? s.heap.objs.size=some {cls:=.type "list",dict:=none,data:=.seq d f,slots:=#[] }→ItemsOf P d n→Q (.ref s.heap.objs.size) a) (hn:n≤sizeLine):
  LH (LM prog w) A (call (.type "list") [.ref I]) Q E s:=
 call_list_any (Fi:=λa=>∃d f,Moved (s.heap.objs.size::wr) G s a∧a.heap.get? s.heap.objs.size=some {cls:=.type "list",dict:=none,data:=.seq d f,slots:=#[] }∧ItemsOf P d n) (u 0 s r) z v h (λp Q E k q=>W.self 0 _ _ _ (W.frame 0 s p s.toks r (K1 _) λb _ o e=>k b o e) q)
  (λR p c k g y=>codeAny_extend_loopS W hn _ (λt=>LS _ (j _ t)) _ n 0 _ _ _ rfl (Mm _) (W.frame 0 s p s.toks r (K1 _) λb _ o e=>k b o e) g (ItemsOf.nil P) λa d f m x l=>y a ⟨d,f,Moved.trans W.gtrans ((Moved.refl W.grefl).then_heap (K1 _) λb o _ e=>k b o e) m,x,l⟩) λa ⟨d,f,m,g,l⟩=>hQ a d f m g l
end
theorem ER:SJ (.type "list_reverseiterator") "__len__"=pure none:=by rw[OW,NO];kernel_rfl
theorem oH:Slot "list_reverseiterator" "__length_hint__" "list_reverseiterator.__length_hint__":=
 .of (owner:="list_reverseiterator") (n:="__length_hint__") (by rw[OW,NO];kernel_rfl) (by decide+kernel) (by decide+kernel) (by decide+kernel) (by first |exact .inl (by decide+kernel) |exact .inr (by decide+kernel)) (by rw[Qj];kernel_rfl)
theorem hint_rev(prog)(w):Fa prog w "list_reverseiterator":=λA E s r Q c h=>by
 refine KL (OB c ER ?_);refine KL (OB c oH.lookup ?_);generalize hid:"list_reverseiterator.__length_hint__"=a
 wp_delta
 rw[show splitId a=some ("list_reverseiterator","__length_hint__") from by subst hid;decide+kernel];subst hid;refine KL (NV (b:=true) c (by rw[Qj];kernel_rfl) ?_);refine OX (λz=>absurd z (by decide)) (λ_=>?_);refine OX (λ_=>?_) (λz=>absurd (by decide+kernel) z);refine OX (λz=>absurd z (by decide+kernel)) (λ_=>KY (h _))
end ST
namespace L2
open PySem PySem.Spec PyProof.Rows
theorem oF:M7 "reversed"=some (.type "reversed"):=by decide+kernel
theorem aS.rev:∀{c}{d},aS c d->aS c.reverse d.reverse:=λ{c d} r=>by
 induction r with
 |nil=>exact .nil
 | @cons x u c d g j h=>
  rw[Qb,Qb]
  have e:∀{a}{b},aS a b->aS (a++[x]) (b++[u]):=λ{a b} q=>by
   induction q with
   |nil=>exact .cons g .nil
   |cons i _ f=>exact .cons i f
  exact e h
theorem Rps.rev{K:KM}(r:Rps K H vs xs):Rps K H vs.reverse xs.reverse:=⟨by simp[r.len],λi v x a b=>by
 have c:i<vs.length:=by have:=aK a;simpa using this
 have d:i<xs.length:=by rw[<-r.len];exact c
 rw[MJ c]at a;rw[MJ d,<-r.len]at b;exact r.at_ _ v x a b⟩
section
variable {X:Cx}{H0:Hp}{O0:List Lm}{ps:PSt}{e k:Expr}{x:U}{xs:List U}{pos WU p p' p2:Pos}
theorem zT{K:KM}(e:Rp K H v x)(g:x=.lst xs\/x=.scr xs):∃a f,v=.ref a/\SqL K H a f/\Rps K H f xs:=by
 rcases g with rfl |rfl
 .cases e with
  |lst b d c=>exact⟨_,_,rfl,SqL.of b,d,c⟩
 .cases e with
  |scr b d c=>exact⟨_,_,rfl,b,d,c⟩
theorem Ju(C:Ev X H0 O0 ps e x)(P:Ev X H0 O0 ps k (.int (-1)))(w:x=.lst xs\/x=.scr xs):EvN X H0 O0 ps (.Subscript e (.Slice none none (some k) p2) pos) xs.reverse:=by
 rintro i s m H Q I ⟨O,R,q⟩;refine TZ (thn (C i s m H (λv d=>aT H d/\Rp X.K (hid d O) v x) I ⟨O,R,λv d n l=>⟨n,l⟩⟩) λu n S=>?_);obtain⟨v,d,J,l,j,N⟩:=S;obtain⟨a,B,rfl,y,A⟩:=zT N w;cases l;refine wpAny_Slice ?_;rw[Tg];refine KY (KY ?_);rw[evalPart_some];refine thn (P i n m d (λv f=>aT d f/\v=.int (-1)) J ⟨O,R.go j,λv f g F=>⟨g,by cases F;rfl⟩⟩) λT g hy=>?_;obtain⟨V,f,M,G,c,rfl⟩:=hy;obtain⟨t,rfl⟩:=G;have o:Inv X i m f {g with heap:=g.heap.push {cls:=.type "slice",data:=.fields #[.none,.none,.int (-1) t] } }:=M.kept λb E z=>KU _ z;obtain⟨its,r,p,L⟩:=o.list (c.seq (aE.seq y));have U:=r.length;refine tail_any p.isList.typeIs slot_list_getitem.lookup ?_ (by with_unfolding_all rfl);refine Q_ p.isList (Th ..) .none .none (IsPart.int _ _) (by simp) ?_ (by rw[Lj];lia);rw[PySem.W.krv_pick];generalize hn:(g.heap.push {cls:=.type "slice",data:=.fields #[.none,.none,.int (-1) t] }).objs.size=D;have h:f D=none:=o.hok.fresh (by rw[<-hn];exact K1 _);refine⟨.ref D,upd f D (.lst B.reverse),o.laid (λb E z=>KU _ z) (by rw[<-hn];exact K1 _) ⟨by rw[L3];exact L,its.reverse,0,r.rev,?_⟩,rfl,?_⟩
 .rw[<-hn];exact Le _ rfl
 .refine q D _ _ ((j.trans c).trans (aO h _)) ((j.trans c).free h) aH ?_;exact (A.rev.same (aN c)).same (bu (aO h _) h)
theorem yF(hc:X.calm=true)(hg:Gl X "list")(hm:X.mg "list"=none)(J:Gl X "reversed")(G:X.mg "reversed"=none)(ha:Ev X H0 O0 ps e (.lst xs))
  (he:autoParam (K7 [e] X.env=(false,Nq e X.env)::K7 [] X.env) w4):EvN X H0 O0 ps (.Call (.Name "list" p) [.Call (.Name "reversed" p') [e] [] WU] [] pos) xs.reverse:=by
 rintro x s C H Q I ⟨O,R,q⟩;have hh:=I.ok.hd hc;refine Ml (dj I hg hm QF ?_);refine callWith_type1 (e:=.Call (.Name "reversed" p') [e] [] WU) (rest:=[]) ?_ a9 rfl;rw[a9];refine PN ?_;refine Ml (dj I J G oF ?_);refine callWith_type1 (thn (cx ha dP he WU x s C H (λN g=>∃v,N=[v]/\aT H g/\Rp X.K (hid g O) v (.lst xs)) I ⟨O,R,λv g d r1=>⟨v,rfl,d,r1⟩⟩) λus d Z=>?_) he rfl;obtain⟨N,g,F,rv,v,rfl,M,rp⟩:=Z;obtain⟨u,rfl,ru⟩:=cX rv;obtain⟨a,P,rfl,hq,rs⟩:=zT rp (.inl rfl);cases ru;obtain⟨its,L,r,hz⟩:=F.list (aE.seq hq);have WG:=L.length;have f:its.toArray.size=its.length:=by simp
 refine call_reversed_list r.isList ?_;have I2:Inv X x C g {d with heap:=d.heap.push (Wq a ((its.toArray.size:Int)-1)) }:=F.kept (t':=d.toks) λb j z=>KU _ z;refine P8 ?_;have S:a<d.heap.objs.size:=by obtain⟨o,ho,_⟩:=r.isList;exact Lc ho
 have W:=(Walks.listRev (prog:=X.prog) (w:=X.w) (A:=X.A.in1.in1) hh d.heap.objs.size a (LA S) its.toArray).toS;refine ST.call_list_it (T:="list_reverseiterator") (s:={d with heap:=d.heap.push (Wq a ((its.toArray.size:Int)-1)) }) W (λi s' st=>st.2.1.typeIs) (by decide) (by decide) (ST.hint_rev _ _) ⟨Mm _,⟨_,Le _ rfl,rfl,by simp[Wq]⟩,r.isList.push _⟩ (λb h=>?_) (λs3 U c m hD B=>?_) (by rw[f];lia)
 .show b<(d.heap.push _).objs.size;rw[MM];simp at h;rcases h with z |z
  .rw[z];exact Mf _
  .rw[z];exact ND S
 .obtain⟨V,Y,d3,k,t⟩:=s3;obtain rfl:Y=d.gens:=m.gens;obtain rfl:d3=d.drawn:=m.drawn;obtain rfl:t=d.os:=m.os;have l:(d.heap.push (Wq a ((its.toArray.size:Int)-1))).objs.size=d.heap.objs.size+1:=MM ..
  have keep:∀b j,d.heap.get? b=some j->V.get? b=some j:=λb j z=>by
   have h:=Lc z;refine m.heap b j (λy=>?_) (KU _ z);rcases KO.mp y with y |y
   .rw[y]at h;have Xx:d.heap.objs.size+1<d.heap.objs.size:=by rw[<-l];exact h
    exact absurd Xx (by lia)
   .rw[K9.mp y]at h;exact LS _ h
  have YT:U.toList=its.reverse:=by
   apply N8;intro i;rcases Nr i U.size with z |z
   .have y:=B.2 i _ (NM z);have E:i<its.length:=by rw[B.1,f]at z;exact z
    rw[L4,NM z,MJ E,<-y,f];simp
   .have E:its.length<=i:=by rw[B.1,f]at z;exact z
    rw[LJ (by simpa using z),LJ (by simpa using E)]
  generalize hn:(d.heap.push (Wq a ((its.toArray.size:Int)-1))).objs.size=D at *;have n:g D=none:=I2.hok.fresh (by rw[<-hn];exact K1 _);have I3:Inv X x C (upd g D (.lst P.reverse)) {d with heap:=V,toks:=k }:=F.laid (t':=k) (o:=.lst P.reverse) keep (by rw[l];exact Wa _) ⟨by rw[L3];exact hz,its.reverse,c,L.rev,by rw[<-YT,Array.toArray_toList];exact hD⟩;refine⟨.ref D,_,I3,rfl,q D _ _ (M.trans (aO n _)) (M.free n) aH ?_⟩;exact rs.rev.same (bu (aO n _) n)
end
section
variable {X:Cx}{H0:Hp}{O0:List Lm}{ps:PSt}{xs:List U}{us:List U}{es:List Expr}{x:Str}{pc p' pos:Pos}
theorem cP(n:Nat)(h:ps[n]?=some (some (.own xs)))(b:Gl X "len")(c:X.mg "len"=none)(e:autoParam (X.N[n]?=some x) w4)(d:autoParam (Vis X.env.scope x) v3)(a:autoParam ((x==("__debug__":Str))=false) v0)
  (W0:autoParam ((x==("__classdict__":Str))=false) v0) (WX:autoParam ((M4 pos (K7 [] X.env)).any (·.1)=false) w4):Ev X H0 O0 ps (.Call (.Name "len" pc) [.Name x p'] [] pos) (.int xs.length):=G3 n h b c e d a W0 af WX
end
end L2
namespace ST
open PySem
abbrev IsZ2(h:Nh)(z a c T:Lm)(b:Bool):Prop:=h.get? z=some {cls:=.type "zip",dict:=none,data:=.fields #[RC T,.bool b,.bool false,.ref a,.ref c],slots:=#[] }
section
variable {prog:Lg}{w:LL}{A:L7}{E:K3→K8→Prop}{s:K8}
theorem Jx(h:s.heap.get? T=some o)(q:Q (some o) s):LH (LM prog w) A (loadIfAlive T) Q E s:=λb p a=>by
 unfold loadIfAlive;rw[Sem.wp_loadIfAlive,h];simpa using q
theorem rW(e:IsZ2 s.heap z TI TO T b)(g:s.heap.get? T=some oT)(h:∀f,IsZ2 f z TI TO T true->OD z s.heap f->Q false {s with heap:=f }):
  LH (LM prog w) A (Builtin.SmallTypes.ownedTupleIsFree (.ref z)) Q E s:=by
 refine KL (S6 e rfl rfl ?_);refine KL (Jx (by rw[NH];exact g) ?_);rw[if_neg (by simp)];refine KL (S6 e rfl (x:=.bool b) rfl ?_);cases b with
 |true=>
  rw[if_neg (by decide)];exact KY (h s.heap e (T6 _ _))
 |false=>
  rw[if_pos (by decide)];refine KL (wpAny_setField_rec e (by simp) λd c a=>KY (h d c a))
theorem next_zip{Pt:Lm->Prop}(r:A.handled=none)(D:UK z TI TO i1 i2 l1 l2)
  (zz:(IsZip s.heap z TI TO .none/\∃a b,Vy s.heap TO a b)\/∃b T,Pt T/\(∃o,s.heap.get? T=some o)/\IsZ2 s.heap z TI TO T b) (hTI:Vy s.heap TI (.ref i1) (.ref i2))
  (h1:s.heap.IsListIter i1 l1 k) (h2:s.heap.IsListIter i2 l2 k) (Yr:s.heap.IsList l1 xs) (hl2:s.heap.IsList l2 ys)
  (hQ:∀x y h',xs[k]?=some x->ys[k]?=some y->(∃b T,(T=s.heap.objs.size\/Pt T)/\IsZ2 h' z TI TO T b)->h'.IsListIter i1 l1 (k+1)->h'.IsListIter i2 l2 (k+1)->Vy h' s.heap.objs.size x y->(∀c o,c≠z->c≠TO->c≠i1->c≠i2->s.heap.get? c=some o->h'.get? c=some o)->Q (some (.ref s.heap.objs.size)) {s with heap:=h' })
  (hE:xs[k]?=none\/ys[k]?=none->∀h',(∀c o,c≠z->c≠TO->c≠i1->c≠i2->s.heap.get? c=some o->h'.get? c=some o)->Q none {s with heap:=h' }):LH (LM prog w) A (SW (.ref z)) Q E s:=by
 rcases zz with ⟨g,a,b,h⟩ |⟨b,T,pt,⟨U,N⟩,g⟩
 .cases hx:xs[k]? with
  |none=>exact Qu r D g hTI h h1 h2 Yr hl2 (.inl hx) (hE (.inl hx))
  |some x=>
   cases hy:ys[k]? with
   |none=>exact Qu r D g hTI h h1 h2 Yr hl2 (.inr hy) (hE (.inr hy))
   |some y=>exact Sj D g hTI h h1 h2 Yr hl2 hx hy λh' O B I R S _ L=>hQ x y h' hx hy ⟨false,_,.inl rfl,O⟩ I R S L
 have n:s.TypeIs (.ref z) "zip":=⟨_,g,rfl⟩;refine KL (Tq (PV n Sk (M3 Sk n PySem.F.entry_zip_next ?_ (PySem.F.args_zip_next_1 _))));show LH _ _ (field (.ref z) 2 >>=_) _ _ _;refine KL (S6 g rfl rfl ?_);refine KL (S6 g rfl rfl (KL (NL hTI rfl ?_)));refine KL (rW g N λV J d=>?_);simp only[Ln,if_false];refine KL ?_;rw[<-QT];simp only[PR,Q2];refine KL (KL (MS ?_));cases hx:xs[k]? with
 |none=>
  refine KL (Sm r (h1.extBut d.extBut D.i1z) (Yr.extBut d.extBut D.l1z) hx λC e f v=>?_);obtain⟨o,u,j⟩:=v;exact KL (NV ⟨o,u,j⟩ S0 (KY (hE (.inl hx) C λc o l _ p t q=>f _ _ p (d.extBut _ _ l q))))
 |some x=>
  refine KL (RS (h1.extBut d.extBut D.i1z) (Yr.extBut d.extBut D.l1z) hx λC H f=>KY ?_);refine KY ?_;refine KL (KL (MS ?_));have G:=(h2.extBut d.extBut D.i2z).extBut f.extBut D.i12.symm;have B:=(hl2.extBut d.extBut D.l2z).extBut f.extBut D.l2i1;cases hy:ys[k]? with
  |none=>
   refine KL (Sm r G B hy λj e i v=>?_);obtain⟨o,u,K⟩:=v;exact KL (NV ⟨o,u,K⟩ S0 (KY (hE (.inr hy) j λc o l _ p t q=>i _ _ t (f.extBut _ _ p (d.extBut _ _ l q)))))
  |some y=>
   refine KL (RS G B hy λj M i=>KY ?_);refine KY (KY ?_);refine KL (Vi ?_ (by show 2<=sizeLine;rw[MA];lia));have m:j.objs.size=s.heap.objs.size:=by rw[i.1,f.1,d.1]
   have P:=i.extBut _ _ D.i2z.symm (f.extBut _ _ D.i1z.symm J);refine KY ⟨_,rfl,KY ?_⟩;rw[m];refine hQ x y _ hx hy ⟨true,T,.inr pt,KU _ P⟩ (((H.extBut i.extBut D.i12)).at λo e=>KU _ e) (M.at λo e=>KU _ e) ?_ λc o l _ p t e=>KU _ (i.extBut _ _ t (f.extBut _ _ p (d.extBut _ _ l e)));rw[<-m];exact Le _ rfl
end
theorem Eb:SJ (.type "zip") "__len__"=pure none:=by rw[OW,NO];kernel_rfl
theorem Br:SJ (.type "zip") "__length_hint__"=pure none:=by rw[OW,NO];kernel_rfl
theorem hint_zip(prog)(w):Fa prog w "zip":=λA E s r Q a h=>by
 refine KL (OB a Eb ?_);refine KL (OB a Br ?_);exact KY (h _)
end ST
namespace L2
open PySem PySem.Spec PyProof.Rows
theorem IA{a b:Nat}(h:a<b\/b<a):@Ne Lm a b:=λe=>by
 have c:a=b:=e;lia
theorem tH:M7 "zip"=some (.type "zip"):=by decide+kernel
theorem yq{g:List Lm}(I:Inv X Wz σ H s)(h:∀b∈g,lD X Wz H b)
  (k:∀b o,b ∉ g->s.heap.get? b=some o->h'.get? b=some o) (hp:s.heap.objs.size<=p) (new:bR X.prog X.w (upd H p (.tup xs)) h' p (.tup xs)):
  Inv X Wz σ (upd H p (.tup xs)) {s with heap:=h',toks:=t' }:=by
 have fresh:=I.hok.fresh hp;have C:∀b o,s.heap.get? b=some o->b≠p:=λb o e z=>absurd (Ls (Lc e) hp) (by rw[z];exact LS _);have d:∀b u,H b=some u->b≠p:=λb u e z=>by rw[z,fresh]at e;cases e
 have i:∀b u,H b=some u->b ∉ g:=λb u e z=>by rw[(h b z).1]at e;cases e
 refine I.step (g':=s.gens) (d':=s.drawn) (ch:=g) (λb f=>?_) (λb o _ _ a e _=>k b o a e) (λb o _ _ a e _=>⟨o.slots,k b o a e⟩) (λb o _ e n=>by rw[aI (C b o e)];exact n)
  (λb o a e=>⟨o,k b o a e⟩) (λb xs e=>by rw[aI (d b _ e)];exact e) (λb o u e=>by rw[aI (d b _ e)];exact e) (λb E e=>⟨#[],by rw[aI (d b _ e),e];simp⟩) (λm t=>?_) (λb u e=>?_) I.bare
 .obtain⟨G,D,F,x,y,A⟩:=h b f;exact⟨x,D,y,A⟩
 .obtain⟨o,B,j,l,r⟩:=t;exact⟨o,B,j,k _ o (λz=>(h _ z).2.1 rfl) l,r⟩
 .by_cases f:b=p
  .subst f;rw[aH]at e;cases e;exact new
  .rw[aI f]at e;refine (I.hok b u e).stay (λc v a q=>k c v ?_ q) (λc q=>by rw[aI (d c _ q)];exact q) λc xs q=>by rw[aI (d c _ q)];exact q
   rcases a with z |z
   .rw[z];exact i b u e
   .exact i c _ z
theorem xz{f:List Lm}(I:Inv X Wz σ H s)(d:∀b∈f,lD X Wz H b)
  (k:∀b o,b ∉ f->s.heap.get? b=some o->h'.get? b=some o):Inv X Wz σ H {s with heap:=h',toks:=t' }:=by
 have g:∀b u,H b=some u->b ∉ f:=λb u e z=>by rw[(d b z).1]at e;cases e
 refine I.step (λb p=>?_) (λb o _ _ a e _=>k b o a e) (λb o _ _ a e _=>⟨o.slots,k b o a e⟩) (λ_ _ _ _ n=>n)
  (λb o a e=>⟨o,k b o a e⟩) (λ_ _ e=>e) (λ_ _ _ e=>e) (λb A e=>⟨#[],by rw[e];simp⟩) (λm j=>?_) (λb u e=>?_) I.bare
 .obtain⟨C,y,B,l,t,w⟩:=d b p;exact⟨l,y,t,w⟩
 .obtain⟨o,x,h,i,r⟩:=j;exact⟨o,x,h,k _ o (λz=>(d _ z).2.1 rfl) i,r⟩
 .refine (I.hok b u e).stay (λc v a q=>k c v ?_ q) (λ_ q=>q) λ_ _ q=>q;rcases a with z |z
  .rw[z];exact g b u e
  .exact g c _ z
section
variable {X:Cx}{Wz:List (Lm×Obj)}{σ:St}{O:List Lm}{z TI TO i1 i2 l1 l2 S:Lm}{va vb:List V}{xs ys:List U}{H1:Hp}{A:L7}{R:UR→K8→Prop}{res:K3}
theorem J1{a b c d e f i:Nat}(h:c<=i\/d<=i)(j:a=c)(g:b=d)(l1:a=e)(l2:b=f):min e f<=i:=by omega
theorem A6(hh:A.in1.handled=none)(D:UK z TI TO i1 i2 l1 l2)(hS:S ∉ [z,TI,TO,i1,i2])(nS:H1 S=none)(dO:∀b∈O,H1 b≠none)(q1:SqL X.K (hid H1 O) l1 va)(q2:SqL X.K (hid H1 O) l2 vb)(r1:Rps X.K (hid H1 O) va xs)(r2:Rps X.K (hid H1 O) vb ys)
  (hR:∀s' h L,Inv X Wz σ L s'->aT H1 L->L S=some (.lst h)->Rps X.K (hid L (S::O)) h (PJ (λa b=>U.tup [a,b]) xs ys)->R (.ok (.ret res)) s'):
  ∀(k i:Nat) (s:K8) (H:Hp) (h:List V),(PJ (λa b=>U.tup [a,b]) xs ys).length-i<k->Inv X Wz σ H s->aT H1 H->H S=some (.lst h)->h.length=i->Rps X.K (hid H (S::O)) h ((PJ (λa b=>U.tup [a,b]) xs ys).take i)->(∀b∈[z,TI,TO,i1,i2],lD X Wz H b/\b<s.heap.objs.size)->
   Vy s.heap TI (.ref i1) (.ref i2)->s.heap.IsListIter i1 l1 i->s.heap.IsListIter i2 l2 i->((IsZip s.heap z TI TO .none/\∃a b,Vy s.heap TO a b)\/∃b T,(∃t,H T=some (.tup t))/\ST.IsZ2 s.heap z TI TO T b)->
   PM (LM X.prog X.w) A (.builtin "list.extend.loop" ⟨[.ref S,.ref z,res],[]⟩) R s:=by
 intro k
 induction k with
 |zero=>exact λi s H h M=>absurd M (R9 _)
 |succ k ih=>
  intro i s H h M I p E hl Q N gI j1 j2 zz;obtain⟨ia,ra,p1,z1⟩:=I.list (p.seq (aE.seq q1));obtain⟨ib,Z,p2,_⟩:=I.list (p.seq (aE.seq q2));have la:=ra.length;have lb:=Z.length;have l1:=r1.len;have l2:=r2.len;rw[QG]at M
  have fk:∀{h':Nh},(∀c o,c≠z->c≠TO->c≠i1->c≠i2->s.heap.get? c=some o->h'.get? c=some o)->∀d o,d ∉ [z,TI,TO,i1,i2]->s.heap.get? d=some o->h'.get? d=some o:=λB d o G e=>by
   simp only[KO,Ly,or_false,not_or]at G;exact B d o G.1 G.2.2.1 G.2.2.2.1 G.2.2.2.2 e
  refine MY PySem.F.entry_extend_loop ?_;rw[Mq Oq _];refine KL (ST.next_zip (Pt:=λT=>∃t,H T=some (.tup t)) hh D (zz.imp_right λ⟨b,T,⟨t,m⟩,g⟩=>⟨b,T,⟨t,m⟩,let ⟨_,_,_,ob,e,_⟩:=I.hok T _ m;⟨ob,e⟩,g⟩) gI j1 j2 p1.isList p2.isList (λx y h' ex ey nz n1 n2 np B=>?_) λW h' B=>?_)
  rotate_left
  .refine KY (hR _ h H (xz (t':=s.toks) I (λb j=>(N b j).1) (fk B)) p E ?_)
   rwa [Nv]at Q
   rw[QG];simp at W;exact J1 W la lb l1 l2
  .have hia:=aK (show ia[i]?=some x by simpa using ex);have hib:=aK (show ib[i]?=some y by simpa using ey);obtain⟨v,Y⟩:∃v,va[i]?=some v:=⟨_,KJ (by omega)⟩
   obtain⟨u,e2⟩:∃u,vb[i]?=some u:=⟨_,KJ (by omega)⟩
   obtain⟨x',k1,t1⟩:=ra.get Y;obtain⟨y',k2,t2⟩:=Z.get e2;obtain rfl:x'=x:=by simpa [k1] using ex
   obtain rfl:y'=y:=by simpa [k2] using ey
   obtain⟨xu,f1⟩:∃v,xs[i]?=some v:=⟨_,KJ (by omega)⟩
   obtain⟨yu,f2⟩:∃u,ys[i]?=some u:=⟨_,KJ (by omega)⟩
   have fresh:H s.heap.objs.size=none:=I.hok.fresh (K1 _);have I2:=yq (s:=s) (h':=h') (t':=s.toks) (xs:=[v,u]) I (λb j=>(N b j).1) (fk B) (K1 _) ⟨by show 2<=sizeLine;decide,[x',y'],.cons t1 (.cons t2 .nil),⟨_,np,rfl,_,rfl⟩⟩;have Sp:S≠s.heap.objs.size:=λe=>by rw[e,fresh]at E;cases E
   have YQ:upd H s.heap.objs.size (.tup [v,u]) S=some (.lst h):=by rw[aI Sp];exact E
   have J:aT H (upd H s.heap.objs.size (.tup [v,u])):=aO fresh _;obtain⟨zs,its,n,r,hl2,e⟩:=I2.lstM YQ;have C:∀b o,b≠S->h'.get? b=some o->(h'.update S (NB (·.push (.ref s.heap.objs.size)))).get? b=some o:=λb o j e=>(LZ _ _ (Ne.symm j)).trans e;have vr:aS [V.ref s.heap.objs.size] [LQ s.heap.objs.size]:=.cons rfl .nil;have l:∀b∈[z,TI,TO,i1,i2],b≠S:=λb j e=>hS (e ▸ j);refine KL (Nn (s:={s with heap:=h' }) e rfl (KY ⟨M0 Oq _,ih (i+1) _ (upd (upd H s.heap.objs.size (.tup [v,u])) S (.lst (h++[.ref s.heap.objs.size]))) (h++[.ref s.heap.objs.size]) ?_ (I2.lset (t':=s.toks) (ys:=h++[.ref s.heap.objs.size]) (its':=its++[.ref s.heap.objs.size]) YQ e (by simp) (r.append vr) ?_) ((p.trans J).put nS _) aH (by simp[hl]) ?_ (λb j=>?_) ?_ ?_ ?_ (.inr ?_)⟩) (by rw[Lj];omega) (by rw[Array.size_push,Lj];omega))
   .rw[QG];omega
   .rw[LB];simp;omega
   .rw[lL K0,OM,Qq.mpr ⟨xu,yu,f1,f2,rfl⟩];refine (Q.same (aN J)).snoc (.cons ?_ .nil);have sG:=(bu (O:=O) p nS).trans (aN J);have all:Rps X.K (hid (upd H s.heap.objs.size (.tup [v,u])) (S::O)) [v,u] [xu,yu]:=.cons ((r1.at_ i _ _ Y f1).same sG) (.cons ((r2.at_ i _ _ e2 f2).same sG) .nil);refine .tup (SqT.of (cZ aH λhp=>?_)) all.len all.at_;rcases KO.mp hp with q |q
    .exact Sp q.symm
    .exact dO _ q (p.free fresh)
   .obtain⟨⟨f0,f⟩,P⟩:=N b j;refine⟨⟨?_,f⟩,MG P (Lc (C _ _ Sp.symm np))⟩;rw[aI (λe=>hS (by rw[<-e];exact j)),aI (LA P)];exact f0
   .exact C _ _ (l _ (by simp)) (B TI _ D.TIz D.TITO D.TIi1 D.TIi2 gI)
   .exact n1.at λo e=>C _ o (l _ (by simp)) e
   .exact n2.at λo e=>C _ o (l _ (by simp)) e
   .obtain⟨b,T,m,g⟩:=nz;refine⟨b,T,?_,C _ _ (l _ (by simp)) g⟩;rcases m with rfl |⟨t,m⟩
    .exact⟨_,by rw[aI Sp.symm];exact aH⟩
    .exact⟨t,by rw[aI λe=>by rw[e,E]at m;cases m];exact J _ _ m⟩
end
section
variable {X:Cx}{H0:Hp}{O0:List Lm}{ps:PSt}{e f:Expr}{x y:U}{xs ys:List U}{pos WU p p':Pos}
theorem pQ(hc:X.calm=true)(hg:Gl X "list")(hm:X.mg "list"=none)(Z:Gl X "zip")(hmz:X.mg "zip"=none)(ha:Ev X H0 O0 ps e x)(hx:x=.lst xs∨x=.scr xs)(w:Ev X H0 O0 ps f y)(hy:y=.lst ys∨y=.scr ys) 
  (he:autoParam (K7 [e,f] X.env=(false,Nq e X.env)::K7 [f] X.env) w4) (hf:autoParam (K7 [f] X.env=(false,Nq f X.env)::K7 [] X.env) w4):
  EvN X H0 O0 ps (.Call (.Name "list" p) [.Call (.Name "zip" p') [e,f] [] WU] [] pos) (PJ (λa b=>U.tup [a,b]) xs ys):=by
 rintro N s S H Q I ⟨O,W,q⟩;have hh:X.A.handled=none:=I.ok.hd hc;refine Ml (dj I hg hm QF ?_);refine callWith_type1 (e:=.Call (.Name "zip" p') [e,f] [] WU) (rest:=[]) ?_ a9 rfl;rw[a9];show LH _ _ (spliced ((false,Nq (.Call (.Name "zip" p') [e,f] [] WU) X.env)::M4 pos (K7 [] X.env))) _ _ s;refine PN ?_;refine Ml (dj I Z hmz tH ?_);refine callWith_type1 (thn (cx ha (cx w dP hf) he WU N s S H (λn l=>∃v u,n=[v,u]/\aT H l/\Rp X.K (hid l O) v x/\Rp X.K (hid l O) u y) I ⟨O,W,λv l h r1=>⟨O,W.go h,λu H2 s2 r2=>⟨v,u,rfl,h.trans s2,r1.same (aN s2),r2⟩⟩⟩) λus h XX=>?_) he (by rw[hf];rfl);obtain⟨n,l,C,rv,v,u,rfl,sm,M,rp2⟩:=XX;obtain⟨w1,w2,rfl,P,V⟩:=jm rv;obtain⟨a,va,rfl,Ze,rs1⟩:=zT M hx;obtain⟨b,vb,rfl,YU,Y⟩:=zT rp2 hy;cases P;cases V;obtain⟨ia,ra,F,hz1⟩:=C.list (aE.seq Ze);obtain⟨ib,rb,B,hz2⟩:=C.list (aE.seq YU);have al:@LT.lt Nat instLTNat a h.heap.objs.size:=by obtain⟨o,ho,_⟩:=F.isList;exact Lc ho
 have bl:@LT.lt Nat instLTNat b h.heap.objs.size:=by obtain⟨o,ho,_⟩:=B.isList;exact Lc ho
 refine PySem.call_zip_2 F.isList B.isList λj L z2 z3 z4 z5 z6 z7=>?_;refine P8 ?_;have D:UK (h.heap.objs.size+4) (h.heap.objs.size+2) (h.heap.objs.size+3) h.heap.objs.size (h.heap.objs.size+1) a b:=by constructor <;>exact IA (by lia)
 have J:Inv X N S l {h with heap:=j }:=C.kept (t':=h.toks) z7;have sz:h.heap.objs.size+4<j.objs.size:=Lc L
 refine ST.call_list_any (T:="zip") (s:={h with heap:=j }) (Fi:=λG=>∃n t,Inv X N S t G∧aT l t∧t j.objs.size=some (.lst n)∧Rps X.K (hid t (j.objs.size::O)) n (PJ (λa b=>U.tup [a,b]) xs ys)) ⟨_,L,rfl⟩ (by decide) (by decide) (ST.hint_zip _ _) (λh2 Q E k q=>RK (s:={h with heap:=h2 }) (k _ _ L) q)
  (λR h2 c k g hR=>A6 (A:=X.A.in1) hh D (λw=>?_) (J.hok.fresh (K1 _)) (W.go sm).dom Ze YU rs1 Y (λG n t a b c d=>hR G ⟨n,t,a,b,c,d⟩) _ 0 _ (upd l j.objs.size (.lst [])) [] (Mf _) (J.laid (t':=h.toks) (o:=.lst []) k (K1 _) ⟨Mm _,[],c,.nil,g⟩) (aO (J.hok.fresh (K1 _)) _) aH rfl (by rw[Q1];exact .nil) (λb w=>?_) (k _ _ z2) (z4.at λo e=>k _ o e) (z5.at λo e=>k _ o e) (.inl ⟨k _ _ L,_,_,k _ _ z3⟩)) λG ⟨n,t,i,m,e,r⟩=>⟨.ref j.objs.size,t,i,rfl,q _ _ _ (sm.trans m) (sm.free (J.hok.fresh (K1 _))) e r⟩
 .simp only[KO,Ly,or_false]at w;have z:(j.objs.size:Nat)=_\/(j.objs.size:Nat)=_\/(j.objs.size:Nat)=_\/(j.objs.size:Nat)=_\/(j.objs.size:Nat)=_:=w;lia
 .have z:h.heap.objs.size<=b/\b<=h.heap.objs.size+4:=by
   simp only[KO,Ly,or_false]at w;rcases w with e |e |e |e |e <;>rw[e] <;>exact⟨by first |exact NU _ _ |exact K1 _,by first |exact K1 _ |exact NU _ _ |exact QH (by decide) _⟩
  refine⟨C.fpOk z.1 ?_,MD z.2 (MG sz (Lc g))⟩;rw[aI (LA (MD z.2 sz))];exact C.hok.fresh z.1
end
theorem kW(ns:List Int):∀j,preSum (λi=>ns.getD i 0) j=(ns.take j).sum
 |0=>by simp[preSum]
 |j+1=>by rw[preSum,kW ns j,PySem.sum_take_succ]
section
variable {X:Cx}{ns:List Int}{M:Int}
theorem n8{K:KM}(c:aS ws its)(d:Rps K H ws (ns.map U.int))(i)(z:K3)(e:its.toArray[i]?=some z):∃t,z=.int (ns.getD i 0) t:=by
 have k:=d.len;rw[KI]at k;have f:its[i]?=some z:=by simpa using e
 have l:=aK f;have g:i<ws.length:=by rw[c.length];exact l
 have b:i<ns.length:=by lia
 obtain⟨u,a,j⟩:=c.get (KJ g);have h:=d.at_ i ws[i] (.int ns[i]) (KJ g) (by rw[K5,KJ b];rfl);rw[f]at a;cases a;generalize ws[i]=m at *;cases h;rw[Lr,KJ b];obtain⟨t,rfl⟩:=j;exact⟨t,rfl⟩
theorem vH(B:X.calm=true)(h:M∈ns∧∀a∈ns,M≤a):dJ X (.builtin "min") [.lst (ns.map U.int)] (.int M):=by
 intro S s Y H T us Q I r f;obtain⟨O,d,D,q⟩:=f;obtain⟨v,rfl,P⟩:=bW D;obtain⟨R,rfl,E⟩:=cX r;cases P with
 | @lst a W _ f u C=>
  cases E;obtain⟨its,k,c,_⟩:=I.list (SqL.of (aE _ _ f));have n:its.length=ns.length:=by rw[<-k.length,u,KI]
  have p:=n8 (ns:=ns) k ⟨u,C⟩;have L:0<ns.length:=Mp h.1;refine call_min_walk (NA c.isList ?_);have m:a<s.heap.objs.size:=by obtain⟨o,e,_⟩:=c.isList;exact Lc e
  refine⟨s.heap.objs.size,_,_,_,_,_,_,rfl,Walks.list (A:=X.A.in1) (I.ok.hd B) s.heap.objs.size a (LA m) its.toArray,⟨⟨_,Le _ rfl,rfl,rfl⟩,c.isList.push _⟩,λb F=>?_,by rw[Lj,n];exact L,CmpOf.ints_lt (λi=>ns.getD i 0) p,λv Z G K N=>?_⟩
  .show b<(s.heap.push _).objs.size;rw[MM];rcases KO.mp F with z |z
   .rw[z];exact Mf _
   .rw[K9.mp z];exact ND m
  .obtain⟨t,rfl⟩:=p _ _ K;obtain⟨x,l⟩:=argBest_lt (λi=>ns.getD i 0) (its.toArray.size-1)
   have e:ns.getD (MK (λi j=>decide (ns.getD i 0<ns.getD j 0)) (its.toArray.size-1)) 0=M:=by
    rw[Lj,n]at x l |-;generalize MK (λi j=>decide (ns.getD i 0<ns.getD j 0)) (ns.length-1)=g at *
    have w:g<ns.length:=by lia
    obtain⟨j,J,V⟩:=QD h.1;have y:=l j (by lia);have k2:=h.2 ns[g] (Po w);simp only[Lr,KJ w,KJ J,Pn]at y |-;lia
   rw[e];refine⟨.int M,H,I.kept (t':=G) λb o e=>N b o ?_ (KU _ e),⟨t,rfl⟩,q _ H (.refl H) (.int _)⟩;intro z;have:b=s.heap.objs.size:=by simpa using z
   exact absurd (Lc e) (by rw[this];exact LS _)
theorem gQ(k:X.calm=true):dJ X (.builtin "sum") [.lst (ns.map U.int)] (.int ns.sum):=by
 intro C s F H D J Q I r f;obtain⟨O,d,m,q⟩:=f;obtain⟨v,rfl,y⟩:=bW m;obtain⟨B,rfl,n⟩:=cX r;cases y with
 | @lst a E _ f j l=>
  cases n;obtain⟨its,g,c,_⟩:=I.list (SqL.of (aE _ _ f));have u:its.length=ns.length:=by rw[<-g.length,j,KI]
  have w:=n8 (ns:=ns) g ⟨j,l⟩;refine call_sum_walkG (NA c.isList ?_);have h:a<s.heap.objs.size:=by obtain⟨o,e,_⟩:=c.isList;exact Lc e
  refine⟨s.heap.objs.size,_,_,_,_,_,λi=>ns.getD i 0,rfl,Walks.list (A:=X.A.in1) (I.ok.hd k) s.heap.objs.size a (LA h) its.toArray,⟨⟨_,Le _ rfl,rfl,rfl⟩,c.isList.push _⟩,λb p=>?_,w,λG t t' x=>?_⟩
  .show b<(s.heap.push _).objs.size;rw[MM];rcases KO.mp p with z |z
   .rw[z];exact Mf _
   .rw[K9.mp z];exact ND h
  .rw[kW,Lj,u,Of];refine⟨.int ns.sum,H,I.kept (t':=t) λb o e=>x b o ?_ (KU _ e),⟨t',rfl⟩,q _ H (.refl H) (.int _)⟩;intro z;have:b=s.heap.objs.size:=by simpa using z
   exact absurd (Lc e) (by rw[this];exact LS _)
end
end L2
namespace ST
open PySem PyProof.Rows
def leP(a b:Int×Int):Bool:=decide (a.1<b.1\/(a.1=b.1/\a.2<=b.2))
section
variable {prog:Lg}{w:LL}{A:L7}{E:K3→K8→Prop}{s:K8}
theorem yi(h:Q (.bool (decide (x<=y))) s):LH (LM prog w) A (QI .LtE (.int x t) (.int y u)) Q E s:=
 Rf (op:=.LtE) (Pz s _ t) (Pz s _ u) PySem.F.slot_int_le PySem.F.entry_int_le (PySem.F.args_int_le_2 _ _) (gives_int_le _ _ t u) (λx=>nomatch x) h
theorem Bu(k:TK prog w s.heap [a.1,a.2] x)(i:TK prog w s.heap [b.1,b.2] y)(h:P (.done (.ret (.bool (leP a b)))) s):
  LH (LM prog w) A (Builtin.«tuple.__le__» ⟨[.ref x,.ref y],[]⟩) P E s:=by
 have e:=i.typeIs;obtain⟨o,its,n,t,u,l,_,m,j⟩:=k.two;obtain⟨r,c,B,C,v,q,_,p,f⟩:=i.two;show LH _ _ (Vz (.ref y) (.type "tuple") >>=_) _ _ s;refine KL (NV e Qk ?_);simp only[MR,Ln,if_false];refine KL (Oj l m ?_);refine KL (Oj q p ?_);have sz:its.size=c.size:=by rw[<-Li,<-Li,j,f];rfl
 rw[j,f];refine KL ?_;simp only[Np,Rg,PR,Q2];refine KL (KL ((Qn prog w).eqBool (a:=a.1) (b:=b.1) (Mt _ _ _ _) (Mt _ _ _ _) ?_));by_cases d:a.1=b.1
 .rw[decide_eq_true d];simp only[MR,Ln,if_false];refine KY ?_;refine KL (KL ((Qn prog w).eqBool (a:=a.2) (b:=b.2) (Mt _ _ _ _) (Mt _ _ _ _) ?_));by_cases g:a.2=b.2
  .rw[decide_eq_true g];simp only[MR,Ln,if_false];refine KY (KY ?_);have z:leP a b=true:=by unfold leP;simp;lia
   rw[z]at h;refine KY ?_;show P (.done (.ret (.bool (decide (its.size<=c.size))))) s;rw[sz,decide_eq_true (K1 _)];exact h
  .rw[decide_eq_false g];simp only[On,if_true];have z:leP a b=decide (a.2<=b.2):=by unfold leP;rw[d];simp
   rw[z]at h;exact KL (P7 (KL (yi (KL (KY (KY (KY (KY h))))))))
 .rw[decide_eq_false d];simp only[On,if_true];have z:leP a b=decide (a.1<=b.1):=by unfold leP;simp[d];rw[Int.lt_iff_le_and_ne];simp[d]
  rw[z]at h;exact KL (P7 (KL (yi (KL (KY (KY (KY (KY h))))))))
theorem le_pts(f:A.units<NZ)(c:TK prog w s.heap [a.1,a.2] x)(d:TK prog w s.heap [b.1,b.2] y)(h:Q (.bool (leP a b)) s):
  LH (LM prog w) A (LX .LtE (.ref x) (.ref y)) Q E s:=
 OZ (op:=.LtE) c.typeIs d.typeIs So
  (M3 So c.typeIs PySem.F.entry_tuple_le (Bu c d ⟨_,rfl,(λe=>nomatch e),h⟩) (PySem.F.args_tuple_le_2 _ _)) f
end
end ST
namespace L2
open PySem PySem.Spec PyProof.Rows
section
variable {X:Cx}{H0:Hp}{O0:List Lm}{ps:PSt}{a b c:Expr}{pos:Pos}{x y z:U}{p q:P2}{k m:Bool}
theorem len1{α:Type}{l:List α}:l.length=1->∃a,l=[a]:=MV.mp
theorem len2{α:Type}{l:List α}(h:l.length=2):∃a b,l=[a,b]:=by
 cases l with
 |nil=>cases h
 |cons a t=>
  obtain⟨b,rfl⟩:=len1 (Ur h);exact⟨a,b,rfl⟩
theorem len3{α:Type}{l:List α}(h:l.length=3):∃a b c,l=[a,b,c]:=by
 cases l with
 |nil=>cases h
 |cons a t=>
  obtain⟨b,c,rfl⟩:=len2 (Ur h);exact⟨a,b,c,rfl⟩
theorem FU(I:Inv X Wz σ H s)(r:Rp X.K H v (pu p))(e:aR v u):∃b,u=.ref b/\ST.TK X.prog X.w s.heap [p.1,p.2] b:=by
 cases r with
 | @tup b D _ l t a=>
  cases e;refine⟨b,rfl,?_⟩;obtain⟨m,y,k,_⟩:=I.tuple l;have x:=t;obtain⟨q,j,rfl⟩:=len2 x;have g:=a 0 q _ rfl rfl;have f:=a 1 j _ rfl rfl;cases g;cases f;obtain⟨A,B,rfl,i,h⟩:=jm y;obtain⟨C,rfl⟩:=i;obtain⟨E,rfl⟩:=h;obtain⟨o,d,z,n,c⟩:=k;exact⟨o,_,n,d,z,c,.cons (Mt _ _ _ _) (.cons (Mt _ _ _ _) .nil)⟩
theorem tS(o:X.A.units+10<NZ):OpS X (LX .LtE) (pu p) (pu q) (.bl (ST.leP p q)):=by
 intro l s n H v w e f Q I c b h;obtain⟨a,i,d⟩:=h;obtain⟨k,rfl,g⟩:=FU I a c;obtain⟨m,rfl,j⟩:=FU I i b;exact ST.le_pts (by lia) g j (i9 I d rfl)
theorem FD(c:Tt X H0 O0 ps cd k)(e:Ev X H0 O0 ps a x)(d:Ev X H0 O0 ps b y):Ev X H0 O0 ps (.IfExp cd a b pos) (if k=true then x else y):=by
 cases k with
 |true=>exact BV c (λ_=>e) (λh=>nomatch h)
 |false=>exact BV c (λh=>nomatch h) (λ_=>d)
theorem D8(l:OpS X (LX op) x y (.bl k))(r:OpS X (LX Ye) y z (.bl m))(s:Ev X H0 O0 ps a x)(o:Ev X H0 O0 ps b y)(j:Ev X H0 O0 ps c z)
  (hm:autoParam (UQ [op,Ye] [b,c]=false) k0):Ev X H0 O0 ps (.Compare a [op,Ye] [b,c] pos) (.bl (k && m)):=
 PE.mono (BQ l r s o j hm) λu H Q ⟨O,R,q⟩=>⟨O,R,λv t e n=>⟨O,R.go e,λA h d f=>⟨(n.same (aN d)).out,f.out,k,rfl,by
  cases k with
  |false=>exact lC (q _ h (e.trans d) (.bl _))
  |true=>exact oM ⟨O,(R.go e).go d,λw p g i=>⟨(f.same (aN g)).out,i.out,q _ p ((e.trans d).trans g) (.bl _)⟩⟩⟩⟩⟩
end
section
variable {X:Cx}{p q:P2}{l:List P2}
theorem kG(I:Inv X Wz σ H s)(r:Rp X.K H v (pu p))(e:aR v u):∃b,u=.ref b/\∀a w,ST.TK a w s.heap [p.1,p.2] b:=by
 cases r with
 | @tup b E _ m x c=>
  cases e;refine⟨b,rfl,λa w=>?_⟩;obtain⟨q,z,l,_⟩:=I.tuple m;have y:=x;obtain⟨t,k,rfl⟩:=len2 y;have h:=c 0 t _ rfl rfl;have g:=c 1 k _ rfl rfl;cases h;cases g;obtain⟨B,C,rfl,j,i⟩:=jm z;obtain⟨D,rfl⟩:=j;obtain⟨F,rfl⟩:=i;obtain⟨o,f,A,n,d⟩:=l;exact⟨o,_,n,f,A,d,.cons (Mt _ _ _ _) (.cons (Mt _ _ _ _) .nil)⟩
end
end L2
namespace ST
open PySem
def zN(prog:Lg)(w:LL)(A:L7)(op:V_)(G:Nh->Prop)(P:Nat->K3->Prop)(bt:Nat->Nat->Bool):Prop:=
 ∀i j a b (s:K8) (Q:K3->K8->Prop) (E:K3->K8->Prop),G s.heap->P i a->P j b->Q (.bool (bt i j)) s->LH (LM prog w) A (QI op a b) Q E s
variable {prog:Lg}{R:UR→K8→Prop}{P:Nat→K3→Prop}
section
variable {w:LL}{A:L7}{I S:Lm}{fp wr:List Lm}{n:Nat}{St:Nat→Nh→Prop}{G:Nh→Prop}{bt:Nat→Nat→Bool}
theorem zQ(W:Walks prog w A.in1 I fp wr n P St)(N:zN prog w A.in1 .Lt G P bt)(f:∀h a,G h->(∀b o,b ∉ wr->b≠S->h.get? b=some o->a.get? b=some o)->G a)(H:S ∉ fp):
  ∀k j s vb c,n-(j+1)=k→j+1≤n→G s.heap→St (j+1) s.heap→P (MK bt j) vb→s.heap.get? S=some {cls:=.type "list",dict:=none,data:=.seq #[vb,vb] c,slots:=#[] }→
  (∀v a q,P (MK bt (n-1)) v->(∀b o,b ∉ wr->b≠S->s.heap.get? b=some o->a.get? b=some o)->R (.ok (.ret v)) {s with heap:=a,toks:=q })->
  PM (LM prog w) A (.builtin "min.loop" ⟨[.ref I,.none,.ref S],[]⟩) R s:=by
 have K:S ∉ wr:=λh=>H (W.sub _ h);have nm:(NY "min"++NY ".loop":String)="min.loop":=by decide
 intro k
 induction k with
 |zero=>
  intro j s vb c Q O g B p m r;obtain rfl:j+1=n:=by lia
  refine MY P3 ?_;rw[Mq MW _];show LH _ A.in1 (Rc (.ref S) >>=_) _ _ s;refine KL (NL m rfl ?_);show LH _ A.in1 (Rq (SW (.ref I)) _ >>=_) _ _ s;refine KL (Os (W.done s _ _ B λa q i=>?_));show LH _ A.in1 (U2 S (λ_=>#[]) >>=_) _ _ _;refine KL (Nn (i S _ K m) rfl (KL (OY (KY ?_))));exact r vb _ q p λb o d l e=>(LZ _ _ (Ne.symm l)).trans (i b o d e)
 |succ k J=>
  intro j s vb c Q O g B p m r;refine MY P3 ?_;rw[Mq MW _];show LH _ A.in1 (Rc (.ref S) >>=_) _ _ s;refine KL (NL m rfl ?_);show LH _ A.in1 (Rq (SW (.ref I)) _ >>=_) _ _ s;refine KL (Os (W.item (j+1) s _ _ (by lia) B λv a q L F i=>?_));have y:G a:=f _ _ g λb o d _ e=>i b o d e;have x:=i S _ K m;show LH _ A.in1 (Rq (RX [v,v] (QI .Lt v vb >>=_)) _ >>=_) _ _ _;refine KL (Os (MS (KL (N (j+1) (MK bt j) v vb _ _ _ y L p ?_))));refine KL (MS (Mr (KL (OY (KY ?_)))));by_cases l:bt (j+1) (MK bt j)=true
  .rw[if_pos l];refine KL (Nn x rfl (KL (OY ?_)));rw[nm];have u:∀b o,b≠S->a.get? b=some o->(a.update S (NB λ_=>#[v,v])).get? b=some o:=λb o h e=>(LZ _ _ (Ne.symm h)).trans e;refine KY ⟨M0 MW _,J (j+1) _ v _ (by lia) (by lia) (f _ _ y λb o _ h e=>u b o h e) (W.frame _ _ _ F λb M o e=>u b o (λh=>H (h ▸ M)) e) (by rw[MK,if_pos l];exact L) (Me _ x rfl) λC D t z E=>?_⟩;exact r C D t z λb o d h e=>E b o d h (u b o h (i b o d e))
  .rw[if_neg l];refine KL (OY ?_);rw[nm];refine KY ⟨M0 MW _,J (j+1) _ vb c (by lia) (by lia) y F (by rw[MK,if_neg l];exact p) x λC D t z E=>?_⟩;exact r C D t z λb o d h e=>E b o d h (i b o d e)
theorem wx(W:Walks prog w A.in1 I fp wr n P St)(t:zN prog w A.in1 .Lt G P bt)(a:∀h d,G h->(∀b o,b ∉ wr->b≠S->h.get? b=some o->d.get? b=some o)->G d)(i:S ∉ fp)(p:0<n)(g:G s.heap)(y:St 0 s.heap)
  (hS:s.heap.get? S=some {cls:=.type "list",dict:=none,data:=.seq #[] c,slots:=#[] })
  (hR:∀v d m,P (MK bt (n-1)) v->(∀b o,b ∉ wr->b≠S->s.heap.get? b=some o->d.get? b=some o)->R (.ok (.ret v)) {s with heap:=d,toks:=m }):
  PM (LM prog w) A (.builtin "min.loop" ⟨[.ref I,.none,.ref S],[]⟩) R s:=by
 have u:S ∉ wr:=λh=>i (W.sub _ h);have nm:(NY "min"++NY ".loop":String)="min.loop":=by decide
 refine MY P3 ?_;rw[Mq MW _];show LH _ A.in1 (Rc (.ref S) >>=_) _ _ s;refine KL (NL hS rfl ?_);show LH _ A.in1 (Rq (SW (.ref I)) _ >>=_) _ _ s;refine KL (Os (W.item 0 s _ _ p y λv d m C q k=>?_));have l:=k S _ u hS;show LH _ A.in1 (U2 S (λ_=>#[v,v]) >>=_) _ _ _;refine KL (Nn l rfl ?_);rw[nm];have j:∀b o,b≠S->d.get? b=some o->(d.update S (NB λ_=>#[v,v])).get? b=some o:=λb o h e=>(LZ _ _ (Ne.symm h)).trans e;refine KY ⟨M0 MW _,zQ W t a i _ 0 _ v _ rfl p (a _ _ g λb o f h e=>j b o h (k b o f e)) (W.frame _ _ _ q λb r o e=>j b o (λh=>i (h ▸ r)) e) C (Me _ l rfl) λz B E x D=>?_⟩;exact hR z B E x λb o f h e=>D b o f h (j b o h (k b o f e))
end
variable {E:K3→K8→Prop}
section
variable {w:LL}{A:L7}{s:K8}
theorem call_minG(x:A.handled=none)(n:s.heap.IsList l items)(D:0<items.size)(u:zN prog w A.in1 .Lt G (λi v=>items[i]?=some v) bt)
  (g:G s.heap) (stay:∀h a,G h->(∀b o,s.heap.get? b=some o->h.get? b=some o)->(∀b o,s.heap.get? b=some o->a.get? b=some o)->G a)
  (hQ:∀v a k,items[MK bt (items.size-1)]?=some v->(∀b o,s.heap.get? b=some o->a.get? b=some o)->Q v {s with heap:=a,toks:=k }):
  LH (LM prog w) A (call (.builtin "min") [.ref l]) Q E s:=by
 have nm:(NY "min"++NY ".loop":String)="min.loop":=by decide
 refine Tr PySem.F.kind_min PySem.F.plain_min PySem.F.entry_min (PySem.F.args_min1 _) ?_;show LH _ A.in1 (Builtin.Builtins.bindParams "min" ["key","default"] 0 ⟨[],[]⟩ >>=_) _ _ s;refine KL (S5 (show Builtin.Builtins.bindParams "min" ["key","default"] 0 ⟨[],[]⟩=pure [none,none] from rfl) ?_);refine KL (KY ?_);refine KL (NA n ?_);have m:l<s.heap.objs.size:=by obtain⟨o,e,_⟩:=n;exact Lc e
 refine KL (N4 ?_);rw[nm];have W:=Walks.list (prog:=prog) (w:=w) (A:=A.in1) x s.heap.objs.size l (LA m) items;have d:∀b o,s.heap.get? b=some o→((s.heap.push {cls:=.type "list_iterator",data:=.fields #[.ref l,.int 0 0] }).push {cls:=.type "list",data:=.seq #[] }).get? b=some o:=λb o e=>KU _ (KU _ e);have p:(s.heap.push {cls:=.type "list_iterator",data:=.fields #[.ref l,.int 0 0] }).objs.size=s.heap.objs.size+1:=MM ..
 have lt:∀b o,s.heap.get? b=some o→b ∉ [s.heap.objs.size]∧b≠(s.heap.push {cls:=.type "list_iterator",data:=.fields #[.ref l,.int 0 0] }).objs.size:=λb o e=>by
  have h:=Lc e;refine⟨λz=>?_,λz=>?_⟩
  .rw[K9.mp z]at h;exact LS _ h
  .rw[z,p]at h;exact LS _ (T9 h)
 refine KY ⟨M0 MW _,wx (G:=λh=>G h/\∀b o,s.heap.get? b=some o->h.get? b=some o) W (λi j H C y t B c=>u i j H C y t B c.1) (λh a c f=>?_) ?_ D ⟨stay _ _ g (λ_ _ e=>e) d,d⟩ ⟨⟨_,KU _ (Le _ rfl),rfl,rfl⟩,(n.push _).push _⟩ (Le _ rfl) λv a k I f=>?_⟩
 .have r:∀b o,s.heap.get? b=some o->a.get? b=some o:=λb o e=>f b o (lt b o e).1 (lt b o e).2 (c.2 b o e);exact⟨stay _ _ c.1 c.2 r,r⟩
 .intro z;have q:(s.heap.push {cls:=.type "list_iterator",data:=.fields #[.ref l,.int 0 0] }).objs.size∈[s.heap.objs.size,l]:=z;rw[p]at q;rcases KO.mp q with z |z
  .exact absurd z (Uy _)
  .have e:=K9.mp z;rw[<-e]at m;exact absurd m (Uz (Mf _))
 .exact hQ v a k I λb o e=>f b o (lt b o e).1 (lt b o e).2 (d b o e)
end
section
variable {w:LL}{A:L7}{I S:Lm}{fp wr:List Lm}{n:Nat}{St:Nat→Nh→Prop}{G:Nh→Prop}{bt:Nat→Nat→Bool}
theorem yO(W:Walks prog w A.in1 I fp wr n P St)(N:zN prog w A.in1 .Gt G P bt)(f:∀h a,G h->(∀b o,b ∉ wr->b≠S->h.get? b=some o->a.get? b=some o)->G a)(H:S ∉ fp):
  ∀k j s vb c,n-(j+1)=k→j+1≤n→G s.heap→St (j+1) s.heap→P (MK bt j) vb→s.heap.get? S=some {cls:=.type "list",dict:=none,data:=.seq #[vb,vb] c,slots:=#[] }→
  (∀v a q,P (MK bt (n-1)) v->(∀b o,b ∉ wr->b≠S->s.heap.get? b=some o->a.get? b=some o)->R (.ok (.ret v)) {s with heap:=a,toks:=q })->
  PM (LM prog w) A (.builtin "max.loop" ⟨[.ref I,.none,.ref S],[]⟩) R s:=by
 have K:S ∉ wr:=λh=>H (W.sub _ h);have nm:(NY "max"++NY ".loop":String)="max.loop":=by decide
 intro k
 induction k with
 |zero=>
  intro j s vb c Q O g B p m r;obtain rfl:j+1=n:=by lia
  refine MY P4 ?_;rw[Mq MX _];show LH _ A.in1 (Rc (.ref S) >>=_) _ _ s;refine KL (NL m rfl ?_);show LH _ A.in1 (Rq (SW (.ref I)) _ >>=_) _ _ s;refine KL (Os (W.done s _ _ B λa q i=>?_));show LH _ A.in1 (U2 S (λ_=>#[]) >>=_) _ _ _;refine KL (Nn (i S _ K m) rfl (KL (OY (KY ?_))));exact r vb _ q p λb o d l e=>(LZ _ _ (Ne.symm l)).trans (i b o d e)
 |succ k J=>
  intro j s vb c Q O g B p m r;refine MY P4 ?_;rw[Mq MX _];show LH _ A.in1 (Rc (.ref S) >>=_) _ _ s;refine KL (NL m rfl ?_);show LH _ A.in1 (Rq (SW (.ref I)) _ >>=_) _ _ s;refine KL (Os (W.item (j+1) s _ _ (by lia) B λv a q L F i=>?_));have y:G a:=f _ _ g λb o d _ e=>i b o d e;have x:=i S _ K m;show LH _ A.in1 (Rq (RX [v,v] (QI .Gt v vb >>=_)) _ >>=_) _ _ _;refine KL (Os (MS (KL (N (j+1) (MK bt j) v vb _ _ _ y L p ?_))));refine KL (MS (Mr (KL (OY (KY ?_)))));by_cases l:bt (j+1) (MK bt j)=true
  .rw[if_pos l];refine KL (Nn x rfl (KL (OY ?_)));rw[nm];have u:∀b o,b≠S->a.get? b=some o->(a.update S (NB λ_=>#[v,v])).get? b=some o:=λb o h e=>(LZ _ _ (Ne.symm h)).trans e;refine KY ⟨M0 MX _,J (j+1) _ v _ (by lia) (by lia) (f _ _ y λb o _ h e=>u b o h e) (W.frame _ _ _ F λb M o e=>u b o (λh=>H (h ▸ M)) e) (by rw[MK,if_pos l];exact L) (Me _ x rfl) λC D t z E=>?_⟩;exact r C D t z λb o d h e=>E b o d h (u b o h (i b o d e))
  .rw[if_neg l];refine KL (OY ?_);rw[nm];refine KY ⟨M0 MX _,J (j+1) _ vb c (by lia) (by lia) y F (by rw[MK,if_neg l];exact p) x λC D t z E=>?_⟩;exact r C D t z λb o d h e=>E b o d h (i b o d e)
theorem vR(W:Walks prog w A.in1 I fp wr n P St)(t:zN prog w A.in1 .Gt G P bt)(a:∀h d,G h->(∀b o,b ∉ wr->b≠S->h.get? b=some o->d.get? b=some o)->G d)(i:S ∉ fp)(p:0<n)(g:G s.heap)(y:St 0 s.heap)
  (hS:s.heap.get? S=some {cls:=.type "list",dict:=none,data:=.seq #[] c,slots:=#[] })
  (hR:∀v d m,P (MK bt (n-1)) v->(∀b o,b ∉ wr->b≠S->s.heap.get? b=some o->d.get? b=some o)->R (.ok (.ret v)) {s with heap:=d,toks:=m }):
  PM (LM prog w) A (.builtin "max.loop" ⟨[.ref I,.none,.ref S],[]⟩) R s:=by
 have u:S ∉ wr:=λh=>i (W.sub _ h);have nm:(NY "max"++NY ".loop":String)="max.loop":=by decide
 refine MY P4 ?_;rw[Mq MX _];show LH _ A.in1 (Rc (.ref S) >>=_) _ _ s;refine KL (NL hS rfl ?_);show LH _ A.in1 (Rq (SW (.ref I)) _ >>=_) _ _ s;refine KL (Os (W.item 0 s _ _ p y λv d m C q k=>?_));have l:=k S _ u hS;show LH _ A.in1 (U2 S (λ_=>#[v,v]) >>=_) _ _ _;refine KL (Nn l rfl ?_);rw[nm];have j:∀b o,b≠S->d.get? b=some o->(d.update S (NB λ_=>#[v,v])).get? b=some o:=λb o h e=>(LZ _ _ (Ne.symm h)).trans e;refine KY ⟨M0 MX _,yO W t a i _ 0 _ v _ rfl p (a _ _ g λb o f h e=>j b o h (k b o f e)) (W.frame _ _ _ q λb r o e=>j b o (λh=>i (h ▸ r)) e) C (Me _ l rfl) λz B E x D=>?_⟩;exact hR z B E x λb o f h e=>D b o f h (j b o h (k b o f e))
end
section
variable {w:LL}{A:L7}{s:K8}
theorem call_maxG(x:A.handled=none)(n:s.heap.IsList l items)(D:0<items.size)(u:zN prog w A.in1 .Gt G (λi v=>items[i]?=some v) bt)
  (g:G s.heap) (stay:∀h a,G h->(∀b o,s.heap.get? b=some o->h.get? b=some o)->(∀b o,s.heap.get? b=some o->a.get? b=some o)->G a)
  (hQ:∀v a k,items[MK bt (items.size-1)]?=some v->(∀b o,s.heap.get? b=some o->a.get? b=some o)->Q v {s with heap:=a,toks:=k }):
  LH (LM prog w) A (call (.builtin "max") [.ref l]) Q E s:=by
 have nm:(NY "max"++NY ".loop":String)="max.loop":=by decide
 refine Tr PySem.F.kind_max PySem.F.plain_max PySem.F.entry_max (PySem.F.args_max1 _) ?_;show LH _ A.in1 (Builtin.Builtins.bindParams "max" ["key","default"] 0 ⟨[],[]⟩ >>=_) _ _ s;refine KL (S5 (show Builtin.Builtins.bindParams "max" ["key","default"] 0 ⟨[],[]⟩=pure [none,none] from rfl) ?_);refine KL (KY ?_);refine KL (NA n ?_);have m:l<s.heap.objs.size:=by obtain⟨o,e,_⟩:=n;exact Lc e
 refine KL (N4 ?_);rw[nm];have W:=Walks.list (prog:=prog) (w:=w) (A:=A.in1) x s.heap.objs.size l (LA m) items;have d:∀b o,s.heap.get? b=some o→((s.heap.push {cls:=.type "list_iterator",data:=.fields #[.ref l,.int 0 0] }).push {cls:=.type "list",data:=.seq #[] }).get? b=some o:=λb o e=>KU _ (KU _ e);have p:(s.heap.push {cls:=.type "list_iterator",data:=.fields #[.ref l,.int 0 0] }).objs.size=s.heap.objs.size+1:=MM ..
 have lt:∀b o,s.heap.get? b=some o→b ∉ [s.heap.objs.size]∧b≠(s.heap.push {cls:=.type "list_iterator",data:=.fields #[.ref l,.int 0 0] }).objs.size:=λb o e=>by
  have h:=Lc e;refine⟨λz=>?_,λz=>?_⟩
  .rw[K9.mp z]at h;exact LS _ h
  .rw[z,p]at h;exact LS _ (T9 h)
 refine KY ⟨M0 MX _,vR (G:=λh=>G h/\∀b o,s.heap.get? b=some o->h.get? b=some o) W (λi j H C y t B c=>u i j H C y t B c.1) (λh a c f=>?_) ?_ D ⟨stay _ _ g (λ_ _ e=>e) d,d⟩ ⟨⟨_,KU _ (Le _ rfl),rfl,rfl⟩,(n.push _).push _⟩ (Le _ rfl) λv a k I f=>?_⟩
 .have r:∀b o,s.heap.get? b=some o->a.get? b=some o:=λb o e=>f b o (lt b o e).1 (lt b o e).2 (c.2 b o e);exact⟨stay _ _ c.1 c.2 r,r⟩
 .intro z;have q:(s.heap.push {cls:=.type "list_iterator",data:=.fields #[.ref l,.int 0 0] }).objs.size∈[s.heap.objs.size,l]:=z;rw[p]at q;rcases KO.mp q with z |z
  .exact absurd z (Uy _)
  .have e:=K9.mp z;rw[<-e]at m;exact absurd m (Uz (Mf _))
 .exact hQ v a k I λb o e=>f b o (lt b o e).1 (lt b o e).2 (d b o e)
end
end ST
namespace ST
open PySem PyProof.Rows
section
variable {prog:Lg}{w:LL}{A:L7}{E:K3→K8→Prop}{s:K8}
theorem yo(h:Q (.bool (decide (x<y))) s):LH (LM prog w) A (QI .Lt (.int x t) (.int y u)) Q E s:=
 Rf (Pz s _ t) (Pz s _ u) PySem.F.slot_int_lt PySem.F.entry_int_lt (PySem.F.args_int_lt_2 _ _) (gives_int_lt _ _ t u) (λx=>nomatch x) h
theorem AJ(k:TK prog w s.heap [a.1,a.2] x)(i:TK prog w s.heap [b.1,b.2] y)(h:P (.done (.ret (.bool (ltP a b)))) s):
  LH (LM prog w) A (Builtin.«tuple.__lt__» ⟨[.ref x,.ref y],[]⟩) P E s:=by
 have e:=i.typeIs;obtain⟨o,its,n,t,u,l,_,m,j⟩:=k.two;obtain⟨r,c,B,C,v,q,_,p,f⟩:=i.two;show LH _ _ (Vz (.ref y) (.type "tuple") >>=_) _ _ s;refine KL (NV e Qk ?_);simp only[MR,Ln,if_false];refine KL (Oj l m ?_);refine KL (Oj q p ?_);have sz:its.size=c.size:=by rw[<-Li,<-Li,j,f];rfl
 rw[j,f];refine KL ?_;simp only[Np,Rg,PR,Q2];refine KL (KL ((Qn prog w).eqBool (a:=a.1) (b:=b.1) (Mt _ _ _ _) (Mt _ _ _ _) ?_));by_cases d:a.1=b.1
 .rw[decide_eq_true d];simp only[MR,Ln,if_false];refine KY ?_;refine KL (KL ((Qn prog w).eqBool (a:=a.2) (b:=b.2) (Mt _ _ _ _) (Mt _ _ _ _) ?_));by_cases g:a.2=b.2
  .rw[decide_eq_true g];simp only[MR,Ln,if_false];refine KY (KY ?_);have z:ltP a b=false:=by unfold ltP;simp;lia
   rw[z]at h;refine KY ?_;show P (.done (.ret (.bool (decide (its.size<c.size))))) s;rw[sz,decide_eq_false (LS _)];exact h
  .rw[decide_eq_false g];simp only[On,if_true];have z:ltP a b=decide (a.2<b.2):=by unfold ltP;rw[d];simp
   rw[z]at h;exact KL (P7 (KL (yo (KL (KY (KY (KY (KY h))))))))
 .rw[decide_eq_false d];simp only[On,if_true];have z:ltP a b=decide (a.1<b.1):=by unfold ltP;simp[d]
  rw[z]at h;exact KL (P7 (KL (yo (KL (KY (KY (KY (KY h))))))))
theorem lt_ptsR(f:A.units<NZ)(c:TK prog w s.heap [a.1,a.2] x)(d:TK prog w s.heap [b.1,b.2] y)(h:Q (.bool (ltP a b)) s):
  LH (LM prog w) A (LX .Lt (.ref x) (.ref y)) Q E s:=
 OZ (op:=.Lt) c.typeIs d.typeIs Sq
  (M3 Sq c.typeIs PySem.F.entry_tuple_lt (AJ c d ⟨_,rfl,(λe=>nomatch e),h⟩) (PySem.F.args_tuple_lt_2 _ _)) f
theorem w8(h:Q (.bool (decide (y<x))) s):LH (LM prog w) A (QI .Gt (.int x t) (.int y u)) Q E s:=
 Rf (op:=.Gt) (Pz s _ t) (Pz s _ u) PySem.F.slot_int_gt PySem.F.entry_int_gt (PySem.F.args_int_gt_2 _ _) (gives_int_gt _ _ t u) (λx=>nomatch x) h
theorem Db(k:TK prog w s.heap [a.1,a.2] x)(i:TK prog w s.heap [b.1,b.2] y)(h:P (.done (.ret (.bool (ltP b a)))) s):
  LH (LM prog w) A (Builtin.«tuple.__gt__» ⟨[.ref x,.ref y],[]⟩) P E s:=by
 have e:=i.typeIs;obtain⟨o,its,n,t,u,l,_,m,j⟩:=k.two;obtain⟨r,c,B,C,v,q,_,p,f⟩:=i.two;show LH _ _ (Vz (.ref y) (.type "tuple") >>=_) _ _ s;refine KL (NV e Qk ?_);simp only[MR,Ln,if_false];refine KL (Oj l m ?_);refine KL (Oj q p ?_);have sz:its.size=c.size:=by rw[<-Li,<-Li,j,f];rfl
 rw[j,f];refine KL ?_;simp only[Np,Rg,PR,Q2];refine KL (KL ((Qn prog w).eqBool (a:=a.1) (b:=b.1) (Mt _ _ _ _) (Mt _ _ _ _) ?_));by_cases d:a.1=b.1
 .rw[decide_eq_true d];simp only[MR,Ln,if_false];refine KY ?_;refine KL (KL ((Qn prog w).eqBool (a:=a.2) (b:=b.2) (Mt _ _ _ _) (Mt _ _ _ _) ?_));by_cases g:a.2=b.2
  .rw[decide_eq_true g];simp only[MR,Ln,if_false];refine KY (KY ?_);have z:ltP b a=false:=by unfold ltP;simp;omega
   rw[z]at h;refine KY ?_;show P (.done (.ret (.bool (decide (its.size >c.size))))) s;rw[sz,decide_eq_false (LS _)];exact h
  .rw[decide_eq_false g];simp only[On,if_true];have z:ltP b a=decide (b.2<a.2):=by unfold ltP;rw[d];simp
   rw[z]at h;exact KL (P7 (KL (w8 (KL (KY (KY (KY (KY h))))))))
 .rw[decide_eq_false d];simp only[On,if_true];have z:ltP b a=decide (b.1<a.1):=by unfold ltP;simp[Ne.symm d]
  rw[z]at h;exact KL (P7 (KL (w8 (KL (KY (KY (KY (KY h))))))))
theorem gt_ptsR(f:A.units<NZ)(c:TK prog w s.heap [a.1,a.2] x)(d:TK prog w s.heap [b.1,b.2] y)(h:Q (.bool (ltP b a)) s):
  LH (LM prog w) A (LX .Gt (.ref x) (.ref y)) Q E s:=
 OZ (op:=.Gt) c.typeIs d.typeIs Sr
  (M3 Sr c.typeIs PySem.F.entry_tuple_gt (Db c d ⟨_,rfl,(λe=>nomatch e),h⟩) (PySem.F.args_tuple_gt_2 _ _)) f
end
theorem wZ:ltP a b=true↔(a.1<b.1\/(a.1=b.1/\a.2<b.2)):=by unfold ltP;exact decide_eq_true_iff
theorem ltP_no:ltP a b=false↔¬ (a.1<b.1\/(a.1=b.1/\a.2<b.2)):=by unfold ltP;exact decide_eq_false_iff_not
theorem ltP_one(d:ltP a b=false)(c:ltP b a=false):a=b:=by
 rw[ltP_no]at d c;obtain⟨g,f⟩:=a;obtain⟨e,h⟩:=b;simp only[Rr]at *;lia
theorem best_min(f:Nat->Int×Int):∀k,MK (λi j=>ltP (f i) (f j)) k<=k/\∀j,j<=k->ltP (f j) (f (MK (λi j=>ltP (f i) (f j)) k))=false
 |0=>⟨K1 _,λj c=>by
  obtain rfl:j=0:=by lia
  rw[ltP_no];simp[MK]⟩
 |k+1=>by
  obtain⟨d,b⟩:=best_min f k;by_cases a:ltP (f (k+1)) (f (MK (λi j=>ltP (f i) (f j)) k))=true
  .rw[MK,if_pos a];refine⟨K1 _,λj c=>?_⟩;rw[wZ]at a;rcases Nr j (k+1) with z |z
   .have:=ltP_no.mp (b j (by lia));rw[ltP_no];lia
   .obtain rfl:j=k+1:=by lia
    rw[ltP_no];lia
  .rw[MK,if_neg a];refine⟨by lia,λj c=>?_⟩;rcases Nr j (k+1) with z |z
   .exact b j (by lia)
   .obtain rfl:j=k+1:=by lia
    simpa using a
theorem best_max(f:Nat->Int×Int):∀k,MK (λi j=>ltP (f j) (f i)) k<=k/\∀j,j<=k->ltP (f (MK (λi j=>ltP (f j) (f i)) k)) (f j)=false
 |0=>⟨K1 _,λj c=>by
  obtain rfl:j=0:=by lia
  rw[ltP_no];simp[MK]⟩
 |k+1=>by
  obtain⟨d,b⟩:=best_max f k;by_cases a:ltP (f (MK (λi j=>ltP (f j) (f i)) k)) (f (k+1))=true
  .rw[MK,if_pos a];refine⟨K1 _,λj c=>?_⟩;rw[wZ]at a;rcases Nr j (k+1) with z |z
   .have:=ltP_no.mp (b j (by lia));rw[ltP_no];lia
   .obtain rfl:j=k+1:=by lia
    rw[ltP_no];lia
  .rw[MK,if_neg a];refine⟨by lia,λj c=>?_⟩;rcases Nr j (k+1) with z |z
   .exact b j (by lia)
   .obtain rfl:j=k+1:=by lia
    simpa using a
end ST
namespace L2
open PySem PySem.Spec PyProof.Rows
variable {pos:Pos}
section
variable {X:Cx}{pts:List P2}{M:P2}
theorem Cn(I:Inv X Wz σ H s)(g:aS ws its)(f:Rps X.K H ws (pts.map pu))(i)(y)(k:its.toArray[i]?=some y):
  i<pts.length/\∃c,y=.ref c/\ws[i]?=some (.ref c)/\∀a w,ST.TK a w s.heap [(pts.getD i (0,0)).1,(pts.getD i (0,0)).2] c:=by
 have h:its[i]?=some y:=by simpa using k
 have m:ws.length=pts.length:=by rw[f.len,KI]
 have l:i<its.length:=aK h;have d:i<ws.length:=by rw[g.length];exact l
 have b:i<pts.length:=by lia
 obtain⟨u,j,e⟩:=g.get (KJ d);rw[h]at j;cases j;have r:=f.at_ i _ (pu (pts.getD i (0,0))) (KJ d) (by rw[K5,KJ b];simp[b])
 obtain⟨c,rfl,t⟩:=kG I r e;refine⟨b,c,rfl,?_,t⟩;rw[KJ d];generalize ws[i]=z at *;cases r;cases e;rfl
theorem FC(a:g<pts.length):(pts.map pu)[g]?=some (pu (pts.getD g (0,0))):=by
 rw[K5,KJ a];simp[a]
theorem GY(N:X.calm=true)(hu:X.A.units+10<NZ)(C:M∈pts)(J:∀q∈pts,ST.ltP q M=false):dJ X (.builtin "min") [lp pts] (pu M):=by
 intro Wz s σ H vs us Q I r f;obtain⟨O,d,R,q⟩:=f;obtain⟨v,rfl,h1⟩:=bW R;obtain⟨p1,rfl,T⟩:=cX r;cases h1 with
 | @lst a U _ f E P=>
  cases T;obtain⟨its,x,L,_⟩:=I.list (SqL.of (aE _ _ f));have p:Rps X.K (hid H O) U (pts.map pu):=⟨E,P⟩;have D:its.toArray.size=pts.length:=by rw[Lj,<-x.length,E,KI]
  have l:=Cn (pts:=pts) I x (p.same aE);have hn:0<pts.length:=Mp C;refine ST.call_minG (G:=λh=>∀(i:Nat) (y:K3),its.toArray[i]?=some y->∃c,y=.ref c/\ST.TK X.prog X.w h [(pts.getD i (0,0)).1,(pts.getD i (0,0)).2] c) (bt:=λi j=>ST.ltP (pts.getD i (0,0)) (pts.getD j (0,0))) (I.ok.hd N) L.isList (by rw[D];exact hn) (λi j vi Z s' Q' E' g Y b k=>?_) (λi y hy=>?_) (λh h' _ _ k2 i y hy=>?_) λy h' W hy V=>?_
  .obtain⟨c,rfl,t⟩:=g i vi Y;obtain⟨c',rfl,t'⟩:=g j Z b;exact ST.lt_ptsR (show X.A.units+1<NZ by lia) t t' k
  .obtain⟨_,c,rfl,_,t⟩:=l i y hy;exact⟨c,rfl,t _ _⟩
  .obtain⟨_,c,rfl,_,t⟩:=l i y hy;obtain⟨o,items,n,S,z⟩:=t X.prog X.w;exact⟨c,rfl,o,items,n,k2 c o S,z⟩
  .obtain⟨m,c,rfl,hw,t⟩:=l _ y hy;obtain⟨F,B⟩:=ST.best_min (λi=>pts.getD i (0,0)) (its.toArray.size-1)
   have e:pts.getD (MK (λi j=>ST.ltP (pts.getD i (0,0)) (pts.getD j (0,0))) (its.toArray.size-1)) (0,0)=M:=by
    rw[D]at F B m |-;generalize MK (λi j=>ST.ltP (pts.getD i (0,0)) (pts.getD j (0,0))) (pts.length-1)=g at *
    obtain⟨j,b⟩:=Lz.mp C;have u:=B j (by have:=aK b;lia);rw[show pts.getD j (0,0)=M by rw[Lr,b];rfl]at u
    exact ST.ltP_one (J _ (by simp[m])) u
   refine⟨.ref c,H,I.kept (t':=W) V,rfl,q _ H (.refl H) ?_⟩;have z:=p.at_ _ _ _ hw (FC m);rw[e]at z;exact z
theorem Hj(N:X.calm=true)(hu:X.A.units+10<NZ)(C:M∈pts)(J:∀q∈pts,ST.ltP M q=false):dJ X (.builtin "max") [lp pts] (pu M):=by
 intro Wz s σ H vs us Q I r f;obtain⟨O,d,R,q⟩:=f;obtain⟨v,rfl,h1⟩:=bW R;obtain⟨p1,rfl,T⟩:=cX r;cases h1 with
 | @lst a U _ f E P=>
  cases T;obtain⟨its,x,L,_⟩:=I.list (SqL.of (aE _ _ f));have p:Rps X.K (hid H O) U (pts.map pu):=⟨E,P⟩;have D:its.toArray.size=pts.length:=by rw[Lj,<-x.length,E,KI]
  have l:=Cn (pts:=pts) I x (p.same aE);have hn:0<pts.length:=Mp C;refine ST.call_maxG (G:=λh=>∀(i:Nat) (y:K3),its.toArray[i]?=some y->∃c,y=.ref c/\ST.TK X.prog X.w h [(pts.getD i (0,0)).1,(pts.getD i (0,0)).2] c) (bt:=λi j=>ST.ltP (pts.getD j (0,0)) (pts.getD i (0,0))) (I.ok.hd N) L.isList (by rw[D];exact hn) (λi j vi Z s' Q' E' g Y b k=>?_) (λi y hy=>?_) (λh h' _ _ k2 i y hy=>?_) λy h' W hy V=>?_
  .obtain⟨c,rfl,t⟩:=g i vi Y;obtain⟨c',rfl,t'⟩:=g j Z b;exact ST.gt_ptsR (show X.A.units+1<NZ by lia) t t' k
  .obtain⟨_,c,rfl,_,t⟩:=l i y hy;exact⟨c,rfl,t _ _⟩
  .obtain⟨_,c,rfl,_,t⟩:=l i y hy;obtain⟨o,items,n,S,z⟩:=t X.prog X.w;exact⟨c,rfl,o,items,n,k2 c o S,z⟩
  .obtain⟨m,c,rfl,hw,t⟩:=l _ y hy;obtain⟨F,B⟩:=ST.best_max (λi=>pts.getD i (0,0)) (its.toArray.size-1)
   have e:pts.getD (MK (λi j=>ST.ltP (pts.getD j (0,0)) (pts.getD i (0,0))) (its.toArray.size-1)) (0,0)=M:=by
    rw[D]at F B m |-;generalize MK (λi j=>ST.ltP (pts.getD j (0,0)) (pts.getD i (0,0))) (pts.length-1)=g at *
    obtain⟨j,b⟩:=Lz.mp C;have u:=B j (by have:=aK b;lia);rw[show pts.getD j (0,0)=M by rw[Lr,b];rfl]at u
    exact ST.ltP_one u (J _ (by simp[m]))
   refine⟨.ref c,H,I.kept (t':=W) V,rfl,q _ H (.refl H) ?_⟩;have z:=p.at_ _ _ _ hw (FC m);rw[e]at z;exact z
variable {H0:Hp}{O0:List Lm}{ps:PSt}{x:Str}{a b:Expr}{i j:Int}
theorem pT(b:Gl X x)(h:∃t,X.mg x=some (.int i t))(a:autoParam ((x==("__debug__":Str))=false) v0):Ev X H0 O0 ps (.Name x pos) (.int i):=by
 obtain⟨t,c⟩:=h;exact PE.mono (yr (v:=.int i) b c ⟨t,rfl⟩ a) λ_ H _ ⟨_,_,k⟩=>k _ H (.refl H) (.int i)
end
theorem Rps.rep{K:KM}(r:Rps K H vs xs):∀k,Rps K H (LD k vs).flatten (LD k xs).flatten
 |0=>.nil
 |k+1=>by
  rw[ME,ME,N5,N5];exact r.snoc (r.rep k)
section
variable {X:Cx}{H0:Hp}{O0:List Lm}{ps:PSt}{a b:Expr}{xs:List U}{u:U}{k:Int}
theorem Im(m:Ev X H0 O0 ps a (.lst xs))(i:Ev X H0 O0 ps b (.int k))(n:-(2 ^ 63)<=k)(l:k<2 ^ 63)(j:xs.length*k.toNat<=sizeLine):EvN X H0 O0 ps (.BinOp a .Mult b pos) (LD k.toNat xs).flatten:=
 PE.mono (uJ Ht m i) λr H Q ⟨O,R,q⟩=>two R (λ_ _ _ z=>z) (λ_ _ _ z=>z) λv w o s _ h g=>by
  cases g;cases h with
  |lst e d f=>
   refine⟨_,_,_,rfl,rfl,aE _ _ e,n,l,by rw[d];exact j,λp c=>q p _ _ (s.trans (aO c _)) (s.free c) aH ?_⟩;exact (Rps.rep ⟨d,f⟩ _).same (bu (aO c _) c)
theorem uP{α:Type}(u:α):∀k,(LD k [u]).flatten=LD k u
 |0=>rfl
 |k+1=>by rw[ME,N5,uP u k];rfl
theorem Gj(e:Ev X H0 O0 ps a (.lst [u]))(f:Ev X H0 O0 ps b (.int k))(g:-(2 ^ 63)<=k)(c:k<2 ^ 63)(d:k.toNat<=sizeLine):EvN X H0 O0 ps (.BinOp a .Mult b pos) (LD k.toNat u):=by
 rw[<-uP];exact Im e f g c (by simpa using d)
end
theorem Rs.free{K:KM}{D H:Hp}{I O:List Lm}{q:PSt}{E:St}{xs:List U}(n:Nat)(h:q[n]?=some (some (.own xs)))(R:Rs K D I q E H O):∃A,(∀b∈A,b∈O)/\Rs K D I (q.set n (some (.val (.lst xs)))) E H A:=by
 obtain⟨v,G,a,vs,rfl,ha,t,F,B⟩:=R.at_ n _ h;have c:∀b∈O.filter (λb=>decide (b≠a)),b∈O:=λb f=>(LW.mp f).1;have keep:∀b∈O,b≠a->b∈O.filter (λb=>decide (b≠a)):=λb f l=>LW.mpr ⟨f,by simpa using l⟩;have g:aT (hid H O) (hid H (O.filter (λb=>decide (b≠a)))):=bI c;have X:a ∉ O.filter (λb=>decide (b≠a)):=λz=>by have:=(LW.mp z).2;simp at this
 refine⟨O.filter (λb=>decide (b≠a)),c,R.same,λb f=>keep b (R.old b f) λe=>t (e ▸ f),λb f=>R.new b (c b f),λb f=>R.dom b (c b f),by rw[R.len,OS],λi s k=>?_,λi j L zs b y x Z V=>?_⟩
 .rcases b9 k with ⟨rfl,e⟩ |⟨l,k⟩
  .cases e;exact⟨.ref a,G,.lst (cZ F X) (B.same g).len (B.same g).at_⟩
  .obtain⟨w,J,ok⟩:=R.at_ i s k;refine⟨w,J,?_⟩;cases s with
   |val u=>exact Rp.same g ok
   |own L=>
    obtain⟨b,S,rfl,f,r,o,m⟩:=ok;refine⟨b,S,rfl,keep b f λe=>?_,r,o,m.same g⟩;subst e;exact l (R.inj n i _ _ b h k G J)
   |pin z u=>exact⟨ok.1,Rp.same g ok.2⟩
   |dsk w C b d WB=>
    obtain⟨P,Y,Q,M,W,T,p,N⟩:=ok;exact⟨P,Y,Q,keep d M (λe=>by rw[e,F]at p;cases p),W,T,p,N.same g⟩
 .rcases b9 y with ⟨_,e⟩ |⟨_,y⟩
  .cases e
  .rcases b9 x with ⟨_,e⟩ |⟨_,x⟩
   .cases e
   .exact R.inj i j _ _ b y x Z V
section
variable {X:Cx}{H0:Hp}{O0:List Lm}{E:XK}{ps:PSt}{D:PD}{ss:List Nz}{e:Expr}{xs:List U}{b:Bool}
theorem uY(n:Nat)(h:ps[n]?=some (some (.own xs)))(w:Ws X H0 O0 E ss D (ps.set n (some (.val (.lst xs))))):Ws X H0 O0 E ss D ps:=
 PSs.mono w λd e H b=>by
  obtain⟨L,O,R⟩:=b;obtain⟨a,_,c⟩:=R.free n h;exact⟨L,a,c⟩
end
section
variable {X:Cx}{ns:List Int}{M:Int}
theorem ve(B:X.calm=true)(h:M∈ns∧∀a∈ns,a≤M):dJ X (.builtin "max") [.lst (ns.map U.int)] (.int M):=by
 intro S s Y H T us Q I r f;obtain⟨O,d,D,q⟩:=f;obtain⟨v,rfl,P⟩:=bW D;obtain⟨R,rfl,E⟩:=cX r;cases P with
 | @lst a W _ f u C=>
  cases E;obtain⟨its,k,c,_⟩:=I.list (SqL.of (aE _ _ f));have n:its.length=ns.length:=by rw[<-k.length,u,KI]
  have p:=n8 (ns:=ns) k ⟨u,C⟩;have L:0<ns.length:=Mp h.1;refine call_max_walk (NA c.isList ?_);have m:a<s.heap.objs.size:=by obtain⟨o,e,_⟩:=c.isList;exact Lc e
  refine⟨s.heap.objs.size,_,_,_,_,_,_,rfl,Walks.list (A:=X.A.in1) (I.ok.hd B) s.heap.objs.size a (LA m) its.toArray,⟨⟨_,Le _ rfl,rfl,rfl⟩,c.isList.push _⟩,λb F=>?_,by rw[Lj,n];exact L,CmpOf.ints_gt (λi=>ns.getD i 0) p,λv Z G K N=>?_⟩
  .show b<(s.heap.push _).objs.size;rw[MM];rcases KO.mp F with z |z
   .rw[z];exact Mf _
   .rw[K9.mp z];exact ND m
  .obtain⟨t,rfl⟩:=p _ _ K;obtain⟨x,l⟩:=argBest_gt (λi=>ns.getD i 0) (its.toArray.size-1)
   have e:ns.getD (MK (λi j=>decide (ns.getD i 0 >ns.getD j 0)) (its.toArray.size-1)) 0=M:=by
    rw[Lj,n]at x l |-;generalize MK (λi j=>decide (ns.getD i 0 >ns.getD j 0)) (ns.length-1)=g at *
    have w:g<ns.length:=by lia
    obtain⟨j,J,V⟩:=QD h.1;have y:=l j (by lia);have k2:=h.2 ns[g] (Po w);simp only[Lr,KJ w,KJ J,Pn]at y |-;lia
   rw[e];refine⟨.int M,H,I.kept (t':=G) λb o e=>N b o ?_ (KU _ e),⟨t,rfl⟩,q _ H (.refl H) (.int _)⟩;intro z;have:b=s.heap.objs.size:=by simpa using z
   exact absurd (Lc e) (by rw[this];exact LS _)
variable {H0:Hp}{O0:List Lm}{E:XK}{ps:PSt}{D:PD}{e:Expr}{xs ys:List U}
theorem BD(i:Nat){x:Str}{f c d:Pos}(j:ps[i]?=some (some (.own xs)))(y:Ev X H0 O0 ps e (.lst ys))(q:xs.length+ys.length<=sizeLine)(h:D.nx (ps.set i (some (.own (xs++ys)))))
  (hN:autoParam (X.N[i]?=some x) w4) (hv:autoParam (Vis X.env.scope x) v3) (hd:autoParam ((x==("__debug__":Str))=false) v0) (W0:autoParam ((x==("__classdict__":Str))=false) v0)
  (WN:autoParam (MC (.Name x d) "extend" X.env (Nq (.Name x d) X.env)=Nq (.Name x d) X.env) w4)
  (W4:autoParam (((M4 c (K7 [e] X.env)).all (λx=>!x.1) && (Pl c (NT [] X.env)).all (λx=>x.1.isSome) && decide ([e].length+([]:List OR).length+(if ([]:List OR).isEmpty then 0 else 1)<30))=true) w4)
  (WO:autoParam ((f.endLine==c.line)=true) w4) (Xy:autoParam (K7 [e] X.env=(false,Nq e X.env)::K7 [] X.env) w4) (WQ:autoParam ((M4 c (K7 [] X.env)).any (·.1)=false) w4)
  (hs:autoParam (NX (.Call (.Attribute (.Name x d) "extend" f) [e] [] c) none pos.line X.env=pure false) w4):W1 X H0 O0 E (.Expr (.Call (.Attribute (.Name x d) "extend" f) [e] [] c) pos) D ps:=
 PS.mono (lK (pf PU PySem.F.slot_list_extend PySem.F.type_list_extend zf (fe hN hv hd W0) (cx y dP Xy) WN W4 WO Xy WQ) hs) λz B H t=>by
  obtain⟨L,O,R⟩:=t;obtain⟨v,m,a,p,rfl,G,C,g,k⟩:=R.at_ i _ j;refine⟨_,m,.inl ⟨rfl,_,SqL.of g⟩,O,R,λw A s r=>?_⟩;cases r with
  | @lst b u _ n l o=>
   refine⟨a,b,p,u,rfl,rfl,s _ _ g,aE _ _ n,by rw[k.len,l];exact q,?_⟩;exact L.nx _ _ _ O ((R.go s).write j m ((k.same (aN s)).snoc ⟨l,o⟩)) h
end
end L2
namespace L2
open PySem PySem.Spec PySem.W PyProof.Rows
structure AC(K:KM)(x WD:Str)(st:Nz)(f:Lm)(fd:Ng)(D:Lm):Prop where
 ex:∃(oc:K3) (od:Option Lm) (kV Xh pm:K3) (an:Option Lm) (cdv ct:K3) (X5:Array (Option K3)),
  fd=N1 x WD (cf st) (bq st) (ai st) (.ref D) kV Xh pm an cdv ct/\K.lookup f=some ⟨oc,od,.func fd,X5⟩/\Qh K cdv WD=true
 kp:NK K (.ref f)=true
theorem EC{K:KM}{x d:Str}{b:Nz}{f D:Lm}{m:K3}{o j:Option Lm}{n:Array (Option K3)}{g h e a i:K3}(l:K.lookup f=some ⟨m,o,.func (N1 x d (cf b) (bq b) (ai b) (.ref D) g h e j a i),n⟩)
  (c:Qh K a d=true) (k:NK K (.ref f)=true):AC K x d b f (N1 x d (cf b) (bq b) (ai b) (.ref D) g h e j a i) D:=⟨⟨m,o,g,h,e,j,a,i,n,rfl,l,c⟩,k⟩
section
variable {P:Lg}{w:LL}{K:KM}{mg:Str→Option K3}{base:Nh}{N pn:List Str}{WD nm:Str}{f D:Lm}
theorem AC.okF{x:Str}{d:Nz}{g:Ng}{k:Nat}{sp:Sp}(F:AC K x WD d f g D)(S:ar N pn (ai d))(e:∀c H Q E,sp c H Q E->c.length=pn.length)
  (W3:∀(b:K3) (A:L7) (a:List Env) (s:K8) (H:Hp) (c:List V) (Q:VK) (E:XK),cB k (A.deeper (Q9 WD (ai d) s.heap.objs.size f b))->sp c H Q E->
   ∃t,PSs (nu (CXF P w) P w K mg base N WD (ai d) f b A a s H E) (bq d) t/\t {nx:=λ_ i=>Q .non i,rt:=Q } (start N c) H):cF P w K mg base (CXF P w) (k+1) f g pn sp:=by
 obtain⟨q,o,kV,n,p,v,b,u,r,rfl,m,j⟩:=F.ex;exact FB m j S e λA a s H c Q E h l=>W3 b A a s H c Q E h l
theorem Hk{n:Nz}{y:Ng}{k:Nat}{t:List U->Out->Prop}(F:AC K nm WD n f y D)(S:ar N pn (ai n))(p:∀c o,t c o->c.length=pn.length)
  (W3:∀(l:K3) (A:L7) (b:List Env) (s:K8) (H:Hp) (E:XK) (O:List Lm) (c:List U) (o:Out),cB k (A.deeper (Q9 WD (ai n) s.heap.objs.size f l))->t c o->
   Ws (nu (CXF P w) P w K mg base N WD (ai n) f l A b s H E) H O E (bq n) ⟨λ_=>o=.val .non,λx=>x=o,λ_=>False,λ_=>False⟩ (gD N c)):cF P w K mg base (CXF P w) (k+1) f y pn (spU K t):=by
 refine F.okF S (λz H Q E h=>?_) λl A b s H z Q E B h=>?_
 .obtain⟨c,O,o,_,r,u,_⟩:=h;rw[r.len];exact p c o u
 .obtain⟨c,O,o,d,r,u,q⟩:=h;refine⟨_,W3 l A b s H E O c o B u,⟨λT X C J R e=>?_,λ_ _ _ _ _ e=>e.elim,λ_ _ _ _ _ e=>e.elim,λx e=>by subst e;exact q⟩,O,?_⟩
  .subst e;exact q .non C R.same .non
  .refine⟨.refl H,λa h=>h,λa h=>.inl h,d,?_,λi V e=>?_,λi j W L a m M _ _=>?_⟩
   .unfold start gD;rw[LB,LB,KI,KI,M_,M_,r.len]
   .unfold gD at e;by_cases g:i<c.length
    .rw[Lp (by simpa using g),K5,KJ g]at e
     cases e;obtain⟨v,I,G⟩:=r.get (KJ g);refine⟨v,?_,G⟩;unfold start;rw[Lp (by simpa [r.len] using g),K5,I];rfl
    .rw[Lq (by simpa using g),MP]at e
     split at e <;>cases e
   .exfalso
    unfold gD at m;by_cases g:i<c.length
    .rw[Lp (by simpa using g),K5,KJ g]at m
     cases m
    .rw[Lq (by simpa using g),MP]at m
     split at m <;>cases m
end
section
variable {X:Cx}{H0:Hp}{O0:List Lm}{ps:PSt}{e:Expr}{es:List Expr}{pos p:Pos}{u:U}{us:List U}{xs:List U}{CX:CXT}{n:Nat}{f:Lm}{fd:Ng}{pn:List Str}{WJ:List U→Out→Prop}{nm:Str}{j:Int}
theorem D_(F:cF X.prog X.w X.K X.mg X.base CX n f fd pn (spU X.K WJ))(o:cB n X.A)(x:Gl X nm)(i:X.mg nm=some (.ref f))(s:NK X.K (.ref f)=true)(a:∃t,cJ X.K fd pn [.int j t])(d:eE CX X E0)
  (ha:EvA X H0 O0 ps (e::es) us) (h:WJ (us++[.int j]) (.val u)) (W2:autoParam ((nm==("__debug__":Str))=false) v0) (he:autoParam (K7 (e::es) X.env=(false,Nq e X.env)::K7 es X.env) w4) (WX:autoParam ((M4 pos (K7 es X.env)).any (·.1)=false) w4):
  Ev X H0 O0 ps (.Call (.Name nm p) (e::es) [] pos) u:=by
 obtain⟨t,a⟩:=a;refine PE.mono (rQ F o x i s a (.cons (show aR (.int j) (.int j t) from ⟨t,rfl⟩) .nil) d ha W2 he WX) λy H Q ⟨O,R,q⟩=>⟨O,R,λk c b m=>?_⟩
 show spU X.K WJ (k++[.int j]) c Q _;exact⟨us++[.int j],O,.val u,(R.go b).dom,m.snoc (.cons (.int _) .nil),h,λv g r l=>q v g (b.trans r) l⟩
end
end L2
namespace L2
open PySem PySem.Spec PyProof.Rows
theorem Ac{P:Lg}{w:LL}{K:KM}{J:Expr}(c:Lm)(j:Int)(n:Nat):vL P w K J (Itr j n) [c] c (λi h=>IsLongIter h c (j+(i:Nat) *1) ((n:Int)-(i:Nat)) 1) where
 mem:=by simp
 obj:=λi h a b d=>by
  have e:b=c:=by simpa using d
  subst e
  exact⟨_,a,λv z=>by
   have O:Data.fields _=Data.cell v:=z;cases O⟩
 keep:=λi h g a k=>k c (by simp) _ a
 item:=by
  intro X u x B l i D s G H E I f a A;subst u x B;obtain⟨r,y,N,m,p,q⟩:=f c (by simp);have W:=Walks.longrange (prog:=X.prog) (w:=X.w) (I.ok.hd l) c j 1 n;refine W.item i s _ _ A a λv g F Q C R=>?_;obtain⟨t,rfl⟩:=Q;have M:Inv X D G H {s with heap:=g,toks:=F }:=I.turned (λb o d e=>R b o (by simpa using d) e) r y m p q;refine⟨_,rfl,sr (s:={s with heap:=g,toks:=F }) (n:="longrange_iterator") C rfl rfl (by decide) ⟨.int (j+i),H,M,⟨t,?_⟩,⟨rfl,rfl⟩,C,λb d=>(f b d).1⟩⟩;rw[Rn]
 done:=by
  intro X u x B l i D s G H E I f a A;subst u x B;obtain⟨r,y,N,m,p,q⟩:=f c (by simp);exact wpAny_pyNext_long_end (I.ok.hd l) a (by have:n<=i:=A;lia) λg L=>⟨rfl,I.turned (t':=s.toks) (λb o d e=>L b o d e) r y m p q⟩
 self:=λ_ _ _ _ _ a h=>wpAny_pyIter_longiter a h
section
variable {X:Cx}{tg:Expr}
theorem pG{a c:Int}(I:Inv X Wz σ H s)
  (q:R (Itr a (c-a).toNat) H):LH (LM X.prog X.w) X.A (Uh (.ref s.heap.objs.size)) (PIE X Wz σ tg R) E {s with heap:=s.heap.push {cls:=.type "range",data:=.fields #[.int a t,.int c u,.int 1 v] },toks:=tk }:=by
 have d:Inv X Wz σ H {s with heap:=s.heap.push {cls:=.type "range",data:=.fields #[.int a t,.int c u,.int 1 v] },toks:=tk }:=I.kept λb o e=>KU _ e;have g:a+((0:Nat):Int) *1=a:=by simp
 have i:(((c-a).toNat:Nat):Int)-((0:Nat):Int)=Builtin.Range.rangeSize a c 1:=by rw[rangeSize_one];split <;>lia
 by_cases h:Builtin.Range.small a c 1=true
 .refine Td (IsRange.new ..) h ?_
  refine⟨(s.heap.push {cls:=.type "range",data:=.fields #[.int a t,.int c u,.int 1 v] }).objs.size,[(s.heap.push {cls:=.type "range",data:=.fields #[.int a t,.int c u,.int 1 v] }).objs.size],_,_,H,rfl,
   d.kept (t':=tk) λb o e=>KU _ e,n6 _ a (c-a).toNat,?_,λb f=>?_,q⟩
  .show UP _ _ (a+((0:Nat):Int) *1) ((((c-a).toNat:Nat):Int)-((0:Nat):Int)) 1;rw[g,i];exact Le _ rfl
  .have e:b=(s.heap.push {cls:=.type "range",data:=.fields #[.int a t,.int c u,.int 1 v] }).objs.size:=by simpa using f
   subst e;exact d.fpOk (K1 _) (d.hok.fresh (K1 _))
 .refine wpAny_pyIter_longrange (IsRange.new ..) (by simpa using h) ?_
  refine⟨(s.heap.push {cls:=.type "range",data:=.fields #[.int a t,.int c u,.int 1 v] }).objs.size,[(s.heap.push {cls:=.type "range",data:=.fields #[.int a t,.int c u,.int 1 v] }).objs.size],_,_,H,rfl,
   d.kept (t':=tk) λb o e=>KU _ e,Ac _ a (c-a).toNat,?_,λb f=>?_,q⟩
  .show IsLongIter _ _ (a+((0:Nat):Int) *1) ((((c-a).toNat:Nat):Int)-((0:Nat):Int)) 1;rw[g,i];exact Le _ rfl
  .have e:b=(s.heap.push {cls:=.type "range",data:=.fields #[.int a t,.int c u,.int 1 v] }).objs.size:=by simpa using f
   subst e;exact d.fpOk (K1 _) (d.hok.fresh (K1 _))
def G5(ta:TA):TI:=λb H R=>ta b H λc a=>∃i j:Int,c=[.int i,.int j]/\R (Itr i (j-i).toNat) a
theorem vp(v:Gl X "range")(f:X.mg "range"=none)(u:PA X [a,b] ta)(hs:autoParam (K7 [a,b] X.env=[(false,Nq a X.env),(false,Nq b X.env)]) w4)(d:autoParam (K7 [b] X.env=[(false,Nq b X.env)]) w4):
  PI X tg (.Call (.Name "range" p) [a,b] [] pos) (G5 ta):=by
 intro g s n H R I h;refine Call_ (dj I v f TN (PyProof.Rows.callWith_type1 (thn (u pos g s n H _ I h) λy z ⟨x,w,o,l,k⟩=>?_) (by rw[hs,d]) (by rw[d];rfl)));obtain⟨i,j,e,q⟩:=k;subst e;cases l with
 |cons r c=>
  cases c with
  |cons m c=>
   cases c;obtain⟨t,rfl⟩:=r;obtain⟨A,rfl⟩:=m;exact call_range_2 (pG o q)
variable {H0:Hp}{O0:List Lm}{ps:PSt}{a b:Expr}{p pos:Pos}
theorem zJ(h:Gl X "range")(d:X.mg "range"=none)(g:EvA X H0 O0 ps [a,b] [.int i,.int j])(hs:autoParam (K7 [a,b] X.env=[(false,Nq a X.env),(false,Nq b X.env)]) w4)(f:autoParam (K7 [b] X.env=[(false,Nq b X.env)]) w4):
  EvI X H0 O0 ps tg (.Call (.Name "range" p) [a,b] [] pos) (fK i (j-i).toNat):=
 PI.mono (vp h d g hs f) λm H Q ⟨O,R,q⟩=>⟨O,R,λl e s r=>by
  obtain⟨v,w,rfl,c,k⟩:=iE r;cases c;cases k;exact⟨i,j,rfl,q _ e s jA⟩⟩
end
end L2
namespace TS
open PySem PyProof.Rows
variable {E:K3→K8→Prop}
section
variable {prog:Lg}{w:LL}{A:L7}{s:K8}
def gt(a:Array UA)(i:Nat):UA:=a.getD i (Oe,Oe)
variable {M:Model}{σ:Type}
theorem wif{α:Type}{c:Prop}[Decidable c]{x y:StateT σ Sem α}{Q:α->σ->Prop}{a:σ}(h:c->wpS M A E s x Q a)(k:¬ c->wpS M A E s y Q a):wpS M A E s (if c then x else y) Q a:=by
 by_cases e:c
 .rw[if_pos e];exact h e
 .rw[if_neg e];exact k e
def Jf(prog:Lg)(w:LL)(A:L7)(E:K3->K8->Prop)(s:K8)(b:UL)(P:UA->Prop)(R:UA->UA->Bool):Prop:=
 ∀x y a (Q:Option Bool->SortSt->Prop),P x->P y->kindOf a=b->Q (some (R x y)) a->wpS (LM prog w) A E s (lt' x y) Q a
variable {κ:UL}{P:UA→Prop}{R:UA→UA→Bool} (K:Jf prog w A E s κ P R)
include K
end
section
variable {prog:Lg}{w:LL}{A:L7}{s:K8}{κ:UL}{P:UA→Prop}{R:UA→UA→Bool}
variable {l:List UA}{pd:Array (Nat×Nat×Nat)}
def Kept(a b:Array UA)(c:Nat):Prop:=∀j,j<c->gt b j=gt a j
variable (K:Jf prog w A E s κ P R)
include K
end
end TS
namespace L2
open PySem PySem.Spec PyProof.Rows
theorem JT{p:Nat->Lm->Prop}{n:Nat}(h:∀i,i<n->∃b,p i b):∃f:Nat->Lm,∀i,i<n->p i (f i):=by
 refine⟨λi=>if k:i<n then Ux (h i k) else 0,λi a=>?_⟩;dsimp only;rw[dif_pos a];exact Si (h i a)
section
variable {X:Cx}{tg:Expr}
def G4(ta:TA):TI:=λb H R=>ta b H λc a=>∃j:Int,c=[.int j]/\R (Itr 0 (j-0).toNat) a
theorem vC{a:Expr}{ta:TA}{p b:Pos}(m:Gl X "range")(c:X.mg "range"=none)(l:PA X [a] ta)(hs:autoParam (K7 [a] X.env=[(false,Nq a X.env)]) w4):
  PI X tg (.Call (.Name "range" p) [a] [] b) (G4 ta):=by
 intro d s i H R I h;refine Call_ (dj I m c TN (PyProof.Rows.callWith_type1 (thn (l b d s i H _ I h) λv w ⟨u,o,k,g,f⟩=>?_) (by rw[hs];rfl) rfl));obtain⟨j,e,q⟩:=f;subst e;cases g with
 |cons r n=>
  cases n;obtain⟨t,rfl⟩:=r;exact call_range_1 (pG k q)
variable {H0:Hp}{O0:List Lm}{ps:PSt}{a:Expr}{p pos:Pos}
theorem yL{j:Int}(c:Gl X "range")(e:X.mg "range"=none)(b:EvA X H0 O0 ps [a] [.int j])(hs:autoParam (K7 [a] X.env=[(false,Nq a X.env)]) w4):
  EvI X H0 O0 ps tg (.Call (.Name "range" p) [a] [] pos) (fK 0 (j-0).toNat):=
 PI.mono (vC c e b hs) λf H Q ⟨O,R,q⟩=>⟨O,R,λg d s r=>by
  obtain⟨v,rfl,h⟩:=bW r;cases h;exact⟨j,rfl,q _ d s jA⟩⟩
end
end L2
namespace L2
open PySem PySem.Spec PySem.W PyProof.Rows
abbrev T'(l:List Nat):Str:=⟨l.toArray⟩
theorem tW(x):x=T' x.cps.toList:=by cases x;simp[T']
theorem aW(l):(T' l).length=l.length:=by simp[Str.length]
theorem fN(l m):T' l++T' m=T' (l++m):=by
 show Str.mk _=Str.mk _;simp
def Itx(x:Str):It:=⟨λi _=>i<x.cps.size,λi H v a=>a=H/\∃c,x.cps[i]?=some c/\v=.str ⟨#[c]⟩,λi _=>x.cps.size<=i⟩
theorem oV(h:A.handled=none)(it)(x)(t:Tok):Walks P w A it [it] [it] x.cps.size (SignAt x) (λi hp=>hp.IsStrIter it (Rt x) x t i):=by
 unfold Rt;split
 .exact Walks.strAscii h it x t
 .exact Walks.strWide h it x t
theorem Dk{P:Lg}{w:LL}{K:KM}{R:Expr}(f:Lm)(x:Str)(t:Tok):vL P w K R (Itx x) [f] f (λi h=>i<=x.cps.size/\h.IsStrIter f (Rt x) x t i) where
 mem:=by simp
 obj:=λi h a b g=>by
  have e:b=f:=by simpa using g
  subst e;obtain⟨_,o,e,c,d⟩:=a;exact⟨o,e,λv z=>by rw[d]at z;cases z⟩
 keep:=λi h C a k=>⟨a.1,by obtain⟨o,e,c,d⟩:=a.2;exact⟨o,k f (by simp) o e,c,d⟩⟩
 item:=by
  intro X B D J n i M s O H E I j a l;subst B D J;obtain⟨y,G,U,p,q,r⟩:=j f (by simp);have W:=oV (P:=X.prog) (w:=X.w) (I.ok.hd n) f x t;refine W.item i s _ _ l a.2 λv C N V L F=>?_;obtain⟨c,u,m,rfl⟩:=V;have T:Inv X M O H {s with heap:=C,toks:=N }:=I.turned (λb o g e=>F b o (by simpa using g) e) y G p q r;obtain⟨o,e,S,d⟩:=id L;exact⟨_,rfl,sr e S d (by unfold Rt;split <;>decide) ⟨.str ⟨#[c]⟩,H,T,⟨u,rfl⟩,⟨rfl,c,m,rfl⟩,⟨l,L⟩,λb g=>(j b g).1⟩⟩
 done:=by
  intro X B D J n i M s O H E I j a l;subst B D J;obtain⟨y,G,U,p,q,r⟩:=j f (by simp);have W:=oV (P:=X.prog) (w:=X.w) (I.ok.hd n) f x t;have Y:=l;have e:=Ss a.1 Y;subst e;exact W.done s _ _ a.2 λC N F=>⟨rfl,I.turned (λb o g e=>F b o (by simpa using g) e) y G p q r⟩
 self:=λA i s Q E a h=>by
  obtain⟨_,a⟩:=a;unfold Rt at a;split at a
  .exact wpAny_pyIter_striter_ascii a h
  .exact wpAny_pyIter_striter_wide a h
section
variable {X:Cx}{tg:Expr}
theorem HH(n:PE X l tl):PI X tg l (λc H R=>tl c H λx a=>∃z,x=.str z/\R (Itx z) a):=by
 intro g s c H R I h;refine thn (n g s c H _ I h) λv f m=>?_;obtain⟨x,a,d,j,i⟩:=m;obtain⟨z,e,q⟩:=i;subst e;obtain⟨t,rfl⟩:=j;refine wpAny_pyIter_strU ?_;refine⟨f.heap.objs.size,[f.heap.objs.size],_,_,a,rfl,d.kept λb o e=>KU _ e,Dk _ z t,⟨Mm _,_,Le _ rfl,rfl,rfl⟩,λb k=>?_,q⟩;have e:b=f.heap.objs.size:=by simpa using k
 subst e;exact d.fpOk (K1 _) (d.hok.fresh (K1 _))
end
abbrev sg(c:Nat):U:=.str ⟨#[c]⟩
variable {H0:Hp}{O0:List Lm}{es:List Expr}{WI:Pos}{WC:Pos}
section
variable {X:Cx}{ps:PSt}{a b e tg:Expr}{pos p p2:Pos}{x y:Str}{i:Int}{lo hi:Option Expr}{l h:Option Int}
theorem Dd(d:Ev X H0 O0 ps e (.str x)):EvI X H0 O0 ps tg e (x.cps.toList.map sg):=
 PI.mono (HH d) λh H Q ⟨O,R,q⟩=>⟨O,R,λv f s r=>by
  cases r;refine⟨x,rfl,q _ f s λg j=>⟨λi hi=>?_,?_⟩⟩
  .have a:i<x.cps.size:=by simpa using hi
   refine⟨a,λz k y=>⟨y.1,sg x.cps[i],by simp[a],?_⟩⟩;obtain⟨_,c,b,rfl⟩:=y;rw[NM a]at b;cases b;exact .str _
  .show x.cps.size<=_;simp⟩
theorem eC(f:Ev X H0 O0 ps a (.str x))(g:Ev X H0 O0 ps b (.str y))(e:x.length+y.length<=sizeLine):Ev X H0 O0 ps (.BinOp a .Add b pos) (.str (x++y)):=
 PE.mono (uJ vY f g) λi H Q ⟨O,R,k⟩=>two R (λ_ _ _ z=>z) (λ_ _ _ z=>z) λv w h s _ c d=>by
  cases c;cases d;exact⟨x,y,rfl,rfl,e,k _ h s (.str _)⟩
theorem IQ(j:Ev X H0 O0 ps a (.str x))(f:Ev X H0 O0 ps b (.int i))(h:x.length<=sizeLine)(hi:atI x.cps.toList i=some c)(hs:autoParam (lW b) q7):Ev X H0 O0 ps (.Subscript a b pos) (sg c):=
 PE.mono (B5 GE j f hs) λk H Q ⟨O,R,q⟩=>two R (λ_ _ _ z=>z) (λ_ _ _ z=>z) λv w g s _ e d=>by
  cases e;cases d;exact⟨x,i,c,rfl,rfl,h,hi,q _ g s (.str _)⟩
theorem hV(a:x.length≤sizeLine):dJ X (.builtin "len") [.str x] (.int x.length):=cp.mono qE λc H Q b=>by
 obtain⟨O,d,r,q⟩:=b;obtain⟨v,rfl,h⟩:=bW r;cases h;exact⟨x,rfl,a,q _ H (.refl H) (.int _)⟩
theorem HA:SlR X (λx lo hi H Q=>∃z,x=.str z/\z.length<=sizeLine/\Q (.str (StrLaws.sliceText z lo hi)) H):=by
 intro n s p H x v C D lo hi f Q I B c k pu h;obtain⟨z,rfl,r,q⟩:=h;have d:=Txt.slice_le z lo hi;obtain⟨t,rfl⟩:=B;refine⟨"str",_,slot_str_getitem.lookup,rfl,?_⟩
 have b:∀l u,l.map (·.1)=lo->u.map (·.1)=hi->s.heap.IsSlice f l u none->LH (LM X.prog X.w) X.A (TY (.str z t) (.ref f)) (EP X n p Q) X.xe s:=λl u o m y=>by
  refine wpAny_getItem_str_slice y (by decide) ?_;unfold sliceMade slicePicked;rw[o,m];unfold StrLaws.sliceText at q;split at q
  .rename_i a
   rw[if_pos (by exact a)];exact⟨.str z,H,I,⟨t,rfl⟩,q⟩
  .rename_i a
   rw[if_neg (by exact a)];unfold Txt.slice at d;rw[if_neg (by exact a)]at d
   exact⟨Mh d r,.str _,H,I.tok _,⟨_,rfl⟩,q⟩
 cases k with
 |none=>
  cases pu with
  |none=>exact b none none rfl rfl c
  |int j e=>exact b none (some (j,e)) rfl rfl c
 |int i g=>
  cases pu with
  |none=>exact b (some (i,g)) none rfl rfl c
  |int j e=>exact b (some (i,g)) (some (j,e)) rfl rfl c
theorem nK(j:Ev X H0 O0 ps e (.str x))(i:EvO X H0 O0 ps lo l)(g:EvO X H0 O0 ps hi h)(f:x.length<=sizeLine):Ev X H0 O0 ps (.Subscript e (.Slice lo hi none p2) pos) (.str (StrLaws.sliceText x l h)):=
 PE.mono (tM HA j i g) λo H Q ⟨O,R,q⟩=>⟨O,R,λv m a d=>⟨O,R.go a,λn b=>⟨O,R.go (a.trans b),λk c=>by
  cases d;exact⟨x,rfl,f,q _ k ((a.trans b).trans c) (.str _)⟩⟩⟩⟩
theorem zM:MtR X "str.startswith" (λv a H Q=>∃x y,v=.str x∧a=[.str y]∧Q (.bl (Txt.startswith x y)) H):=by
 intro d s f H v a u i Q I c b h;obtain⟨x,y,rfl,rfl,q⟩:=h;obtain⟨t,rfl⟩:=c;obtain⟨g,rfl,k⟩:=cX b;obtain⟨e,rfl⟩:=k;exact SC.startswith ⟨.bl _,H,I,rfl,q⟩
theorem CN(h:Ev X H0 O0 ps a (.str x))(i:Ev X H0 O0 ps e (.str y))(c:K7 [e] X.env=(false,Nq e X.env)::K7 [] X.env)
  (WN:autoParam (MC a "startswith" X.env (Nq a X.env)=Nq a X.env) w4)
  (W4:autoParam (((M4 WC (K7 [e] X.env)).all (λx=>!x.1) && (Pl WC (NT [] X.env)).all (λx=>x.1.isSome) && decide ([e].length+([]:List OR).length+(if ([]:List OR).isEmpty then 0 else 1)<30))=true) w4)
  (WO:autoParam ((WI.endLine==WC.line)=true) w4) (WQ:autoParam ((M4 WC (K7 [] X.env)).any (·.1)=false) w4):
  Ev X H0 O0 ps (.Call (.Attribute a "startswith" WI) [e] [] WC) (.bl (Txt.startswith x y)):=
 PE.mono (pf Oc PySem.F.slot_str_startswith PySem.F.type_str_startswith zM h (cx i dP c) WN W4 WO c WQ) λl H Q ⟨O,R,q⟩=>⟨O,R,λv k b f=>by
  cases f;exact⟨rfl,O,R.go b,λw g j d=>by cases d;exact⟨x,y,rfl,rfl,q _ g (b.trans j) (.bl _)⟩⟩⟩
theorem vF(h:S1 x=some n)(c:x.length≤640):dJ X (.type "int") [.str x] (.int n):=by
 intro f s i H g j Q I r a;obtain⟨O,d,b,q⟩:=a;obtain⟨v,rfl,e⟩:=bW b;cases e;obtain⟨u,rfl,⟨t,rfl⟩⟩:=cX r;exact KIN.call_text h c ⟨.int n,H,I.tok _,⟨_,rfl⟩,q _ H (.refl H) (.int _)⟩
theorem kA(h:i.natAbs.log2<1920):dJ X (.type "str") [.int i] (.str (Str.ofString (NY i))):=cp.mono qw λb H Q a=>by
 obtain⟨O,d,r,q⟩:=a;obtain⟨v,rfl,k⟩:=bW r;cases k;exact⟨i,rfl,h,q _ H (.refl H) (.str _)⟩
theorem Jv:OpS X (LX .In) (.str x) (.str y) (.bl (!(Builtin.Str.occurrences y x 0 y.length 1).isEmpty)):=by
 intro e s g H v w p q Q I a b h;obtain⟨c,d,f⟩:=h;cases c;cases d;exact zm e s g H _ _ p q Q I a b ⟨x,y,rfl,rfl,f⟩
theorem Jz(b:Gl X z)(h:∃t,X.mg z=some (.str v t))(a:autoParam ((z==("__debug__":Str))=false) v0):Ev X H0 O0 ps (.Name z pos) (.str v):=by
 obtain⟨t,c⟩:=h;exact PE.mono (yr (v:=.str v) b c ⟨t,rfl⟩ a) λ_ H _ ⟨_,_,k⟩=>k _ H (.refl H) (.str v)
end
theorem Em(j n:Nat):Builtin.Str.strSliceIndices none (some (j:Int)) 1 n=Builtin.Str.strSliceIndices (some ((0:Nat):Int)) (some ((min j n:Nat):Int)) 1 n:=by
 have a:¬ (j:Int)<0:=by lia
 have c:¬ ((min j n:Nat):Int)<0:=by lia
 have b:max 0 (min (j:Int) n)=max 0 (min ((min j n:Nat):Int) n):=by lia
 unfold Builtin.Str.strSliceIndices;simp[a,c];rw[b,show max 0 (min 0 (n:Int))=0 by lia]
theorem Ai(i n:Nat):Builtin.Str.strSliceIndices (some (i:Int)) none 1 n=Builtin.Str.strSliceIndices (some ((min i n:Nat):Int)) (some (n:Int)) 1 n:=by
 have a:¬ (i:Int)<0:=by lia
 have b:¬ ((min i n:Nat):Int)<0:=by lia
 unfold Builtin.Str.strSliceIndices;simp[a,b];congr 1 <;>lia
theorem BB{a b:Nat}(e:Builtin.Str.strSliceIndices l h 1 x.length=Builtin.Str.strSliceIndices (some (a:Int)) (some (b:Int)) 1 x.length)(d:a<=b)(c:b<=x.length):StrLaws.sliceText x l h=T' ((x.cps.toList.drop a).take (b-a)):=by
 have:=StrLaws.sliceText_nat x d c;unfold StrLaws.sliceText at this |-;rw[e];exact this
theorem HW(l)(j:Nat):StrLaws.sliceText (T' l) none (some (j:Int))=T' (l.take j):=by
 rw[BB (Em j _) (Mm _) (UB _ _)];refine congrArg T' ?_;rw[aW];rw[S2,Nat.sub_zero];by_cases h:j<=l.length
 .rw[U3 h]
 .rw[UC (by lia),Nv (K1 _),Nv (by lia)]
theorem mI(l)(i:Nat):StrLaws.sliceText (T' l) (some (i:Int)) none=T' (l.drop i):=by
 rw[BB (Ai i _) (UB _ _) (K1 _)];refine congrArg T' ?_;rw[aW];by_cases h:i<=l.length
 .rw[U3 h,Nv (by simp)]
 .rw[UC (by lia),P5 (K1 _),P5 (by lia)];simp
theorem JD(l)(c i):Builtin.Str.subAt (T' l) ⟨#[c]⟩ i=decide (l[i]?=some c):=by
 unfold Builtin.Str.subAt;rw[OA,beq_iff_eq,decide_eq_true_iff];show (l.toArray.extract i (i+1))=#[c]↔_;constructor
 .intro h;have a:=congrArg Ug h;simp at a;cases e:l[i]? with
  |none=>
   have:l.length<=i:=List.getElem?_eq_none_iff.mp e;rw[P5 this]at a;simp at a
  |some d=>
   obtain⟨g,f⟩:=K_.mp e;have b:l.drop i=d::l.drop (i+1):=by rw[Oo g,f]
   rw[b,S7,Q1]at a;injection a with a _
   rw[a]
 .intro h;obtain⟨g,f⟩:=K_.mp h;apply RJ.mp;simp;rw[Oo g];simp[f]
theorem EO(l)(c):Txt.startswith (T' l) ⟨#[c]⟩=decide (l.head?=some c):=by
 unfold Txt.startswith;rw[JD];cases l with
 |nil=>simp[Str.length]
 |cons d r=>simp[Str.length]
theorem at1(l)(c i):StrLaws.At (T' l) ⟨#[c]⟩ (T' l).length i↔l[i]?=some c:=by
 unfold StrLaws.At;rw[JD,decide_eq_true_iff,aW];exact⟨λh=>h.2,λh=>⟨(K_.mp h).1,h⟩⟩
theorem in1(l)(c):(!(Builtin.Str.occurrences (T' l) ⟨#[c]⟩ 0 (T' l).length 1).isEmpty)=decide (c∈l):=by
 rcases StrLaws.occ_head (T' l) ⟨#[c]⟩ 1 (K1 _) with ⟨b,a⟩ |⟨i,r,b,a,_⟩
 .rw[b]
  symm
  refine decide_eq_false λh=>?_;obtain⟨i,d⟩:=Lz.mp h;exact a i ((at1 l c i).mpr d)
 .rw[b]
  symm
  exact decide_eq_true (Lo ((at1 l c i).mp a))
theorem kh:∀l,aS ((l.map (·.1)).map V.str) (Su l)
 |[]=>.nil
 | (_,t)::r=>.cons ⟨t,rfl⟩ (kh r)
theorem tT{K:KM}(l:List Str):Rps K H (l.map V.str) (l.map U.str):=by
 refine⟨by simp,λi v x a b=>?_⟩;rw[K5]at a b;cases e:l[i]? with
 |none=>rw[e]at a;cases a
 |some z=>rw[e]at a b;cases a;cases b;exact .str _
theorem wU{K:KM}:∀{l}{ws}{its},aS ws its->Rps K H ws (l.map U.str)->∃m,its=Su m/\m.map (·.1)=l
 |[],ws,its,b,a=>by
  have:=a.nil_inv;subst this;cases b;exact⟨[],rfl,rfl⟩
 |x::l,ws,its,b,a=>by
  obtain⟨v,g,rfl,h,f⟩:=a.cons_inv;cases b with
  |cons d c=>
   cases h;obtain⟨t,rfl⟩:=d;obtain⟨m,rfl,e⟩:=wU c f;exact⟨(x,t)::m,rfl,by rw[Lb,e]⟩
section
variable {X:Cx}{ps:PSt}{a b e:Expr}{x y:Str}
theorem Cf:MtR X "str.split" (λv m H Q=>∃x y,v=.str x∧m=[.str y]∧(y.length==0)=false∧x.length+2≤sizeLine∧∀p,H p=none→Q (.ref p) (upd H p (.lst ((Txt.split x y).map V.str)))):=by
 intro r s D H v m u G Q I C B h;obtain⟨x,y,rfl,rfl,hy,E,q⟩:=h;obtain⟨t,rfl⟩:=C;obtain⟨F,rfl,k⟩:=cX B;obtain⟨f,rfl⟩:=k;have A:=I.hok.fresh (K1 s.heap.objs.size);have n:=split_le x y
 have i:∀(l:List (Str×Tok)) (g:Nat),l.map (·.1)=Txt.split x y→EP X r D Q (.ref s.heap.objs.size) {s with heap:=s.heap.push {cls:=.type "list",data:=.seq (Su l).toArray },toks:=g }:=λl g e=>
  ⟨.ref s.heap.objs.size,_,I.laid (t':=g) (λb o z=>KU _ z) (K1 _) (show bR X.prog X.w _ _ _ (.lst ((Txt.split x y).map V.str)) from ⟨by rw[KI];lia,Su l,_,by rw[<-e];exact kh l,Le s.heap rfl⟩),rfl,q _ A⟩
 by_cases c:(decide (x.length<y.length) ||decide (Builtin.Str.strKind x<Builtin.Str.strKind y))=true
 .refine O_ Nw rfl OG (PL ..) (meets_str_split_cannot_occur x y t f c) ?_;exact i [(x,t)] s.toks (if_pos c).symm
 .have a:=T_.mpr c;by_cases d:(Builtin.Str.occurrences x y 0 x.length (x.length+1)).isEmpty=true
  .refine O_ Nw rfl OG (PL ..) (meets_str_split_not_found x y t f a hy d) ?_;exact i [(x,t)] s.toks ((if_neg c).trans (if_pos d)).symm
  .have j:=T_.mpr d;have e:Txt.split x y=Builtin.Str.partsBetween x (Builtin.Str.occurrences x y 0 x.length (x.length+1)) y.length:=(if_neg c).trans (if_neg d);refine O_ Nw rfl OG (PL ..) (meets_str_split_sep x y t f a hy j (by lia) (by rw[<-e];lia)) ?_;rw[<-e,strsFrom_eq];exact i (numbered s.toks (Txt.split x y)) _ (Vj _ _)
theorem Fy(l:Ev X H0 O0 ps a (.str x))(i:Ev X H0 O0 ps e (.str y))(f:K7 [e] X.env=(false,Nq e X.env)::K7 [] X.env)(k:x.length+2<=sizeLine)(j:(y.length==0)=false)
  (WN:autoParam (MC a "split" X.env (Nq a X.env)=Nq a X.env) w4)
  (W4:autoParam (((M4 WC (K7 [e] X.env)).all (λx=>!x.1) && (Pl WC (NT [] X.env)).all (λx=>x.1.isSome) && decide ([e].length+([]:List OR).length+(if ([]:List OR).isEmpty then 0 else 1)<30))=true) w4)
  (WO:autoParam ((WI.endLine==WC.line)=true) w4) (WQ:autoParam ((M4 WC (K7 [] X.env)).any (·.1)=false) w4):
  EvN X H0 O0 ps (.Call (.Attribute a "split" WI) [e] [] WC) ((Txt.split x y).map U.str):=
 PE.mono (pf Oc Nw RT Cf l (cx i dP f) WN W4 WO f WQ) λo H Q ⟨O,R,q⟩=>⟨O,R,λv m b h=>by
  cases h
  exact⟨rfl,O,R.go b,λw n d g=>by
   cases g;exact⟨x,y,rfl,rfl,j,k,λp c=>q p _ _ ((b.trans d).trans (aO c _)) ((b.trans d).free c) aH (tT _)⟩⟩⟩
theorem E2:MtR X "str.partition" (λv m H Q=>∃x y,v=.str x∧m=[.str y]∧(y.length==0)=false∧x.length≤sizeLine∧∀p,H p=none→Q (.ref p) (upd H p (.tup [.str (Txt.partition x y).1,.str (Txt.partition x y).2.1,.str (Txt.partition x y).2.2]))):=by
 intro n s E H v m u K Q I D C h;obtain⟨x,y,rfl,rfl,hy,G,q⟩:=h;obtain⟨t,rfl⟩:=D;obtain⟨J,rfl,k⟩:=cX C;obtain⟨A,rfl⟩:=k;have B:=I.hok.fresh (K1 s.heap.objs.size)
 have d:∀(a b c:Str) (g f l j:Nat),Txt.partition x y=(a,b,c)→EP X n E Q (.ref s.heap.objs.size) {s with heap:=s.heap.push {cls:=.type "tuple",data:=.seq #[.str a g,.str b f,.str c l] },toks:=j }:=λa b c g f l j e=>
  ⟨.ref s.heap.objs.size,_,I.laid (t':=j) (λb o z=>KU _ z) (K1 _) (show bR X.prog X.w _ _ _ (.tup [.str (Txt.partition x y).1,.str (Txt.partition x y).2.1,.str (Txt.partition x y).2.2]) from
   ⟨show 3<=sizeLine by decide,[.str a g,.str b f,.str c l],by rw[e];exact .cons ⟨_,rfl⟩ (.cons ⟨_,rfl⟩ (.cons ⟨_,rfl⟩ .nil)),⟨_,Le s.heap rfl,rfl,0,rfl⟩⟩),rfl,q _ B⟩
 refine O_ QO rfl PySem.F.entry_str_partition (PySem.F.args_str_partition_2 ..) (meets_str_partition x y t A hy G) ?_;unfold Txt.partition at d;revert d;cases Builtin.Str.occurrences x y 0 x.length 1 with
 |nil=>intro d;exact d _ _ _ _ _ _ _ rfl
 |cons i r=>intro d;exact d _ _ _ _ _ _ _ rfl
theorem HS(o:Ev X H0 O0 ps a (.str x))(k:Ev X H0 O0 ps e (.str y))(g:K7 [e] X.env=(false,Nq e X.env)::K7 [] X.env)(m:x.length<=sizeLine)(l:(y.length==0)=false)
  (WN:autoParam (MC a "partition" X.env (Nq a X.env)=Nq a X.env) w4)
  (W4:autoParam (((M4 WC (K7 [e] X.env)).all (λx=>!x.1) && (Pl WC (NT [] X.env)).all (λx=>x.1.isSome) && decide ([e].length+([]:List OR).length+(if ([]:List OR).isEmpty then 0 else 1)<30))=true) w4)
  (WO:autoParam ((WI.endLine==WC.line)=true) w4) (WQ:autoParam ((M4 WC (K7 [] X.env)).any (·.1)=false) w4):
  Ev X H0 O0 ps (.Call (.Attribute a "partition" WI) [e] [] WC) (.tup [.str (Txt.partition x y).1,.str (Txt.partition x y).2.1,.str (Txt.partition x y).2.2]):=
 PE.mono (pf Oc QO PySem.F.type_str_partition E2 o (cx k dP g) WN W4 WO g WQ) λs H Q ⟨O,R,q⟩=>⟨O,R,λv r b j=>by
  cases j
  exact⟨rfl,O,R.go b,λw h f i=>by
   cases i;refine⟨x,y,rfl,rfl,l,m,λp c=>q _ _ ((b.trans f).trans (aO c _)) ?_⟩;have n:p ∉ O:=λz=>(R.go (b.trans f)).dom p z c;have d:Rps X.K (hid (upd h p (.tup [.str (Txt.partition x y).1,.str (Txt.partition x y).2.1,.str (Txt.partition x y).2.2])) O) [.str (Txt.partition x y).1,.str (Txt.partition x y).2.1,.str (Txt.partition x y).2.2] [.str (Txt.partition x y).1,.str (Txt.partition x y).2.1,.str (Txt.partition x y).2.2]:=.cons (.str _) (.cons (.str _) (.cons (.str _) .nil));exact .tup (SqT.of (cZ aH n)) d.len d.at_⟩⟩
theorem EE:MtR X "str.join" (λv b H Q=>∃x c a l,v=.str x∧b=[.ref c]∧SqL X.K H c a∧Rps X.K H a (l.map U.str)∧VU x l=true∧Q (.str (Txt.join x l)) H):=by
 intro p s r H v b u z Q I j i h;obtain⟨x,c,a,l,rfl,rfl,f,g,o,q⟩:=h;obtain⟨t,rfl⟩:=j;obtain⟨y,rfl,k⟩:=cX i;cases k;obtain⟨its,n,d,w⟩:=I.list f;obtain⟨m,rfl,e⟩:=wU n g;exact SC.join d.isList e o λA k=>⟨.str _,H,I.tok _,⟨_,rfl⟩,q⟩
theorem vM(p:Ev X H0 O0 ps a (.str x))(k:Ev X H0 O0 ps e (.lst (l.map U.str)))(b:K7 [e] X.env=(false,Nq e X.env)::K7 [] X.env)(o:VU x l=true)
  (WN:autoParam (MC a "join" X.env (Nq a X.env)=Nq a X.env) w4)
  (W4:autoParam (((M4 WC (K7 [e] X.env)).all (λx=>!x.1) && (Pl WC (NT [] X.env)).all (λx=>x.1.isSome) && decide ([e].length+([]:List OR).length+(if ([]:List OR).isEmpty then 0 else 1)<30))=true) w4)
  (WO:autoParam ((WI.endLine==WC.line)=true) w4) (WQ:autoParam ((M4 WC (K7 [] X.env)).any (·.1)=false) w4):
  Ev X H0 O0 ps (.Call (.Attribute a "join" WI) [e] [] WC) (.str (Txt.join x l)):=
 PE.mono (pf Oc PySem.F.slot_str_join PySem.F.type_str_join EE p (cx k dP b) WN W4 WO b WQ) λt H Q ⟨O,R,q⟩=>⟨O,R,λv s d j=>by
  cases j
  exact⟨rfl,O,R.go d,λw f n i=>by
   cases i with
   | @lst c m _ g r h=>exact⟨x,c,m,l,rfl,rfl,SqL.of (aE _ _ g),Rps.same aE ⟨r,h⟩,o,q _ f (d.trans n) (.str _)⟩⟩⟩
end
def spl(c:Nat):List Nat->List (List Nat)
 |[]=>[[]]
 |a::l=>if a=c then []::spl c l else (a::(spl c l).headD [])::(spl c l).drop 1
theorem jX:∀{p},c ∉ p->spl c p=[p]
 |[],_=>rfl
 |a::p,h=>by
  have h1:a≠c:=λe=>h (by rw[e];exact K0);unfold spl;rw[if_neg h1,jX λz=>h (KN _ z)];rfl
theorem jB(l):∀{p},c ∉ p->spl c (p++c::l)=p::spl c l
 |[],_=>by show spl c (c::l)=_;rw[spl,if_pos rfl]
 |a::p,h=>by
  have h1:a≠c:=λe=>h (by rw[e];exact K0);show spl c (a::(p++c::l))=_;rw[spl,if_neg h1,jB l λz=>h (KN _ z)];rfl
theorem uh(c):∀a l,a≠[]->(∀t∈a,c ∉ t.cps.toList)->Str.join ⟨#[c]⟩ a=T' l->a=(spl c l).map T'
 |[],l,h,_,_=>absurd rfl h
 |[t],l,_,b,e=>by
  have e1:t=T' l:=e;have d:=b t K0;rw[e1]at d |-;rw[jX (by simpa using d)]
  rfl
 |t::t2::a,l,_,b,e=>by
  have e1:t++⟨#[c]⟩++Str.join ⟨#[c]⟩ (t2::a)=T' l:=e;generalize hm:Str.join ⟨#[c]⟩ (t2::a)=m at e1;have i:=uh c (t2::a) m.cps.toList (by simp) (λz f=>b z (KN _ f)) (hm.trans (tW m))
  have d:l=t.cps.toList++c::m.cps.toList:=by
   have:=congrArg (λx:Str=>x.cps.toList) e1
   have j:(t++⟨#[c]⟩++m).cps.toList=t.cps.toList++[c]++m.cps.toList:=by
    show (t.cps++#[c]++m.cps).toList=_;simp
   rw[j]at this;have g:(T' l).cps.toList=l:=by simp
   rw[g]at this;rw[<-this];simp
  rw[d,jB _ (b t K0),Lb,<-i,<-tW]
theorem HY(l)(c):Txt.split (T' l) ⟨#[c]⟩=(spl c l).map T':=by
 refine uh c _ l ?_ (StrLaws.split_free (T' l) c) (StrLaws.join_split _ _);intro h;have:=split_pos (T' l) ⟨#[c]⟩;rw[h]at this;simp at this
def hdS(c:Nat)(l:List Nat):List Nat:=(spl c l).headD []
def tlS(c:Nat)(l:List Nat):List Nat:=l.drop ((hdS c l).length+1)
theorem FP(h:c ∉ p):hdS c (p++c::r)=p/\tlS c (p++c::r)=r:=by
 have a:hdS c (p++c::r)=p:=by unfold hdS;rw[jB r h];rfl
 refine⟨a,?_⟩;unfold tlS;rw[a];simp
theorem Is(l)(c):Txt.partition (T' l) ⟨#[c]⟩=if c∈l then (T' (hdS c l),T' [c],T' (tlS c l)) else (T' l,T' [],T' []):=by
 unfold Txt.partition;rcases StrLaws.occ_head (T' l) ⟨#[c]⟩ 1 (K1 _) with ⟨g,b⟩ |⟨i,r,g,b,p⟩
 .rw[g,if_neg]
  .rfl
  .intro h;obtain⟨i,a⟩:=Lz.mp h;exact b i ((at1 l c i).mpr a)
 .rw[g];have a:=(at1 l c i).mp b;obtain⟨q,m⟩:=K_.mp a
  have e:l=l.take i++c::l.drop (i+1):=by
   rw[<-m];exact (OV i l).symm.trans (by rw[Oo q])
  have j:c ∉ l.take i:=λz=>by
   obtain⟨k,d⟩:=Lz.mp z;have n:=(K_.mp d).1;rw[Qp]at n;rw[List.getElem?_take,if_pos (by lia)]at d
   exact p k (by lia) ((at1 l c k).mpr d)
  have f:=FP (r:=l.drop (i+1)) j;rw[<-e]at f;rw[if_pos (Lo a),f.1,f.2]
  have o:Builtin.Str.strSub (T' l) 0 i=T' (l.take i):=by
   rw[tW (Builtin.Str.strSub (T' l) 0 i),StrLaws.strSub_toList];refine congrArg T' ?_;simp
  have s:Builtin.Str.strSub (T' l) (i+(⟨#[c]⟩:Str).length) (T' l).length=T' (l.drop (i+1)):=by
   rw[tW (Builtin.Str.strSub (T' l) (i+(⟨#[c]⟩:Str).length) (T' l).length),StrLaws.strSub_toList];refine congrArg T' ?_;rw[aW];show (l.drop (i+1)).take (l.length-(i+1))=_;exact Nv (by simp)
  show (Builtin.Str.strSub (T' l) 0 i,_,Builtin.Str.strSub (T' l) (i+(⟨#[c]⟩:Str).length) (T' l).length)=_;rw[o,s]
def prt(c:Nat)(l:List Nat):List Nat×List Nat×List Nat:=if c∈l then (hdS c l,[c],tlS c l) else (l,[],[])
theorem JC(l)(c):Txt.partition (T' l) ⟨#[c]⟩=(T' (prt c l).1,T' (prt c l).2.1,T' (prt c l).2.2):=by
 rw[Is];unfold prt;split <;>rfl
section
variable {X:Cx}{E:XK}{ps:PSt}{a b e:Expr}{y:Str}{l:List Nat}{c:Nat}{pos:Pos}{u:U}{C:Lm}
theorem x6(g:Ev X H0 O0 ps a (.str (T' l)))(f:Ev X H0 O0 ps e (.str y))(d:K7 [e] X.env=(false,Nq e X.env)::K7 [] X.env)(b:(T' l).length<=sizeLine)(h:y=⟨#[c]⟩)
  (WN:autoParam (MC a "partition" X.env (Nq a X.env)=Nq a X.env) w4)
  (W4:autoParam (((M4 WC (K7 [e] X.env)).all (λx=>!x.1) && (Pl WC (NT [] X.env)).all (λx=>x.1.isSome) && decide ([e].length+([]:List OR).length+(if ([]:List OR).isEmpty then 0 else 1)<30))=true) w4)
  (WO:autoParam ((WI.endLine==WC.line)=true) w4) (WQ:autoParam ((M4 WC (K7 [] X.env)).any (·.1)=false) w4):
  Ev X H0 O0 ps (.Call (.Attribute a "partition" WI) [e] [] WC) (.tup [.str (T' (prt c l).1),.str (T' (prt c l).2.1),.str (T' (prt c l).2.2)]):=by
 subst h;have:=HS g f d b rfl WN W4 WO WQ
 rwa [JC]at this
theorem mU(g:Ev X H0 O0 ps a (.str (T' l)))(f:Ev X H0 O0 ps e (.str y))(d:K7 [e] X.env=(false,Nq e X.env)::K7 [] X.env)(b:(T' l).length+2<=sizeLine)(h:y=⟨#[c]⟩)
  (WN:autoParam (MC a "split" X.env (Nq a X.env)=Nq a X.env) w4)
  (W4:autoParam (((M4 WC (K7 [e] X.env)).all (λx=>!x.1) && (Pl WC (NT [] X.env)).all (λx=>x.1.isSome) && decide ([e].length+([]:List OR).length+(if ([]:List OR).isEmpty then 0 else 1)<30))=true) w4)
  (WO:autoParam ((WI.endLine==WC.line)=true) w4) (WQ:autoParam ((M4 WC (K7 [] X.env)).any (·.1)=false) w4):
  EvN X H0 O0 ps (.Call (.Attribute a "split" WI) [e] [] WC) ((spl c l).map λp=>U.str (T' p)):=by
 subst h;have:=Fy g f d b rfl WN W4 WO WQ;rw[HY,Lh]at this;exact this
end
end L2
namespace L2
open PySem PySem.Spec PyProof.Rows
theorem jU{n:Nat}(h:n<=9000):n<sizeLine:=by rw[MA];lia
end L2
namespace ST2
open PySem PySem.SetTable ST
section
variable {prog:Lg}{w:LL}{A:L7}{E:K3→K8→Prop}{s:K8}
abbrev K4:=(Int×Int)×(Int×Int)
abbrev l1(k:K4):List Int:=[k.1.1,k.1.2]
abbrev l2(k:K4):List Int:=[k.2.1,k.2.2]
def TQ(prog:Lg)(w:LL)(h:Nh)(k:K4)(b:Lm):Prop:=∃o items n a c,h.get? b=some o∧o.cls=.type "tuple"∧o.data=.seq items n∧items.toList=[.ref a,.ref c]∧TK prog w h (l1 k) a∧TK prog w h (l2 k) c
variable {hZ:K4→Int}
def ents(hZ:K4->Int)(a:List (K4×Lm)):List (Int×K3):=a.map λp=>(hZ p.1,.ref p.2)
structure SP(prog:Lg)(w:LL)(hZ:K4->Int)(h:Nh)(S:Lm)(kb:List (K4×Lm)):Prop where
 ex:∃o es ep t,h.get? S=some o∧o.ExactSet∧o.data=.set es ep t∧es.toList=ents hZ kb∧TOk t (kb.map λp=>hZ p.1)∧t.led=(!w.params.followText "set-order")∧t.plain=true∧t.tooFull=false∧t.mask<8*kb.length+8
 keys:∀p∈kb,TQ prog w h p.1 p.2
 nd:(kb.map (·.1)).Nodup
structure Got(kx:Nat->K4×Lm)(i:Nat)(kb:List (K4×Lm)):Prop where
 src:∀p∈kb,∃j,j<i/\p=kx j
 all:∀j,j<i->(kx j).1∈kb.map (·.1)
 len:kb.length<=i
variable {R:UR→K8→Prop}{I:Lm}{fp wr:List Lm}{G:Array Qv→Array Qv→Prop}{n:Nat}{P:Nat→K3→Prop}{St:Nat→K8→Prop}
end
end ST2
namespace ST3
open PySem PySem.W PySem.Calls PyProof.Rows ST
abbrev TR:=(Int×Int)×(Int×Int)×(Int×Int)
def ltT(a b:TR):Bool:=if a.1=b.1 then (if a.2.1=b.2.1 then ltP a.2.2 b.2.2 else ltP a.2.1 b.2.1) else ltP a.1 b.1
theorem EI(h:ltT a b=true):ltT b a=false:=by
 unfold ltT at *;by_cases d:a.1=b.1
 .rw[if_pos d]at h;rw[if_pos d.symm];by_cases c:a.2.1=b.2.1
  .rw[if_pos c]at h;rw[if_pos c.symm];exact iD h
  .rw[if_neg c]at h;rw[if_neg (Ne.symm c)];exact iD h
 .rw[if_neg d]at h;rw[if_neg (Ne.symm d)];exact iD h
theorem DP(h:a≠b)(k:ltT a b=false):ltT b a=true:=by
 unfold ltT at *;by_cases d:a.1=b.1
 .rw[if_pos d]at k;rw[if_pos d.symm];by_cases c:a.2.1=b.2.1
  .rw[if_pos c]at k;rw[if_pos c.symm];exact ltP_tot (λe=>h (Mo d (Mo c e))) k
  .rw[if_neg c]at k;rw[if_neg (Ne.symm c)];exact ltP_tot c k
 .rw[if_neg d]at k;rw[if_neg (Ne.symm d)];exact ltP_tot d k
theorem lJ:ltP a a=false:=asc_irr
theorem Ie(h:ltT a b=true)(k:ltT b c=true):ltT a c=true:=by
 unfold ltT at *;by_cases i:a.1=b.1
 .rw[if_pos i]at h;by_cases d:b.1=c.1
  .rw[if_pos d]at k;rw[if_pos (i.trans d)];by_cases g:a.2.1=b.2.1
   .rw[if_pos g]at h;by_cases f:b.2.1=c.2.1
    .rw[if_pos f]at k;rw[if_pos (g.trans f)];exact kD h k
    .rw[if_neg f]at k;rw[if_neg (by rw[g];exact f),g];exact k
   .rw[if_neg g]at h;by_cases f:b.2.1=c.2.1
    .rw[if_neg (by rw[<-f];exact g),<-f];exact h
    .rw[if_neg f]at k;have t:=kD h k;rw[if_neg (λe=>by rw[e,lJ]at t;cases t)];exact t
  .rw[if_neg d]at k;rw[if_neg (by rw[i];exact d),i];exact k
 .rw[if_neg i]at h;by_cases d:b.1=c.1
  .rw[if_neg (by rw[<-d];exact i),<-d];exact h
  .rw[if_neg d]at k;have t:=kD h k;rw[if_neg (λe=>by rw[e,lJ]at t;cases t)];exact t
section
variable {prog:Lg}{w:LL}{A:L7}{E:K3→K8→Prop}{s:K8}
abbrev lq(p:Int×Int):List Int:=[p.1,p.2]
def TT(prog:Lg)(w:LL)(h:Nh)(t:TR)(b:Lm):Prop:=∃o items n a d c,h.get? b=some o∧o.cls=.type "tuple"∧o.data=.seq items n∧items.toList=[.ref a,.ref d,.ref c]∧TK prog w h (lq t.1) a∧TK prog w h (lq t.2.1) d∧TK prog w h (lq t.2.2) c
theorem TT.grow(x:TT prog w h k b)(e:∀b o,o.cls=.type "tuple"→h.get? b=some o→h'.get? b=some o):TT prog w h' k b:=by
 obtain⟨o,d,n,u,p,l,y,f,s,v,r,i,j⟩:=x;have c:∀{k:List Int}{a:Lm},TK prog w h k a->TK prog w h' k a:=λ{k a} t=>by obtain⟨o,d,n,m,g,q⟩:=t;exact⟨o,d,n,e _ _ g m,g,q⟩
 exact⟨o,d,n,u,p,l,e _ _ f y,f,s,v,c r,c i,c j⟩
theorem IV(h:lq p=lq q):p=q:=by
 obtain⟨a,b⟩:=p;obtain⟨c,d⟩:=q;injection h with h1 h2;injection h2 with h2 _;simp only at h1 h2;rw[h1,h2]
theorem qi(a b):decide (lq a=lq b)=decide (a=b):=decide_eq_decide.mpr ⟨IV,λe=>by rw[e]⟩
theorem Gp(J:A.units+1<NZ)(r:TT prog w s.heap a x)(v:TT prog w s.heap b y)(h:Q (ltT a b) s):LH (LM prog w) A (keyLt' (Sh false) (.ref x) (.ref y)) Q E s:=by
 obtain⟨o,its,n,K,M,H,t,_,u,m,p,q,l⟩:=r;obtain⟨F,c,L,D,I,G,C,_,B,g,i,k,j⟩:=v;refine kat_lt t u C B ?_;rw[m,g];unfold ltT at h;refine kat_cons (OO (by lia) p i ?_);rw[qi];by_cases e:a.1=b.1
 .rw[decide_eq_true e];rw[if_pos e]at h;refine kat_yes (kat_cons (OO (by lia) q k ?_))
  rw[qi];by_cases d:a.2.1=b.2.1
  .rw[decide_eq_true d];rw[if_pos d]at h;refine kat_yes (kat_cons (OO (by lia) l j ?_))
   rw[qi];by_cases f:a.2.2=b.2.2
   .rw[decide_eq_true f];refine kat_yes (kat_nil ?_);rw[f,lJ]at h
    have z:decide (its.size<c.size)=false:=by
     rw[<-Li,<-Li,m,g];simp
    rw[z];exact h
   .rw[decide_eq_false f];exact kat_no (kat_one _ _ (lt_ptsR (by lia) l j h))
  .rw[decide_eq_false d];rw[if_neg d]at h;exact kat_no (kat_one _ _ (lt_ptsR (by lia) q k h))
 .rw[decide_eq_false e];rw[if_neg e]at h;exact kat_no (kat_one _ _ (lt_ptsR (by lia) p i h))
abbrev PT3:=List (TR×Lm)
abbrev F2(pb:PT3):List K3:=pb.map λp=>LQ p.2
theorem Cr(j:∀p∈pb,TT prog w s.heap p.1 p.2)(y:0<pb.length)(h:Q (Sh false) s):LH (LM prog w) A (VL (F2 pb).toArray) Q E s:=by
 obtain⟨fs,c,i,f⟩:∃fs,KatTups s.heap (F2 pb) fs∧fs.length=pb.length∧∀v∈fs,∃a o,v=LQ a∧s.heap.get? a=some o∧o.cls=.type "tuple":=by
  clear h y
  induction pb with
  |nil=>exact⟨[],.nil,rfl,λv b=>by simp at b⟩
  |cons p r u=>
   obtain⟨fs,c,i,f⟩:=u λq k=>j q (KN _ k);obtain⟨o,its,n,g,F,D,m,l,x,t,C,_⟩:=j p K0;refine⟨.ref g::fs,.cons m l x (by rw[<-L4,t];rfl) c,by simp[i],λv b=>?_⟩;rcases KO.mp b with z |z
   .obtain⟨B,_,_,d,e,_⟩:=C;exact⟨g,B,z,d,e⟩
   .exact f v z
 refine kat_kind (T:=.type "tuple") c (by lia) (λv b=>?_) (by decide) h;obtain⟨a,o,rfl,d,e⟩:=f v b;rw[<-e];exact (Looks.ld d).andThen .now
end
end ST3
namespace L2
open PySem PySem.Spec PyProof.Rows
abbrev trU(t:ST3.TR):U:=.tup [pu t.1,pu t.2.1,pu t.2.2]
def t0:ST3.TR:=((0,0),(0,0),(0,0))
section
variable {X:Cx}{H0:Hp}{O0:List Lm}{ps:PSt}{e:Expr}{trs:List ST3.TR}{pos p:Pos}
theorem JO(h:aS [a,b,c] us):∃u v w,us=[u,v,w]/\aR a u/\aR b v/\aR c w:=by
 cases h with
 |cons f r=>
  cases r with
  |cons d r=>
   cases r with
   |cons e r=>cases r;exact⟨_,_,_,rfl,f,d,e⟩
end
section
variable {κ:Type} [DecidableEq κ]
def f9(a:List (κ×V))(k:κ):Option V:=(a.find? λb=>decide (b.1=k)).map (·.2)
def kc(b:List (κ×V))(k:κ)(v:V):List (κ×V):=
 if (b.any λa=>decide (a.1=k))=true then b.map (λa=>if a.1=k then (a.1,v) else a) else b++[(k,v)]
theorem oa{p:κ×V}{r:List (κ×V)}{k:κ}(e:p.1=k):f9 (p::r) k=some p.2:=by simp[f9,NP,e]
theorem j3{p:κ×V}{r:List (κ×V)}{k:κ}(e:¬ p.1=k):f9 (p::r) k=f9 r k:=by simp[f9,NP,e]
theorem uB(k:κ):∀a:List (κ×V),(a.any λb=>decide (b.1=k))=(f9 a k).isSome
 |[]=>rfl
 |p::r=>by
  rw[O8];by_cases e:p.1=k
  .simp only[oa e,decide_eq_true e,Bool.true_or,Option.isSome_some]
  .rw[j3 e,decide_eq_false e,VH];exact uB k r
theorem lg(a:List (κ×V))(k:κ)(v:V):(kc a k v).length<=a.length+1:=by
 unfold kc;split
 .rw[KI];lia
 .rw[LB,Lk,OT];lia
theorem iJ.isSome_eq{o:Option V}{u:Option K3}(r:iJ o u):o.isSome=u.isSome:=by
 cases o with
 |none=>cases u with
  |none=>rfl
  |some _=>exact (show False from r).elim
 |some _=>cases u with
  |none=>exact (show False from r).elim
  |some _=>rfl
theorem KV.val{d:List (κ×V)}{vs:List (κ×K3)}(r:KV d vs)(k:κ):iJ (f9 d k) (Qc vs k):=by
 unfold KV at r
 induction r with
 |nil=>exact True.intro
 | @cons p q j c h t i=>
  obtain⟨f,g⟩:=h;by_cases e:p.1=k
  .have a:q.1=k:=f.symm.trans e;have b:Qc (q::c) k=some q.2:=by simp[Qc,NP,a]
   rw[oa e,b];exact g
  .have a:¬ q.1=k:=λz=>e (f.trans z);have b:Qc (q::c) k=Qc c k:=by simp[Qc,NP,a]
   rw[j3 e,b];exact i
theorem KV.any{b:List (κ×V)}{vs:List (κ×K3)}(r:KV b vs)(k:κ):(b.any λa=>decide (a.1=k))=vs.any λa=>decide (a.1=k):=by
 unfold KV at r
 induction r with
 |nil=>rfl
 |cons h t c=>rw[O8,O8,c,h.1]
theorem KV.repl{c:List (κ×V)}{vs:List (κ×K3)}(r:KV c vs)(k:κ){y:V}{u:K3}(f:aR y u):
  KV (c.map λa=>if a.1=k then (a.1,y) else a) (vs.map λa=>if a.1=k then (a.1,u) else a):=by
 unfold KV at r |-
 induction r with
 |nil=>exact .nil
 | @cons p q i j h t d=>
  rw[Lb,Lb];refine .cons ?_ d;obtain⟨b,g⟩:=h;by_cases e:p.1=k
  .rw[if_pos e,if_pos (b.symm.trans e)];exact⟨b,f⟩
  .rw[if_neg e,if_neg (λz=>e (b.trans z))];exact⟨b,g⟩
theorem KV.put{b:List (κ×V)}{vs:List (κ×K3)}(r:KV b vs)(k:κ){y:V}{u:K3}(a:aR y u):KV (kc b k y) (stored vs k u):=by
 unfold kc stored;rw[r.any k];by_cases e:(vs.any λc=>decide (c.1=k))=true
 .rw[if_pos e,if_pos e];exact r.repl k a
 .rw[if_neg e,if_neg e];exact Paired.snoc r ⟨rfl,a⟩
theorem KV.length{a:List (κ×V)}{vs:List (κ×K3)}(r:KV a vs):a.length=vs.length:=Paired.length r
end
theorem yt{P:Lg}{w:LL}{k:Key}{u:K3}(r:aR (kV k) u):(cW P w).is k u=true:=by
 cases k with
 |inl i=>obtain⟨t,e⟩:=(show ∃t,u=OQ i t from r);subst e;exact sH P w i t
 |inr x=>obtain⟨t,e⟩:=(show ∃t,u=Qz x t from r);subst e;exact ua P w x t
theorem pH{P:Lg}{w:LL}:∀{a:List Key}{b:List K3},aS (a.map kV) b->ItemsAre (cW P w) a b
 |[],_,r=>by rw[Og]at r;cases r;exact .nil
 |k::a,_,r=>by
  rw[Lb]at r;cases r with
  |cons h t=>exact .cons (yt h) (pH t)
abbrev KT(H:Hp):List (List Key×V)->List (List Key×Lm×K3)->Prop:=Paired λp q=>p.1=q.1/\H q.2.1=some (.tup (p.1.map kV))/\aR p.2 q.2.2
theorem KT.val{H:Hp}{d:List (List Key×V)}{xs:List (List Key×Lm×K3)}(r:KT H d xs)(k:List Key):iJ (f9 d k) ((VW xs k).map (·.2)):=by
 induction r with
 |nil=>exact True.intro
 | @cons p q j c h t g=>
  obtain⟨f,_,i⟩:=h;by_cases e:p.1=k
  .have a:q.1=k:=f.symm.trans e;have b:VW (q::c) k=some q.2:=by simp[VW,NP,a]
   rw[oa e,b];exact i
  .have a:¬ q.1=k:=λz=>e (f.trans z);have b:VW (q::c) k=VW c k:=by simp[VW,NP,a]
   rw[j3 e,b];exact g
theorem KT.repl{H:Hp}{d:List (List Key×V)}{xs:List (List Key×Lm×K3)}(r:KT H d xs)(k:List Key){y:V}{u:K3}(g:aR y u):
  KT H (d.map λb=>if b.1=k then (b.1,y) else b) (xs.map (putAt k u)):=by
 induction r with
 |nil=>exact .nil
 | @cons p q j l h t f=>
  rw[Lb,Lb];refine .cons ?_ f;obtain⟨a,c,i⟩:=h;unfold putAt;by_cases e:p.1=k
  .rw[if_pos e,if_pos (a.symm.trans e)];exact⟨a,c,g⟩
  .rw[if_neg e,if_neg (λz=>e (a.trans z))];exact⟨a,c,i⟩
theorem KT.put{H:Hp}{a:List (List Key×V)}{xs:List (List Key×Lm×K3)}(r:KT H a xs)(k:List Key){b:Lm}{y:V}{u:K3}(d:H b=some (.tup (k.map kV)))(c:aR y u):
  KT H (kc a k y) (storedH xs k b u):=by
 have e:(a.any λf=>decide (f.1=k))=(VW xs k).isSome:=by
  rw[uB,(r.val k).isSome_eq,Ua]
 unfold kc storedH;rw[e];by_cases q:(VW xs k).isSome=true
 .rw[if_pos q,if_pos q];exact r.repl k c
 .rw[if_neg q,if_neg q];exact Paired.snoc r ⟨rfl,d,c⟩
theorem KT.keeps{H c:Hp}{d:List (List Key×V)}{xs:List (List Key×Lm×K3)}(r:KT H d xs)(e:∀b a,H b=some (.tup a)->c b=some (.tup a)):KT c d xs:=
 Paired.mapP r λ_ _ z=>⟨z.1,e _ _ z.2.1,z.2.2⟩
section
variable {P:Lg}{w:LL}{H:Hp}{h:Nh}{a:Lm}
theorem FV{u:HO}(b:HOk P w H h)(e:Rd H a u):bR P w H h a u:=e.ok b
theorem wT{b:List (Key×V)}(d:HOk P w H h)(e:Rd H a (.dK b)):b.length<=sizeLine/\(a==Ox)=false/\∃c,KV b c/\h.DictOf (cW P w) a c:=
 show bR P w H h a (.dK b) from FV d e
theorem Jy{b:List (Key×V)}(d:HOk P w H h)(e:H a=some (.dK b)):b.length<=sizeLine/\(a==Ox)=false/\∃c,KV b c/\h.DictOf (cW P w) a c:=wT d (.inl e)
theorem qo{b:List Key}(g:HOk P w H h)(e:H a=some (.tup (b.map kV))):(S9 (cW P w)).is h b a:=by
 obtain⟨_,its,r,o,f,c,n,d⟩:=(show bR P w H h a (.tup (b.map kV)) from g a _ e)
 exact⟨o,its.toArray,n,f,c,d,by simpa using pH r⟩
theorem xT{d:List (List Key×V)}(g:HOk P w H h)(e:Rd H a (.dT d)):d.length<=sizeLine/\(a==Ox)=false/\
  ∃c,KT H d c/\h.DictOfH (S9 (cW P w)) a c:=by
 obtain⟨z,y,c,r,o,s,j,A,u,v,n,i⟩:=(show bR P w H h a (.dT d) from FV g e)
 refine⟨z,y,c,r,o,s,j,A,u,v,n,λx b=>?_,i⟩
 have all:∀{l:List (List Key×V)}{m:List (List Key×Lm×K3)},KT H l m->∀x∈m,(S9 (cW P w)).is h x.1 x.2.1:=by
  intro l m q
  induction q with
  |nil=>intro x b;exact nomatch b
  | @cons p q B C f t k=>
   intro x b;rcases KO.mp b with e |b
   .subst e;exact qo g (by rw[<-f.1];exact f.2.1)
   .exact k x b
 exact all r x b
theorem JA{b:List (List Key×V)}(d:HOk P w H h)(e:H a=some (.dT b)):b.length<=sizeLine/\(a==Ox)=false/\
  ∃c,KT H b c/\h.DictOfH (S9 (cW P w)) a c:=xT d (.inl e)
end
def rT(H:Hp)(a:Lm)(y:V)(r:Option V):Prop:=
 (∃c k,Rd H a (.dK c)/\y=kV k/\r=f9 c k)\/∃c k b,Rd H a (.dT c)/\y=.ref b/\H b=some (.tup (k.map kV))/\r=f9 c k
def Dg(H:Hp)(a:Lm)(y v:V)(d:Hp):Prop:=
 (∃c k,H a=some (.dK c)/\y=kV k/\c.length<sizeLine/\d=upd H a (.dK (kc c k v)))\/
 ∃c k b,H a=some (.dT c)/\y=.ref b/\H b=some (.tup (k.map kV))/\c.length<sizeLine/\d=upd H a (.dT (kc c k v))
theorem rT.k{H:Hp}{a:Lm}{b:List (Key×V)}{k:Key}(e:H a=some (.dK b)):rT H a (kV k) (f9 b k):=.inl ⟨b,k,.inl e,rfl,rfl⟩
theorem Dg.k{H:Hp}{a:Lm}{b:List (Key×V)}{k:Key}{v:V}(e:H a=some (.dK b))(c:b.length<sizeLine):Dg H a (kV k) v (upd H a (.dK (kc b k v))):=.inl ⟨b,k,e,rfl,c,rfl⟩
section
variable {X:Cx}{Wz:List (Lm×Obj)}{σ:St}{H:Hp}{s:K8}{a:Lm}{y v:V}{u r:K3}{o:Option V}{A:L7}{E:K3→K8→Prop}
theorem Inv.big(I:Inv X Wz σ H s):Ox<s.heap.objs.size:=by
 have h:Mi<s.heap.objs.size:=(I.mod.glob.keeps I.bk).lt;exact MG (by decide) h
theorem zK{Q:K3->K8->Prop}(F:A.units+1<NZ)(I:Inv X Wz σ H s)(g:rT H a y (some v))(r:aR y u)(h:∀c q,Inv X Wz σ H q->aR v c->Q c q):
  LH (LM X.prog X.w) A (TY (.ref a) u) Q E s:=by
 rcases g with ⟨G,k,e,j,l⟩ |⟨G,k,b,e,j,x,l⟩
 .subst j;obtain⟨z,C,B,f,n⟩:=wT I.hok e;obtain⟨c,i,d⟩:=iJ.some_of (v:=v) (o:=Qc B k) (by rw[l];exact f.val k);exact UD (yt r) n.mapOf i (h c _ (I.tok _) d)
 .subst j;cases (show u=LQ b from r);obtain⟨z,C,D,f,n⟩:=xT I.hok e;obtain⟨c,i,d⟩:=iJ.some_of (v:=v) (o:=(VW D k).map (·.2)) (by rw[l];exact f.val k);obtain⟨p,t,m⟩:=Nx.mp i;refine wpAny_getItem_heap (QV F) (qo I.hok x) n t ?_;rw[m];exact h c _ (I.tok _) d
theorem Fc{Q:K3->K8->Prop}(p:A.units+1<NZ)(I:Inv X Wz σ H s)(g:rT H a y o)(m:aR y u)(h:∀j,Inv X Wz σ H j->Q (.bool (!o.isSome)) j):
  LH (LM X.prog X.w) A (LX .NotIn u (.ref a)) Q E s:=by
 rcases g with ⟨r,k,e,f,l⟩ |⟨r,k,b,e,f,n,l⟩
 .subst f;obtain⟨z,c,t,d,i⟩:=wT I.hok e;refine Vk (yt m) c i.mapOf ?_;rw[<-(d.val k).isSome_eq,<-l];exact h _ (I.tok _)
 .subst f;cases (show u=LQ b from m);obtain⟨z,c,v,d,i⟩:=xT I.hok e;refine wpAny_notIn_heap (QV p) (qo I.hok n) c i ?_;have q:=(d.val k).isSome_eq;rw[Ua]at q;rw[<-q,<-l];exact h _ (I.tok _)
theorem xo{h':Nh}{t':Nat}{d:HO}(I:Inv X Wz σ H s)(g:Mut (H a))(hs:OD a s.heap h')(h:∃q,h'.get? a=some q)(c:bR X.prog X.w (upd H a d) h' a d):
  Inv X Wz σ (upd H a d) {s with heap:=h',toks:=t' }:=
 I.write (x:=a) (e:=a) g (.inl rfl) (λb q f z=>(hs.2 b f).trans z) h c
theorem Hl{P:Lg}{w:LL}{d:Hp}{h':Nh}{b:List (Key×V)}{vs:List (Key×K3)}(z:b.length<=sizeLine)(c:(a==Ox)=false)(f:KV b vs)(e:h'.DictOf (cW P w) a vs):
  bR P w d h' a (.dK b):=⟨z,c,vs,f,e⟩
theorem zW{J:Hp}{Q:Unit->K8->Prop}(U:A.units+1<NZ)(I:Inv X Wz σ H s)(g:Dg H a y v J)(K:aR y u)(D:aR v r)(h:∀G,Inv X Wz σ J G->Q () G):
  LH (LM X.prog X.w) A (setItem (.ref a) u r) Q E s:=by
 rcases g with ⟨i,k,e,t,l,n⟩ |⟨i,k,b,e,t,F,l,n⟩
 .subst t n;obtain⟨z,m,O,f,B⟩:=Jy I.hok e;have o:O.length<=sizeLine:=by rw[<-f.length];exact z
  have x:(kc i k v).length<=sizeLine:=by have:=lg i k v;lia
  refine wpAny_setItem_pairs (hsz:=o) (yt K) B λL d p=>h _ ?_;have P:∃q,L.get? a=some q:=let ⟨q,_,_,j,_⟩:=d;⟨q,j⟩;exact xo I (by rw[e];exact True.intro) p P (Hl x m (f.put k D) d)
 .subst t n;cases (show u=LQ b from K);obtain⟨z,m,R,f,B⟩:=JA I.hok e;have o:R.length<=sizeLine:=by rw[<-Paired.length f];exact z
  have x:(kc i k v).length<=sizeLine:=by have:=lg i k v;lia
  refine wpAny_setItem_heap (hsz:=o) (QV U) (qo I.hok F) B λL d p=>h _ ?_;obtain⟨q,T,N,j,V,W,S,_,M⟩:=d;refine xo I (by rw[e];exact True.intro) p ⟨q,j⟩ ⟨x,m,_,(f.put k F D).keeps λc Y C=>?_,q,T,N,j,V,W,S,M⟩;rw[aI (IX C e (λz=>nomatch z))];exact C
end
def zq(i:Expr):Prop:=∀a b,S3 i false a b=operate [a,b] (TY a b)
theorem xZ{prog:Lg}{w:LL}{A:L7}{E:K3->K8->Prop}{s:K8}{d:Env}{k a:Expr}{g:Pos}{T n:String}{Q:K3->K8->Prop}
  (hl:SJ (.type T) "__getitem__"=pure (some (.builtin n))) (hs:zq a)
  (h:LH (LM prog w) A (Nq k d) (λo m=>LH (LM prog w) A (Nq a d) (λi Xt=>Xt.TypeIs o T/\LH (LM prog w) A (TY o i) Q E Xt) E m) E s):
  LH (LM prog w) A (Nq (.Subscript k a g) d) Q E s:=by
 refine TZ (Oy h (λo m e=>Oy e (λi Xt b=>?_) λ_ _ x=>x) λ_ _ x=>x);obtain⟨l,b⟩:=b;unfold Ti;refine KL ?_;rw[getitemInPython_of_ne l.not_modules];refine KL (OB l hl ?_)
 have j:LH (LM prog w) A (S3 a false o i) (λr c=>LH (LM prog w) A (letTemporaryGo k o r >>=λ_=>pure r) Q E c) E Xt:=by
  rw[hs o i];exact wpAny_operating (Oy b (λr c f=>KL (wpAny_letTemporaryGo (KY f))) λ_ _ x=>x)
 first
  |exact KY (KL j)
  |exact KL (KY (KL j))
  |exact KL j
theorem uj{X:Cx}{h:List (Lm×Obj)}{d:St}{H:Hp}{s:K8}{a:Lm}{y:V}{o:Option V}(I:Inv X h d H s)(g:rT H a y o):s.TypeIs (.ref a) "dict":=by
 rcases g with ⟨f,k,e,_,_⟩ |⟨f,k,b,e,_,_,_⟩
 .obtain⟨_,_,j,_,c⟩:=wT I.hok e;exact c.typeIs
 .obtain⟨_,_,i,_,c⟩:=xT I.hok e;exact c.typeIs
def JF(e f:TE):TE:=λc H Q=>e c H λx d=>f c d λy b=>∃a v,x=.ref a/\rT b a y (some v)/\Q v b
def Ds(f e:TE):TE:=λc H Q=>f c H λy d=>e c d λx b=>∃a o,x=.ref a/\rT b a y o/\Q (.bl (!o.isSome)) b
def ID(g h e:TE):TS:=λD b H=>e b H λv d=>g b d λx f=>h b f λy i=>∃a c,x=.ref a/\Dg i a y v c/\D.nx b c
section
variable {X:Cx}{o i e WR:Expr}{pos WU tpos:Pos}{td ty tv:TE}
theorem ET(r:X.A.units+1<NZ)(k:PE X o td)(n:PE X i ty)(hs:zq i):PE X (.Subscript o i pos) (JF td ty):=by
 intro b s c H Q I h;refine xZ Q3.lookup hs (thn (k b s c H _ I h) λu w ⟨x,e,p,z,m⟩=>thn (n b w c e _ p m) λG D t=>?_);obtain⟨y,f,d,q,a,v,B,g,l⟩:=t;subst B;obtain rfl:u=LQ a:=z;exact⟨uj d g,zK r d g q λF E C j=>⟨v,f,C,j,l⟩⟩
theorem z_(q:X.A.units+1<NZ)(l:PE X i ty)(f:PE X o td):PC X .NotIn i o (Ds ty td):=by
 intro b s c H Q I h;refine thn (l b s c H _ I h) λE v ⟨y,d,m,n,k⟩=>thn (f b v c d _ m k) λu C t=>?_;obtain⟨x,e,p,w,a,r,z,g,j⟩:=t;subst z;obtain rfl:u=LQ a:=w;exact Fc q p g n λD B=>⟨.bl (!r.isSome),e,B,rfl,j⟩
theorem Ed(B:X.A.units+1<NZ)(f:PE X o td)(n:PE X i ty)(z:PE X WR tv)(hs:NX WR (some (.Subscript o i WU)) pos.line X.env=pure false):
  PS X (.Assign [.Subscript o i WU] WR pos) (ID td ty tv):=by
 intro c s b H D I h;refine wpAny_Assign_Subscript (thn (z c s b H _ I h) λr F ⟨v,d,q,j,l⟩=>thn (f c F b d _ q l) λu p ⟨x,e,w,G,k⟩=>thn (n c p b e _ w k) λN M E=>?_) hs;obtain⟨y,P,L,t,a,m,J,g,K⟩:=E;subst J;obtain rfl:u=LQ a:=G;exact zW B L g t j λO C=>⟨b,m,C,K⟩
end
theorem AX{P:Lg}{w:LL}{H:Hp}(h:Nh)(a:Ox<h.objs.size):bR P w H (h.push {cls:=.type "dict",data:=.dict #[] }) h.objs.size (.dK []):=
 ⟨Mm _,beq_eq_false_iff_ne.mpr (Ne.symm (LA a)),[],.nil,Wx h⟩
def Gs:TE:=λ_ H Q=>∀p,H p=none->Q (.ref p) (upd H p (.dK []))
section
variable {X:Cx}{pos:Pos}
theorem AG:PE X (.Dict [] [] pos) Gs:=λb s c H Q I h=>
 wpAny_Dict_empty ⟨.ref s.heap.objs.size,_,I.laid (a:=s.heap.objs.size) (o:=.dK []) (t':=s.toks) (λ_ _ q=>KU _ q) (K1 _) (AX s.heap I.big),rfl,h _ (I.hok.fresh (K1 _))⟩
end
def valU(a:List (Str×U))(x:Str):Option U:=(a.find? λb=>decide (b.1=x)).map (·.2)
def oP(b:List (Str×U))(x:Str)(u:U):List (Str×U):=
 if (b.any λa=>decide (a.1=x))=true then b.map (λa=>if a.1=x then (a.1,u) else a) else b++[(x,u)]
section
variable {K:KM}{H H':Hp}{kv:List (Key×V)}{WB:List (Str×U)}{k:Key}{v:V}{x:Str}{u:U}
theorem DkR.nil:DkR K H [] []:=⟨rfl,λi k v x u h=>by simp at h⟩
theorem DkR.cons(e:k=.inr x)(r:Rp K H v u)(h:DkR K H kv WB):DkR K H ((k,v)::kv) ((x,u)::WB):=by
 refine⟨by simp[h.len],λi c g f d a b=>?_⟩;cases i with
 |zero=>simp at a b;obtain⟨rfl,rfl⟩:=a;obtain⟨rfl,rfl⟩:=b;exact⟨e,r⟩
 |succ i=>exact h.at_ i c g f d (by simpa using a) (by simpa using b)
theorem DkR.uncons(h:DkR K H ((k,v)::kv) ((x,u)::WB)):k=.inr x/\Rp K H v u/\DkR K H kv WB:=
 ⟨(h.at_ 0 k v x u rfl rfl).1,(h.at_ 0 k v x u rfl rfl).2,by have:=h.len;simpa using this,λi c f e d a b=>h.at_ (i+1) c f e d (by simpa using a) (by simpa using b)⟩
theorem DkR.ind{p:List (Key×V)->List (Str×U)->Prop}(a:p [] [])(b:∀v x u kv WB,Rp K H v u->DkR K H kv WB->p kv WB->p ((.inr x,v)::kv) ((x,u)::WB)):∀{kv}{WB},DkR K H kv WB->p kv WB
 |[],[],_=>a
 |[],_::_,h=>by have:=h.len;simp at this
 |_::_,[],h=>by have:=h.len;simp at this
 | (k,v)::kv,(x,u)::WB,h=>by
  obtain⟨e,r,t⟩:=h.uncons;subst e;exact b v x u kv WB r t (DkR.ind a b t)
theorem DkR.val(h:DkR K H kv WB)(x:Str):(valU WB x=none/\f9 kv (.inr x)=none)\/∃u v,valU WB x=some u/\f9 kv (.inr x)=some v/\Rp K H v u:=by
 refine DkR.ind (p:=λkv WB=>(valU WB x=none/\f9 kv (.inr x)=none)\/∃u v,valU WB x=some u/\f9 kv (.inr x)=some v/\Rp K H v u) (.inl ⟨rfl,rfl⟩) (λv y u kv WB r _ c=>?_) h;by_cases e:y=x
 .subst e;exact .inr ⟨u,v,by simp[valU],by simp[f9],r⟩
 .have a:¬ (Sum.inr y:Key)=.inr x:=λz=>e (by injection z);have b:valU ((y,u)::WB) x=valU WB x:=by simp[valU,NP,e]
  have d:f9 ((Sum.inr y,v)::kv) (Sum.inr x:Key)=f9 kv (.inr x):=j3 a;rw[b,d];exact c
theorem DkR.some(h:DkR K H kv WB){x:Str}{u:U}(e:valU WB x=some u):∃v,f9 kv (.inr x)=some v/\Rp K H v u:=by
 rcases h.val x with ⟨z,_⟩ |⟨d,v,c,a,b⟩
 .rw[z]at e;cases e
 .rw[c]at e;cases e;exact⟨v,a,b⟩
theorem DkR.isSome(h:DkR K H kv WB)(x):(f9 kv (.inr x)).isSome=(valU WB x).isSome:=by
 rcases h.val x with ⟨b,c⟩ |⟨e,v,d,a,f⟩
 .rw[b,c];rfl
 .rw[d,a];rfl
theorem DkR.map(h:DkR K H kv WB)(r:Rp K H v u):DkR K H (kv.map λp=>if p.1=(.inr x:Key) then (p.1,v) else p) (WB.map λp=>if p.1=x then (p.1,u) else p):=by
 refine DkR.ind (p:=λkv WB=>DkR K H (kv.map λp=>if p.1=(.inr x) then (p.1,v) else p) (WB.map λp=>if p.1=x then (p.1,u) else p)) DkR.nil (λw y z kv WB b _ a=>?_) h;rw[Lb,Lb];by_cases e:y=x
 .subst e;rw[if_pos rfl,if_pos rfl];exact .cons rfl r a
 .rw[if_neg λz=>e (by injection z),if_neg e];exact .cons rfl b a
theorem DkR.snoc(h:DkR K H kv WB)(r:Rp K H v u):DkR K H (kv++[(.inr x,v)]) (WB++[(x,u)]):=
 DkR.ind (p:=λkv WB=>DkR K H (kv++[(.inr x,v)]) (WB++[(x,u)])) (DkR.cons rfl r DkR.nil) (λw y z kv WB a _ b=>.cons rfl a b) h
theorem DkR.any(h:DkR K H kv WB)(x):(kv.any λp=>decide (p.1=(.inr x:Key)))=(WB.any λp=>decide (p.1=x)):=
 DkR.ind (p:=λkv WB=>(kv.any λp=>decide (p.1=(.inr x)))=(WB.any λp=>decide (p.1=x))) rfl (λw y z kv WB _ _ a=>by
  rw[O8,O8,a];congr 1;by_cases e:y=x
  .subst e;simp
  .rw[decide_eq_false e,decide_eq_false λz=>e (by injection z)]) h
theorem DkR.put(h:DkR K H kv WB)(r:Rp K H v u)(x):DkR K H (kc kv (.inr x) v) (oP WB x u):=by
 unfold kc oP;rw[h.any x];split
 .exact h.map r
 .exact h.snoc r
end
section
variable {X:Cx}{H0:Hp}{O0:List Lm}{E:XK}{ps:PSt}{D:PD}{e:Expr}{pos p:Pos}{u:U}{x n:Str}{w:Bool}{C a d:Lm}{WB:List (Str×U)}{i:Nat}
theorem nM(e:ps[i]?=some (some (.dsk w C a d WB)))(f:Cls X.K C)(k:gy X.K C "lands")(h:autoParam (X.N[i]?=some x) w4)(j:autoParam (Vis X.env.scope x) v3)
  (hd:autoParam ((x==("__debug__":Str))=false) v0) (W0:autoParam ((x==("__classdict__":Str))=false) v0) (hb:autoParam (MC (.Name x p) "lands" X.env (Nq (.Name x p) X.env)=Nq (.Name x p) X.env) w4):
  PE X (.Attribute (.Name x p) "lands" pos) λb H Q=>∃O,Rs X.K H0 O0 ps b H O∧Q (.ref d) H:=
 PE.mono (HU (fe h j hd W0) hb) λb H Q l=>by
  obtain⟨O,R,q⟩:=l;obtain⟨v,m,g,s,rfl,t,o,c,n,r⟩:=R.at_ i _ e;exact⟨_,m,a,C,g,_,_,rfl,c,f,k,by simp,q⟩
abbrev qa(X:Cx)(H0:Hp)(O0:List Lm)(ps:PSt)(o:Expr)(d:Lm):Prop:=PE X o λa H Q=>∃O,Rs X.K H0 O0 ps a H O/\Q (.ref d) H
theorem AW(R:Rs X.K H0 O0 ps σ H O)(c:ps[i]?=some (some (.dsk w C a d WB))):∃b,H d=some (.dK b)/\DkR X.K (hid H O) b WB:=by
 obtain⟨v,k,g,b,rfl,j,l,h,f,e⟩:=R.at_ i _ c;exact⟨b,f,e⟩
theorem HE(b:ps[i]?=some (some (.dsk w C a d WB)))(c:qa X H0 O0 ps o d)(f:Ev X H0 O0 ps e (.str n))(x:X.A.units+10<NZ)(h:valU WB n=some u)(hs:autoParam (zq e) q7):Ev X H0 O0 ps (.Subscript o e pos) u:=
 PE.mono (ET (by lia) c f hs) λt H Q ⟨O,R,q⟩=>⟨O,R,O,R,λv g s r=>by
  cases r;obtain⟨y,p,l⟩:=AW (R.go s) b;obtain⟨z,m,j⟩:=l.some h;exact⟨d,z,rfl,by have:=rT.k (k:=.inr n) p;rw[m]at this;exact this,q z g s j⟩⟩
theorem Ig(f:ps[i]?=some (some (.dsk w C a d WB)))(h:qa X H0 O0 ps o d)(j:Ev X H0 O0 ps e (.str n))(m:X.A.units+10<NZ)(b:autoParam (NJ .NotIn o=false) q5):Tt X H0 O0 ps (.Compare e [.NotIn] [o] pos) (!(valU WB n).isSome):=
 PT.mono (BA (z_ (by lia) j h) b) λp H Q ⟨O,R,q⟩=>⟨O,R,λv g s r=>by
  cases r;obtain⟨l,b,c⟩:=AW (R.go s) f;exact⟨O,R.go s,d,_,rfl,rT.k (k:=.inr n) b,_,rfl,by rw[c.isSome];exact q g s⟩⟩
theorem Rs.wdsk{K:KM}(R:Rs K H0 O0 ps σ H O)(D:ps[i]?=some (some (.dsk true C a d WB)))(L:∀j w C a d WB,ps[j]?=some (some (.dsk w C a d WB))->j=i)(r:DkR K (hid H O) kv XS):
  Rs K H0 O0 (ps.set i (some (.dsk true C a d XS))) σ (upd H d (.dK kv)) O:=by
 obtain⟨v,J,N,V,rfl,h,p,n,o,g7⟩:=R.at_ i _ D;have U:=(R.new d h).resolve_left (p rfl);have f:hid (upd H d (.dK kv)) O=hid H O:=lL h;refine⟨R.same.put U _,R.old,R.new,λb Q z=>?_,by simp[R.len],λj s q=>?_,λj k y m b M G Y W=>?_⟩
 .by_cases e:b=d
  .subst e;rw[aH]at z;cases z
  .rw[aI e]at z;exact R.dom b Q z
 .rcases b9 q with ⟨I,c⟩ |⟨A,c⟩
  .subst I;cases c;exact⟨.ref a,J,N,kv,rfl,h,p,by rw[aI λz=>by rw[z,o]at n;cases n];exact n,aH,by rw[f];exact r⟩
  .obtain⟨t,B,g⟩:=R.at_ j s c;refine⟨t,B,?_⟩;cases s with
   |val u=>exact (show Rp K (hid (upd H d (.dK kv)) O) t u by rw[f];exact g)
   |own y=>
    obtain⟨b,m,P,E,X,l,F⟩:=g;exact⟨b,m,P,E,X,by rw[aI λz=>by rw[z,o]at l;cases l];exact l,by rw[f];exact F⟩
   |pin z u=>exact⟨g.1,by rw[f];exact g.2⟩
   |dsk w2 C2 a2 Z x=>exact absurd (L _ _ _ _ _ _ c).symm A
 .have S:ps[j]?=some (some (.own y)):=by
   rcases b9 M with ⟨_,e⟩ |⟨_,z⟩
   .cases e
   .exact z
  have T:ps[k]?=some (some (.own m)):=by
   rcases b9 G with ⟨_,e⟩ |⟨_,z⟩
   .cases e
   .exact z
  exact R.inj j k _ _ b S T Y W
def G9(ps:PSt)(i:Nat):Bool:=(LP ps.length).all λj=>match ps[j]? with |some (some (.dsk _ _ _ _ _))=>j==i |_=>true
theorem xA(h:G9 ps i=true):∀j w C a d WB,ps[j]?=some (some (.dsk w C a d WB))->j=i:=λj w C a d WB e=>by
 have b:=(K_.mp e).1;have:=OJ.mp h j (Lx.mpr b);rw[e]at this;exact beq_iff_eq.mp this
theorem GS(c:ps[i]?=some (some (.dsk true C a d WB)))(j:qa X H0 O0 ps o d)(m:Ev X H0 O0 ps e (.str n))(r:Ev X H0 O0 ps WR u)(z:X.A.units+10<NZ)(s:WB.length<sizeLine)(h:D.nx (ps.set i (some (.dsk true C a d (oP WB n u)))))
  (h1:autoParam (G9 ps i=true) w4) (hs:autoParam (NX WR (some (.Subscript o e WU)) pos.line X.env=pure false) w4):W1 X H0 O0 E (.Assign [.Subscript o e WU] WR pos) D ps:=
 PS.mono (Ed (by lia) j m r hs) λx y H ⟨L,O,R⟩=>⟨O,R,λv t b q=>⟨O,R.go b,O,R.go b,λk w g p=>by
  cases p;have R2:=R.go (b.trans g);obtain⟨B,l,f⟩:=AW R2 c;exact⟨d,_,rfl,Dg.k (k:=.inr n) l (by rw[f.len];exact s),L.nx _ _ _ O (R2.wdsk c (xA h1) (f.put (q.same (aN g)) n)) h⟩⟩⟩
theorem HX(g:ps[i]?=some (some (.dsk w C a d WB)))(k:Ev X H0 O0 ps e u)(h:D.rt (.dsk d u WB)):W1 X H0 O0 E (.Return (some e) pos) D ps:=
 PS.mono (m7 k) λx B H ⟨L,O,R⟩=>⟨O,R,λv n s r=>by
  have f:=R.go s;obtain⟨z,q,t,p,rfl,j,A,F,l,o⟩:=f.at_ i _ g
  have c:∀b∈d::O0,b∈O:=λb m=>by
   rcases KO.mp m with y |y
   .subst y;exact j
   .exact R.old b y
  exact L.rt _ h v p n f.same l (o.same (bI c)) (r.same (bI c))⟩
end
noncomputable def qK(N:List Str)(w:Bool)(C a d:Lm)(b:List (Str×U))(us:List U):PSt:=some (.dsk w C a d b)::(us.map (λu=>some (.val u))++LD (N.length-(us.length+1)) none)
noncomputable def spD(K:KM)(w:Bool)(C:Lm)(i:Lm→List (Str×U)→List U→Out→Prop):Sp:=λj H Q E=>∃a h d e f c g O o,j=.ref a::c∧H a=some (.ins C h [("lands",.ref d)])∧H d=some (.dK e)∧(∀b∈O,H b≠none)∧(w=true→d ∉ O)∧
 DkR K (hid H (d::O)) e f/\Rps K (hid H (d::O)) c g/\i d f g o/\pw K (if w=true then hid H [d] else H) (if w=true then O else d::O) Q E o
variable {pn:List Str}
section
variable {P:Lg}{w:LL}{K:KM}{mg:Str→Option K3}{base:Nh}{N:List Str}{WD nm:Str}{f:Lm}
theorem jO{u:Nz}(F:Fun K nm WD u f fd)(S:ar N pn (ai u))(x:∀d p g o,WJ d p g o->g.length+1=pn.length)
  (W3:∀m A c s H J E O a d p g o,cB k (A.deeper (Q9 WD (ai u) s.heap.objs.size f m))->WJ d p g o->
   Ws (nu (CXF P w) P w K mg base N WD (ai u) f m A c s H E) J O E (bq u) ⟨λ_=>o=.val .non,λB=>B=o,λ_=>False,λ_=>False⟩ (qK N own C a d p g)):cF P w K mg base (CXF P w) (k+1) f fd pn (spD K own C WJ):=by
 refine F.okF S (λM H Q E h=>?_) λm A c s H M Q E T h=>?_
 .obtain⟨a,D,d,I,p,U,g,O,o,rfl,_,_,_,_,_,r,y,_⟩:=h;rw[Lk,r.len];exact x d p g o y
 .obtain⟨a,D,d,I,p,U,g,O,o,rfl,Y,G,L,X,Z,r,y,q⟩:=h;refine⟨_,W3 m A c s H (if own=true then hid H [d] else H) E (if own=true then O else d::O) a d p g o T y,⟨λps σ V O' R e=>?_,λ_ _ _ _ _ e=>e.elim,λ_ _ _ _ _ e=>e.elim,λB e=>by subst e;exact q⟩,d::O,?_⟩
  .subst e;exact q .non V R.same .non
  .refine⟨?_,λb t=>?_,λb t=>?_,λb t=>?_,?_,λi sl e=>?_,λi j ys zs b n e2 _ _=>?_⟩
   .cases own
    .exact .refl H
    .exact aE
   .cases own
    .exact t
    .exact KN _ t
   .cases own
    .exact .inl t
    .rcases KO.mp t with z |z
     .subst z;right;show hid H [b] b=none;unfold hid;simp
     .exact .inl z
   .rcases KO.mp t with z |z
    .subst z;rw[G];simp
    .exact L b z
   .unfold start qK;simp only[Lk,LB,KI,M_,r.len];lia
   .unfold qK at e;cases i with
    |zero=>
     cases e;refine⟨.ref a,rfl,D,I,rfl,K0,λe=>?_,Y,G,Z⟩;subst e;exact X rfl
    |succ i=>
     rw[MQ]at e;by_cases l:i<g.length
     .rw[Lp (by simpa using l),K5,KJ l]at e
      cases e;obtain⟨v,h1,W⟩:=r.get (KJ l);refine⟨v,?_,W⟩;unfold start;rw[Lp (by simpa [r.len] using l),K5,MQ,h1];rfl
     .rw[Lq (by simpa using l),MP]at e
      split at e <;>cases e
   .exfalso
    cases i with
    |zero=>cases n
    |succ i=>
     unfold qK at n;rw[MQ]at n;by_cases l:i<g.length
     .rw[Lp (by simpa using l),K5,KJ l]at n
      cases n
     .rw[Lq (by simpa using l),MP]at n
      split at n <;>cases n
end
section
variable {X:Cx}{H0:Hp}{O0:List Lm}{E:XK}{ps X1 X7:PSt}{D:PD}{e b:Expr}{es rest:List Expr}{pos p WI:Pos}{u z:U}{us:List U}{x n m:Str}{w:Bool}{C Cx' a d f:Lm}{WB XS:List (Str×U)}{i k:Nat}{c c':Bool}{fd:Ng}{CX:CXT}{WJ:Lm→List (Str×U)→List U→Out→Prop}
theorem Rs.dsk2{K:KM}(R:Rs K H0 O0 ps σ H O)(F:ps[i]?=some (some (.dsk true C a d WB)))(M:∀j w C a d WB,ps[j]?=some (some (.dsk w C a d WB))->j=i)(s:aT (hid H [d]) H2)(g:H2 d=some (.dK kv))(r:DkR K (hid H2 O) kv XS):
  Rs K H0 O0 (ps.set i (some (.dsk true C a d XS))) σ H2 O:=by
 obtain⟨v,L,P,W,rfl,l,y,t,x,g7⟩:=R.at_ i _ F;have V:=(R.new d l).resolve_left (y rfl);have go:∀b o,b≠d->H b=some o->H2 b=some o:=λb o S e=>s b o (cZ e (by simpa using S))
 have m:aT (hid H O) (hid H2 O):=λb o e=>by
  obtain⟨n,c⟩:=iq e;exact cZ (go b o (λz=>c (z ▸ l)) n) c
 refine⟨λb o e=>go b o (λz=>by rw[z,V]at e;cases e) (R.same b o e),R.old,R.new,λb Q z=>?_,by simp[R.len],λj s q=>?_,λj k B us b N I q3 Y=>?_⟩
 .by_cases e:b=d
  .subst e;rw[g]at z;cases z
  .cases Xx:H b with
   |none=>exact R.dom b Q Xx
   |some o=>rw[go b o e Xx]at z;cases z
 .rcases b9 q with ⟨J,f⟩ |⟨D,f⟩
  .subst J;cases f;exact⟨.ref a,L,P,kv,rfl,l,y,go _ _ (λz=>by rw[z,x]at t;cases t) t,g,r⟩
  .obtain⟨X,E,h⟩:=R.at_ j s f;refine⟨X,E,?_⟩;cases s with
   |val u=>exact Rp.same m h
   |own B=>
    obtain⟨b,us,n,c,Z,p,G⟩:=h;exact⟨b,us,n,c,Z,go _ _ (λz=>by rw[z,x]at p;cases p) p,G.same m⟩
   |pin z u=>exact⟨h.1,Rp.same m h.2⟩
   |dsk w2 C2 a2 d2 A=>exact absurd (M _ _ _ _ _ _ f).symm D
 .have T:ps[j]?=some (some (.own B)):=by
   rcases b9 N with ⟨_,e⟩ |⟨_,z⟩
   .cases e
   .exact z
  have U:ps[k]?=some (some (.own us)):=by
   rcases b9 I with ⟨_,e⟩ |⟨_,z⟩
   .cases e
   .exact z
  exact R.inj j k _ _ b T U q3 Y
theorem GF(n:ps[i]?=some (some (.dsk w C a d WB)))(B:Cls X.K C)(D:Df X.K C m f)(F:cF X.prog X.w X.K X.mg X.base CX k f fd pn (spD X.K false C WJ))(G:cB k X.A)(c:cJ X.K fd pn [])(o:eE CX X E0)(M:EvA X H0 O0 ps (e::es) us)(h:WJ d WB us (.val u))
  (YJ:autoParam ((m==("lands":Str))=false) v0) (hN:autoParam (X.N[i]?=some x) w4) (hv:autoParam (Vis X.env.scope x) v3) (hd:autoParam ((x==("__debug__":Str))=false) v0) (W0:autoParam ((x==("__classdict__":Str))=false) v0)
  (Xd:autoParam (K7 (e::es) X.env=(false,Nq e X.env)::K7 es X.env) w4) (WX:autoParam ((M4 pos (K7 es X.env)).any (·.1)=false) w4)
  (ht:autoParam (Nq (.Call (.Attribute (.Name x p) m WI) (e::es) [] pos) X.env=(do
   let ov <-Nq (.Name x p) X.env
   UO WI.atName
   let (f,first) <-RX [ov] (R3 ov m pl)
   VC pos f first (M4 pos (K7 (e::es) X.env)) (Pl pos (NT [] X.env)))) w4):
  Ev X H0 O0 ps (.Call (.Attribute (.Name x p) m WI) (e::es) [] pos) u:=
 PE.mono (xK (fe hN hv hd W0) B D F G c .nil o M Xd WX ht) λW H Q L=>by
  obtain⟨O,R,q⟩:=L;obtain⟨v,U,l,S,rfl,T,Y,g,z,P⟩:=R.at_ i _ n;refine⟨_,U,a,l,_,rfl,g,by rw[OH,YJ];rfl,O,R,λj I s r=>?_⟩
  have sub:∀b∈d::O,b∈O:=λb c=>by
   rcases KO.mp c with y |y
   .subst y;exact T
   .exact y
  show spD X.K false C WJ (V.ref a::(j++[])) I Q E0;rw[Nj];exact⟨a,l,d,S,WB,j,us,O,.val u,rfl,s _ _ g,s _ _ z,(R.go s).dom,nofun,(P.same (aN s)).same (bI sub),r.same (bI sub),h,λv t J E=>q v t (s.trans J) (E.same (bI λb c=>KN _ c))⟩
def EvK(X:Cx)(H0:Hp)(O0:List Lm)(ps:PSt)(e:Expr)(u:U)(d:PSt):Prop:=
 PE X e λc H Q=>∃O,Rs X.K H0 O0 ps c H O/\∀v a b,Rs X.K H0 O0 d c a b->Rp X.K (hid a b) v u->Q v a
def TtK(X:Cx)(H0:Hp)(O0:List Lm)(ps:PSt)(e:Expr)(b:Bool)(d:PSt):Prop:=
 PT X e λc H Q=>∃O,Rs X.K H0 O0 ps c H O/\∀a f,Rs X.K H0 O0 d c a f->Q b a
def TwK(X:Cx)(H0:Hp)(O0:List Lm)(ps:PSt)(e:Expr)(b:Bool)(d:PSt):Prop:=
 PW X e λc H Q=>∃O,Rs X.K H0 O0 ps c H O/\∀a f,Rs X.K H0 O0 d c a f->Q b a
theorem vo(n:ps[i]?=some (some (.dsk true C a d WB)))(J:Cls X.K C)(L:Df X.K C m f)(F:cF X.prog X.w X.K X.mg X.base CX k f fd pn (spD X.K true C WJ))(U:cB k X.A)(c:cJ X.K fd pn [])(E:eE CX X E0)(ha:EvA X H0 O0 ps (e::es) us)(h:WJ d WB us (.dsk d u XS))
  (h1:autoParam (G9 ps i=true) w4) (YJ:autoParam ((m==("lands":Str))=false) v0) (hN:autoParam (X.N[i]?=some x) w4) (hv:autoParam (Vis X.env.scope x) v3) (hd:autoParam ((x==("__debug__":Str))=false) v0) (W0:autoParam ((x==("__classdict__":Str))=false) v0)
  (Xd:autoParam (K7 (e::es) X.env=(false,Nq e X.env)::K7 es X.env) w4) (WX:autoParam ((M4 pos (K7 es X.env)).any (·.1)=false) w4)
  (ht:autoParam (Nq (.Call (.Attribute (.Name x p) m WI) (e::es) [] pos) X.env=(do
   let ov <-Nq (.Name x p) X.env
   UO WI.atName
   let (f,first) <-RX [ov] (R3 ov m pl)
   VC pos f first (M4 pos (K7 (e::es) X.env)) (Pl pos (NT [] X.env)))) w4):
  EvK X H0 O0 ps (.Call (.Attribute (.Name x p) m WI) (e::es) [] pos) u (ps.set i (some (.dsk true C a d XS))):=
 PE.mono (xK (fe hN hv hd W0) J L F U c .nil E ha Xd WX ht) λσ H Q z9=>by
  obtain⟨O,R,q⟩:=z9;obtain⟨v,M,t,kv,rfl,D,g4,B,P,Z⟩:=R.at_ i _ n;refine⟨_,M,a,t,_,rfl,B,by rw[OH,YJ];rfl,O,R,λo W s r=>?_⟩;have l:d ∉ O.filter (λb=>decide (b≠d)):=λz=>by have:=(LW.mp z).2;simp at this
  have sub:∀b∈d::O.filter (λb=>decide (b≠d)),b∈O:=λb c=>by
   rcases KO.mp c with y |y
   .subst y;exact D
   .exact (LW.mp y).1
  have j:∀b∈O,b∈d::O.filter (λb=>decide (b≠d)):=λb c=>by
   by_cases e:b=d
   .subst e;exact K0
   .exact KN _ (LW.mpr ⟨c,decide_eq_true e⟩)
  show spD X.K true C WJ (V.ref a::(o++[])) W Q E0;rw[Nj];refine⟨a,t,d,kv,WB,o,us,O.filter (λb=>decide (b≠d)),.dsk d u XS,rfl,s _ _ B,s _ _ P,λb c=>(R.go s).dom b (LW.mp c).1,λ_=>l,(Z.same (aN s)).same (bI sub),r.same (bI sub),h,λv T G Y g S I=>?_⟩;exact q v G O ((R.go s).dsk2 n (xA h1) Y g (S.same (bI j))) (I.same (bI j))
theorem FL(h:Tt X H0 O0 ps e c):TtK X H0 O0 ps e c ps:=PT.mono h λb H Q ⟨O,R,q⟩=>⟨O,R,λa s=>q a O (R.go s)⟩
theorem B1(h:OpS X (LX op) u z (.bl c))(m:EvK X H0 O0 ps e u X1)(l:Ev X H0 O0 X1 b z)(i:autoParam (NJ op b=false) q5):TtK X H0 O0 ps (.Compare e [op] [b] pos) c X1:=
 PT.mono (x_ h m l i) λo H Q ⟨O,R,q⟩=>⟨O,R,λv n f d k=>⟨f,d,λw g a j=>⟨(k.same (aN a)).out,j.out,_,rfl,q g f (d.go a)⟩⟩⟩
theorem TwK.t(h:TwK X H0 O0 ps e c X1):TtK X H0 O0 ps e c X1:=h.pt
theorem A7(h:TtK X H0 O0 ps e c X1):TwK X H0 O0 ps (.BoolOp .Or [e] pos) c X1:=BG h
theorem FR(d:TtK X H0 O0 ps e false X1)(f:TwK X H0 O0 X1 (.BoolOp .Or (b::rest) pos) c X7):TwK X H0 O0 ps (.BoolOp .Or (e::b::rest) pos) c X7:=
 PW.mono (Cq d f) λi H Q ⟨O,R,q⟩=>⟨O,R,λh a g=>by exact lC ⟨a,g,q⟩⟩
theorem Gb(c:TtK X H0 O0 ps e false X1)(h:Ws X H0 O0 E fb D X1):W1 X H0 O0 E (.If e tb fb pos) D ps:=
 PS.mono (CU c (λ_ _ _ _ _ _ h=>h.elim) h (t:=λ_ _ _=>False)) λd g H ⟨L,O,R⟩=>⟨O,R,λf a b=>lC ⟨L,a,b⟩⟩
theorem DQ(k:X1[i]?=some (some (.dsk w C a d WB)))(l:EvK X H0 O0 ps e u X1)(h:D.rt (.dsk d u WB)):W1 X H0 O0 E (.Return (some e) pos) D ps:=
 PS.mono (m7 l) λx B H ⟨L,O,R⟩=>⟨O,R,λv o g f r=>by
  obtain⟨z,s,t,q,rfl,j,A,F,m,p⟩:=f.at_ i _ k
  have c:∀b∈d::O0,b∈g:=λb n=>by
   rcases KO.mp n with y |y
   .subst y;exact j
   .exact f.old b y
  exact L.rt _ h v q o f.same m (p.same (bI c)) (r.same (bI c))⟩
end
def spI(C:Lm):Sp:=λc H Q _=>∃a b,c=[.ref a]∧H a=some (.ins C b [])∧∀d,H d=none→Q .non (upd (upd H d (.dK [])) a (.ins C b [("lands",.ref d)]))
section
variable {P:Lg}{w:LL}{K:KM}{mg:Str→Option K3}{base:Nh}{N:List Str}{WD nm sf:Str}{f C:Lm}{p1 p2 p3 p4:Pos}
theorem Ft{b:Nz}(F:Fun K nm WD b f fd)(S:ar N pn (ai b))(o:N[0]?=some sf)(i:pn.length=1)(e:bq b=[.Assign [.Attribute (.Name sf p1) "lands" p2] (.Dict [] [] p3) p4])(m:Cls K C)(r:gy K C "lands")
  (hv:(ai b).names.lookup sf=some .local) (hd:autoParam ((sf==("__debug__":Str))=false) v0) (W0:autoParam ((sf==("__classdict__":Str))=false) v0):cF P w K mg base (CXF P w) (k+1) f fd pn (spI C):=by
 refine F.okF S (λn H Q E h=>?_) λp A c s H n Q E t h=>?_
 .obtain⟨a,j,rfl,_⟩:=h;rw[i];rfl
 .obtain⟨a,j,rfl,g,q⟩:=h;rw[e];refine⟨_,DE (HC (fe o (.inl hv) hd W0) AG rfl),?_⟩;intro d l;refine⟨.ref a,rfl,a,C,j,[],rfl,?_,m,r,by decide,q d l⟩;rw[aI λz=>by rw[z,l]at g;cases g];exact g
end
section
variable {X:Cx}{H0:Hp}{O0:List Lm}{E:XK}{ps:PSt}{D:PD}{pos p p' WC:Pos}{x nm:Str}{C f:Lm}{i k:Nat}{fd:Ng}{CX:CXT}
theorem Rs.newdsk{K:KM}(R:Rs K H0 O0 ps σ H O)(e:aT H H')(n:H d=none)(T:H' a=some (.ins C dx [("lands",.ref d)]))(h:H' d=some (.dK [])):
  Rs K H0 O0 (ps.set i (some (.dsk true C a d []))) (σ.set i (some (.ref a))) H' (d::O):=by
 have N:d ∉ O:=λz=>R.dom d z n;have m:d ∉ O0:=λz=>N (R.old d z);have G:=R.same.free n;refine⟨R.same.trans e,λb f=>KN _ (R.old b f),λb f=>?_,λb f z=>?_,by simp[R.len],λj s q=>?_,λj k B S b A c F D=>?_⟩
 .rcases KO.mp f with y |y
  .subst y;exact .inr G
  .exact R.new b y
 .rcases KO.mp f with y |y
  .subst y;rw[h]at z;cases z
  .exact R.dom b y (e.free z)
 .rcases b9 q with ⟨J,v⟩ |⟨I,v⟩
  .subst J;cases v;have E:=aK q;rw[OS]at E;exact⟨.ref a,hU (by rw[R.len];exact E),dx,[],rfl,K0,λ_=>m,T,h,DkR.nil⟩
  .obtain⟨w,A,c⟩:=R.at_ j s v;refine⟨w,by rw[Lw I];exact A,?_⟩;cases s with
   |val u=>exact Rp.same (bu e n) c
   |own B=>
    obtain⟨b,M,g,x,r,t,o⟩:=c;exact⟨b,M,g,KN _ x,r,e _ _ t,o.same (bu e n)⟩
   |pin z u=>exact⟨c.1,Rp.same (bu e n) c.2⟩
   |dsk w C b d V=>obtain⟨dx,U,g,x,r,t,o,P⟩:=c;exact⟨dx,U,g,KN _ x,r,e _ _ t,e _ _ o,P.same (bu e n)⟩
 .rcases b9 A with ⟨_,p⟩ |⟨L,p⟩
  .cases p
  .rcases b9 c with ⟨_,l⟩ |⟨Q,l⟩
   .cases l
   .rw[Lw L]at F;rw[Lw Q]at D;exact R.inj j k B S b p l F D
theorem GK(M:Mk X.K C f)(F:cF X.prog X.w X.K X.mg X.base CX k f fd pn (spI C))(v:cB (k+1) X.A)(P:Gl X nm)(t:X.mg nm=some (.ref C))(y:cJ X.K fd pn [])(q:eE CX X E0)(B:X.N.Nodup)(G:X.N[i]?=some x)(r:Loc X.env.scope x)
  (h:∀a d,D.nx (ps.set i (some (.dsk true C a d [])))) (W2:autoParam ((nm==("__debug__":Str))=false) v0) (hs:autoParam (NX (.Call (.Name nm p) [] [] WC) (some (.Name x p')) pos.line X.env=pure false) w4)
  (hf:autoParam (X.fn x=true\/X.env.scope.names.lookup x=some .local) q0):W1 X H0 O0 E (.Assign [.Name x p'] (.Call (.Name nm p) [] [] WC) pos) D ps:=
 PS.mono (v6 B G r (CV M F v P t y .nil q W2) hs hf) λS T H I=>by
  obtain⟨L,O,R⟩:=I;intro a j J l Q;refine⟨a,j,rfl,aH,λd c=>⟨rfl,?_⟩⟩;have n:d≠a:=λz=>by rw[z,aH]at c;cases c
  rw[aI n]at c;have g:d≠j:=λz=>by rw[z,aH]at c;cases c
  rw[aI g]at c;refine L.nx _ _ _ (d::O) (R.newdsk (λb o e=>?_) c aH (by rw[aI n];exact aH)) (h a d)
  have m:b≠a:=λz=>by rw[z,J]at e;cases e
  have u:b≠d:=λz=>by rw[z,c]at e;cases e
  have s:b≠j:=λz=>by rw[z,l]at e;cases e
  rw[aI m,aI u,aI m,aI s];exact e
end
def sB(X:Cx)(d:Lm)(vs:List (Str×K3)):Prop:=(d==Ox)=false/\∀h:Nh,X.K.In h->h.DictOf (strKind X.prog X.w) d vs
section
variable {X:Cx}{H0:Hp}{O0:List Lm}{ps:PSt}{e i:Expr}{pos p:Pos}{u:U}{n nm t:Str}{d:Lm}{vs:List (Str×K3)}{tk:Tok}{ty:TE}
theorem FK{t:Tok}:(strKind X.prog X.w).is x (.str x t)=true:=by show Rj x (.str x t)=true;simp[Rj]
theorem EQ(f:sB X d vs)(x:Gl X nm)(j:X.mg nm=some (.ref d))(q:PE X i ty)(hs:zq i)(o:autoParam ((nm==("__debug__":Str))=false) v0):PE X (.Subscript (.Name nm p) i pos) λb H Q=>ty b H λy a=>∃n v e,y=.str n∧Qc vs n=some e∧aR v e∧Q v a:=by
 intro k s b H Q I h;refine xZ Q3.lookup hs (j4 I x j (thn (q k s b H _ I h) λA z u=>?_) o);obtain⟨y,a,c,r,n,v,e,w,l,g,m⟩:=u;subst w;obtain⟨t,rfl⟩:=r;exact⟨(f.2 _ c.kIn).typeIs,UD FK (f.2 _ c.kIn).mapOf l ⟨v,a,c.tok _,g,m⟩⟩
theorem Ei(e:sB X d vs)(q:Gl X nm)(f:X.mg nm=some (.ref d))(l:PE X i ty)(k:autoParam ((nm==("__debug__":Str))=false) v0):PC X .NotIn i (.Name nm p) λb H Q=>ty b H λy a=>∃n,y=.str n∧Q (.bl (!(Qc vs n).isSome)) a:=by
 intro g s b H Q I h;refine thn (l g s b H _ I h) λu r ⟨y,a,c,m,n,o,j⟩=>j4 c q f ?_ k;subst o;obtain⟨t,rfl⟩:=m;exact Vk FK e.1 (e.2 _ c.kIn).mapOf ⟨.bl _,a,c.tok _,rfl,j⟩
theorem GB(h:sB X d vs)(b:Gl X nm)(f:X.mg nm=some (.ref d))(i:Ev X H0 O0 ps e (.str n))(g:Qc vs n=some (.str t tk))(hs:autoParam (zq e) q7)(a:autoParam ((nm==("__debug__":Str))=false) v0):Ev X H0 O0 ps (.Subscript (.Name nm p) e pos) (.str t):=
 PE.mono (EQ h b f i hs a) λj H Q ⟨O,R,q⟩=>⟨O,R,λv c s r=>by
  cases r;exact⟨n,.str t,_,rfl,g,⟨tk,rfl⟩,q _ c s (.str t)⟩⟩
theorem Go(g:sB X d vs)(b:Gl X nm)(f:X.mg nm=some (.ref d))(h:Ev X H0 O0 ps e (.str n))(a:autoParam ((nm==("__debug__":Str))=false) v0)(i:autoParam (NJ .NotIn (.Name nm p)=false) q5):Tt X H0 O0 ps (.Compare e [.NotIn] [.Name nm p] pos) (!(Qc vs n).isSome):=
 PT.mono (BA (Ei g b f h a) i) λj H Q ⟨O,R,q⟩=>⟨O,R,λv c s r=>by
  cases r;exact⟨n,rfl,_,rfl,q c s⟩⟩
end
theorem F5:OpS X (LX .LtE) (.str x) (.str y) (.bl (!decide (y.cps.toList<x.cps.toList))):=by
 intro f s g H v w p q Q I b a h;obtain⟨e,c,d⟩:=h;cases e;cases c;obtain⟨t,rfl⟩:=b;obtain⟨i,rfl⟩:=a;exact PySem.P.le_str ⟨.bl _,H,I,rfl,d⟩
section
variable {X:Cx}{H0:Hp}{O0:List Lm}{ps:PSt}{a:Expr}{x:Str}{WI WC:Pos}
theorem y9:MtR X "str.split" (λv f H Q=>∃x,v=.str x∧f=[]∧x.length≤sizeLine∧(Builtin.Str.spaceWords x (x.length+1)).length≤sizeLine∧∀p,H p=none→Q (.ref p) (upd H p (.lst ((Txt.words x).map V.str)))):=by
 intro j s y H v f u B Q I r n h;obtain⟨x,rfl,rfl,A,a,q⟩:=h;obtain⟨t,rfl⟩:=r;cases n;have k:=I.hok.fresh (K1 s.heap.objs.size)
 have d:(Txt.words x).length<=sizeLine:=by
  unfold Txt.words;split
  .exact show 1<=sizeLine by decide
  .unfold wordsOf;rw[KI];exact a
 have i:∀l g,l.map (·.1)=Txt.words x→EP X j y Q (.ref s.heap.objs.size) {s with heap:=s.heap.push {cls:=.type "list",data:=.seq (Su l).toArray },toks:=g }:=λl g m=>
  ⟨.ref s.heap.objs.size,_,I.laid (λb o z=>KU _ z) (K1 _) (show bR X.prog X.w _ _ _ (.lst ((Txt.words x).map V.str)) from ⟨by rw[KI];exact d,Su l,_,by rw[<-m];exact kh l,Le s.heap rfl⟩),rfl,q _ k⟩
 refine O_ Nw rfl OG (PySem.F.args_str_split_1 ..) (meets_str_split_space x t A a) ?_;by_cases c:(Builtin.Str.spaceWords x (x.length+1)==[(0,x.length)])=true
 .rw[if_pos c];exact i [(x,t)] s.toks (if_pos c).symm
 .rw[if_neg c];have e:Txt.words x=wordsOf x:=if_neg c;rw[<-e,strsFrom_eq];exact i (numbered s.toks (Txt.words x)) _ (Vj _ _)
theorem sO(i:Ev X H0 O0 ps a (.str x))(f:x.length≤sizeLine)(b:(Builtin.Str.spaceWords x (x.length+1)).length≤sizeLine)(g:autoParam (MC a "split" X.env (Nq a X.env)=Nq a X.env) w4)(h:autoParam ((WI.endLine==WC.line)=true) w4):
  EvN X H0 O0 ps (.Call (.Attribute a "split" WI) [] [] WC) ((Txt.words x).map U.str):=
 PE.mono (B7 Oc Nw RT y9 i g h) λk H Q ⟨O,R,q⟩=>⟨O,R,λv j d e=>by
  cases e;exact⟨rfl,x,rfl,rfl,f,b,λp c=>q p _ _ (d.trans (aO c _)) (d.free c) aH (tT _)⟩⟩
end
noncomputable def Kb(K:KM)(c d:Lm):It:=
 ⟨λi H=>∃a b x y,SqL K H c a/\SqL K H d b/\a[i]?=some x/\b[i]?=some y,
  λi H u e=>∃p x y,u=.ref p/\H p=none/\e=upd H p (.tup [x,y])/\(∀a,SqL K H c a->a[i]?=some x)/\(∀b,SqL K H d b->b[i]?=some y),
  λi H=>∃a b,SqL K H c a/\SqL K H d b/\a.length<=i⟩
theorem E5{P:Lg}{w:LL}{K:KM}{es:List Expr}{ctx pos}(z A B u F Z V:Lm)(D:UK z A B u F Z V):
  vL P w K (.Tuple es ctx pos) (Kb K Z V) [z,A,B,u,F] z (λi h=>IsZip h z A B .none/\Vy h A (.ref u) (.ref F)/\(∃a b,Vy h B a b)/\h.IsListIter u Z i/\h.IsListIter F V i) where
 mem:=by simp
 obj:=λi h j b L=>by
  obtain⟨f,g,⟨a,c,r⟩,t,p⟩:=j
  have J:∀{G l k},h.IsListIter G l k->∃o,h.get? G=some o/\∀v,o.data≠.cell v:=λq=>by
   obtain⟨o,e,_,d⟩:=q;exact⟨o,e,λv z=>by rw[d]at z;cases z⟩
  simp only[KO,Ly,or_false]at L;rcases L with e |e |e |e |e <;>subst e
  .exact⟨_,f,λv z=>by cases z⟩
  .exact⟨_,g,λv z=>by cases z⟩
  .exact⟨_,r,λv z=>by cases z⟩
  .exact J t
  .exact J p
 keep:=λi h h' j k=>by
  obtain⟨f,g,⟨a,c,r⟩,t,p⟩:=j;exact⟨k z (by simp) _ f,k A (by simp) _ g,⟨a,c,k B (by simp) _ r⟩,t.at λo e=>k u (by simp) o e,p.at λo e=>k F (by simp) o e⟩
 item:=by
  intro X hP hw hK hc i Wz s σ H E I R j U;subst hP hw hK;obtain⟨f,g,⟨a,b,r⟩,t,p⟩:=j;obtain⟨xs,ys,x,y,O,N,S,e2⟩:=U;obtain⟨n1,Y,p1,_⟩:=I.list O;obtain⟨n2,r2,T,_⟩:=I.list N;obtain⟨u1,k1,t1⟩:=Y.get S;obtain⟨u2,k2,t2⟩:=r2.get e2;refine Sj D f g r t p p1.isList T.isList (by simpa using k1) (by simpa using k2) λh' a1 a2 a3 a4 a5 a6 Q=>?_;refine⟨_,rfl,?_⟩;refine wpAny_letOwnedTupleGo_zip a1 λhN b1 W=>?_;have nz:=Pw (Lc f);have tri:=(W.2 _ nz).trans a5;have fresh:=I.hok.fresh (K1 _)
  have nf:s.heap.objs.size ∉ [z,A,B,u,F]:=λL=>by
   have m:∀{d o},s.heap.get? d=some o->s.heap.objs.size≠d:=λe=>Pw (Lc e);have J:∀{G l k},s.heap.IsListIter G l k->s.heap.objs.size≠G:=λq=>by obtain⟨o,e,_⟩:=q;exact m e
   simp only[KO,Ly,or_false]at L;rcases L with e |e |e |e |e
   .exact m f e
   .exact m g e
   .exact m r e
   .exact J t e
   .exact J p e
  refine⟨.ref s.heap.objs.size,upd H s.heap.objs.size (.tup [x,y]),yq (s:=s) I R (λd o C e=>?_) (K1 _) ⟨by show 2<=sizeLine;decide,[u1,u2],.cons t1 (.cons t2 .nil),⟨_,tri,rfl,_,rfl⟩⟩,rfl,
   ⟨_,x,y,rfl,fresh,rfl,λzs q=>by rw[I.list_inj q O];exact S,λzs q=>by rw[I.list_inj q N];exact e2⟩,?_,λd C=>?_⟩
  .simp only[KO,Ly,or_false,not_or]at C;obtain⟨d1,d2,d3,d4,d5⟩:=C;exact (W.2 d d1).trans (Q d o d1 d3 d4 d5 e)
  .have M:∀d o,d≠z->h'.get? d=some o->hN.get? d=some o:=λd o n e=>(W.2 d n).trans e;exact⟨b1,M _ _ D.TIz (Q _ _ D.TIz D.TITO D.TIi1 D.TIi2 g),⟨_,_,M _ _ D.TOz a2⟩,a3.at λo e=>M _ o D.i1z e,a4.at λo e=>M _ o D.i2z e⟩
  .rw[aI λe=>nf (by rw[<-e];exact C)];exact (R d C).1
 done:=by
  intro X hP hw hK hc i Wz s σ H E I R j U;subst hP hw hK;obtain⟨f,g,⟨a,b,r⟩,t,p⟩:=j;obtain⟨xs,ys,O,N,hl⟩:=U;obtain⟨n1,Y,p1,_⟩:=I.list O;obtain⟨n2,r2,T,_⟩:=I.list N;have S:=Y.length;refine Qu (I.ok.hd hc) D f g r t p p1.isList T.isList (.inl (by simp;lia)) λh' Q=>⟨rfl,xz I R λd o C e=>?_⟩
  exact Q d o (by simp_all) (by simp_all) (by simp_all) (by simp_all) e
 self:=λ_ _ _ _ _ j h=>RK j.1 h
section
variable {X:Cx}{H0:Hp}{O0:List Lm}{E:XK}{ps:PSt}{D:PD}{WW:List Nz}{e f g tg iter:Expr}{es:List Expr}{p pos:Pos}{x y z:U}{xs ys zs us:List U}
def dw:List U->List U->List U
 |x::xs,y::ys=>.tup [x,y]::dw xs ys
 |_,_=>[]
theorem pF:∀{xs ys},xs.length=ys.length->(dw xs ys).length=xs.length
 |[],_,_=>by simp[dw]
 |_::xs,_::ys,h1=>by simp only[dw,Lk]at *;rw[pF (by lia)]
theorem uc:∀{xs ys}{i:Nat}{a b},xs[i]?=some a->ys[i]?=some b->(dw xs ys)[i]?=some (.tup [a,b])
 |_::xs,_::ys,0,a,b,h1,h2=>by simp at h1 h2;simp[dw,h1,h2]
 |_::xs,_::ys,i+1,a,b,h1,h2=>by rw[MQ]at h1 h2;rw[dw,MQ];exact uc h1 h2
theorem l9{ctx tpos}(hg:Gl X "zip")(hm:X.mg "zip"=none)(ha:Ev X H0 O0 ps e x)(Z:x=.lst xs∨x=.scr xs)(hb:Ev X H0 O0 ps f y)(hy:y=.lst ys∨y=.scr ys)
  (l12:xs.length=ys.length) (he:K7 [e,f] X.env=(false,Nq e X.env)::K7 [f] X.env) (hf:K7 [f] X.env=(false,Nq f X.env)::K7 [] X.env):
  EvZ X H0 O0 ps (.Tuple es ctx tpos) (.Call (.Name "zip" p) [e,f] [] pos) (dw xs ys):=by
 rintro Wz s σ H Q I ⟨O,R,q⟩;refine Ml (dj I hg hm tH ?_)
 refine callWith_type1 (thn (cx ha (cx hb dP hf) he pos Wz s σ H (λU h=>∃v u,U=[v,u]/\aT H h/\Rp X.K (hid h O) v x/\Rp X.K (hid h O) u y) I
  ⟨O,R,λv h c r1=>⟨O,R.go c,λu w g r2=>⟨v,u,rfl,c.trans g,r1.same (aN g),r2⟩⟩⟩) λus c XX=>?_) he (by rw[hf];rfl)
 obtain⟨U,h,l,rv,v,u,rfl,sm,B,J⟩:=XX;obtain⟨w1,w2,rfl,E,F⟩:=jm rv;obtain⟨a,t,rfl,z,n⟩:=zT B Z;obtain⟨b,vb,rfl,r,k⟩:=zT J hy;cases E;cases F;obtain⟨ia,ra,m,hz1⟩:=l.list (aE.seq z);obtain⟨ib,rb,j,hz2⟩:=l.list (aE.seq r);have l1:=n.len;have l2:=k.len;have al:@LT.lt Nat instLTNat a c.heap.objs.size:=by obtain⟨o,L,_⟩:=m.isList;exact Lc L
 have bl:@LT.lt Nat instLTNat b c.heap.objs.size:=by obtain⟨o,L,_⟩:=j.isList;exact Lc L
 refine call_zip_2 m.isList j.isList λh' P g2 g3 g4 g5 g7 g8=>?_;have D:UK (c.heap.objs.size+4) (c.heap.objs.size+2) (c.heap.objs.size+3) c.heap.objs.size (c.heap.objs.size+1) a b:=by constructor <;>exact IA (by lia)
 refine RK P ?_;have I2:=l.kept (t':=c.toks) g8;refine⟨c.heap.objs.size+4,_,_,_,h,rfl,I2,E5 _ _ _ _ _ a b D,⟨P,g2,⟨_,_,g3⟩,g4,g5⟩,λd V=>?_,q _ h sm λw g=>?_⟩
 .have W:c.heap.objs.size<=d:=by
   simp only[KO,Ly,or_false]at V;rcases V with e |e |e |e |e <;>rw[e] <;>first |exact NU _ _ |exact K1 _
  exact l.fpOk W (l.hok.fresh W)
 .rw[pF l12];refine⟨λi hi=>?_,⟨t,vb,g.seq z,g.seq r,by lia⟩⟩;have h1:i<t.length:=by lia
  have h2:i<vb.length:=by lia
  refine⟨⟨t,vb,t[i],vb[i],g.seq z,g.seq r,KJ h1,KJ h2⟩,?_⟩;rintro _ H3 ⟨A,C,M,rfl,T,rfl,e1,e2⟩;have G:aT w (upd w A (.tup [C,M])):=aO T _;have S:xs[i]?=some (xs[i]'(by lia)):=KJ (by lia);have Y:ys[i]?=some (ys[i]'(by lia)):=KJ (by lia);refine⟨G,_,uc S Y,λO2 hO N=>?_⟩
  have all:Rps X.K (hid (upd w A (.tup [C,M])) O2) [C,M] [_,_]:=
   .cons ((n.at_ i _ _ (e1 _ (g.seq z)) S).same (N.trans (aN G))) (.cons ((k.at_ i _ _ (e2 _ (g.seq r)) Y).same (N.trans (aN G))) .nil)
  exact .tup (SqT.of (cZ aH λhp=>hO A hp T)) all.len all.at_
end
def Hh(a:Params)(e:Str×Tok×Str×Tok):DictEntry:={hash:=PyData.keyHash a e.1,key:=.str e.1 e.2.1,val:=.str e.2.2.1 e.2.2.2 }
def zt(w:LL)(K:KM)(d:Lm)(vs:List (Str×Str)):Prop:=
 (d==Ox)=false∧∃(a:List (Str×Tok×Str×Tok)) (n:Nat),vs=a.map (λe=>(e.1,e.2.2.1))∧(vs.map (·.1)).Nodup∧K.lookup d=some ⟨.type "dict",none,.dict (a.map (Hh w.params)).toArray n,#[]⟩
def ij(vs:List (Str×Str))(x:Str):Option Str:=(vs.find? λa=>decide (a.1=x)).map (·.2)
section
variable {X:Cx}{H0:Hp}{O0:List Lm}{ps:PSt}{e:Expr}{pos p:Pos}{n nm t:Str}{d:Lm}{vs:List (Str×Str)}
theorem oh:∀a:List (Str×Tok×Str×Tok),Pairs (strKind prog w) (a.map (Hh w.params)) (a.map λe=>(e.1,Qz e.2.2.1 e.2.2.2))
 |[]=>Pairs.nil
 |e::r=>Pairs.cons (strKind_is prog w e.1 e.2.1) rfl (oh r)
theorem zt.dict(h:zt X.w X.K d vs):∃b,sB X d b/\∀x,(∀t,ij vs x=some t->∃k,Qc b x=some (.str t k))/\(Qc b x).isSome=(ij vs x).isSome:=by
 obtain⟨l,a,m,rfl,c,g⟩:=h;refine⟨a.map λe=>(e.1,Qz e.2.2.1 e.2.2.2),⟨l,λh f=>?_⟩,λx=>?_⟩
 .refine Heap.dictOf_iff.mpr ⟨_,f _ _ g,(a.map (Hh X.w.params)).toArray,m,⟨rfl,rfl,rfl⟩,rfl,λe j=>?_,oh a,by rw[Lh]at c |-;exact c⟩;obtain⟨q,_,rfl⟩:=KZ.mp (List.mem_toArray.mp j);exact⟨q.1,strKind_is _ _ q.1 q.2.1,rfl⟩
 .clear c g
  induction a with
  |nil=>exact⟨λt h=>(by simp[ij]at h),rfl⟩
  |cons e r i=>
   unfold Qc ij at *;rw[Lb,Lb,NP,NP];by_cases z:e.1=x
   .simp only[z,decide_true];exact⟨λt h=>⟨e.2.2.2,by simp at h;simp[h]⟩,rfl⟩
   .simp only[z,decide_false];exact i
theorem FN(h:zt X.w X.K d vs)(c:Gl X nm)(f:X.mg nm=some (.ref d))(j:Ev X H0 O0 ps e (.str n))(g:ij vs n=some t)(hs:autoParam (zq e) q7)(a:autoParam ((nm==("__debug__":Str))=false) v0):Ev X H0 O0 ps (.Subscript (.Name nm p) e pos) (.str t):=by
 obtain⟨k,i,q⟩:=h.dict;obtain⟨l,b⟩:=(q n).1 t g;exact GB i c f j b hs a
theorem Ay(h:zt X.w X.K d vs)(b:Gl X nm)(c:X.mg nm=some (.ref d))(g:Ev X H0 O0 ps e (.str n))(a:autoParam ((nm==("__debug__":Str))=false) v0)(i:autoParam (NJ .NotIn (.Name nm p)=false) q5):Tt X H0 O0 ps (.Compare e [.NotIn] [.Name nm p] pos) (!(ij vs n).isSome):=by
 obtain⟨j,f,q⟩:=h.dict;rw[<-(q n).2];exact Go f b c g a i
end
theorem Dz(l:OpS X (LX op) x y (.bl k))(r:OpS X (LX Ye) y z (.bl m))(s:Ev X H0 O0 ps a x)(o:Ev X H0 O0 ps b y)(j:Ev X H0 O0 ps c z)
  (hm:autoParam (UQ [op,Ye] [b,c]=false) k0):Tt X H0 O0 ps (.Compare a [op,Ye] [b,c] pos) (k && m):=
 PT.mono (BR l r s o j hm) λu H Q ⟨O,R,q⟩=>⟨O,R,λv t e n=>⟨O,R.go e,λA h d f=>⟨(n.same (aN d)).out,f.out,k,rfl,by
  cases k with
  |false=>exact lC ⟨_,rfl,q h (e.trans d)⟩
  |true=>exact oM ⟨O,(R.go e).go d,λw p g i=>⟨(f.same (aN g)).out,i.out,_,rfl,q p ((e.trans d).trans g)⟩⟩⟩⟩⟩
theorem GR:OpS X (LX .NotIn) (.str x) (.str y) (.bl (!(!(Builtin.Str.occurrences y x 0 y.length 1).isEmpty))):=by
 intro f s g H v w p q Q I c b h;obtain⟨a,e,d⟩:=h;cases a;cases e;obtain⟨t,rfl⟩:=c;obtain⟨i,rfl⟩:=b;exact PyProof.Rows.notIn_str ⟨.bl _,H,I,rfl,d⟩
theorem jr(h:c=c')(t:TtK X H0 O0 ps e c X1):TtK X H0 O0 ps e c' X1:=h ▸ t
theorem p5(h:u=u')(t:Ev X H0 O0 ps e u):Ev X H0 O0 ps e u':=h ▸ t
end L2
namespace L2
open PySem PySem.Spec PySem.W PyProof.Rows
structure Dfn(K:KM)(mg:Str->Option K3)(x:Str)(st:Nz)(ps:List Str) where
 a:Lm
 d:Ng
 F:Fun K x x st a d
 b:cJ K d ps []
 m:mg x=some (.ref a)
structure DfD(K:KM)(mg:Str->Option K3)(x:Str)(st:Nz)(ps:List Str)(j:Int) where
 a:Lm
 d:Ng
 D:Lm
 F:AC K x x st a d D
 b:cJ K d ps []
 bd:∃t,cJ K d ps [.int j t]
 m:mg x=some (.ref a)
structure MDf(K:KM)(C:Lm)(x q:Str)(st:Nz)(ps:List Str) where
 a:Lm
 d:Ng
 F:Fun K x q st a d
 b:cJ K d ps []
 m:Df K C x a
structure IDf(K:KM)(C:Lm)(x q:Str)(st:Nz)(ps:List Str) where
 a:Lm
 d:Ng
 F:Fun K x q st a d
 b:cJ K d ps []
 m:Mk K C a
structure Exn(mg:Str->Option K3)(x:Str) where
 c:Lm
 m:mg x=some (.ref c)
abbrev v7(x q:Str)(b:Nz)(d:List Str):Prop:=∀(kV f e:K3) (h:Option Lm) (a g:K3) (c:List K3),c.length=d.length->Qg (fnOf x q (cf b) (bq b) (ai b) .none kV f e h a g) ⟨c,[]⟩=pure (d.zip c)
section
variable {K:KM}{h:Nh}{mg:Str→Option K3}{x q:Str}{st:Nz}{ps:List Str}{f C D:Lm}{j:Int}{oc:K3}{od an:Option Lm}{kV dc pm cd ct:K3}{sl:Array (Option K3)}{x1 x2 x3 t:_}
noncomputable def dfn(X:K.In h)(G:h.Ns Mi mg)(b:v7 x x st ps)(a:nsIn K Mi x=some (some (.ref f)))(l:K.lookup f=some ⟨oc,od,.func (fnOf x x (cf st) (bq st) (ai st) .none kV dc pm an cd ct),sl⟩)(c:codeIn K cd x=true)(k:keepIn K (.ref f)=true):Dfn K mg x st ps:=⟨f,_,kq l c k,(kq l c k).binds b,mg_of X G a⟩
noncomputable def dfD(X:K.In h)(G:h.Ns Mi mg)(b:K.lookup D=some ⟨.type "tuple",x1,.seq #[.int j t] x2,x3⟩→∀(kV dc pm:K3) (an:Option Lm) (cd ct:K3),cJ K (fnOf x x (cf st) (bq st) (ai st) (.ref D) kV dc pm an cd ct) ps []∧∃t,cJ K (fnOf x x (cf st) (bq st) (ai st) (.ref D) kV dc pm an cd ct) ps [.int j t])(a:nsIn K Mi x=some (some (.ref f)))(l:K.lookup f=some ⟨oc,od,.func (fnOf x x (cf st) (bq st) (ai st) (.ref D) kV dc pm an cd ct),sl⟩)(c:codeIn K cd x=true)(k:keepIn K (.ref f)=true)(q:K.lookup D=some ⟨.type "tuple",x1,.seq #[.int j t] x2,x3⟩):DfD K mg x st ps j:=⟨f,_,D,EC l c k,(b q kV dc pm an cd ct).1,(b q kV dc pm an cd ct).2,mg_of X G a⟩
noncomputable def mdf(b:v7 x q st ps)(a:findIn K (.ref C) x=some (some (.ref f)))(l:K.lookup f=some ⟨oc,od,.func (fnOf x q (cf st) (bq st) (ai st) .none kV dc pm an cd ct),sl⟩)(c:codeIn K cd q=true)(k:keepIn K (.ref f)=true)(n:isFn K (.ref f)=true):MDf K C x q st ps:=⟨f,_,kq l c k,(kq l c k).binds b,⟨a,n,k⟩⟩
noncomputable def idf(d:v7 "__init__" q st ps)(a:findIn K (.ref C) "__init__"=some (some (.ref f)))(l:K.lookup f=some ⟨oc,od,.func (fnOf "__init__" q (cf st) (bq st) (ai st) .none kV dc pm an cd ct),sl⟩)(c:codeIn K cd q=true)(k:keepIn K (.ref f)=true)(n:isFn K (.ref f)=true)(b:makesIn K C=true)(ch:keepIn K (.ref C)=true):IDf K C "__init__" q st ps:=⟨f,_,kq l c k,(kq l c k).binds d,⟨b,a,n,ch⟩⟩
def exn(X:K.In h)(G:h.Ns Mi mg)(a:nsIn K Mi x=some (some (.ref f))):Exn mg x:=⟨f,mg_of X G a⟩
theorem c_m(X:K.In h)(G:h.Ns Mi mg)(a:nsIn K Mi x=some (some (.ref f))):mg x=some (.ref f):=mg_of X G a
theorem g_i(X:K.In h)(G:h.Ns Mi mg)(a:nsIn K Mi x=some (some (.int j t))):∃t,mg x=some (.int j t):=⟨t,mg_of X G a⟩
theorem g_s(X:K.In h)(G:h.Ns Mi mg)(a:nsIn K Mi x=some (some (.str q t))):∃t,mg x=some (.str q t):=⟨t,mg_of X G a⟩
end
end L2
namespace SG
open PySem PySem.W PySem.Calls PyProof.Rows ST
abbrev rfs{α:Type}(pb:List (α×Lm)):List K3:=pb.map λp=>LQ p.2
structure Ky(α:Type) where
 lt:α->α->Bool
 tr:∀{a b c:α},lt a b=true->lt b c=true->lt a c=true
 tot:∀{a b:α},a≠b->lt a b=false->lt b a=true
 asy:∀{a b:α},lt a b=true->lt b a=false
 is:Lg->LL->Nh->α->Lm->Prop
 kd:UL
 grow:∀{prog:Lg}{w:LL}{h h':Nh}{a:α}{b:Lm},is prog w h a b→(∀b o,o.cls=.type "tuple"→h.get? b=some o→h'.get? b=some o)→is prog w h' a b
 ask:∀{prog:Lg}{w:LL}{A:L7}{E:K3->K8->Prop}{s:K8}{x y:Lm}{a b:α}{Q:Bool->K8->Prop},A.units+1<NZ->is prog w s.heap a x->is prog w s.heap b y->Q (lt a b) s->LH (LM prog w) A (keyLt' kd (.ref x) (.ref y)) Q E s
 kind:∀{prog:Lg}{w:LL}{A:L7}{E:K3->K8->Prop}{s:K8}{pb:List (α×Lm)}{Q:UL->K8->Prop},(∀p∈pb,is prog w s.heap p.1 p.2)->0<pb.length->Q kd s->LH (LM prog w) A (VL (rfs pb).toArray) Q E s
section
variable {α:Type} [DecidableEq α] (S:Ky α)
def ins(x:α):List α->List α
 |[]=>[x]
 |y::r=>if x=y then y::r else if S.lt x y=true then x::y::r else y::ins x r
def srt(l:List α):List α:=l.foldr (ins S) []
theorem ins_mem(x z:α):∀l,z∈ins S x l↔z=x\/z∈l
 |[]=>by simp[ins]
 |y::r=>by
  unfold ins;split
  .rename_i h;subst h;simp
  .split
   .simp
   .rw[KO,ins_mem x z r,KO];grind
abbrev Asc(l:List α):Prop:=l.Pairwise (λx y=>S.lt x y=true)
theorem ins_asc(x:α):∀l,Asc S l->Asc S (ins S x l)
 |[],_=>by simp[ins]
 |y::r,h=>by
  unfold ins;split
  .exact h
  .rename_i f
   obtain⟨c,d⟩:=Lu.mp h;split
   .rename_i a
    refine Lu.mpr ⟨λz b=>?_,h⟩;rcases KO.mp b with e |e
    .rw[e];exact a
    .exact S.tr a (c z e)
   .rename_i a
    refine Lu.mpr ⟨λz b=>?_,ins_asc x r d⟩;rcases (ins_mem S x z r).mp b with e |e
    .rw[e];exact S.tot f (by simpa using a)
    .exact c z e
theorem srt_mem(z:α):∀l,z∈srt S l↔z∈l
 |[]=>by simp[srt]
 |y::r=>by
  show z∈ins S y (srt S r)↔_;rw[ins_mem,srt_mem z r,KO]
theorem srt_asc:∀l,Asc S (srt S l)
 |[]=>Pa
 |y::r=>ins_asc S y (srt S r) (srt_asc r)
end
section
variable {α:Type} (S:Ky α) {prog:Lg}{w:LL}{A:L7}{E:K3→K8→Prop}{s:K8}
theorem irr(a:α):S.lt a a=false:=by
 cases h:S.lt a a with
 |false=>rfl
 |true=>rw[S.asy h]at h;cases h
theorem asc_one:∀{l m:List α},Asc S l->Asc S m->(∀z,z∈l↔z∈m)->l=m
 |[],[],_,_,_=>rfl
 |[],y::r,_,_,h=>by have:=(h y).mpr K0;simp at this
 |x::l,[],_,_,h=>by have:=(h x).mp K0;simp at this
 |x::l,y::m,hl,hm,h=>by
  obtain⟨d,g⟩:=Lu.mp hl;obtain⟨c,f⟩:=Lu.mp hm
  have e:x=y:=by
   rcases KO.mp ((h x).mp K0) with z |z
   .exact z
   .rcases KO.mp ((h y).mpr K0) with b |b
    .exact b.symm
    .have:=S.asy (c x z);rw[d y b]at this;cases this
  subst e;congr 1;refine asc_one g f λz=>⟨λa=>?_,λa=>?_⟩
  .rcases KO.mp ((h z).mp (KN _ a)) with e |e
   .have:=d z a;rw[e,irr]at this;cases this
   .exact e
  .rcases KO.mp ((h z).mpr (KN _ a)) with e |e
   .have:=c z a;rw[e,irr]at this;cases this
   .exact e
theorem Fk(pb)(b:α×Lm):(LP pb.length).map (λi=>pb.getD i b)=pb:=by
 apply List.ext_getElem
 .simp
 .intro i a c;simp at a;simp[a]
include S
theorem sort_g{a:Lm}{pb:List (α×Lm)}{n:Nat}{P:PySem.Fin→K8→Prop}(K:s.heap.get? a=some (Ts "list" (rfs pb).toArray n))(XC:∀p∈pb,S.is prog w s.heap p.1 p.2)(hu:A.units+1<NZ)(m:α×Lm)(Yb:(pb.map (·.1)).Nodup)(h64:pb.length<64)
  (h:∀Xl:List (α×Lm),Xl.Perm pb->(Xl.map (·.1)).Pairwise (λx y=>S.lt x y=true)->P (.done (.ret .none)) {s with heap:=sortedHeap s.heap a (rfs pb) (rfs Xl).toArray }):
  LH (LM prog w) A (Builtin.«list.sort» ⟨[.ref a],[]⟩) P E s:=by
 have D:(rfs pb).length=pb.length:=by simp
 have d:(rfs pb).toArray.size=pb.length:=by simp
 rw[list_sort_plain];have ha:=Lc K;refine KL (listItems_at K rfl (KL (Tu K rfl ?_ (by rw[d,MA];lia) (Mm _))));obtain⟨e1,V⟩:∃e1,(s.heap.update a (NB λ_=>(#[]:Array K3))).get? a=some (Ts "list" #[] e1):=⟨_,get?_update_seq K (λ_=>#[])⟩
 refine KL (U4 V rfl (KL (Vi ?_ (by show (rfs pb).length<=_;rw[D,MA];lia))));refine KL (Tv ?_ (Mm _));refine MS ?_;generalize hh6:((s.heap.update a (NB λ_=>(#[]:Array K3))).push (Ts "tuple" (rfs pb).toArray 0)).push (Ts "list" #[] 0)=u
 have N:∀b o,b≠a->s.heap.get? b=some o->u.get? b=some o:=λb o hb e=>by
  rw[<-hh6];exact KU _ (KU _ ((LZ _ _ (Ne.symm hb)).trans e))
 have B:u.get? a=some (Ts "list" #[] e1):=by rw[←hh6];exact KU _ (KU _ V)
 have G:∀p∈pb,S.is prog w u p.1 p.2:=λp hp=>by
  refine S.grow (XC p hp) λb o hc e=>N b o (λz=>?_) e;rw[z,K]at e;cases e;exact absurd hc (by show ¬ (N3 "list"=N3 "tuple");decide)
 have WT:∀Xl:List (α×Lm),Xl.Perm pb->(Xl.map (·.1)).Pairwise (λx y=>S.lt x y=true)->P (.done (.ret .none)) {s with heap:=u.update a (NB λ_=>(rfs Xl).toArray) }:=λXl p1 p2=>by
  rw[<-hh6];exact h Xl p1 p2
 dsimp only;by_cases F:(rfs pb).toArray.size<2
 .rw[if_pos F,if_pos F];refine KL (KY ?_);rw[StateT.run_pure];refine KL (KY ?_);dsimp only
  have X:(arrOf (SortSt.mk' general' ((rfs pb).toArray.zip (rfs pb).toArray) #[] 7 none)).map (·.2)=(rfs pb).toArray:=by
   apply RJ.mp
   have J:∀l:List K3,(l.zip l).map (·.2)=l:=λl=>by
    induction l with
    |nil=>rfl
    |cons x r ih=>rw[Np,Lb,ih]
   rw[Uw,Array.toList_zip];exact J _
  rw[X];refine KL (U4 B rfl (KL (Tu B rfl ?_ (Mm _) (by rw[d,MA];lia))));rw[if_neg (by simp)];refine KY (WT pb (SY _) ?_)
  match pb,d,F with
  |[],_,_=>simp
  |[_],_,_=>simp
  |_::_::r,d,F=>rw[d]at F;exact absurd F (by simp)
 .rw[if_neg F,if_neg F];rw[d]at F;have h2':2<=(rfs pb).length:=by rw[D];lia
  refine KL (S.kind (s:={s with heap:=u }) G (by lia) ?_)
  have inj:∀i j,i<pb.length->j<pb.length->i≠j->(pb.getD i m).1≠(pb.getD j m).1:=λi j t v W e=>by
   refine W ((RB (xs:=pb.map (·.1)) (h₀:=by simpa using t) (h₁:=by simpa using v) Yb).mp ?_);simpa [t,v] using e
  have O:LtO pb.length (λi j=>S.lt (pb.getD i m).1 (pb.getD j m).1):=⟨λi j k=>S.tr,λi j t v W=>S.tot (inj i j t v W),λi j=>S.asy⟩
  obtain⟨p,R,f,SS⟩:=CD O (by lia)
  have L:∀i j C,i<pb.length->j<pb.length->C (S.lt (pb.getD i m).1 (pb.getD j m).1) {s with heap:=u }->kas_ask prog w A (S.kd) (rfs pb) i j C {s with heap:=u }:=λi j C t v c=>by
   unfold kas_ask;have Z:(rfs pb).getD i Oe=.ref (pb.getD i m).2:=by simp[t]
   have ej:(rfs pb).getD j Oe=.ref (pb.getD j m).2:=by simp[v]
   rw[Z,ej];have mi:pb.getD i m∈pb:=by simp[t]
   have mj:pb.getD j m∈pb:=by simp[v]
   exact S.ask (s:={s with heap:=u }) hu (G _ mi) (G _ mj) c
  have I:(kas_sort (rfs pb).length).kasWp (kas_ask prog w A (S.kd) (rfs pb)) (λp' M=>p'=p/\M={s with heap:=u }) {s with heap:=u }:=by
   rw[D];exact R.wp L ⟨rfl,rfl⟩
  refine KL (Oy (kat_run (Q:=λY M=>M={s with heap:=u }/\failedOf Y=none/\(arrOf Y).map (·.2)=VT (p.toList.map λi=>(rfs pb).getD i Oe)) rfl h2' (by rw[D];exact h64) (λp' Y M _ a2 a3 a4=>?_) I) ?_ λ_ _ e=>e)
  .obtain⟨rfl,rfl⟩:=a4;exact⟨rfl,a3,kat_snds rfl a2⟩
  .rintro ⟨⟨⟩,Y⟩ M ⟨rfl,hf,U⟩;dsimp only;rw[U];have WK:∀i∈p.toList,i<pb.length:=λi t=>Lx.mp (f.perm.mem_iff.mp t)
   have er:(p.toList.map λi=>(rfs pb).getD i Oe)=rfs (p.toList.map λi=>pb.getD i m):=by
    unfold rfs;rw[Lh];refine NI λi t=>?_;have:=WK i t;simp[this]
   rw[er]
   have H:(p.toList.map λi=>pb.getD i m).Perm pb:=by
    refine (f.perm.map _).trans ?_;rw[Fk]
   have Xm:(rfs (p.toList.map λi=>pb.getD i m)).toArray.size=pb.length:=by simp[f.size]
   refine KL (U4 B rfl (KL (Tu B rfl ?_ (Mm _) (by rw[Xm,MA];lia))));rw[hf];rw[if_neg (by simp)];refine KY (WT _ H ?_);rw[Lh,LY,L0];intro i j t v W;have T:j<pb.length:=by rw[Li,f.size]at v;exact v
   have q:=SS i j W T;have Z:g p i=p.toList[i]:=by simp[g,N7,f.size,show i<pb.length by lia]
   have ej:g p j=p.toList[j]:=by simp[g,N7,f.size,T]
   rw[Z,ej]at q;exact q
theorem call_g{l:Lm}{pb:List (α×Lm)}{Q:K3->K8->Prop}(B:s.heap.IsList l (rfs pb).toArray)(D:∀p∈pb,S.is prog w s.heap p.1 p.2)(F:A.units+5<NZ)(v:α×Lm)(z:(pb.map (·.1)).Nodup)(i:pb.length<64)
  (h:∀(a g:Nh) (r:Nat) (Xl:List (α×Lm)) (e:Nat),Xl.Perm pb→(Xl.map (·.1)).Pairwise (λx y=>S.lt x y=true)→(∀c o,s.heap.get? c=some o→a.get? c=some o)→(∀c o,a.get? c=some o→g.get? c=some o)→g.get? a.objs.size=some (Ts "list" (rfs Xl).toArray e)→Q (.ref a.objs.size) {s with heap:=g,toks:=r }):
  LH (LM prog w) A (call (.builtin "sorted") [.ref l]) Q E s:=by
 have d:(rfs pb).length=pb.length:=by simp
 refine Calls.call_function_entry kind_sorted plain_sorted entry_sorted (args_sorted1 _) ?_;unfold Builtin.«sorted»;refine KL (m:=checkCount "sorted" 1 1 _) (KY ?_);refine KL (collect_list B ?_ (by rw[d,MA];lia));refine KL (Tv ?_ (by rw[d,MA];lia));generalize hg:(s.heap.push (Ts "list" #[] 0)).update s.heap.objs.size (NB (·++(rfs pb).toArray))=a
 have keep:∀c o,s.heap.get? c=some o->a.get? c=some o:=λc o e=>by
  rw[<-hg,LZ _ _ (Pw (Lc e))];exact KU _ e
 have f:(a.push {cls:=.type "list",data:=.seq (rfs pb).toArray }).get? a.objs.size=some (Ts "list" (rfs pb).toArray 0):=Le _ rfl
 have q:∀p∈pb,S.is prog w (a.push {cls:=.type "list",data:=.seq (rfs pb).toArray }) p.1 p.2:=λp n=>by
  exact S.grow (D p n) λb o _ e=>KU _ (keep _ _ e)
 refine KL (MS (M3 Vl ⟨_,f,rfl⟩ U5 ?_ (Vm _)));refine sort_g S (s:={s with heap:=a.push {cls:=.type "list",data:=.seq (rfs pb).toArray } }) f q (by show A.units+1+1+1<NZ;lia) v z i λXl t C=>⟨_,rfl,KY ⟨_,rfl,?_⟩⟩
 obtain⟨e,u⟩:=sortedHeap_at (out:=(rfs Xl).toArray) f;refine h a _ s.toks Xl e t C keep (λc o j=>?_) u;have k:=Lc j;rw[Vn (LA k) (by rw[MM];exact ND k)];exact KU _ j
end
end SG
namespace L2
open PySem PySem.Spec PyProof.Rows
section
variable {X:Cx}{H0:Hp}{O0:List Lm}{ps:PSt}{e:Expr}{pos p:Pos}
theorem qD{α:Type}[DecidableEq α](S:SG.Ky α)(uf)(f:α){trs:List α}(Xo:∀{M}{N}{H}{s}{z}{u}{a:α},Inv X M N H s→Rp X.K H z (uf a)→aR z u→∃b,z=.ref b∧u=.ref b∧S.is X.prog X.w s.heap a b)(hg:Gl X "sorted")(hm:X.mg "sorted"=none)(hu:X.A.units+10<NZ)(ha:Ev X H0 O0 ps e (.lst (trs.map uf)))(hl:trs.length<64∧trs.Nodup)
  (he:autoParam (K7 [e] X.env=(false,Nq e X.env)::K7 [] X.env) w4):EvN X H0 O0 ps (.Call (.Name "sorted" p) [e] [] pos) ((SG.srt S trs).map uf):=by
 obtain⟨hl,hn⟩:=hl;rintro M s N H Q I ⟨O,R,q⟩;refine Ml (dj I hg hm boot_sorted ?_);refine callWith_builtin1 (e:=e) (rest:=[]) (thn (cx ha dP he pos M s N H (λvs d=>∃v,vs=[v]/\aT H d/\Rp X.K (hid d O) v (.lst (trs.map uf))) I ⟨O,R,λv d F r1=>⟨v,rfl,F,r1⟩⟩) λus F hx=>?_) he rfl;obtain⟨vs,d,I1,rv,v,rfl,sm,rp⟩:=hx;obtain⟨u,rfl,ru⟩:=cX rv;cases rp with
 | @lst a U _ hq W hwi=>
  cases ru;obtain⟨its,Xq,pl,o⟩:=I1.list (SqL.of (aE _ _ hq));have hlp:U.length=trs.length:=by rw[W,KI]
  have hil:its.length=trs.length:=by rw[<-Xq.length,hlp]
  have D:∀i,i<trs.length->∃b,its[i]?=some (.ref b)/\Rp X.K (hid d O) (.ref b) (uf (trs.getD i f))/\S.is X.prog X.w F.heap (trs.getD i f) b:=λi P=>by
   have hw:U[i]?=some U[i]:=KJ (by lia);have hp:(trs.map uf)[i]?=some (uf (trs.getD i f)):=by rw[K5,KJ P];simp[P]
   have r:=hwi i _ _ hw hp;obtain⟨u',c,n⟩:=Xq.get hw;obtain⟨b,ez,rfl,tb⟩:=Xo I1 (r.same aE) n;rw[ez]at r;exact⟨b,c,r,tb⟩
  let B:Nat->Lm:=λi=>match its[i]? with |some (.ref b)=>b |_=>0
  have T:∀i,i<trs.length->its[i]?=some (.ref (B i))/\Rp X.K (hid d O) (.ref (B i)) (uf (trs.getD i f))/\S.is X.prog X.w F.heap (trs.getD i f) (B i):=λi P=>by
   obtain⟨b,c,n,e3⟩:=D i P;have:B i=b:=by show (match its[i]? with |some (.ref b)=>b |_=>0)=b;rw[c]
   rw[this];exact⟨c,n,e3⟩
  generalize B=k at T;clear B;generalize YR:((LP trs.length).map λi=>((trs.getD i f,k i):α×Lm))=pb
  have E:its=SG.rfs pb:=by
   apply N8;intro i;rw[<-YR];unfold SG.rfs;rcases Nr i trs.length with z |z
   .rw[(T i z).1];simp[z]
   .rw[LJ (by lia),LJ (by simpa using z)]
  have m:pb.map (·.1)=trs:=by
   rw[<-YR,Lh];apply N8;intro i;rcases Nr i trs.length with z |z
   .simp[z]
   .rw[LJ (by simpa using z),LJ z]
  have g:∀z∈pb,∃j,j<trs.length/\z=(trs.getD j f,k j):=λz o=>by
   rw[<-YR]at o;obtain⟨j,G,rfl⟩:=KZ.mp o;exact⟨j,Lx.mp G,rfl⟩
  have Y:pb.length=trs.length:=by rw[<-m,KI]
  rw[E]at pl;refine SG.call_g S (pb:=pb) pl.isList (λz o=>?_) (by show X.A.units+5<NZ;lia) (f,0) (by rw[m];exact hn) (by lia) λL h4 t C ep pm so k1 k2 hD=>?_
  .obtain⟨j,G,rfl⟩:=g z o;exact (T j G).2.2
  .have I3:Inv X M N d {F with heap:=L,toks:=t }:=I1.kept (t':=t) k1;have Z:∀z∈C,∃j,j<trs.length/\z=(trs.getD j f,k j):=λz o=>g z (pm.mem_iff.mp o)
   have h:C.map (·.1)=SG.srt S trs:=by
    refine SG.asc_one S so (SG.srt_asc S trs) λz=>?_;rw[SG.srt_mem,(pm.map (·.1)).mem_iff,m]
   have J:d L.objs.size=none:=I3.hok.fresh (K1 _);refine⟨.ref L.objs.size,upd d L.objs.size (.lst (C.map λz=>V.ref z.2)),?_,rfl,?_⟩
   .refine I3.laid (t':=t) k2 (K1 _) ⟨?_,(SG.rfs C),ep,?_,hD⟩
    .rw[KI,pm.length_eq,Y,MA];lia
    .have all:∀l:List (α×Lm),aS (l.map λz=>V.ref z.2) (SG.rfs l):=λl=>by
      induction l with
      |nil=>exact .nil
      |cons z r ih=>exact .cons rfl ih
     exact all C
   .refine q _ _ _ (sm.trans (aO J _)) (sm.free J) aH ⟨?_,λi z x c n=>?_⟩
    .rw[KI,<-h,KI,KI]
    .rw[<-h,Lh,K5]at n;rw[K5]at c;cases hpi:C[i]? with
     |none=>rw[hpi]at c;cases c
     |some y=>
      rw[hpi]at c n;cases c;cases n;obtain⟨j,G,rfl⟩:=Z y (Lo hpi);exact (T j G).2.1.same (bu (aO J _) J)
end
end L2
namespace ST3
open PySem PySem.W PySem.Calls PyProof.Rows ST
def KT:SG.Ky TR:=⟨ltT,Ie,DP,EI,TT,Sh false,λh e=>h.grow e,λa h k q=>Gp a h k q,λh k q=>Cr h k q⟩
abbrev PQ:=(Int×Int)×Int
def ltQ(a b:PQ):Bool:=if a.1=b.1 then decide (a.2<b.2) else ltP a.1 b.1
theorem G0(h:ltQ a b=true)(k:ltQ b c=true):ltQ a c=true:=by
 unfold ltQ at *;by_cases f:a.1=b.1
 .rw[if_pos f]at h;by_cases d:b.1=c.1
  .rw[if_pos d]at k;rw[if_pos (f.trans d)];simp at *;lia
  .rw[if_neg d]at k;rw[if_neg (by rw[f];exact d),f];exact k
 .rw[if_neg f]at h;by_cases d:b.1=c.1
  .rw[if_neg (by rw[<-d];exact f),<-d];exact h
  .rw[if_neg d]at k;have t:=kD h k;rw[if_neg (λe=>by rw[e,lJ]at t;cases t)];exact t
theorem DZ(h:a≠b)(k:ltQ a b=false):ltQ b a=true:=by
 unfold ltQ at *;by_cases c:a.1=b.1
 .rw[if_pos c]at k;rw[if_pos c.symm];have:a.2≠b.2:=λe=>h (Mo c e)
  simp at *;lia
 .rw[if_neg c]at k;rw[if_neg (Ne.symm c)];exact ltP_tot c k
theorem DG(h:ltQ a b=true):ltQ b a=false:=by
 unfold ltQ at *;by_cases c:a.1=b.1
 .rw[if_pos c]at h;rw[if_pos c.symm];simp at *;lia
 .rw[if_neg c]at h;rw[if_neg (Ne.symm c)];exact iD h
section
variable {prog:Lg}{w:LL}{A:L7}{E:K3→K8→Prop}{s:K8}
def TQ(prog:Lg)(w:LL)(h:Nh)(t:PQ)(b:Lm):Prop:=∃o items n a u,h.get? b=some o∧o.cls=.type "tuple"∧o.data=.seq items n∧items.toList=[.ref a,.int t.2 u]∧TK prog w h (lq t.1) a
theorem TQ.grow(x:TQ prog w h k b)(e:∀b o,o.cls=.type "tuple"→h.get? b=some o→h'.get? b=some o):TQ prog w h' k b:=by
 obtain⟨o,c,n,p,u,r,d,m,q,l⟩:=x;have g:∀{k:List Int}{a:Lm},TK prog w h k a->TK prog w h' k a:=λ{k a} t=>by obtain⟨o,c,n,i,f,j⟩:=t;exact⟨o,c,n,e _ _ f i,f,j⟩
 exact⟨o,c,n,p,u,e _ _ d r,d,m,q,g l⟩
theorem HP(C:A.units+1<NZ)(k:TQ prog w s.heap a x)(p:TQ prog w s.heap b y)(h:Q (ltQ a b) s):LH (LM prog w) A (keyLt' (Sh false) (.ref x) (.ref y)) Q E s:=by
 obtain⟨o,its,n,D,u,l,_,m,i,j⟩:=k;obtain⟨z,c,F,v,B,t,_,r,e,g⟩:=p;refine kat_lt l m t r ?_;rw[i,e];unfold ltQ at h;refine kat_cons (OO (by lia) j g ?_);rw[qi];by_cases d:a.1=b.1
 .rw[decide_eq_true d];rw[if_pos d]at h;refine kat_yes (kat_cons ((Qn prog w).eqBool (a:=a.2) (b:=b.2) (Mt _ _ _ _) (Mt _ _ _ _) ?_));by_cases f:a.2=b.2
  .rw[decide_eq_true f];refine kat_yes (kat_nil ?_);rw[decide_eq_false (by lia)]at h
   have q:decide (its.size<c.size)=false:=by
    rw[<-Li,<-Li,i,e];simp
   rw[q];exact h
  .rw[decide_eq_false f];exact kat_no (kat_one _ _ (lt_int h))
 .rw[decide_eq_false d];rw[if_neg d]at h;exact kat_no (kat_one _ _ (lt_ptsR (by lia) j g h))
theorem Ct(j:∀p∈pb,TQ prog w s.heap p.1 p.2)(B:0<pb.length)(h:Q (Sh false) s):LH (LM prog w) A (VL (SG.rfs pb).toArray) Q E s:=by
 obtain⟨fs,c,i,f⟩:∃fs,KatTups s.heap (SG.rfs pb) fs∧fs.length=pb.length∧∀v∈fs,∃a o,v=LQ a∧s.heap.get? a=some o∧o.cls=.type "tuple":=by
  clear h B
  induction pb with
  |nil=>exact⟨[],.nil,rfl,λv b=>by simp at b⟩
  |cons p r x=>
   obtain⟨fs,c,i,f⟩:=x λq k=>j q (KN _ k);obtain⟨o,its,n,g,u,m,l,y,t,D⟩:=j p K0;refine⟨.ref g::fs,.cons m l y (by rw[<-L4,t];rfl) c,by simp[i],λv b=>?_⟩;rcases KO.mp b with z |z
   .obtain⟨C,_,_,d,e,_⟩:=D;exact⟨g,C,z,d,e⟩
   .exact f v z
 refine kat_kind (T:=.type "tuple") c (by lia) (λv b=>?_) (by decide) h;obtain⟨a,o,rfl,d,e⟩:=f v b;rw[<-e];exact (Looks.ld d).andThen .now
end
def KQ:SG.Ky PQ:=⟨ltQ,G0,DZ,DG,TQ,Sh false,λh e=>h.grow e,λa h k q=>HP a h k q,λh k q=>Ct h k q⟩
noncomputable def KP:SG.Ky (Int×Int):=⟨ltP,kD,ltP_tot,iD,λa w h p b=>TK a w h (lq p) b,Sh true,λt e=>by obtain⟨o,f,n,d,c,g⟩:=t;exact⟨o,f,n,e _ _ c d,c,g⟩,λi h k q=>GN h k q,λh k q=>BC h k q⟩
end ST3
namespace L2
open PySem PySem.Spec PyProof.Rows
abbrev qU(t:ST3.PQ):U:=.tup [pu t.1,.int t.2]
section
variable {X:Cx}{Wz:List (Lm×Obj)}{σ:St}{H:Hp}{s:K8}{z:V}{u:K3}
theorem Kk(I:Inv X Wz σ H s)(r:Rp X.K H z (trU a))(e:aR z u):∃b,z=.ref b/\u=.ref b/\ST3.KT.is X.prog X.w s.heap a b:=by
 cases r with
 | @tup b D _ m A c=>
  cases e;refine⟨b,rfl,rfl,?_⟩;obtain⟨p,C,l,_⟩:=I.tuple m;have B:D.length=3:=A;obtain⟨q,k,j,rfl⟩:=len3 B;obtain⟨F,J,G,rfl,i,h,f⟩:=JO C;obtain⟨x,rfl,tx⟩:=kG I (c 0 q _ rfl rfl) i;obtain⟨y,rfl,ty⟩:=kG I (c 1 k _ rfl rfl) h;obtain⟨v,rfl,t⟩:=kG I (c 2 j _ rfl rfl) f;obtain⟨o,g,E,n,d⟩:=l;exact⟨o,_,n,x,y,v,g,E,d,rfl,tx _ _,ty _ _,t _ _⟩
theorem Kr(I:Inv X Wz σ H s)(r:Rp X.K H z (qU a))(e:aR z u):∃b,z=.ref b/\u=.ref b/\ST3.KQ.is X.prog X.w s.heap a b:=by
 cases r with
 | @tup b A _ l q c=>
  cases e;refine⟨b,rfl,rfl,?_⟩;obtain⟨m,y,k,_⟩:=I.tuple l;have v:A.length=2:=q;obtain⟨p,j,rfl⟩:=len2 v;obtain⟨C,D,rfl,i,h⟩:=jm y;obtain⟨x,rfl,tx⟩:=kG I (c 0 p _ rfl rfl) i;have g:=c 1 j _ rfl rfl;cases g;obtain⟨t,rfl⟩:=h;obtain⟨o,f,B,n,d⟩:=k;exact⟨o,_,n,x,t,f,B,d,rfl,tx _ _⟩
theorem KB(I:Inv X Wz σ H s)(r:Rp X.K H z (pu a))(e:aR z u):∃b,z=.ref b/\u=.ref b/\ST3.KP.is X.prog X.w s.heap a b:=by
 obtain⟨b,rfl,c⟩:=kG I r e;refine⟨b,?_,rfl,c _ _⟩;cases r;cases e;rfl
end
end L2
namespace L2
open PySem PySem.Spec PySem.W PyProof.Rows
abbrev OkD(P:Lg)(w:LL)(b:Nh){K:KM}{c:Str->Option K3}{x:Str}{g:Nz}{e:List Str}(D:Dfn K c x g e)(n:Nat)(f:List U->Out->Prop):Prop:=cF P w K c b (CXF P w) n D.a D.d e (spU K f)
structure Z0 where
 cdv:K3
 A:L7
 outer:List Env
 s:K8
 H:Hp
 E:XK
 O:List Lm
section
variable {X:Cx}{H0:Hp}{O0:List Lm}{ps:PSt}{e:Expr}{es:List Expr}{pos p:Pos}{u x y:U}{xs us:List U}{n m i:Nat}{st:Nz}{pn N:List Str}{WJ:List U→Out→Prop}{sd:Lm→List (Str×U)→List U→Out→Prop}{nm q:Str}{P:Lg}{w:LL}{K:KM}{mg:Str→Option K3}{base:Nh}{C a d:Lm}{WB XS:List (Str×U)}{b:Bool}
theorem aQ{D:Dfn X.K X.mg nm st pn}(F:cF X.prog X.w X.K X.mg X.base (CXF X.prog X.w) n D.a D.d pn (spU X.K WJ))(c:cB m X.A)(f:EvA X H0 O0 ps (e::es) us)(h:WJ us (.val u))(g:autoParam (n<=m) v0)(i:autoParam (Gl X nm) w4)
  (W2:autoParam ((nm==("__debug__":Str))=false) v0) (he:autoParam (K7 (e::es) X.env=(false,Nq e X.env)::K7 es X.env) w4) (WX:autoParam ((M4 pos (K7 es X.env)).any (·.1)=false) w4):
  Ev X H0 O0 ps (.Call (.Name nm p) (e::es) [] pos) u:=Gy (F.mono g) c i D.m D.F.kp D.b kT f h W2 he WX
theorem dy{D:Dfn X.K X.mg nm st pn}(F:cF X.prog X.w X.K X.mg X.base (CXF X.prog X.w) n D.a D.d pn (spU X.K WJ))(c:cB m X.A)(f:EvA X H0 O0 ps (e::es) us)(h:WJ us (.new xs))(g:autoParam (n<=m) v0)(i:autoParam (Gl X nm) w4)
  (W2:autoParam ((nm==("__debug__":Str))=false) v0) (he:autoParam (K7 (e::es) X.env=(false,Nq e X.env)::K7 es X.env) w4) (WX:autoParam ((M4 pos (K7 es X.env)).any (·.1)=false) w4):
  EvN X H0 O0 ps (.Call (.Name nm p) (e::es) [] pos) xs:=Hg (F.mono g) c i D.m D.F.kp D.b kT f h W2 he WX
theorem bN(a:cB n X.A)(c:okU 9 x=true:=by walk_at"ok")(b:okU 9 y=true:=by walk_at"ok"):OpS X (LX .Eq) x y (.bl (eqW x y)):=KG (fU a) c b
theorem pS(a:cB n X.A)(c:okU 9 x=true:=by walk_at"ok")(b:okU 9 y=true:=by walk_at"ok"):OpS X (LX .NotEq) x y (.bl (!eqW x y)):=Kx (fU a) c b
theorem aA(i)(c:X.N.Nodup)(d:Ev X H0 O0 ps e u)(h:D.nx (ps.set i (some (.val u))))(f:autoParam (X.N[i]?=some z) w4)(b:Loc X.env.scope z:=by exact Or.inl rfl)(hs:autoParam (NX e (some (.Name z WU)) pos.line X.env=pure false) w4)(a:autoParam (X.fn z=true\/X.env.scope.names.lookup z=some .local) q0):
  W1 X H0 O0 E (.Assign [.Name z WU] e pos) D ps:=xg c f b d h hs a
theorem Ae{D:MDf X.K C nm q st pn}(F:cF X.prog X.w X.K X.mg X.base (CXF X.prog X.w) n D.a D.d pn (spD X.K false C sd))(i:Nat)(k:Cls X.K C)(g:cB m X.A)(c:ps[i]?=some (some (.dsk b C a d WB)))(j:EvA X H0 O0 ps (e::es) us)(h:sd d WB us (.val u))(l:autoParam (n<=m) v0)
  (YJ:autoParam ((nm==("lands":Str))=false) v0) (hN:autoParam (X.N[i]?=some z) w4) (hv:autoParam (Vis X.env.scope z) v3) (hd:autoParam ((z==("__debug__":Str))=false) v0) (W0:autoParam ((z==("__classdict__":Str))=false) v0)
  (Xd:autoParam (K7 (e::es) X.env=(false,Nq e X.env)::K7 es X.env) w4) (WX:autoParam ((M4 pos (K7 es X.env)).any (·.1)=false) w4)
  (ht:autoParam (Nq (.Call (.Attribute (.Name z p) nm WI) (e::es) [] pos) X.env=(do
   let ov <-Nq (.Name z p) X.env
   UO WI.atName
   let (f,first) <-RX [ov] (R3 ov nm pl)
   VC pos f first (M4 pos (K7 (e::es) X.env)) (Pl pos (NT [] X.env)))) w4):
  Ev X H0 O0 ps (.Call (.Attribute (.Name z p) nm WI) (e::es) [] pos) u:=GF c k D.m (F.mono l) g D.b kT j h YJ hN hv hd W0 Xd WX ht
theorem okD{D:Dfn K mg nm st pn}(S:ar N pn (ai st))(d:∀us o,WJ us o->us.length=pn.length)
  (hb:∀(Z:Z0) us o,cB m (Z.A.deeper (Q9 nm (ai st) Z.s.heap.objs.size D.a Z.cdv))->WJ us o->
   Ws (nu (CXF P w) P w K mg base N nm (ai st) D.a Z.cdv Z.A Z.outer Z.s Z.H Z.E).nox Z.H Z.O Z.E (bq st) ⟨λ_=>o=.val .non,λe=>e=o,λ_=>False,λ_=>False⟩ (gD N us)):OkD P w base D (m+1) WJ:=
 JH D.F S d λc A b s H E O us o f h=>Ws.nox (hb ⟨c,A,b,s,H,E,O⟩ us o f h)
end
end L2
namespace ST
open PySem PySem.W PyProof.Rows PySem.Calls
section
variable {prog:Lg}{w:LL}{A:L7}{E:K3→K8→Prop}{s:K8}
theorem call_sorted_setS(hh:A.handled=none)(hu:A.units+5<NZ)(P:SP prog w s.heap S kb)(h64:kb.length<64)(h2:∀p∈kb,p.1.length=2)
  (h:∀(B d:Nh) v (D:PB) e,Re D (ptsOf kb)→(D.map (·.1)).Pairwise (λx y=>ltP x y=true)→(∀b o,s.heap.get? b=some o→B.get? b=some o)→(∀b o,B.get? b=some o→d.get? b=some o)→d.get? B.objs.size=some (Ts "list" (refs D).toArray e)→Q (.ref B.objs.size) {s with heap:=d,toks:=v }):
  LH (LM prog w) A (call (.builtin "sorted") [.ref S]) Q E s:=by
 obtain⟨⟨o,n,u,t,ho,F,hd,R,T,hl,hp,_,_⟩,hk,Yb⟩:=P;have l:n.size=kb.length:=by rw[<-Li,R];simp[ents]
 have O:SO prog w o n u t (kb.map λp=>hsh prog w p.1):=⟨F,hd,T,by rw[KI,l],hl,hp⟩
 have two:∀p∈kb,p.1=[p.1.getD 0 0,p.1.getD 1 0]:=λp K=>by
  have:=h2 p K
  match N:p.1,this with
  |[x,y],_=>rfl
 refine call_function_entry kind_sorted plain_sorted entry_sorted (args_sorted1 _) ?_;unfold Builtin.«sorted»;refine KL (m:=checkCount "sorted" 1 1 _) (KY ?_);refine KL (kdu_collect (A:=A.in1) (Et O) hh ho (by rw[l,MA];lia) λd v g keep Y=>?_)
 have XB:g.toList=de w S n u:=by
  apply N8;intro i;rcases Nr i g.size with z |z
  .rw[L4,NM z];exact (Y.2 i _ (NM z)).symm
  .rw[LJ (by simpa using z),LJ];rw[(f7 w S n u).length_eq,KI,Li,<-Y.1];exact z
 obtain⟨c,j,ek⟩:=AY (λ(p:List Int×Lm)=>LQ p.2) (f7 w S n u) kb (by rw[R];unfold ents;rw[Lh];rfl)
 have V:g.toList=refs (ptsOf c):=by
  rw[XB,ek];unfold refs ptsOf;rw[Lh];rfl
 have Z:(ptsOf c).length=kb.length:=by unfold ptsOf;rw[KI,j.length_eq]
 have f:g.toList.length=kb.length:=by rw[V];simp[Z]
 refine KL (Tv ?_ (by rw[f,MA];lia))
 have J:(d.push {cls:=.type "list",data:=.seq g.toList.toArray }).get? d.objs.size=some (Ts "list" (refs (ptsOf c)).toArray 0):=by
  rw[<-V];exact Le _ rfl
 have C:∀p∈ptsOf c,TK prog w (d.push {cls:=.type "list",data:=.seq g.toList.toArray }) [p.1.1,p.1.2] p.2:=λp K=>by
  obtain⟨q,N,rfl⟩:=KZ.mp K;have L:=j.mem_iff.mp N;obtain⟨oq,its,k,G,r⟩:=hk q L;have e2:=two q L;refine⟨oq,its,k,KU _ (keep _ _ G),?_⟩;rw[<-e2];exact r
 have H:((ptsOf c).map (·.1)).Nodup:=by
  have n1:=((j.map (·.1)).nodup_iff).mpr Yb;unfold ptsOf;rw[Lh];refine LY.mpr ((LY.mp n1).imp_of_mem λ{a b} ha hb XA=>?_);intro z;have U:=two a (j.mem_iff.mp ha);have eb:=two b (j.mem_iff.mp hb);have I:(a.1.getD 0 0,a.1.getD 1 0)=(b.1.getD 0 0,b.1.getD 1 0):=z;rw[Rr]at I;rw[I.1,I.2]at U;exact XA (U.trans eb.symm)
 refine KL (MS (M3 Vl ⟨_,J,rfl⟩ U5 ?_ (Vm _)));refine SG.sort_g ST3.KP (s:={s with heap:=d.push {cls:=.type "list",data:=.seq g.toList.toArray },toks:=v }) J C (by show A.units+1+1+1<NZ;lia) ((0,0),0) H (by lia) λX pp so=>⟨_,rfl,KY ⟨_,rfl,?_⟩⟩
 obtain⟨e,eD⟩:=sortedHeap_at (out:=(refs X).toArray) J;refine h d _ v X e (pp.trans ?_) so keep (λb x M=>?_) eD
 .unfold ptsOf;exact j.map _
 .have W:=Lc M;rw[Vn (LA W) (by rw[MM];exact ND W)];exact KU _ M
end
end ST
namespace L2
open PySem PySem.Spec PyProof.Rows
section
variable {X:Cx}{H0:Hp}{O0:List Lm}{ps:PSt}{e:Expr}{pts:List P2}{trs:List (List Int)}{pos WU p p':Pos}
theorem gg(hc:X.calm=true)(hu:X.A.units+10<NZ)(hg:Gl X "sorted")(hm:X.mg "sorted"=none)(Y:Gl X "set")(U:X.mg "set"=none)(ha:Ev X H0 O0 ps e (lp pts))(hl:pts.length<64)
  (he:autoParam (K7 [e] X.env=(false,Nq e X.env)::K7 [] X.env) w4):EvN X H0 O0 ps (.Call (.Name "sorted" p) [.Call (.Name "set" p') [e] [] WU] [] pos) ((ST.srt pts).map pu):=by
 rintro Z s σ H Q I ⟨O,R,q⟩;have hh:=I.ok.hd hc;refine Ml (dj I hg hm boot_sorted ?_);refine callWith_builtin1 (e:=.Call (.Name "set" p') [e] [] WU) (rest:=[]) ?_ rfl rfl;refine PN ?_;refine Ml (dj I Y U Bm ?_);refine callWith_type1 (thn (cx ha dP he WU Z s σ H (λvs g=>∃v,vs=[v]/\aT H g/\Rp X.K (hid g O) v (lp pts)) I ⟨O,R,λv g F r1=>⟨v,rfl,F,r1⟩⟩) λus F hx=>?_) he rfl;obtain⟨vs,g,I1,rv,v,rfl,sm,rp⟩:=hx;obtain⟨u,rfl,ru⟩:=cX rv;cases rp with
 | @lst a T _ hq hwl hwi=>
  cases ru;obtain⟨its,Xq,pl,h⟩:=I1.list (SqL.of (aE _ _ hq));have hlp:T.length=pts.length:=by rw[hwl,KI]
  have hil:its.length=pts.length:=by rw[<-Xq.length,hlp]
  have J:∀i,i<pts.length->∃b,its[i]?=some (.ref b)/\Rp X.K (hid g O) (.ref b) (pu (pts.getD i (0,0)))/\ST.TK X.prog X.w F.heap [(pts.getD i (0,0)).1,(pts.getD i (0,0)).2] b:=λi t=>by
   have hw:T[i]?=some T[i]:=KJ (by lia);have hp:(pts.map pu)[i]?=some (pu (pts.getD i (0,0))):=by rw[K5,KJ t];simp[t]
   have r:=hwi i _ _ hw hp;obtain⟨u',m,N⟩:=Xq.get hw;generalize T[i]=z at *;cases r with
   | @tup b zs _ hs Yj B=>
    cases N;refine⟨b,m,Rp.tup hs Yj B,?_⟩;obtain⟨jts,rj,ht,_⟩:=I1.tuple (by exact aE.tup hs);have z0:=Yj;obtain⟨z1,z2,rfl⟩:=len2 z0;have q1:=B 0 z1 _ rfl rfl;have q2:=B 1 z2 _ rfl rfl;cases q1;cases q2;obtain⟨u1,u2,rfl,r1,r2⟩:=jm rj;obtain⟨t1,rfl⟩:=r1;obtain⟨t2,rfl⟩:=r2;obtain⟨o,ho,Yq,n,YV⟩:=ht;exact⟨o,_,n,ho,Yq,YV,.cons (Mt _ _ _ _) (.cons (Mt _ _ _ _) .nil)⟩
  obtain⟨G,Zg⟩:=JT J;have C:its.toArray.size=pts.length:=by simp[hil]
  refine ST.call_set_pts (λi=>([(pts.getD i (0,0)).1,(pts.getD i (0,0)).2],G i)) hh (by show X.A.units+1+1+1<NZ;lia) pl.isList (λi z ez=>?_) (λi t=>?_) (by rw[C];lia) λh2 W kb sp d keep=>?_
  .have t:i<pts.length:=by have:=aK (show its[i]?=some z by simpa using ez);lia
   have:=(Zg i t).1;rw[show its.toArray[i]?=its[i]? by simp,this]at ez
   cases ez;rfl
  .exact (Zg i (by rw[C]at t;exact t)).2.2
  .rw[C]at d;have I2:Inv X Z σ g {F with heap:=h2,toks:=W }:=I1.kept (t':=W) keep
   refine P8 ?_;have hkl:kb.length<64:=by have:=d.len;lia
   refine ST.call_sorted_setS (s:={F with heap:=h2,toks:=W }) hh (by show X.A.units+5<NZ;lia) sp hkl (λz h=>by obtain⟨j,_,rfl⟩:=d.src z h;rfl) λS h4 D E ep pm so k1 k2 hD=>?_;have I3:Inv X Z σ g {F with heap:=S,toks:=D }:=I2.kept (t':=D) k1
   have L:∀z∈E,∃j,j<pts.length/\z=(pts.getD j (0,0),G j):=λz h=>by
    obtain⟨y,hy,rfl⟩:=KZ.mp (pm.mem_iff.mp h);obtain⟨j,k,rfl⟩:=d.src y hy;exact⟨j,k,rfl⟩
   have c:E.map (·.1)=ST.srt pts:=by
    refine ST.asc_one so (ST.srt_asc pts) λz=>?_;rw[ST.srt_mem];constructor
    .intro h;obtain⟨y,hy,rfl⟩:=KZ.mp h;obtain⟨j,k,rfl⟩:=L y hy;simp[k]
    .intro h;obtain⟨j,k⟩:=Lz.mp h;have hjl:=aK k;have hk:=d.all j hjl;obtain⟨y,hy,ey⟩:=KZ.mp hk;have X0:((y.1.getD 0 0,y.1.getD 1 0),y.2)∈ST.ptsOf kb:=KZ.mpr ⟨y,hy,rfl⟩;have M:=pm.mem_iff.mpr X0;refine KZ.mpr ⟨_,M,?_⟩;rw[ey];have:pts.getD j (0,0)=z:=by rw[Lr,k];rfl
     show ((pts.getD j (0,0)).1,(pts.getD j (0,0)).2)=z;rw[this]
   have P:g S.objs.size=none:=I3.hok.fresh (K1 _);refine⟨.ref S.objs.size,upd g S.objs.size (.lst (E.map λz=>V.ref z.2)),?_,rfl,?_⟩
   .refine I3.laid (t':=D) k2 (K1 _) ⟨?_,(ST.refs E),ep,?_,hD⟩
    .rw[KI,<-KI (f:=(·.1)),c,MA];have:=ST.srt_len pts;lia
    .have all:∀l:ST.PB,aS (l.map λz=>V.ref z.2) (ST.refs l):=λl=>by
      induction l with
      |nil=>exact .nil
      |cons z r ih=>exact .cons rfl ih
     exact all E
   .refine q _ _ _ (sm.trans (aO P _)) (sm.free P) aH ⟨?_,λi z x m N=>?_⟩
    .rw[KI,<-c,KI,KI]
    .rw[<-c,Lh,K5]at N;rw[K5]at m;cases hpi:E[i]? with
     |none=>rw[hpi]at m;cases m
     |some y=>
      rw[hpi]at m N;cases m;cases N;obtain⟨j,k,rfl⟩:=L y (Lo hpi);exact (Zg j k).2.1.same (bu (aO P _) P)
end
end L2
local macro_rules | `(tactic|walk_at"sz")=>`(tactic|first |with_reducible assumption | ((with_reducible apply L2.Sz.sub') <;>walk_at"sz") | ((with_reducible apply L2.Sz.add') <;>walk_at"sz") | ((with_reducible apply L2.Sz.mul) <;>walk_at"sz") | ((with_reducible apply L2.Sz.neg) <;>walk_at"sz") | ((with_reducible apply L2.Sz.ediv) <;>walk_at"sz") | ((with_reducible apply L2.Sz.abs) <;>walk_at"sz") |exact L2.Sz.lit (m:=8) (by decide) |exact L2.Sz.emod (m:=250) (by decide) (by decide) |exact L2.Sz.lit (m:=250) (by decide))
local macro_rules | `(tactic|walk_at"mul")=>`(tactic|exact L2.Sz.ok (by walk_at"sz") (by walk_at"sz") (by decide))
local macro_rules | `(tactic|walk_at"div")=>`(tactic|first |exact⟨by decide,L2.Sz.mono (m:=250) (by decide) (by decide)⟩ |exact⟨by lia,L2.Sz.mono (by walk_at"sz") (by decide)⟩)
local macro_rules | `(tactic|walk_at"mod")=>`(tactic|first |decide |lia)
local macro_rules | `(tactic|walk_at"szb")=>`(tactic|exact L2.Sz.mono (by walk_at"sz") (by decide))
local macro_rules | `(tactic|walk_at"kit")=>`(tactic|first |exact L2.kit_int_int _ |exact L2.kit_int_bool _ |exact L2.kit_tuple_tuple _ |exact L2.kit_list_list _ |exact L2.kit_bool_int _ |exact L2.kit_list_tuple _ |rfl)
local macro_rules | `(tactic|walk_at"ok")=>`(tactic|first |rfl |decide)
local macro_rules | `(tactic|walk_at"sub")=>`(tactic|first |exact trivial | (refine⟨rfl,?_⟩;walk_at"sub") | (with_reducible apply L2.SubP.skip;walk_at"sub"))
local macro_rules | `(tactic|walk_at"len")=>`(tactic|first |decide | (simp only[List.length_append,List.length_cons,List.length_nil,List.length_map];decide))
local macro_rules | `(tactic|walk_at"ln")=>`(tactic| (intro us o h;(repeat (obtain⟨_,h⟩:=h));subst_vars;rfl))
namespace My
open PySem PySem.Spec PyProof.Rows L2
def top(i:Nat):Nz:=PySem.Challenge.pw_stakefield_k81_whole_told_by_text.main.body.getD i (.Pass ⟨0,0,0,0⟩)
def E7:Nz->List Nz
 | .ClassDef _ _ _ b _ _ _ _ _ _ _=>b
 |_=>[]
abbrev nX:Nz:=top 14
abbrev A9:Nz:=top 15
abbrev sR:Nz:=top 16
abbrev AT:Nz:=top 19
abbrev kE:Nz:=top 20
abbrev kJ:Nz:=top 21
abbrev tU:Nz:=top 22
abbrev ym:Nz:=top 23
abbrev mK:Nz:=top 25
abbrev wM:Nz:=top 26
abbrev xx:Nz:=top 27
abbrev Ce:Nz:=top 29
abbrev jJ:Nz:=top 30
abbrev yn:Nz:=top 31
abbrev xH:Nz:=top 32
abbrev gZ:Nz:=top 33
abbrev qe:Nz:=top 34
abbrev fL:Nz:=top 35
abbrev AI:Nz:=top 36
abbrev fH:Nz:=top 37
abbrev vv:Nz:=top 39
abbrev mN:Nz:=top 47
abbrev kY:Nz:=top 48
abbrev fA:Nz:=top 50
abbrev n4:Nz:=top 68
abbrev iA:Nz:=top 69
abbrev tN:Nz:=top 70
abbrev pU:Nz:=top 71
abbrev uI:Nz:=top 72
abbrev pO:Nz:=top 74
abbrev xm:Nz:=top 75
abbrev dF:Nz:=top 76
abbrev Dp:Nz:=top 77
abbrev k9:Nz:=top 81
abbrev cY:Nz:=top 82
abbrev iZ:Nz:=top 83
abbrev j0:Nz:=top 84
abbrev iN:Nz:=top 85
abbrev jR:Nz:=top 86
abbrev fR:Nz:=top 87
abbrev kO:Nz:=top 101
abbrev sS:Nz:=top 102
abbrev hW:Nz:=top 103
abbrev fj:Nz:=top 104
abbrev Cz:Nz:=top 105
abbrev jG:Nz:=top 107
abbrev ik:Nz:=top 108
abbrev tR:Nz:=top 111
abbrev lh:Nz:=top 114
abbrev lf:Nz:=top 115
abbrev kQ:Nz:=top 116
abbrev hI:Nz:=top 117
abbrev gY:Nz:=top 118
abbrev gA:Nz:=top 119
abbrev iO:Nz:=top 120
abbrev k7:Nz:=top 121
abbrev iR:Nz:=top 122
abbrev kN:Nz:=top 123
abbrev kM:Nz:=top 124
abbrev dE:Nz:=top 125
abbrev gd:Nz:=top 126
abbrev kR:Nz:=top 127
abbrev kZ:Nz:=(E7 (top 112)).getD 0 (.Pass ⟨0,0,0,0⟩)
abbrev kI:Nz:=(E7 (top 112)).getD 1 (.Pass ⟨0,0,0,0⟩)
abbrev kS:Nz:=(E7 (top 112)).getD 2 (.Pass ⟨0,0,0,0⟩)
abbrev gw:Nz:=(E7 (top 112)).getD 4 (.Pass ⟨0,0,0,0⟩)
noncomputable def gm:List (Str×Str):=[("field","NEW P"),("move","NEW ONE A B C D E F"),("fold","NEW ONE K"),("sum","NEW ONE OTHER"),("form","NEW ONE"),("facing","NEW ONE"),("drop","ONE"),("names",""),("show","ONE"),("area","ONE"),("rim","ONE"),("count","ONE K"),("inner","ONE K"),("mixed","ONE OTHER"),("share","ONE A B C"),("where","ONE P"),("tell","ONE K P"),("alike","ONE OTHER"),("thin","ONE")]
theorem uw:ar ["thing"] ["thing"] (ai nX):=by walk_at"sC"
theorem E3:ar ["number"] ["number"] (ai A9):=by walk_at"sC"
theorem bQ:ar ["a","b","high","high_times","low","low_times","fits","rest","rest_times","s"] ["a","b"] (ai sR):=by walk_at"sC"
theorem DR:ar ["move"] ["move"] (ai AT):=by walk_at"sC"
theorem mE:ar ["thing","number"] ["thing"] (ai kE):=by walk_at"sC"
theorem qH:ar ["thing"] ["thing"] (ai kJ):=by walk_at"sC"
theorem yB:ar ["P","move"] ["P","move"] (ai tU):=by walk_at"sC"
theorem rZ:ar ["P","move","place"] ["P","move"] (ai ym):=by walk_at"sC"
theorem du:ar ["move","side","a","b","c","d"] ["move"] (ai mK):=by walk_at"sC"
theorem Dm:ar ["P","Q"] ["P","Q"] (ai wM):=by walk_at"sC"
theorem fc:ar ["P","Q","far","u","v","parts","s","t"] ["P","Q"] (ai xx):=by walk_at"sC"
theorem Eu:ar ["P","Q","R"] ["P","Q","R"] (ai Ce):=by walk_at"sC"
theorem fM:ar ["row","kept","P"] ["row"] (ai jJ):=by walk_at"sC"
theorem gX:ar ["points","row","there","back"] ["points"] (ai yn):=by walk_at"sC"
theorem A4:ar ["land"] ["land"] (ai xH):=by walk_at"sC"
theorem lF:ar ["P","Q","R"] ["P","Q","R"] (ai gZ):=by walk_at"sC"
theorem oy:ar ["land","P","A","B"] ["land","P"] (ai qe):=by walk_at"sC"
theorem eV:ar ["land","A","B"] ["land"] (ai fL):=by walk_at"sC"
theorem we:ar ["land","A","B"] ["land"] (ai AI):=by walk_at"sC"
theorem ie:ar ["land","move","P"] ["land","move"] (ai fH):=by walk_at"sC"
theorem xO:ar ["land","k","P"] ["land","k"] (ai vv):=by walk_at"sC"
theorem sW:ar ["land","k"] ["land","k"] (ai mN):=by walk_at"sC"
theorem ro:ar ["land"] ["land"] (ai kY):=by walk_at"sC"
theorem sC:ar ["land","k","many"] ["land","k"] (ai fA):=by walk_at"sC"
theorem cM:ar ["land","y","begins","ends","A","B","rise","run"] ["land","y"] (ai n4):=by walk_at"sC"
theorem cA:ar ["land","move","levelled","back","found","y","ends","x","P"] ["land"] (ai iA):=by walk_at"sC"
theorem Ab:ar ["land"] ["land"] (ai tN):=by walk_at"sC"
theorem gr:ar ["row","hand","kept","cut","P"] ["row","hand"] (ai pU):=by walk_at"sC"
theorem pi:ar ["land","row"] ["land"] (ai uI):=by walk_at"sC"
theorem gv:ar ["piece","corners"] ["piece"] (ai pO):=by walk_at"sC"
theorem CM:ar ["k","P","Q","R"] ["k","P","Q","R"] (ai xm):=by walk_at"sC"
theorem bK:ar ["piece","k","P","corners","across","pairs","corner","side","pair"] ["piece","k","P"] (ai dF):=by walk_at"sC"
theorem xR:ar ["land","k","P","piece"] ["land","k","P"] (ai Dp):=by walk_at"sC"
theorem rK:ar ["thing"] ["thing"] (ai k9):=by walk_at"sC"
theorem cN:ar ["text","figures","sign"] ["text"] (ai cY):=by walk_at"sC"
theorem m_:ar ["text"] ["text"] (ai iZ):=by walk_at"sC"
theorem iM:ar ["text","parts"] ["text"] (ai j0):=by walk_at"sC"
theorem m9:ar ["number"] ["number"] (ai iN):=by walk_at"sC"
theorem oQ:ar ["P"] ["P"] (ai jR):=by walk_at"sC"
theorem gN:ar ["points","P"] ["points"] (ai fR):=by walk_at"sC"
theorem jf:ar ["row","words"] ["row"] (ai kO):=by walk_at"sC"
theorem dS:ar ["words","kinds","many","more"] ["words"] (ai sS):=by walk_at"sC"
theorem gl:ar ["word","letters","sign"] ["word"] (ai hW):=by walk_at"sC"
theorem d8:ar ["land","numbers","P","number"] ["land"] (ai fj):=by walk_at"sC"
theorem Er:ar ["deed","given"] ["deed","given"] (ai Cz):=by walk_at"sC"
theorem iY:ar ["land","P","side"] ["land","P"] (ai jG):=by walk_at"sC"
theorem eK:ar ["land","k","P","pairs","stake","times"] ["land","k","P"] (ai ik):=by walk_at"sC"
theorem zO:ar ["deed","given"] ["deed","given"] (ai tR):=by walk_at"sC"
theorem qC:ar ["script","k"] ["script","k"] (ai lh):=by walk_at"sC"
theorem qZ:ar ["a","b","p"] ["a","b","p"] (ai lf):=by walk_at"sC"
theorem gF:ar ["points","way","p"] ["points"] (ai kQ):=by walk_at"sC"
theorem eo:ar ["points","some"] ["points"] (ai hI):=by walk_at"sC"
theorem c_:ar ["one","other"] ["one","other"] (ai gY):=by walk_at"sC"
theorem dX:ar ["land","p","fair","nearest","k"] ["land","p"] (ai gA):=by walk_at"sC"
theorem br:ar ["script","lean","aside_v","slant","points","k","x","y"] ["script"] (ai iO):=by walk_at"sC"
theorem jN:ar ["script","k","cell"] ["script","k"] (ai k7):=by walk_at"sC"
theorem eX:ar ["word","figures","sign_v"] ["word"] (ai iR):=by walk_at"sC"
theorem bV:ar ["word","first","comma","rest","second","star","many","three"] ["word"] (ai kN):=by walk_at"sC"
theorem jk:ar ["spots","k"] ["spots"] (ai kM):=by walk_at"sC"
theorem bH:ar ["pairs","many","point","x","spot","times_v","y"] ["pairs","many","point"] (ai dE):=by walk_at"sC"
theorem fI:ar ["points","x","y"] ["points"] (ai gd):=by walk_at"sC"
theorem bU:ar ["script","points","land","desk","times_v","k","many","x","p","count_of","point","answer_v","pairs","word","spot","often","u","v"] ["script"] (ai kR):=by walk_at"sC"
theorem rC:ar ["self"] ["self"] (ai kZ):=by walk_at"sC"
theorem q_:ar ["self","kind","word"] ["self","kind","word"] (ai kI):=by walk_at"sC"
theorem qy:ar ["self","name","land"] ["self","name","land"] (ai kS):=by walk_at"sC"
theorem bC:ar ["self","row","words","kinds","given","kind","word"] ["self","row"] (ai gw):=by walk_at"sC"
set_option genInjectivity false in
set_option genSizeOf false in
set_option genSizeOfSpec false in
structure Txt(w:LL)(K:KM)(mg:Str->Option K3) where
 aac:Lm
 abx:mg "Desk"=some (.ref aac)
 aae:Cls K aac
 aau:gy K aac "lands"
 abq:∃a,mg "ROWS"=some (.ref a)∧zt w K a gm
 aa4:Dfn K mg "is_whole" nX ["thing"]
 aby:Dfn K mg "sign" A9 ["number"]
 abi:Dfn K mg "shares" sR ["a","b"]
 abz:Dfn K mg "hand" AT ["move"]
 aba:Dfn K mg "is_move" kE ["thing"]
 aaO:Dfn K mg "need_move" kJ ["thing"]
 abj:Dfn K mg "turned" tU ["P","move"]
 abr:Dfn K mg "moved" ym ["P","move"]
 aa5:Dfn K mg "way_back" mK ["move"]
 abt:Dfn K mg "steps" wM ["P","Q"]
 abu:Dfn K mg "level" xx ["P","Q"]
 abA:Dfn K mg "turn" Ce ["P","Q","R"]
 aaF:Dfn K mg "left_bends" jJ ["row"]
 aaP:Dfn K mg "field" yn ["points"]
 abv:Dfn K mg "sides" xH ["land"]
 aao:Dfn K mg "lies_between" gZ ["P","Q","R"]
 aaQ:Dfn K mg "where" qe ["land","P"]
 aav:Dfn K mg "double_area" fL ["land"]
 abF:Dfn K mg "rim" AI ["land"]
 aaw:Dfn K mg "field_moved" fH ["land","move"]
 abb:Dfn K mg "fold" vv ["land","k"]
 aa6:Dfn K mg "multiple" mN ["land","k"]
 aaR:Dfn K mg "points_in" kY ["land"]
 aam:DfD K mg "count" fA ["land","k"] 1
 aa7:Dfn K mg "row_ends" n4 ["land","y"]
 abc:Dfn K mg "by_rows" iA ["land"]
 abk:Dfn K mg "stakes" tN ["land"]
 abd:Dfn K mg "cut_off" pU ["row","hand"]
 abl:Dfn K mg "pieces" uI ["land"]
 abe:Dfn K mg "widened" pO ["piece"]
 abw:Dfn K mg "times" xm ["k","P","Q","R"]
 aap:Dfn K mg "put_together" dF ["piece","k","P"]
 abB:Dfn K mg "told" Dp ["land","k","P"]
 aaS:Dfn K mg "need_text" k9 ["thing"]
 aaj:Dfn K mg "is_written_number" cY ["text"]
 aax:Dfn K mg "read_number" iZ ["text"]
 aaG:Dfn K mg "read_point" j0 ["text"]
 aay:Dfn K mg "show_number" iN ["number"]
 aaH:Dfn K mg "show_point" jR ["P"]
 aaz:Dfn K mg "show_points" fR ["points"]
 aaT:Dfn K mg "row_words" kO ["row"]
 abm:Dfn K mg "wanted" sS ["words"]
 aaU:Dfn K mg "need_name" hW ["word"]
 aa8:Dfn K mg "need_fit" fj ["land"]
 abC:Dfn K mg "made" Cz ["deed","given"]
 aaI:Dfn K mg "show_where" jG ["land","P"]
 aaV:Dfn K mg "show_told" ik ["land","k","P"]
 abn:Dfn K mg "answer" tR ["deed","given"]
 aaW:Dfn K mg "_law_cell" lh ["script","k"]
 aaX:Dfn K mg "_law_side" lf ["a","b","p"]
 aaY:Dfn K mg "_law_half" kQ ["points"]
 aaq:Dfn K mg "_law_corners" hI ["points"]
 aar:Dfn K mg "_law_divisor" gY ["one","other"]
 aaJ:Dfn K mg "_law_place" gA ["land","p"]
 aaA:Dfn K mg "_law_points" iO ["script"]
 aaZ:Dfn K mg "_law_many" k7 ["script","k"]
 aaB:Dfn K mg "_law_number" iR ["word"]
 aa0:Dfn K mg "_law_pair" kN ["word"]
 aa1:Dfn K mg "_law_near" kM ["spots"]
 aaK:Dfn K mg "_law_comes" dE ["pairs","many","point"]
 aaL:Dfn K mg "_law_shown" gd ["points"]
 abo:Dfn K mg "law" kR ["script"]
 aaf:IDf K aac "__init__" "Desk.__init__" kZ ["self"]
 aak:MDf K aac "read" "Desk.read" kI ["self","kind","word"]
 aag:MDf K aac "keep" "Desk.keep" kS ["self","name","land"]
 aab:MDf K aac "say" "Desk.say" gw ["self","row"]
 aa2:mg "abs"=none
 abD:mg "all"=none
 abE:mg "bool"=none
 aaM:mg "int"=none
 aad:mg "isinstance"=none
 aaa:mg "len"=none
 aal:mg "list"=none
 abf:mg "max"=none
 aa9:mg "min"=none
 aan:mg "range"=none
 aa_:mg "reversed"=none
 abp:mg "set"=none
 aah:mg "sorted"=none
 aaC:mg "str"=none
 aaN:mg "sum"=none
 abg:mg "tuple"=none
 aa3:mg "zip"=none
 abh:∃t,mg "FIGURES"=some (.str "0123456789" t)
 aas:∃t,mg "MOST_CORNERS"=some (.int 60 t)
 aai:∃t,mg "MOST_FIGURES"=some (.int 60 t)
 aat:∃t,mg "MOST_LETTERS"=some (.int 8 t)
 aaD:∃t,mg "MOST_POINTS"=some (.int 60 t)
 aaE:∃t,mg "MOST_STAKES"=some (.int 100 t)
section
variable {P:Lg}{w:LL}{K:KM}{mg:Str→Option K3}{base:Nh} (T:Txt w K mg)
def sgn(n:Int):Int:=if 0<n then 1 else if n<0 then -1 else 0
def cH(b:Int):Int:=if b<0 then -b else b
theorem d7(b):cH b=(b.natAbs:Int):=by unfold cH;split <;>lia
theorem jM(h:b≠0):0<cH b:=by unfold cH;split <;>lia
theorem d6(d b):d ∣ cH b↔d ∣ b:=by
 unfold cH;split
 .exact Ru
 .exact Iff.rfl
theorem Av(d b):cH b ∣ d↔b ∣ d:=by
 unfold cH;split
 .exact Int.neg_dvd
 .exact Iff.rfl
structure k_(a b high ht low lt:Int):Prop where
 hp:0<high
 lo0:0<=low
 lolt:low<high
 dv:∀d,(d ∣ high/\d ∣ low)↔(d ∣ a/\d ∣ b)
 ch:b ∣ ht*a-high
 cl:b ∣ lt*a-low
 bd:ht.natAbs*low.natAbs+lt.natAbs*high.natAbs<=b.natAbs
 hi:high.natAbs<=b.natAbs
theorem uN(h:b≠0):k_ a b (cH b) 0 (a%cH b) 1:=by
 have g:=jM h;refine⟨g,PX _ (by lia),OP _ g,λd=>?_,?_,?_,?_,by rw[d7];simp⟩
 .rw[d6];constructor
  .rintro ⟨f,c⟩;refine⟨?_,f⟩;have e:=Ol a (cH b);rw[<-e];exact O4 c (L6 ((d6 d b).mpr f) (N9 _ _))
  .rintro ⟨f,c⟩;refine⟨c,?_⟩;have e:a%cH b=a-cH b*(a/cH b):=by have:=Ol a (cH b);lia
   rw[e];exact QJ f (L6 ((d6 d b).mpr c) (N9 _ _))
 .rw[Na,Int.zero_sub,Ru];exact (d6 b b).mpr (QW b)
 .have e:1*a-a%cH b=cH b*(a/cH b):=by have:=Ol a (cH b);lia
  rw[e];exact L6 ((d6 b b).mpr (QW b)) (N9 _ _)
 .rw[d7];simp
theorem wQ(I:k_ a b high ht low lt)(h:low≠0):k_ a b low lt (high-high/low*low) (ht-high/low*lt)/\high-high/low*low<low:=by
 obtain⟨v,g,m,r,u,j,l,w⟩:=I;have n:0<low:=by lia
 have e:=Ol high low;have k:=PX high h;have i:=OP high n;have o:0<=high/low:=Int.ediv_nonneg (by lia) (by lia);have p:high-high/low*low=high%low:=by rw[NQ];lia
 rw[p];refine⟨⟨n,k,i,λd=>?_,j,?_,?_,by lia⟩,i⟩
 .rw[<-r d];constructor
  .rintro ⟨f,c⟩;refine⟨?_,f⟩;rw[<-e];exact O4 c (L6 f (N9 _ _))
  .rintro ⟨f,c⟩;refine⟨c,?_⟩;rw[show high%low=high-low*(high/low) by lia];exact QJ f (L6 c (N9 _ _))
 .have q:(ht-high/low*lt) *a-high%low=(ht*a-high)-(high/low) *(lt*a-low):=by grind
  rw[q];exact QJ u (L6 j (L_ _ _))
 .have s:(ht-high/low*lt).natAbs<=ht.natAbs+(high/low).natAbs*lt.natAbs:=by
   have:=Int.natAbs_sub_le ht (high/low*lt);rw[Qi]at this;exact this
  have t:high.natAbs=(high%low).natAbs+low.natAbs*(high/low).natAbs:=by
   have:(high.natAbs:Int)=((high%low).natAbs+low.natAbs*(high/low).natAbs):=by
    push_cast
    rw[Pg k,Pg o,Pg (by lia:0<=high),Pg g];lia
   lia
  have x:(ht-high/low*lt).natAbs*low.natAbs<=(ht.natAbs+(high/low).natAbs*lt.natAbs) *low.natAbs:=Ov _ s;rw[t]at l;refine Mh ?_ l;generalize (ht-high/low*lt).natAbs=A at *;generalize ht.natAbs=B at *;generalize lt.natAbs=C at *;generalize low.natAbs=D at *;generalize (high/low).natAbs=E at *;generalize (high%low).natAbs=F at *;grind
structure dM(a b g s t:Int):Prop where
 g0:0<=g
 eq:s*a+t*b=g
 da:g ∣ a
 db:g ∣ b
 z:b=0->t=0/\s=sgn a/\g=cH a
 nz:b≠0->0<g/\0<=s/\s<cH b/g
theorem pj(a):dM a 0 (cH a) (sgn a) 0:=by
 refine⟨by unfold cH;split <;>lia,?_,(Av a a).mpr (QW a),VX _,λ_=>⟨rfl,rfl,rfl⟩,λh=>absurd rfl h⟩;unfold sgn cH;split
 .split <;>lia
 .split
  .lia
  .lia
theorem Bz(g:b≠0)(I:k_ a b high ht 0 lt):dM a b high (ht%(cH b/high)) ((high-ht%(cH b/high) *a).fdiv b):=by
 obtain⟨p,t,o,r,v,w,z,x⟩:=I;obtain⟨u,n⟩:=(r high).mp ⟨QW _,VX _⟩;obtain⟨f,rfl⟩:=u;have k:=(d6 _ _).mpr n;obtain⟨d,l⟩:=k;have s:=jM g;have m:cH b/high=d:=by rw[l,Nb _ (by lia)]
 have j:0<d:=by
  have:0<high*d:=by lia
  exact Mu this (by lia)
 rw[m];have y:=Ol ht d
 have i:b ∣ high-ht%d*(high*f):=by
  have e:high-ht%d*(high*f)=-(ht*(high*f)-high)+cH b*(f*(ht/d)):=by
   rw[l,show ht%d=ht-d*(ht/d) by lia];grind
  rw[e];refine O4 (Ru.mpr v) (L6 ((d6 b b).mpr (QW b)) (N9 _ _))
 refine⟨by lia,?_,N9 _ _,n,λh=>absurd h g,λ_=>⟨p,PX _ (by lia),?_⟩⟩
 .obtain⟨c,q⟩:=i;rw[q,Int.mul_fdiv_cancel_left _ g,NQ c b];lia
 .rw[m];exact OP _ j
theorem Jw(I:k_ a b high ht low lt):lt.natAbs<=b.natAbs:=by
 have c:1<=high.natAbs:=by have:=I.hp;lia
 have d:lt.natAbs*1<=lt.natAbs*high.natAbs:=Nat.mul_le_mul_left _ c;have:=I.bd;lia
theorem BL(h:dM a b g s t)(h':dM a b g' s' t'):g=g'/\s=s'/\t=t':=by
 have r:g ∣ g':=by rw[<-h'.eq];exact O4 (L6 h.da (L_ _ _)) (L6 h.db (L_ _ _))
 have w:g' ∣ g:=by rw[<-h.eq];exact O4 (L6 h'.da (L_ _ _)) (L6 h'.db (L_ _ _))
 have m:=UE h.g0 h'.g0 r w;subst m;by_cases e:b=0
 .obtain⟨G,E,_⟩:=h.z e;obtain⟨n,B,_⟩:=h'.z e;exact⟨rfl,by lia,by lia⟩
 .obtain⟨p,D,F⟩:=h.nz e;obtain⟨_,x,u⟩:=h'.nz e;obtain⟨f,l⟩:=h.da;obtain⟨j,k⟩:=(d6 g b).mpr h.db;obtain⟨c,d⟩:=h.db;have C:cH b/g=j:=by rw[k,Nb _ (by lia)]
  have v:=h.eq;have o:=h'.eq
  have n:s*f+t*c=1:=by
   have:g*(s*f+t*c)=g*1:=by rw[l,d]at v;grind
   exact Ma (by lia) this
  have B:s'*f+t'*c=1:=by
   have:g*(s'*f+t'*c)=g*1:=by rw[l,d]at o;grind
   exact Ma (by lia) this
  have y:c ∣ s-s':=by
   refine⟨s*(t'-t)+t*(s-s'),?_⟩;grind
  have A:j ∣ s-s':=by
   have:j.natAbs=c.natAbs:=by
    have i:(cH b).natAbs=b.natAbs:=by rw[d7];simp
    rw[k,d]at i;rw[Qi,Qi]at i;exact Nat.eq_of_mul_eq_mul_left (by lia) i
   exact Ql.mp (by rw[this];exact Ql.mpr y)
  have q:s=s':=by
   have:s-s'=0:=Int.eq_zero_of_dvd_of_natAbs_lt_natAbs A (by lia);lia
  subst q;refine⟨rfl,rfl,?_⟩;have:b*t=b*t':=by grind
  exact Ma e this
theorem FO(j:b≠0):∀n high d low lt,low.toNat<=n->k_ a b high d low lt->∃c f e,k_ a b c f 0 e
 |0,high,d,low,lt,k,I=>by
  have:low=0:=by have:=I.lo0;lia
  subst this;exact⟨_,_,_,I⟩
 |n+1,high,d,low,lt,k,I=>by
  by_cases h:low=0
  .subst h;exact⟨_,_,_,I⟩
  .obtain⟨i,g⟩:=wQ I h;exact FO j n _ _ _ _ (by have:=I.lo0;lia) i
theorem jF(a b):∃g s t,dM a b g s t:=by
 by_cases c:b=0
 .subst c;exact⟨_,_,_,pj a⟩
 .obtain⟨h,d,lt,I⟩:=FO c _ _ _ _ _ (K1 _) (uN c);exact⟨_,_,_,Bz c I⟩
theorem jw(G:dM a b g s t)(f:Sz m a)(j:Sz m b):Sz (m+8) g/\Sz (m+8) s/\Sz (2*m+8) t:=by
 by_cases c:b=0
 .subst c;obtain⟨l,h,d⟩:=G.z rfl;rw[l,h,d];have i:Sz 8 (sgn a):=by unfold Sz sgn;split;decide;split <;>decide
  exact⟨(Sz.abs f).mono (by lia),i.mono (by lia),Sz.mono (m:=8) (by decide) (by lia)⟩
 .obtain⟨n,o,i⟩:=G.nz c;have l:cH b/g<=cH b:=UF _ (by have:=jM c;lia);have h:=d7 b
  have sg:Sz m g:=by
   refine j.natle ?_;exact Nat.le_of_dvd (by lia) (Ql.mpr G.db)
  have k:Sz m s:=j.natle (by lia);refine⟨sg.mono (by lia),k.mono (by lia),?_⟩;have e:t*b=g-s*a:=by have:=G.eq;lia
  have q:Sz (2*m+1) (t*b):=by
   rw[e];have:Sz (m+m) (s*a):=k.mul f;have d:=(sg.mono (show m<=m+m by lia)).sub this;exact d.mono (by lia)
  refine (Sz.mono (m:=2*m+1) ?_ (by lia));unfold Sz at *;rw[Qi]at q;have:1<=b.natAbs:=by lia
  exact MD (Nat.le_mul_of_pos_right _ this) q
def zw:List U->Out->Prop:=λa o=>∃n:Int,a=[.int n]/\o=.val (.int (sgn n))
theorem xC:OkD P w base T.aby 1 (zw):=by
 refine okD E3 (by walk_at"ln") ?_;rintro _ _ _ d ⟨n,rfl,rfl⟩;refine ae (nT (au e7 (aa 0 rfl) ag) (λb=>?_) (λa=>(ay ?_)))
 .refine ae (aJ ag ?_);exact vIO (by unfold sgn;rw[if_pos (dTb b)])
 .refine ae (nT (au eM (aa 0 rfl) ag) (λb=>?_) (λa=>(ay ?_)))
  .refine ae (aJ (ce ag) ?_);exact vIO (by unfold sgn;rw[if_neg (dFb a),if_pos (dTb b)])
  .rename_i c
   refine ae (aJ ag ?_);exact vIO (by unfold sgn;rw[if_neg (dFb a),if_neg (dFb c)])
def tD:List U->Out->Prop:=λc o=>∃a b g s t:Int,c=[.int a,.int b]/\Sz 4000 a/\Sz 4000 b/\dM a b g s t/\o=.val (.tup [.int g,.int s,.int t])
theorem uC(G:dM a b g s t)(c:dM a b g' s' t'):Out.val (.tup [.int g,.int s,.int t])=Out.val (.tup [.int g',.int s',.int t']):=by
 obtain⟨rfl,rfl,rfl⟩:=BL G c;rfl
theorem pW:OkD P w base T.abi 2 (tD):=by
 refine okD bQ (by walk_at"ln") ?_;rintro _ _ _ u ⟨a,b,g,s,t,rfl,B,e,G,rfl⟩;refine ae (nT (au bA (aa 1 rfl) ag) (λy=>?_) (λv=>(ay ?_)))
 .have d:=dTb y;subst d;refine ae (aJ (bD (av (ao nH rfl T.aa2 PyProof.Rows.boot_abs (ac (aa 0 rfl) aj af)) (av (aQ (xC T) u (ac (aa 0 rfl) aj af) ⟨_,rfl,rfl⟩) (av ag a_ aX) a9) a9)) ?_);exact uC (pj a) G
 .have d:=dFb v;have f:=jM d;refine ae (aA 2 bQ.nd (ao nH rfl T.aa2 PyProof.Rows.boot_abs (ac (aa 1 rfl) aj af)) ?_);refine ae (aA 3 bQ.nd ag ?_);refine ae (aA 4 bQ.nd (ft (aa 0 rfl) (aa 2 rfl) f) ?_);refine ae (aA 5 bQ.nd ag ?_);refine ae (im (λm:Int×Int×Int×Int=>[some (.val (.int a)),some (.val (.int b)),some (.val (.int m.1)),some (.val (.int m.2.1)),some (.val (.int m.2.2.1)),some (.val (.int m.2.2.2)),none,none,none,none]) (λn m=>n=m.2.2.1.toNat/\k_ a b m.1 m.2.1 m.2.2.1 m.2.2.2) PassesOwn.never ?h0 ?hs)
  case h0=>exact⟨_,(_,_,_,_),⟨rfl,uN d⟩,rfl,rfl,rfl,rfl,rfl,rfl,trivial⟩
  case hs=>
   rintro m ⟨c,z,low,lt⟩ ⟨rfl,I⟩;dsimp only at I |-;have r:=I.lo0;have E:=I.lolt;have k:=e.natle I.hi;have F:Sz 4000 low:=k.natle (by lia);have slt:=e.natle (Jw I);refine⟨_,(au tY (aa 4 rfl) ag),λh=>?_,λh D o=>?_⟩
   .have i:=nTb h;obtain⟨A,l⟩:=wQ I i;have x:(c-c/low*low).toNat<low.toNat:=by clear h;lia
    refine ae (aA 6 bQ.nd (gP (aa 2 rfl) (aa 4 rfl) (by walk_at"div")) ?_);refine ae (aA 7 bQ.nd (bo (aa 2 rfl) (aY (aa 6 rfl) (aa 4 rfl) (by walk_at"mul"))) ?_);refine ae (aA 8 bQ.nd (bo (aa 3 rfl) (aY (aa 6 rfl) (aa 5 rfl) (by walk_at"mul"))) ?_);refine ae (aA 2 bQ.nd (aa 4 rfl) ?_);refine ae (aA 3 bQ.nd (aa 5 rfl) ?_);refine ae (aA 4 bQ.nd (aa 7 rfl) ?_);refine ae (aA 5 bQ.nd (aa 8 rfl) (ay ?_));exact⟨_,(_,_,_,_),x,⟨rfl,A⟩,rfl,rfl,rfl,rfl,rfl,rfl,trivial⟩
   .have i:=nFb h;subst i;refine d9 ?_ o;have j:=Bz d I;obtain⟨H,J,L⟩:=j.nz d;have p:0<cH b/c:=by lia
    have C:=I.hp
    have q:Sz 4000 (z%(cH b/c)):=by
     refine e.natle ?_;have M:cH b/c<=cH b:=UF _ (by lia);have K:=d7 b;lia
    refine ae (aA 9 bQ.nd (ft (aa 3 rfl) (gP (ao nH rfl T.aa2 PyProof.Rows.boot_abs (ac (aa 1 rfl) aj af)) (aa 2 rfl) ⟨C,k.mono (by decide)⟩) p) ?_);refine ae (aJ (bD (av (aa 2 rfl) (av (aa 9 rfl) (av (Gi (bo (aa 2 rfl) (aY (aa 9 rfl) (aa 0 rfl) (Sz.ok q B (by decide)))) (aa 1 rfl) ⟨d,e.mono (by decide)⟩) a_ be) af) af)) ?_);exact uC j G
abbrev mv(a b c d e f:Int):U:=.tup [.int a,.int b,.int c,.int d,.int e,.int f]
structure Mv(a b c d e f:Int):Prop where
 u:a*d-b*c=1\/a*d-b*c=-1
 a:Sz 30000 a
 b:Sz 30000 b
 c:Sz 30000 c
 d:Sz 30000 d
 e:Sz 30000 e
 f:Sz 30000 f
def wC:List U->Out->Prop:=λa o=>∃n:Int,a=[.int n]/\o=.val (.bl true)
theorem uo:OkD P w base T.aa4 1 (wC):=by
 refine okD uw (by walk_at"ln") ?_;rintro _ _ _ b ⟨n,rfl,rfl⟩;refine ae (aJ (pK (ao (fY (by intro _ h;cases h) (by walk_at"kit")) rfl T.aad O5 (ac (aa 0 rfl) (ac (Aa rfl T.aaM Rv) aj af) af)) (λa=>(mV (I_ (ao (fY (by intro _ h;cases h) (by walk_at"kit")) rfl T.aad O5 (ac (aa 0 rfl) (ac (Aa rfl T.abE boot_bool) aj af) af)))))) ?_);exact rfl
def yQ:List U->Out->Prop:=λg o=>∃a b c d e f,g=[mv a b c d e f]/\Sz 30000 a/\Sz 30000 b/\Sz 30000 c/\Sz 30000 d/\o=.val (.int (a*d-b*c))
theorem wV:OkD P w base T.abz 1 (yQ):=by
 refine okD DR (by walk_at"ln") ?_;rintro _ _ _ h ⟨a,b,c,d,e,f,rfl,g,j,i,k,rfl⟩;refine ae (aJ (bo (aY (aw (aa 0 rfl) ag rfl rfl) (aw (aa 0 rfl) ag rfl rfl) (by walk_at"mul")) (aY (aw (aa 0 rfl) ag rfl rfl) (aw (aa 0 rfl) ag rfl rfl) (by walk_at"mul"))) ?_);exact rfl
def qV:List U->Out->Prop:=λg o=>∃a b c d e f,g=[mv a b c d e f]/\Mv a b c d e f/\o=.val (.bl true)
theorem vA:OkD P w base T.aba 2 (qV):=by
 refine okD mE (by walk_at"ln") ?_;rintro _ _ _ g ⟨a,b,c,d,e,f,rfl,M,rfl⟩;refine ae (aL (Tw.t (lG (iX (gG (ao (fY (by intro _ h;cases h) rfl) rfl T.aad O5 (ac (aa 0 rfl) (ac (Aa rfl T.abg boot_tuple) aj af) af)))) (λm=>(jv (au tY (ao (bj rfl) rfl T.aaa Ld (ac (aa 0 rfl) aj af)) ag))))) rfl (ay ?_));refine ae (aL (iX (gG (ao (FM rfl (bs:=[true,true,true,true,true,true])) rfl T.abD boot_all (ac (EvN.ev (bv  rfl (blk (ai kE) ["thing","number"] [1] rfl rfl rfl rfl (by decide+kernel)) (EvI.z (Ir (aa 0 rfl))) (λ_ _ _ _=>aB (i:=1) mE.nd rfl (Or.inl rfl)) (bS (by decide)) ?clen ?csz (λ_ _=>trivial) ?celt)) aj bF)))) rfl (ay ?_))
 case clen=>rfl
 case csz=>show 6<=sizeLine;decide
 case celt=>
  intro C j l o i x y hx hy
  have k:∃n:Int,x=.int n/\y=.bl true:=by
   match i,hx,hy with
   |0,hx,hy=>cases hx;cases hy;exact⟨a,rfl,rfl⟩
   |1,hx,hy=>cases hx;cases hy;exact⟨b,rfl,rfl⟩
   |2,hx,hy=>cases hx;cases hy;exact⟨c,rfl,rfl⟩
   |3,hx,hy=>cases hx;cases hy;exact⟨d,rfl,rfl⟩
   |4,hx,hy=>cases hx;cases hy;exact⟨e,rfl,rfl⟩
   |5,hx,hy=>cases hx;cases hy;exact⟨f,rfl,rfl⟩
   |i+6,hx,hy=>cases hx
  obtain⟨n,rfl,rfl⟩:=k;exact (aQ (uo T) g (ac (aa 1 rfl) aj af) ⟨n,rfl,rfl⟩)
 refine ae (aJ (dH (CW rfl rfl rfl) (aQ (wV T) g (ac (aa 0 rfl) aj af) ⟨a,b,c,d,e,f,rfl,M.a,M.b,M.c,M.d,rfl⟩) (bD (av ag (av (ce ag) a_ mY) aX))) ?_);refine vB ?_;rcases M.u with h |h <;>rw[h] <;>rfl
def yN:List U->Out->Prop:=λg o=>∃a b c d e f,g=[mv a b c d e f]/\Mv a b c d e f/\o=.val .non
theorem jp:OkD P w base T.aaO 3 (yN):=by
 refine okD qH (by walk_at"ln") ?_;rintro _ _ _ g ⟨a,b,c,d,e,f,rfl,M,rfl⟩;refine ae (aL (iX (gG (aQ (vA T) g (ac (aa 0 rfl) aj af) ⟨a,b,c,d,e,f,rfl,M,rfl⟩))) rfl (ay (ay ?_)));exact rfl
def sj:List U->Out->Prop:=λg o=>∃x y a b c d e f,g=[pt x y,mv a b c d e f]/\(Sz 30000 x/\Sz 30000 y/\Sz 30000 a/\Sz 30000 b/\Sz 30000 c/\Sz 30000 d)/\o=.val (pt (a*x+b*y) (c*x+d*y))
theorem zh:OkD P w base T.abj 1 (sj):=by
 refine okD yB (by walk_at"ln") ?_;rintro _ _ _ i ⟨x,y,a,b,c,d,e,f,rfl,⟨h,j,g,l,k,m⟩,rfl⟩;refine ae (aJ (bD (av (cR (aY (aw (aa 1 rfl) ag rfl rfl) (aw (aa 0 rfl) ag rfl rfl) (by walk_at"mul")) (aY (aw (aa 1 rfl) ag rfl rfl) (aw (aa 0 rfl) ag rfl rfl) (by walk_at"mul"))) (av (cR (aY (aw (aa 1 rfl) ag rfl rfl) (aw (aa 0 rfl) ag rfl rfl) (by walk_at"mul")) (aY (aw (aa 1 rfl) ag rfl rfl) (aw (aa 0 rfl) ag rfl rfl) (by walk_at"mul"))) a_ be) be)) ?_);exact rfl
def vd:List U->Out->Prop:=λg o=>∃x y a b c d e f,g=[pt x y,mv a b c d e f]/\Mv a b c d e f/\Sz 30000 x/\Sz 30000 y/\o=.val (pt (a*x+b*y+e) (c*x+d*y+f))
theorem jE:OkD P w base T.abr 4 (vd):=by
 refine okD rZ (by walk_at"ln") ?_;rintro _ _ _ g ⟨x,y,a,b,c,d,e,f,rfl,M,h,i,rfl⟩;refine ae (km (aQ (jp T) g (ac (aa 1 rfl) aj af) ⟨a,b,c,d,e,f,rfl,M,rfl⟩) ?_);refine ae (aA 2 rZ.nd (aQ (zh T) g (ac (aa 0 rfl) (ac (aa 1 rfl) aj af) af) ⟨x,y,a,b,c,d,e,f,rfl,⟨h,i,M.a,M.b,M.c,M.d⟩,rfl⟩) ?_);refine ae (aJ (bD (av (cR (aw (aa 2 rfl) ag rfl rfl) (aw (aa 1 rfl) ag rfl rfl)) (av (cR (aw (aa 2 rfl) ag rfl rfl) (aw (aa 1 rfl) ag rfl rfl)) a_ be) be)) ?_);exact rfl
noncomputable def Ek(a b c d e f:Int):U:=
 mv ((a*d-b*c) *d) (-(a*d-b*c) *b) (-(a*d-b*c) *c) ((a*d-b*c) *a) (-((a*d-b*c) *d*e+-(a*d-b*c) *b*f)) (-(-(a*d-b*c) *c*e+(a*d-b*c) *a*f))
def zP:List U->Out->Prop:=λg o=>∃a b c d e f,g=[mv a b c d e f]/\Mv a b c d e f/\o=.val (Ek a b c d e f)
theorem h9:OkD P w base T.aa5 4 (zP):=by
 refine okD du (by walk_at"ln") ?_;rintro _ _ _ h ⟨a,b,c,d,e,f,rfl,M,rfl⟩;obtain⟨l,g,j,i,k,n,m⟩:=M;have M:Mv a b c d e f:=⟨l,g,j,i,k,n,m⟩;refine ae (km (aQ (jp T) h (ac (aa 0 rfl) aj af) ⟨a,b,c,d,e,f,rfl,M,rfl⟩) ?_);refine ae (aA 1 du.nd (aQ (wV T) h (ac (aa 0 rfl) aj af) ⟨a,b,c,d,e,f,rfl,g,j,i,k,rfl⟩) ?_);refine ae (aA 2 du.nd (aY (aa 1 rfl) (aw (aa 0 rfl) ag rfl rfl) (by walk_at"mul")) ?_);refine ae (aA 3 du.nd (aY (ce (aa 1 rfl)) (aw (aa 0 rfl) ag rfl rfl) (by walk_at"mul")) ?_);refine ae (aA 4 du.nd (aY (ce (aa 1 rfl)) (aw (aa 0 rfl) ag rfl rfl) (by walk_at"mul")) ?_);refine ae (aA 5 du.nd (aY (aa 1 rfl) (aw (aa 0 rfl) ag rfl rfl) (by walk_at"mul")) ?_);refine ae (aJ (bD (av (aa 2 rfl) (av (aa 3 rfl) (av (aa 4 rfl) (av (aa 5 rfl) (av (ce (cR (aY (aa 2 rfl) (aw (aa 0 rfl) ag rfl rfl) (by walk_at"mul")) (aY (aa 3 rfl) (aw (aa 0 rfl) ag rfl rfl) (by walk_at"mul")))) (av (ce (cR (aY (aa 4 rfl) (aw (aa 0 rfl) ag rfl rfl) (by walk_at"mul")) (aY (aa 5 rfl) (aw (aa 0 rfl) ag rfl rfl) (by walk_at"mul")))) a_ mY) mY) af) af) af) af)) ?_);exact rfl
theorem Bp(G:dM a b g s t):g=((Ot a b:Nat):Int):=by
 have d:=Sv G.da G.db
 have c:((Ot a b):Int) ∣ g:=by
  rw[<-G.eq];exact O4 (L6 (Pq ..) (L_ _ _)) (L6 (Pb ..) (L_ _ _))
 exact UE G.g0 (Int.natCast_nonneg _) d c
theorem nI(a b):∃s t,dM a b ((Ot a b:Nat):Int) s t:=by
 obtain⟨g,s,t,G⟩:=jF a b;have e:=Bp G;subst e;exact⟨s,t,G⟩
theorem zA(G:dM a b g s t)(p:0<g)(c:dM (a/g) (b/g) g' s' t'):g'=1:=by
 obtain⟨i,k⟩:=G.da;obtain⟨f,j⟩:=G.db;have l:a/g=i:=by rw[k,Nb _ (by lia)]
 have n:b/g=f:=by rw[j,Nb _ (by lia)]
 rw[l,n]at c;have e:=G.eq
 have m:s*i+t*f=1:=by
  have:g*(s*i+t*f)=g*1:=by rw[k,j]at e;grind
  exact Ma (by lia) this
 have d:g' ∣ 1:=by rw[<-m];exact O4 (L6 c.da (L_ _ _)) (L6 c.db (L_ _ _))
 have:=Int.le_of_dvd (by decide) d;have o:=c.g0;rcases L8 o with h |h
 .lia
 .rw[<-h]at d;exact absurd (Us.mp d) (by decide)
theorem yY(G:dM (x1-x0) (y1-y0) g s t)(h:g=0):x0=x1/\y0=y1:=by
 subst h;have b:=Us.mp G.da;have a:=Us.mp G.db;lia
structure BO(x0 y0 x1 y1:Int):Prop where
 s0:Sz 3000 x0
 t0:Sz 3000 y0
 s1:Sz 3000 x1
 t1:Sz 3000 y1
def vS:List U->Out->Prop:=λe o=>∃b a d c g s t:Int,e=[pt b a,pt d c]/\BO b a d c/\dM (d-b) (c-a) g s t/\o=.val (.int g)
theorem nj:OkD P w base T.abt 3 (vS):=by
 refine okD Dm (by walk_at"ln") ?_;rintro _ _ _ a ⟨e,d,i,f,g,s,t,rfl,⟨c,t0,h,b⟩,G,rfl⟩;refine ae (aJ (aw (aQ (pW T) a (ac (bo (aw (aa 1 rfl) ag rfl rfl) (aw (aa 0 rfl) ag rfl rfl)) (ac (bo (aw (aa 1 rfl) ag rfl rfl) (aw (aa 0 rfl) ag rfl rfl)) aj be) be) ⟨_,_,g,s,t,rfl,by walk_at"szb",by walk_at"szb",G,rfl⟩) ag rfl rfl) ?_);exact rfl
def vW:List U->Out->Prop:=λh o=>∃d c f e g a b s t:Int,h=[pt d c,pt f e]/\BO d c f e/\dM (f-d) (e-c) g a b/\g≠0/\dM ((f-d)/g) ((e-c)/g) 1 s t/\
  o=.val (mv s t (-((e-c)/g)) ((f-d)/g) (-s*d-t*c) ((e-c)/g*d-(f-d)/g*c))
theorem mw:OkD P w base T.abu 4 (vW):=by
 refine okD fc (by walk_at"ln") ?_;rintro _ _ _ h ⟨e,d,c,f,g,a,b,s,t,rfl,two,G,n,i,rfl⟩;have gp:0<g:=by have:=G.g0;lia
 obtain⟨o,t0,q,p⟩:=two;have two:BO e d c f:=⟨o,t0,q,p⟩;have k:Sz 3001 (c-e):=by walk_at"szb"
 have j:Sz 3001 (f-d):=by walk_at"szb"
 obtain⟨sg,_,_⟩:=jw G k j;have m:Sz 3001 ((c-e)/g):=k.ediv;have l:Sz 3001 ((f-d)/g):=j.ediv;obtain⟨_,r,u⟩:=jw i m l;refine ae (aA 2 fc.nd (aQ (nj T) h (ac (aa 0 rfl) (ac (aa 1 rfl) aj af) af) ⟨e,d,c,f,g,a,b,rfl,two,G,rfl⟩) ?_);refine ae (aL (au bA (aa 2 rfl) ag) (decide_eq_false n) (ay ?_));refine ae (aA 3 fc.nd (gP (bo (aw (aa 1 rfl) ag rfl rfl) (aw (aa 0 rfl) ag rfl rfl)) (aa 2 rfl) ⟨gp,sg.mono (by decide)⟩) ?_);refine ae (aA 4 fc.nd (gP (bo (aw (aa 1 rfl) ag rfl rfl) (aw (aa 0 rfl) ag rfl rfl)) (aa 2 rfl) ⟨gp,sg.mono (by decide)⟩) ?_);refine ae (aA 5 fc.nd (aQ (pW T) h (ac (aa 3 rfl) (ac (aa 4 rfl) aj af) af) ⟨_,_,1,s,t,rfl,m.mono (by decide),l.mono (by decide),i,rfl⟩) ?_);refine ae (aA 6 fc.nd (aw (aa 5 rfl) ag rfl rfl) ?_);refine ae (aA 7 fc.nd (aw (aa 5 rfl) ag rfl rfl) ?_);refine ae (aJ (bD (av (aa 6 rfl) (av (aa 7 rfl) (av (ce (aa 4 rfl)) (av (aa 3 rfl) (av (bo (aY (ce (aa 6 rfl)) (aw (aa 0 rfl) ag rfl rfl) (by walk_at"mul")) (aY (aa 7 rfl) (aw (aa 0 rfl) ag rfl rfl) (by walk_at"mul"))) (av (bo (aY (aa 4 rfl) (aw (aa 0 rfl) ag rfl rfl) (by walk_at"mul")) (aY (aa 3 rfl) (aw (aa 0 rfl) ag rfl rfl) (by walk_at"mul"))) a_ be) be) af) mY) af) af)) ?_);exact rfl
abbrev Pt:=Int×Int
def plt(p q:Pt):Prop:=p.1<q.1\/(p.1=q.1/\p.2<q.2)
def ah(a b p:Pt):Int:=(b.1-a.1) *(p.2-a.2)-(b.2-a.2) *(p.1-a.1)
theorem bz(e:plt a b)(d:plt b c):plt a c:=by unfold plt at *;lia
theorem aM(a):¬ plt a a:=by unfold plt;lia
theorem fD(a b):plt a b\/a=b\/plt b a:=by
 unfold plt;by_cases d:a.1=b.1
 .by_cases c:a.2=b.2
  .exact .inr (.inl (Mo d c))
  .lia
 .lia
def b8(x y:Int):Prop:=0<x\/(x=0/\0<y)
theorem aG(h:plt a b):b8 (b.1-a.1) (b.2-a.2):=by unfold plt b8 at *;lia
theorem d_(l:b8 u1 u2)(k:b8 v1 v2)(m:b8 w1 w2)(h:0<=u1*v2-u2*v1)(d:0<=v1*w2-v2*w1):0<=u1*w2-u2*w1:=by
 unfold b8 at *;by_cases a:v1=0
 .subst a;have g:0<v2:=by lia
  have b:w1=0:=by
   by_cases f:0<w1
   .have:=L5 g f;lia
   .lia
  subst b;have:=LK (show 0<=u1 by lia) (show 0<=w2 by lia);simp;lia
 .have c:0<v1:=by lia
  have e:v1*(u1*w2-u2*w1)=u1*(v1*w2-v2*w1)+w1*(u1*v2-u2*v1):=by grind
  have i:=LK (show 0<=u1 by lia) d;have j:=LK (show 0<=w1 by lia) h;have:0<=v1*(u1*w2-u2*w1):=by lia
  exact NR this c
theorem eY(g:b8 u1 u2)(p:b8 v1 v2)(q:b8 w1 w2)(f:0<u1*v2-u2*v1)(j:0<=v1*w2-v2*w1):0<u1*w2-u2*w1:=by
 unfold b8 at *;by_cases d:v1=0
 .subst d;have l:0<v2:=by lia
  have b:w1=0:=by
   by_cases k:0<w1
   .have:=L5 l k;lia
   .lia
  subst b;have c:0<w2:=by lia
  have a:0<u1:=by
   rcases g with h |⟨h,_⟩
   .exact h
   .subst h;simp at f
  have:=L5 a c;simp;lia
 .have i:0<v1:=by lia
  have e:v1*(u1*w2-u2*w1)=u1*(v1*w2-v2*w1)+w1*(u1*v2-u2*v1):=by grind
  have n:=LK (show 0<=u1 by lia) j;by_cases b:w1=0
  .subst b;have c:0<w2:=by lia
   have a:0<u1:=by
    rcases g with h |⟨h,m⟩
    .exact h
    .subst h;have:=L5 m i;simp at f;lia
   have:=L5 a c;simp;lia
  .have o:=L5 (show 0<w1 by lia) f;have:0<v1*(u1*w2-u2*w1):=by lia
   exact Mu this (by lia)
def kg:List Pt->Prop
 |b::a::r=>plt a b/\kg (a::r)
 |_=>True
def kL:List Pt->Prop
 |c::b::a::r=>0<ah a b c/\kL (b::a::r)
 |_=>True
def iK(c:List Pt):List Pt->Prop
 |b::a::r=>(∀q∈c,0<=ah a b q)/\iK c (a::r)
 |_=>True
theorem kL.tail:∀{b}{a},kL (b::a)->kL a
 |_,[],_=>trivial
 |_,[_],_=>trivial
 |_,_::_::_,h=>h.2
theorem kg.tail:∀{b}{a},kg (b::a)->kg a
 |_,[],_=>trivial
 |_,_::_,h=>h.2
theorem iK.tail:∀{b}{a},iK done (b::a)->iK done a
 |_,[],_=>trivial
 |_,_::_,h=>h.2
def aV(P:Pt):List Pt->List Pt
 |b::a::r=>if ah a b P<=0 then aV P (a::r) else b::a::r
 |st=>st
def ak(a:List Pt):List Pt:=a.foldl (λb P=>P::aV P b) []
structure Kept(done st:List Pt):Prop where
 ne:st≠[]
 desc:kg st
 turns:kL st
 cover:iK done st
 sub:∀p∈st,p∈done
structure Af(done st:List Pt)(P:Pt):Prop extends Kept done st where
 pend:∀h r,st=h::r->∀q∈done,plt h q->0<=ah h P q
theorem yI{P b a:Pt}(l:∀q∈done,plt q P)(D:Af done (b::a::r) P)(h:ah a b P<=0):Af done (a::r) P:=by
 refine⟨⟨by simp,D.desc.tail,D.turns.tail,D.cover.tail,λp g=>D.sub p (KN _ g)⟩,?_⟩;intro n m e q c k;cases e;have d:=D.desc.1;have f:=D.cover.1 q c;have i:=l b (D.sub b K0);rcases fD q b with z |z |z
 .have l1:=aG k;have l2:=aG d;have j:=aG (bz d i);have:=d_ j l2 l1 (by unfold ah at h;grind) (by unfold ah at f;grind);unfold ah;grind
 .subst z;unfold ah at *;grind
 .have p:=D.pend b _ rfl q c z;unfold ah at *;grind
theorem rV{P:Pt}(d:∀q∈done,plt q P):∀c,Af done c P->Af done (aV P c) P/\(∀b a r,aV P c=b::a::r->0<ah a b P)/\(c.getLast?=(aV P c).getLast?)
 |[],D=>absurd rfl D.ne
 |[b],D=>⟨D,λ_ _ _ e=>by simp[aV]at e,rfl⟩
 |b::a::r,D=>by
  by_cases h:ah a b P<=0
  .rw[aV,if_pos h];obtain⟨i,f,g⟩:=rV d (a::r) (yI d D h);exact⟨i,f,by rw[<-g];simp⟩
  .rw[aV,if_neg h];refine⟨D,λj l k e=>?_,rfl⟩;cases e;lia
theorem zD{d j:List Pt}{P:Pt}(F:∀q∈d,plt q P)(D:Af d j P)(o:∀b a r,j=b::a::r->0<ah a b P)(C:∀x,j=[x]->∀q∈d,q=x\/plt x q):Kept (d++[P]) (P::j):=by
 have B:∀b r,kg (b::r)->kL (b::r)->iK d (b::r)->plt b P->(∀a f,r=a::f->0<=ah a b P)->iK (d++[P]) (b::r):=by
  intro b r
  induction r generalizing b with
  |nil=>intro _ _ _ _ _;trivial
  |cons a r E=>
   intro k l s u v;refine⟨λq m=>?_,?_⟩
   .rcases LG.mp m with z |z
    .exact s.1 q z
    .rw[K9.mp z];exact v a r rfl
   .refine E a k.tail l.tail s.tail (bz k.1 u) (λc f e=>?_);subst e;have t:=l.1;have g:=v a _ rfl;have l1:=aG k.2.1;have l2:=aG k.1;have n:=aG (bz k.1 u);have:=d_ l1 l2 n (by unfold ah at t;grind) (by unfold ah at g;grind);unfold ah;grind
 obtain⟨h,r,e⟩:∃h r,j=h::r:=by
  cases Xd:j with
  |nil=>exact absurd Xd D.ne
  |cons h r=>exact⟨h,r,rfl⟩
 subst e;have i:=F h (D.sub h K0);refine⟨by simp,⟨i,D.desc⟩,?_,⟨λq m=>?_,?_⟩,λp A=>?_⟩
 .cases r with
  |nil=>trivial
  |cons a f=>exact⟨o h a f rfl,D.turns⟩
 .rcases LG.mp m with z |z
  .rcases fD q h with y |y |y
   .cases r with
    |nil=>
     rcases C h rfl q z with w |w
     .subst w;exact absurd y (aM _)
     .exact absurd (bz y w) (aM _)
    |cons a f=>
     have t:=o h a f rfl;have c:=D.cover.1 q z;have l1:=aG D.desc.1;have l2:=aG y;have n:=aG i;have:=d_ l2 l1 n (by unfold ah at c;grind) (by unfold ah at t;grind);unfold ah;grind
   .subst y;unfold ah;grind
   .exact D.pend h r rfl q z y
  .rw[K9.mp z];unfold ah;grind
 .exact B h r D.desc D.turns D.cover i (λa f e=>Nc (o h a f (by rw[e])))
 .rcases KO.mp A with z |z
  .subst z;exact Lv _ K0
  .exact LI _ (D.sub p z)
theorem mT(row)(P):ak (row++[P])=P::aV P (ak row):=by
 unfold ak;rw[Rh];rfl
theorem nU{row:List Pt}(hs:row.Pairwise plt):∀n,0<n->n<=row.length->Kept (row.take n) (ak (row.take n))/\(ak (row.take n)).getLast?=row.head?/\(ak (row.take n)).head?=row[n-1]?
 |0,h,_=>absurd h (by decide)
 |1,_,h=>by
  cases row with
  |nil=>simp at h
  |cons a r=>
   simp only[S7,Q1];exact⟨⟨by simp[ak],trivial,trivial,trivial,λp v=>by simpa [ak,aV] using v⟩,rfl,rfl⟩
 |n+2,_,h=>by
  obtain⟨K,u,d⟩:=nU hs (n+1) (by lia) (by lia);have f:n+1<row.length:=by lia
  have A:row.take (n+2)=row.take (n+1)++[row[n+1]]:=by rw[List.take_succ_eq_append_getElem f]
  have s:∀q∈row.take (n+1),plt q row[n+1]:=λq b=>by
   obtain⟨i,o,e⟩:=Pi.mp b;subst e;exact L0.mp hs i (n+1) (by lia) f (by lia)
  have D:Af (row.take (n+1)) (ak (row.take (n+1))) row[n+1]:=⟨K,λB r e q b l=>by
   exfalso
   rw[e]at d;simp only[U6,Tx]at d;have c:n<row.length:=by lia
   rw[KJ c]at d;have k:=LN d;obtain⟨i,o,j⟩:=Pi.mp b;subst j;rw[k]at l;rcases Nr i n with z |z
   .exact aM _ (bz l (L0.mp hs i n (by lia) c z))
   .have:i=n:=by lia
    subst this;exact aM _ l⟩
  obtain⟨w,y,g⟩:=rV s _ D;rw[A,mT];refine⟨zD s w y (λx e q b=>?_),?_,?_⟩
  .rw[e,u]at g;obtain⟨i,o,j⟩:=Pi.mp b;have m:0<row.length:=by lia
   have t:row[0]=x:=by
    rw[Ny,KJ m]at g;exact LN g
   subst j;rcases QU i with z |z
   .subst z;exact .inl t
   .right;rw[<-t];exact L0.mp hs 0 i m (by lia) z
  .rw[List.getLast?_cons,<-g,u];cases row with
   |nil=>simp at f
   |cons a r=>rfl
  .simp only[U6,Tx];rw[show n+2-1=n+1 by lia,KJ f]
theorem cU(hs:row.Pairwise plt)(h:row≠[]):Kept row (ak row)/\(ak row).getLast?=row.head?/\(ak row).head?=row.getLast?:=by
 have d:=LF.mpr h;obtain⟨c,a,b⟩:=nU hs row.length d (K1 _);rw[Of]at c a b;exact⟨c,a,by rw[b,Mn]⟩
theorem lr(g:b8 u1 u2)(l:b8 v1 v2)(m:b8 w1 w2)(f:0<=u1*v2-u2*v1)(d:0<v1*w2-v2*w1):0<u1*w2-u2*w1:=by
 unfold b8 at *;by_cases b:v1=0
 .subst b;have:=LK (show 0<=v2 by lia) (show 0<=w1 by lia);simp at d;lia
 .have c:0<v1:=by lia
  have a:0<u1:=by
   rcases g with h |⟨h,i⟩
   .exact h
   .subst h;have:=L5 i c;simp at f;lia
  have e:v1*(u1*w2-u2*w1)=u1*(v1*w2-v2*w1)+w1*(u1*v2-u2*v1):=by grind
  have j:=L5 a d;have k:=LK (show 0<=w1 by lia) f;have q:0<v1*(u1*w2-u2*w1):=by lia
  exact Mu q c
def low(c:List Pt)(p:Pt):Prop:=∀a∈c,∀b∈c,plt a p->plt p b->0<ah a p b
theorem FH:∀a n,kg (n::a)->kL (n::a)->iK row (n::a)->p∈a->(∀l,(n::a).getLast?=some l->plt l p)->
  ∃c q,0<ah q p c/\plt q p/\plt p c/\(∀x∈row,0<=ah p c x)/\(∀x∈row,0<=ah q p x)
 |[],n,_,_,_,b,_=>by simp at b
 |h::r,n,D,T,C,b,hl=>by
  by_cases e:h=p
  .subst e;cases r with
   |nil=>exact absurd (hl h (by simp)) (aM h)
   |cons q f=>exact⟨n,q,T.1,D.2.1,D.1,C.1,C.2.1⟩
  .have Xr:p∈r:=by
    rcases KO.mp b with z |z
    .exact absurd z.symm e
    .exact z
   exact FH r h D.tail T.tail C.tail Xr (λl d=>hl l (by rw[MT];exact d))
theorem qc(hs:row.Pairwise plt)(s:p∈ak row):low row p:=by
 intro a k b H c e;have L:row≠[]:=λz=>by rw[z]at k;simp at k
 obtain⟨K,A,v⟩:=cU hs L
 have E:∀x∈row,∀m,row.head?=some m->x=m\/plt m x:=λx f m d=>by
  cases row with
  |nil=>simp at f
  |cons y r=>
   cases d;rcases KO.mp f with z |z
   .exact .inl z
   .exact .inr ((Lu.mp hs).1 x z)
 have F:∀x∈row,∀m,row.getLast?=some m->x=m\/plt x m:=λx f m d=>by
  obtain⟨i,g⟩:=Lz.mp f;have j:=(K_.mp g).1;rw[Mn]at d;have G:=(K_.mp d).1;rcases LC (show i<=row.length-1 by lia) with z |z
  .right
   have C:=L0.mp hs i (row.length-1) j G z;rw[(K_.mp g).2,(K_.mp d).2]at C;exact C
  .left;rw[z,d]at g;exact (LN g).symm
 cases Xd:ak row with
 |nil=>exact absurd Xd K.ne
 |cons n w=>
  rw[Xd]at K A v s;have N:row.getLast?=some n:=by rw[<-v];rfl
  have o:p∈w:=by
   rcases KO.mp s with z |z
   .rcases F b H n N with y |y
    .rw[y,<-z]at e;exact absurd e (aM p)
    .rw[z]at e;exact absurd (bz e y) (aM n)
   .exact z
  obtain⟨h,q,t,u,M,Q,R⟩:=FH w n K.desc K.turns K.cover o (λl B=>by
   rw[A]at B;rcases E a k l B with y |y
   .rw[<-y];exact c
   .exact bz y c)
  unfold ah at *;have D:0<=(p.1-a.1) *(p.2-q.2)-(p.2-a.2) *(p.1-q.1):=by grind
  have O:0<(p.1-q.1) *(h.2-p.2)-(p.2-q.2) *(h.1-p.1):=by grind
  have I:0<=(h.1-p.1) *(b.2-p.2)-(h.2-p.2) *(b.1-p.1):=by grind
  have J:=eY (aG u) (aG M) (aG e) O I;have P:=lr (aG c) (aG u) (aG e) D J;grind
theorem Da:∀c h,kg (h::c)->iK row (h::c)->p∈row->p ∉ h::c->plt p h->(∀l,(h::c).getLast?=some l->plt l p)->∃a∈h::c,∃b∈h::c,plt a p/\plt p b/\0<=ah a b p
 |[],h,_,_,_,_,d,e=>absurd (bz d (e h (by simp))) (aM p)
 |a::r,h,D,C,hr,Xk,d,e=>by
  rcases fD p a with z |z |z
  .obtain⟨x,f,y,hy,k⟩:=Da r a D.tail C.tail hr (λw=>Xk (KN _ w)) z (λl g=>e l (by rw[MT];exact g));exact⟨x,KN _ f,y,KN _ hy,k⟩
  .exact absurd (by rw[z];simp) Xk
  .exact⟨a,by simp,h,by simp,z,d,C.1 p hr⟩
theorem gap(hs:row.Pairwise plt)(c:p∈row)(e:p ∉ ak row):∃a∈ak row,∃b∈ak row,plt a p/\plt p b/\ah a p b<=0:=by
 have u:row≠[]:=λz=>by rw[z]at c;simp at c
 obtain⟨K,k,j⟩:=cU hs u;cases Xd:ak row with
 |nil=>exact absurd Xd K.ne
 |cons n t=>
  rw[Xd]at K k j e;have f:row.getLast?=some n:=by rw[<-j];rfl
  have v:plt p n:=by
   obtain⟨i,d⟩:=Lz.mp c;have g:=(K_.mp d).1;rw[Mn]at f;have q:=(K_.mp f).1;rcases LC (show i<=row.length-1 by omega) with z |z
   .have m:=L0.mp hs i (row.length-1) g q z;rw[(K_.mp d).2,(K_.mp f).2]at m;exact m
   .rw[z,f]at d;exact absurd (by rw[<-LN d];simp) e
  obtain⟨a,w,b,s,o,A,B⟩:=Da t n K.desc K.cover c e v (λl h=>by
   have x:=h;rw[k]at h;cases row with
   |nil=>simp at c
   |cons y r=>
    cases h;rcases KO.mp c with z |z
    .exact absurd (by rw[z];exact Ow x) e
    .exact (Lu.mp hs).1 p z)
  refine⟨a,w,b,s,o,A,?_⟩;unfold ah at *;grind
theorem zj(hs:row.Pairwise plt)(l:Xj.Pairwise plt)(k:∀p∈Xj,p∈row)(e:∀p∈ak row,p∈Xj)(c:∀r q,q∈ak r->q∈r)(p):p∈ak Xj↔p∈ak row:=by
 constructor
 .intro d;refine Md λj=>?_;obtain⟨a,g,b,h,f,i,m⟩:=gap hs (k p (c _ _ d)) j;have:=qc l d a (e a g) b (e b h) f i;lia
 .intro d;refine Md λj=>?_;obtain⟨a,g,b,h,f,i,m⟩:=gap l (e p d) j;have:=qc hs d a (k a (c _ _ g)) b (k b (c _ _ h)) f i;lia
abbrev Szp(m:Nat)(p:P2):Prop:=Sz m p.1/\Sz m p.2
theorem yf(b)(r):atI ((b::r).reverse.map pu) (-1)=some (pu b):=by
 have h:ixN ((b::r).reverse.map pu).length (-1)=some r.length:=by
  unfold ixN;simp;lia
 unfold atI;rw[h];simp
theorem xh(b a)(r):atI ((b::a::r).reverse.map pu) (-2)=some (pu a):=by
 have h:ixN ((b::a::r).reverse.map pu).length (-2)=some r.length:=by
  unfold ixN;simp;lia
 unfold atI;rw[h];simp
theorem lZ(P):∀c,(aV P c).length<=c.length
 |[]=>K1 _
 |[_]=>K1 _
 |b::a::r=>by
  unfold aV;split
  .have:=lZ P (a::r);simp only[Lk]at *;lia
  .exact K1 _
theorem xY(P):∀c q,q∈aV P c->q∈c
 |[],_,h=>h
 |[_],_,h=>h
 |b::a::r,q,h=>by
  unfold aV at h;split at h
  .exact KN _ (xY P (a::r) q h)
  .exact h
theorem gh{a:List P2}{P:P2}(h:a[i]?=some P):ak (a.take (i+1))=P::aV P (ak (a.take i)):=by
 rw[OM,h];exact mT _ _
theorem ix(a:List P2):∀i,(ak (a.take i)).length<=i
 |0=>by simp[ak]
 |i+1=>by
  have ih:=ix a i;cases h:a[i]? with
  |none=>rw[OM,h];simp;lia
  |some P=>
   rw[gh h];have:=lZ P (ak (a.take i));simp only[Lk];lia
theorem f6(a:List P2):∀i q,q∈ak (a.take i)->q∈a
 |0,q,h=>by simp[ak]at h
 |i+1,q,h=>by
  cases hi:a[i]? with
  |none=>rw[OM,hi]at h;exact f6 a i q (by simpa using h)
  |some P=>
   rw[gh hi]at h;rcases KO.mp h with e |e
   .rw[e];exact Lo hi
   .exact f6 a i q (xY P _ q e)
theorem B_(n):decide (sgn n<1)=decide (n<=0):=by
 have h:sgn n<1↔n<=0:=by
  unfold sgn;split
  .lia
  .split <;>lia
 exact decide_eq_decide.mpr h
theorem ii(l:List P2):iF (l.map pu) none (some (-1))=l.dropLast.map pu:=by
 unfold iF HT.sIx;rw[Ri,List.dropLast_eq_take];simp
 try lia
def aq(pts:List P2):List P2:=if (ST.srt pts).length=1 then ST.srt pts else (ak (ST.srt pts)).reverse.dropLast++(ak (ST.srt pts).reverse).reverse.dropLast
theorem e8(a b):plt a b↔ST.ltP a b=true:=by unfold plt ST.ltP;simp
theorem jj:ST.Asc l↔l.Pairwise plt:=⟨λh=>h.imp λ{a b} k=>(e8 a b).mpr k,λh=>h.imp λ{a b} k=>(e8 a b).mp k⟩
theorem pP:∀{st},kg st->st.Pairwise (λx y=>plt y x)
 |[],_=>Pa
 |[_],_=>by simp
 |b::a::r,h=>by
  have ih:=pP h.2;refine Lu.mpr ⟨λx c=>?_,ih⟩;rcases KO.mp c with z |z
  .rw[z];exact h.1
  .exact bz ((Lu.mp ih).1 x z) h.1
theorem ca(row)(q)(h:q∈ak row):q∈row:=by
 have:=f6 row row.length q;rw[Of]at this;exact this h
theorem eT(hs:row.Pairwise plt):ST.Asc (ak row).reverse:=by
 by_cases a:row=[]
 .subst a;exact Pa
 .exact jj.mpr (O6.mpr (pP (cU hs a).1.desc))
theorem ud(hs:row.Pairwise plt)(a:Xj.Pairwise plt)(c:∀p∈Xj,p∈row)(b:∀p∈ak row,p∈Xj):ak Xj=ak row:=by
 have e:=ST.asc_one (eT a) (eT hs) λz=>by
  rw[Ll,Ll];exact zj hs a c b ca z
 exact List.reverse_inj.mp e
def ng(p:Pt):Pt:=(-p.1,-p.2)
theorem iL(p):ng (ng p)=p:=by unfold ng;simp
theorem Hc(l:List Pt):(l.map ng).map ng=l:=by
 rw[Lh,show ng ∘ ng=id from funext iL,Wj]
theorem nG(a b c):ah (ng a) (ng b) (ng c)=ah a b c:=by unfold ah ng;grind
theorem og(h:plt a b):plt (ng b) (ng a):=by unfold plt ng at *;simp;lia
theorem Bi(P):∀c,aV (ng P) (c.map ng)=(aV P c).map ng
 |[]=>rfl
 |[_]=>rfl
 |b::a::r=>by
  show aV (ng P) (ng b::ng a::r.map ng)=_;unfold aV;rw[nG];split
  .exact Bi P (a::r)
  .rfl
theorem g9:∀b,ak (b.map ng)=(ak b).map ng:=λb=>by
 have c:∀(l:List Pt) a,(l.map ng).foldl (λa P=>P::aV P a) (a.map ng)=(l.foldl (λa P=>P::aV P a) a).map ng:=by
  intro l
  induction l with
  |nil=>intro a;rfl
  |cons p r d=>
   intro a;rw[Lb,MF,MF,Bi];exact d (p::aV p a)
 exact c b []
theorem dC{row:List Pt}(hs:row.Pairwise plt):(row.reverse.map ng).Pairwise plt:=by
 rw[LY,O6];exact hs.imp λ{a b} h=>og h
theorem ci(a:List Pt):ak a.reverse=(ak (a.reverse.map ng)).map ng:=by rw[g9,Hc]
theorem qv{row Xj:List Pt}(hs:row.Pairwise plt)(d:Xj.Pairwise plt)(e:∀p∈Xj,p∈row)(c:∀p∈ak row.reverse,p∈Xj):ak Xj.reverse=ak row.reverse:=by
 rw[ci row,ci Xj];congr 1;refine ud (dC hs) (dC d) (λp a=>?_) (λp a=>?_)
 .obtain⟨q,b,rfl⟩:=KZ.mp a;exact KZ.mpr ⟨q,Ll.mpr (e q (Ll.mp b)),rfl⟩
 .rw[g9]at a;obtain⟨q,b,rfl⟩:=KZ.mp a;exact KZ.mpr ⟨q,Ll.mpr (c q b),rfl⟩
theorem ends(hs:row.Pairwise plt)(C:2<=row.length):∃a b h j,ak row=b::h/\ak row.reverse=a::j/\a∈h/\b∈j/\(∀p∈row,p=a\/plt a p)/\(∀p∈row,p=b\/plt p b)/\a∈row/\b∈row:=by
 have B:row≠[]:=λz=>by rw[z]at C;simp at C
 obtain⟨K,c,d⟩:=cU hs B;have e:row.reverse.map ng≠[]:=by simpa using B
 obtain⟨D,w,u⟩:=cU (dC hs) e;have n:row.head?=some row[0]:=by rw[Ny];exact KJ (by lia)
 have m:row.getLast?=some row[row.length-1]:=by rw[Mn];exact KJ (by lia)
 have g:=L0.mp hs 0 (row.length-1) (by lia) (by lia) (by lia)
 have o:∀p∈row,p=row[0]\/plt row[0] p:=λp l=>by
  obtain⟨i,t,rfl⟩:=SN.mp l;rcases QU i with z |z
  .left;subst z;rfl
  .right;exact L0.mp hs 0 i (by lia) t z
 have q:∀p∈row,p=row[row.length-1]\/plt p row[row.length-1]:=λp l=>by
  obtain⟨i,t,rfl⟩:=SN.mp l;rcases LC (show i<=row.length-1 by lia) with z |z
  .right;exact L0.mp hs i (row.length-1) t (by lia) z
  .left;subst z;rfl
 have A:row[0]≠row[row.length-1]:=λz=>by rw[z]at g;exact aM _ g
 generalize row[0]=a at *;generalize row[row.length-1]=b at *;have s:=Pc n;have v:=Ow m;rw[n]at c;rw[m]at d
 have f:(ak row.reverse).getLast?=some b:=by
  rw[ci,Qd,w,Q4,Tz,m];simp[iL]
 have k:(ak row.reverse).head?=some a:=by
  rw[ci,Q4,u,Qd,Qm,n];simp[iL]
 cases hb:ak row with
 |nil=>rw[hb]at d;cases d
 |cons x h=>
  rw[hb]at d c;cases d;cases hbR:ak row.reverse with
  |nil=>rw[hbR]at k;cases k
  |cons y j=>
   rw[hbR]at k f;cases k;refine⟨_,_,h,j,rfl,rfl,?_,?_,o,q,s,v⟩
   .cases h with
    |nil=>simp at c;exact absurd c.symm A
    |cons z r=>rw[MT]at c;exact Ow c
   .cases j with
    |nil=>simp at f;exact absurd f A
    |cons z r=>rw[MT]at f;exact Ow f
theorem Bq(a:List Pt):a.reverse.dropLast=a.tail.reverse:=by
 cases a with
 |nil=>rfl
 |cons h t=>simp
theorem iy{l:List Pt}:l.reverse.Nodup↔l.Nodup:=by
 unfold List.Nodup;rw[O6];exact⟨λh=>h.imp λk=>Ne.symm k,λh=>h.imp λk=>Ne.symm k⟩
theorem eQ:∀{l m:List Pt},l.Nodup->(∀x∈l,x∈m)->l.length<=m.length
 |[],_,_,_=>Mm _
 |x::l,m,h,hs=>by
  obtain⟨d,b⟩:=NN.mp h;have a:=hs x K0;have c:=eQ (m:=m.erase x) b λy hy=>(List.mem_erase_of_ne (λe=>d (by rw[<-e];exact hy))).mpr (hs y (KN _ hy));rw[List.length_erase_of_mem a]at c;have:=Mp a;simp only[Lk];lia
theorem dW(pts):(ST.srt pts).Pairwise plt:=jj.mp (ST.srt_asc pts)
theorem gK(h:2<=(ST.srt pts).length):aq pts=(ak (ST.srt pts)).tail.reverse++(ak (ST.srt pts).reverse).tail.reverse:=by
 unfold aq;rw[if_neg (by lia),Bq,Bq]
theorem jY(h:pts≠[]):aq pts≠[]:=by
 have b:ST.srt pts≠[]:=λz=>by
  obtain⟨p,r,rfl⟩:=QP h;have:=(ST.srt_mem p (p::r)).mpr K0;rw[z]at this;simp at this
 by_cases g:(ST.srt pts).length=1
 .unfold aq;rw[if_pos g];exact b
 .have a:2<=(ST.srt pts).length:=by have:=LF.mpr b;lia
  obtain⟨i,k,e,l,d,f,c,j,_⟩:=ends (dW pts) a;rw[gK a,d,f];intro z;have:e.reverse=[]:=(List.append_eq_nil_iff.mp z).1;rw[List.reverse_eq_nil_iff.mp this]at c;simp at c
theorem cq(pts):(aq pts).Nodup:=by
 have m:∀{l:List Pt},l.Pairwise plt->l.Nodup:=λh=>h.imp λ{a b} k e=>by rw[e]at k;exact aM b k
 by_cases w:2<=(ST.srt pts).length
 .have c:=dW pts;obtain⟨d,f,J,L,j,i,M,N,D,g,s,r⟩:=ends c w;have E:(f::J).Nodup:=by rw[<-j];exact iy.mp (m (jj.mp (eT c)))
  have I:(d::L).Nodup:=by
   rw[<-i,ci];have:=iy.mp (m (jj.mp (eT (dC c))));refine LY.mpr (this.imp λ{a b} A e=>A ?_);rw[<-iL a,e,iL]
  obtain⟨C,H⟩:=NN.mp E;obtain⟨K,G⟩:=NN.mp I;rw[gK w,j,i,Ou,Ou,OC];refine⟨iy.mpr H,iy.mpr G,λp x q y=>?_⟩;rintro rfl;have o:=Ll.mp x;have v:=Ll.mp y;have n:p∈ak (ST.srt pts):=by rw[j];exact KN _ o
  have B:p∈ak (ST.srt pts).reverse:=by rw[i];exact KN _ v
  have u:=ca _ _ n;have l1:=(D p u).resolve_left λe=>K (by rw[<-e];exact v);have l2:=(g p u).resolve_left λe=>C (by rw[<-e];exact o);have F:=qc c n d s f r l1 l2;have z:ng p∈ak ((ST.srt pts).reverse.map ng):=by rw[g9];exact KZ.mpr ⟨p,B,rfl⟩
  have t:=qc (dC c) z (ng f) (KZ.mpr ⟨f,Ll.mpr r,rfl⟩) (ng d) (KZ.mpr ⟨d,Ll.mpr s,rfl⟩) (og l2) (og l1);rw[nG]at t;unfold ah at F t;grind
 .unfold aq;split
  .exact m (dW pts)
  .have e:ST.srt pts=[]:=Nk.mp (by lia);rw[e];exact Vo
theorem b6(pts):∀p∈aq pts,p∈pts:=λp a=>by
 unfold aq at a;split at a
 .exact (ST.srt_mem p pts).mp a
 .rcases LG.mp a with h |h
  .exact (ST.srt_mem p pts).mp (ca _ _ (Ll.mp (SQ _ h)))
  .exact (ST.srt_mem p pts).mp (Ll.mp (ca _ _ (Ll.mp (SQ _ h))))
theorem lN(pts):(aq pts).length<=pts.length:=eQ (cq pts) (b6 pts)
theorem j_(pts):aq (aq pts)=aq pts:=by
 by_cases q:2<=(ST.srt pts).length
 .have m:=dW pts;obtain⟨f,i,F,G,c,g,k,r,E,t,D,C⟩:=ends m q;have h:=gK q
  have b:∀p∈ak (ST.srt pts),p∈aq pts:=λp a=>by
   rw[h,c,g,Ou,Ou];rw[c]at a;rcases KO.mp a with z |z
   .rw[z];exact Lv _ (Ll.mpr r)
   .exact LI _ (Ll.mpr z)
  have d:∀p∈ak (ST.srt pts).reverse,p∈aq pts:=λp a=>by
   rw[h,c,g,Ou,Ou];rw[g]at a;rcases KO.mp a with z |z
   .rw[z];exact LI _ (Ll.mpr k)
   .exact Lv _ (Ll.mpr z)
  have n:=dW (aq pts);have sub:∀p∈ST.srt (aq pts),p∈ST.srt pts:=λp a=>(ST.srt_mem p pts).mpr (b6 pts p ((ST.srt_mem p _).mp a));have w:=ud m n sub λp a=>(ST.srt_mem p _).mpr (b p a);have v:=qv m n sub λp a=>(ST.srt_mem p _).mpr (d p a)
  have j:2<=(ST.srt (aq pts)).length:=by
   have y:=(ST.srt_mem _ _).mpr (b f (by rw[c];exact KN _ k));have B:=(ST.srt_mem _ _).mpr (b i (by rw[c];exact K0))
   have s:f≠i:=λz=>by
    have o:=cq pts;rw[h,c,g,Ou,Ou,OC]at o;exact o.2.2 f (Ll.mpr k) i (Ll.mpr r) z
   have:=eQ (l:=[f,i]) (by simp[s]) (λx u=>by
    rcases KO.mp u with z |z
    .rw[z];exact y
    .rw[K9.mp z];exact B)
   exact this
  rw[gK j,w,v,<-h]
 .have e:aq pts=ST.srt pts:=by
   unfold aq;split
   .rfl
   .have e:ST.srt pts=[]:=Nk.mp (by lia);rw[e];rfl
  rw[e];have A:=ST.asc_srt (ST.srt_asc pts);unfold aq;rw[A];split
  .rfl
  .have e:ST.srt pts=[]:=Nk.mp (by lia);rw[e];rfl
def Ad:List U->Out->Prop:=λa o=>∃P Q R:P2,a=[pu P,pu Q,pu R]/\Szp 5000 P/\Szp 5000 Q/\Szp 5000 R/\o=.val (.int (sgn (ah P Q R)))
theorem lY:OkD P w base T.abA 2 (Ad):=by
 refine okD Eu (by walk_at"ln") ?_;rintro _ _ _ a ⟨P,Q,R,rfl,⟨d,e⟩,⟨g,f⟩,⟨c,b⟩,rfl⟩;refine ae (aJ (aQ (xC T) a (ac (bo (aY (bo (aw (aa 1 rfl) ag rfl rfl) (aw (aa 0 rfl) ag rfl rfl)) (bo (aw (aa 2 rfl) ag rfl rfl) (aw (aa 0 rfl) ag rfl rfl)) (by walk_at"mul")) (aY (bo (aw (aa 1 rfl) ag rfl rfl) (aw (aa 0 rfl) ag rfl rfl)) (bo (aw (aa 2 rfl) ag rfl rfl) (aw (aa 0 rfl) ag rfl rfl)) (by walk_at"mul"))) aj be) ⟨_,rfl,rfl⟩) ?_);exact rfl
def ot:List U->Out->Prop:=λb o=>∃a:List P2,b=[lp a]/\(∀p∈a,Szp 5000 p)/\a.length<=900/\o=.new ((ak a).reverse.map pu)
theorem iU:OkD P w base T.aaF 3 (ot):=by
 refine okD fM (by walk_at"ln") ?_;rintro _ _ _ hr ⟨row,rfl,sz,hl,rfl⟩;refine ae (fT (i:=1) fM.nd rfl (Or.inl rfl) (cE a_) ?_);refine ae (fQ (λst:List P2=>[some (.val (lp row)),some (.own (st.reverse.map pu)),none]) (λi st=>st=ak (row.take i)) rfl PassesOwn.never (bL (aa 0 rfl) (.inl rfl)) ?h0 ?hs ?hd)
 case h0=>exact⟨[],rfl,rfl,rfl,trivial⟩
 case hs=>
  rintro H0 i x _ hx rfl;obtain⟨P,hP,mP,rfl⟩:=uK hx;have hi:=aK hP;have sP:=sz P mP;refine⟨_,(g_ (i:=2) fM.nd rfl (Or.inl rfl)),?_⟩;have len0:=ix row i;refine my (λps=>SubP [some (.val (lp row)),some (.own ((aV P (ak (row.take i))).reverse.map pu)),some (.val (pu P))] ps) (im (λs2:List P2=>[some (.val (lp row)),some (.own (s2.reverse.map pu)),some (.val (pu P))]) (λm s2=>m=s2.length/\aV P s2=aV P (ak (row.take i))/\(∀p∈s2,p∈row)/\s2.length<=i) PassesOwn.never ?h0 ?hs) ?hj
  case h0=>exact⟨_,_,⟨rfl,rfl,λq hq=>f6 row i q hq,len0⟩,rfl,rfl,rfl,trivial⟩
  case hs=>
   rintro m s2 ⟨rfl,e2,sub,len2⟩
   match s2,e2,sub,len2 with
   |[],e2,sub,len2=>
    refine⟨false,?_,λh=>(nomatch h),λh ps WV=>e2 ▸ WV⟩;exact (Tw.t (kH (au e7 (cP 1 rfl rfl T.aaa) ag) rfl))
   |[b],e2,sub,len2=>
    refine⟨false,?_,λh=>(nomatch h),λh ps WV=>e2 ▸ WV⟩;exact (Tw.t (kH (au e7 (cP 1 rfl rfl T.aaa) ag) rfl))
   |b::a::r,e2,sub,len2=>
    have sa:=sz a (sub a (by simp));have sb:=sz b (sub b (by simp));have e1:decide (1<((((b::a::r).reverse.map pu).length:Nat):Int))=true:=decide_eq_true (by simp;lia);refine⟨decide (1<((((b::a::r).reverse.map pu).length:Nat):Int)) && decide (sgn (ah a b P)<1),?_,λh=>?_,λh ps WV=>?_⟩
    .exact (Tw.t (wI (au e7 (cP 1 rfl rfl T.aaa) ag) (λhz=>(wc (au eM (aQ (lY T) hr (ac (fq 1 rfl (ce ag) (xh b a r)) (ac (fq 1 rfl (ce ag) (yf b (a::r))) (ac (aa 2 rfl) aj af) aD) aD) ⟨a,b,P,rfl,sa,sb,sP,rfl⟩) ag)))))
    .rw[e1,OF,B_]at h;have hd:=dTb h;refine ae (Cv 1 rfl (by simp) (ay ?_))
     refine⟨_,a::r,?_,⟨rfl,?_,λq hq=>sub q (KN _ hq),?_⟩,rfl,?_,rfl,trivial⟩
     .simp
     .rw[←e2];conv=>rhs;unfold aV
      rw[if_pos hd]
     .simp only[Lk]at *;lia
     .exact congrArg (λl=>some (Sl.own l)) (by simp)
    .rw[e1,OF,B_]at h;have hd:=dFb h
     have e3:aV P (b::a::r)=b::a::r:=by conv=>lhs;unfold aV
                                        rw[if_neg hd]
     rw[<-e2,e3];exact WV
  case hj=>
   intro ps WV;refine d9 ?_ WV;have e4:=gh hP;have len3:=lZ P (ak (row.take i));refine ae (c8 1 rfl (aa 2 rfl) (by rw[KI,L3];exact am (by lia)) (ay ?_));refine⟨_,rfl,rfl,?_,trivial⟩;exact congrArg (λl=>some (Sl.own l)) (by rw[e4];simp)
 case hd=>
  rintro st ps Xd WV;refine d9 ?_ WV;refine ae (gu 1 rfl ?_);rw[Xd];simp
theorem BY(h:∀p∈pts,Szp m p):∀p∈ST.srt pts,Szp m p:=λp a=>h p ((ST.srt_mem p pts).mp a)
theorem jg(row):(ak row).length<=row.length:=by
 have:=ix row row.length
 rwa [Of]at this
def vt:List U->Out->Prop:=λb o=>∃a:List P2,b=[lp a]/\(∀p∈a,Szp 5000 p)/\a.length<64/\a≠[]/\o=.new ((aq a).map pu)
theorem jS:OkD P w base T.aaP 4 (vt):=by
 refine okD gX (by walk_at"ln") ?_;rintro _ _ _ d ⟨a,rfl,sz,e,k,rfl⟩;have l:((a.map pu).length)=a.length:=by rw[KI]
 have f:=LF.mpr k;refine ae (aL (au bA (ao (bj rfl) rfl T.aaa Ld (ac (aa 0 rfl) aj af)) ag) (by rw[l];exact decide_eq_false (by lia)) (ay ?_));have n:=ST.srt_len a;have c:(((ST.srt a).map pu).length)=((ST.srt a).length):=by rw[KI]
 have b:=BY sz;by_cases g:(ST.srt a).length=1
 .refine ae (fT (i:=1) gX.nd rfl (Or.inl rfl) (gg rfl (fU d) rfl T.aah rfl T.abp (aa 0 rfl) e af) ?_);refine ae (bY (au bA (cP 1 rfl rfl T.aaa) ag) (by rw[c];exact decide_eq_true (by lia)) ?_);refine ae (gu 1 rfl ?_);unfold aq;rw[if_pos g]
 .refine ae (aA 1 gX.nd (EvN.ev (gg rfl (fU d) rfl T.aah rfl T.abp (aa 0 rfl) e af)) ?_);refine ae (aL (au bA (ao (bj rfl) rfl T.aaa Ld (ac (aa 1 rfl) aj af)) ag) (by rw[c];exact decide_eq_false (by lia)) (ay ?_));have m:=jg (ST.srt a);have j:=jg (ST.srt a).reverse;rw[L3]at j;refine ae (aA 2 gX.nd (EvN.ev (dy (iU T) d (ac (aa 1 rfl) aj af) ⟨ST.srt a,rfl,b,by lia,rfl⟩)) ?_)
  refine ae (aA 3 gX.nd (EvN.ev (dy (iU T) d (ac (EvN.ev (Ju (aa 1 rfl) (ce ag) (.inl rfl))) aj aD) ⟨(ST.srt a).reverse,by rw[lp,Nt],λp h=>b p (Ll.mp h),by rw[L3];lia,rfl⟩)) ?_);refine ae (c7 (mM (EvN.ev (df (aa 2 rfl) dh (dr (ce ag)) (.inl rfl))) (EvN.ev (df (aa 3 rfl) dh (dr (ce ag)) (.inl rfl))) (by rw[ii,ii,KI,KI,Mz,Mz,L3,L3];exact La (am (by lia)))) ?_);unfold aq;rw[if_neg g,ii,ii,<-LO]
def ap(a b c d e f:Int)(p:P2):P2:=(a*p.1+b*p.2+e,c*p.1+d*p.2+f)
theorem FY(h:Sz 500 a)(o:Sz 500 b)(l:Sz 500 c)(q:Sz 500 d)(t:Sz 500 e)(n:Sz 500 f)(u:m<=3000)(s:Szp m p):Szp (m+510) (ap a b c d e f p):=by
 have g:∀{x y z:Int},Sz 500 x->Sz 500 y->Sz 500 z->Sz (m+510) (x*p.1+y*p.2+z):=λi k sz=>by
  have r:=L2.Sz.add' (L2.Sz.mul i s.1) (L2.Sz.mul k s.2);have j:=L2.Sz.add' r sz;exact j.mono (by lia)
 exact⟨g h o t,g l q n⟩
def EX:List U->Out->Prop:=λh o=>∃(g:List P2) (a b c d e f:Int),h=[lp g,mv a b c d e f]/\Mv a b c d e f/\(∀p∈g,Szp 3000 p)/\(∀p∈g,Szp 5000 (ap a b c d e f p))/\g≠[]/\g.length<64/\o=.new ((aq (g.map (ap a b c d e f))).map pu)
theorem nR:OkD P w base T.aaw 5 (EX):=by
 refine okD ie (by walk_at"ln") ?_;rintro _ _ _ l ⟨g,a,b,c,d,e,f,rfl,M,sz,o,r,s,rfl⟩;refine ae (c7 (dy (jS T) l (ac (EvN.ev (bv (ys:=(g.map λp=>pu (ap a b c d e f p))) rfl (blk (ai fH) ["land","move","P"] [2] rfl rfl rfl rfl (by decide+kernel)) (EvI.z (bL (aa 0 rfl) (.inl rfl))) (λ_ _ _ _=>aB (i:=2) ie.nd rfl (Or.inl rfl)) (bS (by decide)) ?clen ?csz (λ_ _=>trivial) ?celt)) aj bF) ⟨g.map (ap a b c d e f),by rw[lp,Lh];rfl,λp h=>by obtain⟨q,n,rfl⟩:=KZ.mp h;exact o q n,by rw[KI];exact s,by simpa using r,rfl⟩) ?_)
 case clen=>simp
 case csz=>rw[KI];exact La (am (by lia))
 case celt=>
  intro C t u v j x y m hy;obtain⟨p,h,k,rfl,rfl⟩:=bG m hy;exact (aQ (jE T) l (ac (aa 2 rfl) (ac (aa 1 rfl) aj af) af) ⟨p.1,p.2,a,b,c,d,e,f,rfl,M,(sz p k).1.mono (by decide),(sz p k).2.mono (by decide),rfl⟩)
 exact rfl
theorem mX(h:ST.srt l=ST.srt m):aq l=aq m:=by unfold aq;rw[h]
theorem ki(h:∀z,z∈l↔z∈m):ST.srt l=ST.srt m:=ST.asc_one (ST.srt_asc l) (ST.srt_asc m) λz=>by rw[ST.srt_mem,ST.srt_mem];exact h z
theorem cw(h:¬ 2<=(ST.srt pts).length):aq pts=ST.srt pts:=by
 unfold aq;split
 .rfl
 .have e:ST.srt pts=[]:=Nk.mp (by lia);rw[e];rfl
section
variable {f:Pt→Pt}
theorem DN(d:∀a b,plt a b->plt (f a) (f b))(l):ST.srt (l.map f)=(ST.srt l).map f:=by
 refine ST.asc_one (ST.srt_asc _) (jj.mpr (LY.mpr ((dW l).imp λ{a b} h=>d a b h))) λz=>?_;rw[ST.srt_mem,KZ,KZ];exact⟨λ⟨x,c,e⟩=>⟨x,(ST.srt_mem x l).mpr c,e⟩,λ⟨x,c,e⟩=>⟨x,(ST.srt_mem x l).mp c,e⟩⟩
theorem xB(d:∀a b c,ah (f a) (f b) (f c)<=0↔ah a b c<=0)(P):∀e,aV (f P) (e.map f)=(aV P e).map f
 |[]=>rfl
 |[_]=>rfl
 |b::a::r=>by
  show aV (f P) (f b::f a::r.map f)=_;unfold aV;by_cases h:ah a b P<=0
  .rw[if_pos h,if_pos ((d a b P).mpr h)];exact xB d P (a::r)
  .rw[if_neg h,if_neg λz=>h ((d a b P).mp z)];rfl
theorem oS(g:∀a b c,ah (f a) (f b) (f c)<=0↔ah a b c<=0)(row):ak (row.map f)=(ak row).map f:=by
 have e:∀(l:List Pt) d,(l.map f).foldl (λd P=>P::aV P d) (d.map f)=(l.foldl (λd P=>P::aV P d) d).map f:=by
  intro l
  induction l with
  |nil=>intro d;rfl
  |cons p r h=>
   intro d;rw[Lb,MF,MF,xB g];exact h (p::aV p d)
 exact e row []
theorem jD(e:∀a b,plt a b->plt (f a) (f b))(d:∀a b c,ah (f a) (f b) (f c)<=0↔ah a b c<=0)(l):aq (l.map f)=(aq l).map f:=by
 unfold aq;rw[DN e,KI,<-Nt,oS d,oS d];split
 .rfl
 .rw[LO,Ri,Ri,Nt,Nt]
end
def scl(k:Int)(p:Pt):Pt:=(k*p.1,k*p.2)
theorem qk(c:0<k)(a b)(h:plt a b):plt (scl k a) (scl k b):=by
 unfold plt scl at *;rcases h with h |⟨e,d⟩
 .exact .inl (Pf h c)
 .exact .inr ⟨by rw[e],Pf d c⟩
theorem xq(d:0<k)(a b c):ah (scl k a) (scl k b) (scl k c)<=0↔ah a b c<=0:=by
 have e:ah (scl k a) (scl k b) (scl k c)=(k*k) *ah a b c:=by unfold ah scl;grind
 have f:=L5 d d;rw[e];constructor
 .intro h;refine Md λz=>?_;have:=L5 f (show 0<ah a b c by lia);lia
 .intro h;have:=LK (show 0<=k*k by lia) (show 0<=- ah a b c by lia);rw[Rw]at this;lia
theorem rS(p):scl 1 p=p:=by unfold scl;simp
def ky:List Int->Int
 |[]=>0
 |a::l=>l.foldl min a
theorem iQ:∀l (a:Int),l.foldl min a∈a::l
 |[],a=>by simp
 |b::l,a=>by
  have:=iQ l (min a b);rw[MF];rcases KO.mp this with e |e
  .rw[e];rcases Sw a b with h |h
   .rw[Sx h];simp
   .rw[Int.min_eq_right h];simp
  .exact KN _ (KN _ e)
theorem jq:∀l (a:Int),∀x∈a::l,l.foldl min a<=x
 |[],a,x,h=>by simp at h;rw[h];exact Qe _
 |b::l,a,x,h=>by
  have ih:=jq l (min a b);rw[MF];have c:=ih (min a b) K0;rcases KO.mp h with rfl |h
  .lia
  .rcases KO.mp h with rfl |h
   .lia
   .exact ih x (KN _ h)
theorem bT(h:l≠[]):ky l∈l/\∀a∈l,ky l<=a:=by
 cases l with
 |nil=>exact absurd rfl h
 |cons a l=>exact⟨iQ l a,jq l a⟩
theorem CH(h:a<=b):sgn a<=sgn b:=by
 unfold sgn;split <;>split <;>(try split) <;>(try split) <;>lia
theorem Fn(h:l≠[]):sgn (ky l)∈l.map sgn/\∀a∈l.map sgn,sgn (ky l)<=a:=by
 obtain⟨f,c⟩:=bT h;refine⟨LU f,λa d=>?_⟩;obtain⟨b,e,rfl⟩:=KZ.mp d;exact CH (c b e)
abbrev gp(l:List P2)(i:Nat):P2:=l.getD i (0,0)
def nxt(l:List P2)(i:Nat):P2:=gp l ((i+1)%l.length)
def sdl(l:List P2):List (P2×P2):=(LP l.length).map λi=>(gp l i,nxt l i)
abbrev pq(s:P2×P2):U:=.tup [pu s.1,pu s.2]
theorem eF(h:i<l.length):l[i]?=some (gp l i):=by simp[gp,h]
theorem dl(h:i<l.length):gp l i∈l:=Lo (eF h)
theorem pz(l):iF l (some 1) none=l.drop 1:=by
 unfold iF HT.sIx;cases l with
 |nil=>simp
 |cons a l=>simp
theorem xN(l):iF l none (some 1)=l.take 1:=by
 unfold iF HT.sIx;cases l with
 |nil=>simp
 |cons a l=>simp
theorem C1(l):PJ (λa b=>U.tup [a,b]) (l.map pu) (iF (l.map pu) (some 1) none++iF (l.map pu) none (some 1))=(sdl l).map pq:=by
 rw[pz,xN];apply N8;intro i;unfold sdl;by_cases d:i<l.length
 .have f:(l.map pu)[i]?=some (pu (gp l i)):=by rw[K5,eF d];rfl
  have g:((l.map pu).drop 1++(l.map pu).take 1)[i]?=some (pu (nxt l i)):=by
   unfold nxt;by_cases c:i+1<l.length
   .rw[Lp (by simp;lia),Oh,Uk,Mc c,K5,eF c];rfl
   .have e:i+1=l.length:=by lia
    rw[Lq (by simp;lia),e,Sy];rw[show i-((l.map pu).drop 1).length=0 by simp;lia,M9 (by lia),K5,eF (by lia)];rfl
  rw[Qq.mpr ⟨_,_,f,g,rfl⟩,Lh,K5,NC d];rfl
 .rw[LJ (by simp;lia),LJ (by simp;lia)]
theorem fB(l):(sdl l).length=l.length:=by simp[sdl]
theorem c9(h:s∈sdl l):s.1∈l/\s.2∈l:=by
 obtain⟨i,b,rfl⟩:=KZ.mp h;have a:=Lx.mp b;exact⟨dl a,dl (NF _ (by lia))⟩
def wG:List U->Out->Prop:=λa o=>∃l:List P2,a=[lp l]/\l.length<=900/\o=.new ((sdl l).map pq)
theorem gU:OkD P w base T.abv 1 (wG):=by
 refine okD A4 (by walk_at"ln") ?_;rintro _ _ _ b ⟨l,rfl,c,rfl⟩;have a:(iF (l.map pu) (some 1) none++iF (l.map pu) none (some 1)).length=l.length:=by rw[pz,xN];simp;lia
 refine ae (c7 (pQ rfl rfl T.aal rfl T.aa3 (aa 0 rfl) (.inl rfl) (EvN.ev (mM (EvN.ev (df (aa 0 rfl) (dr ag) dh (.inl rfl))) (EvN.ev (df (aa 0 rfl) dh (dr ag) (.inl rfl))) (by rw[<-LB,a];exact La (am (by lia))))) (.inl rfl) af be) ?_);rw[C1]
def btw(P Q R:P2):Bool:=decide (ah P Q R=0) && (ST.leP P R && ST.leP R Q)
def gH(l:List P2)(p:P2):List Int:=(sdl l).map λs=>ah s.1 s.2 p
def whr(l:List P2)(p:P2):Int:=if l.length<3 then (if btw (gp l 0) (gp l (l.length-1)) p=true then 0 else -1) else sgn (ky (gH l p))
theorem IM(h:0<l.length):atI (l.map pu) 0=some (pu (gp l 0)):=cQ rfl (by rw[K5,eF h];rfl)
theorem xD(h:0<l.length):atI (l.map pu) (-1)=some (pu (gp l (l.length-1))):=by
 have e:ixN (l.map pu).length (-1)=some (l.length-1):=by
  unfold ixN;simp;lia
 unfold atI;rw[e];show (l.map pu)[l.length-1]?=_;rw[K5,eF (by lia)];rfl
def gst(s:P2×P2):Int:=((Ot (s.2.1-s.1.1) (s.2.2-s.1.2):Nat):Int)
def crs(s:P2×P2):Int:=s.1.1*s.2.2-s.1.2*s.2.1
def area(l:List P2):Int:=((sdl l).map crs).sum
def md(l:List P2):Int:=((sdl l).map gst).sum
def pin(l:List P2):Int:=if l.length<3 then 0 else (area l-md l+2)/2
theorem lV(h:s.1≠s.2):0<gst s:=by
 unfold gst
 have:Ot (s.2.1-s.1.1) (s.2.2-s.1.2)≠0:=λe=>by
  have:=Int.gcd_eq_zero_iff.mp e;exact h (Mo (by lia) (by lia))
 lia
def ev(p:P2):Int:=if p.1%2=0/\p.2%2=0 then 1 else 0
theorem l5(l):(sdl l).map (·.1)=l:=by
 apply N8;intro i;unfold sdl;rw[Lh];by_cases a:i<l.length
 .rw[K5,NC a,eF a];rfl
 .rw[LJ (by simp;lia),LJ (by lia)]
theorem qR(l):(sdl l).map (·.2)=l.drop 1++l.take 1:=by
 apply N8;intro i;unfold sdl;rw[Lh];by_cases b:i<l.length
 .rw[K5,NC b];show some (nxt l i)=_;unfold nxt;by_cases a:i+1<l.length
  .rw[Lp (by simp;lia),Oh,show 1+i=i+1 by lia,Mc a,eF a]
  .have e:i+1=l.length:=by lia
   rw[Lq (by simp;lia),e,Sy];rw[show i-(l.drop 1).length=0 by simp;lia,M9 (by lia),eF (by lia)]
 .rw[LJ (by simp;lia),LJ (by simp;lia)]
theorem uA{α:Type}(f g:α->Int):∀l:List α,(l.map λs=>f s-g s).sum=(l.map f).sum-(l.map g).sum
 |[]=>rfl
 |a::l=>by simp only[Lb,Mg,uA f g l];lia
theorem uQ{α:Type}(f g:α->Int):∀l:List α,(l.map λs=>f s+g s).sum=(l.map f).sum+(l.map g).sum
 |[]=>rfl
 |a::l=>by simp only[Lb,Mg,uQ f g l];lia
theorem Ho(h:l.Nodup)(j:2<=l.length):∀s∈sdl l,s.1≠s.2:=λs c e=>by
 obtain⟨i,g,rfl⟩:=KZ.mp c;have a:=Lx.mp g;have d:(i+1)%l.length<l.length:=NF _ (by lia);have f:gp l i=gp l ((i+1)%l.length):=e;have:l[i]?=l[(i+1)%l.length]?:=by rw[eF a,eF d,f]
 have:=(Pd a h).mp this;by_cases b:i+1<l.length
 .rw[Mc b]at this;lia
 .have e:i+1=l.length:=by lia
  rw[e,Sy]at this;lia
theorem qb{l:List P2}(h:m<=n)(k:∀p∈l,Szp m p):∀p∈l,Szp n p:=λp a=>⟨(k p a).1.mono h,(k p a).2.mono h⟩
def zS:List U->Out->Prop:=λa o=>∃l:List P2,a=[lp l]/\l.length<=900/\(∀p∈l,Szp 2500 p)/\o=.val (.int (area l))
theorem oA:OkD P w base T.aav 2 (zS):=by
 refine okD eV (by walk_at"ln") ?_;rintro _ _ _ d ⟨l,rfl,e,sz,rfl⟩;refine ae (aJ (ao (gQ rfl ) rfl T.aaN Rx (ac (EvN.ev (bv (ys:=(((sdl l).map crs).map U.int)) rfl (blk (ai fL) ["land","A","B"] [1,2] rfl rfl rfl rfl (by decide+kernel)) (EvI.z (bL (EvN.ev (dy (gU T) d (ac (aa 0 rfl) aj af) ⟨l,rfl,e,rfl⟩)) (.inl rfl))) (λ_ _ _ _=>c6 rfl (aC (aB (i:=1) eV.nd rfl (Or.inl rfl)) (aC (aB (i:=2) eV.nd rfl (Or.inl rfl)) bO))) (cy (js:=[1,2]) (by decide)) ?clen ?csz ?dom ?celt)) aj bF)) ?_)
 case clen=>simp
 case csz=>simp only[fB,KI];exact La (am (by lia))
 case dom=>
  intro x a;obtain⟨s,_,rfl⟩:=KZ.mp a;exact⟨_,rfl,rfl⟩
 case celt=>
  intro C g h o j x y a hy;rw[Lh]at hy;obtain⟨s,n,f,rfl,rfl⟩:=bG a hy;obtain⟨b,c⟩:=c9 f;have p:=(sz _ b).1;have m:=(sz _ b).2;have k:=(sz _ c).1;have q:=(sz _ c).2;exact (bo (aY (aw (aa 1 rfl) ag rfl rfl) (aw (aa 2 rfl) ag rfl rfl) (by walk_at"mul")) (aY (aw (aa 1 rfl) ag rfl rfl) (aw (aa 2 rfl) ag rfl rfl) (by walk_at"mul")))
 exact rfl
theorem ui:∀{c},iK done c->∀k {a b},c[k]?=some b->c[k+1]?=some a->∀q∈done,0<=ah a b q
 |[],_,k,_,_,h,_=>by simp at h
 |[_],_,k,_,_,_,h=>by simp at h
 |x::y::r,C,0,a,b,h1,h2=>by
  simp at h1 h2;subst h1;subst h2;exact C.1
 |x::y::r,C,k+1,a,b,h1,h2=>ui C.2 k (by simpa using h1) (by simpa using h2)
theorem uy:∀{d},kL d->∀k {a b c},d[k]?=some c->d[k+1]?=some b->d[k+2]?=some a->0<ah a b c
 |[],_,k,_,_,_,h,_,_=>by simp at h
 |[_],_,k,_,_,_,_,h,_=>by simp at h
 |[_,_],_,k,_,_,_,_,_,h=>by simp at h
 |x::y::z::r,C,0,a,b,c,h1,h2,h3=>by
  simp at h1 h2 h3;subst h1;subst h2;subst h3;exact C.1
 |x::y::z::r,C,k+1,a,b,c,h1,h2,h3=>uy C.2 k (by simpa using h1) (by simpa using h2) (by simpa using h3)
theorem Ax{c:List Pt}(e:c.reverse[i]?=some a)(d:c.reverse[i+1]?=some b):∃k,c[k]?=some b/\c[k+1]?=some a:=by
 have l2:i+1<c.length:=by have:=(K_.mp d).1;simpa using this
 rw[MJ (by lia)]at e
 rw[MJ l2]at d;exact⟨c.length-1-(i+1),d,by rw[<-e];congr 1;lia⟩
theorem yV{d:List Pt}(g:d.reverse[i]?=some a)(f:d.reverse[i+1]?=some b)(e:d.reverse[i+2]?=some c):∃k,d[k]?=some c/\d[k+1]?=some b/\d[k+2]?=some a:=by
 have h:i+2<d.length:=by have:=(K_.mp e).1;simpa using this
 rw[MJ (by lia)]at g
 rw[MJ (by lia)]at f
 rw[MJ h]at e;exact⟨d.length-1-(i+2),e,by rw[<-f];congr 1;lia,by rw[<-g];congr 1;lia⟩
theorem gT(hs:row.Pairwise plt)(h:row≠[])(f:(ak row).reverse[i]?=some a)(c:(ak row).reverse[i+1]?=some b):∀q∈row,0<=ah a b q:=by
 obtain⟨k,d,e⟩:=Ax f c;exact ui (cU hs h).1.cover k d e
theorem i6(hs:row.Pairwise plt)(h:row≠[])(l:(ak row).reverse[i]?=some a)(d:(ak row).reverse[i+1]?=some b)(j:(ak row).reverse[i+2]?=some c):0<ah a b c:=by
 obtain⟨k,e,g,f⟩:=yV l d j;exact uy (cU hs h).1.turns k e g f
theorem gf{b:List Pt}{i:Nat}(c:(ak b.reverse).reverse[i]?=some a):(ak (b.reverse.map ng)).reverse[i]?=some (ng a):=by
 rw[ci,<-Nt,K5]at c;cases e:(ak (b.reverse.map ng)).reverse[i]? with
 |none=>rw[e]at c;cases c
 |some z=>rw[e]at c;cases c;rw[iL]
theorem nv{row:List Pt}(hs:row.Pairwise plt)(h:row≠[]){i:Nat}{a b:Pt}(e:(ak row.reverse).reverse[i]?=some a)(c:(ak row.reverse).reverse[i+1]?=some b):∀q∈row,0<=ah a b q:=λq d=>by
 have:=gT (dC hs) (by simpa using h) (gf e) (gf c) (ng q) (LU (Ll.mpr d))
 rwa [nG]at this
theorem o9(hs:row.Pairwise plt)(h:row≠[])(f:(ak row.reverse).reverse[i]?=some a)(d:(ak row.reverse).reverse[i+1]?=some b)(e:(ak row.reverse).reverse[i+2]?=some c):0<ah a b c:=by
 have:=i6 (dC hs) (by simpa using h) (gf f) (gf d) (gf e)
 rwa [nG]at this
theorem AV(b:b8 u1 u2)(a:b8 v1 v2)(f:u1*v2-u2*v1=0)(i:u1*w2-u2*w1<=0)(h:0<=v1*w2-v2*w1):u1*w2-u2*w1=0/\v1*w2-v2*w1=0:=by
 have k:v1*(u1*w2-u2*w1)=u1*(v1*w2-v2*w1):=by grind
 have j:v2*(u1*w2-u2*w1)=u2*(v1*w2-v2*w1):=by grind
 have g:∀{s t A B:Int},0<s->0<t->s*A=t*B->A<=0->0<=B->A=0/\B=0:=λ{s t A B} r q e o l=>by
  have p:s*A<=0:=Mb (by lia) o;have u:0<=t*B:=LK (by lia) l;have n:s*A=0:=by lia
  have m:t*B=0:=by lia
  refine⟨(LR.mp n).resolve_left (by lia),(LR.mp m).resolve_left (by lia)⟩
 rcases b with b |⟨b,c⟩
 .rcases a with a |⟨a,d⟩
  .exact g a b k i h
  .rw[a]at f;have:=L5 b d;lia
 .rcases a with a |⟨a,d⟩
  .rw[b]at f;have:=L5 c a;lia
  .exact g d c j i h
theorem yH(d:plt a m)(e:plt c m)(h:ah a m c=0)(f:0<=ah a m q)(b:0<=ah m c q):ah a m q=0/\ah m c q=0:=by
 have k:=AV (w1:=m.1-q.1) (w2:=m.2-q.2) (aG d) (aG e) (by unfold ah at h;grind) (by unfold ah at f;grind) (by unfold ah at b;grind);unfold ah;exact⟨by grind,by grind⟩
theorem Fo(a b c):ah a b c=ah b c a:=by unfold ah;grind
theorem JM(hs:row.Pairwise plt)(f:row≠[])(r:(ak row).reverse[i]?=some a)(o:(ak row).reverse[i+1]?=some m)(w:(ak row).length=i+2)
  (h3:(ak row.reverse).reverse[0]?=some m) (h4:(ak row.reverse).reverse[1]?=some c) (ha:plt a m) (hc:plt c m) (big:2<(ak row).length\/2<(ak row.reverse).length):0<ah a m c:=by
 have mem:∀{j}{p},(ak row).reverse[j]?=some p->p∈row:=λh=>ca row _ (Ll.mp (Lo h));have d:∀{j}{p},(ak row.reverse).reverse[j]?=some p->p∈row:=λh=>Ll.mp (ca _ _ (Ll.mp (Lo h)));have n:=gT hs f r o;have u:=nv hs f h3 h4;have s:=n c (d h4);rcases L8 s with z |z
 .exact z
 .exfalso
  have l:∀q∈row,ah a m q=0/\ah m c q=0:=λq k=>yH ha hc z.symm (n q k) (u q k);rcases big with b |b
  .have v:0<i:=by lia
   have g:i-1<(ak row).reverse.length:=by simp;lia
   have e:=KJ g;have t:=i6 hs f e (by rw[Nat.sub_add_cancel v];exact r) (by rw[show i-1+2=i+1 by lia];exact o);rw[Fo,(l _ (mem e)).1]at t;lia
  .have g:2<(ak row.reverse).reverse.length:=by simpa using b
   have e:=KJ g;have t:=o9 hs f h3 h4 e;rw[(l _ (d e)).2]at t;lia
structure Ij(row T B:List Pt)(mn mx:Pt):Prop where
 t0:T[0]?=some mn
 t1:T[T.length-1]?=some mx
 b0:B[0]?=some mx
 b1:B[B.length-1]?=some mn
 lt:2<=T.length
 lb:2<=B.length
 least:∀p∈row,p=mn\/plt mn p
 most:∀p∈row,p=mx\/plt p mx
theorem F4{l:List Pt}:l.reverse[0]?=l.getLast?:=by rw[List.getLast?_eq_head?_reverse,Ny]
theorem FX{l:List Pt}:l.reverse[l.reverse.length-1]?=l.head?:=by rw[<-Mn,Qm]
theorem Fd(hs:row.Pairwise plt)(g:2<=row.length):∃b c,Ij row (ak row).reverse (ak row.reverse).reverse b c:=by
 have n:row≠[]:=λz=>by rw[z]at g;simp at g
 obtain⟨b,c,t,u,k,d,p,q,least,a,_,_⟩:=ends hs g;obtain⟨K,r,e⟩:=cU hs n;obtain⟨s,i,h⟩:=cU (dC hs) (by simpa using n);have l1:2<=(ak row).length:=by rw[k];have:=Mp p;simp;lia
 have l2:2<=(ak row.reverse).length:=by rw[d];have:=Mp q;simp;lia
 have l:row.head?=some row[0]:=by rw[Ny];exact KJ (by lia)
 have f:row.getLast?=some row[row.length-1]:=by rw[Mn];exact KJ (by lia)
 have o:row[0]=b:=by
  have m:=h;rw[Qd,Qm,l]at m;have:(ak row.reverse).head?=some row[0]:=by rw[ci,Q4,m];simp[iL]
  rw[d]at this;exact (LN this).symm
 have j:row[row.length-1]=c:=by
  rw[f,k]at e;exact (LN e).symm
 refine⟨b,c,?_,?_,?_,?_,by simpa using l1,by simpa using l2,least,a⟩
 .rw[F4,r,l,o]
 .rw[FX,e,f,j]
 .rw[F4,ci,Qd,i,Q4,Tz,f,j];simp[iL]
 .rw[FX,d];rfl
section
variable {row T B:List Pt}{mn mx:Pt}
theorem jT(W:Ij row T B mn mx)(c:k<=T.length-1):(T.dropLast++B.dropLast)[k%(T.dropLast++B.dropLast).length]?=T[k]?:=by
 have b:=W.lb;have a:(T.dropLast++B.dropLast).length=T.length-1+(B.length-1):=by simp
 rw[a,Mc (by lia)];by_cases h:k<T.length-1
 .rw[Lp (by simpa using h),ON,if_pos h]
 .obtain rfl:k=T.length-1:=by lia
  rw[Lq (by simp),Mz,VY,ON,if_pos (by lia),W.b0,W.t1]
theorem E_(W:Ij row T B mn mx)(b:T.length-1<=k)(c:k<=T.length-1+(B.length-1)):(T.dropLast++B.dropLast)[k%(T.dropLast++B.dropLast).length]?=B[k-(T.length-1)]?:=by
 have a:(T.dropLast++B.dropLast).length=T.length-1+(B.length-1):=by simp
 by_cases h:k<T.length-1+(B.length-1)
 .rw[a,Mc h,Lq (by simpa using b),Mz,ON,if_pos (by lia)]
 .obtain rfl:k=T.length-1+(B.length-1):=by lia
  have:=jT W (k:=0) (by lia);rw[VZ]at this;rw[a,Sy,this,W.t0,show T.length-1+(B.length-1)-(T.length-1)=B.length-1 by lia,W.b1]
end
theorem some_of{l:List Pt}(h:i<l.length):∃a,l[i]?=some a:=⟨_,KJ h⟩
theorem i8(R:2<=(ST.srt pts).length)(G:i<(aq pts).length):∃a b,(aq pts)[i]?=some a/\(aq pts)[(i+1)%(aq pts).length]?=some b/\(∀p∈pts,0<=ah a b p)/\(2<(aq pts).length->∃c,(aq pts)[(i+2)%(aq pts).length]?=some c/\0<ah a b c):=by
 have o:=dW pts;have D:ST.srt pts≠[]:=λz=>by rw[z]at R;simp at R
 obtain⟨mn,mx,W⟩:=Fd o R;have YL:∀p∈pts,p∈ST.srt pts:=λp H=>(ST.srt_mem p pts).mpr H
 have hc:aq pts=(ak (ST.srt pts)).reverse.dropLast++(ak (ST.srt pts).reverse).reverse.dropLast:=by
  unfold aq;rw[if_neg (by omega)]
 have tc:∀{j:Nat}{a b:Pt},(ak (ST.srt pts)).reverse[j]?=some a->(ak (ST.srt pts)).reverse[j+1]?=some b->∀q∈ST.srt pts,0<=ah a b q:=λh x=>gT o D h x;have tt:∀{j:Nat}{a b c:Pt},(ak (ST.srt pts)).reverse[j]?=some a->(ak (ST.srt pts)).reverse[j+1]?=some b->(ak (ST.srt pts)).reverse[j+2]?=some c->0<ah a b c:=λh x C=>i6 o D h x C;have bc:∀{j:Nat}{a b:Pt},(ak (ST.srt pts).reverse).reverse[j]?=some a->(ak (ST.srt pts).reverse).reverse[j+1]?=some b->∀q∈ST.srt pts,0<=ah a b q:=λh x=>nv o D h x;have bt:∀{j:Nat}{a b c:Pt},(ak (ST.srt pts).reverse).reverse[j]?=some a->(ak (ST.srt pts).reverse).reverse[j+1]?=some b->(ak (ST.srt pts).reverse).reverse[j+2]?=some c->0<ah a b c:=λh x C=>o9 o D h x C;have YY:∀{j:Nat}{p:Pt},(ak (ST.srt pts)).reverse[j]?=some p->p∈ST.srt pts:=λh=>ca _ _ (Ll.mp (Lo h));have s:∀{j:Nat}{p:Pt},(ak (ST.srt pts).reverse).reverse[j]?=some p->p∈ST.srt pts:=λh=>Ll.mp (ca _ _ (Ll.mp (Lo h)));have Q:(ak (ST.srt pts)).reverse.Nodup:=(eT o).imp λ{a b} h e=>by subst e;exact aM _ ((e8 _ _).mpr h)
 have S:(ak (ST.srt pts).reverse).reverse.Nodup:=by
  rw[ci,<-Nt];have V:(ak ((ST.srt pts).reverse.map ng)).reverse.Nodup:=(eT (dC o)).imp λ{a b} h e=>by subst e;exact aM _ ((e8 _ _).mpr h)
  exact N_ _ (λa b (h:a≠b) e=>h (by have:=congrArg ng e;rwa [iL,iL]at this)) V
 have m1:∀{j:Nat}{a m c:Pt},(ak (ST.srt pts)).reverse[j]?=some a->(ak (ST.srt pts)).reverse[j+1]?=some m->(ak (ST.srt pts)).length=j+2->(ak (ST.srt pts).reverse).reverse[0]?=some m->(ak (ST.srt pts).reverse).reverse[1]?=some c->plt a m->plt c m->2<(ak (ST.srt pts)).length\/2<(ak (ST.srt pts).reverse).length->0<ah a m c:=λr y w a4 a5 Y P a8=>JM o D r y w a4 a5 Y P a8
 have m2:∀{j:Nat}{a m c:Pt},(ak (ST.srt pts).reverse).reverse[j]?=some a->(ak (ST.srt pts).reverse).reverse[j+1]?=some m->(ak (ST.srt pts).reverse).length=j+2->(ak (ST.srt pts)).reverse[0]?=some m->(ak (ST.srt pts)).reverse[1]?=some c->plt m a->plt m c->2<(ak (ST.srt pts)).length\/2<(ak (ST.srt pts).reverse).length->0<ah a m c:=λ{j a m c} r y w a4 a5 Y P a8=>by
  have er:((ST.srt pts).reverse.map ng).reverse=(ST.srt pts).map ng:=by rw[<-Nt,SR]
  have fw:∀{k:Nat}{p:Pt},(ak (ST.srt pts)).reverse[k]?=some p->(ak ((ST.srt pts).reverse.map ng).reverse).reverse[k]?=some (ng p):=λ{k p} h=>by
   rw[er,g9,<-Nt,K5,h];rfl
  have lb:(ak ((ST.srt pts).reverse.map ng)).length=(ak (ST.srt pts).reverse).length:=by rw[ci,KI]
  have lt:(ak ((ST.srt pts).reverse.map ng).reverse).length=(ak (ST.srt pts)).length:=by rw[er,g9,KI]
  have:=JM (dC o) (by simpa using D) (gf r) (gf y) (by rw[lb];exact w) (fw a4) (fw a5) (og Y) (og P) (by rw[lb,lt];exact a8.symm)
  rwa [nG]at this
 rw[hc]at G |-;have lT:(ak (ST.srt pts)).reverse.length=(ak (ST.srt pts)).length:=L3;have X:(ak (ST.srt pts).reverse).reverse.length=(ak (ST.srt pts).reverse).length:=L3;generalize (ak (ST.srt pts)).reverse=T at *;generalize (ak (ST.srt pts).reverse).reverse=B at *;have Z:=W.lt;have U:=W.lb;obtain⟨t,n⟩:∃t,T.length=t+1:=⟨T.length-1,by omega⟩
 obtain⟨u,v⟩:∃u,B.length=u+1:=⟨B.length-1,by omega⟩
 have t1:0<t:=by rw[n]at Z;exact Ub (RU Z)
 have u1:0<u:=by rw[v]at U;exact Ub (RU U)
 have L:(T.dropLast++B.dropLast).length=t+u:=by simp[n,v]
 have N:∀{k:Nat},k<=t->(T.dropLast++B.dropLast)[k%(T.dropLast++B.dropLast).length]?=T[k]?:=λh=>jT W (by rw[n];exact h)
 have K:∀{k:Nat},k<=u->(T.dropLast++B.dropLast)[(t+k)%(T.dropLast++B.dropLast).length]?=B[k]?:=λ{k} h=>by
  rw[E_ W (by rw[n];exact NU t k) (by rw[n,v];exact QH h t),n];exact congrArg (λz=>B[z]?) (Nat.add_sub_cancel_left ..)
 have M:∀{k:Nat},k<=t->∃a,T[k]?=some a:=λh=>some_of (by rw[n];exact Uc h);have O:∀{k:Nat},k<=u->∃a,B[k]?=some a:=λh=>some_of (by rw[v];exact Uc h)
 have l:2<(T.dropLast++B.dropLast).length->2<T.length\/2<B.length:=λh=>by
  rw[L]at h;rw[n,v];clear L n v Z U G lT X;omega
 rw[lT,X]at l;have own:(T.dropLast++B.dropLast)[i]?=(T.dropLast++B.dropLast)[i%(T.dropLast++B.dropLast).length]?:=by rw[Mc G]
 rw[own];have wt:=W.t1;have wb:=W.b1;rw[n]at wt;rw[v]at wb;have I:∀{j k:Nat}{p q:Pt},T[j]?=some p->T[k]?=some q->j≠k->p≠q:=λ{j k p q} r y w e=>w ((Pd (aK r) Q).mp (by rw[r,y,e]))
 have F:∀{j k:Nat}{p q:Pt},B[j]?=some p->B[k]?=some q->j≠k->p≠q:=λ{j k p q} r y w e=>w ((Pd (aK r) S).mp (by rw[r,y,e]));rw[L]at G;by_cases E:i<t
 .obtain⟨a,f⟩:=M (La E);obtain⟨b,g⟩:=M E;refine⟨a,b,(N (La E)).trans f,(N E).trans g,λp H=>tc f g p (YL p H),λbig=>?_⟩;by_cases A:i+2<=t
  .obtain⟨c,d⟩:=M A;exact⟨c,(N A).trans d,tt f g d⟩
  .have e:i+1=t:=Ss E (Mx (UG A));obtain⟨c,d⟩:=O u1;cases e;cases LN (g.symm.trans wt);exact⟨c,(K u1).trans d,m1 f g (lT.symm.trans n) W.b0 d ((W.most a (YY f)).resolve_left (I f g (LA (Mf i)))) ((W.most c (s d)).resolve_left (F d W.b0 U7)) (l big)⟩
 .obtain⟨j,rfl⟩:=Nat.exists_eq_add_of_le (Pm E);have J:j<u:=Nat.lt_of_add_lt_add_left G;obtain⟨a,f⟩:=O (La J);obtain⟨b,g⟩:=O J;refine⟨a,b,(K (La J)).trans f,(K J).trans g,λp H=>bc f g p (YL p H),λbig=>?_⟩;by_cases A:j+2<=u
  .obtain⟨c,d⟩:=O A;exact⟨c,(K A).trans d,bt f g d⟩
  .have e:j+1=u:=Ss J (Mx (UG A));obtain⟨c,d⟩:=M t1;cases e;cases LN (g.symm.trans wb);refine⟨c,?_,m2 f g (X.symm.trans v) W.t0 d ((W.least a (s f)).resolve_left (F f g (LA (Mf j)))) ((W.least c (YY d)).resolve_left (I d W.t0 U7)) (l big)⟩;have:=N t1;rw[L]at this |-;rw[show t+j+2=1+(t+(j+1)) from Uk (t+(j+1)) 1,Ud]
   exact this.trans d
def cd(n q:Int):Int:=-(-n/q)
def unc:List Int->Int×Int
 |[]=>(1,0)
 |b::l=>(b*(unc l).1-(unc l).2,(unc l).1)
structure Lvl(a b:Pt)(g u v s t:Int):Prop where
 g0:0<g
 e1:b.1-a.1=g*u
 e2:b.2-a.2=g*v
 st:s*u+t*v=1
def tx(a c:Pt)(s t:Int):Int:=s*(c.1-a.1)+t*(c.2-a.2)
def ty(a c:Pt)(u v:Int):Int:=u*(c.2-a.2)-v*(c.1-a.1)
def bk(a:Pt)(u v s t x y:Int):Pt:=(u*x-t*y+a.1,v*x+s*y+a.2)
theorem Lvl.area(L:Lvl a b g u v s t)(c):ah a b c=g*ty a c u v:=by
 have:=L.e1;have:=L.e2;unfold ah ty;grind
theorem Lvl.back(L:Lvl a b g u v s t)(c):c.1=u*tx a c s t-t*ty a c u v+a.1/\c.2=v*tx a c s t+s*ty a c u v+a.2:=by
 have:=L.st;unfold tx ty;constructor <;>grind
def wth(a b:Int)(p:Pt):Int:=a*p.1+b*p.2
theorem GJ(m:b<=0)(g:plt u p)(i:plt p v)(h:ah u p v<=0):wth a b p<=wth a b u\/wth a b p<=wth a b v:=by
 rcases L9 (wth a b u) (wth a b p) with c |c
 .rcases L9 (wth a b v) (wth a b p) with f |f
  .exfalso
   have e:(v.1-p.1) *(wth a b p-wth a b u)+(p.1-u.1) *(wth a b p-wth a b v)=-((-b) *(-(ah u p v))):=by unfold wth ah;grind
   have q:0<=(-b) *(-(ah u p v)):=LK (by lia) (by lia);have r:0<=p.1-u.1:=by unfold plt at g;lia
   have j:0<=v.1-p.1:=by unfold plt at i;lia
   have o:0<=(v.1-p.1) *(wth a b p-wth a b u):=LK j (by lia);rcases L9 0 (p.1-u.1) with d |d
   .have:=L5 d (show 0<wth a b p-wth a b v by lia);lia
   .have k:u.1=p.1:=by lia
    have l:u.2<p.2:=by unfold plt at g;lia
    have:0<=(-b) *(p.2-u.2):=LK (by lia) (by lia);have n:wth a b p-wth a b u=-((-b) *(p.2-u.2)):=by unfold wth;rw[k];grind
    lia
  .exact .inr f
 .exact .inl c
theorem wO(hs:row.Pairwise plt)(g:b<=0)(d:p∈row):∃c∈ak row,wth a b p<=wth a b c:=by
 by_cases h:p∈ak row
 .exact⟨p,h,Qe _⟩
 .obtain⟨u,j,v,i,f,l,k⟩:=gap hs d h;rcases GJ g f l k with e |e
  .exact⟨u,j,e⟩
  .exact⟨v,i,e⟩
theorem HZ(a b)(p):wth (-a) (-b) (ng p)=wth a b p:=by unfold wth ng;grind
theorem EG(a b)(p):wth a b (ng p)=wth (-a) (-b) p:=by unfold wth ng;grind
theorem B3{row:List Pt}(hs:row.Pairwise plt)(f:0<=b)(d:p∈row):∃c∈ak row.reverse,wth a b p<=wth a b c:=by
 obtain⟨c,e,k⟩:=wO (dC hs) (b:=-b) (by lia) (KZ.mpr ⟨p,Ll.mpr d,rfl⟩);refine⟨ng c,by rw[ci];exact KZ.mpr ⟨c,e,rfl⟩,?_⟩;rw[HZ]at k;rw[EG];exact k
theorem rX(a b)(l:p∈pts):∃c∈aq pts,wth a b p<=wth a b c:=by
 have h:=(ST.srt_mem p pts).mpr l;by_cases g:2<=(ST.srt pts).length
 .have f:=dW pts;obtain⟨o,q,r,s,j,i,m,n,_⟩:=ends f g;have big:=gK g;rw[j,i]at big;rcases Sw b 0 with e |e
  .obtain⟨c,d,k⟩:=wO f e h;refine⟨c,?_,k⟩;rw[big];rw[j]at d;rcases KO.mp d with rfl |d
   .exact Lv _ (Ll.mpr n)
   .exact LI _ (Ll.mpr d)
  .obtain⟨c,d,k⟩:=B3 f e h;refine⟨c,?_,k⟩;rw[big];rw[i]at d;rcases KO.mp d with rfl |d
   .exact LI _ (Ll.mpr m)
   .exact Lv _ (Ll.mpr d)
 .exact⟨p,by rw[cw g];exact h,Qe _⟩
def hiL:List Int->Int
 |[]=>0
 |a::l=>l.foldl max a
theorem fP:∀l (a:Int),l.foldl max a∈a::l
 |[],a=>by simp
 |b::l,a=>by
  have:=fP l (max a b);rw[MF];rcases KO.mp this with e |e
  .rw[e];rcases Sw a b with h |h
   .rw[RL h];simp
   .rw[Int.max_eq_left h];simp
  .exact KN _ (KN _ e)
theorem f_:∀l (a:Int),∀x∈a::l,x<=l.foldl max a
 |[],a,x,h=>by simp at h;rw[h];exact Qe _
 |b::l,a,x,h=>by
  have ih:=f_ l (max a b);rw[MF];have c:=ih (max a b) K0;rcases KO.mp h with rfl |h
  .lia
  .rcases KO.mp h with rfl |h
   .lia
   .exact ih x (KN _ h)
def hiW(a b:Int)(l:List Pt):Int:=hiL (l.map (wth a b))
theorem Ap(a b)(h:l≠[]):(∃p∈l,wth a b p=hiW a b l)/\∀p∈l,wth a b p<=hiW a b l:=by
 cases l with
 |nil=>exact absurd rfl h
 |cons q l=>
  refine⟨?_,λp c=>?_⟩
  .have:=fP (l.map (wth a b)) (wth a b q);rw[<-Lb]at this;obtain⟨p,c,e⟩:=KZ.mp this;exact⟨p,c,e⟩
  .exact f_ (l.map (wth a b)) (wth a b q) _ (by rw[<-Lb];exact LU c)
theorem pZ(a:3<=(aq l).length):2<=(ST.srt l).length:=by
 rcases Nr (ST.srt l).length 2 with h |h
 .rw[cw (by lia)]at a;lia
 .exact h
theorem ye(h:i<l.length):(gp l i,gp l ((i+1)%l.length))∈sdl l:=KZ.mpr ⟨i,Lx.mpr h,rfl⟩
theorem k8(h:l[i]?=some a):gp l i=a:=by simp[gp,h]
theorem Cm:((i+1)%n+1)%n=(i+2)%n:=by rw[R_]
theorem dD(f:3<=(aq l).length)(hs:s∈sdl (aq l)):∀q∈l,0<=ah s.1 s.2 q:=by
 obtain⟨i,g,rfl⟩:=KZ.mp hs;obtain⟨a,b,d,e,c,_⟩:=i8 (pZ f) (Lx.mp g);show ∀q∈l,0<=ah (gp (aq l) i) (gp (aq l) ((i+1)%(aq l).length)) q;rw[k8 d,k8 e];exact c
theorem l6(o:3<=(aq l).length)(hs:(A,B)∈sdl (aq l)):∃C,(B,C)∈sdl (aq l)/\0<ah A B C:=by
 obtain⟨i,p,e⟩:=KZ.mp hs;have j:=Lx.mp p;obtain⟨a,b,k,f,_,n⟩:=i8 (pZ o) j;obtain⟨c,m,d⟩:=n (by lia);have h:A=a:=by rw[<-k8 k];exact (congrArg Qx e).symm
 have g:B=b:=by rw[<-k8 f];exact (congrArg QX e).symm
 refine⟨c,?_,by rw[h,g];exact d⟩;have:=ye (i:=(i+1)%(aq l).length) (NF _ (by lia));rw[Cm,k8 f,k8 m]at this;rw[g];exact this
theorem Iu(h:A∈l):∃B,(A,B)∈sdl l:=by
 obtain⟨i,a⟩:=Lz.mp h;have b:=(K_.mp a).1;have:=ye b;rw[k8 a]at this;exact⟨_,this⟩
theorem Dj(h:A∈l):∃Z,(Z,A)∈sdl l:=by
 obtain⟨i,a⟩:=Lz.mp h;have b:=(K_.mp a).1;have c:(i+l.length-1)%l.length<l.length:=NF _ (by lia);have:=ye c
 have e:((i+l.length-1)%l.length+1)%l.length=i:=by
  rw[R_,show i+l.length-1+1=i+l.length by lia,Ud,Mc b]
 rw[e,k8 a]at this;exact⟨_,this⟩
theorem GQ(m:l.Nodup)(h:(A,B)∈sdl l)(f:(A,C)∈sdl l):B=C:=by
 obtain⟨i,k,e⟩:=KZ.mp h;obtain⟨j,g,c⟩:=KZ.mp f;have b:=Lx.mp k;have a:=Lx.mp g;have d:gp l i=gp l j:=(congrArg Qx e).trans (congrArg Qx c).symm;have:i=j:=(Pd b m).mp (by rw[eF b,eF a,d]);subst this;exact (congrArg QX e).symm.trans (congrArg QX c)
theorem HF{a b v1 v2 w1 w2:Int}(g:0<a*v2-b*v1)(d:a*w2-b*w1=0)(c:v1*w2-v2*w1=0):w1=0/\w2=0:=by
 have e:(a*v2-b*v1) *w1=0:=by
  have:(a*v2-b*v1) *w1=v1*(a*w2-b*w1)-a*(v1*w2-v2*w1):=by grind
  rw[this,d,c];simp
 have f:(a*v2-b*v1) *w2=0:=by
  have:(a*v2-b*v1) *w2=v2*(a*w2-b*w1)-b*(v1*w2-v2*w1):=by grind
  rw[this,d,c];simp
 refine⟨?_,?_⟩
 .rcases LR.mp e with h |h
  .lia
  .exact h
 .rcases LR.mp f with h |h
  .lia
  .exact h
def yC(l:List P2)(p:P2):Prop:=p∈l/\∃a b:Int,∀q∈l,q≠p->wth a b q<wth a b p
theorem gL(h:yC l p):p∈aq l:=by
 obtain⟨g,a,b,k⟩:=h;obtain⟨c,f,e⟩:=rX a b g;by_cases d:c=p
 .rw[<-d];exact f
 .have:=k c (b6 _ c f) d;lia
theorem fu(a:3<=(aq l).length)(c:p∈aq l):yC l p:=by
 obtain⟨Z,i⟩:=Dj c;obtain⟨B,j,b⟩:=l6 a i;refine⟨b6 _ p c,B.2-Z.2,Z.1-B.1,λq d m=>?_⟩;have f:=dD a i q d;have g:=dD a j q d;dsimp only at f g;have e:wth (B.2-Z.2) (Z.1-B.1) q-wth (B.2-Z.2) (Z.1-B.1) p=-(ah Z p q+ah p B q):=by unfold wth ah;grind
 rcases L8 (Int.add_nonneg f g) with h |h
 .lia
 .exfalso
  have k:ah Z p q=0:=by lia
  have n:ah p B q=0:=by lia
  have:=HF (w1:=q.1-p.1) (w2:=q.2-p.2) (by rw[<-(show ah Z p B=(p.1-Z.1) *(B.2-p.2)-(p.2-Z.2) *(B.1-p.1) by unfold ah;grind)];exact b) (by rw[<-k];unfold ah;grind) (by rw[<-n];unfold ah;grind);exact m (Mo (by lia) (by lia))
theorem Ha{a b v1 v2 w1 w2:Int}(h:a*w2-b*w1=0):(a*v2-b*v1) *w1=(w1*v2-w2*v1) *a/\(a*v2-b*v1) *w2=(w1*v2-w2*v1) *b:=by
 constructor
 .have:(a*v2-b*v1) *w1-(w1*v2-w2*v1) *a=v1*(a*w2-b*w1):=by grind
  rw[h]at this;simp at this;lia
 .have:(a*v2-b*v1) *w2-(w1*v2-w2*v1) *b=v2*(a*w2-b*w1):=by grind
  rw[h]at this;simp at this;lia
theorem i_(i:3<=(aq l).length):(A,B)∈sdl (aq l)↔A∈aq l/\B∈aq l/\A≠B/\∀q∈aq l,0<=ah A B q:=by
 constructor
 .intro h;exact⟨(c9 h).1,(c9 h).2,Ho (cq l) (by omega) _ h,λq N=>dD i h q (b6 _ q N)⟩
 .rintro ⟨u,I,H,o⟩;obtain⟨C,m⟩:=Iu u;obtain⟨Z,J⟩:=Dj u;by_cases f:B=C
  .rw[f];exact m
  .exfalso
   obtain⟨D,G,L⟩:=l6 i m;obtain⟨c,p,V⟩:=l6 i J;have:c=C:=GQ (cq l) p m;subst this;have v:=(c9 m).2;have Q:=(c9 G).2;have w:=b6 _ B I;have K:=dD i m B w;have k2:=o c v;have y:=dD i J B w;have E:=dD i G B w;dsimp only at K y E v Q
   have z:(c.1-A.1) *(B.2-A.2)-(c.2-A.2) *(B.1-A.1)=0:=by
    have n:ah A c B=(c.1-A.1) *(B.2-A.2)-(c.2-A.2) *(B.1-A.1):=rfl;have e2:ah A B c=-((c.1-A.1) *(B.2-A.2)-(c.2-A.2) *(B.1-A.1)):=by unfold ah;grind
    omega
   obtain⟨j,k⟩:=Ha (v1:=Z.1-A.1) (v2:=Z.2-A.2) z
   have g:0<(c.1-A.1) *(Z.2-A.2)-(c.2-A.2) *(Z.1-A.1):=by
    rw[<-(show ah Z A c=(c.1-A.1) *(Z.2-A.2)-(c.2-A.2) *(Z.1-A.1) by unfold ah;grind)];exact V
   have Y:0<=(B.1-A.1) *(Z.2-A.2)-(B.2-A.2) *(Z.1-A.1):=by
    rw[<-(show ah Z A B=(B.1-A.1) *(Z.2-A.2)-(B.2-A.2) *(Z.1-A.1) by unfold ah;grind)];exact y
   generalize (c.1-A.1) *(Z.2-A.2)-(c.2-A.2) *(Z.1-A.1)=d at *;generalize (B.1-A.1) *(Z.2-A.2)-(B.2-A.2) *(Z.1-A.1)=s at *
   have T:s≠0:=λe=>by
    rw[e,Na]at j k;have t:=(LR.mp j).resolve_left (Nu g);have r:=(LR.mp k).resolve_left (Nu g);exact H (Mo (ML t) (ML r)).symm
   have W:s≠d:=λe=>by
    rw[e]at j k;have t:=Ma (Nu g) j;have r:=Ma (Nu g) k;exact f (Mo ((UH _).mp t) ((UH _).mp r))
   have R:s<=d:=by
    have e:d*ah c D B=(d-s) *ah A c D:=by
     have n:d*ah c D B=(D.1-c.1) *(d*(B.2-A.2)-d*(c.2-A.2))-(D.2-c.2) *(d*(B.1-A.1)-d*(c.1-A.1)):=by unfold ah;grind
     rw[n,j,k];unfold ah;grind
    have:0<=(d-s) *ah A c D:=by rw[<-e];exact LK (Nc g) E
    rw[NQ]at this;exact SU (Int.le_of_mul_le_mul_left (by rw[Nd];exact this) L)
   obtain⟨_,a,b,top⟩:=fu i I;have X:=top A (b6 _ A u) H;have t2:=top c (b6 _ c v) (λe=>f e.symm)
   have F:d*(wth a b B-wth a b A)=s*(wth a b c-wth a b A):=by
    have n:d*(wth a b B-wth a b A)=a*(d*(B.1-A.1))+b*(d*(B.2-A.2)):=by unfold wth;grind
    rw[n,j,k];unfold wth;grind
   have S:0<s:=(L8 Y).resolve_right (Ne.symm T);have O:0<s*(wth a b c-wth a b A):=by rw[<-F];exact L5 g (Nf X)
   have P:0<wth a b c-wth a b A:=Mu O S;have M:0<(d-s) *(wth a b c-wth a b A):=L5 (Nf ((L8 R).resolve_right W)) P
   have U:d*(wth a b B-wth a b c)=-((d-s) *(wth a b c-wth a b A)):=by
    have:d*(wth a b B-wth a b c)=d*(wth a b B-wth a b A)-d*(wth a b c-wth a b A):=by grind
    rw[this,F];grind
   have x:0<d*(wth a b B-wth a b c):=L5 g (Nf t2);rw[U]at x;exact absurd (Int.lt_of_lt_of_le x (Int.neg_nonpos_of_nonneg (Nc M))) (Qy _)
structure Lin(f:P2->P2)(d:Int):Prop where
 one:d=1\/d=-1
 ex:∃a b c e:Int,a*e-b*c=d/\∀p,f p=(a*p.1+b*p.2,c*p.1+e*p.2)
theorem Lin.det(L:Lin f d)(A B q):ah (f A) (f B) (f q)=d*ah A B q:=by
 obtain⟨a,b,c,e,h,k⟩:=L.ex;rw[k,k,k,<-h];unfold ah;grind
theorem wS(L:Lin f d)(A B):crs (f A,f B)=d*crs (A,B):=by
 obtain⟨a,b,c,e,h,k⟩:=L.ex;rw[k,k,<-h];unfold crs;grind
theorem rO(L:Lin f d)(x y):∃i g,∀p,wth i g (f p)=wth x y p:=by
 obtain⟨a,b,c,e,h,k⟩:=L.ex;refine⟨d*(x*e-y*c),d*(y*a-x*b),λp=>?_⟩;rw[k];have j:d*d=1:=by rcases L.one with z |z <;>rw[z] <;>rfl
 have:wth (d*(x*e-y*c)) (d*(y*a-x*b)) (a*p.1+b*p.2,c*p.1+e*p.2)=d*(a*e-b*c) *wth x y p:=by unfold wth;grind
 rw[this,h,j,M6]
theorem Lin.inj(L:Lin f d)(e:f p=f q):p=q:=by
 obtain⟨x,y,h⟩:=rO L 1 0;obtain⟨i,g,a⟩:=rO L 0 1;have c:wth 1 0 p=wth 1 0 q:=by rw[<-h,<-h,e]
 have b:wth 0 1 p=wth 0 1 q:=by rw[<-a,<-a,e]
 unfold wth at c b;exact Mo (by lia) (by lia)
theorem xG(L:Lin f d)(h:yC l p):yC (l.map f) (f p):=by
 obtain⟨c,a,b,k⟩:=h;obtain⟨x,y,e⟩:=rO L a b;refine⟨LU c,x,y,λq i j=>?_⟩;obtain⟨r,g,rfl⟩:=KZ.mp i;rw[e,e];exact k r g λz=>j (by rw[z])
theorem C9(L:Lin f d)(c:p∈l)(h:yC (l.map f) (f p)):yC l p:=by
 obtain⟨_,a,b,k⟩:=h;obtain⟨u,v,w,z,_,j⟩:=L.ex;refine⟨c,a*u+b*w,a*v+b*z,λq g i=>?_⟩;have e:∀r,wth (a*u+b*w) (a*v+b*z) r=wth a b (f r):=λr=>by rw[j];unfold wth;grind
 rw[e,e];exact k (f q) (LU g) λz=>i (L.inj z)
theorem fS(L:Lin f d)(j:3<=(aq l).length):3<=(aq (l.map f)).length:=by
 have i:((aq l).map f).Nodup:=N_ _ (λa b (h:a≠b) e=>h (L.inj e)) (cq l)
 have:=eQ i λx g=>by
  obtain⟨p,c,rfl⟩:=KZ.mp g;exact gL (xG L (fu j c))
 rw[KI]at this;lia
theorem ef(L:Lin f d)(b:3<=(aq l).length)(x):x∈aq (l.map f)↔∃p∈aq l,f p=x:=by
 constructor
 .intro h;obtain⟨p,a,rfl⟩:=KZ.mp (b6 _ x h);exact⟨p,gL (C9 L a (fu (fS L b) h)),rfl⟩
 .rintro ⟨p,a,rfl⟩;exact gL (xG L (fu b a))
def sdf(f:P2->P2)(d:Int)(s:P2×P2):P2×P2:=if d=1 then (f s.1,f s.2) else (f s.2,f s.1)
theorem vz(L:Lin f d)(a:3<=(aq l).length)(t):t∈sdl (aq (l.map f))↔∃s∈sdl (aq l),sdf f d s=t:=by
 have g:=fS L a;have n:∀A B q,ah B A q=-ah A B q:=λA B q=>by unfold ah;grind
 constructor
 .intro h;obtain⟨x,y⟩:=t;obtain⟨o,hy,i,c⟩:=(i_ g).mp h;obtain⟨A,j,rfl⟩:=(ef L a x).mp o;obtain⟨B,m,rfl⟩:=(ef L a y).mp hy
  have k:∀q∈aq l,0<=d*ah A B q:=λq b=>by
   have:=c (f q) ((ef L a _).mpr ⟨q,b,rfl⟩)
   rwa [L.det]at this
  rcases L.one with z |z
  .refine⟨(A,B),(i_ a).mpr ⟨j,m,λe=>i (by rw[e]),λq b=>?_⟩,by unfold sdf;rw[if_pos z]⟩;have:=k q b;rw[z]at this;lia
  .refine⟨(B,A),(i_ a).mpr ⟨m,j,λe=>i (by rw[e]),λq b=>?_⟩,by unfold sdf;rw[if_neg (by lia)]⟩;have:=k q b;rw[n];rw[z]at this;lia
 .rintro ⟨⟨A,B⟩,u,rfl⟩;obtain⟨j,m,i,c⟩:=(i_ a).mp u
  have k:∀q∈aq (l.map f),0<=d*ah (f A) (f B) q:=λq b=>by
   obtain⟨p,r,rfl⟩:=(ef L a q).mp b;have:=c p r;rw[L.det,<-VM,show d*d=1 by rcases L.one with z |z <;>rw[z] <;>rfl];lia
  unfold sdf;rcases L.one with z |z
  .rw[if_pos z];refine (i_ g).mpr ⟨(ef L a _).mpr ⟨A,j,rfl⟩,(ef L a _).mpr ⟨B,m,rfl⟩,λe=>i (L.inj e),λq b=>?_⟩;have:=k q b;dsimp only;rw[z]at this;lia
  .rw[if_neg (by lia)];refine (i_ g).mpr ⟨(ef L a _).mpr ⟨B,m,rfl⟩,(ef L a _).mpr ⟨A,j,rfl⟩,λe=>i (L.inj e.symm),λq b=>?_⟩;have:=k q b;dsimp only;rw[n];rw[z]at this;lia
theorem BI(c:l.Nodup):(sdl l).Nodup:=by
 have h:((sdl l).map (·.1)).Nodup:=by rw[l5];exact c
 exact (LY.mp h).imp λ{a b} k e=>k (by rw[e])
theorem DD(L:Lin f d)(e:sdf f d s=sdf f d t):s=t:=by
 unfold sdf at e;split at e
 .exact Mo (L.inj (congrArg Qx e)) (L.inj (congrArg QX e))
 .exact Mo (L.inj (congrArg QX e)) (L.inj (congrArg Qx e))
theorem xI(L:Lin f d)(c:3<=(aq l).length):Re (sdl (aq (l.map f))) ((sdl (aq l)).map (sdf f d)):=by
 refine (MU (BI (cq _)) ?_).mpr λt=>?_
 .exact N_ _ (λa b (h:a≠b) e=>h (DD L e)) (BI (cq l))
 .rw[vz L c,KZ]
def ub(s:P2×P2):Int:=(s.2.1-s.1.1)/gst s
def vb(s:P2×P2):Int:=(s.2.2-s.1.2)/gst s
def onS(s:P2×P2)(k:Int):P2:=(s.1.1+k*ub s,s.1.2+k*vb s)
theorem nV(s):s.2.1-s.1.1=gst s*ub s:=by
 unfold ub;have h:gst s ∣ s.2.1-s.1.1:=Pq ..;rw[Ph h]
theorem nC(s):s.2.2-s.1.2=gst s*vb s:=by
 unfold vb;have h:gst s ∣ s.2.2-s.1.2:=Pb ..;rw[Ph h]
theorem G6(h:s.1≠s.2):∃a b,Lvl s.1 s.2 (gst s) (ub s) (vb s) a b:=by
 have d:=lV h;obtain⟨a,b,G⟩:=nI (s.2.1-s.1.1) (s.2.2-s.1.2);have c:=G.eq;refine⟨a,b,d,nV s,nC s,?_⟩
 have e:gst s*(a*ub s+b*vb s)=gst s*1:=by
  rw[Rn];have:gst s*(a*ub s+b*vb s)=a*(gst s*ub s)+b*(gst s*vb s):=by grind
  rw[this,<-nV,<-nC];exact c
 exact Ma (by lia) e
theorem D6(h:s.1≠s.2)(c:ah s.1 s.2 p=0):∃k,p=onS s k:=by
 obtain⟨a,b,L⟩:=G6 h
 have z:ty s.1 p (ub s) (vb s)=0:=by
  rw[L.area]at c;exact (LR.mp c).resolve_left (by have:=L.g0;lia)
 obtain⟨d,e⟩:=L.back p;refine⟨tx s.1 p a b,Mo ?_ ?_⟩
 .show p.1=s.1.1+tx s.1 p a b*ub s;grind
 .show p.2=s.1.2+tx s.1 p a b*vb s;grind
theorem HJ(s)(k)(X Y):gst s*ah X Y (onS s k)=(gst s-k) *ah X Y s.1+k*ah X Y s.2:=by
 have d:=nV s;have c:=nC s;have a:s.2.1=s.1.1+gst s*ub s:=by lia
 have b:s.2.2=s.1.2+gst s*vb s:=by lia
 unfold onS ah;rw[a,b];grind
theorem fJ{a b:Int}(c:0<a)(h:0<=a*b):0<=b:=by
 rcases L9 b 0 with z |z
 .have:=L5 c (show 0 < -b by lia);have e:a* -b=-(a*b):=by grind
  lia
 .exact z
def spt(s:P2×P2):List P2:=(LP (gst s).toNat).map λ(k:Nat)=>onS s (k:Int)
theorem Cy{a b x y c d:Int}(e:a=c-x)(f:b=d-y):(x<c\/(x=c/\y<=d))↔(0<a\/(a=0/\0<=b)):=by
 subst e;subst f;exact or_congr Int.sub_pos.symm (and_congr ⟨λh=>by rw[h,SA],λh=>(ML h).symm⟩ Vp.symm)
theorem rJ(h:ST.ltP A B=true):(ah A B p=0/\ST.leP A p=true/\ST.leP p B=true)↔∃k,0<=k/\k<=gst (A,B)/\p=onS (A,B) k:=by
 have l:(A,B).1≠(A,B).2:=λe=>by
  dsimp only at e;subst e;unfold ST.ltP at h;simp at h
 have f:=lV l;have c:=nV (A,B);have j:=nC (A,B);dsimp only at c j;unfold ST.ltP at h;have h:=of_decide_eq_true h
 have i:0<ub (A,B)\/(ub (A,B)=0/\0<vb (A,B)):=by
  rcases h with z |⟨z,w⟩
  .exact .inl (Mu (by rw[<-c];exact Nf z) f)
  .rw[z,SA]at c;exact .inr ⟨(LR.mp c.symm).resolve_left (Nu f),Mu (by rw[<-j];exact Nf w) f⟩
 have sg:∀k:Int,(ST.leP A (onS (A,B) k)=true↔0<=k)/\(ST.leP (onS (A,B) k) B=true↔k<=gst (A,B)):=λk=>by
  have r:∀m:Int,(0<m*ub (A,B)\/(m*ub (A,B)=0/\0<=m*vb (A,B)))↔0<=m:=λm=>by
   rcases i with u |⟨u,v⟩
   .constructor
    .rintro (z |⟨z,_⟩)
     .exact Nc (Int.pos_of_mul_pos_left z u)
     .exact O7 ((LR.mp z).resolve_right (Nu u)).symm
    .intro g;rcases L8 g with z |z
     .left;exact L5 z u
     .right;rw[<-z];simp
   .rw[u,Nd];constructor
    .rintro (z |⟨_,z⟩)
     .exact absurd z (Qy _)
     .rw[NQ]at z;exact fJ v z
    .intro g;exact .inr ⟨rfl,LK g (Nc v)⟩
  have q:(gst (A,B)-k) *ub (A,B)=B.1-(A.1+k*ub (A,B)):=by rw[U8,<-c,Wk]
  have o:(gst (A,B)-k) *vb (A,B)=B.2-(A.2+k*vb (A,B)):=by rw[U8,<-j,Wk]
  unfold ST.leP onS;rw[decide_eq_true_eq,decide_eq_true_eq];exact⟨(Cy (by dsimp only;rw[V0,TC]) (by dsimp only;rw[V0,TC])).trans (r k),((Cy q o).trans (r _)).trans Vp⟩
 constructor
 .rintro ⟨d,a,b⟩;obtain⟨k,rfl⟩:=D6 l d;exact⟨k,(sg k).1.mp a,(sg k).2.mp b,rfl⟩
 .rintro ⟨k,x,n,rfl⟩;refine⟨?_,(sg k).1.mpr x,(sg k).2.mpr n⟩;have m:=HJ (A,B) k A B;have t:ah A B A=0:=by unfold ah;grind
  have s:ah A B B=0:=by unfold ah;grind
  dsimp only at m;rw[t,s,Nd,Nd,V1]at m;exact (LR.mp m).resolve_left (Nu f)
theorem Fs(h:a*e-b*c=1\/a*e-b*c=-1):Ot (a*x+b*y) (c*x+e*y)=Ot x y:=by
 apply Nat.dvd_antisymm
 .have f:((Ot (a*x+b*y) (c*x+e*y)):Int) ∣ a*x+b*y:=Pq ..;have d:((Ot (a*x+b*y) (c*x+e*y)):Int) ∣ c*x+e*y:=Pb ..;generalize Ot (a*x+b*y) (c*x+e*y)=g at *
  have j:(g:Int) ∣ (a*e-b*c) *x:=by
   have:(a*e-b*c) *x=e*(a*x+b*y)-b*(c*x+e*y):=by grind
   rw[this];exact QJ (L6 f (L_ ..)) (L6 d (L_ ..))
  have l:(g:Int) ∣ (a*e-b*c) *y:=by
   have:(a*e-b*c) *y=a*(c*x+e*y)-c*(a*x+b*y):=by grind
   rw[this];exact QJ (L6 d (L_ ..)) (L6 f (L_ ..))
  have i:∀z,(g:Int) ∣ (a*e-b*c) *z->(g:Int) ∣ z:=λz k=>by
   rcases h with w |w <;>rw[w]at k
   .rwa [M6]at k
   .rw[Int.neg_one_mul]at k;exact Ru.mp k
  exact VN.mp (Sv (i x j) (i y l))
 .have f:((Ot x y):Int) ∣ x:=Pq ..;have d:((Ot x y):Int) ∣ y:=Pb ..;exact VN.mp (Sv (O4 (L6 f (L_ ..)) (L6 d (L_ ..))) (O4 (L6 f (L_ ..)) (L6 d (L_ ..))))
theorem fm(A B):gst (B,A)=gst (A,B):=by
 unfold gst;rw[show A.1-B.1=-(B.1-A.1) by lia,show A.2-B.2=-(B.2-A.2) by lia,Int.gcd_neg,Int.neg_gcd]
theorem x5(L:Lin f d)(s):gst (sdf f d s)=gst s:=by
 obtain⟨A,B⟩:=s
 have g:gst (f A,f B)=gst (A,B):=by
  obtain⟨a,b,c,e,h,k⟩:=L.ex;unfold gst;rw[k,k];rw[show a*B.1+b*B.2-(a*A.1+b*A.2)=a*(B.1-A.1)+b*(B.2-A.2) by grind,show c*B.1+e*B.2-(c*A.1+e*A.2)=c*(B.1-A.1)+e*(B.2-A.2) by grind];rw[Fs (by rw[h];exact L.one)]
 unfold sdf;split
 .exact g
 .exact (fm _ _).trans g
theorem EM(L:Lin f d)(s):crs (sdf f d s)=crs s:=by
 unfold sdf;rcases L.one with z |z
 .rw[if_pos z,wS L];rw[z];exact M6 _
 .rw[if_neg (by lia),wS L,z];unfold crs;grind
theorem uv{l m:List Int}(h:Re l m):l.sum=m.sum:=by
 induction h with
 |nil=>rfl
 |cons _ _ b=>rw[Mg,Mg,b]
 |swap=>simp only[Mg];lia
 |trans _ _ c a=>exact c.trans a
theorem E4(L:Lin f d)(a:3<=(aq l).length):md (aq (l.map f))=md (aq l):=by
 unfold md;rw[uv ((xI L a).map gst),Lh];exact congrArg Wr (NI λs _=>x5 L s)
theorem Bj(L:Lin f d)(a:3<=(aq l).length):area (aq (l.map f))=area (aq l):=by
 unfold area;rw[uv ((xI L a).map crs),Lh];exact congrArg Wr (NI λs _=>EM L s)
theorem xF(l):sdl l=SK l (l.drop 1++l.take 1):=by
 have c:=l5 l;have a:=qR l
 have:sdl l=SK ((sdl l).map (·.1)) ((sdl l).map (·.2)):=by
  generalize sdl l=s
  induction s with
  |nil=>rfl
  |cons x r b=>simp only[Lb,Np];rw[<-b]
 rw[c,a]at this;exact this
theorem io{i:Nat}(e:k=(i:Int))(h:i<l.length):atI (l.map pu) k=some (pu (gp l i)):=cQ e (by rw[K5,eF h];rfl)
theorem Szp.mono(h:Szp m p)(a:m<=n):Szp n p:=⟨h.1.mono a,h.2.mono a⟩
theorem Dt(Z P B q)(a b):ah Z P B*(wth a b q-wth a b P)=-(ah P B q*(wth a b P-wth a b Z))-ah Z P q*(wth a b P-wth a b B):=by unfold ah wth;grind
theorem xX(c:3<=(aq l).length)(a b):∃Z P B,(Z,P)∈sdl (aq l)/\(P,B)∈sdl (aq l)/\0<ah Z P B/\wth a b P=hiW a b (aq l)/\wth a b Z<=wth a b P/\wth a b B<=wth a b P:=by
 obtain⟨⟨P,h,e⟩,k⟩:=Ap a b (l:=aq l) (λz=>by rw[z]at c;simp at c);obtain⟨Z,d⟩:=Dj h;obtain⟨B,g,f⟩:=l6 c d;refine⟨Z,P,B,d,g,f,e,?_,?_⟩
 .rw[e];exact k Z (c9 d).1
 .rw[e];exact k B (c9 g).2
theorem JZ(g:3<=(aq l).length)(a b)(d:∀s∈sdl (aq l),0<=ah s.1 s.2 q):wth a b q<=hiW a b (aq l):=by
 obtain⟨Z,P,B,i,f,c,e,j,o⟩:=xX g a b;rw[<-e];have n:0<=ah P B q*(wth a b P-wth a b Z):=LK (d _ f) (by lia);have m:0<=ah Z P q*(wth a b P-wth a b B):=LK (d _ i) (by lia);have k:=Dt Z P B q a b;rcases L9 (wth a b P) (wth a b q) with h |h
 .have:=L5 c (show 0<wth a b q-wth a b P by lia);lia
 .exact h
def qT(l:List P2):Int:=if l.length<3 then gst (gp l 0,gp l (l.length-1))+1 else md l
def sJ(a:Int)(n:Nat):List Int:=(LP n).map λ(i:Nat)=>a+(i:Int)
def DM(x:Int)(n:Nat)(y:Int)(m:Nat):List P2:=((sJ x n).map λa=>(sJ y m).map λb=>(a,b)).flatten
theorem f8:x∈sJ a n↔a<=x/\x<a+n:=by
 unfold sJ;rw[KZ];constructor
 .rintro ⟨i,b,rfl⟩;have:=Lx.mp b;lia
 .rintro ⟨d,c⟩;exact⟨(x-a).toNat,Lx.mpr (by lia),by lia⟩
theorem rP(a)(n):(sJ a n).Nodup:=by
 exact N_ _ (λi j (h:i≠j) e=>h (by lia)) RF
theorem BU:p∈DM x n y m↔(x<=p.1/\p.1<x+n)/\y<=p.2/\p.2<y+m:=by
 unfold DM;rw[UI];constructor
 .rintro ⟨q,f,c⟩;obtain⟨a,e,rfl⟩:=KZ.mp f;obtain⟨b,g,rfl⟩:=KZ.mp c;exact⟨f8.mp e,f8.mp g⟩
 .rintro ⟨h,d⟩;exact⟨_,KZ.mpr ⟨p.1,f8.mpr h,rfl⟩,KZ.mpr ⟨p.2,f8.mpr d,rfl⟩⟩
theorem DV(x)(n)(y)(m):(DM x n y m).Nodup:=by
 refine List.pairwise_flatten.mpr ⟨λq c=>?_,?_⟩
 .obtain⟨a,_,rfl⟩:=KZ.mp c;exact N_ _ (λi j (h:i≠j) e=>h (congrArg QX e)) (rP y m)
 .refine LY.mpr ((rP x n).imp λ{a b} h p d q c e=>?_);obtain⟨_,_,rfl⟩:=KZ.mp d;obtain⟨_,_,rfl⟩:=KZ.mp c;exact h (congrArg Qx e)
def loX(l:List P2):Int:=ky (l.map (·.1))
def hiX(l:List P2):Int:=hiL (l.map (·.1))
def loY(l:List P2):Int:=ky (l.map (·.2))
def hiY(l:List P2):Int:=hiL (l.map (·.2))
theorem dt(h:l≠[]):hiL l∈l/\∀a∈l,a<=hiL l:=by
 cases l with
 |nil=>exact absurd rfl h
 |cons a l=>exact⟨fP l a,f_ l a⟩
def bxN(l:List P2):Nat:=(hiX l+1-loX l).toNat
def byN(l:List P2):Nat:=(hiY l+1-loY l).toNat
def box(l:List P2):List P2:=DM (loX l) (bxN l) (loY l) (byN l)
theorem Jr(a b x:Int):a<=x/\x<a+((b+1-a).toNat:Int)↔a<=x/\x<=b:=by omega
theorem dU(a:l≠[]):p∈box l↔(loX l<=p.1/\p.1<=hiX l)/\loY l<=p.2/\p.2<=hiY l:=by
 unfold box bxN byN;rw[BU,Jr,Jr]
theorem vJ{A B:List P2}(b:A.Nodup)(a:B.Nodup)(h:∀p,p∈A↔p∈B):A.length=B.length:=((MU b a).mpr h).length_eq
theorem A0(f:3<=(aq l).length)(h:∀s∈sdl (aq l),0<=ah s.1 s.2 p):p∈box (aq l):=by
 have d:aq l≠[]:=λz=>by rw[z]at f;simp at f
 have c:∀a b,∃q∈aq l,wth a b p<=wth a b q:=λa b=>by
  obtain⟨⟨q,j,e⟩,_⟩:=Ap a b d;exact⟨q,j,by rw[e];exact JZ f a b h⟩
 have g:(aq l).map (·.1)≠[]:=by simpa using d
 have hy:(aq l).map (·.2)≠[]:=by simpa using d
 obtain⟨n,r,i⟩:=c 1 0;obtain⟨m,w,y⟩:=c (-1) 0;obtain⟨x,k,o⟩:=c 0 1;obtain⟨u,v,t⟩:=c 0 (-1);have C:=(dt g).2 n.1 (LU r);have D:=(bT g).2 m.1 (LU w);have B:=(dt hy).2 x.2 (LU k);have A:=(bT hy).2 u.2 (LU v);unfold wth at i y o t;rw[dU d];unfold loX hiX loY hiY;lia
theorem Fw(A):box [A]=[A]:=by
 have h:∀p,p∈box [A]↔p∈[A]:=λp=>by
  rw[dU (by simp),K9];unfold loX hiX loY hiY ky hiL;simp only[Lb,Og,List.foldl_nil];constructor
  .intro h;exact Mo (by lia) (by lia)
  .rintro rfl;lia
 have a:=(MU (DV _ _ _ _) (by simp:[A].Nodup)).mpr h;exact List.perm_singleton.mp a
theorem F6{w v x y:Int}(b:0<w)(a:0<=v)(e:w*y=v*x)(c:0<=x)(d:0<=w-x):0<=y/\0<=v-y:=
 ⟨fJ b (by rw[e];exact LK a c),fJ b (by rw[Wl,e,NQ w v,<-Wl];exact LK a d)⟩
theorem Jn{b a f d g c:Int}(l:b<f)(e:(f-b) *(c-a)=(d-a) *(g-b))(k:b<=g)(m:g<=f):(a<=c/\c<=d)\/(d<=c/\c<=a):=by
 have i:=SV k;have j:0<=f-b-(g-b):=by omega
 have w:=Nf l;rcases Sw a d with h |h
 .have:=F6 w (SV h) e i j;clear e i j w k m l;omega
 .have:=F6 (v:=-(d-a)) (y:=-(c-a)) w (by omega) (by rw[Rw,Int.neg_mul,e]) i j;clear e i j w k m l;omega
theorem xy{c g f l b j:Int}(m:c<f\/(c=f/\g<l))(d:(f-c) *(j-g)=(l-g) *(b-c)):((c<=b/\b<=f)/\min g l<=j/\j<=max g l)↔(c<b\/(c=b/\g<=j))/\(b<f\/(b=f/\j<=l)):=by
 rcases m with w |⟨rfl,w⟩
 .constructor
  .rintro ⟨⟨h,a⟩,-⟩;refine⟨(L8 h).imp id λe=>⟨e,?_⟩,(L8 a).imp id λe=>⟨e,?_⟩⟩
   .rw[<-e,SA,Nd]at d;exact O7 (ML ((LR.mp d).resolve_left (Nu (Nf w)))).symm
   .rw[e,NQ]at d;exact SU (by have:=Int.eq_of_mul_eq_mul_right (Nu (Nf w)) d;clear d;omega)
  .rintro ⟨h,a⟩;have h:=h.elim Nc λh=>O7 h.1;have a:=a.elim Nc λh=>O7 h.1;refine⟨⟨h,a⟩,?_⟩;rcases Jn w d h a with ⟨k,i⟩ |⟨k,i⟩
   .exact⟨NS (Int.min_le_left ..) k,NS i (Int.le_max_right ..)⟩
   .exact⟨NS (Int.min_le_right ..) k,NS i (Int.le_max_left ..)⟩
 .rw[Sx (Nc w),RL (Nc w)];clear d;constructor
  .rintro ⟨⟨h,a⟩,k,i⟩;exact⟨.inr ⟨SB h a,k⟩,.inr ⟨SB a h,i⟩⟩
  .rintro ⟨h |h,a |a⟩
   .exact absurd (Int.lt_trans h a) (Qy _)
   .exact absurd h (a.1 ▸ Qy _)
   .exact absurd a (h.1 ▸ Qy _)
   .exact⟨⟨O7 h.1,O7 a.1⟩,h.2,a.2⟩
theorem Ee(h:ST.ltP A B=true):(p∈box [A,B]/\ah A B p=0)↔∃k,0<=k/\k<=gst (A,B)/\p=onS (A,B) k:=by
 rw[<-rJ h,dU (by simp)];have lt:=of_decide_eq_true h;have a:loX [A,B]=A.1:=Sx (lt.elim Nc λh=>O7 h.1);have c:hiX [A,B]=B.1:=RL (lt.elim Nc λh=>O7 h.1);rw[a,c,show loY [A,B]=min A.2 B.2 from rfl,show hiY [A,B]=max A.2 B.2 from rfl];unfold ST.leP;rw[decide_eq_true_eq,decide_eq_true_eq];constructor
 .exact λ⟨b,d⟩=>⟨d,(xy lt (ML d)).mp b⟩
 .exact λ⟨d,b⟩=>⟨(xy lt (ML d)).mpr b,d⟩
theorem ED(A B):sdl [A,B]=[(A,B),(B,A)]:=by
 unfold sdl nxt;simp[PY]
theorem zk(h:aq [A,B]=[A,B]):ST.ltP A B=true:=by
 have i:[A,B].Nodup:=by rw[<-h];exact cq _
 have g:A≠B:=by simpa using i
 have d:=ST.srt_asc [A,B];have f:=λz=>ST.srt_mem z [A,B]
 match e:ST.srt [A,B],d,f with
 |[],_,f=>have:=(f A).mpr (by simp);simp at this
 |[X],_,f=>
  have a:=(f A).mpr (by simp);have b:=(f B).mpr (by simp);rw[K9]at a b;exact absurd (a.trans b.symm) g
 |X::Y::[],d,_=>
  have c:aq [A,B]=[X,Y]:=by unfold aq;rw[e];simp[ak,aV]
  rw[h]at c;injection c with c1 c2
  injection c2 with c2 _;subst c1 c2;exact (Lu.mp d).1 _ (by simp)
 |X::Y::Z::r,_,_=>
  have:=ST.srt_len [A,B];rw[e]at this;simp at this
def kB(l:List P2):Int:=pin l+qT l
def TP:List P2->Prop
 |[]=>True
 |a::v=>(v.Pairwise λx y=>0<ah a x y)/\TP v
theorem qW(f)(l):sdl (l.map f)=(sdl l).map λs=>(f s.1,f s.2):=by
 rw[xF,xF,<-VJ,<-VI,<-LO];generalize l.drop 1++l.take 1=m
 induction l generalizing m with
 |nil=>rfl
 |cons a l c=>
  cases m with
  |nil=>simp
  |cons b m=>simp only[Lb,Np];rw[c]
theorem AQ(d:0<k)(l):aq (l.map (scl k))=(aq l).map (scl k):=jD (λa b=>qk d a b) (λa b c=>xq d a b c) l
theorem yR(f:l≠[]):aq (l.map (scl 0))=[(0,0)]:=by
 have c:l.map (scl 0)≠[]:=by simpa using f
 have b:∀q∈l.map (scl 0),q=(0,0):=λq d=>by
  obtain⟨p,_,rfl⟩:=KZ.mp d;unfold scl;simp
 have:ST.srt (l.map (scl 0))=ST.srt [(0,0)]:=ki λz=>by
  rw[K9];constructor
  .exact b z
  .rintro rfl;obtain⟨a,r,e⟩:=QP c;rw[e];have:=b a (by rw[e];simp);rw[this];simp
 rw[mX this];rfl
theorem pL(h:ST.ltP a b=true):aq [a,b]=[a,b]:=by
 have e:ST.srt [a,b]=[a,b]:=ST.asc_srt (by simp[ST.Asc,h]);unfold aq;rw[e];simp[ak,aV]
def cS(l:List P2)(p:P2):Bool:=if l.length=1 then decide (p=gp l 0) else if l.length=2 then (decide (ah (gp l 0) (gp l 1) p=0) && (ST.leP (gp l 0) p && ST.leP p (gp l 1))) else (sdl l).all λs=>decide (0<=ah s.1 s.2 p)
theorem gB(a:3<=l.length)(p):cS l p=true↔∀s∈sdl l,0<=ah s.1 s.2 p:=by
 unfold cS;rw[if_neg (by lia),if_neg (by lia),OJ];simp only[decide_eq_true_eq]
theorem fo(A B p):cS [A,B] p=true↔ah A B p=0/\ST.leP A p=true/\ST.leP p B=true:=by
 unfold cS;rw[if_neg (by simp),if_pos (by simp),MN,MN,decide_eq_true_eq];rfl
theorem jc(A p):cS [A] p=true↔p=A:=by
 unfold cS;rw[if_pos (by simp),decide_eq_true_eq];rfl
theorem JS(h:ST.ltP A B=true):A.1<B.1\/(A.1=B.1/\A.2<B.2):=by
 exact of_decide_eq_true h
theorem Cp(h:ST.ltP A B=true):loX [A,B]=A.1/\hiX [A,B]=B.1/\loY [A,B]=min A.2 B.2/\hiY [A,B]=max A.2 B.2:=by
 have:=JS h;exact⟨(by show min A.1 B.1=A.1;lia),(by show max A.1 B.1=B.1;lia),rfl,rfl⟩
theorem EH(h:ST.ltP A B=true)(a:cS [A,B] p=true):p∈box [A,B]:=by
 have:=(fo A B p).mp a;exact ((Ee h).mpr ((rJ h).mp this)).1
structure Fld(l:List P2):Prop where
 ne:l≠[]
 cr:aq l=l
theorem Fld.cases(F:Fld l):(∃A,l=[A])\/(∃A B,l=[A,B]/\ST.ltP A B=true)\/3<=(aq l).length:=by
 match l,F with
 |[],F=>exact absurd rfl F.ne
 |[A],_=>exact .inl ⟨A,rfl⟩
 |[A,B],F=>exact .inr (.inl ⟨A,B,rfl,zk F.cr⟩)
 |A::B::C::r,F=>exact .inr (.inr (by rw[F.cr];simp))
theorem Fld.in_box(F:Fld l)(h:cS l p=true):p∈box l:=by
 rcases F.cases with ⟨A,rfl⟩ |⟨A,B,rfl,lt⟩ |a
 .rw[(jc A p).mp h,Fw];simp
 .exact EH lt h
 .rw[<-F.cr]at h |-;exact A0 a ((gB a p).mp h)
def shf(s a b:Int)(p:P2):P2:=(p.1+a,p.2+s*p.1+b)
theorem DI(s a b)(p q)(h:plt p q):plt (shf s a b p) (shf s a b q):=by
 unfold plt shf at *;rcases h with h |⟨h,k⟩
 .left;lia
 .right;rw[h];lia
theorem qX(s a b)(p q r):ah (shf s a b p) (shf s a b q) (shf s a b r)=ah p q r:=by unfold ah shf;grind
theorem Ec(e:shf s a b p=shf s a b q):p=q:=by
 have c:p.1+a=q.1+a:=congrArg Qx e;have d:p.2+s*p.1+b=q.2+s*q.1+b:=congrArg QX e;have c:p.1=q.1:=by lia
 rw[c]at d;exact Mo c (by lia)
theorem mm(s a b)(l):aq (l.map (shf s a b))=(aq l).map (shf s a b):=jD (DI s a b) (λp q r=>by rw[qX]) l
theorem xw(s a b)(p q):ST.leP (shf s a b p) (shf s a b q)=ST.leP p q:=by
 unfold ST.leP shf;rw[OA,decide_eq_true_eq,decide_eq_true_eq];constructor
 .rintro (h |⟨h,k⟩)
  .left;lia
  .right
   have:p.1=q.1:=by lia
   rw[this]at k;lia
 .rintro (h |⟨h,k⟩)
  .left;lia
  .right;rw[h];lia
theorem v9{l:List P2}(h:i<l.length):gp (l.map f) i=f (gp l i):=by simp[gp,h]
theorem Ic(s a b)(l)(g:l≠[])(p):cS (l.map (shf s a b)) (shf s a b p)=cS l p:=by
 have f:=LF.mpr g;unfold cS;rw[KI];by_cases d:l.length=1
 .rw[if_pos d,if_pos d,v9 f];exact decide_eq_decide.mpr ⟨Ec,λe=>by rw[e]⟩
 .rw[if_neg d,if_neg d];by_cases c:l.length=2
  .rw[if_pos c,if_pos c,v9 f,v9 (show 1<l.length by lia),qX,xw,xw]
  .rw[if_neg c,if_neg c,qW,Um];congr 1
   funext t
   show decide (0<=ah (shf s a b t.1) (shf s a b t.2) (shf s a b p))=_;rw[qX]
theorem zZ(r:pts≠[]):∃f d,(aq pts)[0]?=some f/\f∈pts/\d∈pts/\(∀q∈pts,ST.ltP q f=false)/\(∀q∈pts,ST.ltP d q=false)/\(¬ 2<(aq pts).length->(aq pts)[(aq pts).length-1]?=some d):=by
 have j:∀{a b},(a=b\/plt a b)->ST.ltP b a=false:=λ{a b} h=>by
  rw[ST.ltP_no];rcases h with rfl |h
  .lia
  .unfold plt at h;lia
 by_cases m:2<=(ST.srt pts).length
 .have p:=dW pts;obtain⟨f,d,W⟩:=Fd p m
  have l:aq pts=(ak (ST.srt pts)).reverse.dropLast++(ak (ST.srt pts).reverse).reverse.dropLast:=by
   unfold aq;rw[if_neg (by lia)]
  have o:=ca _ _ (Ll.mp (Lo W.t0));have i:=ca _ _ (Ll.mp (Lo W.t1));refine⟨f,d,?_,(ST.srt_mem _ _).mp o,(ST.srt_mem _ _).mp i,λq c=>j ((W.least q ((ST.srt_mem _ _).mpr c)).imp (λe=>e.symm) id),λq c=>j (W.most q ((ST.srt_mem _ _).mpr c)),λh=>?_⟩
  .have:=jT W (k:=0) (by lia);rw[VZ]at this;rw[l,this];exact W.t0
  .rw[l]at h |-;have n:=W.lt;have t:=W.lb;have s:((ak (ST.srt pts)).reverse.dropLast++(ak (ST.srt pts).reverse).reverse.dropLast).length=(ak (ST.srt pts)).reverse.length-1+((ak (ST.srt pts).reverse).reverse.length-1):=by simp
   have:=jT W (K1 _);rw[W.t1,Mc (by lia)]at this
   rw[<-this];congr 1;lia
 .have n:(ST.srt pts).length=1:=by
   obtain⟨x,g⟩:=Q5 pts r;have:=Mp ((ST.srt_mem x pts).mpr g);lia
  obtain⟨x,g⟩:=MV.mp n;have all:∀q∈pts,q=x:=λq c=>by have:=(ST.srt_mem q pts).mpr c;rw[g]at this;simpa using this
  have d:x∈pts:=(ST.srt_mem _ _).mp (by rw[g];simp);rw[cw m,g];exact⟨x,x,rfl,d,d,λq c=>j (.inl (all q c).symm),λq c=>j (.inl (all q c)),λ_=>rfl⟩
theorem qQ(L:Lin f d)(A B):gst (f A,f B)=gst (A,B):=by
 have:=x5 L (A,B);unfold sdf at this;split at this
 .exact this
 .rw[<-fm];exact this
theorem Ca(L:Lin f d)(h:A≠B)(k):onS (f A,f B) k=f (onS (A,B) k):=by
 have o:0<gst (A,B):=lV h;have i:=nV (A,B);have j:=nC (A,B);have l:=qQ L A B;obtain⟨a,b,c,e,_,g⟩:=L.ex
 have m:ub (f A,f B)=a*ub (A,B)+b*vb (A,B):=by
  unfold ub;rw[l];rw[g,g]
  rw[show a*B.1+b*B.2-(a*A.1+b*A.2)=gst (A,B) *(a*ub (A,B)+b*vb (A,B)) by
   have:a*B.1+b*B.2-(a*A.1+b*A.2)=a*(B.1-A.1)+b*(B.2-A.2):=by grind
   rw[this,i,j];grind]
  rw[Nb _ (by omega)];rfl
 have n:vb (f A,f B)=c*ub (A,B)+e*vb (A,B):=by
  unfold vb;rw[l];rw[g,g]
  rw[show c*B.1+e*B.2-(c*A.1+e*A.2)=gst (A,B) *(c*ub (A,B)+e*vb (A,B)) by
   have:c*B.1+e*B.2-(c*A.1+e*A.2)=c*(B.1-A.1)+e*(B.2-A.2):=by grind
   rw[this,i,j];grind]
  rw[Nb _ (by omega)];rfl
 unfold onS;rw[m,n];rw[g,g];exact Mo (by dsimp only;grind) (by dsimp only;grind)
theorem Eo(h:A≠B)(k):onS (B,A) k=onS (A,B) (gst (A,B)-k):=by
 have d:=nV (A,B);have f:=nC (A,B);have b:=nV (B,A);have c:=nC (B,A);have e:0<gst (A,B):=lV h;rw[fm]at b c;dsimp only at *;have u:ub (B,A)=-ub (A,B):=Ma (a:=gst (A,B)) (by lia) (by rw[Rw];lia)
 have v:vb (B,A)=-vb (A,B):=Ma (a:=gst (A,B)) (by lia) (by rw[Rw];lia);unfold onS;rw[u,v];exact Mo (by dsimp only;grind) (by dsimp only;grind)
def tK(A B p:P2):Prop:=∃k:Int,0<=k/\k<=gst (A,B)/\p=onS (A,B) k
theorem Aw(h:A≠B)(p):tK B A p↔tK A B p:=by
 have a:∀{A B},A≠B->tK B A p->tK A B p:=λ{A B} h ⟨k,c,b,e⟩=>by
  rw[fm]at b;exact⟨gst (A,B)-k,by lia,by lia,by rw[e,Eo h]⟩
 exact⟨a h,a h.symm⟩
theorem E1(L:Lin f d)(h:A≠B)(p):tK (f A) (f B) (f p)↔tK A B p:=by
 unfold tK;rw[qQ L];constructor
 .rintro ⟨k,b,a,e⟩;exact⟨k,b,a,L.inj (by rw[e,Ca L h])⟩
 .rintro ⟨k,b,a,e⟩;exact⟨k,b,a,by rw[e,Ca L h]⟩
theorem wj(h:ST.ltP A B=true)(p):cS [A,B] p=true↔tK A B p:=by rw[fo,rJ h];rfl
theorem i7(h:A≠B):(ST.ltP A B=true/\aq [A,B]=[A,B])\/(ST.ltP B A=true/\aq [A,B]=[B,A]):=by
 by_cases a:ST.ltP A B=true
 .exact .inl ⟨a,pL a⟩
 .have b:=ST.ltP_tot h (by simpa using a);refine .inr ⟨b,?_⟩;rw[mX (ki (m:=[B,A]) λz=>by simp[or_comm]),pL b]
theorem GP(L:Lin f d)(F:Fld l)(p):cS (aq (l.map f)) (f p)=cS l p:=by
 rw[OA];rcases F.cases with ⟨A,rfl⟩ |⟨A,B,rfl,lt⟩ |c
 .have e:aq ([A].map f)=[f A]:=rfl;rw[e,jc,jc];exact⟨λh=>L.inj h,λh=>by rw[h]⟩
 .have i:A≠B:=λe=>by rw[e,ST.asc_irr]at lt;cases lt
  have a:f A≠f B:=λe=>i (L.inj e);rw[wj lt,<-E1 L i];show cS (aq [f A,f B]) (f p)=true↔_;rcases i7 a with ⟨h,e⟩ |⟨h,e⟩
  .rw[e,wj h]
  .rw[e,wj h,Aw a]
 .have m:=fS L c;have g:3<=l.length:=by rw[<-F.cr];exact c
  rw[gB m,gB g];constructor
  .intro h s b;have:=h _ ((vz L c _).mpr ⟨s,by rw[F.cr];exact b,rfl⟩);unfold sdf at this;rcases L.one with e |e
   .rw[if_pos e]at this;rw[L.det,e,M6]at this;exact this
   .rw[if_neg (by lia)]at this
    rw[L.det,e]at this;have j:ah s.2 s.1 p=-ah s.1 s.2 p:=by unfold ah;grind
    lia
  .intro h t n;obtain⟨s,b,rfl⟩:=(vz L c t).mp n;have k:=h s (by rw[F.cr]at b;exact b);unfold sdf;rcases L.one with e |e
   .rw[if_pos e];rw[L.det,e,M6];exact k
   .rw[if_neg (by lia)];rw[L.det,e];have j:ah s.2 s.1 p=-ah s.1 s.2 p:=by unfold ah;grind
    lia
theorem ql(h:a*d-b*c=1\/a*d-b*c=-1):Lin (λp:P2=>(a*p.1+b*p.2,c*p.1+d*p.2)) (a*d-b*c):=⟨h,a,b,c,d,rfl,λ_=>rfl⟩
theorem nE(a b c d e f)(l:List P2):l.map (ap a b c d e f)=(l.map λp:P2=>(a*p.1+b*p.2,c*p.1+d*p.2)).map (shf 0 e f):=by
 rw[Lh];refine NI λp _=>?_;unfold ap shf;exact Mo rfl (by dsimp only[Function.comp];lia)
theorem F_(e f)(h:a*d-b*c=1\/a*d-b*c=-1)(F:Fld l)(p):cS (aq (l.map (ap a b c d e f))) (ap a b c d e f p)=cS l p:=by
 rw[nE,mm]
 have g:ap a b c d e f p=shf 0 e f (a*p.1+b*p.2,c*p.1+d*p.2):=by
  unfold ap shf;exact Mo rfl (by dsimp only;lia)
 rw[g,Ic _ _ _ _ (jY (by simpa using F.ne))];exact GP (ql h) F p
theorem Bk(e f)(F:Fld l):Fld (aq (l.map (ap a b c d e f))):=⟨jY (by simpa using F.ne),j_ _⟩
theorem HN(h:a*d-b*c=1\/a*d-b*c=-1)(k:ap a b c d e f p=ap a b c d e f q):p=q:=by
 refine (ql h).inj ?_;have g:a*p.1+b*p.2+e=a*q.1+b*q.2+e:=congrArg Qx k;have i:c*p.1+d*p.2+f=c*q.1+d*q.2+f:=congrArg QX k;exact Mo (by dsimp only;lia) (by dsimp only;lia)
theorem HI(h:a*d-b*c=1\/a*d-b*c=-1)(q):∃p,ap a b c d e f p=q:=by
 rcases h with h |h
 .refine⟨(d*(q.1-e)-b*(q.2-f),a*(q.2-f)-c*(q.1-e)),?_⟩;unfold ap;refine Mo ?_ ?_
  .dsimp only;have:a*(d*(q.1-e)-b*(q.2-f))+b*(a*(q.2-f)-c*(q.1-e))=(a*d-b*c) *(q.1-e):=by grind
   rw[this,h];lia
  .dsimp only;have:c*(d*(q.1-e)-b*(q.2-f))+d*(a*(q.2-f)-c*(q.1-e))=(a*d-b*c) *(q.2-f):=by grind
   rw[this,h];lia
 .refine⟨(-(d*(q.1-e)-b*(q.2-f)),-(a*(q.2-f)-c*(q.1-e))),?_⟩;unfold ap;refine Mo ?_ ?_
  .dsimp only;have:a* -(d*(q.1-e)-b*(q.2-f))+b* -(a*(q.2-f)-c*(q.1-e))=-((a*d-b*c) *(q.1-e)):=by grind
   rw[this,h];lia
  .dsimp only;have:c* -(d*(q.1-e)-b*(q.2-f))+d* -(a*(q.2-f)-c*(q.1-e))=-((a*d-b*c) *(q.2-f)):=by grind
   rw[this,h];lia
def nk(s:P2×P2)(y:Int):Int:=(s.2.1-s.1.1) *(y-s.1.2)
def Dq(y:Int)(s:P2×P2):Int:=s.1.1+nk s y/(s.2.2-s.1.2)
def Di(y:Int)(s:P2×P2):Int:=s.1.1-nk s y / -(s.2.2-s.1.2)
def dL(l:List P2)(a:List (P2×P2))(y:Int):List Int:=hiX l::(a.filter λs=>decide (0<s.2.2-s.1.2)).map (Dq y)
def dI(l:List P2)(a:List (P2×P2))(y:Int):List Int:=loX l::(a.filter λs=>decide (s.2.2-s.1.2<0)).map (Di y)
def oK(l:List P2)(y:Int):Int:=ky (dL l (sdl l) y)
def gJ(l:List P2)(y:Int):Int:=hiL (dI l (sdl l) y)
theorem l7(s)(x y):ah s.1 s.2 (x,y)=nk s y-(s.2.2-s.1.2) *(x-s.1.1):=by unfold ah nk;grind
theorem wH(h:0<s.2.2-s.1.2):0<=ah s.1 s.2 (x,y)↔x<=Dq y s:=by
 rw[l7];unfold Dq;have k:x-s.1.1<=nk s y/(s.2.2-s.1.2)↔(x-s.1.1) *(s.2.2-s.1.2)<=nk s y:=RV h;rw[NQ]at k;omega
theorem wR(h:s.2.2-s.1.2<0):0<=ah s.1 s.2 (x,y)↔Di y s<=x:=by
 rw[l7];unfold Di;have k:s.1.1-x<=nk s y / -(s.2.2-s.1.2)↔(s.1.1-x) * -(s.2.2-s.1.2)<=nk s y:=RV (by lia);have e:(s.1.1-x) * -(s.2.2-s.1.2)=(s.2.2-s.1.2) *(x-s.1.1):=by grind
 lia
theorem xQ:x<=ky (dL l ss y)↔x<=hiX l/\∀s∈ss,0<s.2.2-s.1.2->x<=Dq y s:=by
 have ok:=bT (l:=dL l ss y) (by unfold dL;simp);constructor
 .intro h;refine⟨NS h (ok.2 _ (by unfold dL;simp)),λs a b=>NS h (ok.2 _ ?_)⟩;exact KN _ (LU (LW.mpr ⟨a,decide_eq_true b⟩))
 .rintro ⟨f,c⟩;have m:=ok.1;unfold dL at m;rcases KO.mp m with e |e
  .unfold dL;rw[e];exact f
  .obtain⟨s,a,d⟩:=KZ.mp e;obtain⟨a,b⟩:=LW.mp a;unfold dL;rw[<-d];exact c s a (of_decide_eq_true b)
theorem wL:hiL (dI l ss y)<=x↔loX l<=x/\∀s∈ss,s.2.2-s.1.2<0->Di y s<=x:=by
 have ok:=dt (l:=dI l ss y) (by unfold dI;simp);constructor
 .intro h;refine⟨NS (ok.2 _ (by unfold dI;simp)) h,λs a b=>NS (ok.2 _ ?_) h⟩;exact KN _ (LU (LW.mpr ⟨a,decide_eq_true b⟩))
 .rintro ⟨f,c⟩;have m:=ok.1;unfold dI at m;rcases KO.mp m with e |e
  .unfold dI;rw[e];exact f
  .obtain⟨s,a,d⟩:=KZ.mp e;obtain⟨a,b⟩:=LW.mp a;unfold dI;rw[<-d];exact c s a (of_decide_eq_true b)
theorem C_(a:l≠[]):∃q∈l,q.2=loY l:=by
 obtain⟨q,b,e⟩:=KZ.mp (bT (by simpa using a)).1;exact⟨q,b,e⟩
theorem Bt(a:l≠[]):∃q∈l,q.2=hiY l:=by
 obtain⟨q,b,e⟩:=KZ.mp (dt (by simpa using a)).1;exact⟨q,b,e⟩
theorem CG(F:Fld l)(i:3<=l.length)(B:loY l<=y)(C:y<=hiY l):cS l (x,y)=true↔gJ l y<=x/\x<=oK l y:=by
 have j:=F.cr;have r:3<=(aq l).length:=by rw[j];exact i
 unfold gJ oK;rw[xQ,wL];constructor
 .intro h;have d:=(gB i _).mp h;have b:=(dU F.ne).mp (F.in_box h);exact⟨⟨b.1.1,λs a g=>(wR g).mp (d s a)⟩,b.1.2,λs a g=>(wH g).mp (d s a)⟩
 .rintro ⟨⟨_,t⟩,_,o⟩;refine (gB i _).mpr λs a=>?_;rcases L9 0 (s.2.2-s.1.2) with z |z
  .exact (wH z).mpr (o s a z)
  .rcases L9 (s.2.2-s.1.2) 0 with w |w
   .exact (wR w).mpr (t s a w)
   .have m:s.2.2-s.1.2=0:=by lia
    have e:∀q∈l,0<=(s.2.1-s.1.1) *(q.2-s.1.2):=λq f=>by
     have k:=dD r (by rw[j];exact a) q f;have:=l7 s q.1 q.2;rw[m,Na,SD]at this;rw[<-show nk s q.2=(s.2.1-s.1.1) *(q.2-s.1.2) from rfl,<-this]
     exact k
    rw[l7,m,Na,SD];show 0<=(s.2.1-s.1.1) *(y-s.1.2);rcases L9 0 (s.2.1-s.1.1) with u |u
    .obtain⟨q,f,p⟩:=C_ F.ne;have k:=NR (e q f) u;exact LK (by lia) (by lia)
    .rcases L9 (s.2.1-s.1.1) 0 with v |v
     .obtain⟨q,f,p⟩:=Bt F.ne;have c:=e q f;have n:(s.2.1-s.1.1) *(q.2-s.1.2)=(-(s.2.1-s.1.1)) *(s.1.2-q.2):=by grind
      rw[n]at c;have k:=NR c (by lia)
      have A:(s.2.1-s.1.1) *(y-s.1.2)=(-(s.2.1-s.1.1)) *(s.1.2-y):=by grind
      rw[A];exact LK (by lia) (by lia)
     .rw[show s.2.1-s.1.1=0 by lia,Na];exact Qe _
theorem bZ:ST.leP a b=true↔a.1<b.1\/(a.1=b.1/\a.2<=b.2):=by unfold ST.leP;exact decide_eq_true_iff
theorem AK(f:ST.ltP A B=true)(h:A.2=B.2)(g:y=A.2):cS [A,B] (x,y)=true↔gJ [A,B] y<=x/\x<=oK [A,B] y:=by
 obtain⟨e,i,_,_⟩:=Cp f;unfold gJ oK;rw[xQ,wL,fo,ED,e,i];constructor
 .rintro ⟨_,d,c⟩;rw[bZ]at d c;refine⟨⟨by lia,λs a b=>?_⟩,by lia,λs a b=>?_⟩
  .simp at a;rcases a with rfl |rfl <;>dsimp only at b <;>lia
  .simp at a;rcases a with rfl |rfl <;>dsimp only at b <;>lia
 .rintro ⟨⟨d,_⟩,c,_⟩;rw[bZ,bZ];refine⟨?_,by lia,by lia⟩;unfold ah;rw[g,<-h];grind
def nQ(l:List P2)(y:Int):List P2:=(sJ (gJ l y) (oK l y+1-gJ l y).toNat).map λx=>(x,y)
def eG(l:List P2)(n:Nat):List P2:=((LP n).map λy:Nat=>nQ l (0+(y:Int))).flatten
theorem fW:p∈nQ l y↔p.2=y/\gJ l y<=p.1/\p.1<=oK l y:=by
 unfold nQ;rw[KZ];constructor
 .rintro ⟨x,a,rfl⟩;have:=f8.mp a;exact⟨rfl,by omega,by omega⟩
 .rintro ⟨e,b,c⟩;exact⟨p.1,f8.mpr ⟨b,by omega⟩,by rw[<-e]⟩
theorem eS:p∈eG l n↔(0<=p.2/\p.2<n)/\gJ l p.2<=p.1/\p.1<=oK l p.2:=by
 unfold eG;rw[UI];constructor
 .rintro ⟨r,d,c⟩;obtain⟨y,hy,rfl⟩:=KZ.mp d;have:=Lx.mp hy;obtain⟨e,b,a⟩:=fW.mp c;rw[<-e]at b a;exact⟨by lia,b,a⟩
 .rintro ⟨f,b,a⟩;exact⟨_,KZ.mpr ⟨p.2.toNat,Lx.mpr (by lia),rfl⟩,fW.mpr ⟨by lia,by rw[show 0+(p.2.toNat:Int)=p.2 by lia];exact⟨b,a⟩⟩⟩
theorem w9(l)(y):(nQ l y).Nodup:=N_ _ (λa b h e=>h (congrArg Qx e)) (rP _ _)
theorem n_(l)(n):eG l (n+1)=eG l n++nQ l (0+(n:Int)):=by
 unfold eG;rw[PY,LO,List.flatten_append];simp
theorem nZ(l):∀n,(eG l n).Nodup
 |0=>by unfold eG;simp
 |n+1=>by
  rw[n_];refine OC.mpr ⟨nZ l n,w9 l _,λa d b f e=>?_⟩;have h1:=eS.mp d;have c:=(fW.mp f).1;rw[<-e]at c;lia
structure Lev(l:List P2):Prop where
 F:Fld l
 y0:loY l=0
 two:l.length=2->hiY l=0
 ne1:2<=l.length
theorem l_(L:Lev l)(p):p∈eG l (hiY l+1).toNat↔cS l p=true:=by
 obtain⟨q,f,m⟩:=C_ L.F.ne
 have k:0<=hiY l:=by
  have:=(dt (l:=l.map (·.2)) (by simpa using L.F.ne)).2 q.2 (LU f);have e:=L.y0;unfold hiY;lia
 rw[eS]
 have a:0<=p.2->p.2<=hiY l->(cS l (p.1,p.2)=true↔gJ l p.2<=p.1/\p.1<=oK l p.2):=λc d=>by
  rcases L.F.cases with ⟨A,rfl⟩ |⟨A,B,e,lt⟩ |g
  .have:=L.ne1;simp at this
  .subst e;obtain⟨_,_,j,i⟩:=Cp lt;have t:=L.two rfl;have n:=L.y0;exact AK lt (by lia) (by lia)
  .exact CG L.F (by rw[<-L.F.cr];exact g) (by rw[L.y0];exact c) d
 constructor
 .rintro ⟨c,d⟩;exact (a c.1 (by lia)).mpr d
 .intro h;have b:=(dU L.F.ne).mp (L.F.in_box h);rw[L.y0]at b;exact⟨by lia,(a b.2.1 b.2.2).mp h⟩
structure LvP(a b:P2)(g u v s t:Int):Prop where
 gp:0<g
 hu:g*u=b.1-a.1
 hv:g*v=b.2-a.2
 st:s*u+t*v=1
abbrev lvF(a:P2)(u v s t:Int):P2->P2:=ap s t (-v) u (-s*a.1-t*a.2) (v*a.1-u*a.2)
abbrev bkF(a:P2)(u v s t:Int):P2->P2:=ap u (-t) v s a.1 a.2
theorem yj(L:LvP a b g u v s t)(p):bkF a u v s t (lvF a u v s t p)=p/\lvF a u v s t (bkF a u v s t p)=p:=by
 have h:=L.st;unfold bkF lvF ap;refine⟨Mo ?_ ?_,Mo ?_ ?_⟩ <;>dsimp only
 .have:u*(s*p.1+t*p.2+(-s*a.1-t*a.2))+-t*(-v*p.1+u*p.2+(v*a.1-u*a.2))+a.1=(s*u+t*v) *p.1-(s*u+t*v) *a.1+a.1:=by grind
  rw[this,h];lia
 .have:v*(s*p.1+t*p.2+(-s*a.1-t*a.2))+s*(-v*p.1+u*p.2+(v*a.1-u*a.2))+a.2=(s*u+t*v) *p.2-(s*u+t*v) *a.2+a.2:=by grind
  rw[this,h];lia
 .have:s*(u*p.1+-t*p.2+a.1)+t*(v*p.1+s*p.2+a.2)+(-s*a.1-t*a.2)=(s*u+t*v) *p.1:=by grind
  rw[this,h];lia
 .have:-v*(u*p.1+-t*p.2+a.1)+u*(v*p.1+s*p.2+a.2)+(v*a.1-u*a.2)=(s*u+t*v) *p.2:=by grind
  rw[this,h];lia
theorem Ih(L:LvP a b g u v s t)(q):g*(lvF a u v s t q).2=ah a b q:=by
 unfold lvF ap ah;rw[<-L.hu,<-L.hv];grind
theorem B2(F:Fld l)(y:2<=l.length)(L:LvP (gp l 0) (gp l 1) g u v s t):Lev (aq (l.map (lvF (gp l 0) u v s t))):=by
 have K:s*u-t* -v=1:=by have:=L.st;grind
 have C:=Bk (a:=s) (b:=t) (c:=-v) (d:=u) (-s*(gp l 0).1-t*(gp l 0).2) (v*(gp l 0).1-u*(gp l 0).2) F;have P:=L.gp;have r:lvF (gp l 0) u v s t (gp l 0)=(0,0):=by unfold lvF ap;refine Mo ?_ ?_ <;>dsimp only <;>grind
 have J:∀q∈l,0<=(lvF (gp l 0) u v s t q).2:=λq j=>by
  have e:=Ih L q
  have k:0<=ah (gp l 0) (gp l 1) q:=by
   rcases F.cases with ⟨A,rfl⟩ |⟨A,B,rfl,lt⟩ |h
   .simp at y
   .simp at j;rcases j with rfl |rfl
    .show 0<=ah q B q;unfold ah;grind
    .show 0<=ah A q q;unfold ah;grind
   .have R:3<=l.length:=by rw[<-F.cr];exact h
    have D:=ye (l:=l) (i:=0) (by lia);rw[show (0+1)%l.length=1 from Mc (by lia)]at D
    exact dD h (by rw[F.cr];exact D) q j
  rw[<-e]at k;exact NR k P
 have N:gp l 0∈l:=dl (by lia)
 have H:∀q∈aq (l.map (lvF (gp l 0) u v s t)),0<=q.2:=λq j=>by
  obtain⟨p,E,rfl⟩:=KZ.mp (b6 _ q j);exact J p E
 have len3:3<=l.length->3<=(aq (l.map (lvF (gp l 0) u v s t))).length:=λh=>by
  rw[nE,mm,KI];exact fS (ql (.inl K)) (by rw[F.cr];exact h)
 have two:∀A B,l=[A,B]->ST.ltP A B=true->aq (l.map (lvF (gp l 0) u v s t))=[(0,0),(g,0)]:=λA B e lt=>by
  subst e
  have x:lvF A u v s t B=(g,0):=by
   have G:=L.hu;have Q:=L.hv;have M:=L.st;have n:g*u=B.1-A.1:=G;have m:g*v=B.2-A.2:=Q;unfold lvF ap;refine Mo ?_ ?_ <;>dsimp only
   .have:s*B.1+t*B.2+(-s*A.1-t*A.2)=s*(B.1-A.1)+t*(B.2-A.2):=by grind
    rw[this,<-n,<-m];have:s*(g*u)+t*(g*v)=g*(s*u+t*v):=by grind
    rw[this,M,Rn]
   .have:-v*B.1+u*B.2+(v*A.1-u*A.2)=u*(B.2-A.2)-v*(B.1-A.1):=by grind
    rw[this,<-n,<-m];grind
  have o:lvF A u v s t A=(0,0):=r;show aq [lvF A u v s t A,lvF A u v s t B]=_;rw[o,x];rcases i7 (A:=(0,0)) (B:=(g,0)) (λe=>by have:=congrArg Qx e;dsimp only at this;lia) with ⟨_,e⟩ |⟨z,_⟩
  .exact e
  .have:=JS z;dsimp only at this;lia
 refine⟨C,?_,λe=>?_,?_⟩
 .obtain⟨c,I,k⟩:=rX 0 (-1) (LU (f:=lvF (gp l 0) u v s t) N);rw[r]at k;unfold wth at k;have ok:=bT (l:=(aq (l.map (lvF (gp l 0) u v s t))).map (·.2)) (by simpa using C.ne)
  have le:=ok.2 c.2 (LU I);obtain⟨d,O,S⟩:=KZ.mp ok.1;have:=H d O;unfold loY;lia
 .rcases F.cases with ⟨A,rfl⟩ |⟨A,B,w,lt⟩ |h
  .simp at y
  .rw[two A B w lt];rfl
  .have:=len3 (by rw[<-F.cr];exact h);lia
 .rcases F.cases with ⟨A,rfl⟩ |⟨A,B,w,lt⟩ |h
  .simp at y
  .rw[two A B w lt];exact K1 _
  .have:=len3 (by rw[<-F.cr];exact h);lia
noncomputable def C8(l:List P2)(u v s t:Int):List P2:=(eG (aq (l.map (lvF (gp l 0) u v s t))) (hiY (aq (l.map (lvF (gp l 0) u v s t)))+1).toNat).map (bkF (gp l 0) u v s t)
theorem xj(F:Fld l)(b:2<=l.length)(L:LvP (gp l 0) (gp l 1) g u v s t)(p):p∈C8 l u v s t↔cS l p=true:=by
 have c:s*u-t* -v=1:=by have:=L.st;grind
 have a:=λq=>F_ (-s*(gp l 0).1-t*(gp l 0).2) (v*(gp l 0).1-u*(gp l 0).2) (.inl c) F q;have V:=B2 F b L;unfold C8;rw[KZ];constructor
 .rintro ⟨q,d,rfl⟩;have k:=(l_ V q).mp d;rw[<-(yj L q).2]at k;rw[<-a];exact k
 .intro h;exact⟨lvF (gp l 0) u v s t p,(l_ V _).mpr (by rw[a];exact h),(yj L p).1⟩
theorem AF(L:LvP (gp l 0) (gp l 1) g u v s t):(C8 l u v s t).Nodup:=
 N_ _ (λa b h e=>h (by rw[<-(yj L a).2,<-(yj L b).2,e])) (nZ _ _)
def aU(l:List P2):List P2:=ST.srt ((box l).filter λp=>cS l p)
theorem bM(F:Fld l)(p):p∈aU l↔cS l p=true:=by
 unfold aU;rw[ST.srt_mem,LW];exact⟨λh=>h.2,λh=>⟨F.in_box h,h⟩⟩
theorem rh(F:Fld l)(h:∀p,p∈R↔cS l p=true):ST.srt R=aU l:=by
 refine ki λp=>?_;rw[h,LW];exact⟨λk=>⟨F.in_box k,k⟩,λk=>k.2⟩
def Bb:List U->Out->Prop:=λa o=>∃l:List P2,a=[lp l]/\0<l.length/\l.length<=900/\(∀p∈l,Szp 2500 p)/\o=.val (.int (qT l))
theorem C0:OkD P w base T.abF 4 (Bb):=by
 refine okD we (by walk_at"ln") ?_;rintro _ _ _ b ⟨l,rfl,c,o,sz,rfl⟩;have f:((l.map pu).length:Int)=(l.length:Int):=by rw[KI]
 unfold qT;by_cases n:l.length<3
 .rw[if_pos n];refine ae (bY (au eM (ao (bj rfl) rfl T.aaa Ld (ac (aa 0 rfl) aj af)) ag) (by rw[f];exact decide_eq_true (by lia)) ?_);have k:=sz _ (dl c);have h:=sz _ (dl (l:=l) (i:=l.length-1) (by lia));obtain⟨d,e,G⟩:=nI ((gp l (l.length-1)).1-(gp l 0).1) ((gp l (l.length-1)).2-(gp l 0).2);refine ae (aJ (cR (aQ (nj T) b (ac (aw (aa 0 rfl) ag rfl (IM c)) (ac (aw (aa 0 rfl) (ce ag) rfl (xD c)) aj aD) aD) ⟨_,_,_,_,_,d,e,rfl,⟨k.1.mono (by decide),k.2.mono (by decide),h.1.mono (by decide),h.2.mono (by decide)⟩,G,rfl⟩) ag) ?_);exact rfl
 .rw[if_neg n];refine ae (aL (au eM (ao (bj rfl) rfl T.aaa Ld (ac (aa 0 rfl) aj af)) ag) (by rw[f];exact decide_eq_false (by lia)) (ay ?_));refine ae (aJ (ao (gQ rfl ) rfl T.aaN Rx (ac (EvN.ev (bv (ys:=(((sdl l).map gst).map U.int)) rfl (blk (ai AI) ["land","A","B"] [1,2] rfl rfl rfl rfl (by decide+kernel)) (EvI.z (bL (EvN.ev (dy (gU T) b (ac (aa 0 rfl) aj af) ⟨l,rfl,o,rfl⟩)) (.inl rfl))) (λ_ _ _ _=>c6 rfl (aC (aB (i:=1) we.nd rfl (Or.inl rfl)) (aC (aB (i:=2) we.nd rfl (Or.inl rfl)) bO))) (cy (js:=[1,2]) (by decide)) ?clen ?csz ?dom ?celt)) aj bF)) ?_)
  case clen=>simp
  case csz=>simp only[fB,KI];exact La (am (by lia))
  case dom=>
   intro x a;obtain⟨s,_,rfl⟩:=KZ.mp a;exact⟨_,rfl,rfl⟩
  case celt=>
   intro C q r t j x y a hy;rw[Lh]at hy;obtain⟨s,u,p,rfl,rfl⟩:=bG a hy;obtain⟨g,m⟩:=c9 p;obtain⟨d,e,G⟩:=nI (s.2.1-s.1.1) (s.2.2-s.1.2);exact (aQ (nj T) b (ac (aa 1 rfl) (ac (aa 2 rfl) aj af) af) ⟨_,_,_,_,_,d,e,rfl,⟨(sz _ g).1.mono (by decide),(sz _ g).2.mono (by decide),(sz _ m).1.mono (by decide),(sz _ m).2.mono (by decide)⟩,G,rfl⟩)
  exact rfl
theorem vn(a:Sz n k)(s:Szp m p):Szp (n+m) (scl k p):=⟨L2.Sz.mul a s.1,L2.Sz.mul a s.2⟩
def j8:List U->Out->Prop:=λb o=>∃(a:List P2) (k:Int),b=[lp a,.int k]/\Sz 1000 k/\(∀p∈a,Szp 3000 p)/\a≠[]/\a.length<64/\o=.new ((aq (a.map (scl k))).map pu)
theorem lO:OkD P w base T.abb 5 (j8):=by
 refine okD xO (by walk_at"ln") ?_;rintro _ _ _ g ⟨a,k,rfl,d,sz,h,l,rfl⟩;refine ae (c7 (dy (jS T) g (ac (EvN.ev (bv (ys:=(a.map λp=>pu (scl k p))) rfl (blk (ai vv) ["land","k","P"] [2] rfl rfl rfl rfl (by decide+kernel)) (EvI.z (bL (aa 0 rfl) (.inl rfl))) (λ_ _ _ _=>aB (i:=2) xO.nd rfl (Or.inl rfl)) (bS (by decide)) ?clen ?csz (λ_ _=>trivial) ?celt)) aj bF) ⟨a.map (scl k),by rw[lp,Lh];rfl,λp b=>by obtain⟨q,f,rfl⟩:=KZ.mp b;have z:=vn d (sz q f);exact⟨z.1.mono (by decide),z.2.mono (by decide)⟩,by rw[KI];exact l,by simpa using h,rfl⟩) ?_)
 case clen=>simp
 case csz=>rw[KI];exact La (am (by lia))
 case celt=>
  intro C m n r j x y e hy;obtain⟨p,b,c,rfl,rfl⟩:=bG e hy;have s:=(sz p c).1;have o:=(sz p c).2;exact (bD (av (aY (aa 1 rfl) (aw (aa 2 rfl) ag rfl rfl) (by walk_at"mul")) (av (aY (aa 1 rfl) (aw (aa 2 rfl) ag rfl rfl) (by walk_at"mul")) a_ be) be))
 exact rfl
def yG:List U->Out->Prop:=λb o=>∃(a:List P2) (k:Int),b=[lp a,.int k]/\0<=k/\Sz 1000 k/\(∀p∈a,Szp 3000 p)/\a≠[]/\a.length<64/\o=.new ((aq (a.map (scl k))).map pu)
theorem s_:OkD P w base T.aa6 6 (yG):=by
 refine okD sW (by walk_at"ln") ?_;rintro _ _ _ c ⟨a,k,rfl,f,b,sz,e,d,rfl⟩;refine ae (aL (au eM (aa 1 rfl) ag) (decide_eq_false (by lia)) (ay ?_));refine ae (c7 (dy (lO T) c (ac (aa 0 rfl) (ac (aa 1 rfl) aj af) af) ⟨a,k,rfl,b,sz,e,d,rfl⟩) ?_);exact rfl
def Az:List U->Out->Prop:=λa o=>∃l:List P2,a=[lp l]/\l.length<=900/\(∀p∈l,Szp 2500 p)/\o=.val (.int (pin l))
theorem p6:OkD P w base T.aaR 5 (Az):=by
 refine okD ro (by walk_at"ln") ?_;rintro _ _ _ b ⟨l,rfl,c,sz,rfl⟩;have d:((l.map pu).length)=l.length:=by rw[KI]
 by_cases a:l.length<3
 .refine ae (bY (au eM (ao (bj rfl) rfl T.aaa Ld (ac (aa 0 rfl) aj af)) ag) (by rw[d];exact decide_eq_true (by lia)) ?_);refine ae (aJ ag ?_);exact vIO (by unfold pin;rw[if_pos a])
 .refine ae (aL (au eM (ao (bj rfl) rfl T.aaa Ld (ac (aa 0 rfl) aj af)) ag) (by rw[d];exact decide_eq_false (by lia)) (ay ?_));have e:qT l=md l:=by unfold qT;rw[if_neg a]
  refine ae (aJ (gP (cR (bo (aQ (oA T) b (ac (aa 0 rfl) aj af) ⟨l,rfl,c,sz,rfl⟩) (aQ (C0 T) b (ac (aa 0 rfl) aj af) ⟨l,rfl,by lia,c,sz,rfl⟩)) ag) ag (by walk_at"div")) ?_);exact vIO (by unfold pin;rw[if_neg a,e])
theorem An{pts:List P2}(b:Sz 1000 k)(d:∀p∈pts,Szp 1500 p):∀p∈aq (pts.map (scl k)),Szp 2500 p:=λp a=>by
 obtain⟨q,c,rfl⟩:=KZ.mp (b6 _ p a);exact vn b (d q c)
def nJ:List U->Out->Prop:=λb o=>∃(a:List P2) (k:Int),b=[lp a,.int k]/\0<=k/\Sz 1000 k/\(∀p∈a,Szp 1500 p)/\a≠[]/\a.length<64/\o=.val (.int (kB (aq (a.map (scl k)))))
theorem BE  :cF P w K mg base (CXF P w) 7 T.aam.a T.aam.d ["land","k"] (spU K (nJ)):=by
 refine Hk T.aam.F sC (λn o h=>?_) (λm A e s H E O n o f h=>?_)
 .obtain⟨b,k,rfl,j,c,sz,g,l,rfl⟩:=h;rfl
 obtain⟨b,k,rfl,j,c,sz,g,l,rfl⟩:=h;refine Ws.nox ?_;have i:(aq (b.map (scl k))).length<=900:=Mh (lN _) (by rw[KI];lia);have p:0<(aq (b.map (scl k))).length:=LF.mpr (jY (by simpa using g));refine ae (aA 2 sC.nd (EvN.ev (dy (s_ T) f (ac (aa 0 rfl) (ac (aa 1 rfl) aj af) af) ⟨b,k,rfl,j,c,qb (by decide) sz,g,l,rfl⟩)) ?_);refine ae (aJ (cR (aQ (p6 T) f (ac (aa 2 rfl) aj af) ⟨_,rfl,i,An c sz,rfl⟩) (aQ (C0 T) f (ac (aa 2 rfl) aj af) ⟨_,rfl,p,i,An c sz,rfl⟩)) ?_);exact rfl
theorem wg(l)(L)(s)(y):dL l (L++[s]) y=dL l L y++(if 0<s.2.2-s.1.2 then [Dq y s] else []):=by
 unfold dL;rw[TF,LO];by_cases h:0<s.2.2-s.1.2
 .rw[if_pos h,Ry (by simpa using h)];rfl
 .rw[if_neg h,Rz (by simpa using h)];rfl
theorem v5(l)(L)(s)(y):dI l (L++[s]) y=dI l L y++(if s.2.2-s.1.2<0 then [Di y s] else []):=by
 unfold dI;rw[TF,LO];by_cases h:s.2.2-s.1.2<0
 .rw[if_pos h,Ry (by simpa using h)];rfl
 .rw[if_neg h,Rz (by simpa using h)];rfl
theorem By(l)(y)(L):(dL l L y).length<=L.length+1/\(dI l L y).length<=L.length+1:=by
 unfold dL dI;simp only[Lk,KI];exact⟨UJ (Om _ _),UJ (Om _ _)⟩
def vX:List U->Out->Prop:=λa o=>∃(l:List P2) (y:Int),a=[lp l,.int y]/\l≠[]/\l.length<=900/\(∀q∈l,Szp 1000 q)/\Sz 1001 y/\o=.val (.tup [.int (gJ l y),.int (oK l y)])
theorem tf:OkD P w base T.aa7 2 (vX):=by
 refine okD cM (by walk_at"ln") ?_;rintro _ _ _ k ⟨l,y,rfl,B,M,sz,S,rfl⟩;obtain⟨m,u,_,A,D,t,r,_⟩:=zZ B;have o:l.map (·.1)≠[]:=by simpa using B
 have G:m.1=loX l:=by
  have ok:=bT o;obtain⟨q,c,e⟩:=KZ.mp ok.1;have a:=ok.2 m.1 (LU (f:=λp:P2=>p.1) A);have b:=t q c;rw[ST.ltP_no]at b;unfold loX;lia
 have F:u.1=hiX l:=by
  have ok:=dt o;obtain⟨q,c,e⟩:=KZ.mp ok.1;have a:=ok.2 u.1 (LU (f:=λp:P2=>p.1) D);have b:=r q c;rw[ST.ltP_no]at b;unfold hiX;lia
 refine ae (fT (i:=2) cM.nd rfl (Or.inl rfl) (cE (av (aw (ao (GY rfl (fU k) A t) rfl T.aa9 TH (ac (aa 0 rfl) aj af)) ag rfl rfl) a_ aD)) ?_);refine ae (fT (i:=3) cM.nd rfl (Or.inl rfl) (cE (av (aw (ao (Hj rfl (fU k) D r) rfl T.abf UM (ac (aa 0 rfl) aj af)) ag rfl rfl) a_ aD)) ?_);rw[G,F];refine ae (fQ (λi:Nat=>[some (.val (lp l)),some (.val (.int y)),some (.own ((dI l ((sdl l).take i) y).map U.int)),some (.own ((dL l ((sdl l).take i) y).map U.int)),none,none,none,none]) (λi j=>i=j) rfl PassesOwn.never (bL (EvN.ev (dy (gU T) k (ac (aa 0 rfl) aj af) ⟨l,rfl,M,rfl⟩)) (.inl rfl)) ?h0 ?hs ?hd)
 case h0=>exact⟨0,rfl,rfl,rfl,rfl,rfl,trivial⟩
 case hs=>
  rintro O i x _ h rfl
  have c:∃s,(sdl l)[i]?=some s/\x=pq s:=by
   rw[K5]at h;cases e:(sdl l)[i]? with
   |none=>rw[e]at h;cases h
   |some s=>rw[e]at h;cases h;exact⟨s,rfl,rfl⟩
  obtain⟨s,hs,rfl⟩:=c;obtain⟨v,C⟩:=c9 (Lo hs);have J:i<(sdl l).length:=aK hs;rw[fB]at J;have W:=(sz _ v).1;have I:=(sz _ v).2;have V:=(sz _ C).1;have K:=(sz _ C).2;have H:(sdl l).take (i+1)=(sdl l).take i++[s]:=by rw[OM,hs];rfl
  have g:=wg l ((sdl l).take i) s y;have d:=v5 l ((sdl l).take i) s y;rw[<-H]at g d;obtain⟨R,Q⟩:=By l y ((sdl l).take i);have X:((sdl l).take i).length<=i:=by simp;lia
  refine⟨_,(xU [4,5] rfl (aC (aB (i:=4) cM.nd rfl (Or.inl rfl)) (aC (aB (i:=5) cM.nd rfl (Or.inl rfl)) bO)) rfl),?_⟩;refine ae (aA 6 cM.nd (bo (aw (aa 5 rfl) ag rfl rfl) (aw (aa 4 rfl) ag rfl rfl)) ?_);refine ae (aA 7 cM.nd (aY (bo (aw (aa 5 rfl) ag rfl rfl) (aw (aa 4 rfl) ag rfl rfl)) (bo (aa 1 rfl) (aw (aa 4 rfl) ag rfl rfl)) (by walk_at"mul")) ?_);rw[show (s.2.1-s.1.1) *(y-s.1.2)=nk s y from rfl];have z:Sz 1001 (s.2.2-s.1.2):=(L2.Sz.sub' K I).mono (by decide);have L:Sz 1001 (-(s.2.2-s.1.2)):=z.natle (by lia);show Ws _ _ _ _ _ _ [some (.val (lp l)),some (.val (.int y)),some (.own ((dI l ((sdl l).take i) y).map U.int)),some (.own ((dL l ((sdl l).take i) y).map U.int)),some (.val (pu s.1)),some (.val (pu s.2)),some (.val (.int (s.2.2-s.1.2))),some (.val (.int (nk s y)))];by_cases p:0<s.2.2-s.1.2
  .rw[if_pos p]at g;rw[if_neg (by lia),Nj]at d
   refine ae (bY (au e7 (aa 6 rfl) ag) (decide_eq_true p) ?_);refine ae (c8 3 rfl (cR (aw (aa 4 rfl) ag rfl rfl) (gP (aa 7 rfl) (aa 6 rfl) ⟨p,z.mono (by decide)⟩)) (by rw[KI];exact am (by lia)) (ay ?_));refine ae (aL (au eM (aa 6 rfl) ag) (decide_eq_false (by lia)) (ay (ay ?_)));refine⟨i+1,rfl,rfl,rfl,?_,?_,trivial⟩
   .exact congrArg (λl=>some (Sl.own l)) (by rw[d])
   .exact congrArg (λl=>some (Sl.own l)) (by rw[g,LO];rfl)
  .rw[if_neg p,Nj]at g;refine ae (aL (au e7 (aa 6 rfl) ag) (decide_eq_false p) (ay ?_));by_cases n:s.2.2-s.1.2<0
   .rw[if_pos n]at d;refine ae (bY (au eM (aa 6 rfl) ag) (decide_eq_true n) ?_);refine ae (c8 2 rfl (bo (aw (aa 4 rfl) ag rfl rfl) (gP (aa 7 rfl) (ce (aa 6 rfl)) ⟨by lia,L.mono (by decide)⟩)) (by rw[KI];exact am (by lia)) (ay (ay ?_)))
    refine⟨i+1,rfl,rfl,rfl,?_,?_,trivial⟩
    .exact congrArg (λl=>some (Sl.own l)) (by rw[d,LO];rfl)
    .exact congrArg (λl=>some (Sl.own l)) (by rw[g])
   .rw[if_neg n,Nj]at d;refine ae (aL (au eM (aa 6 rfl) ag) (decide_eq_false n) (ay (ay ?_)));refine⟨i+1,rfl,rfl,rfl,?_,?_,trivial⟩
    .exact congrArg (λl=>some (Sl.own l)) (by rw[d])
    .exact congrArg (λl=>some (Sl.own l)) (by rw[g])
 case hd=>
  rintro q N c E;refine d9 ?_ E;have e:q=(sdl l).length:=by rw[<-c,KI]
  subst e;rw[Of];refine uY 2 rfl (uY 3 rfl ?_);show Ws _ _ _ _ _ _ [some (.val (lp l)),some (.val (.int y)),some (.val (.lst ((dI l (sdl l) y).map U.int))),some (.val (.lst ((dL l (sdl l) y).map U.int))),none,none,none,none];refine ae (aJ (bD (av (ao (ve rfl (dt (l:=dI l (sdl l) y) (by unfold dI;simp))) rfl T.abf UM (ac (aa 2 rfl) aj af)) (av (ao (vH rfl (bT (l:=dL l (sdl l) y) (by unfold dL;simp))) rfl T.aa9 TH (ac (aa 3 rfl) aj af)) a_ a9) a9)) ?_);exact rfl
theorem JN(k:a=a')(h:b=b')(j:c=c')(l:d=d')(g:e=e')(i:f=f'):mv a b c d e f=mv a' b' c' d' e' f':=by rw[k,h,j,l,g,i]
theorem Hr(h:a≠b):∃g f d s t,dM (b.1-a.1) (b.2-a.2) g f d/\g≠0/\dM ((b.1-a.1)/g) ((b.2-a.2)/g) 1 s t/\LvP a b g ((b.1-a.1)/g) ((b.2-a.2)/g) s t:=by
 obtain⟨g,f,d,G⟩:=jF (b.1-a.1) (b.2-a.2)
 have i:g≠0:=λe=>h (by
  obtain⟨k,j⟩:=yY G e;exact Mo k j)
 have gp:0<g:=by have:=G.g0;lia
 obtain⟨l,s,t,c⟩:=jF ((b.1-a.1)/g) ((b.2-a.2)/g);have:=zA G gp c;subst this;exact⟨g,f,d,s,t,G,i,c,gp,Ph G.da,Ph G.db,c.eq⟩
theorem wK{a:P2}(h:s*u+t*v=1):Ek s t (-v) u (-s*a.1-t*a.2) (v*a.1-u*a.2)=mv u (-t) v s a.1 a.2:=by
 have k:s*u-t* -v=1:=by grind
 unfold Ek;rw[k];refine JN (by lia) (by lia) (by lia) (by lia) ?_ ?_
 .have:-(1*u*(-s*a.1-t*a.2)+-1*t*(v*a.1-u*a.2))=(s*u+t*v) *a.1:=by grind
  rw[this,h,M6]
 .have:-(-1* -v*(-s*a.1-t*a.2)+1*s*(v*a.1-u*a.2))=(s*u+t*v) *a.2:=by grind
  rw[this,h,M6]
theorem Fu(F:Fld l)(b:2<=l.length):gp l 0≠gp l 1:=λe=>by
 have a:l.Nodup:=by rw[<-F.cr];exact cq l
 have:l[0]?=l[1]?:=by rw[eF (by lia),eF (by lia),e]
 have:=(Pd (by lia) a).mp this;lia
theorem EZ{n y:Nat}(h:y<n):(nQ l (0+(y:Int))).length<=(eG l n).length:=eQ (w9 _ _) λp a=>by
 have k:=fW.mp a;refine eS.mpr ⟨by lia,?_⟩;rw[k.1];exact k.2
theorem Cd(h:y<=n):(eG l y).length<=(eG l n).length:=eQ (nZ _ _) λp a=>by
 have k:=eS.mp a;exact eS.mpr ⟨by omega,k.2⟩
theorem Hd(l):SG.srt ST3.KP l=ST.srt l:=ST.asc_one (SG.srt_asc ST3.KP l) (ST.srt_asc l) λz=>by rw[SG.srt_mem,ST.srt_mem]
def r_:List U->Out->Prop:=λa o=>∃l:List P2,a=[lp l]/\Fld l/\2<=l.length/\l.length<64/\(∀p∈l,Szp 150 p)/\(kB l<=100/\(aU l).length<=60)/\o=.new ((aU l).map pu)
theorem B8(F:Fld l)(c:2<=l.length)(L:LvP (gp l 0) (gp l 1) g u v s t):(C8 l u v s t).length=(aU l).length:=vJ (AF L) ((ST.srt_asc _).imp λ{a b} h e=>by subst e;rw[ST.asc_irr]at h;cases h) λp=>by rw[xj F c L,bM F]
theorem vO:OkD P w base T.abc 6 (r_):=by
 refine okD cA (by walk_at"ln") ?_;rintro _ _ _ h ⟨l,rfl,F,r,hl,sz,⟨_,hc⟩,rfl⟩;obtain⟨g,s1,t1,s,t,G,gn,G1,L⟩:=Hr (Fu F r);have a:=sz _ (dl (l:=l) (i:=0) (by lia));have A:=sz _ (dl (l:=l) (i:=1) (by lia));have zx:Sz 151 ((gp l 1).1-(gp l 0).1):=(L2.Sz.sub' A.1 a.1).mono (by decide);have zy:Sz 151 ((gp l 1).2-(gp l 0).2):=(L2.Sz.sub' A.2 a.2).mono (by decide);have two:BO (gp l 0).1 (gp l 0).2 (gp l 1).1 (gp l 1).2:=⟨a.1.mono (by decide),a.2.mono (by decide),A.1.mono (by decide),A.2.mono (by decide)⟩
 have K:Sz 151 (((gp l 1).1-(gp l 0).1)/g):=zx.ediv;have H:Sz 151 (((gp l 1).2-(gp l 0).2)/g):=zy.ediv;obtain⟨_,Z,Q⟩:=jw G1 K H;refine ae (aA 1 cA.nd (aQ (mw T) h (ac (aw (aa 0 rfl) ag rfl (io (i:=0) (by decide) (by lia))) (ac (aw (aa 0 rfl) ag rfl (io (i:=1) (by decide) (by lia))) aj aD) aD) ⟨_,_,_,_,g,s1,t1,s,t,rfl,two,G,gn,G1,rfl⟩) ?_);have V:=B2 F r L;have W:=B8 F r L;have YL:=xj F r L;have Yb:=AF L;generalize hu:((gp l 1).1-(gp l 0).1)/g=u at *;generalize hv:((gp l 1).2-(gp l 0).2)/g=v at *;have hd:s*u-t* -v=1:=by have:=L.st;grind
 have E:Sz 500 s:=Z.mono (by decide);have N:Sz 500 t:=Q.mono (by decide);have J:Sz 500 (-v):=(H.natle (by lia):Sz 151 (-v)).mono (by decide);have B:Sz 500 u:=K.mono (by decide);have ns:Sz 310 (-s):=(Z.natle (by lia):Sz _ (-s)).mono (by decide);have I:Sz 500 (-s*(gp l 0).1-t*(gp l 0).2):=(L2.Sz.sub' (L2.Sz.mul ns a.1) (L2.Sz.mul (Q.mono (n:=310) (by decide)) a.2)).mono (by decide);have O:Sz 500 (v*(gp l 0).1-u*(gp l 0).2):=(L2.Sz.sub' (L2.Sz.mul H a.1) (L2.Sz.mul K a.2)).mono (by decide);have c:500<=30000:=by decide
 have M:Mv s t (-v) u (-s*(gp l 0).1-t*(gp l 0).2) (v*(gp l 0).1-u*(gp l 0).2):=⟨.inl hd,E.mono c,N.mono c,J.mono c,B.mono c,I.mono c,O.mono c⟩;refine ae (aA 2 cA.nd (EvN.ev (dy (nR T) h (ac (aa 0 rfl) (ac (aa 1 rfl) aj af) af) ⟨l,_,_,_,_,_,_,rfl,M,qb (by decide) sz,λp f=>by have z:=FY E N J B I O (by decide) (sz p f);exact⟨z.1.mono (by decide),z.2.mono (by decide)⟩,F.ne,hl,rfl⟩)) ?_)
 have D:∀p∈aq (l.map (lvF (gp l 0) u v s t)),Szp 1000 p:=λp f=>by
  obtain⟨q,b,rfl⟩:=KZ.mp (b6 _ p f);have z:=FY E N J B I O (by decide) (sz q b);exact⟨z.1.mono (by decide),z.2.mono (by decide)⟩
 have ml:(aq (l.map (lvF (gp l 0) u v s t))).length<=900:=Mh (lN _) (by rw[KI];lia);refine ae (xg (i:=3) cA.nd rfl (Or.inr rfl) (aQ (h9 T) h (ac (aa 1 rfl) aj af) ⟨_,_,_,_,_,_,rfl,M,rfl⟩) ?_);rw[wK L.st];unfold C8 at W YL Yb;rw[KI]at W;have S:∀p:P2,pu (bkF (gp l 0) u v s t p)=pt (u*p.1+-t*p.2+(gp l 0).1) (v*p.1+s*p.2+(gp l 0).2):=λp=>rfl
 have nt:Sz 30000 (-t):=(Q.natle (by lia):Sz _ (-t)).mono (by decide);have MB:Mv u (-t) v s (gp l 0).1 (gp l 0).2:=⟨.inl (by have:=L.st;grind),B.mono c,nt,H.mono (by decide),E.mono c,a.1.mono (by decide),a.2.mono (by decide)⟩
 have d:=V.F.ne;have hY:=dt (l:=(aq (l.map (lvF (gp l 0) u v s t))).map (·.2)) (by simpa using d)
 have zY:Sz 1000 (hiY (aq (l.map (lvF (gp l 0) u v s t)))):=by
  obtain⟨q,b,e⟩:=Bt d;rw[<-e];exact (D q b).2
 show Ws _ _ _ _ _ _ [some (.val (lp l)),some (.val (mv s t (-v) u (-s*(gp l 0).1-t*(gp l 0).2) (v*(gp l 0).1-u*(gp l 0).2))),some (.val (lp (aq (l.map (lvF (gp l 0) u v s t))))),some (.val (mv u (-t) v s (gp l 0).1 (gp l 0).2)),none,none,none,none,none];generalize hM:aq (l.map (lvF (gp l 0) u v s t))=m at *;refine ae (fT (i:=4) cA.nd rfl (Or.inl rfl) (cE a_) ?_);refine ae (fQ (λi:Nat=>[some (.val (lp l)),some (.val (mv s t (-v) u (-s*(gp l 0).1-t*(gp l 0).2) (v*(gp l 0).1-u*(gp l 0).2))),some (.val (lp m)),some (.val (mv u (-t) v s (gp l 0).1 (gp l 0).2)),some (.own (((eG m i).map (bkF (gp l 0) u v s t)).map pu)),none,none,none,none]) (λi j=>i=j) rfl PassesOwn.never (yL rfl T.aan (ac (cR (ao (ve rfl hY) rfl T.abf UM (ac (EvN.ev (bv (ys:=((m.map (·.2)).map U.int)) rfl (blk (ai iA) ["land","move","levelled","back","found","y","ends","x","P"] [8] rfl rfl rfl rfl (by decide+kernel)) (EvI.z (bL (aa 2 rfl) (.inl rfl))) (λ_ _ _ _=>aB (i:=8) cA.nd rfl (Or.inl rfl)) (bS (by decide)) ?clen ?csz (λ_ _=>trivial) ?celt)) aj bF)) ag) aj be)) ?h0 ?hs ?hd)
 case clen=>simp
 case csz=>rw[KI];exact La (am (by lia))
 case celt=>
  intro C s' H' fp j x y o hy;rw[Lh]at hy;obtain⟨p,f,mp,rfl,rfl⟩:=bG o hy;exact (aw (aa 8 rfl) ag rfl rfl)
 case h0=>exact⟨0,rfl,rfl,rfl,rfl,rfl,rfl,trivial⟩
 case hs=>
  rintro H0 i x _ o rfl;obtain⟨hi,rfl⟩:=dN o
  have Y:i<(hiY m+1).toNat:=by
   have:hiL (m.map (·.2))=hiY m:=rfl;rw[this]at hi;lia
  have rf:=EZ (l:=m) Y;have rg:=Cd (l:=m) (La Y)
  have iz:Sz 1001 (0+(i:Int)):=by
   have one:Sz 1000 (1:Int):=Sz.mono (m:=8) (by decide) (by decide);exact Sz.le (by lia) (L2.Sz.add' zY one)
  have rl:(nQ m (0+(i:Int))).length=(oK m (0+(i:Int))+1-gJ m (0+(i:Int))).toNat:=by unfold nQ sJ;simp
  refine⟨_,(g_ (i:=5) cA.nd rfl (Or.inr rfl)),?_⟩;refine ae (aA 6 cA.nd (aQ (tf T) h (ac (aa 2 rfl) (ac (aa 5 rfl) aj af) af) ⟨m,_,rfl,d,ml,D,iz,rfl⟩) ?_);refine ae (BD 4 rfl (EvN.ev (bv (ys:=(((nQ m (0+(i:Int))).map (bkF (gp l 0) u v s t)).map pu)) rfl (blk (ai iA) ["land","move","levelled","back","found","y","ends","x","P"] [7] rfl rfl rfl rfl (by decide+kernel)) (EvI.z (zJ rfl T.aan (ac (aw (aa 6 rfl) ag rfl rfl) (ac (cR (aw (aa 6 rfl) ag rfl rfl) ag) aj be) aD))) (λ_ _ _ _=>aB (i:=7) cA.nd rfl (Or.inl rfl)) (bS (by decide)) ?clen ?csz (λ_ _=>trivial) ?celt)) (by simp only[KI];exact La (am (by lia))) (ay ?_))
  case clen=>rw[b_,KI,KI,rl]
  case csz=>rw[b_];exact La (am (by lia))
  case celt=>
   intro C s' H' fp j x y o hy;obtain⟨hj,rfl⟩:=dN o
   have ey:y=pu (bkF (gp l 0) u v s t (gJ m (0+(i:Int))+(j:Int),0+(i:Int))):=by
    unfold nQ sJ at hy;rw[Lh,Lh,Lh,K5,NC hj]at hy;cases hy;rfl
   have f:(gJ m (0+(i:Int))+(j:Int),0+(i:Int))∈nQ m (0+(i:Int)):=fW.mpr ⟨rfl,by dsimp only;lia,by dsimp only;lia⟩
   have b:(gJ m (0+(i:Int))+(j:Int),0+(i:Int))∈eG m (hiY m+1).toNat:=by
    have k:=fW.mp f;exact eS.mpr ⟨by dsimp only;lia,k.2⟩
   have X:=(dU d).mp (V.F.in_box ((l_ V _).mp b))
   have zX:Sz 30000 (gJ m (0+(i:Int))+(j:Int)):=by
    obtain⟨q1,m1,e1⟩:=KZ.mp (bT (l:=m.map (·.1)) (by simpa using d)).1;obtain⟨q2,m2,e2⟩:=KZ.mp (dt (l:=m.map (·.1)) (by simpa using d)).1;have y1:=(D q1 m1).1;have y2:=(D q2 m2).1;have b1:q1.1<=gJ m (0+(i:Int))+(j:Int):=by have:=X.1.1;unfold loX at this;rw[<-e1]at this;exact this
    have b2:gJ m (0+(i:Int))+(j:Int)<=q2.1:=by have:=X.1.2;unfold hiX at this;rw[<-e2]at this;exact this
    rcases L9 (gJ m (0+(i:Int))+(j:Int)) 0 with z |z
    .exact (y1.natle (by lia):Sz 1000 _).mono (by decide)
    .exact (y2.natle (by lia):Sz 1000 _).mono (by decide)
   rw[ey,S];exact (aQ (jE T) h (ac (bD (av (aa 7 rfl) (av (aa 5 rfl) a_ af) af)) (ac (aa 3 rfl) aj af) n9) ⟨_,_,_,_,_,_,_,_,rfl,MB,zX,iz.mono (by decide),rfl⟩)
  refine⟨i+1,rfl,rfl,rfl,rfl,rfl,?_,trivial⟩;exact congrArg (λl=>some (Sl.own l)) (by rw[n_,LO,LO])
 case hd=>
  rintro q ps b WV;refine d9 ?_ WV;rw[b_]at b;have e:q=(hiY m+1).toNat:=by rw[<-b];show (hiY m+1-0).toNat=_;lia
  subst e;refine uY 4 rfl ?_;have fs:=rh F YL;have R:((eG m (hiY m+1).toNat).map (bkF (gp l 0) u v s t)).length<64:=by rw[KI];lia
  refine ae (c7 (qD ST3.KP pu (0,0) (trs:=(eG m (hiY m+1).toNat).map (bkF (gp l 0) u v s t)) KB rfl T.aah (fU h) (aa 4 rfl) ⟨R,Yb⟩ af) ?_);rw[Hd,fs]
def sV:List U->Out->Prop:=λa o=>∃l:List P2,a=[lp l]/\Fld l/\l.length<64/\(∀p∈l,Szp 150 p)/\(kB l<=100/\(aU l).length<=60)/\o=.new ((aU l).map pu)
theorem zd:OkD P w base T.abk 8 (sV):=by
 refine okD Ab (by walk_at"ln") ?_;rintro _ _ _ a ⟨l,rfl,F,b,sz,e,rfl⟩;have c:((l.map pu).length:Int)=(l.length:Int):=by rw[KI]
 have one:aq (l.map (scl 1))=l:=by rw[show scl 1=id from funext rS,Wj];exact F.cr
 have d:nJ [lp l,.int 1] (.val (.int (kB l))):=⟨l,1,rfl,by decide,Sz.mono (m:=8) (by decide) (by decide),qb (by decide) sz,F.ne,b,by rw[one]⟩
 have g:0<l.length:=LF.mpr F.ne;refine ae (aL (au e7 (D_ ((BE T).mono (by decide)) a rfl T.aam.m T.aam.F.kp T.aam.bd kT (ac (aa 0 rfl) aj af) d) (pT rfl T.aaE)) (decide_eq_false (by lia)) (ay ?_));by_cases f:l.length=1
 .refine ae (bY (au bA (ao (bj rfl) rfl T.aaa Ld (ac (aa 0 rfl) aj af)) ag) (by rw[c];exact decide_eq_true (by lia)) ?_);refine ae (c7 (iC (j7 rfl) rfl T.aal QF (ac (aa 0 rfl) aj af)) ?_);obtain⟨A,rfl⟩:=MV.mp f
  have:aU [A]=[A]:=by
   rw[<-rh (R:=[A]) F λp=>by rw[jc];simp];exact cw (pts:=[A]) (by have:=ST.srt_len [A];simp at this;lia) ▸ F.cr
  rw[this]
 .refine ae (aL (au bA (ao (bj rfl) rfl T.aaa Ld (ac (aa 0 rfl) aj af)) ag) (by rw[c];exact decide_eq_false (by lia)) (ay ?_));refine ae (c7 (dy (vO T) a (ac (aa 0 rfl) aj af) ⟨l,rfl,F,by lia,b,sz,e,rfl⟩) ?_);exact rfl
theorem jo(p q:P2):ah p q p=0/\ah p q q=0:=by unfold ah;constructor <;>grind
theorem x8(A B C p:P2):ah A B p+ah B C p+ah C A p=ah A B C:=by unfold ah;grind
theorem J7{d r:Int}(h:r<d):0<=d-1-r:=by omega
theorem Ji{d r w:Int}(h:1+w+r=d):w=d-1-r:=by omega
theorem Jc{g y w:Int}(h:0+w+y=g*y):w=(g-1) *y:=by rw[U8,M6];omega
theorem xl(k:0<ah A B C)(h:∀p,0<=ah A B p->0<=ah B C p->0<=ah C A p->p=A\/p=B\/p=C):ah A B C=1:=by
 refine Md λQ=>?_;obtain⟨g,s,t,G⟩:=jF (B.1-A.1) (B.2-A.2);obtain⟨u,q⟩:=G.da;obtain⟨v,o⟩:=G.db;have I:=G.eq;have T:=G.g0
 have E:g≠0:=λe=>by
  rw[e,Na]at q o;have:ah A B C=0:=by unfold ah;rw[q,o,Na,Na];rfl
  exact Nu k this
 have gp:0<g:=(L8 T).resolve_right (Ne.symm E)
 have J:∀p:P2,0<=ah A B p->0<=ah B C p->0<=ah C A p->p≠A->p≠B->p≠C->False:=λp W U V a b c=>by
  rcases h p W U V with e |e |e
  .exact a e
  .exact b e
  .exact c e
 have i:s*u+t*v=1:=by
  have:g*(s*u+t*v)=g*1:=by rw[Rn];rw[q,o]at I;rw[<-I];grind
  exact Ma E this
 have D:ah A B C=g*(u*(C.2-A.2)-v*(C.1-A.1)):=by unfold ah;rw[q,o];grind
 by_cases H:g=1
 .subst H;have F:ah A B C=u*(C.2-A.2)-v*(C.1-A.1):=by rw[D,M6]
  generalize hd:ah A B C=d at *;obtain⟨x,w⟩:∃x,x=s*(C.1-A.1)+t*(C.2-A.2):=⟨_,rfl⟩
  have R:C.1-A.1=x*u-d*t:=by
   have:x*u-d*t=(s*u+t*v) *(C.1-A.1):=by rw[w,F];grind
   rw[this,i,M6]
  have S:C.2-A.2=x*v+d*s:=by
   have:x*v+d*s=(s*u+t*v) *(C.2-A.2):=by rw[w,F];grind
   rw[this,i,M6]
  have P:=PX (-x) (Nu k);have M:=OP (-x) k;have X:=Int.mul_ediv_add_emod (-x) d;generalize -x/d=m at *;generalize -x%d=r at *;have L:r=-x-d*m:=by omega
  have K:B.1=A.1+u:=by omega
  have N:B.2=A.2+v:=by omega
  have f:ah A B (A.1-m*u-t,A.2-m*v+s)=1:=by
   unfold ah;dsimp only;rw[K,N,<-i];grind
  have j:ah C A (A.1-m*u-t,A.2-m*v+s)=r:=by
   have:ah C A (A.1-m*u-t,A.2-m*v+s)=(-m*u-t) *(C.2-A.2)-(-m*v+s) *(C.1-A.1):=by unfold ah;dsimp only;grind
   rw[this,R,S,L];have:(-m*u-t) *(x*v+d*s)-(-m*v+s) *(x*u-d*t)=(s*u+t*v) *(-x-d*m):=by grind
   rw[this,i,M6]
  have n:ah B C (A.1-m*u-t,A.2-m*v+s)=d-1-r:=by
   have:=x8 A B C (A.1-m*u-t,A.2-m*v+s);rw[f,j,hd]at this;exact Ji this
  refine J (A.1-m*u-t,A.2-m*v+s) (by rw[f];decide) (by rw[n];exact J7 M) (by rw[j];exact P) (λe=>?_) (λe=>?_) (λe=>?_)
  .rw[e,(jo A B).1]at f;cases f
  .rw[e,(jo A B).2]at f;cases f
  .rw[e,hd]at f;exact Q f
 .have f:ah A B (A.1+u,A.2+v)=0:=by unfold ah;dsimp only;rw[q,o];grind
  generalize hy:u*(C.2-A.2)-v*(C.1-A.1)=y at *;have z:0<y:=by rw[D]at k;exact Mu k gp
  have j:ah C A (A.1+u,A.2+v)=y:=by unfold ah;dsimp only;rw[<-hy];grind
  have n:ah B C (A.1+u,A.2+v)=(g-1) *y:=by
   have:=x8 A B C (A.1+u,A.2+v);rw[f,j,D]at this;exact Jc this
  have O:0<g-1:=Nf ((L8 gp).resolve_right λe=>H e.symm);have l:=L5 O z;refine J (A.1+u,A.2+v) (by rw[f];decide) (by rw[n];exact Nc l) (by rw[j];exact Nc z) (λe=>?_) (λe=>?_) (λe=>?_)
  .rw[e,(jo C A).2]at j;exact V2 z j
  .rw[e,(jo B C).1]at n;exact V2 l n
  .rw[e]at f;exact Nu k f
def ck(s:Int)(P:P2):List P2->List P2
 |b::a::r=>if 0<s*ah a b P then ck s P (a::r) else b::a::r
 |st=>st
def fG(s:Int)(P:P2):List P2->List (P2×P2×P2)
 |b::a::r=>if 0<s*ah a b P then (a,b,P)::fG s P (a::r) else []
 |_=>[]
def yK(s:Int)(c:List P2):List P2->Prop
 |b::a::r=>(∀q∈c,s*ah a b q<=0/\(s*ah a b q=0->plt a q->plt q b->False))/\yK s c (a::r)
 |_=>True
theorem FJ(hs:s=1\/s=-1)(b:b8 u1 u2)(a:b8 v1 v2)(c:b8 w1 w2)(f:s*(u1*v2-u2*v1)<=0)(d:s*(v1*w2-v2*w1)<=0):s*(u1*w2-u2*w1)<=0:=by
 rcases hs with e |e <;>subst e
 .have:=d_ c a b (by grind) (by grind);grind
 .have:=d_ b a c (by lia) (by lia);lia
theorem JI(hs:s=1\/s=-1)(b:b8 u1 u2)(a:b8 p1 p2)(c:b8 w1 w2)(f:0<s*(u1*p2-u2*p1))(d:s*(u1*w2-u2*w1)<0):s*(p1*w2-p2*w1)<0:=by
 rcases hs with e |e <;>subst e
 .have:=eY c b a (by grind) (by lia);grind
 .have:=eY a b c (by grind) (by lia);lia
structure KW(s:Int)(done st:List P2):Prop where
 ne:st≠[]
 desc:kg st
 cov:yK s done st
 sub:∀p∈st,p∈done
 bot:∀z,st.getLast?=some z->∀q∈done,¬ plt q z
structure DW(s:Int)(done st:List P2)(P:P2):Prop extends KW s done st where
 pend:∀h r,st=h::r->∀q∈done,plt h q->s*ah h P q<0
theorem rA(hs:s=1\/s=-1){P b a:P2}(n:∀q∈done,plt q P)(D:DW s done (b::a::r) P)(h:0<s*ah a b P):DW s done (a::r) P:=by
 refine⟨⟨by simp,D.desc.tail,D.cov.2,λp i=>D.sub p (KN _ i),λz m=>D.bot z (by rw[MT];exact m)⟩,?_⟩;intro t o e q c g;cases e;have d:=D.desc.1;obtain⟨k,l⟩:=D.cov.1 q c;have j:=n b (D.sub b K0);rcases fD q b with z |z |z
 .have f:s*ah a b q<0:=by
   rcases L8 k with y |y
   .exact y
   .exact (l y g z).elim
  have:=JI hs (aG d) (aG (bz d j)) (aG g) (by unfold ah at h;exact h) (by unfold ah at f;exact f);unfold ah;exact this
 .subst z;have:ah a P q=- ah a q P:=by unfold ah;grind
  rw[this,Rw];lia
 .have p:=D.pend b _ rfl q c z;have:ah a P q=ah a b q-ah a b P+ah b P q:=by unfold ah;grind
  rw[this];have e:s*(ah a b q-ah a b P+ah b P q)=s*ah a b q-s*ah a b P+s*ah b P q:=by grind
  lia
theorem CI(hs:s=1\/s=-1){P:P2}(d:∀q∈done,plt q P):∀c,DW s done c P->DW s done (ck s P c) P/\(∀b a r,ck s P c=b::a::r->s*ah a b P<=0)
 |[],D=>absurd rfl D.ne
 |[b],D=>⟨D,λ_ _ _ e=>by simp[ck]at e⟩
 |b::a::r,D=>by
  by_cases h:0<s*ah a b P
  .rw[ck,if_pos h];exact CI hs d (a::r) (rA hs d D h)
  .rw[ck,if_neg h];refine⟨D,λf i g e=>?_⟩;cases e;lia
theorem uR(hs:s=1\/s=-1){P:P2}(j:∀q∈done,plt q P):∀{g},kg g->yK s done g->(∀p∈g,p∈done)->(∀b a r,g=b::a::r->s*ah a b P<=0)->yK s (done++[P]) g
 |[],_,_,_,_=>trivial
 |[_],_,_,_,_=>trivial
 |b::a::r,d,c,sub,h=>by
  have h0:=h b a r rfl;have i:=sub b K0;refine⟨λq m=>?_,uR hs j d.tail c.2 (λp l=>sub p (KN _ l)) λu f v e=>?_⟩
  .rcases LG.mp m with k |k
   .exact c.1 q k
   .rw[K9.mp k];refine⟨h0,λ_ _ w=>?_⟩;have:=j b i;unfold plt at *;lia
  .cases e;have o:=d.tail.1;have t:=(c.2.1 b i).1;have n:=j b i
   have:=FJ hs (aG o) (aG d.1) (aG n) (by
    have:ah f a b=(a.1-f.1) *(b.2-a.2)-(a.2-f.2) *(b.1-a.1):=by unfold ah;grind
    rw[<-this];exact t) (by
    have:ah a b P=(b.1-a.1) *(P.2-b.2)-(b.2-a.2) *(P.1-b.1):=by unfold ah;grind
    rw[<-this];exact h0)
   have e:s*ah f a P=s*ah f a b+s*((a.1-f.1) *(P.2-b.2)-(a.2-f.2) *(P.1-b.1)):=by unfold ah;grind
   lia
theorem Hn(hs:s=1\/s=-1){c m:List P2}{P:P2}(f:∀q∈c,plt q P)(K:KW s c m)(x:∀h r,m=h::r->∀q∈c,¬ plt h q):KW s (c++[P]) (P::ck s P m):=by
 obtain⟨D,j⟩:=CI hs f m ⟨K,λh r e q d C=>absurd C (x h r e q d)⟩;generalize ck s P m=t at *;have l:¬ plt P P:=by unfold plt;lia
 have n:=j;have v:=uR hs f D.desc D.cov D.sub n
 match t,D,n,v with
 |[],D,_,_=>exact absurd rfl D.ne
 |[b],D,n,v=>
  have g:=D.sub b K0;refine⟨by simp,⟨f b g,trivial⟩,⟨λq d=>?_,trivial⟩,λp w=>?_,λz u q d=>?_⟩
  .rcases LG.mp d with k |k
   .rcases fD q b with y |y |y
    .exact absurd y (D.bot b rfl q k)
    .subst y;exact⟨by unfold ah;grind,λ_ o _=>by unfold plt at o;lia⟩
    .have:=D.pend b _ rfl q k y;exact⟨by lia,λe _ _=>by lia⟩
   .rw[K9.mp k];exact⟨by unfold ah;grind,λ_ _ A=>l A⟩
  .rcases KO.mp w with k |k
   .rw[k];simp
   .exact LI _ (D.sub p k)
  .have G:z=b:=by simpa using u.symm
   subst G;rcases LG.mp d with k |k
   .exact D.bot z rfl q k
   .rw[K9.mp k];have:=f z g;unfold plt at *;lia
 |b::a::r,D,n,v=>
  have g:=D.sub b K0;have F:=n b a r rfl;refine⟨by simp,⟨f b g,D.desc⟩,⟨λq d=>?_,v⟩,λp w=>?_,λz u q d=>?_⟩
  .rcases LG.mp d with k |k
   .rcases fD q b with y |y |y
    .have E:=(D.cov.1 q k).1;have B:=f b g
     have:=FJ hs (aG y) (aG D.desc.1) (aG B) (by
      have:(b.1-q.1) *(b.2-a.2)-(b.2-q.2) *(b.1-a.1)=ah a b q:=by unfold ah;grind
      rw[this];exact E) (by
      have:ah a b P=(b.1-a.1) *(P.2-b.2)-(b.2-a.2) *(P.1-b.1):=by unfold ah;grind
      rw[<-this];exact F)
     have e:ah b P q=(b.1-q.1) *(P.2-b.2)-(b.2-q.2) *(P.1-b.1):=by unfold ah;grind
     rw[e];exact⟨this,λ_ o _=>by unfold plt at *;lia⟩
    .subst y;exact⟨by unfold ah;grind,λ_ o _=>by unfold plt at o;lia⟩
    .have:=D.pend b _ rfl q k y;exact⟨by lia,λe _ _=>by lia⟩
   .rw[K9.mp k];exact⟨by unfold ah;grind,λ_ _ A=>l A⟩
  .rcases KO.mp w with k |k
   .rw[k];simp
   .exact LI _ (D.sub p k)
  .have i:(b::a::r).getLast?=some z:=by rw[MT]at u;exact u
   rcases LG.mp d with k |k
   .exact D.bot z i q k
   .rw[K9.mp k];have:=f z (D.sub z (Ow i));unfold plt at *;lia
abbrev Tri:=P2×P2×P2
def ou(t:Tri):Int:=ah t.1 t.2.1 t.2.2
def wst(s:Int)(z:List P2×List Tri)(P:P2):List P2×List Tri:=(P::ck s P z.1,z.2++fG s P z.1)
def bp(s:Int)(a:List P2):List P2×List Tri:=a.foldl (wst s) ([],[])
theorem cV(s)(row)(P):bp s (row++[P])=wst s (bp s row) P:=by unfold bp;rw[Rh];rfl
theorem ig{Q:List P2->Prop}(c:Q [])(e:∀l P,Q l->Q (l++[P])):∀l,Q l:=λl=>by
 have b:∀m:List P2,Q m.reverse:=λm=>by
  induction m with
  |nil=>exact c
  |cons a m d=>rw[Qb];exact e _ _ d
 have:=b l.reverse
 rwa [SR]at this
theorem eZ{P:P2}(h:(l++[P]).Pairwise plt):l.Pairwise plt/\∀q∈l,plt q P:=by
 rw[List.pairwise_append]at h;exact⟨h.1,λq a=>h.2.2 q a P (by simp)⟩
theorem qO(s)(row)(P):(bp s (row++[P])).1.head?=some P:=by rw[cV];rfl
theorem ux(hs:s=1\/s=-1):∀row,row.Pairwise plt->row≠[]->KW s row (bp s row).1:=by
 refine ig (λ_ h=>absurd rfl h) λl P i n _=>?_;obtain⟨c,o⟩:=eZ n;rw[cV];by_cases a:l=[]
 .subst a;show KW s [P] [P];refine⟨by simp,trivial,trivial,λp f=>by simpa using f,λz m q b=>?_⟩;have j:q=P:=by simpa using b
  have g:P=z:=by simpa using m
  rw[j,<-g];unfold plt;lia
 .have K:=i c a;refine Hn hs o K λh r e q b=>?_;have:l=l.dropLast++[l.getLast a]:=(N0 a).symm;have d:=qO s l.dropLast (l.getLast a);rw[<-this,e]at d;have t:h=l.getLast a:=by simpa using d
  rw[t];rw[this]at c b;rcases LG.mp b with k |k
  .have:=(eZ c).2 q k;unfold plt at *;lia
  .rw[K9.mp k];unfold plt;lia
theorem o6(P):∀c,V3 (aV P c) c
 |[]=>Pe _
 |[_]=>Pe _
 |b::a::r=>by
  rw[aV];split
  .exact (o6 P (a::r)).trans (List.sublist_cons_self _ _)
  .exact Pe _
theorem oC:∀r,V3 (ak r).reverse r:=by
 refine ig (Pe _) λl P a=>?_;have e:ak (l++[P])=P::aV P (ak l):=by unfold ak;rw[Rh];rfl
 rw[e,Qb];exact ((o6 P (ak l)).reverse.trans a).append (Pe _)
structure TOk(s:Int)(row:List P2)(t:Tri):Prop where
 ma:t.1∈row
 mb:t.2.1∈row
 mP:t.2.2∈row
 ab:plt t.1 t.2.1
 bP:plt t.2.1 t.2.2
 d:0<s*ou t
 cov:∀q∈row,plt q t.2.2->s*ah t.1 t.2.1 q<=0/\(s*ah t.1 t.2.1 q=0->plt t.1 q->plt q t.2.1->False)
theorem Ga(hs:s=1\/s=-1){P:P2}(d:∀q∈done,plt q P):∀g,DW s done g P->∀t∈fG s P g,TOk s (done++[P]) t
 |[],_,t,h=>by cases h
 |[_],_,t,h=>by cases h
 |b::a::r,D,t,h=>by
  rw[fG]at h;split at h
  .rename_i k
   rcases KO.mp h with e |e
   .subst e;have ma:=D.sub a (by simp);have f:=D.sub b (by simp);refine⟨LI _ ma,LI _ f,by simp,D.desc.1,d b f,k,λq j i=>?_⟩;rcases LG.mp j with y |y
    .exact D.cov.1 q y
    .rw[K9.mp y]at i;have c:plt P P:=i;unfold plt at c;lia
   .exact Ga hs d (a::r) (rA hs d D k) t e
  .cases h
theorem Bs{P:P2}(c:∀q∈row,plt q P)(h:TOk s row t):TOk s (row++[P]) t:=by
 refine⟨LI _ h.ma,LI _ h.mb,LI _ h.mP,h.ab,h.bP,h.d,λq b a=>?_⟩;rcases LG.mp b with y |y
 .exact h.cov q y a
 .rw[K9.mp y]at a;have:=c _ h.mP;unfold plt at *;lia
theorem fF(hs:s=1\/s=-1):∀row,row.Pairwise plt->∀t∈(bp s row).2,TOk s row t:=by
 refine ig (λ_ t h=>by cases h) λl P m n t i=>?_;obtain⟨b,j⟩:=eZ n;rw[cV]at i;rcases LG.mp i with k |k
 .exact Bs j (m b t k)
 .by_cases a:l=[]
  .subst a;cases k
  .refine Ga hs j _ ⟨ux hs l b a,λh r e q d c=>?_⟩ t k;have f:=(N0 a).symm;have g:=qO s l.dropLast (l.getLast a);rw[<-f,e]at g;have o:h=l.getLast a:=by simpa using g
   rw[o]at c;rw[f]at b d
   exfalso
   rcases LG.mp d with k |k
   .have:=(eZ b).2 q k;unfold plt at *;omega
   .rw[K9.mp k]at c;unfold plt at c;omega
theorem oe{a b:P2}(h:b8 (b.1-a.1) (b.2-a.2)):plt a b:=by
 unfold b8 at h;unfold plt;omega
theorem Co{a b v1 v2 m n:Int}(g:b8 a b)(f:b8 v1 v2)(e:0<=m)(i:0<=n):(m*a+n*v1=0/\m*b+n*v2=0)\/b8 (m*a+n*v1) (m*b+n*v2):=by
 have one:∀{c d k:Int},b8 c d->0<=k->(k*c=0/\k*d=0)\/b8 (k*c) (k*d):=λ{c d k} h l=>by
  rcases L8 l with z |z
  .right
   rcases h with h |⟨j,o⟩
   .exact .inl (L5 z h)
   .exact .inr ⟨by rw[j,Nd],L5 z o⟩
  .rw[<-z,Na,Na];exact .inl ⟨rfl,rfl⟩
 have p:=one g e;have q:=one f i;generalize m*a=t at *;generalize m*b=u at *;generalize n*v1=r at *;generalize n*v2=s at *;unfold b8 at p q |-;clear g f e i one;omega
theorem j9(hs:s=1\/s=-1)(h:TOk s row t)(G:p∈row)(O:0<=s*ah t.1 t.2.1 p)(C:0<=s*ah t.2.1 t.2.2 p)(F:0<=s*ah t.2.2 t.1 p):p=t.1\/p=t.2.1\/p=t.2.2:=by
 obtain⟨a,b,P⟩:=t;have E:=h.ab;have w:=h.bP;have d:=h.d;have M:=h.cov p G;dsimp only at *;unfold ou at d;dsimp only at d;have I:s*ah a b p+s*ah b P p+s*ah P a p=s*ah a b P:=by unfold ah;grind
 have f:s*ah a b P*(P.1-p.1)=s*ah b P p*(P.1-a.1)+s*ah P a p*(P.1-b.1):=by unfold ah;grind
 have q:s*ah a b P*(P.2-p.2)=s*ah b P p*(P.2-a.2)+s*ah P a p*(P.2-b.2):=by unfold ah;grind
 have n:s*ah a b P*(p.1-a.1)=s*ah P a p*(b.1-a.1)+s*ah a b p*(P.1-a.1):=by unfold ah;grind
 have i:s*ah a b P*(p.2-a.2)=s*ah P a p*(b.2-a.2)+s*ah a b p*(P.2-a.2):=by unfold ah;grind
 have l:s*ah a b P*(b.1-p.1)=s*ah b P p*(b.1-a.1)-s*ah a b p*(P.1-b.1):=by unfold ah;grind
 have j:s*ah a b P*(b.2-p.2)=s*ah b P p*(b.2-a.2)-s*ah a b p*(P.2-b.2):=by unfold ah;grind
 generalize s*ah a b P=D at *;generalize s*ah b P p=α at *;generalize s*ah P a p=β at *;generalize s*ah a b p=γ at *;have H:=bz E w;have zero:∀{x:Int},D*x=0->x=0:=λe=>(LR.mp e).resolve_left (Nu d);have c:∀{x:Int},0<D*x->0<x:=λe=>Mu e d;have lp:∀{x y:Int},b8 (D*x) (D*y)->b8 x y:=λh=>h.imp c λh=>⟨zero h.1,c h.2⟩
 have same:∀{x y:P2},D*(x.1-y.1)=0->D*(x.2-y.2)=0->x=y:=λh N=>Mo (ML (zero h)) (ML (zero N));by_cases g:p=P
 .exact .inr (.inr g)
 have ltP:plt p P:=by
  have k:=Co (aG H) (aG w) C F;rw[<-f,<-q]at k;rcases k with ⟨v,u⟩ |k
  .exact absurd (same v u).symm g
  .exact oe (lp k)
 obtain⟨J,K⟩:=M ltP;have B:γ=0:=SB J O;rw[B]at n i l j;simp only[Na,V1,SD]at n i l j;by_cases A:β=0
 .rw[A,Na]at n i;exact .inl (same n i)
 by_cases z:α=0
 .rw[z,Na]at l j;exact .inr (.inl (same l j).symm)
 have o:∀{m f q:Int},0<=m->m≠0->D*f=m*(b.1-a.1)->D*q=m*(b.2-a.2)->b8 f q:=λ{m f q} r L v u=>by
  have r:=(L8 r).resolve_right (Ne.symm L);apply lp;rw[v,u];exact (aG E).imp (L5 r) λh=>⟨by rw[h.1,Nd],L5 r h.2⟩
 exact (K B (oe (o F A n i)) (oe (o C z l j))).elim
theorem Ex (hs:s=1∨s=-1) (n:row.Pairwise plt) (conv:∀a b c p,a∈row→b∈row→c∈row→0<ah a b c→0≤ah a b p→0≤ah b c p→0≤ah c a p→p∈row):∀t∈(bp s row).2,ou t=s:=λt o=>by
 have K:=fF hs row n t o;have d:=K.d;rcases hs with e |e <;>subst e
 .have f:0<ah t.1 t.2.1 t.2.2:=by unfold ou at d;lia
  refine xl f λp i g h=>?_
  exact j9 (.inl rfl) K (conv _ _ _ p K.ma K.mb K.mP f i g h) (by lia) (by lia) (by lia)
 .have l:ah t.2.1 t.1 t.2.2=- ou t:=by unfold ou ah;grind
  have f:0<ah t.2.1 t.1 t.2.2:=by rw[l];lia
  have:=xl f λp i g h=>by
   have j:=conv _ _ _ p K.mb K.ma K.mP f i g h
   have r:ah t.1 t.2.1 p=- ah t.2.1 t.1 p:=by unfold ah;grind
   have q:ah t.2.1 t.2.2 p=- ah t.2.2 t.2.1 p:=by unfold ah;grind
   have m:ah t.2.2 t.1 p=- ah t.1 t.2.2 p:=by unfold ah;grind
   rcases j9 (.inr rfl) K j (by rw[r];lia) (by rw[q];lia) (by rw[m];lia) with k |k |k
   .exact .inr (.inl k)
   .exact .inl k
   .exact .inr (.inr k)
  lia
theorem rB(s)(P):∀c,(fG s P c).map (λt=>t.2.1)++ck s P c=c
 |[]=>rfl
 |[_]=>rfl
 |b::a::r=>by
  by_cases h:0<s*ah a b P
  .rw[ck,fG,if_pos h,if_pos h,Lb,OK,rB s P (a::r)]
  .rw[ck,fG,if_neg h,if_neg h];rfl
theorem qh(s):∀a,Re ((bp s a).2.map (λt=>t.2.1)++(bp s a).1) a:=by
 refine ig (SY _) λl P b=>?_;rw[cV];show Re (((bp s l).2++fG s P (bp s l).1).map (λt=>t.2.1)++(P::ck s P (bp s l).1)) (l++[P]);have e:=rB s P (bp s l).1;rw[LO,O9]
 have k:Re ((fG s P (bp s l).1).map (λt=>t.2.1)++(P::ck s P (bp s l).1)) ((bp s l).1++[P]):=by
  refine RI.trans ?_;rw[e];exact (QN P _).symm
 refine (Se _ k).trans ?_;rw[<-O9];exact b.append_right [P]
theorem AH(s)(h:row.Nodup):((bp s row).2.map (λt=>t.2.1)).Nodup:=by
 have:=(qh s row).nodup_iff.mpr h;exact (OC.mp this).1
theorem D3(c:row.Pairwise plt)(f:row.Nodup):((bp 1 row).2++(bp (-1) row).2).Nodup:=by
 refine OC.mpr ⟨?_,?_,λt h u g e=>?_⟩
 .exact (LY.mp (AH 1 f)).imp λ{a b} k e=>k (by rw[e])
 .exact (LY.mp (AH (-1) f)).imp λ{a b} k e=>k (by rw[e])
 .subst e;have j:=(fF (.inl rfl) row c t h).d;have i:=(fF (.inr rfl) row c t g).d;lia
theorem As(s n)(hs:s=1\/s=-1):decide (sgn n=s)=decide (0<s*n):=by
 refine decide_eq_decide.mpr ?_;unfold sgn;rcases hs with rfl |rfl <;>(repeat' split) <;>lia
def cj(t:Tri):ST3.TR:=if 0<ah t.1 t.2.1 t.2.2 then (t.1,t.2.1,t.2.2) else (t.1,t.2.2,t.2.1)
theorem sD(i:plt a b)(f:plt b c)(h:ah a b c≠0):aq [a,b,c]=[(cj (a,b,c)).1,(cj (a,b,c)).2.1,(cj (a,b,c)).2.2]:=by
 have e:=bz i f
 have j:ST.srt [a,b,c]=[a,b,c]:=ST.asc_srt (by
  refine .cons (λx d=>?_) (.cons (λx d=>?_) (.cons (λx d=>by simp at d) .nil))
  .simp at d;rcases d with rfl |rfl
   .exact (e8 _ _).mp i
   .exact (e8 _ _).mp e
  .simp at d;rw[d];exact (e8 _ _).mp f)
 have g:ah c b a=-ah a b c:=by unfold ah;grind
 unfold aq;rw[j];unfold cj;by_cases k:0<ah a b c
 .simp[ak,aV,g,k,show ¬ ah a b c<=0 by lia,show -ah a b c<=0 by lia]
 .simp[ak,aV,g,k,show ah a b c<=0 by lia,show ¬ -ah a b c<=0 by lia]
theorem qg(s)(row):(bp s row).2.length+(bp s row).1.length=row.length:=by
 have:=(qh s row).length_eq;rw[LB,KI]at this;exact this
theorem E9(s)(row):∀q∈(bp s row).1,q∈row:=λq a=>(qh s row).mem_iff.mp (Lv _ a)
def C4:List U->Out->Prop:=λa o=>∃(row:List P2) (s:Int),a=[lp row,.int s]/\(s=1\/s=-1)/\row.Pairwise plt/\(∀p∈row,Szp 2500 p)/\row.length<=200/\o=.new ((bp s row).2.map λt=>trU (cj t))
theorem oz:OkD P w base T.abd 5 (C4):=by
 refine okD gr (by walk_at"ln") ?_;rintro _ _ _ hr ⟨row,s,rfl,hs,Zi,sz,hl,rfl⟩;refine ae (fT (i:=2) gr.nd rfl (Or.inl rfl) (cE a_) ?_);refine ae (fT (i:=3) gr.nd rfl (Or.inl rfl) (cE a_) ?_);refine ae (fQ (λz:List P2×List Tri=>[some (.val (lp row)),some (.val (.int s)),some (.own (z.1.reverse.map pu)),some (.own (z.2.map λt=>trU (cj t))),none]) (λi z=>z=bp s (row.take i)) rfl PassesOwn.never (bL (aa 0 rfl) (.inl rfl)) ?h0 ?hs ?hd)
 case h0=>exact⟨([],[]),rfl,rfl,rfl,rfl,rfl,trivial⟩
 case hs=>
  rintro H0 i x _ hx rfl;obtain⟨P,hP,mP,rfl⟩:=uK hx;have hi:=aK hP;have sP:=sz P mP;refine⟨_,(g_ (i:=4) gr.nd rfl (Or.inl rfl)),?_⟩;have tk:row.take (i+1)=row.take i++[P]:=by rw[OM,hP];rfl
  have hp:(row.take i++[P]).Pairwise plt:=by rw[<-tk];exact Zi.sublist (TX _ _)
  obtain⟨hp1,hp2⟩:=eZ hp;have lz:=qg s (row.take i);rw[Qp]at lz
  have sub:∀q∈(bp s (row.take i)).1,q∈row/\plt q P:=λq hq=>by
   have:=E9 s _ q hq;exact⟨List.mem_of_mem_take this,hp2 q this⟩
  have hdesc:kg (bp s (row.take i)).1:=by
   by_cases h0:row.take i=[]
   .rw[h0];exact trivial
   .exact (ux hs _ hp1 h0).desc
  have suc:bp s (row.take (i+1))=wst s (bp s (row.take i)) P:=by rw[tk,cV]
  generalize bp s (row.take i)=z at *;refine my (λps=>SubP [some (.val (lp row)),some (.val (.int s)),some (.own ((ck s P z.1).reverse.map pu)),some (.own ((z.2++fG s P z.1).map λt=>trU (cj t))),some (.val (pu P))] ps) (im (λy:List P2×List Tri=>[some (.val (lp row)),some (.val (.int s)),some (.own (y.1.reverse.map pu)),some (.own (y.2.map λt=>trU (cj t))),some (.val (pu P))]) (λn y=>n=y.1.length/\ck s P y.1=ck s P z.1/\y.2++fG s P y.1=z.2++fG s P z.1/\(∀q∈y.1,q∈row/\plt q P)/\kg y.1/\y.2.length+y.1.length<=i) PassesOwn.never ?h0 ?hs) ?hj
  case h0=>exact⟨_,z,⟨rfl,rfl,rfl,sub,hdesc,by lia⟩,rfl,rfl,rfl,rfl,rfl,trivial⟩
  case hs=>
   rintro m ⟨y1,y2⟩ ⟨rfl,e1,e2,sb,ds,le⟩;dsimp only at e1 e2 sb ds le |-
   match y1,e1,e2,sb,ds,le with
   |[],e1,e2,sb,ds,le=>
    refine⟨false,?_,λh=>(nomatch h),λh ps WV=>?_⟩
    .exact (Tw.t (kH (au e7 (cP 2 rfl rfl T.aaa) ag) rfl))
    .rw[<-e1,<-e2];simpa [ck,fG] using WV
   |[b],e1,e2,sb,ds,le=>
    refine⟨false,?_,λh=>(nomatch h),λh ps WV=>?_⟩
    .exact (Tw.t (kH (au e7 (cP 2 rfl rfl T.aaa) ag) rfl))
    .rw[<-e1,<-e2];simpa [ck,fG] using WV
   |b::a::r,e1,e2,sb,ds,le=>
    have sa:=sz a (sb a (by simp)).1;have sbb:=sz b (sb b (by simp)).1;have pbP:=(sb b (by simp)).2;have pab:=ds.1;have l1:decide (1<((((b::a::r).reverse.map pu).length:Nat):Int))=true:=decide_eq_true (by simp;lia);have up:∀{p},Szp 2500 p->Szp 5000 p:=λh=>⟨h.1.mono (by decide),h.2.mono (by decide)⟩
    refine⟨decide (1<((((b::a::r).reverse.map pu).length:Nat):Int)) && decide (sgn (ah a b P)=s),?_,λh=>?_,λh ps WV=>?_⟩
    .exact (Tw.t (wI (au e7 (cP 2 rfl rfl T.aaa) ag) (λhz=>(wc (au bA (aQ (lY T) hr (ac (fq 2 rfl (ce ag) (xh b a r)) (ac (fq 2 rfl (ce ag) (yf b (a::r))) (ac (aa 4 rfl) aj af) aD) aD) ⟨a,b,P,rfl,up sa,up sbb,up sP,rfl⟩) (aa 1 rfl))))))
    .rw[l1,OF,As s _ hs]at h;have hd:=dTb h;have hd0:ah a b P≠0:=λz=>by rw[z]at hd;simp at hd
     have ct:=sD pab pbP hd0
     refine ae (c8 3 rfl (cG (D9 (.inl rfl)) rfl T.abg boot_tuple (ac (EvN.ev (dy (jS T) hr (ac (EvN.ev (cE (av (fq 2 rfl (ce ag) (xh b a r)) (av (fq 2 rfl (ce ag) (yf b (a::r))) (av (aa 4 rfl) a_ af) aD) aD))) aj vQ) ⟨[a,b,P],rfl,λp hp=>by
      simp only[KO,Ly,or_false]at hp;rcases hp with rfl |rfl |rfl
      .exact up sa
      .exact up sbb
      .exact up sP,by simp,by simp,by rw[ct]⟩)) aj a9)) (by rw[KI];exact am (by simp at le;lia)) ?_)
     refine ae (Cv 2 rfl (by simp) (ay ?_));refine⟨_,(a::r,y2++[(a,b,P)]),?_,⟨rfl,?_,?_,λq hq=>sb q (KN _ hq),ds.2,?_⟩,rfl,rfl,?_,?_,rfl,trivial⟩
     .simp
     .rw[←e1];conv=>rhs;unfold ck
      rw[if_pos hd]
     .rw[←e2];conv=>rhs;unfold fG
      rw[if_pos hd];simp
     .simp at le |-;lia
     .exact congrArg (λl=>some (Sl.own l)) (by simp)
     .exact congrArg (λl=>some (Sl.own l)) (by simp)
    .rw[l1,OF,As s _ hs]at h;have hd:=dFb h
     have k1:ck s P (b::a::r)=b::a::r:=by conv=>lhs;unfold ck
                                          rw[if_neg hd]
     have k2:fG s P (b::a::r)=[]:=by conv=>lhs;unfold fG
                                     rw[if_neg hd]
     rw[<-e1,<-e2,k1,k2,Nj];exact WV
  case hj=>
   intro ps WV;refine d9 ?_ WV
   have kl:(ck s P z.1).length<=z.1.length:=by
    have:∀st,(ck s P st).length<=st.length:=λst=>by
     have:=congrArg Pu (rB s P st);rw[LB]at this;lia
    exact this _
   refine ae (c8 2 rfl (aa 4 rfl) (by rw[KI,L3];exact am (by lia)) (ay ?_));refine⟨_,rfl,rfl,rfl,?_,?_,trivial⟩
   .exact congrArg (λl=>some (Sl.own l)) (by rw[suc];simp[wst])
   .exact congrArg (λl=>some (Sl.own l)) (by rw[suc];rfl)
 case hd=>
  rintro q ps hq WV;refine d9 ?_ WV;rw[KI]at hq;subst hq;rw[Of];refine ae (gu 3 rfl ?_);exact rfl
def dk(k:Int)(Q R x:P2):Int:=k*(Q.1*R.2-Q.2*R.1)+x.1*(Q.2-R.2)-x.2*(Q.1-R.1)
theorem i5(a b c):ah a b a=0/\ah a b b=0/\ah b c a=ah a b c/\ah c a b=ah a b c:=by
 unfold ah;refine⟨?_,?_,?_,?_⟩ <;>grind
theorem ku(c:Sz n a)(d:Sz n b)(f:a<=x)(e:x<=b):Sz n x:=by
 rcases L9 x 0 with z |z
 .exact c.natle (by lia)
 .exact d.natle (by lia)
theorem p_(b:l≠[])(h:∀p∈l,Szp 150 p):loX l<=hiX l/\loY l<=hiY l/\Sz 150 (loX l)/\Sz 150 (hiX l)/\Sz 150 (loY l)/\Sz 150 (hiY l):=by
 have a:l.map (·.1)≠[]:=by simpa using b
 have hy:l.map (·.2)≠[]:=by simpa using b
 obtain⟨f,j,g⟩:=KZ.mp (bT a).1;obtain⟨e,o,d⟩:=KZ.mp (dt a).1;obtain⟨q,c,n⟩:=KZ.mp (bT hy).1;obtain⟨k,m,i⟩:=KZ.mp (dt hy).1;have l1:=(bT a).2 _ (dt a).1;have l2:=(bT hy).2 _ (dt hy).1;refine⟨l1,l2,?_,?_,?_,?_⟩
 .unfold loX;rw[<-g];exact (h f j).1
 .unfold hiX;rw[<-d];exact (h e o).1
 .unfold loY;rw[<-n];exact (h q c).2
 .unfold hiY;rw[<-i];exact (h k m).2
theorem zG(F:Fld l)(t:3<=l.length):∀a b c p,a∈aU l->b∈aU l->c∈aU l->0<ah a b c->0<=ah a b p->0<=ah b c p->0<=ah c a p->p∈aU l:=λa b c p r j h i u n m=>by
 have f:∀q,q∈aU l↔∀s∈sdl l,0<=ah s.1 s.2 q:=λq=>by rw[bM F,gB t]
 rw[f]at *;intro s d;have o:=r s d;have g:=j s d;have k:=h s d;have w:ah a b c*ah s.1 s.2 p=ah s.1 s.2 a*ah b c p+ah s.1 s.2 b*ah c a p+ah s.1 s.2 c*ah a b p:=by unfold ah;grind
 have x:=LK o n;have y:=LK g m;have v:=LK k u;rcases L9 (ah s.1 s.2 p) 0 with z |z
 .exfalso
  have:=L5 i (show 0 < -ah s.1 s.2 p by lia);have e:ah a b c* -ah s.1 s.2 p=-(ah a b c*ah s.1 s.2 p):=by grind
  lia
 .exact z
theorem cC(l):(aU l).Pairwise plt:=(ST.srt_asc _).imp λ{a b} h=>(e8 a b).mpr h
def v8(l:List P2):List Tri:=(bp 1 (aU l)).2++(bp (-1) (aU l)).2
def pcs(l:List P2):List ST3.TR:=(v8 l).map cj
theorem Hv(l):(pcs l).Nodup:=by
 have f:=cC l;have m:(aU l).Nodup:=f.imp λ{a b} h e=>by subst e;exact aM a h
 unfold pcs;refine LY.mpr ((D3 f m).imp_of_mem λ{x y} k hy j e=>j ?_)
 have d:∀t,t∈v8 l->plt t.1 t.2.1/\plt t.2.1 t.2.2:=λt n=>by
  rcases LG.mp n with h |h
  .have:=fF (.inl rfl) _ f t h;exact⟨this.ab,this.bP⟩
  .have:=fF (.inr rfl) _ f t h;exact⟨this.ab,this.bP⟩
 obtain⟨o,i⟩:=d x k;obtain⟨r,g⟩:=d y hy;obtain⟨a,b,c⟩:=x;obtain⟨s,p,q⟩:=y;unfold cj at e;dsimp only at *;split at e <;>split at e <;>simp only[Rr]at e
 .obtain⟨rfl,rfl,rfl⟩:=e;rfl
 .obtain⟨rfl,rfl,rfl⟩:=e;exact absurd (bz i g) (aM _)
 .obtain⟨rfl,rfl,rfl⟩:=e;exact absurd (bz i g) (aM _)
 .obtain⟨rfl,rfl,rfl⟩:=e;rfl
theorem yd(l):(v8 l).length<=2*(aU l).length:=by
 unfold v8;have b:=qg 1 (aU l);have a:=qg (-1) (aU l);rw[LB];lia
def dQ:List P2->List (List P2)
 |a::b::r=>[a,b]::dQ (b::r)
 |_=>[]
noncomputable def di(l:List P2):List (List P2):=if l.length=1 then [[gp l 0]] else if l.length=2 then dQ (aU l) else (SG.srt ST3.KT (pcs l)).map λt=>[t.1,t.2.1,t.2.2]
abbrev plU(q:List P2):U:=.tup (q.map pu)
theorem pJ:∀r,PJ (λa b=>U.tup [a,b]) (r.map pu) ((r.map pu).drop 1)=(dQ r).map plU
 |[]=>rfl
 |[_]=>rfl
 |a::b::r=>by
  have ih:=pJ (b::r);simp only[Lb,List.drop_succ_cons,S2,List.zipWith_cons_cons,dQ]at ih |-;rw[ih];rfl
theorem jZ(F:Fld [A]):aU [A]=[A]:=by
 rw[<-rh (R:=[A]) F λp=>by rw[jc];simp];exact cw (pts:=[A]) (by have:=ST.srt_len [A];simp at this;lia) ▸ F.cr
structure iH(l:List P2):Prop where
 F:Fld l
 l64:l.length<64
 sz:∀p∈l,Szp 150 p
 cnt:kB l<=100
 np:(aU l).length<=60
 few:3<=l.length->(pcs l).length<64
def BX:List U->Out->Prop:=λa o=>∃l:List P2,a=[lp l]/\iH l/\o=.new ((di l).map plU)
theorem y6:OkD P w base T.abl 9 (BX):=by
 refine okD pi (by walk_at"ln") ?_;rintro _ _ _ a ⟨l,rfl,⟨F,o,sz,j,fl,d⟩,rfl⟩;have b:((l.map pu).length:Int)=(l.length:Int):=by rw[KI]
 have r:0<l.length:=LF.mpr F.ne;refine ae (aA 1 pi.nd (EvN.ev (dy (zd T) a (ac (aa 0 rfl) aj af) ⟨l,rfl,F,o,sz,⟨j,fl⟩,rfl⟩)) ?_);by_cases e:l.length=1
 .obtain⟨A,rfl⟩:=MV.mp e;rw[jZ F];refine ae (bY (au bA (ao (bj rfl) rfl T.aaa Ld (ac (aa 0 rfl) aj af)) ag) rfl ?_);refine ae (c7 (cE (av (bD (av (aw (aa 1 rfl) ag rfl rfl) a_ aD)) a_ n9)) ?_);exact rfl
 refine ae (aL (au bA (ao (bj rfl) rfl T.aaa Ld (ac (aa 0 rfl) aj af)) ag) (by rw[b];exact decide_eq_false (by lia)) (ay ?_));by_cases f:l.length=2
 .refine ae (bY (au bA (ao (bj rfl) rfl T.aaa Ld (ac (aa 0 rfl) aj af)) ag) (by rw[b];exact decide_eq_true (by lia)) ?_);refine ae (c7 (pQ rfl rfl T.aal rfl T.aa3 (aa 1 rfl) (.inl rfl) (EvN.ev (df (aa 1 rfl) (dr ag) dh (.inl rfl))) (.inl rfl) af aD) ?_);rw[pz,pJ];unfold di;rw[if_neg e,if_pos f]
 refine ae (aL (au bA (ao (bj rfl) rfl T.aaa Ld (ac (aa 0 rfl) aj af)) ag) (by rw[b];exact decide_eq_false (by lia)) (ay ?_));have g:=yd l
 have fz:∀p∈aU l,Szp 2500 p:=λp h=>by
  have q:=(dU F.ne).mp (F.in_box ((bM F p).mp h));obtain⟨_,_,m,n,i,k⟩:=p_ F.ne sz;exact⟨(ku m n q.1.1 q.1.2).mono (by decide),(ku i k q.2.1 q.2.2).mono (by decide)⟩
 have c:U.lst (((bp 1 (aU l)).2.map λt=>trU (cj t))++((bp (-1) (aU l)).2.map λt=>trU (cj t)))=U.lst ((pcs l).map trU):=by
  unfold pcs v8;rw[Lh,LO];rfl
 refine ae (c7 (qD ST3.KT trU t0 (trs:=pcs l) Kk rfl T.aah (fU a) (p5 c (EvN.ev (mM (EvN.ev (dy (oz T) a (ac (aa 1 rfl) (ac ag aj aX) af) ⟨aU l,1,rfl,.inl rfl,cC l,fz,by lia,rfl⟩)) (EvN.ev (dy (oz T) a (ac (aa 1 rfl) (ac (ce ag) aj mY) af) ⟨aU l,-1,rfl,.inr rfl,cC l,fz,by lia,rfl⟩)) (by rw[KI,KI];exact La (am (by unfold v8 at g;rw[LB]at g;lia)))))) ⟨d (by lia),Hv l⟩ be) ?_);unfold di;rw[if_neg e,if_neg f,Lh];exact rfl
def rE:List U->Out->Prop:=λa o=>∃P Q R:P2,a=[pu P,pu Q,pu R]/\Szp 5000 P/\Szp 5000 Q/\Szp 5000 R/\o=.val (.bl (btw P Q R))
theorem Bh(n):decide (sgn n=0)=decide (n=0):=decide_eq_decide.mpr (by unfold sgn;split <;>(try split) <;>lia)
theorem lE:OkD P w base T.aao 3 (rE):=by
 refine okD lF (by walk_at"ln") ?_;rintro _ _ _ a ⟨P,Q,R,rfl,p,q,r,rfl⟩;refine ae (aJ (pK (dH bA (aQ (lY T) a (ac (aa 0 rfl) (ac (aa 1 rfl) (ac (aa 2 rfl) aj af) af) af) ⟨P,Q,R,rfl,p,q,r,rfl⟩) ag) (λb=>(mV (D8 (tS (fU a)) (tS (fU a)) (aa 0 rfl) (aa 2 rfl) (aa 1 rfl))))) ?_);rw[Bh];rfl
def vK:List U->Out->Prop:=λa o=>∃(l:List P2) (p:P2),a=[lp l,pu p]/\0<l.length/\l.length<=900/\(∀q∈l,Szp 5000 q)/\Szp 5000 p/\o=.val (.int (whr l p))
theorem nA:OkD P w base T.aaQ 4 (vK):=by
 refine okD oy (by walk_at"ln") ?_;rintro _ _ _ d ⟨l,p,rfl,a,o,sz,g,rfl⟩;have f:((l.map pu).length:Int)=(l.length:Int):=by rw[KI]
 have n:=sz _ (dl a);have m:=sz _ (dl (l:=l) (i:=l.length-1) (by lia));by_cases h:l.length<3
 .refine ae (bY (au eM (ao (bj rfl) rfl T.aaa Ld (ac (aa 0 rfl) aj af)) ag) (by rw[f];exact decide_eq_true (by lia)) ?_);refine ae (aJ (FD (gG (aQ (lE T) d (ac (aw (aa 0 rfl) ag rfl (IM a)) (ac (aw (aa 0 rfl) (ce ag) rfl (xD a)) (ac (aa 1 rfl) aj af) aD) aD) ⟨_,_,_,rfl,n,m,g,rfl⟩)) ag (ce ag)) ?_);unfold whr;rw[if_pos h];by_cases b:btw (gp l 0) (gp l (l.length-1)) p=true
  .rw[if_pos b,if_pos b]
  .rw[if_neg b,if_neg b]
 .refine ae (aL (au eM (ao (bj rfl) rfl T.aaa Ld (ac (aa 0 rfl) aj af)) ag) (by rw[f];exact decide_eq_false (by lia)) (ay ?_));refine ae (aJ (ao (vH rfl (Fn (l:=gH l p) (by intro e;have:=congrArg Pu e;simp[gH,fB]at this;rw[this]at a;simp at a))) rfl T.aa9 TH (ac (EvN.ev (bv (ys:=((gH l p).map sgn |>.map U.int)) rfl (blk (ai qe) ["land","P","A","B"] [2,3] rfl rfl rfl rfl (by decide+kernel)) (EvI.z (bL (EvN.ev (dy (gU T) d (ac (aa 0 rfl) aj af) ⟨l,rfl,o,rfl⟩)) (.inl rfl))) (λ_ _ _ _=>c6 rfl (aC (aB (i:=2) oy.nd rfl (Or.inl rfl)) (aC (aB (i:=3) oy.nd rfl (Or.inl rfl)) bO))) (cy (js:=[2,3]) (by decide)) ?clen ?csz ?dom ?celt)) aj bF)) ?_)
  case clen=>simp[gH]
  case csz=>simp only[gH,fB,KI];exact La (am (by lia))
  case dom=>
   intro x c;obtain⟨s,_,rfl⟩:=KZ.mp c;exact⟨_,rfl,rfl⟩
  case celt=>
   intro C t u v j x y c hy;rw[gH,Lh,Lh]at hy;obtain⟨s,A,r,rfl,rfl⟩:=bG c hy;obtain⟨k,q⟩:=c9 r;exact (aQ (lY T) d (ac (aa 2 rfl) (ac (aa 3 rfl) (ac (aa 1 rfl) aj af) af) af) ⟨s.1,s.2,p,rfl,sz _ k,sz _ q,g,rfl⟩)
  unfold whr;rw[if_neg h]
inductive Wd:List P2->List P2->Prop
 |one (a:P2) (s t:Int):dM ((a.1+1)-a.1) (a.2-a.2) 1 s t->Wd [a] [a,(a.1+1,a.2),(a.1-t,a.2+s)]
 |two (a b:P2) (s t:Int):dM (b.1-a.1) (b.2-a.2) 1 s t->Wd [a,b] [a,b,(a.1-t,a.2+s)]
 |three (a b c:P2):Wd [a,b,c] [a,b,c]
structure Lv1(a b:P2)(s t:Int):Prop where
 two:BO a.1 a.2 b.1 b.2
 G:dM (b.1-a.1) (b.2-a.2) 1 s t
 G1:dM ((b.1-a.1)/1) ((b.2-a.2)/1) 1 s t
 M:Mv s t (-((b.2-a.2)/1)) ((b.1-a.1)/1) (-s*a.1-t*a.2) ((b.2-a.2)/1*a.1-(b.1-a.1)/1*a.2)
 B:Mv ((b.1-a.1)/1) (-t) ((b.2-a.2)/1) s a.1 a.2
 e:Ek s t (-((b.2-a.2)/1)) ((b.1-a.1)/1) (-s*a.1-t*a.2) ((b.2-a.2)/1*a.1-(b.1-a.1)/1*a.2)=mv ((b.1-a.1)/1) (-t) ((b.2-a.2)/1) s a.1 a.2
theorem lv1(c:Szp 2501 a)(e:Szp 2501 b)(G:dM (b.1-a.1) (b.2-a.2) 1 s t):Lv1 a b s t:=by
 have f:Sz 2502 ((b.1-a.1)/1):=by rw[SE];exact (L2.Sz.sub' e.1 c.1).mono (by decide)
 have d:Sz 2502 ((b.2-a.2)/1):=by rw[SE];exact (L2.Sz.sub' e.2 c.2).mono (by decide)
 have g:dM ((b.1-a.1)/1) ((b.2-a.2)/1) 1 s t:=by rw[SE,SE];exact G
 obtain⟨_,i,h⟩:=jw g f d;have l:=g.eq;have j:Sz _ (-s):=i.natle (by lia);have k:Sz _ (-t):=h.natle (by lia);have m:Sz 2502 (-((b.2-a.2)/1)):=d.natle (by lia);refine⟨⟨c.1.mono (by decide),c.2.mono (by decide),e.1.mono (by decide),e.2.mono (by decide)⟩,G,g,⟨.inl (by grind),i.mono (by decide),h.mono (by decide),m.mono (by decide),f.mono (by decide),(L2.Sz.sub' (L2.Sz.mul j c.1) (L2.Sz.mul h c.2)).mono (by decide),(L2.Sz.sub' (L2.Sz.mul d c.1) (L2.Sz.mul f c.2)).mono (by decide)⟩,⟨.inl (by grind),f.mono (by decide),k.mono (by decide),d.mono (by decide),i.mono (by decide),c.1.mono (by decide),c.2.mono (by decide)⟩,wK l⟩
theorem tX{a b:P2}(s t):pt ((b.1-a.1)/1*0+-t*1+a.1) ((b.2-a.2)/1*0+s*1+a.2)=pu (a.1-t,a.2+s):=by
 have c:(b.1-a.1)/1*0+-t*1+a.1=a.1-t:=by rw[Nd];lia
 have d:(b.2-a.2)/1*0+s*1+a.2=a.2+s:=by rw[Nd];lia
 rw[c,d]
def Es:List U->Out->Prop:=λa o=>∃q c:List P2,a=[plU q]/\Wd q c/\(∀p∈q,Szp 2500 p)/\o=.new (c.map pu)
theorem vf:OkD P w base T.abe 5 (Es):=by
 refine okD gv (by walk_at"ln") ?_;rintro _ _ _ d ⟨q,c,rfl,W,sz,rfl⟩;have h:Sz 30000 1:=Sz.mono (m:=8) (by decide) (by decide);have g:Sz 30000 0:=Sz.mono (m:=8) (by decide) (by decide);cases W with
 |one a s t G=>
  have f:=sz a (by simp);have j:Szp 2501 (a.1+1,a.2):=⟨(L2.Sz.add' f.1 (Sz.mono (m:=8) (n:=2500) (by decide) (by decide))).mono (by decide),f.2.mono (by decide)⟩
  have L:=lv1 (f.mono (by decide)) j G;refine ae (fT (i:=1) gv.nd rfl (Or.inl rfl) (iC (j7 rfl) rfl T.aal QF (ac (aa 0 rfl) aj af)) ?_);refine ae (bY (au bA (cP 1 rfl rfl T.aaa) ag) rfl ?_);refine ae (c8 1 rfl (bD (av (cR (aw (fq 1 rfl ag rfl) ag rfl rfl) ag) (av (aw (fq 1 rfl ag rfl) ag rfl rfl) a_ aD) be)) (am (by simp)) (ay ?_));refine ae (bY (au bA (cP 1 rfl rfl T.aaa) ag) rfl ?_);refine ae (c8 1 rfl (aQ (jE T) d (ac (bD (av ag (av ag a_ aX) aX)) (ac (aQ (h9 T) d (ac (aQ (mw T) d (ac (fq 1 rfl ag rfl) (ac (fq 1 rfl ag rfl) aj aD) aD) ⟨a.1,a.2,a.1+1,a.2,1,s,t,s,t,rfl,L.two,L.G,by decide,L.G1,rfl⟩) aj a9) ⟨_,_,_,_,_,_,rfl,L.M,rfl⟩) aj a9) n9) ⟨0,1,_,_,_,_,_,_,by rw[L.e],L.B,g,h,rfl⟩) (am (by simp)) (ay ?_));refine ae (gu 1 rfl ?_);rw[tX];exact rfl
 |two a b s t G=>
  have f:=sz a (by simp);have j:=sz b (by simp);have L:=lv1 (f.mono (by decide)) (j.mono (by decide)) G;refine ae (fT (i:=1) gv.nd rfl (Or.inl rfl) (iC (j7 rfl) rfl T.aal QF (ac (aa 0 rfl) aj af)) ?_);refine ae (aL (au bA (cP 1 rfl rfl T.aaa) ag) rfl (ay ?_));refine ae (bY (au bA (cP 1 rfl rfl T.aaa) ag) rfl ?_);refine ae (c8 1 rfl (aQ (jE T) d (ac (bD (av ag (av ag a_ aX) aX)) (ac (aQ (h9 T) d (ac (aQ (mw T) d (ac (fq 1 rfl ag rfl) (ac (fq 1 rfl ag rfl) aj aD) aD) ⟨a.1,a.2,b.1,b.2,1,s,t,s,t,rfl,L.two,L.G,by decide,L.G1,rfl⟩) aj a9) ⟨_,_,_,_,_,_,rfl,L.M,rfl⟩) aj a9) n9) ⟨0,1,_,_,_,_,_,_,by rw[L.e],L.B,g,h,rfl⟩) (am (by simp)) (ay ?_));refine ae (gu 1 rfl ?_);rw[tX];exact rfl
 |three a b c=>
  refine ae (fT (i:=1) gv.nd rfl (Or.inl rfl) (iC (j7 rfl) rfl T.aal QF (ac (aa 0 rfl) aj af)) ?_);refine ae (aL (au bA (cP 1 rfl rfl T.aaa) ag) rfl (ay ?_));refine ae (aL (au bA (cP 1 rfl rfl T.aaa) ag) rfl (ay ?_));refine ae (gu 1 rfl ?_);exact rfl
def wF:List U->Out->Prop:=λa o=>∃(k:Int) (x Q R:P2),a=[.int k,pu x,pu Q,pu R]/\Sz 1000 k/\Szp 5000 x/\Szp 5000 Q/\Szp 5000 R/\o=.val (.int (dk k Q R x))
theorem mJ:OkD P w base T.abw 1 (wF):=by
 refine okD CM (by walk_at"ln") ?_;rintro _ _ _ d ⟨k,x,Q,R,rfl,c,⟨g,f⟩,⟨h,e⟩,⟨b,a⟩,rfl⟩;refine ae (aJ (bo (cR (aY (aa 0 rfl) (bo (aY (aw (aa 2 rfl) ag rfl rfl) (aw (aa 3 rfl) ag rfl rfl) (by walk_at"mul")) (aY (aw (aa 2 rfl) ag rfl rfl) (aw (aa 3 rfl) ag rfl rfl) (by walk_at"mul"))) (by walk_at"mul")) (aY (aw (aa 1 rfl) ag rfl rfl) (bo (aw (aa 2 rfl) ag rfl rfl) (aw (aa 3 rfl) ag rfl rfl)) (by walk_at"mul"))) (aY (aw (aa 1 rfl) ag rfl rfl) (bo (aw (aa 2 rfl) ag rfl rfl) (aw (aa 3 rfl) ag rfl rfl)) (by walk_at"mul"))) ?_);exact rfl
def wts:List P2->Int->P2->List (P2×Int)
 |[a,b,c],k,x=>[(a,dk k b c x),(b,dk k c a x),(c,dk k a b x)]
 |_,_,_=>[]
def tell(c:List P2)(k:Int)(x:P2):List ST3.PQ:=SG.srt ST3.KQ ((wts c k x).filter λz=>decide (0<z.2))
def Dl:List U->Out->Prop:=λa o=>∃(q c:List P2) (k:Int) (x:P2),a=[plU q,.int k,pu x]/\Wd q c/\(∀p∈q,Szp 2500 p)/\(∀p∈c,Szp 5000 p)/\c.Nodup/\Sz 1000 k/\Szp 5000 x/\o=.new ((tell c k x).map qU)
theorem tZ(W:Wd q c):∃a b d,c=[a,b,d]:=by cases W <;>exact⟨_,_,_,rfl⟩
def yE(l:List (P2×Int)):List (Option U):=l.map λz=>if 0<z.2 then some (qU z) else none
theorem D4(l):(yE l).filterMap id=(l.filter λz=>decide (0<z.2)).map qU:=by
 induction l with
 |nil=>rfl
 |cons p l a=>
  unfold yE at *;rw[Lb,RE];by_cases h:0<p.2
  .rw[if_pos h,if_pos (by simpa using h),Lb,<-a];rfl
  .rw[if_neg h,if_neg (by simpa using h)];exact a
theorem Kt(b d a):(sdl [b,d,a]).map pq=[pq (b,d),pq (d,a),pq (a,b)]:=by
 unfold sdl nxt;simp[PY,gp]
theorem lA:OkD P w base T.aap 6 (Dl):=by
 refine okD bK (by walk_at"ln") ?_;rintro _ _ _ f ⟨q,c,k,x,rfl,W,E,p,nd,g,s,rfl⟩;obtain⟨a,b,d,rfl⟩:=tZ W;have B:=p a (by simp);have t:=p b (by simp);have D:=p d (by simp);refine ae (aA 3 bK.nd (EvN.ev (dy (vf T) f (ac (aa 0 rfl) aj af) ⟨q,_,rfl,W,E,rfl⟩)) ?_);have G:iF (([a,b,d]:List P2).map pu) (some 1) none++iF (([a,b,d]:List P2).map pu) none (some 1)=([b,d,a]:List P2).map pu:=by rw[pz,xN];rfl
 refine ae (aA 4 bK.nd (EvN.ev (dy (gU T) f (ac (p5 (congrArg U.lst G) (EvN.ev (mM (EvN.ev (df (aa 3 rfl) (dr ag) dh (.inl rfl))) (EvN.ev (df (aa 3 rfl) dh (dr ag) (.inl rfl))) (by rw[pz,xN];exact La (am (by simp)))))) aj be) ⟨[b,d,a],rfl,by simp,rfl⟩)) ?_);rw[Kt];show Ws _ _ _ _ _ _ [some (.val (plU q)),some (.val (.int k)),some (.val (pu x)),some (.val (lp [a,b,d])),some (.val (.lst [pq (b,d),pq (d,a),pq (a,b)])),none,none,none,none];refine ae (ff (ys:=(wts [a,b,d] k x).map qU) (j:=5) false rfl bK.nd rfl (Or.inl rfl) (blk (ai dF) ["piece","k","P","corners","across","pairs","corner","side","pair"] [6,7] rfl rfl rfl rfl (by decide+kernel)) (l9 rfl T.aa3 (aa 3 rfl) (.inl rfl) (aa 4 rfl) (.inl rfl) rfl af af) (λ_ _ _ _=>c6 rfl (aC (aB (i:=6) bK.nd rfl (Or.inl rfl)) (aC (aB (i:=7) bK.nd rfl (Or.inl rfl)) bO))) (cy (js:=[6,7]) (by decide)) ?clen ?csz ?dom ?celt ?_)
 case clen=>rfl
 case csz=>exact La (am (by simp[dw]))
 case dom=>
  intro z hz;simp only[dw,Lb,Og,KO,Ly,or_false]at hz;rcases hz with rfl |rfl |rfl <;>exact⟨_,rfl,rfl⟩
 case celt=>
  intro C u v A j z y hz hy
  match j,hz,hy with
  |0,hz,hy=>
   cases hz;cases hy;exact (bD (av (aa 6 rfl) (av (aQ (mJ T) f (ac (aa 1 rfl) (ac (aa 2 rfl) (ac (aw (aa 7 rfl) ag rfl rfl) (ac (aw (aa 7 rfl) ag rfl rfl) aj aD) aD) af) af) ⟨k,x,b,d,rfl,g,s,t,D,rfl⟩) a_ a9) af))
  |1,hz,hy=>
   cases hz;cases hy;exact (bD (av (aa 6 rfl) (av (aQ (mJ T) f (ac (aa 1 rfl) (ac (aa 2 rfl) (ac (aw (aa 7 rfl) ag rfl rfl) (ac (aw (aa 7 rfl) ag rfl rfl) aj aD) aD) af) af) ⟨k,x,d,a,rfl,g,s,D,B,rfl⟩) a_ a9) af))
  |2,hz,hy=>
   cases hz;cases hy;exact (bD (av (aa 6 rfl) (av (aQ (mJ T) f (ac (aa 1 rfl) (ac (aa 2 rfl) (ac (aw (aa 7 rfl) ag rfl rfl) (ac (aw (aa 7 rfl) ag rfl rfl) aj aD) aD) af) af) ⟨k,x,a,b,rfl,g,s,B,t,rfl⟩) a_ a9) af))
  |j+3,hz,hy=>simp[wts]at hy
 have F:((wts [a,b,d] k x).map (·.1)).Nodup:=nd;have H:(wts [a,b,d] k x).length=3:=rfl;show Ws _ _ _ _ _ _ [some (.val (plU q)),some (.val (.int k)),some (.val (pu x)),some (.val (lp [a,b,d])),some (.val (.lst [pq (b,d),pq (d,a),pq (a,b)])),some (.val (.lst ((wts [a,b,d] k x).map qU))),none,none,none];unfold tell;generalize wts [a,b,d] k x=l at *;refine ae (c7 (qD ST3.KQ qU ((0,0),0) (trs:=l.filter λz=>decide (0<z.2)) Kr rfl T.aah (fU f) (p5 (congrArg U.lst (D4 l)) (EvN.ev (E6 (yE l) rfl (blk (ai dF) ["piece","k","P","corners","across","pairs","corner","side","pair"] [8] rfl rfl rfl rfl (by decide+kernel)) (EvI.z (bL (aa 5 rfl) (.inl rfl))) (λ_ _ _ _=>aB (i:=8) bK.nd rfl (Or.inl rfl)) (bS (by decide)) ?clen ?csz (λ_ _=>trivial) ?ctest ?celt))) ⟨MD (Om _ _) (by lia),?nd⟩ bF) ?_)
 case clen=>unfold yE;simp
 case csz=>rw[KI];exact La (am (by lia))
 case ctest=>
  intro C u v A j z o hz m;rw[K5]at hz;obtain⟨e,n,rfl⟩:=Nx.mp hz;unfold yE at m;rw[K5,n]at m;cases m
  have r:(if 0<e.2 then some (qU e) else none).isSome=decide (e.2 >0):=by
   by_cases h:0<e.2
   .rw[if_pos h,decide_eq_true h];rfl
   .rw[if_neg h,decide_eq_false h];rfl
  rw[r];exact (au e7 (aw (aa 8 rfl) ag rfl rfl) ag)
 case celt=>
  intro C u v A j z y hz hy;rw[K5]at hz;obtain⟨e,n,rfl⟩:=Nx.mp hz;unfold yE at hy;rw[K5,n]at hy;by_cases h:0<e.2
  .rw[U9,if_pos h]at hy;cases hy;exact (aa 8 rfl)
  .rw[U9,if_neg h]at hy;cases hy
 case nd=>exact ((LY.mp F).imp λ{a b} h e=>h (by rw[e])).sublist QK
 exact rfl
def inK(k:Int)(r:List P2)(x:P2):Bool:=decide (-1<whr (aq (r.map (scl k))) x)
def iu:List U->Out->Prop:=λa o=>∃(l:List P2) (k:Int) (x:P2) (u:List (List P2)) (q:List P2) (v:List (List P2)) (c:List P2),a=[lp l,.int k,pu x]/\iH l/\0<=k/\Sz 1000 k/\Szp 5000 x/\di l=u++q::v/\(∀r∈u,inK k r x=false)/\inK k q x=true/\Wd q c/\(∀p∈c,Szp 5000 p)/\c.Nodup/\o=.new ((tell c k x).map qU)
theorem mG:∀{r}{q},q∈dQ r->∃a b,q=[a,b]/\a∈r/\b∈r
 |[],q,h=>by cases h
 |[_],q,h=>by cases h
 |a::b::r,q,h=>by
  rcases KO.mp h with e |e
  .exact⟨a,b,e,by simp,by simp⟩
  .obtain⟨c,d,f,i,g⟩:=mG e;exact⟨c,d,f,KN _ i,KN _ g⟩
theorem B6(h:t∈pcs l):t.1∈aU l/\t.2.1∈aU l/\t.2.2∈aU l:=by
 obtain⟨r,g,rfl⟩:=KZ.mp h;have b:=cC l
 have a:∀t,t∈v8 l->t.1∈aU l/\t.2.1∈aU l/\t.2.2∈aU l:=λt f=>by
  rcases LG.mp f with h |h
  .have:=fF (.inl rfl) _ b t h;exact⟨this.ma,this.mb,this.mP⟩
  .have:=fF (.inr rfl) _ b t h;exact⟨this.ma,this.mb,this.mP⟩
 obtain⟨c,e,d⟩:=a r g;unfold cj;split
 .exact⟨c,e,d⟩
 .exact⟨c,d,e⟩
theorem lP(F:Fld l)(h:q∈di l):q≠[]/\q.length<=3/\∀p∈q,p∈aU l:=by
 have m:0<l.length:=LF.mpr F.ne;unfold di at h;split at h
 .rename_i k
  obtain⟨A,rfl⟩:=MV.mp k;rw[K9.mp h,jZ F];simp
 .split at h
  .obtain⟨a,b,rfl,j,d⟩:=mG h;refine⟨by simp,by simp,λp c=>?_⟩;simp at c;rcases c with rfl |rfl
   .exact j
   .exact d
  .obtain⟨t,f,rfl⟩:=KZ.mp h;obtain⟨e,g,i⟩:=B6 ((SG.srt_mem _ _ _).mp f);refine⟨by simp,by simp,λp c=>?_⟩;simp at c;rcases c with rfl |rfl |rfl
   .exact e
   .exact g
   .exact i
theorem iH.fz(O:iH l):∀p∈aU l,Szp 2500 p:=λp a=>by
 have q:=(dU O.F.ne).mp (O.F.in_box ((bM O.F p).mp a));obtain⟨_,_,c,e,b,d⟩:=p_ O.F.ne O.sz;exact⟨(ku c e q.1.1 q.1.2).mono (by decide),(ku b d q.2.1 q.2.2).mono (by decide)⟩
theorem EK:OkD P w base T.abB 10 (iu):=by
 refine okD xR (by walk_at"ln") ?_;rintro _ _ _ d ⟨l,k,x,u,q,v,c,rfl,O,Q,g,j,a,I,A,W,H,E,rfl⟩;refine ae (aL (au eM (aa 1 rfl) ag) (decide_eq_false (by lia)) (ay ?_));have fz:=O.fz;refine ae (fQ (λ_:Unit=>[some (.val (lp l)),some (.val (.int k)),some (.val (pu x)),none]) (λi _=>i<=u.length) rfl PassesOwn.never (bL (EvN.ev (dy (y6 T) d (ac (aa 0 rfl) aj af) ⟨l,rfl,O,rfl⟩)) (.inl rfl)) ?h0 ?hs ?hd)
 case h0=>exact⟨(),Mm _,rfl,rfl,rfl,trivial⟩
 case hs=>
  rintro M i y _ hy N;rw[K5]at hy;obtain⟨r,f,rfl⟩:=Nx.mp hy;obtain⟨m,K,C⟩:=lP O.F (Lo f);have h:∀p∈r,Szp 2500 p:=λp a=>fz p (C p a)
  have o:∀p∈aq (r.map (scl k)),Szp 5000 p:=λp a=>by
   obtain⟨z,G,rfl⟩:=KZ.mp (b6 _ p a);exact (vn g (h z G)).mono (by decide)
  have D:=lN (r.map (scl k));rw[KI]at D;have t:aq (r.map (scl k))≠[]:=jY (by simpa using m)
  refine⟨_,(g_ (i:=3) xR.nd rfl (Or.inl rfl)),?_⟩;rw[a]at f;have b:decide (whr (aq (r.map (scl k))) x >-1)=inK k r x:=rfl;by_cases e:i<u.length
  .rw[Lp e]at f;have:=I r (Lo f);refine ae (aL (au e7 (aQ (nA T) d (ac (EvN.ev (dy (lO T) d (ac (EvN.ev (iC (j7 rfl) rfl T.aal QF (ac (aa 3 rfl) aj af))) (ac (aa 1 rfl) aj af) a9) ⟨r,k,rfl,g,λp a=>(h p a).mono (by decide),m,by lia,rfl⟩)) (ac (aa 2 rfl) aj af) a9) ⟨_,x,rfl,LF.mpr t,by lia,o,j,rfl⟩) (ce ag)) (by rw[b];exact this) (ay (ay ?_)))
   exact⟨(),e,rfl,rfl,rfl,trivial⟩
  .have B:i=u.length:=by lia
   subst B;rw[Lq (K1 _),VY]at f;cases f;refine ae (bY (au e7 (aQ (nA T) d (ac (EvN.ev (dy (lO T) d (ac (EvN.ev (iC (j7 rfl) rfl T.aal QF (ac (aa 3 rfl) aj af))) (ac (aa 1 rfl) aj af) a9) ⟨q,k,rfl,g,λp a=>(h p a).mono (by decide),m,by lia,rfl⟩)) (ac (aa 2 rfl) aj af) a9) ⟨_,x,rfl,LF.mpr t,by lia,o,j,rfl⟩) (ce ag)) (by rw[b];exact A) ?_)
   refine ae (c7 (dy (lA T) d (ac (aa 3 rfl) (ac (aa 1 rfl) (ac (aa 2 rfl) aj af) af) af) ⟨q,c,k,x,rfl,W,h,H,E,g,j,rfl⟩) ?_);exact rfl
 case hd=>
  rintro n L s J
  exfalso
  rw[KI,a]at s;simp at s;lia
def D10:List Nat:=[48,49,50,51,52,53,54,55,56,57]
theorem rc(c:Nat):c∈D10↔48<=c/\c<=57:=by rw[show D10=Wh 48 10 from rfl,List.mem_range'_1];omega
def bJ(l:List Nat):List Nat:=if l.head?=some 45 then l.drop 1 else l
theorem jV(h:l.head?=some 45):l=45::bJ l:=by
 unfold bJ;rw[if_pos h];cases l with
 |nil=>simp at h
 |cons a r=>simp at h;subst h;rfl
theorem ip(h:¬ l.head?=some 45):bJ l=l:=if_neg h
theorem CT(l):(bJ l).length<=l.length:=by unfold bJ;split <;>simp
def vh(l:List Nat):Bool:=l.all λc=>decide (c∈D10)
theorem uD(l):vh l=true↔NumText.AllDigits l:=by
 unfold vh NumText.AllDigits;rw[OJ];exact⟨λh c a=>(rc c).mp (of_decide_eq_true (h c a)),λh c a=>decide_eq_true ((rc c).mpr (h c a))⟩
noncomputable def okL(l:List Nat):Bool:=(decide (1<=(bJ l).length) && decide ((bJ l).length<=60)) && (vh (bJ l) && !(decide ((bJ l).head?=some 48) && (decide (1<(bJ l).length) ||decide (l≠bJ l))))
structure Num(l:List Nat):Prop where
 l1:1<=(bJ l).length
 l2:(bJ l).length<=60
 ad:NumText.AllDigits (bJ l)
 h0:(bJ l).head?=some 48->(bJ l).length=1/\l=bJ l
theorem lS(l):okL l=true↔Num l:=by
 unfold okL;simp only[MN,decide_eq_true_eq,Bool.not_eq_true',uD];constructor
 .rintro ⟨⟨a,b⟩,c,d⟩;refine⟨a,b,c,λh=>?_⟩;rw[decide_eq_true h,OF,Bool.or_eq_false_iff]at d;have i:=of_decide_eq_false d.1;have e:=of_decide_eq_false d.2;exact⟨by lia,Classical.not_not.mp e⟩
 .intro h;refine⟨⟨h.l1,h.l2⟩,h.ad,?_⟩;by_cases z:(bJ l).head?=some 48
  .obtain⟨g,f⟩:=h.h0 z;rw[decide_eq_false (show ¬ 1<(bJ l).length by lia),decide_eq_false (show ¬ l≠bJ l from λk=>k f)];simp
  .rw[decide_eq_false z];rfl
def CS(l:List Nat):Int:=if l.head?=some 45 then -((NumText.digitsVal (bJ l):Nat):Int) else ((NumText.digitsVal (bJ l):Nat):Int)
theorem yh:∀b a,NumText.AllDigits b->b.foldl (λg c=>g*10+(c-48)) a<(a+1) *10 ^ b.length
 |[],a,_=>by simp
 |c::b,a,h=>by
  have h1:=h c K0;have f:=yh b (a*10+(c-48)) λd e=>h d (KN _ e);rw[MF,Lk,N2];refine Ls f ?_;rw[Ul (10 ^ b.length) 10,<-Nat.mul_assoc];exact Ov _ (by lia)
theorem wv(h:m<10 ^ 62):m.log2<1920:=by
 by_cases z:m=0
 .subst z;decide
 .rw[UV z];exact MG h (by decide+kernel)
theorem Num.text(h:Num l):S1 (T' l)=some (CS l):=by
 have c:bJ l≠[]:=λe=>by have:=h.l1;rw[e]at this;simp at this
 unfold CS;by_cases z:l.head?=some 45
 .rw[if_pos z];have e:=jV z;refine intText_neg (by simpa using e) h.ad c ?_;rw[aW];have:=congrArg Pu e;rw[Lk]at this;have:=h.l2;lia
 .rw[if_neg z,ip z];have a:=h.ad;have b:=h.l2;rw[ip z]at a b c;have:=Vq (x:=T' l) (by simpa using a) (by simpa using c) (by rw[aW];lia)
  simpa using this
def ds(n:Int):List Nat:=(Str.ofString (NY n)).cps.toList
theorem kr(n):Str.ofString (NY n)=T' (ds n):=tW _
theorem gE(m:Nat):ds (m:Int)=(SF 10 m).map Char.toNat:=V4 m
theorem uV{m:Nat}(h:0<m):ds (-(m:Int))=45::ds (m:Int):=by
 unfold ds;rw[toString_neg (show (-(m:Int))<0 by lia),Vr,Vr,show 0 - -m=(m:Int) by lia,String.toList_append,LO];rfl
theorem cL(a:1<=k)(h:n.natAbs<10 ^ k):(ds n).length<=k+1:=by
 rcases L9 n 0 with z |z
 .obtain⟨m,rfl⟩:∃m:Nat,n=-m:=⟨n.natAbs,by lia⟩
  rw[uV (by lia),Lk,gE,KI];have:=U_ a (n:=m) (by lia);lia
 .obtain⟨m,rfl⟩:∃m:Nat,n=m:=⟨n.toNat,by lia⟩
  rw[gE,KI];have:=U_ a (n:=m) (by lia);lia
theorem Hz:∀d,d<10->48<=(VO d).toNat/\(VO d).toNat<=57:=by decide
theorem gM(m:Nat):NumText.AllDigits (ds (m:Int)):=by
 induction m using UY with
 |_ m b=>
  by_cases h:m<10
  .rw[gE,Nat.toDigits_of_lt_base h];intro c a;simp at a;rw[a];exact Hz m h
  .have d:m%10<10:=NF m (by decide);have t:SF 10 (m/10)++SF 10 (m%10)=SF 10 (10*(m/10)+m%10):=Nat.toDigits_append_toDigits (by decide) (by omega) d;rw[Nat.div_add_mod]at t;rw[gE,<-t,LO];intro c a;rcases LG.mp a with k |k
   .exact b (m/10) (by omega) c (by rw[gE];exact k)
   .exact b (m%10) (by omega) c (by rw[gE];exact k)
theorem qA(m:Nat):NumText.digitsVal (ds (m:Int))=m:=by rw[gE];exact V7 m
theorem ul(m:Nat):ds (m:Int)≠[]:=λe=>by
 have h:=gE m;rw[e]at h;have:=Nat.toDigits_ne_nil (b:=10) (n:=m);exact this (by simpa using h.symm)
theorem rD{m k:Nat}(a:1<=k)(h:m<10 ^ k):(ds (m:Int)).length<=k:=by
 rw[gE,KI];exact U_ a h
theorem DU{m:Nat}(h:(ds (m:Int)).head?=some 48):m=0:=by
 cases e:ds m with
 |nil=>rw[e]at h;simp at h
 |cons c r=>
  rw[e]at h;simp at h;subst h;have d:=gM m;have v:=qA m;rw[e]at d v;have b:=v;cases r with
  |nil=>rw[<-b];rfl
  |cons a r=>
   have:=yh (a::r) 0 (λc f=>d c (KN _ f));rw[Nat.zero_add,S8]at this;have l:=rD (m:=m) (k:=(a::r).length) (by simp) (by rw[<-b];exact this)
   rw[e]at l;simp at l;lia
theorem lX(n):bJ (ds n)=ds (n.natAbs:Int)/\((ds n).head?=some 45↔n<0):=by
 rcases L9 n 0 with z |z
 .obtain⟨m,rfl⟩:∃m:Nat,n=-m:=⟨n.natAbs,by lia⟩
  have e:=uV (m:=m) (by lia);rw[e];refine⟨?_,by simp;lia⟩;unfold bJ;rw[if_pos (show (45::ds m).head?=some 45 from rfl)];simp
 .obtain⟨m,rfl⟩:∃m:Nat,n=m:=⟨n.natAbs,by lia⟩
  have a:(ds m).head?≠some 45:=λh=>by
   cases e:ds m with
   |nil=>exact ul m e
   |cons c r=>
    rw[e]at h;simp at h;have:=gM m c (by rw[e];exact K0)
    lia
  refine⟨?_,by simp[a]⟩;rw[ip a];simp
theorem qN(n):CS (ds n)=n:=by
 obtain⟨e,h⟩:=lX n;unfold CS;rw[e,qA];by_cases z:n<0
 .rw[if_pos (h.mpr z)];omega
 .rw[if_neg λk=>z (h.mp k)];omega
theorem CY(h:n.natAbs<10 ^ 60):okL (ds n)=true:=by
 refine (lS _).mpr ?_;obtain⟨e,b⟩:=lX n;refine⟨?_,?_,?_,λk=>?_⟩
 .rw[e];exact LF.mpr (ul _)
 .rw[e];exact rD (by decide) h
 .rw[e];exact gM _
 .rw[e]at k |-;have z:=DU k;have a:n=0:=by lia
  subst a;exact⟨by decide+kernel,by rfl⟩
theorem yc(h:n.natAbs<10 ^ 300):S1 (T' (ds n))=some n:=by
 obtain⟨e,b⟩:=lX n;have l:=cL (by decide) h;by_cases z:n<0
 .have a:=jV (b.mpr z);rw[e]at a;have:=intText_neg (x:=T' (ds n)) (by simpa using a) (gM _) (ul _) (by rw[aW];lia)
  rw[this,qA];congr 1;lia
 .obtain⟨m,rfl⟩:∃m:Nat,n=m:=⟨n.natAbs,by lia⟩
  have:=Vq (x:=T' (ds m)) (by simpa using gM m) (by simpa using ul m) (by rw[aW];lia);rw[this];simp[qA]
theorem fE(n)(a:c<45\/57<c\/c=47\/c=46):c ∉ ds n:=λh=>by
 rcases L9 n 0 with z |z
 .obtain⟨m,rfl⟩:∃m:Nat,n=-m:=⟨n.natAbs,by lia⟩
  rw[uV (by lia)]at h
  rcases KO.mp h with k |k
  .lia
  .have:=gM m c k;lia
 .obtain⟨m,rfl⟩:∃m:Nat,n=m:=⟨n.natAbs,by lia⟩
  have:=gM m c h;lia
def ptD(p:P2):List Nat:=ds p.1++44::ds p.2
def B60(p:P2):Prop:=p.1.natAbs<10 ^ 60/\p.2.natAbs<10 ^ 60
theorem oj(p):32 ∉ ptD p:=λh=>by
 rcases LG.mp h with k |k
 .exact fE p.1 (by lia) k
 .rcases KO.mp k with k |k
  .lia
  .exact fE p.2 (by lia) k
theorem fC(h:B60 p):(ptD p).length<=123:=by
 have b:=cL (by decide) h.1;have a:=cL (by decide) h.2;unfold ptD;simp;lia
def jn:List (List Nat)->List Nat
 |[]=>[]
 |[w]=>w
 |w::r=>w++32::jn r
theorem jK(w)(h:r≠[]):jn (w::r)=w++32::jn r:=by
 cases r with
 |nil=>exact absurd rfl h
 |cons a r=>rfl
theorem vT:∀{b},b≠[]->(∀w∈b,32 ∉ w)->spl 32 (jn b)=b
 |[],h,_=>absurd rfl h
 |[w],_,h=>jX (h w K0)
 |w::a::r,_,h=>by
  rw[jK w (by simp),jB _ (h w K0),vT (by simp) λx c=>h x (KN _ c)]
theorem Hm:∀b,Txt.join (T' [32]) (b.map T')=T' (jn b):=λb=>by
 show Builtin.Str.glued _ _=_;rw[StrLaws.glued_eq_join]
 induction b with
 |nil=>rfl
 |cons w r c=>
  cases r with
  |nil=>rfl
  |cons a r=>
   rw[jK w (by simp)];show T' w++T' [32]++Str.join (T' [32]) ((a::r).map T')=_;rw[c,fN,fN];refine congrArg T' ?_;simp
theorem vE:∀b,(∀w∈b,w.length<=c)->(jn b).length<=b.length*(c+1)
 |[],_=>by simp[jn]
 |[w],h=>by have:=h w K0;simp[jn];lia
 |w::a::r,h=>by
  have e:=vE (a::r) λx d=>h x (KN _ d);have:=h w K0;rw[jK w (by simp),LB,Lk,Lk,Va,S8];lia
theorem gV(K):Qf K (.type "str") (.type "str")=some true:=rfl
def uW:List U->Out->Prop:=λa o=>∃x,a=[.str x]/\o=.val .non
theorem jC:OkD P w base T.aaS 1 (uW):=by
 refine okD rK (by walk_at"ln") ?_;rintro _ _ _ a ⟨x,rfl,rfl⟩;refine ae (aL (iX (gG (ao (fY (by intro _ h;cases h) (gV _)) rfl T.aad O5 (ac (aa 0 rfl) (ac (Aa rfl T.aaC QY) aj af) af)))) rfl (ay (ay ?_)));exact rfl
theorem sz1(h:l.length<=8200):(T' l).length<=sizeLine:=by rw[aW];exact La (jU (by lia))
theorem hy:((Str.ofString "-"):Str)=⟨#[45]⟩:=rfl
theorem fg:((Str.ofString "0123456789"):Str)=T' D10:=rfl
theorem eqS(x y):eqW (.str x) (.str y)=decide (x=y):=by
 show (x==y)=_;by_cases h:x=y
 .subst h;simp
 .rw[decide_eq_false h];simpa using h
theorem nN(h:T' l=T' m):l=m:=by
 have:=congrArg (λx:Str=>x.cps.toList) h;simpa using this
def yx:List U->Out->Prop:=λa o=>∃l:List Nat,a=[.str (T' l)]/\l.length<=8200/\o=.val (.bl (okL l))
theorem hG:OkD P w base T.aaj 1 (yx):=by
 refine okD cN (by walk_at"ln") ?_;rintro _ _ _ D ⟨l,rfl,R,rfl⟩;have fl:=CT l;have G:=EO l 45;have I:∀{X:Cx}{A:Hp}{H:List Lm}{v:PSt}{e:Expr} (x y:Str),x=y->Ev X A H v e (.str x)->Ev X A H v e (.str y):=λx y h=>by subst h;exact id
 have J:Txt.startswith (T' l) (Str.ofString "-")=true→StrLaws.sliceText (T' l) (some 1) none=T' (bJ l):=λh=>by
  rw[hy,G]at h;rw[show (1:Int)=((1:Nat):Int) from rfl,mI]
  unfold bJ;rw[if_pos (of_decide_eq_true h)]
 have S:Txt.startswith (T' l) (Str.ofString "-")=false→T' l=T' (bJ l):=λh=>by
  rw[hy,G]at h;rw[ip (of_decide_eq_false h)]
 refine ae (aA 1 cN.nd (BV (gG (CN (aa 0 rfl) aF aX)) (λd=>(I _ _ (J d) (nK (aa 0 rfl) (dr ag) dh (sz1 R)))) (λd=>(I _ _ (S d) (aa 0 rfl)))) ?_);have s:((T' (bJ l)).length:Int)=((bJ l).length:Int):=by rw[aW]
 by_cases f:1<=(bJ l).length/\(bJ l).length<=60
 .refine ae (aL (Tw.t (lG (au eM (ao (hV (sz1 (by lia))) rfl T.aaa Ld (ac (aa 1 rfl) aj af)) ag) (λd=>(jv (au e7 (ao (hV (sz1 (by lia))) rfl T.aaa Ld (ac (aa 1 rfl) aj af)) (pT rfl T.aai)))))) (by rw[s,decide_eq_false (show ¬ ((bJ l).length:Int)<1 by lia),decide_eq_false (show ¬ ((bJ l).length:Int) >60 by lia)];rfl) (ay ?_));have L:∀c:Nat,(!(Builtin.Str.occurrences (Str.ofString "0123456789") ⟨#[c]⟩ 0 (Str.ofString "0123456789").length 1).isEmpty)=decide (c∈D10):=λc=>by rw[fg];exact in1 D10 c
  have b:((bJ l).map λc=>decide (c∈D10)).all id=vh (bJ l):=by unfold vh;rw[Um];rfl
  refine ae (nT (iX (gG (ao (FM rfl (bs:=(bJ l).map λc=>decide (c∈D10))) rfl T.abD boot_all (ac (EvN.ev (bv (ys:=(((bJ l).map λc=>decide (c∈D10)).map U.bl)) rfl (blk (ai cY) ["text","figures","sign"] [2] rfl rfl rfl rfl (by decide+kernel)) (EvI.z (Dd (aa 1 rfl))) (λ_ _ _ _=>aB (i:=2) cN.nd rfl (Or.inl rfl)) (bS (by decide)) ?clen ?csz (λ_ _=>trivial) ?celt)) aj bF)))) (λF=>?_) (λE=>(ay ?_)))
  case clen=>simp
  case csz=>simp;exact La (jU (by lia))
  case celt=>
   intro C Y Z fp j x y q u;have n:(T' (bJ l)).cps.toList=bJ l:=by simp
   rw[n]at q;rw[Lh]at u;obtain⟨c,W,V,rfl,rfl⟩:=bG q u;show Ev _ _ _ _ _ (.bl (decide (c∈D10)));rw[<-L c];exact (dH Jv (aa 2 rfl) (Jz rfl T.abh))
  .refine ae (aJ IB ?_);refine vB ?_
   symm
   rw[b]at F;unfold okL;have:vh (bJ l)=false:=by simpa using F
   rw[this];simp
  .rw[b]at E;have Q:vh (bJ l)=true:=by simpa using E
   obtain⟨c,r,a⟩:∃c r,bJ l=c::r:=by
    cases e:bJ l with
    |nil=>rw[e]at f;simp at f
    |cons c r=>exact⟨c,r,rfl⟩
   have o:atI (T' (bJ l)).cps.toList 0=some c:=cQ (i:=0) rfl (by simp[a]);refine ae (aJ (Gn (dH (bN D) (aa 0 rfl) aF) (λd=>(mV (dH (pS D) (IQ (aa 1 rfl) ag (sz1 (by lia)) o) aF)))) ?_);refine vB ?_
   have n:eqW (.str (T' l)) (.str (Str.ofString "0"))=decide (l=[48]):=by
    rw[eqS];refine decide_eq_decide.mpr ⟨λh=>nN (m:=[48]) h,λh=>by rw[h];rfl⟩
   have K:eqW (sg c) (.str (Str.ofString "0"))=decide (c=48):=by
    rw[eqS];refine decide_eq_decide.mpr ⟨λh=>?_,λh=>by rw[h];rfl⟩;have:=nN (l:=[c]) (m:=[48]) h;simpa using this
   rw[n,K,OA,lS];have B:(bJ l).head?=some c:=by rw[a];rfl
   constructor
   .intro h;refine⟨f.1,f.2,(uD _).mp Q,λk=>?_⟩;rw[B]at k;cases k;have O:l=[48]:=by simpa using h
    subst O;exact⟨rfl,rfl⟩
   .intro N;by_cases z:c=48
    .subst z;obtain⟨g,M⟩:=N.h0 B
     have:l=[48]:=by
      rw[M,a];rw[a]at g;simp at g;rw[g]
     rw[decide_eq_true this];rfl
    .rw[decide_eq_false z];simp
 .have p:(decide (((bJ l).length:Int)<1) ||decide (((bJ l).length:Int) >60))=true:=by
   by_cases z:((bJ l).length:Int)<1
   .rw[decide_eq_true z];rfl
   .rw[decide_eq_true (show ((bJ l).length:Int) >60 by lia)];simp
  refine ae (bY (Tw.t (lG (au eM (ao (hV (sz1 (by lia))) rfl T.aaa Ld (ac (aa 1 rfl) aj af)) ag) (λd=>(jv (au e7 (ao (hV (sz1 (by lia))) rfl T.aaa Ld (ac (aa 1 rfl) aj af)) (pT rfl T.aai)))))) (by rw[s];exact p) ?_);refine ae (aJ IB ?_);refine vB ?_
  symm
  cases e:okL l with
  |false=>rfl
  |true=>
   have N:=(lS l).mp e;exact absurd ⟨N.l1,N.l2⟩ f
theorem zC(N:Num l):l.length<=61:=by
 have h:=N.l2;by_cases z:l.head?=some 45
 .have e:=congrArg Pu (jV z);rw[Lk]at e;lia
 .rw[ip z]at h;lia
def yS:List U->Out->Prop:=λa o=>∃l:List Nat,a=[.str (T' l)]/\l.length<=8200/\okL l=true/\o=.val (.int (CS l))
theorem e_:OkD P w base T.aax 2 (yS):=by
 refine okD m_ (by walk_at"ln") ?_;rintro _ _ _ a ⟨l,rfl,c,b,rfl⟩;have N:=(lS l).mp b;refine ae (km (aQ (jC T) a (ac (aa 0 rfl) aj af) ⟨_,rfl,rfl⟩) ?_);refine ae (aL (iX (gG (aQ (hG T) a (ac (aa 0 rfl) aj af) ⟨l,rfl,c,rfl⟩))) (by rw[b];rfl) (ay ?_));refine ae (aJ (cG (vF N.text (by rw[aW];exact Mh (zC N) (by decide))) rfl T.aaM Rv (ac (aa 0 rfl) aj af)) ?_);exact rfl
def vI:List U->Out->Prop:=λa o=>∃n:Int,a=[.int n]/\n.natAbs<10 ^ 300/\o=.val (.str (T' (ds n)))
theorem IU(h:m<10 ^ 300):m.log2<1920:=by
 by_cases z:m=0
 .subst z;decide
 .rw[UV z];exact MG h (by decide+kernel)
theorem fh:OkD P w base T.aay 1 (vI):=by
 refine okD m9 (by walk_at"ln") ?_;rintro _ _ _ b ⟨n,rfl,a,rfl⟩;refine ae (aJ (cG (kA (IU a)) rfl T.aaC QY (ac (aa 0 rfl) aj af)) ?_);rw[kr]
theorem ir(x y:Str):(x++y).length=x.length+y.length:=by
 show (x.cps++y.cps).size=_;rw[Array.size_append];rfl
theorem uz(a b):T' a++(Str.ofString ",":Str)++T' b=T' (a++44::b):=by
 rw[show (Str.ofString ",")=T' [44] from rfl,fN,fN];refine congrArg T' ?_;simp
theorem sz2(h:l.length<=8200):(T' l).length+2<=sizeLine:=by rw[aW];exact La (jU (by lia))
def Cu:List U->Out->Prop:=λa o=>∃p:P2,a=[.str (T' (ptD p))]/\B60 p/\o=.val (pu p)
theorem oO:OkD P w base T.aaG 3 (Cu):=by
 refine okD iM (by walk_at"ln") ?_;rintro _ _ _ b ⟨p,rfl,a,rfl⟩;have d:=fC a;have e:spl 44 (ptD p)=[ds p.1,ds p.2]:=by unfold ptD;rw[jB _ (fE p.1 (by lia)),jX (fE p.2 (by lia))]
 have l1:=cL (by decide) a.1;have l2:=cL (by decide) a.2;refine ae (km (aQ (jC T) b (ac (aa 0 rfl) aj af) ⟨_,rfl,rfl⟩) ?_);refine ae (aA 1 iM.nd (EvN.ev (mU (c:=44) (aa 0 rfl) aF aX (sz2 (by lia)) rfl)) ?_);rw[e];refine ae (aL (au tY (ao (bj rfl) rfl T.aaa Ld (ac (aa 1 rfl) aj af)) ag) rfl (ay ?_));refine ae (aJ (bD (av (aQ (e_ T) b (ac (aw (aa 1 rfl) ag rfl rfl) aj aD) ⟨ds p.1,rfl,by lia,CY a.1,rfl⟩) (av (aQ (e_ T) b (ac (aw (aa 1 rfl) ag rfl rfl) aj aD) ⟨ds p.2,rfl,by lia,CY a.2,rfl⟩) a_ a9) a9)) ?_);rw[qN,qN]
def zI:List U->Out->Prop:=λa o=>∃p:P2,a=[pu p]/\p.1.natAbs<10 ^ 300/\p.2.natAbs<10 ^ 300/\o=.val (.str (T' (ptD p)))
theorem iS:OkD P w base T.aaH 2 (zI):=by
 refine okD oQ (by walk_at"ln") ?_;rintro _ _ _ c ⟨p,rfl,d,a,rfl⟩;have l1:=cL (by decide) d;have l2:=cL (by decide) a;have b:(Str.ofString ",").length=1:=rfl;refine ae (aJ (eC (eC (aQ (fh T) c (ac (aw (aa 0 rfl) ag rfl rfl) aj aD) ⟨p.1,rfl,d,rfl⟩) aF (by rw[b,aW];exact La (am (by lia)))) (aQ (fh T) c (ac (aw (aa 0 rfl) ag rfl rfl) aj aD) ⟨p.2,rfl,a,rfl⟩) (by rw[ir,b,aW,aW];exact La (am (by lia)))) ?_);rw[uz];rfl
abbrev sT(x:List Nat):U:=.str (T' x)
def gi:List Nat:=[102,105,101,108,100]
def rY:List Nat:=[102,111,108,100]
def sZ:List Nat:=[115,104,111,119]
def mO:List Nat:=[119,104,101,114,101]
def oo:List Nat:=[116,101,108,108]
def Ef:List U->Out->Prop:=λb o=>∃(w:List Nat) (a:List (List Nat)),b=[sT (jn (w::a))]/\(∀x∈w::a,32 ∉ x)/\(jn (w::a)).length<=8200/\(ij gm (T' w)).isSome=true/\o=.val (.lst ((w::a).map sT))
theorem jz:OkD P w base T.aaT 1 (Ef):=by
 refine okD jf (by walk_at"ln") ?_;rintro _ _ _ g ⟨w,i,rfl,a,e,d,rfl⟩;obtain⟨j,b,f⟩:=T.abq;refine ae (aL (iX (gG (ao (fY (by intro _ h;cases h) (gV _)) rfl T.aad O5 (ac (aa 0 rfl) (ac (Aa rfl T.aaC QY) aj af) af)))) rfl (ay ?_));refine ae (aA 1 jf.nd (EvN.ev (mU (c:=32) (aa 0 rfl) aF aX (sz2 e) rfl)) ?_);rw[vT (by simp) a];refine ae (aL (Ay f rfl b (aw (aa 1 rfl) ag rfl (cQ rfl rfl))) (by rw[d];rfl) (ay ?_));refine ae (aJ (aa 1 rfl) ?_);exact rfl
structure m8(w:List Nat)(ks:List Str):Prop where
 nf:eqW (sT w) (.str "field")=false
 ex:∃x:Str,ij gm (T' w)=some x/\Txt.words x=ks/\x.length<=sizeLine/\(Builtin.Str.spaceWords x (x.length+1)).length<=sizeLine
def kP:Str:=Str.ofString "P"
def ja:Str:=Str.ofString "NEW"
def j6:Str:=Str.ofString "ONE"
def kK:Str:=Str.ofString "K"
theorem GW:m8 rY [ja,j6,kK]:=⟨by decide+kernel,Str.ofString "NEW ONE K",by decide+kernel,by decide+kernel,by decide+kernel,by decide+kernel⟩
theorem HL:m8 sZ [j6]:=⟨by decide+kernel,Str.ofString "ONE",by decide+kernel,by decide+kernel,by decide+kernel,by decide+kernel⟩
theorem EU:m8 mO [j6,kP]:=⟨by decide+kernel,Str.ofString "ONE P",by decide+kernel,by decide+kernel,by decide+kernel,by decide+kernel⟩
theorem Cw:m8 oo [j6,kK,kP]:=⟨by decide+kernel,Str.ofString "ONE K P",by decide+kernel,by decide+kernel,by decide+kernel,by decide+kernel⟩
def jH:List U->Out->Prop:=λc o=>(∃(w:List Nat) (a:List (List Nat)) (b:List Str),c=[.lst ((w::a).map sT)]/\m8 w b/\b.length=a.length/\o=.val (.lst (b.map U.str)))\/∃a:List (List Nat),c=[.lst ((gi::a).map sT)]/\2<=a.length/\a.length<=61/\o=.val (.lst (.str ja::LD (a.length-1) (.str kP)))
theorem o_:OkD P w base T.abm 1 (jH):=by
 refine okD dS (by rintro B o (⟨_,_,_,rfl,_⟩ |⟨_,rfl,_⟩) <;>rfl) ?_;intro _ _ _ l h;obtain⟨A,k,m⟩:=T.abq;rcases h with ⟨w,a,t,rfl,⟨p,x,e,i,u,r⟩,v,rfl⟩ |⟨a,rfl,C,s,rfl⟩
 .refine ae (aA 1 dS.nd (EvN.ev (sO (FN m rfl k (aw (aa 0 rfl) ag rfl (cQ rfl rfl)) e) u r)) ?_);rw[i];have g:(((w::a).map sT).length:Int)=a.length+1:=by simp
  have b:((t.map U.str).length:Int)=a.length:=by rw[KI,v]
  refine ae (aA 2 dS.nd (bo (ao (bj rfl) rfl T.aaa Ld (ac (aa 0 rfl) aj af)) ag) ?_);refine ae (aL (au (bN l) (aw (aa 0 rfl) ag rfl (cQ rfl rfl)) aF) p (ay ?_));refine ae (aL (au tY (ao (bj rfl) rfl T.aaa Ld (ac (aa 1 rfl) aj af)) (aa 2 rfl)) (by rw[g,b];simp) (ay ?_));refine ae (aJ (aa 1 rfl) ?_);exact rfl
 .have e:ij gm (T' gi)=some (Str.ofString "NEW P"):=by decide+kernel
  have i:Txt.words (Str.ofString "NEW P")=[ja,kP]:=by decide+kernel
  refine ae (aA 1 dS.nd (EvN.ev (sO (FN m rfl k (aw (aa 0 rfl) ag rfl (cQ rfl rfl)) e) (by decide+kernel) (by decide+kernel))) ?_);rw[i];have g:(((gi::a).map sT).length:Int)=a.length+1:=by simp
  have b:((([ja,kP]).map U.str).length:Int)=2:=rfl;refine ae (aA 2 dS.nd (bo (ao (bj rfl) rfl T.aaa Ld (ac (aa 0 rfl) aj af)) ag) ?_);rw[g]
  have c:(if 60-1<a.length+1-1-((([ja,kP]).map U.str).length:Int) then 60-1 else a.length+1-1-((([ja,kP]).map U.str).length:Int))=((a.length-2:Nat):Int):=by
   rw[b,if_neg (by lia)];lia
  have d:([ja,kP]).map U.str++LD (a.length-2) (.str kP)=.str ja::LD (a.length-1) (.str kP):=by
   rw[show a.length-1=(a.length-2)+1 by lia,ME];rfl
  refine my (λj=>SubP [some (.val (.lst ((gi::a).map sT))),some (.val (.lst (.str ja::LD (a.length-1) (.str kP)))),some (.val (.int (a.length+1-1))),none] j) (nT (au (bN l) (aw (aa 0 rfl) ag rfl (cQ rfl rfl)) aF) (λy=>?_) (λq=>(ay ?_))) ?hj
  .refine ae (aA 3 dS.nd (bo (aa 2 rfl) (ao (bj rfl) rfl T.aaa Ld (ac (aa 1 rfl) aj af))) ?_);refine ae (aA 1 dS.nd (EvN.ev (mM (aa 1 rfl) (EvN.ev (Gj (EvN.ev (cE (av aF a_ aX))) (ao (Gc rfl) rfl T.aa9 TH (ac (aa 3 rfl) (ac (bo (pT rfl T.aaD) ag) aj be) af)) (by rw[c];lia) (by rw[c];lia) (by rw[c];exact La (am (by lia))))) (by rw[M_,c];exact La (am (by simp;lia))))) (ay ?_));refine⟨rfl,?_,rfl,trivial⟩;refine congrArg (λz=>some (Sl.val (.lst z))) ?_;rw[c,NH];exact d
  .exact absurd q (by decide+kernel)
  case hj=>
   intro j n;refine d9 ?_ n;have f:((U.str ja::LD (a.length-1) (U.str kP)).length:Int)=(a.length:Int)+1-1:=by simp;lia
   refine ae (aL (au tY (ao (bj rfl) rfl T.aaa Ld (ac (aa 1 rfl) aj af)) (aa 2 rfl)) (by rw[f];simp) (ay ?_));refine ae (aJ (aa 1 rfl) ?_);exact rfl
structure Nm(l:List Nat):Prop where
 h1:1<=l.length
 h8:l.length<=8
 az:∀c∈l,97<=c/\c<=122
theorem Nm.free(h:Nm l):32 ∉ l:=λz=>by have:=h.az 32 z;lia
theorem lt1(c d):decide (([c]:List Nat) < [d])=decide (c<d):=by
 refine decide_eq_decide.mpr ⟨λh=>?_,λh=>?_⟩
 .cases h with
  |rel h=>exact h
  |cons h=>cases h
 .exact .rel h
theorem qB{α b:Type}{f:α->b}{l:List α}{j:Nat}{x:b}(h:(l.map f)[j]?=some x):∃c,l[j]?=some c/\c∈l/\x=f c:=by
 rw[K5]at h;obtain⟨c,a,rfl⟩:=Nx.mp h;exact⟨c,a,Lo a,rfl⟩
def Dv:List U->Out->Prop:=λa o=>∃l:List Nat,a=[sT l]/\Nm l/\o=.val .non
theorem qj:OkD P w base T.aaU 1 (Dv):=by
 refine okD gl (by walk_at"ln") ?_;rintro _ _ _ u ⟨l,rfl,g,rfl⟩;have A:=g.h1;have v:=g.h8;have b:(T' l).cps.toList=l:=by simp
 have d:=aW l;refine ae (vD ((T' l).cps.toList.map λc=>some (sg c)) (j:=1) false rfl gl.nd rfl (Or.inl rfl) (blk (ai hW) ["word","letters","sign"] [2] rfl rfl rfl rfl (by decide+kernel)) (EvI.z (Dd (aa 0 rfl))) (λ_ _ _ _=>aB (i:=2) gl.nd rfl (Or.inl rfl)) (bS (by decide)) ?clen ?csz (λ_ _=>trivial) ?ctest ?celt ?_)
 case clen=>simp
 case csz=>simp[b];exact La (am (by lia))
 case ctest=>
  intro C n p r j x o a f;rw[b]at a f;obtain⟨c,e,h,rfl⟩:=qB a;rw[K5,e]at f;cases f;have z:=g.az c h
  have k:(!decide ((⟨#[c]⟩:Str).cps.toList<(Str.ofString "a":Str).cps.toList))=true:=by
   show (!decide (([c]:List Nat) < [97]))=true;rw[lt1,decide_eq_false (by lia)];rfl
  have s:(!decide ((Str.ofString "z":Str).cps.toList<(⟨#[c]⟩:Str).cps.toList))=true:=by
   show (!decide (([122]:List Nat) < [c]))=true;rw[lt1,decide_eq_false (by lia)];rfl
  rw[show (some (sg c)).isSome=((!decide ((⟨#[c]⟩:Str).cps.toList<(Str.ofString "a":Str).cps.toList)) && (!decide ((Str.ofString "z":Str).cps.toList<(⟨#[c]⟩:Str).cps.toList))) by rw[k,s];rfl];exact (Dz F5 F5 aF (aa 2 rfl) aF)
 case celt=>
  intro C n p r j x y a hy;rw[b]at a hy;obtain⟨c,e,h,rfl⟩:=qB a;rw[K5,e]at hy;cases hy;exact (aa 2 rfl)
 have m:((((T' l).cps.toList.map λc=>some (sg c)).filterMap id).length:Int)=(l.length:Int):=by rw[b];simp[Tj]
 refine ae (aL (Tw.t (lG (au eM (ao (hV (by rw[d];exact La (am (by lia)))) rfl T.aaa Ld (ac (aa 0 rfl) aj af)) ag) (λq=>(lG (au e7 (ao (hV (by rw[d];exact La (am (by lia)))) rfl T.aaa Ld (ac (aa 0 rfl) aj af)) (pT rfl T.aat)) (λq=>(jv (au eM (ao (bj rfl) rfl T.aaa Ld (ac (aa 1 rfl) aj af)) (ao (hV (by rw[d];exact La (am (by lia)))) rfl T.aaa Ld (ac (aa 0 rfl) aj af))))))))) (by rw[m,d,decide_eq_false (by lia),decide_eq_false (by lia),decide_eq_false (by lia)];rfl) (ay (ay ?_)));exact rfl
theorem wN:∀{l:List Int},l≠[]->∃M,M∈l/\∀a∈l,a<=M
 |[],h=>absurd rfl h
 |[a],_=>⟨a,K0,λb f=>by simp at f;lia⟩
 |a::b::r,_=>by
  obtain⟨M,g,e⟩:=wN (l:=b::r) (by simp);by_cases h:a<=M
  .exact⟨M,KN _ g,λc d=>by
    rcases KO.mp d with k |k
    .rw[k];exact h
    .exact e c k⟩
  .exact⟨a,K0,λc d=>by
    rcases KO.mp d with k |k
    .rw[k];exact Qe _
    .have:=e c k;lia⟩
def ES:List U->Out->Prop:=λa o=>∃l:List P2,a=[lp l]/\l≠[]/\l.length<=60/\(∀p∈l,B60 p)/\o=.val .non
theorem uO:OkD P w base T.aa8 1 (ES):=by
 refine okD d8 (by walk_at"ln") ?_;rintro _ _ _ E ⟨l,rfl,v,G,h,rfl⟩;refine ae (xg (i:=1) d8.nd rfl (Or.inl rfl) (EvN.ev (mM (xs:=l.map λp=>U.int p.1) (ys:=l.map λp=>U.int p.2) ?eA ?eB (by rw[KI,KI];exact La (am (by lia))))) ?_)
 case eA=>
  refine EvN.ev ?_;refine (bv (ys:=(l.map λ(p:P2)=>U.int p.1)) rfl (blk (ai fj) ["land","numbers","P","number"] [2] rfl rfl rfl rfl (by decide+kernel)) (EvI.z (bL (aa 0 rfl) (.inl rfl))) (λ_ _ _ _=>aB (i:=2) d8.nd rfl (Or.inl rfl)) (bS (by decide)) ?clen ?csz (λ_ _=>trivial) ?celt)
  case clen=>simp
  case csz=>rw[KI];exact La (am (by lia))
  case celt=>
   intro C m o q j x y c hy;obtain⟨p,b,u,rfl,rfl⟩:=bG c hy;exact (aw (aa 2 rfl) ag rfl rfl)
 case eB=>
  refine EvN.ev ?_;refine (bv (ys:=(l.map λ(p:P2)=>U.int p.2)) rfl (blk (ai fj) ["land","numbers","P","number"] [2] rfl rfl rfl rfl (by decide+kernel)) (EvI.z (bL (aa 0 rfl) (.inl rfl))) (λ_ _ _ _=>aB (i:=2) d8.nd rfl (Or.inl rfl)) (bS (by decide)) ?clen ?csz (λ_ _=>trivial) ?celt)
  case clen=>simp
  case csz=>rw[KI];exact La (am (by lia))
  case celt=>
   intro C m o q j x y c hy;obtain⟨p,b,u,rfl,rfl⟩:=bG c hy;exact (aw (aa 2 rfl) ag rfl rfl)
 have d:(l.map λp=>U.int p.1)++(l.map λp=>U.int p.2)=(l.map (·.1)++l.map (·.2)).map U.int:=by rw[LO,Lh,Lh];rfl
 rw[d]
 have A:∀n∈l.map (·.1)++l.map (·.2),n.natAbs<10 ^ 60:=λn a=>by
  rcases LG.mp a with k |k
  .obtain⟨p,b,rfl⟩:=KZ.mp k;exact (h p b).1
  .obtain⟨p,b,rfl⟩:=KZ.mp k;exact (h p b).2
 have B:(l.map (·.1)++l.map (·.2)).length<=120:=by simp;lia
 have a:l.map (·.1)++l.map (·.2)≠[]:=by simp[v]
 generalize l.map (·.1)++l.map (·.2)=L at *;obtain⟨M,g,f⟩:=wN (l:=L.map λn=>(n.natAbs:Int)) (by simp[a])
 have r:M<10 ^ 60:=by
  obtain⟨n,a,rfl⟩:=KZ.mp g;have:=A n a
  exact_mod_cast this
 have s:((l.map pu).length:Int)=(l.length:Int):=by rw[KI]
 have e:(10:Int) ^ (60:Int).toNat=10 ^ 60:=rfl;refine ae (aL (Tw.t (lG (au e7 (ao (bj rfl) rfl T.aaa Ld (ac (aa 0 rfl) aj af)) (pT rfl T.aas)) (λF=>(jv (au Ku (ao (ve rfl (ns:=L.map λn=>(n.natAbs:Int)) ⟨g,f⟩) rfl T.abf UM (ac (EvN.ev (bv (ys:=((L.map λn=>(n.natAbs:Int)).map U.int)) rfl (blk (ai fj) ["land","numbers","P","number"] [3] rfl rfl rfl rfl (by decide+kernel)) (EvI.z (bL (aa 1 rfl) (.inl rfl))) (λ_ _ _ _=>aB (i:=3) d8.nd rfl (Or.inl rfl)) (bS (by decide)) ?clen ?csz (λ_ _=>trivial) ?celt)) aj bF)) (xf ag ag ⟨by decide,by decide,by decide⟩)))))) (by rw[s,decide_eq_false (show ¬ (l.length:Int) >60 by lia),e,decide_eq_false (show ¬ M ≥ 10 ^ 60 by lia)];rfl) (ay (ay ?_)))
 case clen=>simp
 case csz=>rw[KI];exact La (am (by lia))
 case celt=>
  intro C m o q j x y c hy;rw[Lh]at hy;obtain⟨n,a,D,rfl,rfl⟩:=bG c hy;show Ev _ _ _ _ _ (.int (n.natAbs:Int));rw[show (n.natAbs:Int)=(if n<0 then -n else n) by split <;>lia]
  exact (ao nH rfl T.aa2 PyProof.Rows.boot_abs (ac (aa 3 rfl) aj af))
 exact rfl
def ph:List U->Out->Prop:=λb o=>(∃a:List P2,b=[sT gi,lp a]/\(∀p∈a,Szp 5000 p)/\a.length<64/\a≠[]/\o=.new ((aq a).map pu))\/
 ∃(l:List P2) (k:Int),b=[sT rY,.lst [lp l,.int k]]/\j8 [lp l,.int k] (.new ((aq (l.map (scl k))).map pu))/\o=.new ((aq (l.map (scl k))).map pu)
theorem EL:OkD P w base T.abC 6 (ph):=by
 refine okD Er (by rintro e o (⟨_,rfl,_⟩ |⟨_,_,rfl,_⟩) <;>rfl) ?_;intro _ _ _ a h;rcases h with ⟨b,rfl,sz,c,d,rfl⟩ |⟨l,k,rfl,h,rfl⟩
 .refine ae (bY (au (bN a) (aa 0 rfl) aF) (by decide+kernel) ?_);refine ae (c7 (dy (jS T) a (ac (aa 1 rfl) aj af) ⟨b,rfl,sz,c,d,rfl⟩) ?_);exact rfl
 .refine ae (aL (au (bN a) (aa 0 rfl) aF) (by decide+kernel) (ay ?_));refine ae (aL (au (bN a) (aa 0 rfl) aF) (by decide+kernel) (ay ?_));refine ae (bY (au (bN a) (aa 0 rfl) aF) (by decide+kernel) ?_);refine ae (c7 (dy (lO T) a (ac (aw (aa 1 rfl) ag rfl rfl) (ac (aw (aa 1 rfl) ag rfl rfl) aj aD) aD) h) ?_);exact rfl
structure Fit(l:List P2):Prop where
 ne:l≠[]
 hl:l.length<=60
 sz:∀p∈l,Szp 200 p
 b:∀p∈l,B60 p
def plT(n:Int):List Nat:=if n<0 then [111,117,116] else if n >0 then [105,110] else [111,110]
def Bw:List U->Out->Prop:=λa o=>∃(l:List P2) (p:P2),a=[lp l,pu p]/\Fit l/\Szp 400 p/\o=.val (sT (plT (whr l p)))
theorem oG:OkD P w base T.aaI 5 (Bw):=by
 refine okD iY (by walk_at"ln") ?_;rintro _ _ _ c ⟨l,p,rfl,a,b,rfl⟩;have d:=LF.mpr a.ne;have e:=a.hl;refine ae (aA 2 iY.nd (aQ (nA T) c (ac (aa 0 rfl) (ac (aa 1 rfl) aj af) af) ⟨l,p,rfl,d,by lia,qb (by decide) a.sz,b.mono (by decide),rfl⟩) ?_);generalize whr l p=n;unfold plT;by_cases h:n<0
 .refine ae (bY (au eM (aa 2 rfl) ag) (decide_eq_true h) ?_);refine ae (aJ aF ?_);rw[if_pos h];exact rfl
 .refine ae (aL (au eM (aa 2 rfl) ag) (decide_eq_false h) (ay ?_));refine ae (aJ (FD (au e7 (aa 2 rfl) ag) aF aF) ?_);rw[if_neg h];by_cases k:n >0
  .rw[if_pos k,if_pos (decide_eq_true k)];exact rfl
  .rw[if_neg k,if_neg (by simpa using k)];exact rfl
theorem qJ(c):∀(l:List Str) a,(∀x∈l,x.length≤c)→l.foldl (λn x=>n+x.length+(Str.ofString " ":Str).length) a≤a+l.length*(c+1)
 |[],a,_=>by simp
 |x::l,a,h=>by
  have h1:=h x K0;have b:=qJ c l (a+x.length+(Str.ofString " ").length) λy hy=>h y (KN _ hy);have d:(Str.ofString " ").length=1:=rfl;rw[MF,Lk,Va,S8];generalize l.length*(c+1)=z at *;exact Mh b (by lia)
theorem wP{pts:List P2}(h:∀p∈pts,B60 p)(c:pts.length≤61):VU (Str.ofString " ") (pts.map λp=>T' (ptD p))=true:=by
 have a:∀x∈pts.map (λp=>T' (ptD p)),x.length<=123:=λx a=>by
  obtain⟨p,b,rfl⟩:=KZ.mp a;have:=fC (h p b);rw[aW];exact this
 have:=qJ 123 (pts.map λp=>T' (ptD p)) 0 a;unfold VU;rw[<-QS];have e:(pts.map λp=>T' (ptD p)).length*(123+1)<=61*124:=Vs (by rw[KI];exact c) (K1 _)
 have d:Builtin.Str.tooLong ((pts.map λp=>T' (ptD p)).foldl (λn x=>n+x.length+(Str.ofString " ").length) 0)=false:=by
  unfold Builtin.Str.tooLong;rw[MA];exact decide_eq_false (by lia)
 rw[d];rfl
theorem JQ(pts:List P2):(pts.map λp=>sT (ptD p))=(pts.map λp=>T' (ptD p)).map U.str:=by rw[Lh];rfl
theorem Ff(h:B60 p):p.1.natAbs<10 ^ 300/\p.2.natAbs<10 ^ 300:=⟨MG h.1 (by decide+kernel),MG h.2 (by decide+kernel)⟩
def uU:List U->Out->Prop:=λb o=>∃a:List P2,b=[lp a]/\(∀p∈a,B60 p)/\a.length<=61/\o=.val (sT (jn (a.map ptD)))
theorem mQ:OkD P w base T.aaz 3 (uU):=by
 refine okD gN (by walk_at"ln") ?_;rintro _ _ _ e ⟨a,rfl,b,f,rfl⟩;refine ae (aJ (vM (l:=a.map λp=>T' (ptD p)) aF ?ej bF (wP b f)) ?_)
 case ej=>
  rw[<-JQ];refine EvN.ev ?_;refine (bv (ys:=(a.map λp=>sT (ptD p))) rfl (blk (ai fR) ["points","P"] [1] rfl rfl rfl rfl (by decide+kernel)) (EvI.z (bL (aa 0 rfl) (.inl rfl))) (λ_ _ _ _=>aB (i:=1) gN.nd rfl (Or.inl rfl)) (bS (by decide)) ?clen ?csz (λ_ _=>trivial) ?celt)
  case clen=>simp
  case csz=>rw[KI];exact La (am (by lia))
  case celt=>
   intro C h k m j x y d hy;obtain⟨p,g,c,rfl,rfl⟩:=bG d hy;exact (aQ (iS T) e (ac (aa 1 rfl) aj af) ⟨p,rfl,(Ff (b p c)).1,(Ff (b p c)).2,rfl⟩)
 rw[show (a.map λp=>T' (ptD p))=(a.map ptD).map T' by rw[Lh];rfl];refine congrArg (λz=>Out.val (.str z)) ?_;exact Hm (a.map ptD)
def tlD(e:ST3.PQ):List Nat:=ptD e.1++42::ds e.2
theorem rL(h:B60 e.1)(k:e.2.natAbs<10 ^ 60):(tlD e).length<=185:=by
 have b:=fC h;have a:=cL (by decide) k;unfold tlD;rw[LB,Lk];lia
theorem Fj(a b):T' a++(Str.ofString "*":Str)++T' b=T' (a++42::b):=by
 rw[show (Str.ofString "*")=T' [42] from rfl,fN,fN];simp
theorem Cg{z:List ST3.PQ}(h:∀e∈z,B60 e.1∧e.2.natAbs<10 ^ 60)(c:z.length≤3):VU (Str.ofString " ") (z.map λe=>T' (tlD e))=true:=by
 have a:∀x∈z.map (λe=>T' (tlD e)),x.length<=185:=λx a=>by
  obtain⟨e,b,rfl⟩:=KZ.mp a;rw[aW];exact rL (h e b).1 (h e b).2
 have:=qJ 185 (z.map λe=>T' (tlD e)) 0 a;unfold VU;rw[<-QS];have f:(z.map λe=>T' (tlD e)).length*(185+1)<=3*186:=Vs (by rw[KI];exact c) (K1 _)
 have d:Builtin.Str.tooLong ((z.map λe=>T' (tlD e)).foldl (λn x=>n+x.length+(Str.ofString " ").length) 0)=false:=by
  unfold Builtin.Str.tooLong;rw[MA];exact decide_eq_false (by lia)
 rw[d];rfl
def tlT(z:List ST3.PQ):List Nat:=if z=[] then [110,111,110,101] else jn (z.map tlD)
structure Tl(l:List P2)(k:Int)(x:P2)(z:List ST3.PQ):Prop where
 sp:iu [lp l,.int k,pu x] (.new (z.map qU))
 len:z.length<=3
 b:∀e∈z,B60 e.1/\e.2.natAbs<10 ^ 60
def BJ:List U->Out->Prop:=λa o=>∃(l:List P2) (k:Int) (x:P2) (z:List ST3.PQ),a=[lp l,.int k,pu x]/\Tl l k x z/\o=.val (sT (tlT z))
theorem rF:OkD P w base T.aaV 11 (BJ):=by
 refine okD eK (by walk_at"ln") ?_;rintro _ _ _ b ⟨l,k,x,z,rfl,⟨q,r,c⟩,rfl⟩;refine ae (aA 3 eK.nd (EvN.ev (dy (EK T) b (ac (aa 0 rfl) (ac (aa 1 rfl) (ac (aa 2 rfl) aj af) af) af) q)) ?_);have n:((z.map qU).length:Int)=(z.length:Int):=by rw[KI]
 unfold tlT;by_cases h:z=[]
 .rw[if_pos h];refine ae (bY (au bA (ao (bj rfl) rfl T.aaa Ld (ac (aa 3 rfl) aj af)) ag) (by rw[h];rfl) ?_);refine ae (aJ aF ?_);exact rfl
 .have:=LF.mpr h;rw[if_neg h];refine ae (aL (au bA (ao (bj rfl) rfl T.aaa Ld (ac (aa 3 rfl) aj af)) ag) (by rw[n];exact decide_eq_false (by lia)) (ay ?_));refine ae (aJ (vM (l:=z.map λe=>T' (tlD e)) aF ?ej bF (Cg c r)) ?_)
  case ej=>
   rw[show (z.map λe=>T' (tlD e)).map U.str=z.map λe=>sT (tlD e) by rw[Lh];rfl];refine EvN.ev ?_;refine (bv (ys:=(z.map λe=>sT (tlD e))) rfl (blk (ai ik) ["land","k","P","pairs","stake","times"] [4,5] rfl rfl rfl rfl (by decide+kernel)) (EvI.z (bL (aa 3 rfl) (.inl rfl))) (λ_ _ _ _=>c6 rfl (aC (aB (i:=4) eK.nd rfl (Or.inl rfl)) (aC (aB (i:=5) eK.nd rfl (Or.inl rfl)) bO))) (cy (js:=[4,5]) (by decide)) ?clen ?csz ?dom ?celt)
   case clen=>simp
   case csz=>rw[KI];exact La (am (by lia))
   case dom=>
    intro x a;obtain⟨i,o⟩:=Lz.mp a;obtain⟨p,s,t,rfl⟩:=qB o;exact⟨_,rfl,rfl⟩
   case celt=>
    intro C v A B j x y a hy;obtain⟨e,u,m,rfl,rfl⟩:=bG a hy;have d:=(c e m).1;have f:=(c e m).2;have l1:=fC d;have l2:(ds e.2).length<=61:=cL (by decide) f;have g:(Str.ofString "*":Str).length=1:=rfl;show Ev _ _ _ _ _ (.str (T' (tlD e)));rw[show T' (tlD e)=T' (ptD e.1)++(Str.ofString "*":Str)++T' (ds e.2) by rw[Fj];rfl];exact (eC (eC (aQ (iS T) b (ac (aa 4 rfl) aj af) ⟨e.1,rfl,(Ff d).1,(Ff d).2,rfl⟩) aF (by rw[g,aW];exact La (am (by lia)))) (aQ (fh T) b (ac (aa 5 rfl) aj af) ⟨e.2,rfl,MG f (by decide+kernel),rfl⟩) (by rw[ir,g,aW,aW];exact La (am (by lia))))
  rw[show (z.map λe=>T' (tlD e))=(z.map tlD).map T' by rw[Lh];rfl];refine congrArg (λz=>Out.val (.str z)) ?_;exact Hm (z.map tlD)
inductive Ans:List U->List Nat->Prop
 |show_ (l:List P2):Fit l->Ans [sT sZ,.lst [lp l]] (jn (l.map ptD))
 |where_ (l:List P2) (p:P2):Fit l->Szp 400 p->Ans [sT mO,.lst [lp l,pu p]] (plT (whr l p))
 |tell (l:List P2) (k:Int) (x:P2) (z:List ST3.PQ):Tl l k x z->Ans [sT oo,.lst [lp l,.int k,pu x]] (tlT z)
def CK:List U->Out->Prop:=λa o=>∃t:List Nat,Ans a t/\o=.val (sT t)
theorem y4:OkD P w base T.abn 12 (CK):=by
 refine okD zO (by rintro g o ⟨_,h,_⟩;cases h <;>rfl) ?_;intro _ _ _ a h;obtain⟨t,h,rfl⟩:=h;cases h with
 |show_ l c=>
  have f:=c.hl;refine ae (bY (au (bN a) (aa 0 rfl) aF) (by decide+kernel) ?_);refine ae (aJ (aQ (mQ T) a (ac (aw (aa 1 rfl) ag rfl rfl) aj aD) ⟨l,rfl,c.b,by lia,rfl⟩) ?_);exact rfl
 |where_ l p c d=>
  refine ae (aL (au (bN a) (aa 0 rfl) aF) (by decide+kernel) (ay ?_));refine ae (bY (au (bN a) (aa 0 rfl) aF) (by decide+kernel) ?_);refine ae (aJ (aQ (oG T) a (ac (aw (aa 1 rfl) ag rfl rfl) (ac (aw (aa 1 rfl) ag rfl rfl) aj aD) aD) ⟨l,p,rfl,c,d,rfl⟩) ?_);exact rfl
 |tell l k x z e=>
  refine ae (aL (au (bN a) (aa 0 rfl) aF) (by decide+kernel) (ay ?_));refine ae (aL (au (bN a) (aa 0 rfl) aF) (by decide+kernel) (ay ?_));refine ae (bY (au (bN a) (aa 0 rfl) aF) (by decide+kernel) ?_);refine ae (aJ (aQ (rF T) a (ac (aw (aa 1 rfl) ag rfl rfl) (ac (aw (aa 1 rfl) ag rfl rfl) (ac (aw (aa 1 rfl) ag rfl rfl) aj aD) aD) aD) ⟨l,k,x,z,rfl,e,rfl⟩) ?_);exact rfl
inductive Rd (WB:List (Str×U)):Str->Str->U->Prop
 |new (l:List Nat):Nm l->Rd WB ja (T' l) (sT l)
 |one (n:Str) (u:U):L2.valU WB n=some u->Rd WB j6 n u
 |pnt (p:P2):B60 p->Rd WB kP (T' (ptD p)) (pu p)
 |num (k:Int):k.natAbs<10 ^ 60->Rd WB kK (T' (ds k)) (.int k)
def zu:Lm->List (Str×U)->List U->Out->Prop:=λ_ c d o=>∃b a u,d=[.str b,.str a]/\Rd c b a u/\o=.val u
theorem jQ  :cF P w K mg base (CXF P w) 4 T.aak.a T.aak.d ["self","kind","word"] (spD K false T.aac (zu)):=by
 refine jO T.aak.F q_ (λd x v o h=>?_) (λt A f s H y E O a d x v o b h=>?_)
 .obtain⟨e,c,u,rfl,m,rfl⟩:=h;rfl
 obtain⟨e,c,u,rfl,m,rfl⟩:=h;refine Ws.nox ?_;cases m with
 |new l r=>
  refine ae (bY (au (bN b) (aa 1 rfl) aF) (by decide+kernel) ?_);refine ae (km (aQ (qj T) b (ac (aa 2 rfl) aj af) ⟨l,rfl,r,rfl⟩) ?_);refine ae (aJ (aa 2 rfl) ?_);exact rfl
 |one n u g=>
  refine ae (aL (au (bN b) (aa 1 rfl) aF) (by decide+kernel) (ay ?_));refine ae (bY (au (CW rfl rfl rfl) (aa 1 rfl) (bD (av aF (av aF a_ aX) aX))) (by decide+kernel) ?_);refine ae (aL (Ig (i:=0) rfl (nM (i:=0) rfl T.aae T.aau) (aa 2 rfl) (fU b)) (by rw[g];rfl) (ay ?_));refine ae (aJ (HE (i:=0) rfl (nM (i:=0) rfl T.aae T.aau) (aa 2 rfl) (fU b) g) ?_);exact rfl
 |pnt p q=>
  refine ae (aL (au (bN b) (aa 1 rfl) aF) (by decide+kernel) (ay ?_));refine ae (aL (au (CW rfl rfl rfl) (aa 1 rfl) (bD (av aF (av aF a_ aX) aX))) (by decide+kernel) (ay ?_));refine ae (bY (au (bN b) (aa 1 rfl) aF) (by decide+kernel) ?_);refine ae (aJ (aQ (oO T) b (ac (aa 2 rfl) aj af) ⟨p,rfl,q,rfl⟩) ?_);exact rfl
 |num k j=>
  have z:=cL (by decide) j;refine ae (aL (au (bN b) (aa 1 rfl) aF) (by decide+kernel) (ay ?_));refine ae (aL (au (CW rfl rfl rfl) (aa 1 rfl) (bD (av aF (av aF a_ aX) aX))) (by decide+kernel) (ay ?_));refine ae (aL (au (bN b) (aa 1 rfl) aF) (by decide+kernel) (ay ?_));refine ae (aJ (aQ (e_ T) b (ac (aa 2 rfl) aj af) ⟨ds k,rfl,by lia,CY j,rfl⟩) ?_);rw[qN]
def zV:Lm→List (Str×U)→List U→Out→Prop:=λd a b o=>∃(n:Str) (l:List P2),b=[.str n,lp l]∧l≠[]∧l.length≤60∧(∀p∈l,B60 p)∧a.length<1000∧o=.dsk d (.str "ok") (oP a n (lp l))
theorem qx  :cF P w K mg base (CXF P w) 2 T.aag.a T.aag.d ["self","name","land"] (spD K true T.aac (zV)):=by
 refine jO T.aag.F qy (λd p k o h=>?_) (λj A b s H q E O a d p k o c h=>?_)
 .obtain⟨n,l,rfl,f,g,e,m,rfl⟩:=h;rfl
 obtain⟨n,l,rfl,f,g,e,m,rfl⟩:=h;refine Ws.nox ?_;refine ae (km (aQ (uO T) c (ac (aa 2 rfl) aj af) ⟨l,rfl,f,g,e,rfl⟩) ?_);refine ae (GS (i:=0) rfl (nM (i:=0) rfl T.aae T.aau) (aa 1 rfl) (aa 2 rfl) (fU c) (am (by lia)) ?_);refine ae (HX (i:=0) rfl aF ?_);exact rfl
theorem CC(h:∀w∈ws,w.length<=123)(a:ws.length<=62):(jn ws).length<=8200:=by
 have:=vE ws h;lia
structure Row(WB:List (Str×U))(w:List Nat)(ws:List (List Nat))(ks:List Str)(gs:List U):Prop where
 kn:jH [.lst ((w::ws).map sT)] (.val (.lst (ks.map U.str)))
 fr:∀x∈w::ws,32 ∉ x
 ln:∀x∈w::ws,x.length<=123
 nw:ws.length<=61
 l1:ks.length=ws.length
 l2:gs.length=ws.length
 rd:∀(i:Nat) (k:Str) (wd:List Nat) (g:U),ks[i]?=some k->ws[i]?=some wd->gs[i]?=some g->Rd WB k (T' wd) g
 tb:(ij gm (T' w)).isSome=true
 nn:eqW (sT w) (.str "names")=false
 nd:eqW (sT w) (.str "drop")=false
theorem gR:∀a b,a.length=b.length->(dw a b).length=a.length
 |[],[],_=>rfl
 |_::a,_::b,h=>by rw[dw,Lk,gR a b (by simpa using h),Lk]
theorem hJ:∀d c (i:Nat) x,(dw d c)[i]?=some x->∃a b,d[i]?=some a/\c[i]?=some b/\x=.tup [a,b]
 |[],_,i,x,h=>by simp[dw]at h
 |_::_,[],i,x,h=>by simp[dw]at h
 |a::d,b::c,0,x,h=>by cases h;exact⟨a,b,rfl,rfl,rfl⟩
 |a::d,b::c,i+1,x,h=>hJ d c i x h
theorem mF(a)(r):iF (a::r) (some 1) none=r:=by rw[pz];rfl
def fX:Lm→List (Str×U)→List U→Out→Prop:=λ_ e f o=>∃(w:List Nat) (a:List (List Nat)) (c:Str) (d:List Str) (b:List U) (t:List Nat),f=[sT (jn (w::a))]∧Row e w a (c::d) b∧eqW (.str c) (.str "NEW")=false∧Ans [sT w,.lst b] t∧o=.val (sT t)
theorem lU  :cF P w K mg base (CXF P w) 13 T.aab.a T.aab.d ["self","row"] (spD K false T.aac (fX)):=by
 refine jO T.aab.F bC (λd u D o h=>?_) (λB A l s H J E O a d u D o b h=>?_)
 .obtain⟨w,e,r,q,m,t,rfl,R,c,n,rfl⟩:=h;rfl
 obtain⟨w,e,r,q,m,t,rfl,R,c,n,rfl⟩:=h;refine Ws.nox ?_;have L:=R.nw;have l1:=R.l1;have l2:=R.l2;refine ae (aA 2 bC.nd (aQ (jz T) b (ac (aa 1 rfl) aj af) ⟨w,e,rfl,R.fr,CC R.ln (by simp;lia),R.tb,rfl⟩) ?_);refine ae (aA 3 bC.nd (aQ (o_ T) b (ac (aa 2 rfl) aj af) R.kn) ?_);show Ws _ _ _ _ _ _ [some (.dsk false T.aac a d u),some (.val (sT (jn (w::e)))),some (.val (.lst (sT w::e.map sT))),some (.val (.lst ((r::q).map U.str))),none,none,none];refine ae (ff (ys:=m) (j:=4) false rfl bC.nd rfl (Or.inl rfl) (blk (ai gw) ["self","row","words","kinds","given","kind","word"] [5,6] rfl rfl rfl rfl (by decide+kernel)) (l9 rfl T.aa3 (aa 3 rfl) (.inl rfl) (EvN.ev (df (aa 2 rfl) (dr ag) dh (.inl rfl))) (.inl rfl) ?l12 af aD) (λ_ _ _ _=>c6 rfl (aC (aB (i:=5) bC.nd rfl (Or.inl rfl)) (aC (aB (i:=6) bC.nd rfl (Or.inl rfl)) bO))) (cy (js:=[5,6]) (by decide)) ?clen ?csz ?dom ?celt ?_)
 case l12=>rw[mF,KI,KI,l1]
 case clen=>rw[mF,gR _ _ (by rw[KI,KI,l1]),KI,l1,l2]
 case csz=>rw[mF,gR _ _ (by rw[KI,KI,l1]),KI,l1];exact La (am (by lia))
 case dom=>
  rw[mF];intro x g;obtain⟨i,z⟩:=Lz.mp g;obtain⟨_,_,_,_,rfl⟩:=hJ _ _ _ _ z;exact⟨_,rfl,rfl⟩
 case celt=>
  rw[mF];intro C M N Q j x y g hy;obtain⟨_,_,I,v,rfl⟩:=hJ _ _ _ _ g;obtain⟨k,G,_,rfl⟩:=qB I;obtain⟨p,f,_,rfl⟩:=qB v;exact Ae (jQ T) 0 T.aae b rfl (ac (aa 5 rfl) (ac (aa 6 rfl) aj af) af) ⟨k,T' p,y,rfl,R.rd j k p y G f hy,rfl⟩
 refine ae (aL (au (bN b) (aw (aa 2 rfl) ag rfl (cQ (i:=0) rfl rfl)) aF) R.nn (ay ?_));refine ae (aL (au (bN b) (aw (aa 2 rfl) ag rfl (cQ (i:=0) rfl rfl)) aF) R.nd (ay ?_));refine ae (aL (au (bN b) (aw (aa 3 rfl) ag rfl (cQ (i:=0) rfl rfl)) aF) c (ay ?_));refine ae (aJ (aQ (y4 T) b (ac (aw (aa 2 rfl) ag rfl (cQ (i:=0) rfl rfl)) (ac (aa 4 rfl) aj af) aD) ⟨t,n,rfl⟩) ?_);exact rfl
def zE:Lm→List (Str×U)→List U→Out→Prop:=λd a f o=>∃(w y:List Nat) (b:List (List Nat)) (e:List Str) (c:List U) (l:List P2),f=[sT (jn (w::y::b))]∧Row a w (y::b) (ja::e) (sT y::c)∧a.length<1000∧ph [sT w,.lst c] (.new (l.map pu))∧l≠[]∧l.length≤60∧(∀p∈l,B60 p)∧o=.dsk d (.str "ok") (oP a (T' y) (lp l))
theorem xJ  :cF P w K mg base (CXF P w) 13 T.aab.a T.aab.d ["self","row"] (spD K true T.aac (zE)):=by
 refine jO T.aab.F bC (λd G M o h=>?_) (λL A q s H Q E O a d G M o c h=>?_)
 .obtain⟨w,y,f,z,t,l,rfl,R,g,u,B,D,e,rfl⟩:=h;rfl
 obtain⟨w,y,f,z,t,l,rfl,R,g,u,B,D,e,rfl⟩:=h;refine Ws.nox ?_;have I:=R.nw;have l1:=R.l1;have l2:=R.l2;refine ae (aA 2 bC.nd (aQ (jz T) c (ac (aa 1 rfl) aj af) ⟨w,y::f,rfl,R.fr,CC R.ln (by simp;simp at I;lia),R.tb,rfl⟩) ?_);refine ae (aA 3 bC.nd (aQ (o_ T) c (ac (aa 2 rfl) aj af) R.kn) ?_);show Ws _ _ _ _ _ _ [some (.dsk true T.aac a d G),some (.val (sT (jn (w::y::f)))),some (.val (.lst (sT w::(y::f).map sT))),some (.val (.lst ((ja::z).map U.str))),none,none,none];refine ae (ff (ys:=sT y::t) (j:=4) false rfl bC.nd rfl (Or.inl rfl) (blk (ai gw) ["self","row","words","kinds","given","kind","word"] [5,6] rfl rfl rfl rfl (by decide+kernel)) (l9 rfl T.aa3 (aa 3 rfl) (.inl rfl) (EvN.ev (df (aa 2 rfl) (dr ag) dh (.inl rfl))) (.inl rfl) ?l12 af aD) (λ_ _ _ _=>c6 rfl (aC (aB (i:=5) bC.nd rfl (Or.inl rfl)) (aC (aB (i:=6) bC.nd rfl (Or.inl rfl)) bO))) (cy (js:=[5,6]) (by decide)) ?clen ?csz ?dom ?celt ?_)
 case l12=>rw[mF,KI,KI,l1]
 case clen=>rw[mF,gR _ _ (by rw[KI,KI,l1]),KI,l1,l2]
 case csz=>rw[mF,gR _ _ (by rw[KI,KI,l1]),KI,l1];exact La (am (by lia))
 case dom=>
  rw[mF];intro x p;obtain⟨i,J⟩:=Lz.mp p;obtain⟨_,_,_,_,rfl⟩:=hJ _ _ _ _ J;exact⟨_,rfl,rfl⟩
 case celt=>
  rw[mF];intro C S V W j x r p hy;obtain⟨_,_,N,e,rfl⟩:=hJ _ _ _ _ p;obtain⟨k,g,_,rfl⟩:=qB N;obtain⟨v,n,_,rfl⟩:=qB e;exact Ae (jQ T) 0 T.aae c rfl (ac (aa 5 rfl) (ac (aa 6 rfl) aj af) af) ⟨k,T' v,r,rfl,R.rd j k v r g n hy,rfl⟩
 refine ae (aL (au (bN c) (aw (aa 2 rfl) ag rfl (cQ (i:=0) rfl rfl)) aF) R.nn (ay ?_));refine ae (aL (au (bN c) (aw (aa 2 rfl) ag rfl (cQ (i:=0) rfl rfl)) aF) R.nd (ay ?_));refine ae (bY (au (bN c) (aw (aa 3 rfl) ag rfl (cQ (i:=0) rfl rfl)) aF) (by decide+kernel) ?_);refine ae (DQ (i:=0) rfl (vo (i:=0) rfl T.aae T.aag.m ((qx T).mono (by decide)) c T.aag.b kT (ac (aw (aa 2 rfl) ag rfl (cQ (i:=1) rfl rfl)) (ac (EvN.ev (dy (EL T) c (ac (aw (aa 2 rfl) ag rfl (cQ (i:=0) rfl rfl)) (ac (EvN.ev (df (aa 4 rfl) (dr ag) dh (.inl rfl))) aj aD) aD) (by rw[mF];exact u))) aj a9) aD) ⟨T' y,l,rfl,B,D,e,g,rfl⟩) ?_);exact rfl
theorem EN:cF P w K mg base (CXF P w) 1 T.aaf.a T.aaf.d ["self"] (spI T.aac):=
 Ft T.aaf.F rC rfl rfl rfl T.aae T.aau rfl
def cel(ns:List Int)(k:Int):Int:=if k<(ns.length:Int) then ns.getD k.toNat 0 else 7*k*k+3*k+1
theorem kz(h:∀m∈ns,Sz 1048576 m)(a:0<=k)(c:k<1000):Sz 1048576 (cel ns k):=by
 unfold cel;split
 .exact DY h _
 .refine Sz.mono (m:=100) ?_ (by decide)
  have:7*k*k<=7*1000*1000:=by
   have:k*k<=1000*1000:=Int.mul_le_mul (by lia) (by lia) a (by lia);rw[VM];lia
  have b:0<=7*k*k:=LK (by lia) a;unfold Sz;lia
def z8:List U->Out->Prop:=λb o=>∃(a:List Int) (k:Int),b=[.scr (a.map U.int),.int k]/\a.length<=63/\0<=k/\k<1000/\o=.val (.int (cel a k))
theorem cu:OkD P w base T.aaW 1 (z8):=by
 refine okD qC (by walk_at"ln") ?_;rintro _ _ _ h ⟨b,k,rfl,i,f,j,rfl⟩;have g:Sz 64 k:=by unfold Sz;lia
 have c:((b.map U.int).length)=b.length:=by rw[KI]
 refine ae (nT (au eM (aa 1 rfl) (ao (bj rfl) rfl T.aaa Ld (ac (aa 0 rfl) aj af))) (λe=>?_) (λd=>(ay ?_)))
 .rw[c]at e;have a:=dTb e;refine ae (aJ (aw (aa 0 rfl) (aa 1 rfl) rfl (Ba f a)) ?_);exact vIO (by unfold cel;rw[if_pos a])
 .rw[c]at d;have a:=dFb d;refine ae (aJ (cR (cR (aY (aY ag (aa 1 rfl) (by walk_at"mul")) (aa 1 rfl) (by walk_at"mul")) (aY ag (aa 1 rfl) (by walk_at"mul"))) ag) ?_)
  exact vIO (by unfold cel;rw[if_neg a])
def Aq:List U->Out->Prop:=λc o=>∃a b:Int,c=[.int a,.int b]/\o=.val (.int (Ot a b))
theorem AM(a):(if a<0 then -a else a)=(a.natAbs:Int):=by split <;>lia
theorem ly:OkD P w base T.aar 1 (Aq):=by
 refine okD c_ (by walk_at"ln") ?_;rintro _ _ _ f ⟨a,b,rfl,rfl⟩;refine ae (aA 0 c_.nd (ao nH rfl T.aa2 PyProof.Rows.boot_abs (ac (aa 0 rfl) aj af)) ?_);refine ae (aA 1 c_.nd (ao nH rfl T.aa2 PyProof.Rows.boot_abs (ac (aa 1 rfl) aj af)) ?_);rw[AM,AM];refine ae (im (λq:Nat×Nat=>[some (.val (.int q.1)),some (.val (.int q.2))]) (λm q=>m=q.2/\Nat.gcd q.1 q.2=Ot a b) PassesOwn.never ?h0 ?hs)
 case h0=>exact⟨_,(a.natAbs,b.natAbs),⟨rfl,rfl⟩,rfl,rfl,trivial⟩
 case hs=>
  rintro m ⟨x,y⟩ ⟨e,c⟩;refine⟨decide (0<(y:Int)),(au e7 (aa 1 rfl) ag),λh=>?_,λh g d=>?_⟩
  .have hy:=dTb h;refine ae (Iw (i:=0) (j:=1) rfl c_.nd rfl rfl (by decide) rfl rfl (ac (aa 1 rfl) (ac (ft (aa 0 rfl) (aa 1 rfl) (by walk_at"mod")) aj be) af) rfl (ay ?_));refine⟨x%y,(y,x%y),by rw[e];exact NF _ (by lia),⟨rfl,?_⟩,?_,?_,trivial⟩
   .rw[<-c,V5 y,<-Nat.gcd_rec,V5]
   .rfl
   .exact congrArg (λz=>some (Sl.val (.int z))) (by simp)
  .have hy:y=0:=by have:=dFb h;lia
   refine d9 ?_ d;refine ae (aJ (aa 0 rfl) ?_);subst hy;exact vIO (by rw[<-c];simp)
def Am:List U->Out->Prop:=λa o=>∃P Q R:P2,a=[pu P,pu Q,pu R]/\Szp 5000 P/\Szp 5000 Q/\Szp 5000 R/\o=.val (.int (ah P Q R))
theorem eO:OkD P w base T.aaX 1 (Am):=by
 refine okD qZ (by walk_at"ln") ?_;rintro _ _ _ d ⟨P,Q,R,rfl,⟨c,e⟩,⟨g,f⟩,⟨b,a⟩,rfl⟩;refine ae (aJ (bo (aY (bo (aw (aa 1 rfl) ag rfl rfl) (aw (aa 0 rfl) ag rfl rfl)) (bo (aw (aa 2 rfl) ag rfl rfl) (aw (aa 0 rfl) ag rfl rfl)) (by walk_at"mul")) (aY (bo (aw (aa 1 rfl) ag rfl rfl) (aw (aa 0 rfl) ag rfl rfl)) (bo (aw (aa 2 rfl) ag rfl rfl) (aw (aa 0 rfl) ag rfl rfl)) (by walk_at"mul"))) ?_);exact rfl
theorem ju:OkD P w base T.aaY 2 (ot):=by
 refine okD gF (by walk_at"ln") ?_;rintro _ _ _ hr ⟨row,rfl,sz,hl,rfl⟩;refine ae (fT (i:=1) gF.nd rfl (Or.inl rfl) (cE a_) ?_);refine ae (fQ (λst:List P2=>[some (.val (lp row)),some (.own (st.reverse.map pu)),none]) (λi st=>st=ak (row.take i)) rfl PassesOwn.never (bL (aa 0 rfl) (.inl rfl)) ?h0 ?hs ?hd)
 case h0=>exact⟨[],rfl,rfl,rfl,trivial⟩
 case hs=>
  rintro H0 i x _ hx rfl;obtain⟨P,hP,mP,rfl⟩:=uK hx;have hi:=aK hP;have sP:=sz P mP;refine⟨_,(g_ (i:=2) gF.nd rfl (Or.inl rfl)),?_⟩;have len0:=ix row i;refine my (λps=>SubP [some (.val (lp row)),some (.own ((aV P (ak (row.take i))).reverse.map pu)),some (.val (pu P))] ps) (im (λs2:List P2=>[some (.val (lp row)),some (.own (s2.reverse.map pu)),some (.val (pu P))]) (λm s2=>m=s2.length/\aV P s2=aV P (ak (row.take i))/\(∀p∈s2,p∈row)/\s2.length<=i) PassesOwn.never ?h0 ?hs) ?hj
  case h0=>exact⟨_,_,⟨rfl,rfl,λq hq=>f6 row i q hq,len0⟩,rfl,rfl,rfl,trivial⟩
  case hs=>
   rintro m s2 ⟨rfl,e2,sub,len2⟩
   match s2,e2,sub,len2 with
   |[],e2,sub,len2=>
    refine⟨false,?_,λh=>(nomatch h),λh ps WV=>e2 ▸ WV⟩;exact (Tw.t (kH (au e7 (cP 1 rfl rfl T.aaa) ag) rfl))
   |[b],e2,sub,len2=>
    refine⟨false,?_,λh=>(nomatch h),λh ps WV=>e2 ▸ WV⟩;exact (Tw.t (kH (au e7 (cP 1 rfl rfl T.aaa) ag) rfl))
   |b::a::r,e2,sub,len2=>
    have sa:=sz a (sub a (by simp));have sb:=sz b (sub b (by simp));have e1:decide (1<((((b::a::r).reverse.map pu).length:Nat):Int))=true:=decide_eq_true (by simp;lia);refine⟨decide (1<((((b::a::r).reverse.map pu).length:Nat):Int)) && decide (ah a b P<=0),?_,λh=>?_,λh ps WV=>?_⟩
    .exact (Tw.t (wI (au e7 (cP 1 rfl rfl T.aaa) ag) (λhz=>(wc (au JY (aQ (eO T) hr (ac (fq 1 rfl (ce ag) (xh b a r)) (ac (fq 1 rfl (ce ag) (yf b (a::r))) (ac (aa 2 rfl) aj af) aD) aD) ⟨a,b,P,rfl,sa,sb,sP,rfl⟩) ag)))))
    .rw[e1,OF]at h;have hd:=dTb h;refine ae (Cv 1 rfl (by simp) (ay ?_))
     refine⟨_,a::r,?_,⟨rfl,?_,λq hq=>sub q (KN _ hq),?_⟩,rfl,?_,rfl,trivial⟩
     .simp
     .rw[←e2];conv=>rhs;unfold aV
      rw[if_pos hd]
     .simp only[Lk]at *;lia
     .exact congrArg (λl=>some (Sl.own l)) (by simp)
    .rw[e1,OF]at h;have hd:=dFb h
     have e3:aV P (b::a::r)=b::a::r:=by conv=>lhs;unfold aV
                                        rw[if_neg hd]
     rw[<-e2,e3];exact WV
  case hj=>
   intro ps WV;refine d9 ?_ WV;have e4:=gh hP;have len3:=lZ P (ak (row.take i));refine ae (c8 1 rfl (aa 2 rfl) (by rw[KI,L3];exact am (by lia)) (ay ?_));refine⟨_,rfl,rfl,?_,trivial⟩;exact congrArg (λl=>some (Sl.own l)) (by rw[e4];simp)
 case hd=>
  rintro st ps Xd WV;refine d9 ?_ WV;refine ae (gu 1 rfl ?_);rw[Xd];simp
def qY:List U->Out->Prop:=λb o=>∃a:List P2,b=[lp a]/\(∀p∈a,Szp 5000 p)/\a.length<64/\o=.new ((aq a).map pu)
theorem mH(h:(ST.srt pts).length=2):aq pts=ST.srt pts:=by
 obtain⟨a,b,e⟩:=L2.len2 h;unfold aq;rw[e];simp[ak,aV]
theorem lu:OkD P w base T.aaq 3 (qY):=by
 refine okD eo (by walk_at"ln") ?_;rintro _ _ _ d ⟨a,rfl,sz,e,rfl⟩;have l:=ST.srt_len a;have c:(((ST.srt a).map pu).length)=((ST.srt a).length):=by rw[KI]
 have b:=BY sz;by_cases m:(ST.srt a).length<3
 .refine ae (fT (i:=1) eo.nd rfl (Or.inl rfl) (gg rfl (fU d) rfl T.aah rfl T.abp (aa 0 rfl) e af) ?_);refine ae (bY (au eM (cP 1 rfl rfl T.aaa) ag) (by rw[c];exact decide_eq_true (by lia)) ?_);refine ae (gu 1 rfl ?_)
  have h:aq a=ST.srt a:=by
   by_cases f:(ST.srt a).length=2
   .exact mH f
   .exact cw (by lia)
  rw[h]
 .refine ae (aA 1 eo.nd (EvN.ev (gg rfl (fU d) rfl T.aah rfl T.abp (aa 0 rfl) e af)) ?_);refine ae (aL (au eM (ao (bj rfl) rfl T.aaa Ld (ac (aa 1 rfl) aj af)) ag) (by rw[c];exact decide_eq_false (by lia)) (ay ?_));have k:=jg (ST.srt a);have j:=jg (ST.srt a).reverse;rw[L3]at j;refine ae (c7 (mM (EvN.ev (df (EvN.ev (dy (ju T) d (ac (aa 1 rfl) aj af) ⟨ST.srt a,rfl,b,by lia,rfl⟩)) dh (dr (ce ag)) (.inl rfl))) (EvN.ev (df (EvN.ev (dy (ju T) d (ac (EvN.ev (yF rfl rfl T.aal rfl T.aa_ (aa 1 rfl) af)) aj a9) ⟨(ST.srt a).reverse,by rw[lp,Nt],λp g=>b p (Ll.mp g),by rw[L3];lia,rfl⟩)) dh (dr (ce ag)) (.inl rfl))) (by rw[ii,ii,KI,KI,Mz,Mz,L3,L3];exact La (am (by lia)))) ?_)
  unfold aq;rw[if_neg (by lia),ii,ii,<-LO]
def pB(c l:Int):P2:=(c%5,if l%5=1 then (if l/5%3=0 then 2 else if l/5%3=1 then c%5 else 4-c%5) else c/5%5)
theorem B4(c l):(0<=(pB c l).1/\(pB c l).1<=4)/\0<=(pB c l).2/\(pB c l).2<=4:=by
 unfold pB;dsimp only;refine⟨⟨by lia,by lia⟩,?_,?_⟩ <;>(repeat' split) <;>lia
theorem KF(x l):atI ([.int 2,.int x,.int (4-x)]:List U) (l/5%3)=some (.int (if l/5%3=0 then 2 else if l/5%3=1 then x else 4-x)):=by
 have h:l/5%3=0\/l/5%3=1\/l/5%3=2:=by lia
 rcases h with h |h |h <;>rw[h] <;>rfl
def nP(ns:List Int):Nat:=max 6 (min ns.length 60)-4
def asd(ns:List Int):Int:=cel ns 1*982451653%10 ^ (30:Int).toNat-cel ns 2%10 ^ (29:Int).toNat
def slt(ns:List Int):Int:=cel ns 3*48271%41-20
def mvp(ns:List Int)(p:P2):P2:=(p.1+asd ns,p.2+slt ns*p.1-asd ns)
def bsI(ns:List Int)(i:Nat):P2:=pB (cel ns (4+(i:Int))) (cel ns 0)
def gC(ns:List Int):List P2:=(LP (nP ns)).map (bsI ns)
theorem wX(ns):2<=nP ns/\nP ns<=56:=by unfold nP;omega
theorem uS(a:0<m)(h:Sz k m)(z):0<=z%m/\Sz k (z%m):=by
 have b:=PX z (show m≠0 by lia);have c:=OP z a;refine⟨b,?_⟩;unfold Sz at *;lia
theorem AA(ns):Sz 101 (asd ns):=(L2.Sz.sub' (uS (k:=100) (by decide+kernel) (by decide+kernel) _).2 ((uS (k:=97) (by decide+kernel) (by decide+kernel) _).2.mono (n:=100) (by decide))).mono (by decide)
theorem A8(ns):Sz 8 (slt ns):=by unfold slt Sz;lia
def BF:List U->Out->Prop:=λb o=>∃a:List Int,b=[.scr (a.map U.int)]/\a.length<=63/\(∀m∈a,Sz 1048576 m)/\o=.new (((gC a).map (mvp a)).map pu)
theorem Kc(ns:List Int):(if (if (60:Int)<((ns.map U.int).length:Int) then (60:Int) else ((ns.map U.int).length:Int)) >6 then (if (60:Int)<((ns.map U.int).length:Int) then (60:Int) else ((ns.map U.int).length:Int)) else 6)=((max 6 (min ns.length 60):Nat):Int):=by
 rw[KI];split <;>split <;>lia
theorem ox:OkD P w base T.aaA 2 (BF):=by
 refine okD br (by walk_at"ln") ?_;rintro _ _ _ b ⟨a,rfl,c,e,rfl⟩;have f:=Kc a;have D:=wX a;have H:=kz e (k:=0) (by decide) (by decide);have B:=kz e (k:=1) (by decide) (by decide);have C:=kz e (k:=2) (by decide) (by decide);have A:=kz e (k:=3) (by decide) (by decide);have I:=AA a;have v:=A8 a;refine ae (aA 1 br.nd (aQ (cu T) b (ac (aa 0 rfl) (ac ag aj aX) af) ⟨a,_,rfl,c,by decide,by decide,rfl⟩) ?_);refine ae (aA 2 br.nd (bo (ft (aY (aQ (cu T) b (ac (aa 0 rfl) (ac ag aj aX) af) ⟨a,_,rfl,c,by decide,by decide,rfl⟩) ag (by walk_at"mul")) (xf ag ag ⟨by decide,by decide,by decide⟩) (by decide+kernel)) (ft (aQ (cu T) b (ac (aa 0 rfl) (ac ag aj aX) af) ⟨a,_,rfl,c,by decide,by decide,rfl⟩) (xf ag ag ⟨by decide,by decide,by decide⟩) (by decide+kernel))) ?_);refine ae (aA 3 br.nd (bo (ft (aY (aQ (cu T) b (ac (aa 0 rfl) (ac ag aj aX) af) ⟨a,_,rfl,c,by decide,by decide,rfl⟩) ag (by walk_at"mul")) ag (by walk_at"mod")) ag) ?_);show Ws _ _ _ _ _ _ [some (.val (.scr (a.map U.int))),some (.val (.int (cel a 0))),some (.val (.int (asd a))),some (.val (.int (slt a))),none,none,none,none];refine ae (fT (i:=4) br.nd rfl (Or.inl rfl) (cE a_) ?_);refine ae (fQ (λi:Nat=>[some (.val (.scr (a.map U.int))),some (.val (.int (cel a 0))),some (.val (.int (asd a))),some (.val (.int (slt a))),some (.own (((LP i).map λi=>mvp a (bsI a i)).map pu)),none,none,none]) (λi j=>i=j) rfl PassesOwn.never (Ck rfl T.aan (ac ag (ac (ao (Jh rfl) rfl T.abf UM (ac ag (ac (ao (Gc rfl) rfl T.aa9 TH (ac (ao (bj rfl) rfl T.aaa Ld (ac (aa 0 rfl) aj af)) (ac ag aj aX) a9)) aj a9) aX)) aj a9) aX) ⟨by decide,by decide,by rw[f];lia,by rw[f];lia⟩) ?h0 ?hs ?hd)
 case h0=>exact⟨0,rfl,rfl,rfl,rfl,rfl,rfl,trivial⟩
 case hs=>
  rintro u i x _ m rfl;rw[f]at m;obtain⟨F,rfl⟩:=dN m;have t:i<56:=by lia
  refine⟨_,(g_ (i:=5) br.nd rfl (Or.inl rfl)),?_⟩;have y:=kz e (k:=4+(i:Int)) (by lia) (by lia);refine ae (aA 6 br.nd (ft (aQ (cu T) b (ac (aa 0 rfl) (ac (aa 5 rfl) aj af) af) ⟨a,_,rfl,c,by lia,by lia,rfl⟩) ag (by walk_at"mod")) ?_);refine ae (aA 7 br.nd (ft (gP (aQ (cu T) b (ac (aa 0 rfl) (ac (aa 5 rfl) aj af) af) ⟨a,_,rfl,c,by lia,by lia,rfl⟩) ag (by walk_at"div")) ag (by walk_at"mod")) ?_)
  have s:((LP i).map λi=>mvp a (bsI a i)).map pu++[pu (mvp a (bsI a i))]=((LP (i+1)).map λi=>mvp a (bsI a i)).map pu:=by
   rw[PY,LO,LO];rfl
  have d:(((LP i).map λi=>mvp a (bsI a i)).map pu).length<=1000:=by simp;lia
  refine my (λh=>SubP [some (.val (.scr (a.map U.int))),some (.val (.int (cel a 0))),some (.val (.int (asd a))),some (.val (.int (slt a))),some (.own (((LP i).map λi=>mvp a (bsI a i)).map pu)),some (.val (.int (4+(i:Int)))),some (.val (.int (bsI a i).1)),some (.val (.int (bsI a i).2))] h) (nT (au bA (ft (aa 1 rfl) ag (by walk_at"mod")) ag) (λr=>?_) (λp=>(ay ?_))) ?hj
  .refine ae (aA 7 br.nd (aw (EvN.ev (cE (av ag (av (aa 6 rfl) (av (bo ag (aa 6 rfl)) a_ be) af) aX))) (ft (gP (aa 1 rfl) ag (by walk_at"div")) ag (by walk_at"mod")) rfl (KF _ _)) (ay ?_));refine⟨rfl,rfl,rfl,rfl,rfl,rfl,rfl,?_,trivial⟩;exact congrArg (λz=>some (Sl.val (.int z))) (show _=(bsI a i).2 by unfold bsI pB;dsimp only;rw[if_pos (dTb r)])
  .refine⟨rfl,rfl,rfl,rfl,rfl,rfl,rfl,?_,trivial⟩;exact congrArg (λz=>some (Sl.val (.int z))) (show _=(bsI a i).2 by unfold bsI pB;dsimp only;rw[if_neg (dFb p)])
  case hj=>
   intro h g;refine d9 ?_ g;have w:=B4 (cel a (4+(i:Int))) (cel a 0);have G:Sz 8 (bsI a i).1:=by unfold bsI Sz;lia
   have E:Sz 8 (bsI a i).2:=by unfold bsI Sz;lia
   refine ae (c8 4 rfl (bD (av (cR (aa 6 rfl) (aa 2 rfl)) (av (bo (cR (aa 7 rfl) (aY (aa 3 rfl) (aa 6 rfl) (by walk_at"mul"))) (aa 2 rfl)) a_ be) be)) (am d) (ay ?_));refine⟨i+1,rfl,rfl,rfl,rfl,rfl,?_,trivial⟩;exact congrArg (λl=>some (Sl.own l)) s
 case hd=>
  rintro q h o g;refine d9 ?_ g;rw[b_,f]at o;have n:q=nP a:=by unfold nP;lia
  subst n;refine ae (gu 4 rfl ?_);unfold gC;rw[show ((LP (nP a)).map (bsI a)).map (mvp a)=(LP (nP a)).map λi=>mvp a (bsI a i) by rw[Lh];rfl]
def mnV(c:Int):Int:=if c/25%6=1 then 1+c/25*48271%10 ^ (20:Int).toNat else 1+c/25/6%5
theorem Gu(c):1<=mnV c/\Sz 68 (mnV c):=by
 unfold mnV;split
 .have h:=uS (k:=67) (m:=10 ^ (20:Int).toNat) (by decide+kernel) (by decide+kernel) (c/25*48271);exact⟨by lia,(L2.Sz.add' (show Sz 67 (1:Int) from Sz.mono (m:=8) (by decide) (by decide)) h.2).mono (by decide)⟩
 .refine⟨by lia,Sz.mono (m:=8) ?_ (by decide)⟩;unfold Sz;lia
def wm:List U->Out->Prop:=λb o=>∃(a:List Int) (k:Int),b=[.scr (a.map U.int),.int k]/\a.length<=63/\(∀m∈a,Sz 1048576 m)/\0<=k/\k<1000/\o=.val (.int (mnV (cel a k)))
theorem p7:OkD P w base T.aaZ 2 (wm):=by
 refine okD jN (by walk_at"ln") ?_;rintro _ _ _ d ⟨e,k,rfl,f,c,a,b,rfl⟩;have i:=kz c a b;refine ae (aA 2 jN.nd (gP (aQ (cu T) d (ac (aa 0 rfl) (ac (aa 1 rfl) aj af) af) ⟨e,_,rfl,f,a,b,rfl⟩) ag (by walk_at"div")) ?_);refine ae (nT (au bA (ft (aa 2 rfl) ag (by walk_at"mod")) ag) (λh=>?_) (λg=>(ay ?_)))
 .refine ae (aJ (cR ag (ft (aY (aa 2 rfl) ag (by walk_at"mul")) (xf ag ag ⟨by decide,by decide,by decide⟩) (by decide+kernel))) ?_);unfold mnV;rw[if_pos (dTb h)]
 .refine ae (aJ (cR ag (ft (gP (aa 2 rfl) ag (by walk_at"div")) ag (by walk_at"mod"))) ?_);unfold mnV;rw[if_neg (dFb g)]
def Ag:List U->Out->Prop:=λa o=>∃n:Int,a=[sT (ds n)]/\n.natAbs<10 ^ 300/\o=.val (.int n)
theorem Kw:(Str.ofString "0123456789":Str)=T' D10:=rfl
theorem eW:OkD P w base T.aaB 1 (Ag):=by
 refine okD eX (by walk_at"ln") ?_;rintro _ _ _ g ⟨n,rfl,d,rfl⟩;have E:=cL (by decide) d;have C:=rD (by decide) d;obtain⟨p,a⟩:=lX n
 have B:StrLaws.sliceText (T' (ds n)) (some (if eqW (.str (StrLaws.sliceText (T' (ds n)) none (some 1))) (.str (Str.ofString "-"))=true then 1 else 0)) none=T' (ds (n.natAbs:Int)):=by
  have f:StrLaws.sliceText (T' (ds n)) none (some 1)=T' ((ds n).take 1):=HW (ds n) 1
  have s:eqW (.str (T' ((ds n).take 1))) (.str (Str.ofString "-"))=decide (n<0):=by
   rw[eqS];refine decide_eq_decide.mpr ⟨λh=>a.mp ?_,λh=>?_⟩
   .have:=nN (m:=[45]) h;cases e:ds n with
    |nil=>rw[e]at this;cases this
    |cons c r=>rw[e]at this;simp at this;rw[this];rfl
   .have:=a.mpr h;cases e:ds n with
    |nil=>rw[e]at this;cases this
    |cons c r=>rw[e]at this;simp at this;rw[this];rfl
  rw[f,s];by_cases z:n<0
  .rw[decide_eq_true z,if_pos rfl];have:=mI (ds n) 1;rw[show ((1:Nat):Int)=1 from rfl]at this
   rw[this,<-p,jV (a.mpr z)];simp[bJ]
  .rw[decide_eq_false z,if_neg (by simp)];have:=mI (ds n) 0;rw[show ((0:Nat):Int)=0 from rfl]at this
   rw[this,S2,show n=(n.natAbs:Int) by lia];simp
 have l:(T' (ds n)).length<=sizeLine:=by rw[aW];exact La (am (by lia))
 refine ae (aA 1 eX.nd (nK (aa 0 rfl) (dr (cG qF rfl T.aaM Rv (ac (dH (bN g) (nK (aa 0 rfl) dh (dr ag) l) aF) aj wo))) dh l) ?_);rw[B];have j:(T' (ds (n.natAbs:Int))).length<=sizeLine:=by rw[aW];exact La (am (by lia))
 have f:(T' (ds (n.natAbs:Int))).cps.toList=ds (n.natAbs:Int):=by simp
 refine ae (fQ (λ_:Unit=>[some (.val (sT (ds n))),some (.val (sT (ds (n.natAbs:Int)))),none]) (λ_ _=>True) rfl PassesOwn.never (Dd (aa 1 rfl)) ?h0 ?hs ?hd)
 case h0=>exact⟨(),trivial,rfl,rfl,trivial⟩
 case hs=>
  intro G i x _ k _;rw[f]at k;obtain⟨c,D,o,rfl⟩:=qB k;refine⟨_,(g_ (i:=2) eX.nd rfl (Or.inl rfl)),?_⟩
  have v:(!(!(Builtin.Str.occurrences (Str.ofString "0123456789") ⟨#[c]⟩ 0 (Str.ofString "0123456789").length 1).isEmpty))=false:=by
   rw[Kw,in1 D10 c,decide_eq_true ((rc c).mpr (gM _ c o))];rfl
  refine ae (aL (au GR (aa 2 rfl) aF) v (ay (ay ?_)));exact⟨(),trivial,rfl,rfl,trivial⟩
 case hd=>
  intro _ F _ q;refine d9 ?_ q
  have A:eqW (sT (ds (n.natAbs:Int))) (.str (Str.ofString ""))=false:=by
   rw[eqS];exact decide_eq_false λh=>ul n.natAbs (nN (m:=[]) h)
  have u:((T' (ds (n.natAbs:Int))).length:Int)=((ds (n.natAbs:Int)).length:Int):=by rw[aW]
  have b:eqW (.str (Str.ofString (NY n))) (sT (ds n))=true:=by rw[kr,eqS];exact decide_eq_true rfl
  refine ae (aL (Tw.t (lG (au (bN g) (aa 1 rfl) aF) (λy=>(lG (au e7 (ao (hV j) rfl T.aaa Ld (ac (aa 1 rfl) aj af)) ag) (λy=>(jv (au (pS g) (cG (kA (IU d)) rfl T.aaC QY (ac (cG (vF (yc d) (by rw[aW];lia)) rfl T.aaM Rv (ac (aa 0 rfl) aj af)) aj a9)) (aa 0 rfl)))))))) (by rw[A,u,decide_eq_false (by lia),b];rfl) (ay ?_));refine ae (aJ (cG (vF (yc d) (by rw[aW];lia)) rfl T.aaM Rv (ac (aa 0 rfl) aj af)) ?_);exact rfl
def tI:List U->Out->Prop:=λa o=>∃l:List P2,a=[lp l]/\(∀p∈l,B60 p)/\l.length<=61/\o=.val (sT (jn (l.map ptD)))
theorem dY:OkD P w base T.aaL 1 (tI):=by
 refine okD fI (by walk_at"ln") ?_;rintro _ _ _ m ⟨l,rfl,a,k,rfl⟩;refine ae (aJ (vM (l:=l.map λp=>T' (ptD p)) aF ?ej bF (wP a k)) ?_)
 case ej=>
  rw[<-JQ];refine EvN.ev ?_;refine (bv (ys:=(l.map λp=>sT (ptD p))) rfl (blk (ai gd) ["points","x","y"] [1,2] rfl rfl rfl rfl (by decide+kernel)) (EvI.z (bL (aa 0 rfl) (.inl rfl))) (λ_ _ _ _=>c6 rfl (aC (aB (i:=1) fI.nd rfl (Or.inl rfl)) (aC (aB (i:=2) fI.nd rfl (Or.inl rfl)) bO))) (cy (js:=[1,2]) (by decide)) ?clen ?csz ?dom ?celt)
  case clen=>simp
  case csz=>rw[KI];exact La (am (by lia))
  case dom=>
   intro x b;obtain⟨i,h⟩:=Lz.mp b;obtain⟨p,f,c,rfl⟩:=uK h;exact⟨_,rfl,rfl⟩
  case celt=>
   intro C n o q j x y b hy;obtain⟨p,f,c,rfl,rfl⟩:=bG b hy;have a:=a p c;have e:=wv (MG a.1 (show 10 ^ 60<10 ^ 62 by decide+kernel));have g:=wv (MG a.2 (show 10 ^ 60<10 ^ 62 by decide+kernel));have l1:=cL (by decide) a.1;have l2:=cL (by decide) a.2;have d:(Str.ofString ",":Str).length=1:=rfl;show Ev _ _ _ _ _ (.str (T' (ptD p)));rw[show T' (ptD p)=Str.ofString (NY p.1)++(Str.ofString ",":Str)++Str.ofString (NY p.2) by rw[kr,kr,uz];rfl];exact (eC (eC (cG (kA e) rfl T.aaC QY (ac (aa 1 rfl) aj af)) aF (by rw[d,kr,aW];exact La (am (by lia)))) (cG (kA g) rfl T.aaC QY (ac (aa 2 rfl) aj af)) (by rw[ir,d,kr,kr,aW,aW];exact La (am (by lia))))
 rw[show (l.map λp=>T' (ptD p))=(l.map ptD).map T' by rw[Lh];rfl];refine congrArg (λz=>Out.val (.str z)) ?_;exact Hm (l.map ptD)
def yA:List U->Out->Prop:=λa o=>∃e:ST3.PQ,a=[sT (tlD e)]/\B60 e.1/\e.2.natAbs<10 ^ 60/\1<=e.2/\o=.val (qU e)
theorem xk(h:c ∉ p):prt c (p++c::r)=(p,[c],r):=by
 obtain⟨b,a⟩:=FP (r:=r) h;unfold prt;rw[if_pos (by simp),b,a]
theorem qu:OkD P w base T.aa0 2 (yA):=by
 refine okD bV (by walk_at"ln") ?_;rintro _ _ _ a ⟨e,rfl,b,f,m,rfl⟩;have l2:=cL (by decide) b.2;have l:=cL (by decide) f;have d:∀{n:Int},n.natAbs<10 ^ 60->n.natAbs<10 ^ 300:=λh=>MG h (by decide+kernel)
 have i:prt 44 (tlD e)=(ds e.1.1,[44],ds e.1.2++42::ds e.2):=by
  unfold tlD ptD;rw[O9,OK];exact xk (fE _ (by lia))
 have k:prt 42 (ds e.1.2++42::ds e.2)=(ds e.1.2,[42],ds e.2):=xk (fE _ (by lia));refine ae (FT (x6 (c:=44) (aa 0 rfl) aF aX (sz1 (Mh (rL b f) (by decide))) rfl) (xU [1,2,3] rfl (aC (aB bV.nd rfl (Or.inl rfl)) (aC (aB bV.nd rfl (Or.inl rfl)) (aC (aB bV.nd rfl (Or.inl rfl)) bO))) rfl) ?_);rw[i];refine ae (FT (x6 (c:=42) (aa 3 rfl) aF aX (sz1 (by simp;lia)) rfl) (xU [4,5,6] rfl (aC (aB bV.nd rfl (Or.inl rfl)) (aC (aB bV.nd rfl (Or.inl rfl)) (aC (aB bV.nd rfl (Or.inl rfl)) bO))) rfl) ?_);rw[k];have g:∀c,eqW (sT [c]) (.str (Str.ofString ""))=false:=λc=>by rw[eqS];exact decide_eq_false λh=>by have:=nN h;cases this
 refine ae (aL (Tw.t (lG (au (bN a) (aa 2 rfl) aF) (λj=>(jv (au (bN a) (aa 5 rfl) aF))))) (by rw[g,g];rfl) (ay ?_));refine ae (aA 7 bV.nd (EvN.ev (cE (av (aQ (eW T) a (ac (aa 1 rfl) aj af) ⟨e.1.1,rfl,d b.1,rfl⟩) (av (aQ (eW T) a (ac (aa 4 rfl) aj af) ⟨e.1.2,rfl,d b.2,rfl⟩) (av (aQ (eW T) a (ac (aa 6 rfl) aj af) ⟨e.2,rfl,d f,rfl⟩) a_ a9) a9) a9))) ?_);refine ae (aL (Tw.t (lG (au (CW rfl rfl rfl) F3 (aa 7 rfl)) (λj=>(jv (au eM (aw (aa 7 rfl) ag rfl rfl) ag))))) (by rw[decide_eq_false (show ¬ e.2<1 by lia)];rfl) (ay ?_));refine ae (aJ (bD (av (bD (av (aw (aa 7 rfl) ag rfl rfl) (av (aw (aa 7 rfl) ag rfl rfl) a_ aD) aD)) (av (aw (aa 7 rfl) ag rfl rfl) a_ aD) n9)) ?_);exact rfl
structure Ip(l:List P2):Prop where
 len:l.length<=3
 asc:l.Pairwise plt
 two:∀a b,l=[a,b]->Ot (b.1-a.1) (b.2-a.2)=1
 three:∀a b c,l=[a,b,c]->ah a b c=1\/ah a b c=-1
theorem Jp(h:plt a b):ST.leP b a=false:=by
 unfold plt at h;unfold ST.leP;simp;lia
def yD:List U->Out->Prop:=λa o=>∃l:List P2,a=[lp l]/\Ip l/\1<=l.length/\(∀p∈l,Szp 2500 p)/\o=.val (.bl true)
theorem p8:OkD P w base T.aa1 2 (yD):=by
 refine okD jk (by walk_at"ln") ?_;rintro _ _ _ k ⟨l,rfl,⟨n,m,j,h⟩,o,sz,rfl⟩;have f:((l.map pu).length)=l.length:=by rw[KI]
 refine ae (fQ (λ_:Unit=>[some (.val (lp l)),none]) (λ_ _=>True) rfl PassesOwn.never (mR rfl T.aan (ac (bo (ao (bj rfl) rfl T.aaa Ld (ac (aa 0 rfl) aj af)) ag) aj be) (by rw[f];lia) (by rw[f];lia)) ?h0 ?hs ?hd)
 case h0=>exact⟨(),trivial,rfl,trivial⟩
 case hs=>
  rintro A i x _ p _;obtain⟨t,rfl⟩:=dN p;have g:i+1<l.length:=by rw[f]at t;lia
  refine⟨_,(g_ (i:=1) jk.nd rfl (Or.inl rfl)),?_⟩
  have lt:plt (gp l i) (gp l (i+1)):=by
   have:=L0.mp m i (i+1) (by lia) g (by lia);simpa [gp,g,show i<l.length by lia] using this
  refine ae (aL (au (tS (fU k)) (aw (aa 0 rfl) (cR (aa 1 rfl) ag) rfl (io (by lia) g)) (aw (aa 0 rfl) (aa 1 rfl) rfl (io (by lia) (by lia)))) (Jp lt) (ay (ay ?_)));exact⟨(),trivial,rfl,trivial⟩
 case hd=>
  rintro _ z _ q;refine d9 ?_ q
  match l,n,j,h,o,sz,f with
  |[],_,_,_,o,_,_=>simp at o
  |[a],_,_,_,_,_,_=>
   refine ae (aL (au bA (ao (bj rfl) rfl T.aaa Ld (ac (aa 0 rfl) aj af)) ag) rfl (ay ?_));refine ae (aJ (Jb (dH bA (ao (bj rfl) rfl T.aaa Ld (ac (aa 0 rfl) aj af)) ag) rfl) ?_);exact rfl
  |[a,b],_,j,_,_,sz,_=>
   refine ae (bY (au bA (ao (bj rfl) rfl T.aaa Ld (ac (aa 0 rfl) aj af)) ag) rfl ?_);refine ae (aJ (dH bA (aQ (ly T) k (ac (bo (aw (aw (aa 0 rfl) ag rfl rfl) ag rfl rfl) (aw (aw (aa 0 rfl) ag rfl rfl) ag rfl rfl)) (ac (bo (aw (aw (aa 0 rfl) ag rfl rfl) ag rfl rfl) (aw (aw (aa 0 rfl) ag rfl rfl) ag rfl rfl)) aj be) be) ⟨b.1-a.1,b.2-a.2,rfl,rfl⟩) ag) ?_);exact vB (by rw[j a b rfl];rfl)
  |[a,b,c],_,_,h,_,sz,_=>
   have s:=sz a (by simp);have v:=sz b (by simp);have y:=sz c (by simp);refine ae (aL (au bA (ao (bj rfl) rfl T.aaa Ld (ac (aa 0 rfl) aj af)) ag) rfl (ay ?_));refine ae (aJ (Gn (dH bA (ao (bj rfl) rfl T.aaa Ld (ac (aa 0 rfl) aj af)) ag) (λu=>(mV (pK (dH bA (ao (bj rfl) rfl T.aaa Ld (ac (aa 0 rfl) aj af)) ag) (λu=>(mV (dH bA (ao nH rfl T.aa2 PyProof.Rows.boot_abs (ac (aQ (eO T) k (ac (aw (aa 0 rfl) ag rfl rfl) (ac (aw (aa 0 rfl) ag rfl rfl) (ac (aw (aa 0 rfl) ag rfl rfl) aj aD) aD) aD) ⟨a,b,c,rfl,s.mono (by decide),v.mono (by decide),y.mono (by decide),rfl⟩) aj a9)) ag))))))) ?_);refine vB ?_;rcases h a b c rfl with e |e <;>rw[e] <;>rfl
  |a::b::c::d::r,n,_,_,_,_,_=>simp at n
def sN(z:List ST3.PQ):Int:=(z.map (·.2)).sum
def sX(z:List ST3.PQ):Int:=(z.map λe=>e.1.1*e.2).sum
def sY(z:List ST3.PQ):Int:=(z.map λe=>e.1.2*e.2).sum
structure IK(z:List ST3.PQ):Prop where
 len:z.length<=60
 sz:∀e∈z,Szp 300 e.1/\Sz 300 e.2
theorem nD{z:List ST3.PQ}(a:x∈z.map qU):∃e,x=qU e:=by
 obtain⟨e,_,rfl⟩:=KZ.mp a;exact⟨e,rfl⟩
def nB:List U->Out->Prop:=λa o=>∃z:List ST3.PQ,a=[.lst (z.map qU),.int (sN z),pu (sX z,sY z)]/\IK z/\o=.val (.bl true)
theorem oN:OkD P w base T.aaK 1 (nB):=by
 refine okD bH (by walk_at"ln") ?_;rintro _ _ _ k ⟨z,rfl,⟨o,c⟩,rfl⟩;refine ae (aA 3 bH.nd (ao (gQ rfl (ns:=z.map λe=>e.1.1*e.2)) rfl T.aaN Rx (ac (EvN.ev (bv (ys:=((z.map λe=>e.1.1*e.2).map U.int)) rfl (blk (ai dE) ["pairs","many","point","x","spot","times_v","y"] [4,5] rfl rfl rfl rfl (by decide+kernel)) (EvI.z (bL (aa 0 rfl) (.inl rfl))) (λ_ _ _ _=>c6 rfl (aC (aB (i:=4) bH.nd rfl (Or.inl rfl)) (aC (aB (i:=5) bH.nd rfl (Or.inl rfl)) bO))) (cy (js:=[4,5]) (by decide)) ?clen ?csz ?dom ?celt)) aj bF)) ?_)
 case clen=>simp
 case csz=>rw[KI];exact La (am (by lia))
 case dom=>intro x a;obtain⟨e,rfl⟩:=nD a;exact⟨_,rfl,rfl⟩
 case celt=>
  intro C f g h j x y a hy;rw[Lh]at hy;obtain⟨e,d,b,rfl,rfl⟩:=bG a hy;have m:=(c e b).1.1;have l:=(c e b).2;exact (aY (aw (aa 4 rfl) ag rfl rfl) (aa 5 rfl) (by walk_at"mul"))
 refine ae (aA 6 bH.nd (ao (gQ rfl (ns:=z.map λe=>e.1.2*e.2)) rfl T.aaN Rx (ac (EvN.ev (bv (ys:=((z.map λe=>e.1.2*e.2).map U.int)) rfl (blk (ai dE) ["pairs","many","point","x","spot","times_v","y"] [4,5] rfl rfl rfl rfl (by decide+kernel)) (EvI.z (bL (aa 0 rfl) (.inl rfl))) (λ_ _ _ _=>c6 rfl (aC (aB (i:=4) bH.nd rfl (Or.inl rfl)) (aC (aB (i:=5) bH.nd rfl (Or.inl rfl)) bO))) (cy (js:=[4,5]) (by decide)) ?clen ?csz ?dom ?celt)) aj bF)) ?_)
 case clen=>simp
 case csz=>rw[KI];exact La (am (by lia))
 case dom=>intro x a;obtain⟨e,rfl⟩:=nD a;exact⟨_,rfl,rfl⟩
 case celt=>
  intro C f g h j x y a hy;rw[Lh]at hy;obtain⟨e,d,b,rfl,rfl⟩:=bG a hy;have m:=(c e b).1.2;have l:=(c e b).2;exact (aY (aw (aa 4 rfl) ag rfl rfl) (aa 5 rfl) (by walk_at"mul"))
 refine ae (aJ (pK (dH bA (ao (gQ rfl (ns:=z.map λe=>e.2)) rfl T.aaN Rx (ac (EvN.ev (bv (ys:=((z.map λe=>e.2).map U.int)) rfl (blk (ai dE) ["pairs","many","point","x","spot","times_v","y"] [4,5] rfl rfl rfl rfl (by decide+kernel)) (EvI.z (bL (aa 0 rfl) (.inl rfl))) (λ_ _ _ _=>c6 rfl (aC (aB (i:=4) bH.nd rfl (Or.inl rfl)) (aC (aB (i:=5) bH.nd rfl (Or.inl rfl)) bO))) (cy (js:=[4,5]) (by decide)) ?clen ?csz ?dom ?celt)) aj bF)) (aa 1 rfl)) (λn=>(mV (dH (bN k rfl rfl) (bD (av (aa 3 rfl) (av (aa 6 rfl) a_ af) af)) (aa 2 rfl))))) ?_)
 case clen=>simp
 case csz=>rw[KI];exact La (am (by lia))
 case dom=>intro x a;obtain⟨e,rfl⟩:=nD a;exact⟨_,rfl,rfl⟩
 case celt=>
  intro C f g h j x y a hy;rw[Lh]at hy;obtain⟨e,d,b,rfl,rfl⟩:=bG a hy;exact (aa 5 rfl)
 refine vB ?_;show (decide (sN z=sN z) && eqW (pu (sX z,sY z)) (pu (sX z,sY z)))=true;rw[Be];simp
theorem HR{j:Nat}(h:j<l.length):atI (l.map pu) ((0+(j:Int)+1)%((l.map pu).length:Int))=some (pu (nxt l j)):=by
 have e:(0+j+1)%((l.map pu).length)=(((j+1)%l.length:Nat):Int):=by
  rw[KI,Int.zero_add];simp
 rw[e];exact io rfl (NF _ (by lia))
theorem FI(b):atI ([.str (Str.ofString "out"),.str (Str.ofString "on")]:List U) (if b=true then 1 else 0)=some (sT (plT (if b=true then 0 else -1))):=by cases b <;>rfl
theorem Hi(b):atI ([.str (Str.ofString "in"),.str (Str.ofString "on")]:List U) (if b=true then 1 else 0)=some (sT (plT (if b=true then 0 else 1))):=by cases b <;>rfl
def vZ:List U->Out->Prop:=λa o=>∃(l:List P2) (p:P2),a=[lp l,pu p]/\l≠[]/\l.length<=900/\(∀q∈l,Szp 5000 q)/\Szp 5000 p/\o=.val (sT (plT (whr l p)))
theorem FE(h:l.length=1)(p):whr l p=if decide (p=gp l 0)=true then 0 else -1:=by
 unfold whr;rw[if_pos (by lia),h]
 have:btw (gp l 0) (gp l 0) p=decide (p=gp l 0):=by
  generalize gp l 0=g;rw[OA];unfold btw;simp only[MN,decide_eq_true_eq];constructor
  .rintro ⟨_,b,a⟩;unfold ST.leP at b a;simp at b a;exact Mo (by lia) (by lia)
  .intro e;rw[e];refine⟨by unfold ah;grind,?_,?_⟩ <;>(unfold ST.leP;simp)
 rw[show 1-1=0 from rfl,this]
theorem FW(h:l.length=2)(p):whr l p=if btw (gp l 0) (gp l 1) p=true then 0 else -1:=by
 unfold whr;rw[if_pos (by lia),h]
theorem Gk(n):plT (sgn n)=if n<0 then [111,117,116] else plT (if decide (n=0)=true then 0 else 1):=by
 rcases Int.lt_trichotomy n 0 with h |h |h
 .have e:sgn n=-1:=by unfold sgn;rw[if_neg (by lia),if_pos h]
  rw[e,if_pos h];rfl
 .subst h;rfl
 .have e:sgn n=1:=by unfold sgn;rw[if_pos h]
  rw[e,if_neg (by lia),decide_eq_false (by lia)];rfl
theorem iW:OkD P w base T.aaJ 2 (vZ):=by
 refine okD dX (by walk_at"ln") ?_;rintro _ _ _ d ⟨l,p,rfl,s,E,sz,k,rfl⟩;have a:((l.map pu).length:Int)=(l.length:Int):=by rw[KI]
 have c:0<l.length:=LF.mpr s;by_cases u:l.length=1
 .refine ae (bY (au bA (ao (bj rfl) rfl T.aaa Ld (ac (aa 0 rfl) aj af)) ag) (by rw[a];exact decide_eq_true (by lia)) ?_);refine ae (aJ (aw (EvN.ev (cE (av aF (av aF a_ aX) aX))) (cG qF rfl T.aaM Rv (ac (dH (bN d rfl rfl) (aa 1 rfl) (aw (aa 0 rfl) ag rfl (io (i:=0) rfl c))) aj wo)) rfl (FI _)) ?_);rw[FE u,Be]
 .refine ae (aL (au bA (ao (bj rfl) rfl T.aaa Ld (ac (aa 0 rfl) aj af)) ag) (by rw[a];exact decide_eq_false (by lia)) (ay ?_));by_cases t:l.length=2
  .refine ae (bY (au bA (ao (bj rfl) rfl T.aaa Ld (ac (aa 0 rfl) aj af)) ag) (by rw[a];exact decide_eq_true (by lia)) ?_);have b:1<l.length:=by lia
   refine ae (aA 2 dX.nd (pK (dH bA (aQ (eO T) d (ac (aw (aa 0 rfl) ag rfl (io (i:=0) rfl c)) (ac (aw (aa 0 rfl) ag rfl (io (i:=1) rfl b)) (ac (aa 1 rfl) aj af) aD) aD) ⟨_,_,_,rfl,sz _ (dl c),sz _ (dl b),k,rfl⟩) ag) (λh=>(pK (dH (tS (fU d)) (aw (aa 0 rfl) ag rfl (io (i:=0) rfl c)) (aa 1 rfl)) (λh=>(mV (dH (tS (fU d)) (aa 1 rfl) (aw (aa 0 rfl) ag rfl (io (i:=1) rfl b)))))))) ?_);refine ae (aJ (aw (EvN.ev (cE (av aF (av aF a_ aX) aX))) (cG qF rfl T.aaM Rv (ac (aa 2 rfl) aj af)) rfl (FI _)) ?_);rw[FW t];exact rfl
  .refine ae (aL (au bA (ao (bj rfl) rfl T.aaa Ld (ac (aa 0 rfl) aj af)) ag) (by rw[a];exact decide_eq_false (by lia)) (ay ?_));have g:gH l p≠[]:=λe=>by have:=congrArg Pu e;simp[gH,fB]at this;rw[this]at c;simp at c
   have r:whr l p=sgn (ky (gH l p)):=by unfold whr;rw[if_neg (by lia)]
   refine ae (aA 3 dX.nd (ao (vH rfl (bT g)) rfl T.aa9 TH (ac (EvN.ev (bv (ys:=((gH l p).map U.int)) rfl (blk (ai gA) ["land","p","fair","nearest","k"] [4] rfl rfl rfl rfl (by decide+kernel)) (EvI.z (mR rfl T.aan (ac (ao (bj rfl) rfl T.aaa Ld (ac (aa 0 rfl) aj af)) aj a9) (by rw[a];lia) (by rw[a];lia))) (λ_ _ _ _=>aB (i:=4) dX.nd rfl (Or.inl rfl)) (bS (by decide)) ?clen ?csz (λ_ _=>trivial) ?celt)) aj bF)) ?_)
   case clen=>simp[gH,fB,b_]
   case csz=>rw[b_,a];exact La (am (by lia))
   case celt=>
    intro C v A D j x y m hy;obtain⟨B,rfl⟩:=dN m;have f:j<l.length:=by lia
    have h:(j+1)%l.length<l.length:=NF _ (by lia);unfold gH sdl at hy;rw[Lh,Lh,K5,NC f]at hy;cases hy;exact (aQ (eO T) d (ac (aw (aa 0 rfl) (aa 4 rfl) rfl (io (i:=j) (by lia) f)) (ac (aw (aa 0 rfl) (ft (cR (aa 4 rfl) ag) (ao (bj rfl) rfl T.aaa Ld (ac (aa 0 rfl) aj af)) (by rw[a];lia)) rfl (HR f)) (ac (aa 1 rfl) aj af) aD) aD) ⟨_,_,_,rfl,sz _ (dl f),sz _ (dl h),k,rfl⟩)
   rw[r,Gk];generalize ky (gH l p)=n;refine ae (nT (au eM (aa 3 rfl) ag) (λq=>?_) (λo=>(ay ?_)))
   .refine ae (aJ aF ?_);rw[if_pos (dTb q)];exact rfl
   .refine ae (aJ (aw (EvN.ev (cE (av aF (av aF a_ aX) aX))) (cG qF rfl T.aaM Rv (ac (dH bA (aa 3 rfl) ag) aj wo)) rfl (Hi _)) ?_);rw[if_neg (dFb o)]
theorem y_{l m:List Int}(h:l.Perm m):l.sum=m.sum:=by
 induction h with
 |nil=>rfl
 |cons x _ b=>rw[Mg,Mg,b]
 |swap x y l=>simp only[Mg];lia
 |trans _ _ c a=>exact c.trans a
theorem CL(h:l.Nodup):(SG.srt ST3.KQ l).Perm l:=by
 refine (MU ?_ h).mpr λz=>SG.srt_mem _ z l;exact (SG.srt_asc ST3.KQ l).imp λ{a b} h e=>by subst e;rw[SG.irr]at h;cases h
theorem BS(k)(a b d x):dk k b d x+dk k d a x+dk k a b x=k*ah a b d:=by unfold dk ah;grind
theorem Je(k)(a b d x):a.1*dk k b d x+b.1*dk k d a x+d.1*dk k a b x=x.1*ah a b d/\a.2*dk k b d x+b.2*dk k d a x+d.2*dk k a b x=x.2*ah a b d:=by
 unfold dk ah;constructor <;>grind
theorem xP{α:Type}(f:α->Int)(g:α->Int)(h:∀e,g e=0->f e=0):∀l:List α,(∀e∈l,0<=g e)->((l.filter λe=>decide (0<g e)).map f).sum=(l.map f).sum
 |[],_=>rfl
 |e::l,hl=>by
  have ih:=xP f g h l λz a=>hl z (KN _ a);have b:=hl e K0;rw[RE,Lb,Mg];by_cases k:0<g e
  .rw[if_pos (by simpa using k),Lb,Mg,ih]
  .rw[if_neg (by simpa using k),ih,h e (by lia)];lia
theorem E8(h:u1*v2-u2*v1=1\/u1*v2-u2*v1=-1):Ot u1 u2=1:=by
 have b:((Ot u1 u2):Int) ∣ u1:=Pq ..;have a:((Ot u1 u2):Int) ∣ u2:=Pb ..
 have:((Ot u1 u2):Int) ∣ 1:=by
  have e:=QJ (RA (c:=v2) b) (RA (c:=v1) a);rcases h with h |h
  .rwa [h]at e
  .rw[h]at e;exact (Ru).mp e
 have:=Int.eq_one_of_dvd_one (by lia) this;lia
theorem jL(a b d:P2):ah b a d=-ah a b d/\ah a d b=-ah a b d:=by unfold ah;constructor <;>grind
theorem tF(f:ah a b d=1)(h:[p,q,r].Nodup)(hs:∀z∈[p,q,r],z∈[a,b,d]):ah p q r=1\/ah p q r=-1:=by
 have k:ah b a d=-1:=by rw[(jL a b d).1,f]
 have j:ah a d b=-1:=by rw[(jL a b d).2,f]
 have l:ah b d a=1:=by rw[(jL b a d).2,k];rfl
 have s:ah d a b=1:=by rw[(jL a d b).1,j];rfl
 have o:ah d b a=-1:=by rw[(jL b d a).1,l]
 have c:=hs p (by simp);have g:=hs q (by simp);have e:=hs r (by simp);simp only[KO,Ly,or_false]at c g e;simp only[NN,KO,Ly,or_false,not_or,Vo,and_true,not_false_iff]at h;obtain⟨⟨n,m⟩,i⟩:=h;clear hs;rcases c with rfl |rfl |rfl <;>rcases g with rfl |rfl |rfl <;>first |exact absurd rfl n | (rcases e with rfl |rfl |rfl <;>first |exact absurd rfl m |exact absurd rfl i |exact .inl (by assumption) |exact .inr (by assumption))
theorem AN(hd:ah a b d=1)(hn:p≠q)(hp:p∈[a,b,d])(hq:q∈[a,b,d]):Ot (q.1-p.1) (q.2-p.2)=1:=by
 simp only[KO,Ly,or_false]at hp hq;have key:∀r,(ah p q r=1\/ah p q r=-1)->Ot (q.1-p.1) (q.2-p.2)=1:=λr h=>E8 (by unfold ah at h;exact h)
 have nd:[a,b,d].Nodup:=by
  have z1:a≠b:=fun e=>by subst e;have:ah a a d=0:=by unfold ah;grind
                         lia
  have z2:a≠d:=fun e=>by subst e;have:ah a b a=0:=by unfold ah;grind
                         lia
  have z3:b≠d:=fun e=>by subst e;have:ah a b b=0:=by unfold ah;grind
                         lia
  simp[z1,z2,z3]
 have third:∃r∈[a,b,d],r≠p/\r≠q:=by
  simp only[NN,KO,Ly,or_false,not_or]at nd;obtain⟨⟨n1,n2⟩,n3,_⟩:=nd;rcases hp with rfl |rfl |rfl <;>rcases hq with rfl |rfl |rfl
  .exact absurd rfl hn
  .exact⟨d,by simp,Ne.symm n2,Ne.symm n3⟩
  .exact⟨b,by simp,Ne.symm n1,n3⟩
  .exact⟨d,by simp,Ne.symm n3,Ne.symm n2⟩
  .exact absurd rfl hn
  .exact⟨a,by simp,n1,n2⟩
  .exact⟨b,by simp,n3,Ne.symm n1⟩
  .exact⟨a,by simp,n2,n1⟩
  .exact absurd rfl hn
 obtain⟨r,mr,r1,r2⟩:=third;refine key r (tF hd (by simp[hn,Ne.symm r1,Ne.symm r2]) λz hz=>?_);simp only[KO,Ly,or_false]at hz |-;rcases hz with rfl |rfl |rfl
 .exact hp
 .exact hq
 .simpa using mr
structure Jl(c:List P2)(k:Int)(x:P2)(z:List ST3.PQ):Prop where
 n:sN z=k
 x1:sX z=x.1
 y1:sY z=x.2
 len:z.length<=3
 pos:∀e∈z,1<=e.2
 mem:∀e,e∈z↔e∈wts c k x/\0<e.2
 near:Ip (z.map (·.1))
theorem jW(hd:ah a b d=1)(w1:0<=dk k b d x)(w2:0<=dk k d a x)(w3:0<=dk k a b x):Jl [a,b,d] k x (tell [a,b,d] k x):=by
 have z1:a≠b:=fun e=>by subst e;have:ah a a d=0:=by unfold ah;grind
                        lia
 have z2:a≠d:=fun e=>by subst e;have:ah a b a=0:=by unfold ah;grind
                        lia
 have z3:b≠d:=fun e=>by subst e;have:ah a b b=0:=by unfold ah;grind
                        lia
 have hw:wts [a,b,d] k x=[(a,dk k b d x),(b,dk k d a x),(d,dk k a b x)]:=rfl;have ndw:(wts [a,b,d] k x).Nodup:=by rw[hw];simp[z1,z2,z3]
 have nn:∀e∈wts [a,b,d] k x,0<=e.2:=λe he=>by
  rw[hw]at he;simp only[KO,Ly,or_false]at he;rcases he with rfl |rfl |rfl
  .exact w1
  .exact w2
  .exact w3
 have ndf:=ndw.sublist (QK (p:=λz:P2×Int=>decide (0<z.2)));have pm:=CL ndf
 have mem:∀e,e∈tell [a,b,d] k x↔e∈wts [a,b,d] k x/\0<e.2:=λe=>by
  unfold tell;rw[pm.mem_iff,LW];simp
 have sm:∀f:P2×Int->Int,(∀e,e.2=0->f e=0)->((tell [a,b,d] k x).map f).sum=f (a,dk k b d x)+f (b,dk k d a x)+f (d,dk k a b x):=λf hf=>by
  unfold tell;rw[y_ (pm.map f)];have:=xP f (λe=>e.2) hf (wts [a,b,d] k x) nn;rw[this,hw];simp;lia
 have s0:=BS k a b d x;obtain⟨s1,s2⟩:=Je k a b d x;rw[hd]at s0 s1 s2;have asc:=SG.srt_asc ST3.KQ ((wts [a,b,d] k x).filter λz=>decide (0<z.2))
 have sub:∀p∈(tell [a,b,d] k x).map (·.1),p∈[a,b,d]:=λp hp=>by
  obtain⟨e,he,rfl⟩:=KZ.mp hp;have:=((mem e).mp he).1;rw[hw]at this;simp only[KO,Ly,or_false]at this |-;rcases this with rfl |rfl |rfl <;>simp
 have one:∀e∈wts [a,b,d] k x,∀e'∈wts [a,b,d] k x,e.1=e'.1->e=e':=λe he e' he' h=>by
  rw[hw]at he he';simp only[KO,Ly,or_false]at he he';rcases he with rfl |rfl |rfl <;>rcases he' with rfl |rfl |rfl <;>first |rfl |exact absurd h z1 |exact absurd h z2 |exact absurd h z3 |exact absurd h (Ne.symm z1) |exact absurd h (Ne.symm z2) |exact absurd h (Ne.symm z3)
 have pl:((tell [a,b,d] k x).map (·.1)).Pairwise plt:=by
  refine LY.mpr (PF (λ{e e'} he he' h=>?_) asc);have m1:=((mem e).mp he).1;have m2:=((mem e').mp he').1;have h':ST3.ltQ e e'=true:=h;unfold ST3.ltQ at h';by_cases q:e.1=e'.1
  .have:=one e m1 e' m2 q;subst this;simp at h'
  .rw[if_neg q]at h';exact (e8 _ _).mpr h'
 have len:(tell [a,b,d] k x).length<=3:=by
  unfold tell;rw[pm.length_eq];exact Mh (Om _ _) (by rw[hw];simp)
 refine⟨?_,?_,?_,len,λe he=>by have:=((mem e).mp he).2;lia,mem,⟨by rw[KI];exact len,pl,λp q e=>?_,λp q r e=>?_⟩⟩
 .unfold sN;rw[sm (λe=>e.2) λe h=>h];lia
 .unfold sX;rw[sm (λe=>e.1.1*e.2) λe h=>by rw[h];simp];dsimp only;lia
 .unfold sY;rw[sm (λe=>e.1.2*e.2) λe h=>by rw[h];simp];dsimp only;lia
 .rw[e]at pl sub;have ne:p≠q:=λz=>by subst z;exact aM p ((Lu.mp pl).1 p (by simp))
  exact AN hd ne (sub p (by simp)) (sub q (by simp))
 .rw[e]at pl sub;refine tF hd ?_ sub;exact pl.imp λ{a b} h e=>by subst e;exact aM a h
def CX(s k:Int)(x:P2):List P2->Prop
 |b::a::r=>s*dk k a b x<=0/\CX s k x (a::r)
 |_=>True
def Beh(l:List P2)(P x:P2)(k:Int)(u v:P2):Prop:=u∈l/\v∈l/\plt u v/\∃D e b a:Int,0<D/\0<=e/\0<=b/\a<0/\∀c d:P2,D*dk k c d x=a*ah c d P+e*ah c d u+b*ah c d v
theorem fan(hs:s=1\/s=-1){P x:P2}(j:∀q∈l,plt q P):∀g,DW s l g P->∀b r,g=b::r->0<=s*dk k b P x->CX s k x (P::ck s P g)->
  (∃t∈fG s P g,0<=s*dk k t.1 t.2.1 x/\0<=s*dk k t.2.1 t.2.2 x/\0<=s*dk k t.2.2 t.1 x)\/(∃u v,Beh l P x k u v/\0<s*ah u v P)\/(ck s P g=g/\s*dk k b P x<=0)
 |[],D,b,r,e,_,_=>by cases e
 |[c],D,b,r,e,h,f=>by
  cases e;exact .inr (.inr ⟨rfl,f.1⟩)
 |b::a::r',D,c,r,e,h,f=>by
  cases e;by_cases h0:0<s*ah a b P
  .have nx:=rA hs j D h0;have i:∀c d:P2,s*ah a b P*dk k c d x=s*dk k a b x*ah c d P+s*dk k b P x*ah c d a+s*dk k P a x*ah c d b:=λc d=>by unfold dk ah;grind
   have o:s*dk k P a x=-(s*dk k a P x):=by unfold dk;grind
   rw[ck,if_pos h0]at f;rw[ck,fG,if_pos h0,if_pos h0];by_cases p:s*dk k a P x<=0
   .by_cases n:0<=s*dk k a b x
    .exact .inl ⟨(a,b,P),by simp,n,h,by dsimp only;omega⟩
    .exact .inr (.inl ⟨a,b,⟨D.sub a (by simp),D.sub b (by simp),D.desc.1,_,_,_,_,h0,h,(show 0<=s*dk k P a x by omega),(show s*dk k a b x<0 by omega),i⟩,h0⟩)
   .rcases fan hs j (a::r') nx a r' rfl (by omega) f with ⟨t,m,z⟩ |z |⟨_,z⟩
    .exact .inl ⟨t,KN _ m,z⟩
    .exact .inr (.inl z)
    .omega
  .rw[ck,if_neg h0]at f |-;exact .inr (.inr ⟨rfl,f.1⟩)
theorem xV{P x u v:P2}(B:Beh l P x k u v):∀c,yK s l c->CX s k x (ck s P c)->CX s k x c
 |[],_,_=>trivial
 |[_],_,_=>trivial
 |b::a::r,C,h=>by
  by_cases h0:0<s*ah a b P
  .rw[ck,if_pos h0]at h;refine⟨?_,xV B (a::r) C.2 h⟩;obtain⟨f,mv,_,D,o,n,d,m,q,g,t,p⟩:=B;have i:=(C.1 u f).1;have j:=(C.1 v mv).1
   have e:D*(s*dk k a b x)=d*(s*ah a b P)+o*(s*ah a b u)+n*(s*ah a b v):=by
    grind
   have w:=Mb q i;have y:=Mb g j;have A:=MZ t h0;rcases L9 0 (s*dk k a b x) with z |z
   .have:=L5 m z;lia
   .exact z
  .rw[ck,if_neg h0]at h;exact h
theorem qG(h:plt a b)(h':plt a' b')(d:ah a b a'=0)(f:ah a b b'=0):∃p q,0<p/\0<q/\∀k x,p*dk k a' b' x=q*dk k a b x:=by
 have l1:=aG h;have l2:=aG h';have c:(b.1-a.1) *(b'.2-a'.2)=(b.2-a.2) *(b'.1-a'.1):=by unfold ah at d f;grind
 have i:(b.1-a.1) *(a'.2-a.2)=(b.2-a.2) *(a'.1-a.1):=by unfold ah at d;grind
 unfold b8 at l1 l2;rcases l1 with z |⟨z,g⟩
 .have w:0<b'.1-a'.1:=by
   rcases l2 with y |⟨y,e⟩
   .exact y
   .rw[y,Nd]at c;have:=L5 z e;lia
  refine⟨b.1-a.1,b'.1-a'.1,z,w,λk x=>?_⟩;unfold dk;grind
 .have y:b'.1-a'.1=0:=by
   rw[z,Na]at c;rcases LR.mp c.symm with y |y
   .lia
   .exact y
  have w:0<b'.2-a'.2:=by lia
  refine⟨b.2-a.2,b'.2-a'.2,g,w,λk x=>?_⟩;unfold dk;grind
theorem cD(a b q):dk 1 a b q=ah a b q:=by unfold dk ah;grind
theorem Fr:∀row,row.Pairwise plt->(∀s,s=1\/s=-1->CX s k x (bp s row).1)->
  (∃s t,(s=1\/s=-1)/\t∈(bp s row).2/\0<=s*dk k t.1 t.2.1 x/\0<=s*dk k t.2.1 t.2.2 x/\0<=s*dk k t.2.2 t.1 x)\/∃b P,plt b P/\(∀q∈row,ah b P q=0):=by
 refine ig (λ_ _=>.inr ⟨(0,0),(1,0),by unfold plt;simp,λq g=>by cases g⟩) λl P ih Y hx=>?_;obtain⟨G,hP⟩:=eZ Y;by_cases o:l=[]
 .subst o;refine .inr ⟨P,(P.1+1,P.2),.inl (by dsimp only;lia),λq g=>?_⟩;have:q=P:=by simpa using g
  subst this;unfold ah;grind
 have X:l=l.dropLast++[l.getLast o]:=(N0 o).symm;have U:l.getLast o∈l:=List.getLast_mem o;have Zh:=hP _ U;generalize l.getLast o=d at *
 have H:∀s,(bp s l).1.head?=some d:=λs=>by
  have:=qO s l.dropLast d
  rwa [<-X]at this
 have top:∀q∈l,¬ plt d q:=λq g=>by
  rw[X]at G g;rcases LG.mp g with z |z
  .have:=(eZ G).2 q z;unfold plt at *;lia
  .rw[K9.mp z];unfold plt;lia
 have L:∀s,s=1\/s=-1->KW s l (bp s l).1:=λs a=>ux a l G o
 have DS:∀s,s=1\/s=-1->DW s l (bp s l).1 P:=λs a=>⟨L s a,λh r e q g WK=>by
  have:=H s;rw[e]at this;cases this;exact absurd WK (top q g)⟩
 have E:∀s,s=1\/s=-1->CX s k x (P::ck s P (bp s l).1):=λs a=>by
  have:=hx s a;rw[cV]at this;exact this
 have A:∀s,s=1\/s=-1->0<=s*dk k d P x->(∃t∈fG s P (bp s l).1,0<=s*dk k t.1 t.2.1 x/\0<=s*dk k t.2.1 t.2.2 x/\0<=s*dk k t.2.2 t.1 x)\/(∃u v,Beh l P x k u v/\0<s*ah u v P)\/(ck s P (bp s l).1=(bp s l).1/\s*dk k d P x<=0):=λs a h=>by
  have j:=H s;cases e:(bp s l).1 with
  |nil=>rw[e]at j;cases j
  |cons c r=>
   rw[e]at j;cases j;have D:=DS s a;have c:=E s a;rw[e]at D c;exact fan a hP (d::r) D d r rfl h c
 have n:∀s,s=1\/s=-1->(∃t∈fG s P (bp s l).1,0<=s*dk k t.1 t.2.1 x/\0<=s*dk k t.2.1 t.2.2 x/\0<=s*dk k t.2.2 t.1 x)->∃s t,(s=1\/s=-1)/\t∈(bp s (l++[P])).2/\0<=s*dk k t.1 t.2.1 x/\0<=s*dk k t.2.1 t.2.2 x/\0<=s*dk k t.2.2 t.1 x:=λs a ⟨t,M,z⟩=>⟨s,t,a,by
  rw[cV];exact Lv _ M,z⟩
 have i:∀s,s=1\/s=-1->(∃u v,Beh l P x k u v/\0<s*ah u v P)->∃s t,(s=1\/s=-1)/\t∈(bp s (l++[P])).2/\0<=s*dk k t.1 t.2.1 x/\0<=s*dk k t.2.1 t.2.2 x/\0<=s*dk k t.2.2 t.1 x:=λs a z9=>by
  obtain⟨u,v,B,hD⟩:=z9
  have C:∀s,s=1\/s=-1->CX s k x (bp s l).1:=λs a=>xV B _ (L s a).cov (by
   have:=E s a;cases e:ck s P (bp s l).1 with
   |nil=>trivial
   |cons c r=>rw[e]at this;exact this.2)
  rcases ih G C with ⟨s',t,X8,M,z⟩ |⟨b,c,F,I⟩
  .exact⟨s',t,X8,by rw[cV];exact LI _ M,z⟩
  .exfalso
   obtain⟨O,mv,m,D,α,β,γ,hD0,ha,hb,hg,Q⟩:=B;have Xm:-s=1\/-s=-1:=by lia
   have p:=L (-s) Xm;have S:=C (-s) Xm;have h02:=H (-s)
   match e:(bp (-s) l).1,h02,p,S with
   |[],h02,_,_=>cases h02
   |[z],h02,p,_=>
    cases h02;rcases fD u d with z |z |z
    .exact p.bot d rfl u O z
    .rw[z]at m;exact top v mv m
    .exact top u O z
   |z::a'::r,h02,p,S=>
    cases h02;have N:=p.sub a' (by simp);obtain⟨p1,V,R,Ze,L1⟩:=qG F m (I u O) (I v mv);obtain⟨T,q2,hp2,YU,L2⟩:=qG F p.desc.1 (I a' N) (I d U);have c2:=S.1;have Z:=Q u v;rw[(i5 u v P).1,(i5 u v P).2.1]at Z
    have e1:D*(s*dk k u v x)=γ*(s*ah u v P):=by
     have:=congrArg (λz=>s*z) Z;grind
    have n1:=MZ hg hD
    have n2:s*dk k u v x<0:=by
     rcases L9 (s*dk k u v x) 0 with z |z
     .exact z
     .have:=LK (show 0<=D by lia) z;lia
    have W:V*(s*dk k b c x)=p1*(s*dk k u v x):=by have:=congrArg (λz=>s*z) (L1 k x);grind
    have f2:q2*(s*dk k b c x)=-(T*(-s*dk k a' d x)):=by have:=congrArg (λz=>s*z) (L2 k x);grind
    have m1:s*dk k b c x<0:=by
     rcases L9 (s*dk k b c x) 0 with z |z
     .exact z
     .have g1:=LK (show 0<=V by lia) z;have g2:=Pj R n2;lia
    have g1:=Pj YU m1;have g2:=Mb (show 0<=T by lia) c2;lia
 have YX:ck 1 P (bp 1 l).1=(bp 1 l).1->ck (-1) P (bp (-1) l).1=(bp (-1) l).1->∃b c,plt b c/\∀q∈l++[P],ah b c q=0:=λW f2=>by
  refine⟨d,P,Zh,λq g=>?_⟩
  have le:∀s,s=1\/s=-1->ck s P (bp s l).1=(bp s l).1->s*ah d P q<=0:=λs a f=>by
   have K:=ux a (l++[P]) Y (by simp);rw[cV]at K;have J:KW s (l++[P]) (P::ck s P (bp s l).1):=K;rw[f]at J;have j:=H s;cases e:(bp s l).1 with
   |nil=>rw[e]at j;cases j
   |cons c r=>
    rw[e]at j J;cases j;exact (J.cov.1 q g).1
  have a1:=le 1 (.inl rfl) W;have a2:=le (-1) (.inr rfl) f2;lia
 have go:∀s,s=1\/s=-1->0<=s*dk k d P x->(∃s t,(s=1\/s=-1)/\t∈(bp s (l++[P])).2/\0<=s*dk k t.1 t.2.1 x/\0<=s*dk k t.2.1 t.2.2 x/\0<=s*dk k t.2.2 t.1 x)\/(ck s P (bp s l).1=(bp s l).1/\s*dk k d P x<=0):=λs a h=>by
  rcases A s a h with z |z |z
  .exact .inl (n s a z)
  .exact .inl (i s a z)
  .exact .inr z
 rcases L9 (dk k d P x) 0 with z |z
 .rcases go (-1) (.inr rfl) (by lia) with y |⟨_,y⟩
  .exact .inl y
  .lia
 .rcases go 1 (.inl rfl) (by lia) with y |⟨y1,y⟩
  .exact .inl y
  .rcases go (-1) (.inr rfl) (by lia) with w |⟨w1,_⟩
   .exact .inl w
   .exact .inr (YX y1 w1)
theorem nq{α:Type}{p:α->Bool}:∀{L},(∃x∈L,p x=true)->∃u q v,L=u++q::v/\(∀r∈u,p r=false)/\p q=true
 |[],⟨x,b,_⟩=>by cases b
 |a::L,⟨x,b,h⟩=>by
  cases ha:p a with
  |true=>exact⟨[],a,L,rfl,(λr c=>by cases c),ha⟩
  |false=>
   have XX:x∈L:=by
    rcases KO.mp b with e |e
    .subst e;rw[ha]at h;cases h
    .exact e
   obtain⟨u,q,v,e,f,d⟩:=nq ⟨x,XX,h⟩;refine⟨a::u,q,v,by rw[e];rfl,λr c=>?_,d⟩;rcases KO.mp c with e |e
   .rw[e];exact ha
   .exact f r e
theorem qq(a b):∀z,dk (sN z) a b (sX z,sY z)=(z.map λe=>e.2*ah a b e.1).sum
 |[]=>by unfold dk sN sX sY;simp
 |e::z=>by
  have ih:=qq a b z;have c:sN (e::z)=e.2+sN z:=by unfold sN;simp
  have f:sX (e::z)=e.1.1*e.2+sX z:=by unfold sX;simp
  have d:sY (e::z)=e.1.2*e.2+sY z:=by unfold sY;simp
  rw[Lb,Mg,<-ih,c,f,d];unfold dk ah;grind
theorem AO{α:Type}{f:α->Int}:∀{l:List α},(∀e∈l,f e<=0)->(l.map f).sum<=0
 |[],_=>by simp
 |e::l,h=>by
  have ih:=AO λz a=>h z (KN _ a);have:=h e K0;rw[Lb,Mg];lia
theorem w6(c:∀e∈z,e.1∈row/\0<=e.2):∀d,yK s row d->CX s (sN z) (sX z,sY z) d
 |[],_=>trivial
 |[_],_=>trivial
 |b::a::r,C=>by
  refine⟨?_,w6 c (a::r) C.2⟩;rw[qq]
  have e:s*(z.map λe=>e.2*ah a b e.1).sum=(z.map λe=>e.2*(s*ah a b e.1)).sum:=by
   clear c C
   induction z with
   |nil=>simp
   |cons e z g=>simp only[Lb,Mg];rw[Int.mul_add,g];grind
  rw[e];refine AO λe f=>?_;exact Mb (c e f).2 (C.1 e.1 (c e f).1).1
theorem Du(h:plt b c)(a:ah b c p=0)(e:ah b c q=0)(d:ah b c r=0):ah p q r=0:=by
 have l:=aG h
 have f:(c.1-b.1) *ah p q r=0/\(c.2-b.2) *ah p q r=0:=by
  unfold ah at *;constructor <;>grind
 rcases l with z |⟨z,g⟩
 .exact (LR.mp f.1).resolve_left (by lia)
 .exact (LR.mp f.2).resolve_left (by lia)
structure GV(l:List P2)(t:ST3.TR):Prop where
 d:ah t.1 t.2.1 t.2.2=1
 c:aq [t.1,t.2.1,t.2.2]=[t.1,t.2.1,t.2.2]
 m1:t.1∈aU l
 m2:t.2.1∈aU l
 m3:t.2.2∈aU l
theorem Dr(F:Fld l)(q:3<=l.length)(hs:s=1\/s=-1)(e:t∈(bp s (aU l)).2):TOk s (aU l) t/\s*ou t=1/\cj t∈pcs l/\GV l (cj t)/\
  ∀k x,(0<=s*dk k t.1 t.2.1 x/\0<=s*dk k t.2.1 t.2.2 x/\0<=s*dk k t.2.2 t.1 x)↔(0<=dk k (cj t).1 (cj t).2.1 x/\0<=dk k (cj t).2.1 (cj t).2.2 x/\0<=dk k (cj t).2.2 (cj t).1 x):=by
 have g:=cC l;have T:=fF hs _ g t e;have u:=Ex hs g (zG F q) t e;have d:s*ou t=1:=by rcases hs with rfl |rfl <;>lia
 have i:cj t∈pcs l:=by
  refine KZ.mpr ⟨t,?_,rfl⟩;rcases hs with rfl |rfl
  .exact LI _ e
  .exact Lv _ e
 obtain⟨j,p,m⟩:=B6 i;have n:=sD T.ab T.bP (λz=>by unfold ou at d;rw[z]at d;simp at d)
 have o:aq [(cj t).1,(cj t).2.1,(cj t).2.2]=[(cj t).1,(cj t).2.1,(cj t).2.2]:=by
  have:=j_ [t.1,t.2.1,t.2.2];rw[n]at this;exact this
 have f:∀k a b x,dk k a b x=-dk k b a x:=λk a b x=>by unfold dk;grind
 refine⟨T,d,i,⟨?_,o,j,p,m⟩,λk x=>?_⟩
 .unfold cj;unfold ou at d;split
  .rename_i h
   dsimp only;rcases hs with rfl |rfl <;>lia
  .rename_i h
   have:ah t.1 t.2.2 t.2.1=-ah t.1 t.2.1 t.2.2:=by unfold ah;grind
   rcases hs with rfl |rfl <;>dsimp only <;>lia
 .unfold cj;unfold ou at d;have v:=f k t.1 t.2.1 x;have r:=f k t.2.1 t.2.2 x;have w:=f k t.2.2 t.1 x;split
  .rename_i h
   have:s=1:=by rcases hs with rfl |rfl <;>lia
   subst this;dsimp only;constructor <;>intro ⟨a,b,c⟩ <;>refine⟨?_,?_,?_⟩ <;>lia
  .rename_i h
   have:s=-1:=by rcases hs with rfl |rfl <;>lia
   subst this;dsimp only;constructor <;>intro ⟨a,b,c⟩ <;>refine⟨?_,?_,?_⟩ <;>lia
theorem C6(F:Fld l)(j:3<=l.length){T:ST3.TR}(h:T∈pcs l):GV l T/\∀p∈aU l,0<=ah T.1 T.2.1 p->0<=ah T.2.1 T.2.2 p->0<=ah T.2.2 T.1 p->p=T.1\/p=T.2.1\/p=T.2.2:=by
 obtain⟨t,b,rfl⟩:=KZ.mp h
 have a:∀s,s=1\/s=-1->t∈(bp s (aU l)).2->GV l (cj t)/\∀p∈aU l,0<=ah (cj t).1 (cj t).2.1 p->0<=ah (cj t).2.1 (cj t).2.2 p->0<=ah (cj t).2.2 (cj t).1 p->p=(cj t).1\/p=(cj t).2.1\/p=(cj t).2.2:=λs c b=>by
  obtain⟨T,k,_,R,g⟩:=Dr F j c b;refine⟨R,λp d f e i=>?_⟩;have:=(g 1 p).mpr (by rw[cD,cD,cD];exact⟨f,e,i⟩);rw[cD,cD,cD]at this;have v:=j9 c T d this.1 this.2.1 this.2.2;unfold cj;split <;>dsimp only <;>grind
 rcases LG.mp b with z |z
 .exact a 1 (.inl rfl) z
 .exact a (-1) (.inr rfl) z
theorem lR{T:ST3.TR}(d:0<k)(f:aq [T.1,T.2.1,T.2.2]=[T.1,T.2.1,T.2.2]):inK k [T.1,T.2.1,T.2.2] x=true↔0<=dk k T.1 T.2.1 x/\0<=dk k T.2.1 T.2.2 x/\0<=dk k T.2.2 T.1 x:=by
 have e:aq ([T.1,T.2.1,T.2.2].map (scl k))=[scl k T.1,scl k T.2.1,scl k T.2.2]:=by rw[jD (qk d) (xq d),f];rfl
 have j:∀a b:P2,ah (scl k a) (scl k b) x=k*dk k a b x:=λa b=>by unfold scl ah dk;grind
 have ds:gH [scl k T.1,scl k T.2.1,scl k T.2.2] x=[k*dk k T.1 T.2.1 x,k*dk k T.2.1 T.2.2 x,k*dk k T.2.2 T.1 x]:=by
  unfold gH sdl nxt;simp[PY,gp,j]
 unfold inK;rw[e];unfold whr;rw[if_neg (by simp),ds,decide_eq_true_iff];have ok:=bT (l:=[k*dk k T.1 T.2.1 x,k*dk k T.2.1 T.2.2 x,k*dk k T.2.2 T.1 x]) (by simp);have sg:∀n:Int,-1<sgn n↔0<=n:=λn=>by unfold sgn;split <;>(try split) <;>lia
 rw[sg]
 have c:∀{y:Int},0<=k*y↔0<=y:=λ{y}=>⟨λh=>by
  rcases L9 y 0 with z |z
  .have:=Pj d z;lia
  .exact z,λh=>LK (by lia) h⟩
 constructor
 .intro h;refine⟨c.mp (NS h (ok.2 _ (by simp))),c.mp (NS h (ok.2 _ (by simp))),c.mp (NS h (ok.2 _ (by simp)))⟩
 .rintro ⟨o,g,i⟩;have m:=ok.1;generalize ky [k*dk k T.1 T.2.1 x,k*dk k T.2.1 T.2.2 x,k*dk k T.2.2 T.1 x]=w at *;simp only[KO,Ly,or_false]at m;rcases m with rfl |rfl |rfl
  .exact c.mpr o
  .exact c.mpr g
  .exact c.mpr i
theorem KD(F:Fld l)(h:3<=l.length)(r:∀e∈z,e.1∈aU l/\0<=e.2)(x:0<sN z):∃T∈pcs l,inK (sN z) [T.1,T.2.1,T.2.2] (sX z,sY z)=true:=by
 have f:=cC l;have a:=F.cr;obtain⟨Z,P,B,y,v,q,_⟩:=xX (by rw[a];exact h) 0 1;have g:=c9 y;have k:=c9 v;rw[a]at g k;have sub:∀p∈l,p∈aU l:=λp f=>(bM F p).mpr (by rw[gB h];intro s d;exact ((i_ (by rw[a];exact h)).mp (by rw[a];exact d)).2.2.2 p (by rw[a];exact f))
 have m:aU l≠[]:=λe=>by have:=sub Z g.1;rw[e]at this;cases this
 rcases Fr (aU l) f λs d=>w6 r _ (ux d _ f m).cov with ⟨s,t,d,u,w⟩ |⟨b,c,i,j⟩
 .obtain⟨_,_,n,R,o⟩:=Dr F h d u;exact⟨_,n,(lR x R.c).mpr ((o _ _).mp w)⟩
 .have:=Du i (j Z (sub Z g.1)) (j P (sub P g.2)) (j B (sub B k.2));omega
structure uE(q:List P2)(k:Int)(x:P2)(c:List P2):Prop where
 W:Wd q c
 sz:∀p∈c,Szp 5000 p
 nd:c.Nodup
 T:Jl c k x (tell c k x)
 mem:∀e∈tell c k x,e.1∈q
theorem rN(h:ah a b d=1):[a,b,d].Nodup:=by
 have z1:a≠b:=fun e=>by subst e;have:ah a a d=0:=by unfold ah;grind
                        lia
 have z2:a≠d:=fun e=>by subst e;have:ah a b a=0:=by unfold ah;grind
                        lia
 have z3:b≠d:=fun e=>by subst e;have:ah a b b=0:=by unfold ah;grind
                        lia
 simp[z1,z2,z3]
theorem Jj(O:iH l)(o:3<=l.length)(n:0<k)(f:q∈di l)(m:inK k q x=true):uE q k x q:=by
 have e:di l=(SG.srt ST3.KT (pcs l)).map λt=>[t.1,t.2.1,t.2.2]:=by unfold di;rw[if_neg (by lia),if_neg (by lia)]
 rw[e]at f;obtain⟨T,j,rfl⟩:=KZ.mp f;obtain⟨R,_⟩:=C6 O.F o ((SG.srt_mem _ _ _).mp j);obtain⟨g,h,a⟩:=(lR n R.c).mp m;have fz:=O.fz;refine⟨.three _ _ _,λp b=>?_,rN R.d,jW R.d h a g,λe i=>?_⟩
 .simp only[KO,Ly,or_false]at b;rcases b with rfl |rfl |rfl
  .exact (fz _ R.m1).mono (by decide)
  .exact (fz _ R.m2).mono (by decide)
  .exact (fz _ R.m3).mono (by decide)
 .have:=(((jW R.d h a g).mem e).mp i).1;simp only[wts,KO,Ly,or_false]at this |-;rcases this with rfl |rfl |rfl <;>simp
theorem iH.f150(O:iH l):∀p∈aU l,Szp 150 p:=λp a=>by
 have q:=(dU O.F.ne).mp (O.F.in_box ((bM O.F p).mp a));obtain⟨_,_,c,e,b,d⟩:=p_ O.F.ne O.sz;exact⟨ku c e q.1.1 q.1.2,ku b d q.2.1 q.2.2⟩
theorem Ar:∀{z},(∀e∈z,e.1=A)->sX z=A.1*sN z/\sY z=A.2*sN z
 |[],_=>by unfold sX sY sN;simp
 |e::z,h=>by
  obtain⟨g,a⟩:=Ar λy hy=>h y (KN _ hy);have f:=h e K0;have b:sN (e::z)=e.2+sN z:=by unfold sN;simp
  have d:sX (e::z)=e.1.1*e.2+sX z:=by unfold sX;simp
  have c:sY (e::z)=e.1.2*e.2+sY z:=by unfold sY;simp
  rw[b,d,c,g,a,f];constructor <;>grind
theorem Gr(A):aq [A]=[A]:=by
 exact ST.asc_srt (PZ _ _)
theorem rG:inK k [A] x=true↔x=scl k A:=by
 unfold inK;rw[Lb,Og,Gr];unfold whr;rw[if_pos (by simp),decide_eq_true_iff];show -1<(if btw (scl k A) (scl k A) x=true then 0 else -1)↔_;unfold btw;rw[show ah (scl k A) (scl k A) x=0 by unfold ah;grind];by_cases h:x=scl k A
 .subst h;rw[if_pos (by unfold ST.leP;simp)];simp
 .rw[if_neg]
  .simp[h]
  .intro z;simp at z;rw[bZ,bZ]at z;exact h (Mo (by lia) (by lia))
theorem Id(A:P2):dM (A.1+1-A.1) (A.2-A.2) 1 1 0:=by
 have a:A.1+1-A.1=1:=by lia
 have b:A.2-A.2=0:=by lia
 rw[a,b];exact⟨by decide,by decide,by decide,by decide,λ_=>⟨rfl,by decide,by decide⟩,λh=>absurd rfl h⟩
theorem Ix(O:iH [A])(r:0<k)(j:inK k [A] x=true):uE [A] k x [A,(A.1+1,A.2),(A.1-0,A.2+1)]/\tell [A,(A.1+1,A.2),(A.1-0,A.2+1)] k x=[(A,k)]:=by
 have c:=rG.mp j;have f:ah A (A.1+1,A.2) (A.1-0,A.2+1)=1:=by unfold ah;dsimp only;grind
 have l:dk k (A.1+1,A.2) (A.1-0,A.2+1) x=k:=by rw[c];unfold dk scl;dsimp only;grind
 have q:dk k (A.1-0,A.2+1) A x=0:=by rw[c];unfold dk scl;dsimp only;grind
 have g:dk k A (A.1+1,A.2) x=0:=by rw[c];unfold dk scl;dsimp only;grind
 have T:=jW (k:=k) (x:=x) f (by lia) (by lia) (by lia);have b:=O.sz A (by simp);have o:Sz 150 1:=Sz.mono (m:=8) (by decide) (by decide)
 have m:∀e,e∈tell [A,(A.1+1,A.2),(A.1-0,A.2+1)] k x↔e=(A,k):=λe=>by
  rw[T.mem];simp only[wts,KO,Ly,or_false];rw[l,q,g];obtain⟨a,n⟩:=e;simp only[Rr];constructor
  .rintro ⟨⟨rfl,rfl⟩ |⟨_,rfl⟩ |⟨_,rfl⟩,h⟩
   .exact⟨rfl,rfl⟩
   .lia
   .lia
  .rintro ⟨rfl,rfl⟩;exact⟨.inl ⟨rfl,rfl⟩,r⟩
 refine⟨⟨.one A 1 0 (Id A),λp d=>?_,rN f,T,λe i=>?_⟩,?_⟩
 .simp only[KO,Ly,or_false]at d;rcases d with rfl |rfl |rfl
  .exact b.mono (by decide)
  .exact⟨(L2.Sz.add' b.1 o).mono (by decide),b.2.mono (by decide)⟩
  .exact⟨by rw[SD];exact b.1.mono (by decide),(L2.Sz.add' b.2 o).mono (by decide)⟩
 .rw[(m e).mp i];simp
 .exact SG.asc_one ST3.KQ (SG.srt_asc ST3.KQ _) (PZ _ _) λz=>by rw[K9];exact m z
theorem fZ:∀{r}{q},r.Pairwise plt->q∈dQ r->∃a b,q=[a,b]/\a∈r/\b∈r/\plt a b/\∀c∈r,plt a c->plt c b->False
 |[],q,_,h=>by cases h
 |[_],q,_,h=>by cases h
 |a::b::r,q,hs,h=>by
  obtain⟨i,g⟩:=Lu.mp hs;rcases KO.mp h with e |e
  .refine⟨a,b,e,by simp,by simp,i b (by simp),λc j l1 l2=>?_⟩;rcases KO.mp j with e |e
   .subst e;exact aM _ l1
   .rcases KO.mp e with e |e
    .subst e;exact aM _ l2
    .exact aM _ (bz l2 ((Lu.mp g).1 c e))
  .obtain⟨c,d,l,f,n,m,k⟩:=fZ g e;refine⟨c,d,l,KN _ f,KN _ n,m,λy hy l1 l2=>?_⟩;rcases KO.mp hy with z |z
   .subst z;exact aM _ (bz l1 (i c f))
   .exact k y z l1 l2
theorem HQ(h:plt a b):aq [a,b]=[a,b]:=by
 have e:ST.srt [a,b]=[a,b]:=ST.asc_srt (by simp[(e8 a b).mp h]);rw[mH (by rw[e];rfl),e]
theorem lI(d:0<k)(h:plt a b):inK k [a,b] x=true↔dk k a b x=0/\ST.leP (scl k a) x=true/\ST.leP x (scl k b)=true:=by
 unfold inK;rw[Lb,Lb,Og,HQ (qk d _ _ h)];unfold whr;rw[if_pos (by simp),decide_eq_true_iff];show -1<(if btw (scl k a) (scl k b) x=true then 0 else -1)↔_;have f:ah (scl k a) (scl k b) x=k*dk k a b x:=by unfold scl ah dk;grind
 have z:decide (ah (scl k a) (scl k b) x=0)=decide (dk k a b x=0):=decide_eq_decide.mpr (by
  rw[f];exact⟨λe=>(LR.mp e).resolve_left (by lia),λe=>by rw[e];simp⟩)
 unfold btw;rw[z];by_cases c:dk k a b x=0/\ST.leP (scl k a) x=true/\ST.leP x (scl k b)=true
 .rw[if_pos (by simp[c.1,c.2.1,c.2.2])];simp[c]
 .rw[if_neg (by simpa using c)];simp only[c];simp
theorem IF{a b c:P2}(h:ST.leP a b=true)(k:plt b c):ST.leP a c=true:=by
 rw[bZ]at *;unfold plt at k;lia
theorem JR{a b c:P2}(k:plt a b)(h:ST.leP b c=true):ST.leP a c=true:=by
 rw[bZ]at *;unfold plt at k;lia
theorem Dn{a x:P2}(h:ST.leP a x=true)(n:a≠x):plt a x:=by
 rw[bZ]at h;have:¬ (a.1=x.1/\a.2=x.2):=λz=>n (Mo z.1 z.2)
 unfold plt;lia
theorem BZ(F:Fld [A,B])(D:a∈aU [A,B])(q:b∈aU [A,B])(r:plt a b)(C:∀c∈aU [A,B],plt a c->plt c b->False):∃s t,dM (b.1-a.1) (b.2-a.2) 1 s t:=by
 obtain⟨g,s,t,G⟩:=jF (b.1-a.1) (b.2-a.2);have l:=aG r;have k:=G.g0;obtain⟨u,h⟩:=G.da;obtain⟨v,f⟩:=G.db
 have gp:0<g:=by
  rcases L9 0 g with z |z
  .exact z
  .have:g=0:=by lia
   subst this;unfold b8 at l;simp at h f;lia
 have d:b8 u v:=by
  unfold b8 at l |-;rw[h,f]at l;rcases l with z |⟨z,j⟩
  .left
   rcases L9 0 u with y |y
   .exact y
   .have:=Mb k y;lia
  .right
   refine⟨(LR.mp z).resolve_left (by lia),?_⟩;rcases L9 0 v with y |y
   .exact y
   .have:=Mb k y;lia
 by_cases x:g=1
 .subst x;exact⟨s,t,G⟩
 .exfalso
  have o:=(fo A B a).mp ((bM F a).mp D);have p:=(fo A B b).mp ((bM F b).mp q);have i:plt a (a.1+u,a.2+v):=by unfold b8 at d;unfold plt;dsimp only;lia
  have n:plt (a.1+u,a.2+v) b:=by
   have m:b8 ((g-1) *u) ((g-1) *v):=by
    unfold b8 at d |-;rcases d with z |⟨z,j⟩
    .left;exact L5 (by lia) z
    .right;rw[z];exact⟨by simp,L5 (by lia) j⟩
   unfold b8 at m;unfold plt;dsimp only;have H:(g-1) *u=b.1-a.1-u:=by rw[h];grind
   have E:(g-1) *v=b.2-a.2-v:=by rw[f];grind
   lia
  refine C (a.1+u,a.2+v) ((bM F _).mpr ((fo A B _).mpr ⟨?_,?_,?_⟩)) i n
  .have e:g*ah A B (a.1+u,a.2+v)=ah A B b+(g-1) *ah A B a:=by unfold ah;dsimp only;grind
   have w:g*ah A B (a.1+u,a.2+v)=0:=by rw[e,o.1,p.1];simp
   exact (LR.mp w).resolve_left (by lia)
  .exact IF o.2.1 i
  .exact JR n p.2.2
theorem IE(O:iH [A,B])(P:0<k)(v:q∈dQ (aU [A,B]))(E:inK k q x=true):∃c,uE q k x c:=by
 obtain⟨a,b,rfl,u,m,g,D⟩:=fZ (cC _) v;obtain⟨s,t,G⟩:=BZ O.F u m g D;obtain⟨N,l1,l2⟩:=(lI P g).mp E;have S:=G.eq;have h:ah a b (a.1-t,a.2+s)=1:=by unfold ah;dsimp only;grind
 have I:=BS k a b (a.1-t,a.2+s) x;obtain⟨Q,H⟩:=Je k a b (a.1-t,a.2+s) x;rw[h,N]at I Q H;have l:=aG g
 have M:0<=dk k (a.1-t,a.2+s) a x:=by
  rw[bZ]at l1;unfold scl at l1;dsimp only at l1;generalize dk k (a.1-t,a.2+s) a x=β at *;generalize dk k b (a.1-t,a.2+s) x=α at *;have j:x.1-k*a.1=β*(b.1-a.1):=by grind
  have J:x.2-k*a.2=β*(b.2-a.2):=by grind
  rcases L9 β 0 with z |z
  .exfalso
   unfold b8 at l;rcases l with y |⟨y,i⟩
   .have:=MZ z y;omega
   .rw[y,Nd]at j;have:=MZ z i;omega
  .exact z
 have K:0<=dk k b (a.1-t,a.2+s) x:=by
  rw[bZ]at l2;unfold scl at l2;dsimp only at l2;generalize dk k (a.1-t,a.2+s) a x=β at *;generalize dk k b (a.1-t,a.2+s) x=α at *;have j:k*b.1-x.1=α*(b.1-a.1):=by grind
  have J:k*b.2-x.2=α*(b.2-a.2):=by grind
  rcases L9 α 0 with z |z
  .exfalso
   unfold b8 at l;rcases l with y |⟨y,i⟩
   .have:=MZ z y;omega
   .rw[y,Nd]at j;have:=MZ z i;omega
  .exact z
 have T:=jW h K M (by omega);have d:=O.f150 a u;have f:=O.f150 b m;obtain⟨_,C,L⟩:=jw G (L2.Sz.sub' f.1 d.1) (L2.Sz.sub' f.2 d.2);refine⟨_,.two a b s t G,λp o=>?_,rN h,T,λe w=>?_⟩
 .simp only[KO,Ly,or_false]at o;rcases o with rfl |rfl |rfl
  .exact d.mono (by decide)
  .exact f.mono (by decide)
  .exact⟨(L2.Sz.sub' (d.1.mono (n:=400) (by decide)) (L.mono (n:=400) (by decide))).mono (by decide),(L2.Sz.add' (d.2.mono (n:=400) (by decide)) (C.mono (n:=400) (by decide))).mono (by decide)⟩
 .obtain⟨r,R⟩:=(T.mem e).mp w;simp only[wts,KO,Ly,or_false]at r |-;rcases r with rfl |rfl |rfl
  .simp
  .simp
  .dsimp only at R;omega
theorem AE(c:ah a b d=1)(v:x=a\/x=b\/x=d):tell [a,b,d] 1 x=[(x,1)]:=by
 obtain⟨g,o,h,n⟩:=i5 a b d;obtain⟨j,i,_,_⟩:=i5 b d a;obtain⟨l,k,_,_⟩:=i5 d a b
 have f:0<=ah b d x/\0<=ah d a x/\0<=ah a b x:=by
  rcases v with rfl |rfl |rfl
  .rw[h,k,g];lia
  .rw[j,n,o];lia
  .rw[i,l];lia
 have T:=jW c (by rw[cD];exact f.1) (by rw[cD];exact f.2.1) (by rw[cD];exact f.2.2)
 have p:wts [a,b,d] 1 x=[(a,ah b d x),(b,ah d a x),(d,ah a b x)]:=by
  show [(a,dk 1 b d x),(b,dk 1 d a x),(d,dk 1 a b x)]=_;rw[cD,cD,cD]
 have m:∀e,e∈tell [a,b,d] 1 x↔e=(x,1):=λe=>by
  rw[T.mem,p];simp only[KO,Ly,or_false];have q:=rN c;rcases v with rfl |rfl |rfl
  .rw[h,g,k,c];grind
  .rw[j,n,o,c];grind
  .rw[i,l,c];grind
 exact SG.asc_one ST3.KQ (SG.srt_asc ST3.KQ _) (PZ _ _) λz=>by rw[K9];exact m z
theorem Kq(O:iH l)(j:3<=l.length)(i:x∈aU l)(f:q∈di l)(m:inK 1 q x=true):tell q 1 x=[(x,1)]:=by
 have e:di l=(SG.srt ST3.KT (pcs l)).map λt=>[t.1,t.2.1,t.2.2]:=by unfold di;rw[if_neg (by lia),if_neg (by lia)]
 rw[e]at f;obtain⟨T,k,rfl⟩:=KZ.mp f;obtain⟨R,h⟩:=C6 O.F j ((SG.srt_mem _ _ _).mp k);obtain⟨b,g,a⟩:=(lR (by decide) R.c).mp m
 rw[cD]at b g a;exact AE R.d (h x i b g a)
theorem Ci(F:Fld [A,B]):plt A B:=by
 have b:=F.cr;have a:=ST.srt_asc [A,B]
 have e:ST.srt [A,B]=[A,B]:=by
  by_cases h:(ST.srt [A,B]).length=2
  .rw[<-mH h];exact b
  .have l:=ST.srt_len [A,B];simp at l;rw[cw (by lia)]at b
   exact b
 rw[e]at a;exact (e8 A B).mpr ((Lu.mp a).1 B (by simp))
def wf(A B:P2)(p:P2):Int:=if A.1<B.1 then p.1 else p.2
theorem pE(h:plt A B)(a:ah A B p=0)(b:dk k A B x=0):(ST.leP (scl k p) x=true↔k*wf A B p<=wf A B x)/\(ST.leP x (scl k p)=true↔wf A B x<=k*wf A B p):=by
 rw[bZ,bZ];unfold wf scl;by_cases z:A.1<B.1
 .rw[if_pos z,if_pos z];have e:(B.1-A.1) *(x.2-k*p.2)=(B.2-A.2) *(x.1-k*p.1):=by unfold ah at a;unfold dk at b;grind
  have s:x.1=k*p.1->x.2=k*p.2:=λq=>by
   rw[q,SA,Nd]at e;have:=(LR.mp e).resolve_left (by lia)
   lia
  refine⟨⟨λh=>by lia,λh=>?_⟩,⟨λh=>by lia,λh=>?_⟩⟩
  .rcases L8 h with y |y
   .exact .inl y
   .exact .inr ⟨y,by have:=s y.symm;lia⟩
  .rcases L8 h with y |y
   .exact .inl y
   .exact .inr ⟨y,by have:=s y;lia⟩
 .rw[if_neg z,if_neg z];unfold plt at h
  have d:p.1=A.1:=by
   have:(B.2-A.2) *(p.1-A.1)=0:=by unfold ah at a;grind
   have:=(LR.mp this).resolve_left (by lia);lia
  have c:x.1=k*A.1:=by
   have:(B.2-A.2) *(x.1-k*A.1)=0:=by unfold dk at b;grind
   have:=(LR.mp this).resolve_left (by lia);lia
  rw[d,c];refine⟨⟨λh=>?_,λh=>.inr ⟨rfl,h⟩⟩,⟨λh=>?_,λh=>.inr ⟨rfl,h⟩⟩⟩ <;>lia
theorem BP(A B):∀z,wf A B (sX z,sY z)=(z.map λe=>e.2*wf A B e.1).sum
 |[]=>by unfold wf sX sY;simp
 |e::z=>by
  have ih:=BP A B z;have b:sX (e::z)=e.1.1*e.2+sX z:=by unfold sX;simp
  have a:sY (e::z)=e.1.2*e.2+sY z:=by unfold sY;simp
  rw[Lb,Mg,<-ih,b,a];unfold wf;split <;>dsimp only <;>rw[NQ]
theorem xL{α:Type}{n f:α->Int}{d g:Int}:∀{l:List α},(∀e∈l,0<=n e/\d<=f e/\f e<=g)->(l.map n).sum*d<=(l.map λe=>n e*f e).sum/\(l.map λe=>n e*f e).sum<=(l.map n).sum*g
 |[],_=>by simp
 |e::l,h=>by
  obtain⟨k,j⟩:=xL λy hy=>h y (KN _ hy);obtain⟨a,b,c⟩:=h e K0;simp only[Lb,Mg];have m:=NW b a;have i:=NW c a;rw[Wm,Wm];lia
theorem oY{f:P2->Int}(i:0<k):∀{r}{a},(a::r).Pairwise (λp q=>f p<f q)->r≠[]->k*f a<=y->(∃c∈a::r,y<=k*f c)->∃p q,[p,q]∈dQ (a::r)/\k*f p<=y/\y<=k*f q
 |[],a,_,h,_,_=>absurd rfl h
 |b::r,a,hs,_,h1,⟨c,hc,h2⟩=>by
  obtain⟨t,o⟩:=Lu.mp hs;by_cases g:y<=k*f b
  .exact⟨a,b,by simp[dQ],h1,g⟩
  .have s:=t b (by simp);have n:=Pf s i
   have d:c∈b::r:=by
    rcases KO.mp hc with e |e
    .subst e;lia
    .exact e
   have u:r≠[]:=λe=>by
    subst e;have:=K9.mp d;subst this;exact g h2
   obtain⟨p,q,m,l,j⟩:=oY i (r:=r) (a:=b) o u (by lia) ⟨c,d,h2⟩;exact⟨p,q,by simp only[dQ];exact KN _ m,l,j⟩
theorem Hs(F:Fld [A,B]):(∀p∈aU [A,B],ah A B p=0/\wf A B A<=wf A B p/\wf A B p<=wf A B B)/\A∈aU [A,B]/\B∈aU [A,B]/\(aU [A,B]).Pairwise (λp q=>wf A B p<wf A B q):=by
 have h:=Ci F;have i:ah A B A=0:=by unfold ah;grind
 have g:ah A B B=0:=by unfold ah;grind
 have one:∀p:P2,scl 1 p=p:=rS;have a:∀p:P2,ah A B p=0->dk 1 A B p=0:=λp b=>by rw[cD];exact b
 have k:A∈aU [A,B]:=(bM F A).mpr ((fo A B A).mpr ⟨i,by rw[bZ];lia,by rw[bZ];unfold plt at h;lia⟩);have n:B∈aU [A,B]:=(bM F B).mpr ((fo A B B).mpr ⟨g,by rw[bZ];unfold plt at h;lia,by rw[bZ];lia⟩);have all:∀p∈aU [A,B],ah A B p=0/\ST.leP A p=true/\ST.leP p B=true:=λp b=>(fo A B p).mp ((bM F p).mp b);refine⟨λp b=>?_,k,n,(cC [A,B]).imp_of_mem λ{p q} b m l=>?_⟩
 .obtain⟨e,l1,l2⟩:=all p b;have d:=(pE h i (a p e)).1;have c:=(pE h g (a p e)).2;rw[one,M6]at d c;exact⟨e,d.mp l1,c.mp l2⟩
 .obtain⟨j,_,_⟩:=all p b;obtain⟨f,_,_⟩:=all q m;have d:=(pE h j (a q f)).1;have c:=(pE h j (a q f)).2;rw[one,M6]at d c
  have o:¬ wf A B q<=wf A B p:=λz=>by
   have:=c.mpr z;rw[bZ]at this;unfold plt at l;lia
  lia
theorem Km(F:Fld [A,B])(k:∀e∈z,e.1∈aU [A,B]/\0<=e.2)(x:0<sN z):∃q∈dQ (aU [A,B]),inK (sN z) q (sX z,sY z)=true:=by
 obtain⟨d,c,f,g⟩:=Hs F;have h:=Ci F
 have n:dk (sN z) A B (sX z,sY z)=0:=by
  rw[qq]
  have:∀l:List ST3.PQ,(∀e∈l,ah A B e.1=0)->(l.map λe=>e.2*ah A B e.1).sum=0:=λl=>by
   induction l with
   |nil=>intro _;rfl
   |cons e l G=>
    intro h;rw[Lb,Mg,G λy hy=>h y (KN _ hy),h e K0];simp
  exact this z λe i=>(d e.1 (k e i).1).1
 obtain⟨o,s⟩:=xL λe i=>⟨(k e i).2,(d e.1 (k e i).1).2⟩
 rw[<-BP]at o s;have j:=cC [A,B];generalize hr:aU [A,B]=r at *
 match r,d,c,f,g,j with
 |[],_,c,_,_,_=>cases c
 |[a],_,c,f,_,_=>
  rw[K9.mp c,K9.mp f]at h;exact absurd h (aM _)
 |a::b::r,d,c,f,g,j=>
  have I:wf A B a<=wf A B A:=by
   rcases KO.mp c with e |e
   .rw[e];exact Qe _
   .exact Nc ((Lu.mp g).1 A e)
  have C:=NW I (show 0<=sN z by lia);obtain⟨p,q,m,E,D⟩:=oY x g (by simp) (NS C o) ⟨B,f,s⟩;obtain⟨K,M,e,H,J,lt,_⟩:=fZ j m;injection e with e1 e2;injection e2 with e2 _;subst e1;subst e2;have v:=(d p H).1;have t:=(d q J).1;refine⟨[p,q],m,(lI x lt).mpr ⟨?_,((pE h v n).1).mpr E,((pE h t n).2).mpr D⟩⟩;obtain⟨u,w,N,O,L⟩:=qG h lt v t;have:=L (sN z) (sX z,sY z);rw[n,Nd]at this;exact (LR.mp this).resolve_left (by lia)
theorem Ke(O:iH [A,B])(f:x∈aU [A,B])(g:q∈dQ (aU [A,B]))(k:inK 1 q x=true)(D:uE q 1 x c):tell c 1 x=[(x,1)]:=by
 obtain⟨a,b,rfl,n,l,h,j⟩:=fZ (cC _) g;obtain⟨_,l1,l2⟩:=(lI (by decide) h).mp k;rw[rS]at l1 l2;have W:=D.W;have o:=D.nd;cases W with
 |two _ _ s t G=>
  have m:=G.eq;have i:ah a b (a.1-t,a.2+s)=1:=by unfold ah;dsimp only;grind
  refine AE i ?_;by_cases e:x=a
  .exact .inl e
  .by_cases d:x=b
   .exact .inr (.inl d)
   .exact (j x f (Dn l1 (Ne.symm e)) (Dn l2 d)).elim
def InB(c p:P2):Prop:=(c.1<=p.1/\p.1<=c.1+5)/\c.2<=p.2/\p.2<=c.2+5
def chG(g:P2×P2->Int):List P2->Int
 |a::b::r=>g (a,b)+chG g (b::r)
 |_=>0
theorem Dc(g)(m):∀u v,chG g (u++m::v)=chG g (u++[m])+chG g (m::v)
 |[],v=>by simp[chG]
 |[a],v=>by simp[chG]
 |a::b::u,v=>by
  have ih:=Dc g m (b::u) v;show g (a,b)+chG g (b::u++m::v)=g (a,b)+chG g (b::u++[m])+chG g (m::v);rw[ih];exact (Int.add_assoc ..).symm
theorem uq(g)(a):∀x r,((SK (x::r) (r++[a])).map g).sum=chG g (x::r++[a])
 |x,[]=>by simp[chG]
 |x,y::r=>by
  have ih:=uq g a y r;rw[OK,Np,Lb,Mg,ih];rfl
theorem BW(a)(r):sdl (a::r)=SK (a::r) (r++[a]):=by
 have b:∀l:List (P2×P2),l=SK (l.map (·.1)) (l.map (·.2)):=λl=>by
  induction l with
  |nil=>rfl
  |cons x l c=>rw[Lb,Lb,Np,<-c]
 rw[b (sdl (a::r)),l5,qR];rfl
theorem l8{f:P2->Int}{Q:P2->Prop}(e:∀a b,Q a->Q b->R a b->g (a,b)<=f b-f a):∀L x y,L.Pairwise R->(∀p∈L,Q p)->L.head?=some x->L.getLast?=some y->chG g L<=f y-f x
 |[],_,_,_,_,h,_=>by cases h
 |[a],x,y,_,_,d,c=>by
  cases d;have:a=y:=by simpa using c
  rw[this];show 0<=_;lia
 |a::b::r,x,y,hp,hq,d,c=>by
  cases d;have i:=l8 e (b::r) b y (Lu.mp hp).2 (λp h=>hq p (KN _ h)) rfl (by rw[MT]at c;exact c);have:=e a b (hq a (by simp)) (hq b (by simp)) ((Lu.mp hp).1 b (by simp));show g (a,b)+chG g (b::r)<=_;lia
structure JX(g:P2×P2->Int)(pts T B:List P2)(mn mx:P2):Prop where
 t:T.Pairwise plt
 b:B.Pairwise λx y=>plt y x
 tm:∀p∈T,p∈pts
 bm:∀p∈B,p∈pts
 t0:T.head?=some mn
 t1:T.getLast?=some mx
 b0:B.head?=some mx
 b1:B.getLast?=some mn
 s:((sdl (aq pts)).map g).sum=chG g T+chG g B
theorem r8(g)(G:2<=(ST.srt pts).length):∃T B c f,JX g pts T B c f:=by
 have i:(ST.srt pts).Pairwise plt:=(ST.srt_asc pts).imp λ{a b} h=>by
  unfold ST.ltP at h;unfold plt;simpa using h
 have C:aq pts=(ak (ST.srt pts)).reverse.dropLast++(ak (ST.srt pts).reverse).reverse.dropLast:=by unfold aq;rw[if_neg (by lia)]
 have q:∀p,p∈ST.srt pts->p∈pts:=λp h=>(ST.srt_mem p pts).mp h;generalize ST.srt pts=d at *;obtain⟨c,f,j⟩:=Fd i G;have s:=oC d;have bs:=oC d.reverse;generalize (ak d).reverse=T at *;generalize (ak d.reverse).reverse=B at *;have l1:=j.lt;have l2:=j.lb;have u:T.getLast?=some f:=by rw[Mn];exact j.t1
 have bl:B.getLast?=some c:=by rw[Mn];exact j.b1
 have w:T.head?=some c:=by rw[Ny];exact j.t0
 have z:B.head?=some f:=by rw[Ny];exact j.b0
 refine⟨T,B,c,f,i.sublist s,V6 bs (O6.mpr i),λp l=>q p (s.subset l),λp l=>q p (Ll.mp (bs.subset l)),w,u,z,bl,?_⟩
 have k:∀{L}{x y:P2},2<=L.length->L.head?=some x->L.getLast?=some y->∃t,L=x::t++[y]/\L.dropLast=x::t:=λ{L x y} o m hy=>by
  have n:L≠[]:=λe=>by rw[e]at o;simp at o
  have e:L=L.dropLast++[y]:=by
   have h:L.getLast n=y:=by rw[List.getLast?_eq_getLast n]at hy;exact LN hy
   rw[<-h];exact (N0 n).symm
  match L,o,m,e with
  |a::b::r,_,m,e=>cases m;exact⟨(b::r).dropLast,e,rfl⟩
 obtain⟨t,E,D⟩:=k l1 w u;obtain⟨v,A,F⟩:=k l2 z bl;rw[C,D,F,OK,BW,uq,E,A];rw[show c::(t++f::v)++[c]=(c::t)++f::(v++[c]) by simp,Dc];rfl
theorem xt(h:2<=(aq l).length):2<=(ST.srt l).length:=Md λz=>by
 rw[cw z]at h;exact z h
theorem BT{x a b:Int}(c:0<=x)(h:a<=b):x*a<=x*b:=NW h c
theorem Gx(h:plt a b):a.1<=b.1:=by unfold plt at h;lia
theorem B0(d:InB c a)(f:InB c b)(h:plt a b):(b.1*b.2-(2*c.2+10) *b.1)-(a.1*a.2-(2*c.2+10) *a.1)<=crs (a,b)/\crs (a,b)<=(b.1*b.2-2*c.2*b.1)-(a.1*a.2-2*c.2*a.1):=by
 have e:crs (a,b)=b.1*b.2-a.1*a.2-(b.1-a.1) *(a.2+b.2):=by unfold crs;grind
 have g:0<=b.1-a.1:=by have:=Gx h;lia
 have j:=BT g (show 2*c.2<=a.2+b.2 by unfold InB at d f;lia);have l:=BT g (show a.2+b.2<=2*c.2+10 by unfold InB at d f;lia);have i:(b.1-a.1) *(2*c.2)=2*c.2*b.1-2*c.2*a.1:=by grind
 have k:(b.1-a.1) *(2*c.2+10)=(2*c.2+10) *b.1-(2*c.2+10) *a.1:=by grind
 rw[e];lia
theorem wa(d:InB c a)(f:InB c b)(h:plt a b):gst (a,b)<=(6*b.1+b.2)-(6*a.1+a.2):=by
 unfold gst Ot;dsimp only;unfold InB at d f;unfold plt at h;by_cases k:a.1<b.1
 .have:=Nat.gcd_le_left (b.2-a.2).natAbs (show 0<(b.1-a.1).natAbs by lia);lia
 .have e:b.1-a.1=0:=by lia
  rw[e,Int.natAbs_zero,Nat.gcd_zero_left];lia
theorem Dh(h:∀p∈l,InB c p)(r:2<=(aq l).length):area (aq l)<=50:=by
 obtain⟨T,B,d,i,W⟩:=r8 crs (xt r);have v:=l8 (λa b n m k=>(B0 n m k).2) T d i W.t (λp j=>h p (W.tm p j)) W.t0 W.t1
 have u:=l8 (g:=crs) (f:=λp=>p.1*p.2-(2*c.2+10) *p.1) (λa b n m k=>by
  have:=(B0 m n k).1;have e:crs (a,b)=-crs (b,a):=by unfold crs;grind
  rw[e];lia) B i d W.b (λp j=>h p (W.bm p j)) W.b0 W.b1
 have q:=h d (W.tm _ (Pc W.t0));have o:=h i (W.bm _ (Pc W.b0));have s:=W.s;unfold area;have e:(i.1*i.2-2*c.2*i.1-(d.1*d.2-2*c.2*d.1))+(d.1*d.2-(2*c.2+10) *d.1-(i.1*i.2-(2*c.2+10) *i.1))=10*(i.1-d.1):=by grind
 unfold InB at q o;lia
theorem Dx(h:∀p∈l,InB c p)(q:2<=(aq l).length):md (aq l)<=70:=by
 obtain⟨T,B,e,i,W⟩:=r8 gst (xt q);have u:=l8 (λa b m k j=>wa m k j) T e i W.t (λp d=>h p (W.tm p d)) W.t0 W.t1
 have r:=l8 (g:=gst) (f:=λp=>-(6*p.1+p.2)) (λa b m k j=>by
  have:=wa k m j;rw[fm];lia) B i e W.b (λp d=>h p (W.bm p d)) W.b0 W.b1
 have o:=h e (W.tm _ (Pc W.t0));have n:=h i (W.bm _ (Pc W.b0));have s:=W.s;unfold md;unfold InB at o n;lia
theorem Dw{c a b:P2}(e:InB c a)(d:InB c b):gst (a,b)<=40:=by
 have f:∀{a b:P2},InB c a->InB c b->plt a b->gst (a,b)<=40:=λ{a b} e d k=>by
  have:=wa e d k;obtain⟨⟨h,_⟩,j,_⟩:=e;obtain⟨⟨_,g⟩,_,i⟩:=d;omega
 rcases fD a b with k |k |k
 .exact f e d k
 .rw[k];unfold gst;simp
 .rw[fm];exact f d e k
theorem D7(F:Fld l)(h:∀p∈l,InB c p):kB l<=100:=by
 have f:=F.cr;have e:0<l.length:=LF.mpr F.ne;unfold kB qT pin;by_cases b:l.length<3
 .have:=Dw (h _ (dl e)) (h _ (dl (l:=l) (i:=l.length-1) (by omega)));rw[if_pos b,if_pos b];clear b;omega
 .have d:2<=(aq l).length:=by rw[f];omega
  have a:=Dh h d;have r:=Dx h d;rw[f]at a r;rw[if_neg b,if_neg b];clear b d e;omega
theorem tL(O:iH l)(b:∀e∈z,e.1∈aU l/\0<=e.2)(f:0<sN z):∃u q v c,di l=u++q::v/\(∀r∈u,inK (sN z) r (sX z,sY z)=false)/\inK (sN z) q (sX z,sY z)=true/\uE q (sN z) (sX z,sY z) c:=by
 have g:(∃q∈di l,inK (sN z) q (sX z,sY z)=true)->(∀q∈di l,inK (sN z) q (sX z,sY z)=true->∃c,uE q (sN z) (sX z,sY z) c)->∃u q v c,di l=u++q::v/\(∀r∈u,inK (sN z) r (sX z,sY z)=false)/\inK (sN z) q (sX z,sY z)=true/\uE q (sN z) (sX z,sY z) c:=λp m=>by
  obtain⟨u,q,v,e,n,y⟩:=nq p;obtain⟨c,D⟩:=m q (by rw[e];simp) y;exact⟨u,q,v,c,e,n,y,D⟩
 match l,O,b with
 |[],O,_=>exact absurd rfl O.F.ne
 |[A],O,b=>
  have e:di [A]=[[A]]:=rfl;rw[e]at g |-
  have i:∀y∈z,y.1=A:=λy hy=>by
   have:=(b y hy).1;rw[jZ O.F]at this;exact K9.mp this
  obtain⟨o,k⟩:=Ar i;have a:inK (sN z) [A] (sX z,sY z)=true:=rG.mpr (by unfold scl;rw[o,k];exact Mo (NQ _ _) (NQ _ _));refine g ⟨[A],by simp,a⟩ λq d a=>?_;rw[K9.mp d]at a |-;exact⟨_,(Ix O f a).1⟩
 |[A,B],O,b=>
  have e:di [A,B]=dQ (aU [A,B]):=rfl;exact g (Km O.F b f) λq d a=>IE O f d a
 |A::B::C::r,O,b=>
  have h:3<=(A::B::C::r).length:=by simp
  refine g ?_ λq d a=>⟨q,Jj O h f d a⟩
  obtain⟨T,j,a⟩:=KD O.F h b f;refine⟨_,?_,a⟩;unfold di;rw[if_neg (by simp),if_neg (by simp)];exact KZ.mpr ⟨T,(SG.srt_mem _ _ _).mpr j,rfl⟩
theorem ug(O:iH l)(a:x∈aU l):∃u q v c,di l=u++q::v/\(∀r∈u,inK 1 r x=false)/\inK 1 q x=true/\uE q 1 x c/\tell c 1 x=[(x,1)]:=by
 have g:sN [(x,1)]=1:=by unfold sN;simp
 have k:sX [(x,1)]=x.1:=by unfold sX;simp
 have n:sY [(x,1)]=x.2:=by unfold sY;simp
 obtain⟨u,q,v,c,i,h,d,D⟩:=tL O (z:=[(x,1)]) (by intro e m;rw[K9.mp m];exact⟨a,(by show 0<=1;decide)⟩) (by rw[g];decide);rw[g,k,n]at h d D;have b:q∈di l:=by rw[i];simp
 refine⟨u,q,v,c,i,h,d,D,?_⟩
 match l,O,a,b with
 |[],O,_,_=>exact absurd rfl O.F.ne
 |[A],O,a,b=>
  rw[K9.mp b]at d D;have W:=D.W
  have f:x=A:=by
   rw[jZ O.F]at a;exact K9.mp a
  cases W with
  |one _ s t G=>
   have p:=G.eq;refine AE ?_ (.inl f);unfold ah;grind
 |[A,B],O,a,b=>exact Ke O a b d D
 |A::B::C::r,O,a,b=>
  have o:3<=(A::B::C::r).length:=by simp
  have W:=D.W;have e:di (A::B::C::r)=(SG.srt ST3.KT (pcs (A::B::C::r))).map λt=>[t.1,t.2.1,t.2.2]:=by unfold di;rw[if_neg (by simp),if_neg (by simp)]
  have j:=b;obtain⟨T,_,rfl⟩:=KZ.mp j;cases W;exact Kq O o a b d
theorem Al(h:(aU l).length<=31):(pcs l).length<64:=by
 have:=yd l;unfold pcs;rw[KI];lia
theorem qI{α:Type}(f g)(k:Int):∀l:List α,(l.map λs=>k*(f s-g s)).sum=k*((l.map f).sum-(l.map g).sum)
 |[]=>by simp
 |a::l=>by
  simp only[Lb,Mg,qI f g k l];grind
theorem o8(w:P2->Int)(l):((sdl l).map λs=>w s.2).sum=((sdl l).map λs=>w s.1).sum:=by
 have e1:((sdl l).map λs=>w s.2)=(l.drop 1++l.take 1).map w:=by rw[<-qR,Lh];rfl
 have e2:((sdl l).map fun s=>w s.1)=(l.take 1++l.drop 1).map w:=by rw[OV];conv=>rhs;rw[←l5 l]
                                                                   rw[Lh];rfl
 rw[e1,e2,LO,LO,Vb,Vb];lia
theorem CF(e f)(l):area (l.map (shf 0 e f))=area l:=by
 unfold area;rw[qW,Lh]
 have h:∀s,(crs ∘ λs:P2×P2=>(shf 0 e f s.1,shf 0 e f s.2)) s=(crs s+e*(s.2.2-s.1.2))-f*(s.2.1-s.1.1):=λs=>by
  simp only[Function.comp,crs,shf];grind
 rw[NI (λs _=>h s),uA,uQ,qI (λs:P2×P2=>s.2.2) (λs:P2×P2=>s.1.2),qI (λs:P2×P2=>s.2.1) (λs:P2×P2=>s.1.1),o8 (λp=>p.2),o8 (λp=>p.1)];simp
theorem qL(e f)(a b):gst (shf 0 e f a,shf 0 e f b)=gst (a,b):=by
 unfold gst shf;dsimp only;congr 2 <;>lia
theorem En(e f)(l):md (l.map (shf 0 e f))=md l:=by
 unfold md;rw[qW,Lh];exact congrArg Wr (NI λs _=>qL e f s.1 s.2)
theorem Hf(e f)(h:a*d-b*c=1\/a*d-b*c=-1)(F:Fld l):kB (aq (l.map (ap a b c d e f)))=kB l:=by
 have g:=ql h;rw[nE,mm];rcases F.cases with ⟨A,rfl⟩ |⟨A,B,rfl,lt⟩ |j
 .have:∀x,aq [x]=[x]:=λx=>by simp[aq,ST.srt,ST.ins]
  simp only[Lb,Og,this];simp[kB,pin,qT,gp,gst]
 .have p:A≠B:=λz=>by subst z;rw[ST.asc_irr]at lt;cases lt
  have i:∀x y,kB [x,y]=gst (x,y)+1:=λx y=>by simp[kB,pin,qT,gp]
  have k:=qQ g A B;simp only[Lb,Og]at k |-;rcases i7 (λz=>p (g.inj z)) with ⟨_,z⟩ |⟨_,z⟩
  .rw[z];simp only[Lb,Og];rw[i,i,qL,k]
  .rw[z];simp only[Lb,Og];rw[i,i,qL,fm,k]
 .have l1:=fS g j;have o:=F.cr;have n:=Bj g j;have m:=E4 g j;rw[o]at j n m;unfold kB pin qT;rw[KI,if_neg (by lia),if_neg (by lia),if_neg (by lia),if_neg (by lia),CF,En,n,m]
theorem DF(ns)(a b c):ah (mvp ns a) (mvp ns b) (mvp ns c)=ah a b c:=by unfold mvp ah;dsimp only;grind
theorem uM(ns)(l):aq (l.map (mvp ns))=(aq l).map (mvp ns):=jD (λa b h=>by
 unfold plt mvp at *;rcases h with h |⟨d,e⟩
 .left;lia
 .right;rw[d];lia) (λa b c=>by rw[DF]) l
theorem n5(ns)(p):mvp ns p=ap 1 0 (slt ns) 1 (asd ns) (-asd ns) p:=by
 unfold mvp ap;exact Mo (by dsimp only;grind) (by dsimp only;grind)
theorem qd(h:b=a\/plt a b):ST.leP a b=true:=by
 unfold ST.leP;rcases h with h |h
 .subst h;simp
 .unfold plt at h;simp;lia
theorem rR{α:Type}:∀{l:List α},l.length=2->∃a b,l=[a,b]
 |[a,b],_=>⟨a,b,rfl⟩
theorem CZ(g:p∈l):cS (aq l) p=true:=by
 by_cases r:3<=(aq l).length
 .exact (gB r p).mpr λs C=>dD r C p g
 have f:=(ST.srt_mem p l).mpr g;by_cases n:2<=(ST.srt l).length
 .obtain⟨E,H,W⟩:=Fd (dW l) n;have q:aq l=(ak (ST.srt l)).reverse.dropLast++(ak (ST.srt l).reverse).reverse.dropLast:=by unfold aq;rw[if_neg (by lia)]
  have m:=λi A=>i8 n (i:=i) A;generalize (ak (ST.srt l)).reverse=T at *;generalize (ak (ST.srt l).reverse).reverse=B at *;have I:=W.lt;have J:=W.lb;have v:=congrArg Pu q;rw[LB,Mz,Mz]at v;obtain⟨t0,K,rfl⟩:=rR (show T.length=2 by lia)
  obtain⟨j,D,rfl⟩:=rR (show B.length=2 by lia);have w:=LN W.t0;have u:=LN W.b0;subst w u;have e:=q;rw[e]at m |-;obtain⟨a,b,o,y,h,_⟩:=m 0 (by simp)
  obtain⟨c,d,t,x,k,_⟩:=m 1 (by simp);cases o;obtain rfl:j=b:=by simpa using y
  cases t;obtain rfl:t0=d:=by simpa using x
  have G:=h p g;have F:=k p g;have L:ah j t0 p=-ah t0 j p:=by unfold ah;grind
  refine (fo _ _ _).mpr ⟨by lia,qd (W.least p f),qd ?_⟩;rcases W.most p f with z |z
  .exact .inl z.symm
  .exact .inr z
 .rw[cw n];have:(ST.srt l).length=1:=by have:=Mp f;lia
  obtain⟨a,o⟩:=MV.mp this;rw[o]at f |-;exact (jc _ _).mpr (K9.mp f)
def W25:List P2:=(LP 25).map λk=>(((k%5:Nat):Int),((k/5:Nat):Int))
theorem GG:W25.Nodup:=by decide+kernel
def Wi(p:P2):Prop:=(0<=p.1/\p.1<=4)/\0<=p.2/\p.2<=4
theorem Dy(h:Wi p):p∈W25:=by
 unfold Wi at h;refine KZ.mpr ⟨p.1.toNat+5*p.2.toNat,Lx.mpr (by omega),Mo ?_ ?_⟩ <;>(dsimp only;omega)
theorem IL(F:Fld l)(a:∀p∈l,Wi p)(h:cS l p=true):Wi p:=by
 have b:=(dU F.ne).mp (F.in_box h);have c:l.map (·.1)≠[]:=by simpa using F.ne
 have hy:l.map (·.2)≠[]:=by simpa using F.ne
 obtain⟨f,g,q⟩:=KZ.mp (bT c).1;obtain⟨e,k,o⟩:=KZ.mp (dt c).1;obtain⟨m,d,v⟩:=KZ.mp (bT hy).1;obtain⟨i,j,s⟩:=KZ.mp (dt hy).1;have t:=a f g;have u:=a e k;have n:=a m d;have r:=a i j;unfold loX hiX loY hiY at b;unfold Wi at *;omega
theorem CO(ns)(h:Wi p):Szp 103 (mvp ns p):=by
 have a:=AA ns;have s:=A8 ns;have b:Sz 8 p.1:=by unfold Wi at h;unfold Sz;lia
 have c:Sz 8 p.2:=by unfold Wi at h;unfold Sz;lia
 exact⟨(L2.Sz.add' (b.mono (n:=101) (by decide)) a).mono (by decide),(L2.Sz.sub' ((L2.Sz.add' (c.mono (n:=16) (by decide)) (L2.Sz.mul s b)).mono (n:=101) (by decide)) a).mono (by decide)⟩
structure K81(ns:List Int)(pts l:List P2):Prop where
 O:iH l
 pn:pts≠[]
 pl:pts.length=nP ns
 cl:aq l=l
 ps:∀p∈pts,Szp 103 p
 ls:∀p∈l,Szp 103 p
 fi:∀p∈pts,p∈aU l
 l56:l.length<=56
theorem HV(ns):K81 ns ((gC ns).map (mvp ns)) (aq ((gC ns).map (mvp ns))):=by
 have G:=wX ns;have bl:(gC ns).length=nP ns:=by unfold gC;simp
 have t:∀p∈gC ns,Wi p:=λp a=>by
  obtain⟨i,_,rfl⟩:=KZ.mp a;exact B4 _ _
 have s:gC ns≠[]:=λe=>by rw[e]at bl;simp at bl;lia
 have g:Fld (aq (gC ns)):=⟨jY s,j_ _⟩;have d:∀p∈aq (gC ns),Wi p:=λp a=>t p (b6 _ p a);have C:=lN (gC ns);have z:∀p∈gC ns,cS (aq (gC ns)) p=true:=λp a=>CZ a;rw[uM];generalize gC ns=B at *;generalize aq B=b at *;have k:(1:Int) *1-0*slt ns=1\/(1:Int) *1-0*slt ns=-1:=.inl (by lia)
 have o:b.map (mvp ns)=aq (b.map (ap 1 0 (slt ns) 1 (asd ns) (-asd ns))):=by
  rw[<-NI λp _=>n5 ns p,uM,g.cr]
 have F:Fld (b.map (mvp ns)):=by rw[o];exact Bk _ _ g
 have v:∀q,cS (b.map (mvp ns)) (mvp ns q)=cS b q:=λq=>by rw[o,n5];exact F_ _ _ k g q
 have E:(W25.filter λp=>cS b p).length<=25:=Mh (Om _ _) (by decide);have n:(W25.filter λp=>cS b p).Nodup:=GG.sublist QK;have inj:∀{x y},mvp ns x=mvp ns y->x=y:=λ{x y} e=>by rw[n5,n5]at e;exact HN k e
 have D:∀p,p∈(W25.filter λp=>cS b p).map (mvp ns)↔p∈aU (b.map (mvp ns)):=λp=>by
  rw[bM F];obtain⟨q,rfl⟩:=HI (e:=asd ns) (f:=-asd ns) k p;rw[<-n5,v];constructor
  .intro h;obtain⟨r,A,e⟩:=KZ.mp h;rw[<-inj e];exact (LW.mp A).2
  .intro h;exact KZ.mpr ⟨q,LW.mpr ⟨Dy (IL g d h),h⟩,rfl⟩
 have l:((W25.filter λp=>cS b p).map (mvp ns)).Nodup:=LY.mpr (n.imp λ{x y} h e=>h (inj e));have m:(aU (b.map (mvp ns))).Nodup:=(cC _).imp λ{x y} h e=>by subst e;exact aM _ h
 have fl:(aU (b.map (mvp ns))).length<=25:=by
  have:=((MU l m).mpr D).length_eq;rw[KI]at this;lia
 have u:∀p∈b.map (mvp ns),Szp 103 p:=λp a=>by
  obtain⟨q,j,rfl⟩:=KZ.mp a;exact CO ns (d q j)
 have w:(b.map (mvp ns)).length<=56:=by rw[KI];lia
 refine⟨⟨F,by lia,λp a=>(u p a).mono (by decide),?_,by lia,λ_=>Al (by lia)⟩,by simpa using s,by rw[KI];exact bl,F.cr,λp a=>?_,u,λp a=>?_,w⟩
 .rw[o,Hf _ _ k g];exact D7 (c:=(0,0)) g λp a=>by have:=d p a;unfold Wi at this;unfold InB;dsimp only;lia
 .obtain⟨q,j,rfl⟩:=KZ.mp a;exact CO ns (t q j)
 .obtain⟨q,j,rfl⟩:=KZ.mp a;rw[bM F,v];exact z q j
theorem BH(p):scl 1 p=p:=Mo (M6 _) (M6 _)
theorem G_(O:iH l)(f:q∈di l):∃x∈q,inK 1 q x=true:=by
 match l,O,f with
 |[],O,_=>exact absurd rfl O.F.ne
 |[A],O,f=>
  have e:di [A]=[[A]]:=rfl;rw[K9.mp f];exact⟨A,by simp,rG.mpr (BH A).symm⟩
 |[A,B],O,f=>
  obtain⟨a,b,rfl,s,j,h,_⟩:=fZ (cC _) f;refine⟨a,by simp,(lI (by decide) h).mpr ⟨?_,?_,?_⟩⟩
  .rw[cD];exact (i5 a b a).1
  .rw[BH];exact qd (.inl rfl)
  .rw[BH];exact qd (.inr h)
 |A::B::C::r,O,f=>
  have i:3<=(A::B::C::r).length:=by simp
  have e:di (A::B::C::r)=(SG.srt ST3.KT (pcs (A::B::C::r))).map λt=>[t.1,t.2.1,t.2.2]:=by unfold di;rw[if_neg (by simp),if_neg (by simp)]
  obtain⟨t,g,rfl⟩:=KZ.mp f;obtain⟨R,_⟩:=C6 O.F i ((SG.srt_mem _ _ _).mp g);refine⟨t.1,by simp,(lR (by decide) R.c).mpr ?_⟩;obtain⟨m,p,k,o⟩:=i5 t.1 t.2.1 t.2.2;have n:=R.d;have u:ah t.2.2 t.1 t.1=0:=by unfold ah;grind
  rw[cD,cD,cD];refine⟨by lia,by lia,by lia⟩
theorem Hb(O:iH l):iu [lp l,.int 0,pu (0,0)] (.new (([]:List ST3.PQ).map qU)):=by
 obtain⟨B,g⟩:∃x,x∈aU l:=by
  obtain⟨p,o⟩:=Q5 _ O.F.ne;exact⟨p,(bM O.F p).mpr (by have:=CZ o;rw[O.F.cr]at this;exact this)⟩
 obtain⟨C,G,E,_,j,_⟩:=ug O g
 obtain⟨q,r,e⟩:∃q r,di l=q::r:=by
  cases h:di l with
  |nil=>rw[h]at j;simp at j
  |cons q r=>exact⟨q,r,rfl⟩
 have i:q∈di l:=by rw[e];simp
 obtain⟨x,s,A⟩:=G_ O i;obtain⟨u,k,v,c,f,n,_,D,_⟩:=ug O ((lP O.F i).2.2 x s)
 have:u=[]/\k=q:=by
  cases u with
  |nil=>rw[e,R7]at f;exact⟨rfl,(VP f).1.symm⟩
  |cons y u=>
   rw[e,OK]at f;have:=n y (by simp)
   rw[<-(VP f).1,A]at this;cases this
 obtain⟨rfl,rfl⟩:=this;have t:=(lP O.F i).1
 have w:tell c 0 (0,0)=[]:=by
  obtain⟨a,b,d,rfl⟩:=tZ D.W;have z:∀u v,dk 0 u v (0,0)=0:=λu v=>by unfold dk;dsimp only;grind
  have e:wts [a,b,d] 0 (0,0)=[(a,0),(b,0),(d,0)]:=by show [(a,dk 0 b d (0,0)),(b,dk 0 d a (0,0)),(d,dk 0 a b (0,0))]=_;rw[z,z,z]
  unfold tell;rw[e];rfl
 refine⟨l,0,(0,0),[],k,v,c,rfl,O,by decide,Sz.mono (m:=8) (by decide) (by decide),⟨Sz.mono (m:=8) (by decide) (by decide),Sz.mono (m:=8) (by decide) (by decide)⟩,f,by simp,?_,D.W,D.sz,D.nd,by rw[w]⟩;unfold inK;rw[yR t]
 decide
theorem G8:∀{L:List Int},(∀n∈L,Sz m n)->L.length<=60->Sz (m+6) L.sum:=λ{L} h d=>by
 have b:∀L:List Int,(∀n∈L,Sz m n)->L.sum.natAbs<=L.length*2 ^ m:=λL=>by
  induction L with
  |nil=>intro _;simp
  |cons a L f=>
   intro h;have i:=f λn g=>h n (KN _ g);have c:=h a K0;unfold Sz at c;rw[Mg,Lk,Va,S8];omega
 have k:=b L h;unfold Sz;have:L.length*2 ^ m<=60*2 ^ m:=Ov _ d;have e:2 ^ (m+6)=64*2 ^ m:=by rw[Wf];omega
 have p:0<2 ^ m:=Nat.pos_of_ne_zero (by simp);omega
theorem uZ:∀{z},(∀e∈z,1<=e.2)->(z.length:Int)<=sN z/\∀e∈z,e.2<=sN z
 |[],_=>⟨by unfold sN;simp,λe a=>by cases a⟩
 |y::z,h=>by
  obtain⟨d,c⟩:=uZ λe a=>h e (KN _ a);have hy:=h y K0;have b:sN (y::z)=y.2+sN z:=by unfold sN;simp
  rw[b];refine⟨by rw[Lk];lia,λe a=>?_⟩;rcases KO.mp a with rfl |k
  .lia
  .have:=c e k;lia
def tmI(ns:List Int)(i:Nat):Int:=mnV (cel ns ((0+(i:Int))+4))
def tmL(ns:List Int):List Int:=(LP (nP ns)).map (tmI ns)
def zL(ns:List Int):List ST3.PQ:=SK ((gC ns).map (mvp ns)) (tmL ns)
structure Z81(ns:List Int)(l:List P2)(z:List ST3.PQ):Prop where
 hz:∀e∈z,e.1∈aU l/\0<=e.2
 len:z.length=nP ns
 kp:0<sN z
 sk:Sz 74 (sN z)
 sx:Szp 177 (sX z,sY z)
 le:∀e∈z,e.2<=sN z
 sm:(tmL ns).sum=sN z
theorem GH(K:K81 ns ((gC ns).map (mvp ns)) l):Z81 ns l (zL ns):=by
 have r:=wX ns
 have c:(zL ns).length=nP ns:=by
  unfold zL;rw[List.length_zip,K.pl];unfold tmL;simp
 have b:∀e∈zL ns,e.1∈(gC ns).map (mvp ns)/\1<=e.2/\Sz 68 e.2:=λe a=>by
  obtain⟨q,p⟩:=QC (show (e.1,e.2)∈_ from a);refine⟨q,?_⟩;obtain⟨i,_,h⟩:=KZ.mp p;rw[<-h];exact Gu _
 have d:∀{m:Nat} (f:ST3.PQ->Int),(∀e∈zL ns,Sz m (f e))->Sz (m+6) ((zL ns).map f).sum:=λf k=>G8 (λn o=>by obtain⟨e,a,rfl⟩:=KZ.mp o;exact k e a) (by rw[KI];lia);have j:=K.ps;have g:=uZ λe a=>(b e a).2.1;refine⟨λe a=>⟨K.fi _ (b e a).1,by have:=(b e a).2.1;lia⟩,c,by have:=g.1;lia,d (λe=>e.2) λe a=>(b e a).2.2,⟨?_,?_⟩,g.2,?_⟩
 .exact d (λe=>e.1.1*e.2) λe a=>L2.Sz.mul (j _ (b e a).1).1 (b e a).2.2
 .exact d (λe=>e.1.2*e.2) λe a=>L2.Sz.mul (j _ (b e a).1).2 (b e a).2.2
 .unfold sN zL;rw[show (λx:ST3.PQ=>x.2)=QX from rfl,List.map_snd_zip (by rw[K.pl];unfold tmL;simp)]
theorem Bx:∀a b,dw (a.map pu) (b.map U.int)=(SK a b).map qU
 |[],_=>by simp[dw]
 |_::_,[]=>by simp[dw]
 |p::a,n::b=>by rw[Lb,Lb,dw,Bx a b];rfl
theorem nm1(c)(d:97<=c)(b:c<=122):Nm [c]:=⟨K1 1,show 1<=8 by decide,λx a=>by rw[K9.mp a];exact⟨d,b⟩⟩
structure Fst(w:List Nat):Prop where
 fr:32 ∉ w
 ln:w.length<=123
 tb:(ij gm (T' w)).isSome=true
 nn:eqW (sT w) (.str "names")=false
 nd:eqW (sT w) (.str "drop")=false
theorem aaP:Fst gi:=⟨by decide,by decide,by decide+kernel,by decide+kernel,by decide+kernel⟩
theorem abb:Fst rY:=⟨by decide,by decide,by decide+kernel,by decide+kernel,by decide+kernel⟩
theorem Hq:Fst sZ:=⟨by decide,by decide,by decide+kernel,by decide+kernel,by decide+kernel⟩
theorem aaQ:Fst mO:=⟨by decide,by decide,by decide+kernel,by decide+kernel,by decide+kernel⟩
theorem CA:Fst oo:=⟨by decide,by decide,by decide+kernel,by decide+kernel,by decide+kernel⟩
inductive Rds (WB:List (Str×U)):List Str->List (List Nat)->List U->Prop
 |nil:Rds WB [] [] []
 |cons {k:Str}{w:List Nat}{g:U}{ks:List Str}{ws:List (List Nat)}{gs:List U}:32 ∉ w->w.length<=123->Rd WB k (T' w) g->Rds WB ks ws gs->Rds WB (k::ks) (w::ws) (g::gs)
section
variable {WB:List (Str×U)}{ks:List Str}{w nm:List Nat}{ws:List (List Nat)}{gs:List U}{u:U}
theorem Rds.ok(h:Rds WB ks ws gs):ks.length=ws.length/\gs.length=ws.length/\(∀x∈ws,32 ∉ x/\x.length<=123)/\∀(i:Nat) k f g,ks[i]?=some k->ws[i]?=some f->gs[i]?=some g->Rd WB k (T' f) g:=by
 induction h with
 |nil=>exact⟨rfl,rfl,by simp,λi k f g j=>by simp at j⟩
 |cons a b c d q=>
  obtain⟨p,o,s,r⟩:=q;refine⟨by simp[p],by simp[o],λx n=>?_,λi k f g j l m=>?_⟩
  .rcases KO.mp n with e |e
   .rw[e];exact⟨a,b⟩
   .exact s x e
  .cases i with
   |zero=>cases j;cases l;cases m;exact c
   |succ i=>exact r i k f g j l m
theorem kj(F:Fst w)(k:jH [.lst ((w::ws).map sT)] (.val (.lst (ks.map U.str))))(n:ws.length<=61)(h:Rds WB ks ws gs):Row WB w ws ks gs:=by
 obtain⟨d,c,b,f⟩:=h.ok;refine⟨k,λx a=>?_,λx a=>?_,n,d,c,f,F.tb,F.nn,F.nd⟩
 .rcases KO.mp a with e |e
  .rw[e];exact F.fr
  .exact (b x e).1
 .rcases KO.mp a with e |e
  .rw[e];exact F.ln
  .exact (b x e).2
theorem sQ(k:m8 w ks)(e:ks.length=ws.length):jH [.lst ((w::ws).map sT)] (.val (.lst (ks.map U.str))):=.inl ⟨w,ws,ks,rfl,k,e,rfl⟩
theorem rd1(n:Nm nm)(a:L2.valU WB (T' nm)=some u)(h:Rds WB ks ws gs):Rds WB (j6::ks) (nm::ws) (u::gs):=.cons n.free (by have:=n.h8;lia) (.one _ _ a) h
theorem rdN(n:Nm nm)(h:Rds WB ks ws gs):Rds WB (ja::ks) (nm::ws) (sT nm::gs):=.cons n.free (by have:=n.h8;lia) (.new _ n) h
theorem DT(F:Fst w)(k:m8 w [j6])(n:Nm nm)(a:L2.valU WB (T' nm)=some u):Row WB w [nm] [j6] [u]:=kj F (sQ k rfl) (by simp) (rd1 n a .nil)
theorem xa:∀{a:List P2},(∀p∈a,B60 p)->Rds WB (LD a.length kP) (a.map ptD) (a.map pu)
 |[],_=>.nil
 |p::r,h=>by
  have hp:=h p K0;exact .cons (oj p) (fC hp) (.pnt _ hp) (xa λq b=>h q (KN _ b))
theorem Ah(c:Nm nm)(d:pts≠[])(e:pts.length<=60)(b:∀p∈pts,B60 p):Row WB gi (nm::pts.map ptD) (ja::LD pts.length kP) (sT nm::pts.map pu):=by
 have a:=LF.mpr d;refine kj aaP (.inr ⟨nm::pts.map ptD,rfl,by simp;lia,by simp;lia,?_⟩) (by simp;lia) (rdN c (xa b));rw[Lb,List.map_replicate];simp
theorem vy(a:n.natAbs<10 ^ 60)(h:Rds WB ks ws gs):Rds WB (kK::ks) (ds n::ws) (.int n::gs):=.cons (fE n (by lia)) (by have:=cL (k:=60) (by decide) a;lia) (.num _ a) h
theorem wn(a:B60 p):Rds WB [kP] [ptD p] [pu p]:=.cons (oj p) (fC a) (.pnt _ a) .nil
end
theorem nL(a:m<=190)(h:Szp m p):B60 p:=by
 have k:∀{n:Int},Sz m n->n.natAbs<10 ^ 60:=λ{n} h=>Ls (show n.natAbs<2 ^ 190 from by have:=h.mono a;unfold Sz at this;omega) (by decide+kernel);exact⟨k h.1,k h.2⟩
theorem wu(a)(b)(h:b≠[]):∀c,T' (a++32::(c.flatMap λw=>w++[32]))++T' (jn b)=T' (jn (a::(c++b))):=λc=>by
 rw[fN];refine congrArg T' ?_
 induction c generalizing a with
 |nil=>rw[R7,jK _ h];simp
 |cons w c d=>
  rw[OK,jK _ (by simp),<-d w];simp
theorem Iq:(Str.ofString "field a ":Str)=T' (gi++32::([[97]].flatMap λw=>w++[32])):=by decide+kernel
theorem Ja:(Str.ofString "tell a ":Str)=T' (oo++32::([[97]].flatMap λw=>w++[32])):=by decide+kernel
theorem IW:(Str.ofString "fold b a ":Str)=T' (rY++32::([[98],[97]].flatMap λw=>w++[32])):=by decide+kernel
theorem JJ:(Str.ofString "where b ":Str)=T' (mO++32::([[98]].flatMap λw=>w++[32])):=by decide+kernel
theorem IO:(Str.ofString "show a":Str)=T' (jn [sZ,[97]]):=by decide+kernel
theorem IH:(Str.ofString "tell a 0 0,0":Str)=T' (jn [oo,[97],ds 0,ptD (0,0)]):=by decide+kernel
theorem JE(a b):T' a++(Str.ofString " ":Str)++T' b=T' (a++32::b):=by
 rw[show (Str.ofString " ")=T' [32] from rfl,fN,fN];simp
def kv1(u:U):List (Str×U):=oP [] (T' [97]) u
def kv2(u v:U):List (Str×U):=oP (kv1 u) (T' [98]) v
theorem v1a(u):L2.valU (kv1 u) (T' [97])=some u:=by simp[kv1,oP,L2.valU]
theorem v2b(u v):L2.valU (kv2 u v) (T' [98])=some v:=by simp[kv2,kv1,oP,L2.valU]
theorem Jk(h:∀u∈ys,∃m,u=.tup m)(P:X.A.units+10<NZ):OpS X (LX .In) .non (.lst ys) (.bl false):=by
 intro M s O H v w e f Q I z x t;obtain⟨o,L,B⟩:=t;cases o;cases z;cases L with
 | @lst a l _ p K C=>
  cases x;obtain⟨its,j,n,_⟩:=I.list (SqL.of p);refine SeqAt.in_listAt (λ_=>false) n.isList (λy hy=>?_) (by rw[show its.toArray.any (λ_=>false)=false by simp];exact i9 I B rfl);obtain⟨i,g⟩:=Lz.mp (show y∈its by simpa using hy);have d:i<l.length:=by rw[j.length];exact aK g
  obtain⟨u,k,q⟩:=j.get (KJ d);rw[g]at k;cases k;have c:i<ys.length:=by rw[<-K];exact d
  have r:=C i _ ys[i] (KJ d) (KJ c);obtain⟨m,D⟩:=h ys[i] (Po _);rw[D]at r;generalize l[i]=v at *;cases r with
  | @tup b N _ F R J=>
   cases q;obtain⟨G,S,E,_⟩:=I.tuple F;exact SeqAt.EqAt.tuple_none E (show X.A.units+1<NZ by lia)
theorem FG{l:List P2}(h:∀p∈l,B60 p)(c:l.length<=61):(jn (l.map ptD)).length<=8200:=CC (λw b=>by obtain⟨p,a,rfl⟩:=KZ.mp b;exact fC (h p a)) (by simp;lia)
theorem GU(f:l≠[])(h:cS l p=true):¬ whr l p<0:=by
 have c:=LF.mpr f;by_cases m:l.length<3
 .rcases (show l.length=1\/l.length=2 by lia) with e |e
  .obtain⟨a,rfl⟩:=MV.mp e;rw[FE e,if_pos (show decide (p=gp [a] 0)=true from decide_eq_true ((jc _ _).mp h))];decide
  .obtain⟨a,b,rfl⟩:=rR e;obtain⟨d,i,j⟩:=(fo _ _ _).mp h;rw[FW e,if_pos (show btw (gp [a,b] 0) (gp [a,b] 1) p=true by show btw a b p=true;unfold btw;rw[decide_eq_true d,i,j];rfl)];decide
 .unfold whr;rw[if_neg m];have:=(gB (by lia) p).mp h;have k:gH l p≠[]:=λe=>by have:=congrArg Pu e;simp[gH,fB]at this;rw[this]at c;simp at c
  obtain⟨s,g,e⟩:=KZ.mp (bT k).1;have:=this s g;rw[<-e];unfold sgn;split <;>(try split) <;>lia
theorem Fx(h:¬ n<0):eqW (sT (plT n)) (.str "out")=false:=by
 unfold plT;rw[if_neg h];split <;>decide+kernel
theorem GO:OkD P w base T.abo 14 (jh):=by
 refine okD bU (by walk_at"ln") ?_;rintro _ _ _ g ⟨ns,rfl,h63,hB,rfl⟩;have hN:=wX ns;have K:=HV ns;have Z:=GH K;have r:(tmL ns).length=nP ns:=by unfold tmL;simp
 have I:dw (((gC ns).map (mvp ns)).map pu) ((tmL ns).map U.int)=(zL ns).map qU:=Bx _ _;have pl:=K.pl;refine ae (aA 1 bU.nd (EvN.ev (dy (ox T) g (ac (aa 0 rfl) aj af) ⟨ns,rfl,h63,hB,rfl⟩)) ?_);generalize (gC ns).map (mvp ns)=a at *;refine ae (aA 2 bU.nd (EvN.ev (dy (lu T) g (ac (aa 1 rfl) aj af) ⟨a,rfl,λp d=>(K.ps p d).mono (by decide),by lia,rfl⟩)) ?_);generalize hl:aq a=l at *;have O:=K.O;have Q:=O.F.ne;have pn:=K.pn;have l56:=K.l56;have pb:∀p∈a,B60 p:=λp d=>nL (by decide) (K.ps p d);have lb:∀p∈l,B60 p:=λp d=>nL (by decide) (K.ls p d);have jl:=FG pb (by lia);have Fl:Fit l:=⟨Q,by lia,λp d=>(K.ls p d).mono (by decide),lb⟩
 have ok1:(!eqW (.str "ok") (.str "ok"))=false:=by decide+kernel
 have eqr:∀x:Str,eqW (.str x) (.str x)=true:=λx=>by rw[eqS];exact decide_eq_true rfl
 have na:=nm1 97 (by decide) (by decide);have nb:=nm1 98 (by decide) (by decide);refine ae (GK (i:=3) T.aaf.m ((EN T).mono (by decide)) g rfl T.abx T.aaf.b kT bU.nd rfl (Or.inl rfl) (λN E=>?_));show Ws _ _ _ _ _ _ [some (.val (.scr (ns.map U.int))),some (.val (lp a)),some (.val (lp l)),some (.dsk true T.aac N E []),none,none,none,none,none,none,none,none,none,none,none,none,none,none];have sa:fX E (kv1 (lp l)) [.str "show a"] (.val (sT (jn (l.map ptD)))):=⟨sZ,[[97]],j6,[],[lp l],_,by rw[IO],DT Hq HL na (v1a _),by decide+kernel,.show_ l Fl,rfl⟩
 refine ae (Gb (TwK.t (FR (jr ok1 (B1 (pS g) (vo (i:=3) rfl T.aae T.aab.m ((xJ T).mono (by decide)) g T.aab.b kT (ac (eC aF (aQ (dY T) g (ac (aa 1 rfl) aj af) ⟨a,rfl,pb,by lia,rfl⟩) (by rw[aW];exact Mh (QH jl _) (by decide+kernel))) aj be) ⟨gi,[97],a.map ptD,_,_,l,by rw[Iq,wu _ _ (by simpa using pn)] <;>rfl,Ah na pn (by lia) pb,by decide,.inl ⟨a,rfl,λp d=>(K.ps p d).mono (by decide),by lia,pn,by rw[hl]⟩,Q,by lia,lb,rfl⟩) aF)) (A7 (jr (c:=!eqW (sT (jn (l.map ptD))) (sT (jn (l.map ptD)))) (by rw[eqr];rfl) (FL ?t1))))) ?_)
 case t1=>
  show Tt _ _ _ [some (.val (.scr (ns.map U.int))),some (.val (lp a)),some (.val (lp l)),some (.dsk true T.aac N E (kv1 (lp l))),none,none,none,none,none,none,none,none,none,none,none,none,none,none] _ _;exact (au (pS g) (Ae (lU T) 3 T.aae g rfl (ac aF aj aX) sa) (aQ (dY T) g (ac (aa 2 rfl) aj af) ⟨l,rfl,lb,by lia,rfl⟩))
 refine ay ?_;show Ws _ _ _ _ _ _ [some (.val (.scr (ns.map U.int))),some (.val (lp a)),some (.val (lp l)),some (.dsk true T.aac N E (kv1 (lp l))),none,none,none,none,none,none,none,none,none,none,none,none,none,none];have hm:((a.map pu).length:Int)=(a.length:Int):=by rw[KI]
 refine ae (ff (ys:=((tmL ns).map U.int)) (j:=4) false rfl bU.nd rfl (Or.inl rfl) (blk (ai kR) ["script","points","land","desk","times_v","k","many","x","p","count_of","point","answer_v","pairs","word","spot","often","u","v"] [5] rfl rfl rfl rfl (by decide+kernel)) (EvI.z (mR rfl T.aan (ac (ao (bj rfl) rfl T.aaa Ld (ac (aa 1 rfl) aj af)) aj a9) (by rw[hm];lia) (by rw[hm];lia))) (λ_ _ _ _=>aB (i:=5) bU.nd rfl (Or.inl rfl)) (bS (by decide)) ?clen ?csz (λ_ _=>trivial) ?celt ?_)
 case clen=>rw[KI,r,b_,hm];lia
 case csz=>rw[b_,hm];exact La (am (by lia))
 case celt=>
  intro C V H' X j x y o hy;obtain⟨hi,rfl⟩:=dN o;have WS:j<nP ns:=by lia
  unfold tmL at hy;rw[Lh,K5,NC WS]at hy;cases hy;exact (aQ (p7 T) g (ac (aa 0 rfl) (ac (cR (aa 5 rfl) ag) aj be) af) ⟨ns,_,rfl,h63,hB,by lia,by lia,rfl⟩)
 have tz:∀(i:Nat) (x:U),((zL ns).map qU)[i]?=some x->∃e∈zL ns,x=qU e:=λi x o=>by
  obtain⟨e,_,s,rfl⟩:=qB o;exact⟨e,s,rfl⟩
 have zl:=Z.len;have ps:=K.ps
 have G:∀e∈zL ns,Szp 300 e.1/\Sz 300 e.2:=λe f=>⟨(O.f150 _ (Z.hz e f).1).mono (by decide),by
  have h1:=(Z.hz e f).2;have Y:Sz 74 (sN (zL ns)):=Z.sk
  exact Sz.mono (m:=74) (by
   have h3:=Z.le e f;unfold Sz at Y |-;lia) (by decide)⟩
 have lz:((a.map pu).length=((tmL ns).map U.int).length):=by rw[KI,KI,r];exact pl
 refine ae (xg (i:=6) bU.nd rfl (Or.inr rfl) (ao (gQ rfl (ns:=tmL ns)) rfl T.aaN Rx (ac (aa 4 rfl) aj af)) ?_);have eN:(tmL ns).sum=sN (zL ns):=Z.sm;rw[eN];generalize hz0:zL ns=z at *;generalize tmL ns=tm at *;refine ae (aA 7 bU.nd (ao (gQ rfl (ns:=z.map λe=>e.1.1*e.2)) rfl T.aaN Rx (ac (EvN.ev (bv (ys:=(z.map λe=>e.1.1*e.2).map U.int) rfl (blk (ai kR) ["script","points","land","desk","times_v","k","many","x","p","count_of","point","answer_v","pairs","word","spot","often","u","v"] [8,9] rfl rfl rfl rfl (by decide+kernel)) (by exact l9 rfl T.aa3 (aa 1 rfl) (.inl rfl) (aa 4 rfl) (.inl rfl) lz af af) (λ_ _ _ _=>c6 rfl (aC (aB (i:=8) bU.nd rfl (Or.inl rfl)) (aC (aB (i:=9) bU.nd rfl (Or.inl rfl)) bO))) (cy (js:=[8,9]) (by decide)) ?clen ?csz ?dom ?celt)) aj bF)) ?_)
 case clen=>rw[I];simp
 case csz=>rw[I,KI];exact La (am (by lia))
 case dom=>
  rw[I];intro x o;obtain⟨e,rfl⟩:=nD o;exact⟨_,rfl,rfl⟩
 case celt=>
  rw[I,Lh];intro C V H' X j x y o hy;obtain⟨e,f,s,rfl,rfl⟩:=bG o hy;have h1:=(G e s).1.1;have Y:=(G e s).2;exact (aY (aw (aa 8 rfl) ag rfl rfl) (aa 9 rfl) (by walk_at"mul"))
 refine ae (aA 10 bU.nd (bD (av (aa 7 rfl) (av (ao (gQ rfl (ns:=z.map λe=>e.1.2*e.2)) rfl T.aaN Rx (ac (EvN.ev (bv (ys:=(z.map λe=>e.1.2*e.2).map U.int) rfl (blk (ai kR) ["script","points","land","desk","times_v","k","many","x","p","count_of","point","answer_v","pairs","word","spot","often","u","v"] [8,9] rfl rfl rfl rfl (by decide+kernel)) (by exact l9 rfl T.aa3 (aa 1 rfl) (.inl rfl) (aa 4 rfl) (.inl rfl) lz af af) (λ_ _ _ _=>c6 rfl (aC (aB (i:=8) bU.nd rfl (Or.inl rfl)) (aC (aB (i:=9) bU.nd rfl (Or.inl rfl)) bO))) (cy (js:=[8,9]) (by decide)) ?clen ?csz ?dom ?celt)) aj bF)) a_ a9) af)) ?_)
 case clen=>rw[I];simp
 case csz=>rw[I,KI];exact La (am (by lia))
 case dom=>
  rw[I];intro x o;obtain⟨e,rfl⟩:=nD o;exact⟨_,rfl,rfl⟩
 case celt=>
  rw[I,Lh];intro C V H' X j x y o hy;obtain⟨e,f,s,rfl,rfl⟩:=bG o hy;have h1:=(G e s).1.2;have Y:=(G e s).2;exact (aY (aw (aa 8 rfl) ag rfl rfl) (aa 9 rfl) (by walk_at"mul"))
 obtain⟨u,q,v,c,h1,Y,h3,D⟩:=tL O Z.hz Z.kp;have kp:=Z.kp;have R:=Z.sk;have sx:=Z.sx;have L:=D.T;have qin:=lP O.F (show q∈di l by rw[h1];simp);have B:∀e∈tell c (sN z) (sX z,sY z),e.1∈aU l:=λe f=>qin.2.2 _ (D.mem e f);have M:=L.pos
 have tsz:∀e∈tell c (sN z) (sX z,sY z),Sz 74 e.2:=λe f=>by
  have i1:=(uZ M).2 e f;have i2:=M e f;rw[L.n]at i1;unfold Sz at R |-;lia
 have Ym:iu [lp l,.int (sN z),pu (sX z,sY z)] (.new ((tell c (sN z) (sX z,sY z)).map qU)):=⟨l,sN z,(sX z,sY z),u,q,v,c,rfl,O,by lia,R.mono (by decide),sx.mono (by decide),h1,Y,h3,D.W,D.sz,D.nd,rfl⟩
 have n60:∀{n:Int},Sz 74 n->n.natAbs<10 ^ 60:=λ{n} h=>Ls (show n.natAbs<2 ^ 74 from by unfold Sz at h;lia) (by decide+kernel);have S:∀e∈tell c (sN z) (sX z,sY z),B60 e.1/\e.2.natAbs<10 ^ 60:=λe f=>⟨nL (by decide) (O.f150 _ (B e f)),n60 (tsz e f)⟩
 have t1:1<=(tell c (sN z) (sX z,sY z)).length:=by
  cases e:tell c (sN z) (sX z,sY z) with
  |nil=>have:=L.n;rw[e]at this;have z0:sN ([]:List ST3.PQ)=0:=rfl;lia
  |cons _ _=>simp
 have tp:sN (tell c (sN z) (sX z,sY z))=sN z/\sX (tell c (sN z) (sX z,sY z))=sX z/\sY (tell c (sN z) (sX z,sY z))=sY z:=⟨L.n,L.x1,L.y1⟩;have J:=L.len;have near:=L.near;generalize tell c (sN z) (sX z,sY z)=r at *;obtain⟨tp1,tp2,tp3⟩:=tp;generalize hk:sN z=k at *;show Ws _ _ _ _ _ _ [some (.val (.scr (ns.map U.int))),some (.val (lp a)),some (.val (lp l)),some (.dsk true T.aac N E (kv1 (lp l))),some (.val (.lst (tm.map U.int))),none,some (.val (.int k)),some (.val (.int (sX z))),none,none,some (.val (pu (sX z,sY z))),none,none,none,none,none,none,none];generalize o:(sX z,sY z)=x at *;have A:B60 x:=nL (by decide) sx;have H:k.natAbs<10 ^ 60:=n60 R;have lk:(ds k).length<=61:=cL (by decide) H;have lx:=fC A;have jx:(jn ([x].map ptD)).length<=8200:=FG (λp d=>by rw[K9.mp d];exact A) (by simp);have shx:tI [lp [x]] (.val (sT (jn ([x].map ptD)))):=⟨[x],rfl,λp d=>by rw[K9.mp d];exact A,by simp,rfl⟩
 have bk:=wv (MG H (show 10 ^ 60<10 ^ 62 by decide+kernel));have tne:r≠[]:=LF.mp t1
 have ta:fX E (kv1 (lp l)) [.str ((Str.ofString "tell a ":Str)++Str.ofString (NY k)++(Str.ofString " ":Str)++T' (jn ([x].map ptD)))] (.val (sT (jn (r.map tlD)))):=⟨oo,[[97],ds k,ptD x],j6,[kK,kP],[lp l,.int k,pu x],_,by
   rw[kr,Ja,fN _ (ds k),JE];simp[jn],kj CA (sQ Cw rfl) (by simp) (rd1 na (v1a _) (vy H (wn A))),by decide+kernel,.tell l k x r ⟨Ym,J,S⟩,by unfold tlT;rw[if_neg tne]⟩
 have l1:(Str.ofString "tell a ":Str).length=7:=rfl;have l2:(Str.ofString " ":Str).length=1:=rfl;refine ae (aA 11 bU.nd (Ae (lU T) 3 T.aae g rfl ?ax ta) ?_)
 case ax=>exact (ac (eC (eC (eC aF (cG (kA bk) rfl T.aaC QY (ac (aa 6 rfl) aj af)) (by rw[l1,kr,aW];exact La (am (by lia)))) aF (by rw[ir,l1,l2,kr,aW];exact La (am (by lia)))) (aQ (dY T) g (ac (EvN.ev (cE (av (aa 10 rfl) a_ af))) aj vQ) shx) (by rw[ir,ir,l1,l2,kr,aW,aW];exact La (jU (by lia)))) aj be)
 refine ae (aL (iX (gG (ao (fY (by intro _ h;cases h) (gV _)) rfl T.aad O5 (ac (aa 11 rfl) (ac (Aa rfl T.aaC QY) aj af) af)))) rfl (ay ?_))
 have tw:∀w∈r.map tlD,32 ∉ w/\w.length<=185:=λw hw=>by
  obtain⟨e,f,rfl⟩:=KZ.mp hw;refine⟨λh=>?_,rL (S e f).1 (S e f).2⟩;unfold tlD at h;rcases LG.mp h with h |h
  .exact oj _ h
  .rcases KO.mp h with h |h
   .cases h
   .exact fE _ (by lia) h
 have tj:(jn (r.map tlD)).length<=8200:=by
  have:=vE (r.map tlD) λw hw=>(tw w hw).2;rw[KI]at this;have:r.length*(185+1)<=3*186:=Ov _ J;lia
 have spt:spl 32 (jn (r.map tlD))=r.map tlD:=vT (by simpa using tne) λw hw=>(tw w hw).1;refine ae (ff (ys:=(r.map qU)) (j:=12) false rfl bU.nd rfl (Or.inl rfl) (blk (ai kR) ["script","points","land","desk","times_v","k","many","x","p","count_of","point","answer_v","pairs","word","spot","often","u","v"] [13] rfl rfl rfl rfl (by decide+kernel)) (EvI.z (bL (EvN.ev (mU (c:=32) (aa 11 rfl) aF aX (sz2 tj) rfl)) (.inl rfl))) (λ_ _ _ _=>aB (i:=13) bU.nd rfl (Or.inl rfl)) (bS (by decide)) ?clen ?csz (λ_ _=>trivial) ?celt ?_)
 case clen=>rw[spt];simp
 case csz=>rw[spt];simp;exact La (am (by lia))
 case celt=>
  rw[spt,Lh];intro C V H' X j w y o hy;obtain⟨e,f,s,rfl,rfl⟩:=bG o hy;exact (aQ (qu T) g (ac (aa 13 rfl) aj af) ⟨e,rfl,(S e s).1,(S e s).2,M e s,rfl⟩)
 have tq:∀u∈r.map qU,∃zs,u=.tup zs:=λu hu=>by obtain⟨e,rfl⟩:=nD hu;exact⟨_,rfl⟩
 have tzs:IK r:=⟨by lia,λe f=>⟨(O.f150 _ (B e f)).mono (by decide),(tsz e f).mono (by decide)⟩⟩
 have cm:nB [.lst (r.map qU),.int k,pu x] (.val (.bl true)):=⟨r,by rw[tp1,tp2,tp3,o],tzs,rfl⟩
 refine ae (aL (Tw.t (lG (au (Jk tq (fU g)) F3 (aa 12 rfl)) (λhz=>(lG (iX (gG (aQ (oN T) g (ac (aa 12 rfl) (ac (aa 6 rfl) (ac (aa 10 rfl) aj af) af) af) cm))) (λhz=>(jv (iX (gG (aQ (p8 T) g (ac (EvN.ev (bv (ys:=((r.map (·.1)).map pu)) rfl (blk (ai kR) ["script","points","land","desk","times_v","k","many","x","p","count_of","point","answer_v","pairs","word","spot","often","u","v"] [14,15] rfl rfl rfl rfl (by decide+kernel)) (EvI.z (bL (aa 12 rfl) (.inl rfl))) (λ_ _ _ _=>c6 rfl (aC (aB (i:=14) bU.nd rfl (Or.inl rfl)) (aC (aB (i:=15) bU.nd rfl (Or.inl rfl)) bO))) (cy (js:=[14,15]) (by decide)) ?clen ?csz ?dom ?celt)) aj bF) ⟨r.map (·.1),rfl,near,by simpa using t1,λp d=>by obtain⟨e,f,rfl⟩:=KZ.mp d;exact (O.f150 _ (B e f)).mono (by decide),rfl⟩))))))))) rfl (ay ?_))
 case clen=>simp
 case csz=>rw[KI];exact La (am (by lia))
 case dom=>intro x o;obtain⟨e,rfl⟩:=nD o;exact⟨_,rfl,rfl⟩
 case celt=>
  rw[Lh];intro C V H' X j w y o hy;obtain⟨e,f,s,rfl,rfl⟩:=bG o hy;exact (aa 14 rfl)
 refine ae (fQ (λ_:Unit=>[some (.val (.scr (ns.map U.int))),some (.val (lp a)),some (.val (lp l)),some (.dsk true T.aac N E (kv1 (lp l))),some (.val (.lst (tm.map U.int))),none,some (.val (.int k)),none,none,none,some (.val (pu x)),none,some (.val (.lst (r.map qU))),none,none,none,none,none]) (λ_ _=>True) rfl PassesOwn.never (bL (aa 12 rfl) (.inl rfl)) ?h0 ?hs ?hd)
 case h0=>exact⟨(),trivial,by walk_at"sub"⟩
 case hs=>
  rintro H0 i y _ hy _;rw[K5]at hy;obtain⟨e,f,rfl⟩:=Nx.mp hy;have s:=Lo f;have fz:=O.f150 _ (B e s);refine⟨_,(xU [14,15] rfl (aC (aB (i:=14) bU.nd rfl (Or.inl rfl)) (aC (aB (i:=15) bU.nd rfl (Or.inl rfl)) bO)) rfl),?_⟩;refine ae (aL (au (bN g) (aQ (iW T) g (ac (aa 2 rfl) (ac (aa 14 rfl) aj af) af) ⟨l,e.1,rfl,Q,by lia,λp d=>(K.ls p d).mono (by decide),fz.mono (by decide),rfl⟩) aF) (Fx (GU Q ((bM O.F _).mp (B e s)))) (ay (ay ?_)))
  exact⟨(),trivial,by walk_at"sub"⟩
 case hd=>
  rintro _ ps _ WV;refine d9 ?_ WV;have t0:fX E (kv1 (lp l)) [.str "tell a 0 0,0"] (.val (sT [110,111,110,101])):=⟨oo,[[97],ds 0,ptD (0,0)],j6,[kK,kP],[lp l,.int 0,pu (0,0)],_,by rw[IH],kj CA (sQ Cw rfl) (by simp) (rd1 na (v1a _) (vy (by decide+kernel) (wn ⟨by decide+kernel,by decide+kernel⟩))),by decide+kernel,.tell l 0 (0,0) [] ⟨Hb O,by simp,λe f=>by cases f⟩,rfl⟩
  have fk:j8 [lp l,.int k] (.new ((aq (l.map (scl k))).map pu)):=⟨l,k,rfl,R.mono (by decide),λp d=>(K.ls p d).mono (by decide),Q,by lia,rfl⟩
  have ec:aq (l.map (scl k))=l.map (scl k):=by rw[AQ kp,K.cl]
  have ms:∀p∈l.map (scl k),Szp 177 p:=λp d=>by
   obtain⟨q,hq,rfl⟩:=KZ.mp d;have:=K.ls q hq;exact⟨(L2.Sz.mul R this.1).mono (by decide),(L2.Sz.mul R this.2).mono (by decide)⟩
  have Yw:l.map (scl k)≠[]:=by simpa using Q
  have mb:∀p∈l.map (scl k),B60 p:=λp d=>nL (by decide) (ms p d);have Fm:Fit (l.map (scl k)):=⟨Yw,by rw[KI];lia,λp d=>(ms p d).mono (by decide),mb⟩
  have l3:(Str.ofString "fold b a ":Str).length=9:=rfl;have l4:(Str.ofString "where b ":Str).length=8:=rfl;refine ae (Gb (TwK.t (FR (jr (by decide+kernel) (FL (au (pS g) (Ae (lU T) 3 T.aae g rfl (ac aF aj aX) t0) aF))) (A7 (jr ok1 (B1 (pS g) (vo (i:=3) rfl T.aae T.aab.m ((xJ T).mono (by decide)) g T.aab.b kT (ac (eC aF (cG (kA bk) rfl T.aaC QY (ac (aa 6 rfl) aj af)) (by rw[l3,kr,aW];exact La (am (by lia)))) aj be) ⟨rY,[98],[[97],ds k],[j6,kK],[lp l,.int k],l.map (scl k),by rw[kr,IW,show ds k=jn [ds k] from rfl,wu _ _ (by simp)] <;>rfl,kj abb (sQ GW rfl) (by simp) (rdN nb (rd1 na (v1a _) (vy H .nil))),by simp[kv1,oP],.inr ⟨l,k,rfl,fk,by rw[ec]⟩,Yw,Fm.hl,mb,rfl⟩) aF))))) ?_);refine ay ?_;show Ws _ _ _ _ _ _ [some (.val (.scr (ns.map U.int))),some (.val (lp a)),some (.val (lp l)),some (.dsk true T.aac N E (kv2 (lp l) (lp (l.map (scl k))))),some (.val (.lst (tm.map U.int))),none,some (.val (.int k)),none,none,none,some (.val (pu x)),none,some (.val (.lst (r.map qU))),none,none,none,none,none];have wb:fX E (kv2 (lp l) (lp (l.map (scl k)))) [.str ((Str.ofString "where b ":Str)++T' (jn ([x].map ptD)))] (.val (sT (plT (whr (l.map (scl k)) x)))):=⟨mO,[[98],ptD x],j6,[kP],[lp (l.map (scl k)),pu x],_,by rw[JJ,wu _ _ (by simp)] <;>rfl,kj aaQ (sQ EU rfl) (by simp) (rd1 nb (v2b _ _) (wn A)),by decide+kernel,.where_ _ x Fm (sx.mono (by decide)),rfl⟩
  refine ae (aJ (dH (bN g) (Ae (lU T) 3 T.aae g rfl ?ax wb) (aQ (iW T) g (ac (EvN.ev (bv (ys:=((l.map (scl k)).map pu)) rfl (blk (ai kR) ["script","points","land","desk","times_v","k","many","x","p","count_of","point","answer_v","pairs","word","spot","often","u","v"] [16,17] rfl rfl rfl rfl (by decide+kernel)) (EvI.z (bL (aa 2 rfl) (.inl rfl))) (λ_ _ _ _=>c6 rfl (aC (aB (i:=16) bU.nd rfl (Or.inl rfl)) (aC (aB (i:=17) bU.nd rfl (Or.inl rfl)) bO))) (cy (js:=[16,17]) (by decide)) ?clen ?csz ?dom ?celt)) (ac (aa 10 rfl) aj af) bF) ⟨l.map (scl k),x,rfl,Yw,by rw[KI];lia,λp d=>(ms p d).mono (by decide),sx.mono (by decide),rfl⟩)) ?_)
  case ax=>exact (ac (eC aF (aQ (dY T) g (ac (EvN.ev (cE (av (aa 10 rfl) a_ af))) aj vQ) shx) (by rw[l4,aW];exact La (jU (by lia)))) aj be)
  case clen=>simp
  case csz=>rw[KI];exact La (am (by lia))
  case dom=>
   intro y hy;obtain⟨i,hi⟩:=Lz.mp hy;obtain⟨p,d,mp,rfl⟩:=uK hi;exact⟨_,rfl,rfl⟩
  case celt=>
   rw[Lh];intro C V H' X j w y o hy;obtain⟨p,d,mp,rfl,rfl⟩:=bG o hy;have z1:=(K.ls p mp).1;have z2:=(K.ls p mp).2;show Ev _ _ _ _ _ (pt (k*p.1) (k*p.2));rw[NQ k p.1,NQ k p.2];exact (bD (av (aY (aa 16 rfl) (aa 6 rfl) (by walk_at"mul")) (av (aY (aa 17 rfl) (aa 6 rfl) (by walk_at"mul")) a_ be) be))
  exact vB (eqr _)
end
theorem ar1{b:Ng}{c:List Str}{us:List K3}(h:us.length=1)(q:∀a,Qg b ⟨[a],[]⟩=pure (c.zip [a])):Qg b ⟨us,[]⟩=pure (c.zip us):=by obtain⟨_,rfl⟩:=L2.len1 h;exact q _
theorem ar2{b:Ng}{d:List Str}{us:List K3}(h:us.length=2)(q:∀a c,Qg b ⟨[a,c],[]⟩=pure (d.zip [a,c])):Qg b ⟨us,[]⟩=pure (d.zip us):=by obtain⟨_,_,rfl⟩:=L2.len2 h;exact q _ _
theorem ar3{b:Ng}{d:List Str}{us:List K3}(h:us.length=3)(q:∀a c e,Qg b ⟨[a,c,e],[]⟩=pure (d.zip [a,c,e])):Qg b ⟨us,[]⟩=pure (d.zip us):=by obtain⟨_,_,_,rfl⟩:=L2.len3 h;exact q _ _ _
theorem ar4{c:Ng}{f:List Str}{us:List K3}(h:us.length=4)(q:∀b d g e,Qg c ⟨[b,d,g,e],[]⟩=pure (f.zip [b,d,g,e])):Qg c ⟨us,[]⟩=pure (f.zip us):=by
 cases us with
 |nil=>cases h
 |cons a t=>
  obtain⟨_,_,_,rfl⟩:=L2.len3 (Ur h);exact q _ _ _ _
theorem bd_count{K:KM}{D:Lm}{i k j t:_}(q:K.lookup D=some ⟨.type "tuple",i,.seq #[.int 1 t] k,j⟩)(g d e:K3)(h:Option Lm)(c f:K3):cJ K (N1 "count" "count" (cf fA) (bq fA) (ai fA) (.ref D) g d e h c f) ["land","k"] []∧∃t,cJ K (N1 "count" "count" (cf fA) (bq fA) (ai fA) (.ref D) g d e h c f) ["land","k"] [.int 1 t]:=
 ⟨λs a X b=>by obtain⟨_,_,rfl⟩:=L2.len2 (show a.length=2 by simpa using b);exact BindsTo.of_defaults rfl (X _ _ q) rfl rfl rfl,t,λs a X b=>by obtain⟨_,rfl⟩:=L2.len1 (show a.length=1 by simpa using b);exact BindsTo.of_defaults rfl (X _ _ q) rfl rfl rfl⟩
theorem tm_ROWS{w:LL}{K:KM}{h:Nh}{E:Str→Option K3}(X:K.In h)(G:h.Ns Mi E){a:Lm}{n:Nat}{y N P F R I J H M S A O D L C z Q B v x m q l j r s o e t u i f b k c g d p:Tok}(ta:PySem.W.nsIn K Mi "ROWS"=some (some (.ref a)))(U:K.lookup a=some ⟨.type "dict",none,.dict #[⟨PyData.keyHash w.params "field",.str "field" y,.str "NEW P" N⟩,⟨PyData.keyHash w.params "move",.str "move" P,.str "NEW ONE A B C D E F" F⟩,⟨PyData.keyHash w.params "fold",.str "fold" R,.str "NEW ONE K" I⟩,⟨PyData.keyHash w.params "sum",.str "sum" J,.str "NEW ONE OTHER" H⟩,⟨PyData.keyHash w.params "form",.str "form" M,.str "NEW ONE" S⟩,⟨PyData.keyHash w.params "facing",.str "facing" A,.str "NEW ONE" O⟩,⟨PyData.keyHash w.params "drop",.str "drop" D,.str "ONE" L⟩,⟨PyData.keyHash w.params "names",.str "names" C,.str "" z⟩,⟨PyData.keyHash w.params "show",.str "show" Q,.str "ONE" B⟩,⟨PyData.keyHash w.params "area",.str "area" v,.str "ONE" x⟩,⟨PyData.keyHash w.params "rim",.str "rim" m,.str "ONE" q⟩,⟨PyData.keyHash w.params "count",.str "count" l,.str "ONE K" j⟩,⟨PyData.keyHash w.params "inner",.str "inner" r,.str "ONE K" s⟩,⟨PyData.keyHash w.params "mixed",.str "mixed" o,.str "ONE OTHER" e⟩,⟨PyData.keyHash w.params "share",.str "share" t,.str "ONE A B C" u⟩,⟨PyData.keyHash w.params "where",.str "where" i,.str "ONE P" f⟩,⟨PyData.keyHash w.params "tell",.str "tell" b,.str "ONE K P" k⟩,⟨PyData.keyHash w.params "alike",.str "alike" c,.str "ONE OTHER" g⟩,⟨PyData.keyHash w.params "thin",.str "thin" d,.str "ONE" p⟩] n,#[]⟩)(T:(a==Ox)=false):∃a,E "ROWS"=some (.ref a)∧zt w K a gm:=
 ⟨a,VF X G ta,T,[("field",y,"NEW P",N),("move",P,"NEW ONE A B C D E F",F),("fold",R,"NEW ONE K",I),("sum",J,"NEW ONE OTHER",H),("form",M,"NEW ONE",S),("facing",A,"NEW ONE",O),("drop",D,"ONE",L),("names",C,"",z),("show",Q,"ONE",B),("area",v,"ONE",x),("rim",m,"ONE",q),("count",l,"ONE K",j),("inner",r,"ONE K",s),("mixed",o,"ONE OTHER",e),("share",t,"ONE A B C",u),("where",i,"ONE P",f),("tell",b,"ONE K P",k),("alike",c,"ONE OTHER",g),("thin",d,"ONE",p)],n,rfl,by decide+kernel,U⟩
noncomputable abbrev spLaw(K:KM):Sp:=spU K jh
theorem law_start(K:KM)(H:Hp)(a:Lm)(ns:List Int)(d:ns.length<=63)(b:∀m∈ns,Sz 1048576 m)(_:El H)(c:SqL K H a (ns.map V.int)):spLaw K [.ref a] H (λv _=>v=.bl true) λ_ _ _=>False:=yz d b c
theorem law_ok{P:Lg}{w:LL}{K:KM}{a:Str→Option K3}{e:Lm}(b:a "law"=some (.ref e))(T:Txt w K a):
  ∃c:Ng,(∀(s:K8) (u:K3),VB s c ⟨[u],[]⟩ [("script",u)])∧∀base:Nh,K.In base→base.Ns Mi a→cF P w K a base CX0 14 e c ["script"] (spLaw K):=by
 cases b.symm.trans T.abo.m;obtain⟨_,_,_,_,_,_,_,_,_,f,_⟩:=T.abo.F.ex;exact⟨T.abo.d,λs v=>by rw[f];exact .of_eq rfl,λbase _ _=>(GO T).calm Ao⟩
end My
namespace PySem.W.Fast
theorem tw14139486671691039681:0=0:=rfl
theorem tw4510155925354926980:0=0:=rfl
theorem tw1338301760420108550:0=0:=rfl
theorem tw14592807821740566910:0=0:=rfl
theorem tw3745699233338897530:0=0:=rfl
theorem tw13818170480846024043:0=0:=rfl
theorem tw12130884439627930274:0=0:=rfl
theorem tw281435689458748855:0=0:=rfl
theorem tw9448296190492408873:0=0:=rfl
theorem tw9973821495813739042:0=0:=rfl
theorem tw9397626165609773739:0=0:=rfl
theorem tw12853932017129616876:0=0:=rfl
theorem tw4045637500062832621:0=0:=rfl
theorem tw17906301138709300412:0=0:=rfl
theorem tw15117215710747905063:0=0:=rfl
theorem tw10129900903797093582:0=0:=rfl
theorem tw3563254287101877132:0=0:=rfl
theorem tw13584935928829241634:0=0:=rfl
theorem tw5012435611063986716:0=0:=rfl
theorem tw14242988197982614919:0=0:=rfl
theorem tw12192719107632751341:0=0:=rfl
theorem tw13295490528456299312:0=0:=rfl
theorem tw12670950095767789470:0=0:=rfl
theorem tw17025094600194748020:0=0:=rfl
theorem tw17729061358147646639:0=0:=rfl
theorem tw8980061154003171422:0=0:=rfl
theorem tw8389244877250155781:0=0:=rfl
theorem tw14587951323639596548:0=0:=rfl
theorem tw12222383065611752311:0=0:=rfl
theorem tw1521487997472757862:0=0:=rfl
theorem tw3864553990643587118:0=0:=rfl
theorem tw11471716513272734891:0=0:=rfl
theorem tw10597951863200455083:0=0:=rfl
theorem tw9763263562248963061:0=0:=rfl
theorem tw13164721004411794566:0=0:=rfl
theorem tw5846961617811401371:0=0:=rfl
theorem tw15790733821764744826:0=0:=rfl
theorem tw4040283869252321140:0=0:=rfl
theorem tw275423703090774107:0=0:=rfl
theorem tw5850505842289228330:0=0:=rfl
theorem tw2117415379410254130:0=0:=rfl
theorem tw3352832784497196904:0=0:=rfl
theorem tw12030559371468908547:0=0:=rfl
theorem tw17807796059636964894:0=0:=rfl
theorem tw9105068792216302366:0=0:=rfl
theorem tw15219698498668980038:0=0:=rfl
theorem tw14677956924267006812:0=0:=rfl
theorem tw811447384507974471:0=0:=rfl
theorem tw12472037990892908318:0=0:=rfl
theorem tw6642607688642563199:0=0:=rfl
theorem tw2909118426065675461:0=0:=rfl
theorem tw3589086503389654385:0=0:=rfl
theorem tw18305495171746772685:0=0:=rfl
theorem tw15707681260862131021:0=0:=rfl
theorem tw2256564403311620415:0=0:=rfl
theorem tw6076446280528151579:0=0:=rfl
theorem tw16654452221528208537:0=0:=rfl
theorem tw13337953481245099882:0=0:=rfl
theorem tw15309493615098689551:0=0:=rfl
theorem tw14554125453030930608:0=0:=rfl
theorem tw5224031785112720517:0=0:=rfl
theorem tw14516681400198151833:0=0:=rfl
theorem tw4321058101455587380:0=0:=rfl
theorem tw16262332283842813070:0=0:=rfl
theorem tw10212237880409764837:0=0:=rfl
theorem tw4490774241101500414:0=0:=rfl
theorem tw12245556799709646774:0=0:=rfl
theorem tw6089577931024365065:0=0:=rfl
theorem tw12895020701264081433:0=0:=rfl
theorem tw13766836107855460260:0=0:=rfl
theorem tw15448472552794404006:0=0:=rfl
theorem tw1991644818581716649:0=0:=rfl
theorem tw13617710225483058723:0=0:=rfl
theorem tw8969673264699397872:0=0:=rfl
theorem tw10503016761594943377:0=0:=rfl
theorem tw2681523330138481799:0=0:=rfl
theorem tw10995362944734843269:0=0:=rfl
theorem tw6803246463845390056:0=0:=rfl
theorem tw10090849020200109380:0=0:=rfl
theorem tw7068673371782985924:0=0:=rfl
theorem tw11461377391807307903:0=0:=rfl
theorem tw6659412785061309260:0=0:=rfl
theorem tw8136095766877579044:0=0:=rfl
theorem tw8887272897247521308:0=0:=rfl
theorem tw14810488491778864637:0=0:=rfl
theorem tw8102942761242229429:0=0:=rfl
theorem tw16562753824791234405:0=0:=rfl
theorem tw5942519709557595148:0=0:=rfl
theorem tw16921314492635176362:0=0:=rfl
theorem tw14210054116507101070:0=0:=rfl
theorem tw14579906314787224565:0=0:=rfl
theorem tw13003357757524342497:0=0:=rfl
theorem tw7350153478557654081:0=0:=rfl
theorem tw13284908727797978496:0=0:=rfl
theorem tw13465851465282204406:0=0:=rfl
theorem tw10086007322275797544:0=0:=rfl
theorem tw14346904511291519813:0=0:=rfl
theorem tw7321475215024556472:0=0:=rfl
theorem tw8790000006899990530:0=0:=rfl
theorem tw10370217803222749416:0=0:=rfl
theorem tw17826974798541894538:0=0:=rfl
theorem tw10643454104802509418:0=0:=rfl
theorem tw11991062919812866391:0=0:=rfl
theorem tw13617883030075943774:0=0:=rfl
theorem tw748813631826484350:0=0:=rfl
theorem tw7531102848915646339:0=0:=rfl
theorem tw6322615130065890437:0=0:=rfl
theorem tw3824465785711900691:0=0:=rfl
theorem tw7012211768646632497:0=0:=rfl
theorem tw8783951664995823493:0=0:=rfl
theorem tw4336291571743311756:0=0:=rfl
theorem tw2226012121862518941:0=0:=rfl
theorem tw17985522841321215065:0=0:=rfl
theorem tw1787175493908106979:0=0:=rfl
theorem tw15164907662983847713:0=0:=rfl
theorem tw8931158043385357770:0=0:=rfl
theorem tw16295889456218336018:0=0:=rfl
theorem tw13496082934777421170:0=0:=rfl
theorem tw17318041247549088911:0=0:=rfl
theorem tw3234660579531630870:0=0:=rfl
theorem tw9443027499045938226:0=0:=rfl
theorem tw16442905275107378630:0=0:=rfl
theorem tw12107874705730882417:0=0:=rfl
theorem tw14436258543214934169:0=0:=rfl
theorem tw2334789381437064820:0=0:=rfl
theorem tw14075562402742393652:0=0:=rfl
theorem tw10866334352377913033:0=0:=rfl
theorem tw1092492953985014646:0=0:=rfl
theorem tw15389272436016674057:0=0:=rfl
theorem tw12135728158000478538:0=0:=rfl
theorem tw3371641212040361555:0=0:=rfl
theorem tw1906117673251725164:0=0:=rfl
theorem tw13351171049292064528:0=0:=rfl
theorem tw11035987143867785571:0=0:=rfl
theorem tw361997371648578925:0=0:=rfl
theorem tw10494927437986171212:0=0:=rfl
theorem tw3416208274382038532:0=0:=rfl
theorem tw5483431413914184010:0=0:=rfl
theorem tw9001915991528951215:0=0:=rfl
theorem tw12878224668136768369:0=0:=rfl
theorem tw14312406943815205342:0=0:=rfl
theorem tw4835512455853149590:0=0:=rfl
theorem tw17005227963785052004:0=0:=rfl
theorem tw17186200034906316654:0=0:=rfl
theorem tw10211307412825013929:0=0:=rfl
theorem tw601043419375022995:0=0:=rfl
theorem tw4950747797214369261:0=0:=rfl
theorem tw8016826349357590831:0=0:=rfl
theorem tw7271332522324781607:0=0:=rfl
theorem tw16046461844925158059:0=0:=rfl
theorem tw6949814679949641037:0=0:=rfl
theorem tw14807201503689183500:0=0:=rfl
theorem tw7726973035594069521:0=0:=rfl
theorem tw16529825458635247259:0=0:=rfl
theorem tw2120286953534678374:0=0:=rfl
theorem tw8667925656476232636:0=0:=rfl
theorem tw15761426699569585307:0=0:=rfl
theorem tw94544100630277622:0=0:=rfl
theorem tw11401241621903345502:0=0:=rfl
theorem tw431595035176629522:0=0:=rfl
theorem tw10596738963256715122:0=0:=rfl
theorem tw8990136308006221605:0=0:=rfl
theorem tw4529067466833784129:0=0:=rfl
theorem tw8644142387824994226:0=0:=rfl
theorem tw11467175084004464218:0=0:=rfl
theorem tw7065642826651290320:0=0:=rfl
theorem tw15015966766473753587:0=0:=rfl
theorem tw17953981939984035640:0=0:=rfl
theorem tw13857005135838637642:0=0:=rfl
theorem tw12018604449180474436:0=0:=rfl
theorem tw983615403131579743:0=0:=rfl
theorem tw17972810327911033974:0=0:=rfl
theorem tw6041941448412850653:0=0:=rfl
theorem tw2373245068497837118:0=0:=rfl
theorem tw7878586197358721706:0=0:=rfl
theorem tw16037229073654806538:0=0:=rfl
theorem tw17537120919855669625:0=0:=rfl
theorem tw12249929561054267539:0=0:=rfl
theorem tw1557293609658836463:0=0:=rfl
theorem tw13316336127228828057:0=0:=rfl
theorem tw2415997016455951071:0=0:=rfl
theorem tw15321764245561773630:0=0:=rfl
theorem tw8396463377483073286:0=0:=rfl
theorem tw2381106553173278668:0=0:=rfl
theorem tw15182491039909940447:0=0:=rfl
theorem tw7617367113637627325:0=0:=rfl
theorem tw15674931793406283125:0=0:=rfl
theorem tw13564618022432363440:0=0:=rfl
theorem tw3103472853005692675:0=0:=rfl
theorem tw13832545581120740467:0=0:=rfl
theorem tw8099352869818637400:0=0:=rfl
theorem tw17778385137471183763:0=0:=rfl
theorem tw16186132016169955168:0=0:=rfl
theorem tw460546543631050750:0=0:=rfl
theorem tw10089567658045206314:0=0:=rfl
theorem tw2216862857981736766:0=0:=rfl
theorem tw11048878594560734595:0=0:=rfl
theorem tw16397485280206250351:0=0:=rfl
theorem tw16684453484317720840:0=0:=rfl
theorem tw9842681884438996255:0=0:=rfl
theorem tw11194721745863069507:0=0:=rfl
theorem tw3547533359033879388:0=0:=rfl
theorem tw1264395836531353682:0=0:=rfl
theorem tw13872391172005478635:0=0:=rfl
theorem tw5110434049078897501:0=0:=rfl
theorem tw8329839589840564086:0=0:=rfl
theorem tw17898856762180785643:0=0:=rfl
theorem tw11014947421195607764:0=0:=rfl
theorem tw7733339632970030098:0=0:=rfl
theorem tw17077493390011978007:0=0:=rfl
theorem tw4963895603710855961:0=0:=rfl
theorem tw3738369526172590664:0=0:=rfl
theorem tw7647498045780367913:0=0:=rfl
theorem tw684333949177781004:0=0:=rfl
theorem tw10965881430555777572:0=0:=rfl
theorem tw238781733022439783:0=0:=rfl
theorem tw13694321583812256441:0=0:=rfl
theorem tw4496791944925474175:0=0:=rfl
theorem tw15352360799263489295:0=0:=rfl
theorem tw18166270527677222656:0=0:=rfl
theorem tw11414107177163317703:0=0:=rfl
theorem tw9159790347351523077:0=0:=rfl
theorem tw2238348034901047480:0=0:=rfl
theorem tw7188903702245689886:0=0:=rfl
theorem tw5820477511879184718:0=0:=rfl
theorem tw5954870352657138404:0=0:=rfl
theorem tw9876717047642631054:0=0:=rfl
theorem tw15794907927905148063:0=0:=rfl
theorem tw16870058708363241545:0=0:=rfl
theorem tw8019323930102997380:0=0:=rfl
theorem tw15655945368357431750:0=0:=rfl
theorem tw1133488473289906080:0=0:=rfl
theorem tw14905078410462357572:0=0:=rfl
theorem tw16701068638237890776:0=0:=rfl
theorem tw7942874784206475026:0=0:=rfl
theorem tw8211487573863007539:0=0:=rfl
theorem tw7189306290116416877:0=0:=rfl
theorem tw7870534807580878979:0=0:=rfl
theorem tw11877472755529424937:0=0:=rfl
theorem tw15448027039912071678:0=0:=rfl
theorem tw15548554007217512527:0=0:=rfl
theorem tw3715367420725210653:0=0:=rfl
theorem tw11520735180833296916:0=0:=rfl
theorem tw9636510461340398087:0=0:=rfl
theorem tw11490954096991266228:0=0:=rfl
theorem tw8971361159634523382:0=0:=rfl
theorem tw5312073305704393325:0=0:=rfl
theorem tw6487969326562947768:0=0:=rfl
theorem tw16191161056740431329:0=0:=rfl
theorem tw2395273860237142218:0=0:=rfl
theorem tw5966111000706455318:0=0:=rfl
theorem tw3419143242668398743:0=0:=rfl
theorem tw17275633537941760773:0=0:=rfl
theorem tw16152948793832745356:0=0:=rfl
theorem tw1563693114796463121:0=0:=rfl
theorem tw2359201995738829113:0=0:=rfl
theorem tw14958681122306259890:0=0:=rfl
theorem tw17602682706871963034:0=0:=rfl
theorem tw15909039467747341433:0=0:=rfl
theorem tw13258455195878687046:0=0:=rfl
theorem tw12778475224623470709:0=0:=rfl
theorem tw18077987849451517391:0=0:=rfl
theorem tw294533515576251525:0=0:=rfl
theorem tw17412694318052150329:0=0:=rfl
theorem tw9276225329769897138:0=0:=rfl
theorem tw7931314006592661231:0=0:=rfl
theorem tw14308559328795787103:0=0:=rfl
theorem tw658088470830950499:0=0:=rfl
theorem tw18261935425845161812:0=0:=rfl
theorem tw2414751984495769596:0=0:=rfl
theorem tw14792569301466639377:0=0:=rfl
theorem tw6910379244909690299:0=0:=rfl
theorem tw9869014780197163628:0=0:=rfl
theorem tw16086182702779145833:0=0:=rfl
theorem tw14966652681570428098:0=0:=rfl
theorem tw305171384893595928:0=0:=rfl
theorem tw15198696198229810404:0=0:=rfl
theorem tw17513463006077162831:0=0:=rfl
theorem tw2170669078311706665:0=0:=rfl
theorem tw7846533538522791794:0=0:=rfl
theorem tw5190338047357741744:0=0:=rfl
theorem tw12005307706863594351:0=0:=rfl
theorem tw1742455270647001007:0=0:=rfl
theorem tw17728255116976057365:0=0:=rfl
theorem tw7926061146735568107:0=0:=rfl
theorem tw8824971418536222528:0=0:=rfl
theorem tw5356414120324887859:0=0:=rfl
theorem tw18410934090070016868:0=0:=rfl
theorem tw17417301493711121677:0=0:=rfl
theorem tw7028525652518159123:0=0:=rfl
theorem tw420052746133244271:0=0:=rfl
theorem tw781732352560562862:0=0:=rfl
theorem tw10160827377379201537:0=0:=rfl
theorem tw13064625875145385062:0=0:=rfl
theorem tw8135128407540288166:0=0:=rfl
theorem tw5315225386531942899:0=0:=rfl
theorem tw3782486103716629050:0=0:=rfl
theorem tw13502658428008645745:0=0:=rfl
theorem tw15800703835974202833:0=0:=rfl
theorem tw15624340675205620701:0=0:=rfl
theorem tw3875073473996683375:0=0:=rfl
theorem tw6778473413534687454:0=0:=rfl
theorem tw10453092309822499122:0=0:=rfl
theorem tw15046409592432235321:0=0:=rfl
theorem tw3231841430706491885:0=0:=rfl
theorem tw304447236995618246:0=0:=rfl
theorem tw10857256946243367881:0=0:=rfl
theorem tw4125450825978855662:0=0:=rfl
theorem tw13783757284941852191:0=0:=rfl
theorem tw2505206379512819653:0=0:=rfl
theorem tw3128320996673124846:0=0:=rfl
theorem tw17044616678080447114:0=0:=rfl
theorem tw10956393956912200799:0=0:=rfl
theorem tw7281253329628709843:0=0:=rfl
theorem tw6715668473883277912:0=0:=rfl
theorem tw985279297656466200:0=0:=rfl
theorem tw6505309556702079801:0=0:=rfl
theorem tw628649048564635838:0=0:=rfl
theorem tw3773046945010289812:0=0:=rfl
theorem tw9434948005635146382:0=0:=rfl
theorem tw2549221170238201723:0=0:=rfl
theorem tw2238506704689561546:0=0:=rfl
theorem tw18008739711122343163:0=0:=rfl
theorem tw4642541390514536437:0=0:=rfl
theorem tw2674988351789077348:0=0:=rfl
theorem tw11940332361584424727:0=0:=rfl
theorem tw4648322950501672672:0=0:=rfl
theorem tw5351187486781464871:0=0:=rfl
theorem tw12177856156325841387:0=0:=rfl
theorem tw11062460258279845542:0=0:=rfl
theorem tw2426875417689838927:0=0:=rfl
theorem tw12338261228063802368:0=0:=rfl
theorem tw6162314448050431195:0=0:=rfl
theorem tw14891182836234237693:0=0:=rfl
theorem tw10111219814967368229:0=0:=rfl
theorem tw2244926409357050429:0=0:=rfl
theorem tw7610157149529970327:0=0:=rfl
theorem tw13930148040240402332:0=0:=rfl
theorem tw4548816042364974228:0=0:=rfl
theorem tw14964228706939727976:0=0:=rfl
theorem tw9093679885861673364:0=0:=rfl
theorem tw5496362237271634854:0=0:=rfl
theorem tw12954525374478556982:0=0:=rfl
theorem tw12459680142631530701:0=0:=rfl
theorem tw7599352553691382368:0=0:=rfl
theorem tw9160119974541055738:0=0:=rfl
theorem tw13904783891886350833:0=0:=rfl
theorem tw3042946954225532080:0=0:=rfl
theorem tw12360889536490666747:0=0:=rfl
theorem tw15707789042846915967:0=0:=rfl
theorem tw17690814269661601026:0=0:=rfl
theorem tw5466390233784484235:0=0:=rfl
theorem tw1270152187818913522:0=0:=rfl
theorem tw383076966302454683:0=0:=rfl
theorem tw7525820534444545044:0=0:=rfl
theorem tw3868883917956812025:0=0:=rfl
theorem tw1345239077046320977:0=0:=rfl
theorem tw1551288991470966155:0=0:=rfl
theorem tw18118857013754778040:0=0:=rfl
theorem tw11131490832097354036:0=0:=rfl
theorem tw1010895044653063035:0=0:=rfl
theorem tw17256761586853804220:0=0:=rfl
theorem tw2700195661737679560:0=0:=rfl
theorem tw17770303043521182287:0=0:=rfl
theorem tw7834729004811428762:0=0:=rfl
theorem tw883535346979204410:0=0:=rfl
theorem tw2424091720297275885:0=0:=rfl
theorem tw4325286917313685218:0=0:=rfl
theorem tw1116671260405420370:0=0:=rfl
theorem tw4645661855801562817:0=0:=rfl
theorem tw12745680912505819929:0=0:=rfl
theorem tw9986853155781816477:0=0:=rfl
theorem tw5785041136755682466:0=0:=rfl
theorem tw4324911132546923706:0=0:=rfl
theorem tw6908316631879832697:0=0:=rfl
theorem tw14614519428400282465:0=0:=rfl
theorem tw9352543016567746379:0=0:=rfl
theorem tw9545291504760457668:0=0:=rfl
theorem tw357052794836219455:0=0:=rfl
theorem tw16165673525416986567:0=0:=rfl
end PySem.W.Fast
open PySem PySem.W PyProof.Rows L2
set_option maxRecDepth 100000 in
set_option maxHeartbeats 0 in
set_option maxHeartbeats 0 in
theorem PySem.Challenge.cw_stakefield_k81_whole_told_by_text_holds : PySem.Challenge.rw_stakefield_k81_whole_told_by_text.Holds := by
 w_on;o_law;k_head;(case hw=>w_witness2)
 k_fill
 refine L2.walk_ofB (l:=PySem.Challenge.rw_stakefield_k81_whole_told_by_text) (n:=63) (k:=14) (x:="script") (CX:=CX0) (sp:=My.spLaw) rfl (by decide) rfl ⟨rfl,by decide,by decide⟩ (λw h Y=>by first |exact Ve Y |exact PySem.W.km_in_of Y) ?F My.law_start (λ_ _ _ _ z=>z)
 case F=>
  intro w mg fa h KX G hmg
  refine' My.law_ok hmg ⟨_,L2.c_m KX G ?_,⟨?_,?_,?_,?_⟩,(id (α:=Ni _ _ _=_) ?_),My.tm_ROWS KX G ?_ ?_ ?_,L2.dfn KX G (by walk_at"b1") ?_ ?_ ?_ ?_,L2.dfn KX G (by walk_at"b1") ?_ ?_ ?_ ?_,L2.dfn KX G (by walk_at"b2") ?_ ?_ ?_ ?_,L2.dfn KX G (by walk_at"b1") ?_ ?_ ?_ ?_,L2.dfn KX G (by walk_at"b1") ?_ ?_ ?_ ?_,L2.dfn KX G (by walk_at"b1") ?_ ?_ ?_ ?_,L2.dfn KX G (by walk_at"b2") ?_ ?_ ?_ ?_,L2.dfn KX G (by walk_at"b2") ?_ ?_ ?_ ?_,L2.dfn KX G (by walk_at"b1") ?_ ?_ ?_ ?_,L2.dfn KX G (by walk_at"b2") ?_ ?_ ?_ ?_,L2.dfn KX G (by walk_at"b2") ?_ ?_ ?_ ?_,L2.dfn KX G (by walk_at"b3") ?_ ?_ ?_ ?_,L2.dfn KX G (by walk_at"b1") ?_ ?_ ?_ ?_,L2.dfn KX G (by walk_at"b1") ?_ ?_ ?_ ?_,L2.dfn KX G (by walk_at"b1") ?_ ?_ ?_ ?_,L2.dfn KX G (by walk_at"b3") ?_ ?_ ?_ ?_,L2.dfn KX G (by walk_at"b2") ?_ ?_ ?_ ?_,L2.dfn KX G (by walk_at"b1") ?_ ?_ ?_ ?_,L2.dfn KX G (by walk_at"b1") ?_ ?_ ?_ ?_,L2.dfn KX G (by walk_at"b2") ?_ ?_ ?_ ?_,L2.dfn KX G (by walk_at"b2") ?_ ?_ ?_ ?_,L2.dfn KX G (by walk_at"b2") ?_ ?_ ?_ ?_,L2.dfn KX G (by walk_at"b1") ?_ ?_ ?_ ?_,L2.dfD KX G My.bd_count ?_ ?_ ?_ ?_ ?_,L2.dfn KX G (by walk_at"b2") ?_ ?_ ?_ ?_,L2.dfn KX G (by walk_at"b1") ?_ ?_ ?_ ?_,L2.dfn KX G (by walk_at"b1") ?_ ?_ ?_ ?_,L2.dfn KX G (by walk_at"b2") ?_ ?_ ?_ ?_,L2.dfn KX G (by walk_at"b1") ?_ ?_ ?_ ?_,L2.dfn KX G (by walk_at"b1") ?_ ?_ ?_ ?_,L2.dfn KX G (λ_ _ _ _ _ _ _ h=>My.ar4 h λ_ _ _ _=>rfl) ?_ ?_ ?_ ?_,L2.dfn KX G (by walk_at"b3") ?_ ?_ ?_ ?_,L2.dfn KX G (by walk_at"b3") ?_ ?_ ?_ ?_,L2.dfn KX G (by walk_at"b1") ?_ ?_ ?_ ?_,L2.dfn KX G (by walk_at"b1") ?_ ?_ ?_ ?_,L2.dfn KX G (by walk_at"b1") ?_ ?_ ?_ ?_,L2.dfn KX G (by walk_at"b1") ?_ ?_ ?_ ?_,L2.dfn KX G (by walk_at"b1") ?_ ?_ ?_ ?_,L2.dfn KX G (by walk_at"b1") ?_ ?_ ?_ ?_,L2.dfn KX G (by walk_at"b1") ?_ ?_ ?_ ?_,L2.dfn KX G (by walk_at"b1") ?_ ?_ ?_ ?_,L2.dfn KX G (by walk_at"b1") ?_ ?_ ?_ ?_,L2.dfn KX G (by walk_at"b1") ?_ ?_ ?_ ?_,L2.dfn KX G (by walk_at"b1") ?_ ?_ ?_ ?_,L2.dfn KX G (by walk_at"b2") ?_ ?_ ?_ ?_,L2.dfn KX G (by walk_at"b2") ?_ ?_ ?_ ?_,L2.dfn KX G (by walk_at"b3") ?_ ?_ ?_ ?_,L2.dfn KX G (by walk_at"b2") ?_ ?_ ?_ ?_,L2.dfn KX G (by walk_at"b2") ?_ ?_ ?_ ?_,L2.dfn KX G (by walk_at"b3") ?_ ?_ ?_ ?_,L2.dfn KX G (by walk_at"b1") ?_ ?_ ?_ ?_,L2.dfn KX G (by walk_at"b1") ?_ ?_ ?_ ?_,L2.dfn KX G (by walk_at"b2") ?_ ?_ ?_ ?_,L2.dfn KX G (by walk_at"b2") ?_ ?_ ?_ ?_,L2.dfn KX G (by walk_at"b1") ?_ ?_ ?_ ?_,L2.dfn KX G (by walk_at"b2") ?_ ?_ ?_ ?_,L2.dfn KX G (by walk_at"b1") ?_ ?_ ?_ ?_,L2.dfn KX G (by walk_at"b1") ?_ ?_ ?_ ?_,L2.dfn KX G (by walk_at"b1") ?_ ?_ ?_ ?_,L2.dfn KX G (by walk_at"b3") ?_ ?_ ?_ ?_,L2.dfn KX G (by walk_at"b1") ?_ ?_ ?_ ?_,L2.dfn KX G (by walk_at"b1") ?_ ?_ ?_ ?_,L2.idf (by walk_at"b1") ?_ ?_ ?_ ?_ ?_ ?_ ?_,L2.mdf (by walk_at"b3") ?_ ?_ ?_ ?_ ?_,L2.mdf (by walk_at"b3") ?_ ?_ ?_ ?_ ?_,L2.mdf (by walk_at"b2") ?_ ?_ ?_ ?_ ?_,LV KX G ?_,LV KX G ?_,LV KX G ?_,LV KX G ?_,LV KX G ?_,LV KX G ?_,LV KX G ?_,LV KX G ?_,LV KX G ?_,LV KX G ?_,LV KX G ?_,LV KX G ?_,LV KX G ?_,LV KX G ?_,LV KX G ?_,LV KX G ?_,LV KX G ?_,L2.g_s KX G ?_,L2.g_i KX G ?_,L2.g_i KX G ?_,L2.g_i KX G ?_,L2.g_i KX G ?_,L2.g_i KX G ?_⟩
  all_goals try first |k_is | (dsimp only[L2.exn];first |k_is |k_exc |kit_is) |rfl
