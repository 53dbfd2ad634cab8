import PyProof.Rows.All
import Wide.All
import OpenK.AllK
import Wide.FinOn
import Lean
import PyProof.EqAt
import PyProof.EqKinds
import PyProof.NeKinds
import PyProof.TupleCall
import KE.KDictSum
import KE.KSortTup
import KE.KRevIter
import KE.KRevSl
import PySem.Challenge.RW_stakefield_k37_told_refused
set_option compiler.extract_closed false
theorem w40(h:0=0:=by rfl):0=0:=h
def w4:=w40._auto_1
theorem v00(h:0=0:=by decide):0=0:=h
def v0:=v00._auto_1
theorem v30(h:0=0:=by first |exact .inl rfl |exact .inr rfl |assumption):0=0:=h
def v3:=v30._auto_1
theorem q00(h:0=0:=by intro _;rfl):0=0:=h
def q0:=q00._auto_1
theorem j00(h:0=0:=by first |exact Or.inl rfl |exact Or.inr (Or.inl rfl) |exact Or.inr (Or.inr rfl)):0=0:=h
def j0:=j00._auto_1
theorem k40(h:0=0:=by first |decide | (simp only[Ie,Mi];decide)):0=0:=h
def k4:=k40._auto_1
open PySem renaming wpAny_bind->GB,wpAny_pure->GH,Value->GM,starEach->GO,Shared->GP,Program->GX,boot_len->G3,Addr->Hc,model->Hr,wpAny->Ht,World->HF,Around->HM,wpAny_Call_Name_kw->Iq,compareOp->Iw,wpAny_holding->Iz,foldedSetIterable->IB,intKind_is->IC,bootBuiltins->IL,codeAny_builtin->IM,argBest->IR,wpAny_truthy_bool->IT,plainId_quiet->Jc,wpAny_call_entry->Jd,mainGlobals->Jf,mem_of_lookup->Jh,wpAny_updateSeq->Ju,Heap->Jx,wpAny_pyIter_list->JD,wpAny_setState_of->JI,wpAny_seqItems->JL,builtinLookup_eq_fast->JM,FuncData->JR,sizeLine_eq->JT,wpAny_isInstance->JV,backTo->JZ,wpAny_newObj_type->J5,eval->Kg,Stmt->Ki,behindInMarks->Kk,swapsWith->Kl,wpAny_tupleItemsOf->Kr,wpAny_tryCatch->Kx,wpAny_mono->KJ,wpAny_passesOwn->KL,cLine->KZ,wpAny_eqBool_tuple->Lg,wpAny_specialOf->Ll,typeLookup_type->Lm,wpAny_ite_split->Ln,wpAny_letGo->Lo,wpAny_richCompare_same_room->Lp,attributeBase->Ly,wpAny_askSetting->LR,assignEach->LY,wpAny_rule->LZ,codeAny_mono->L7,typeIs_int->L8,wpAny_execs_nil->Mb,binaryOp->Md,codeAny->Me,wpAny_attempt->Mg,wpAny_callSpecial?_slot->Mm,sliceBounds->Mz,ofAClassStatement->MA,bindArgs->MH,isSubtype_type->ML,isSubtype_tuple_tuple->MP,intKind->MS,codeAny_call_builtin->MY,wpAny_pyNext_zip_end->MZ,GenState->M0,call_meets->M8,wpAny_setEntries_of->Na,richCompare->Nd,wpAny_pyIter_range->Nq,wpAny_getItem_list_slice->NG,isInstance->NI,seqItems?->NK,richCompare_gives->NO,swapsWithSole->NY,swappedStores->NZ,IsRangeIter->N0,keywordEach->N1,Keyword->N2,setSearchFrom->N4,Builtin->N7,rawInt->Of,wpAny_forIn_list->Ol,wpAny_pyIter_zip->Oq,wpAny_pyNext_range_end->Ow,wpAny_pyIter_rangeiter->Ox,wpAny_nextOf_list_item->OC,wpAny_isTrue_Compare1->OJ,PassesOwn->OK,letOwnedTupleGo->OM,wpAny_eqIsQuiet_tuple->OV,wpAny_pyNext_zip_item->O4,wpAny_nextOf_list_end->O6,wpAny_call->Pk,NameKind->Pl,pyNext->Px,wpAny_setField->PH,isSubtype_stop->PJ,Scope->PL,hashByValue->PM,wpAny_of_eq->PN,wpAny_field->PR,assignInOrder->P1,wpAny_standAt->P3,evalPart_none->P6,pickOrder->P_,call_function_tree->Qa,wpAny_newList->Qf,wpAny_assign_Name->Qk,typeLookup->Qo,callerA->Qp,wpAny_storeSet_of->Qr,wpAny_pyIter_slot->Qt,pyIter->QD,wpAny_typeOf->QG,wpAny_execs_cons->QK,checkBuiltinCall->QM,bindName->QZ,backToKw->Q1,ZipApart->Q2,holding->Q5,cellsFrom->Q6,getAttrByItsOwn->Q9,putSet_of->Q_,codeAny_of_tree->Ra,updateSeq->Rb,wpAny_Expr_any->Rm,wpAny_bindName->Rn,recursionLimit->Rq,boundAndCalled->Rt,wpAny_loadPart->Ru,entryFor_alias->Rw,wpAny_fieldsOf->Rx,wpAny_newTuple->Ry,builtinsNs->RF,wpAny_Name->RH,Result->RI,closureFor->RL,IsPair->RM,BindsTo->RQ,Within->R6,spliced->Sk,CmpOp->Sm,bindL->So,bindC->Sq,typeOf->Sy,revObj->SC,Model->SE,call->SF
open List renaming getElem?_eq_getElem->GC,length_map->GD,mem_cons->GF,mem_cons_of_mem->GG,mem_map->GJ,mem_singleton->GL,getElem?_map->GN,mem_cons_self->GR,getElem?_eq_some_iff->GV,mem_reverse->GY,size_toArray->G5,pairwise_iff_getElem->G6,getD_eq_getElem?_getD->G7,append_assoc->G8,not_mem_nil->G9,map_cons->G_,mem_append_right->Ha,mem_of_getElem?->Hb,length_append->He,getElem?_append_left->Hg,mem_append->Hi,getElem?_append_right->Hj,pairwise_cons->Hl,mem_append_left->Hm,map_map->Ho,mem_range->Hq,getElem?_set_ne->Hs,getElem?_eq_none->Hu,take_append_drop->Hv,length_pos_iff->Hx,pairwise_map->Hy,map_append->Hz,mem_map_of_mem->HD,range->HI,replicate->HJ,length_reverse->HL,getElem_mem->HV,drop_eq_getElem_cons->HZ,length_cons->Ie,pairwise_append->Ih,mem_filter->Im,length_pos_of_mem->Iy,mem_iff_getElem?->IE,getElem_of_mem->IF,append_nil->II,getElem?_reverse->IQ,nodup_cons->I0,foldl_cons->I_,getLast?_eq_getElem?->Ja,sum_cons->Je,filterMap_cons->Jg,replicate_succ->Ji,getElem?_take_of_lt->Jl,length_replicate->Jm,length_eq_zero_iff->Js,getLast?_cons_cons->Jv,length_dropLast->Jw,map_reverse->Jy,perm_ext_iff_of_nodup->JA,take_of_length_le->JB,length_eq_one_iff->JC,getElem?_range->JF,nodup_append->JJ,pairwise_reverse->JO,mem_of_mem_drop->JW,getElem?_replicate->JX,flatten_cons->J6,ext_getElem?->J9,reverse_append->Ke,map_congr_left->Kf,take_length->Kj,getElem?_drop->Ko,zip_cons_cons->Ks,take_succ->Ku,tail_cons->KA,take_succ_eq_append_getElem->KC,mem_of_getLast?->KI,drop_sublist->KN,range_succ->KU,map_nil->KY,getElem?_cons_succ->K0,length_take->K8,length_drop->K9,all_eq_true->K_,getElem?_dropLast->Lc,head?_eq_getElem?->Ld,dropLast_concat_getLast->Lh,getElem?_toArray->Lk,perm_append_comm->Lr,length_filter_le->Lv,getElem?_inj->LH,reverse_reverse->LJ,mem_of_mem_take->LK,mem_take_iff_getElem->LP,zipWith->L_,mem_filterMap->Mc,forIn_cons->Mf,length_set->Mh,length_nil->Mi,pairwise_singleton->Mr,getElem?_set_self->Ms,getLast?_map->MF,getLast?_reverse->MR,lookup_cons->MT,getElem?_zipWith_eq_some->MU,all_cons->M4,length->M9,length_zipWith->Nc,take_succ_cons->Nf,nodup_iff_pairwise_ne->Nk,perm_append_singleton->Nl,exists_cons_of_ne_nil->Nn,forIn_nil->Nx,getElem_append_right->Nz,head?_map->NA,exists_mem_of_ne_nil->NB,take_sublist->NF,getElem?_set->NH,Perm->NL,reverse_cons->NM,zip_nil_left->NP,reverse_perm->NQ,getElem_append_left->NS,getElem_take->NT,getElem_drop->NU,map_dropLast->NV,length_erase_of_mem->NW,filter_cons_of_pos->Ob,filter_cons_of_neg->Oc,getElem_inj->Oe,filter_cons->Oj,perm_middle->Om,cons_append->Ov,pairwise_lt_range->OB,of_mem_zip->ON,length_singleton->OO,nil_append->OQ,set_append_right->Pa,mem_iff_getElem->Pq,mem_erase_of_ne->Pr,dropLast_subset->Pu,take_zero->PF,length_take_le->PU,filter_sublist->PX,head?_reverse->Qh,filter_append->Qj,foldl_append->Qz,nodup_range->QO,drop_length->QT,mem_flatten->QY,head?_cons->Rh,sum_append->Rl,drop_drop->Rz,nodup_nil->RD,foldl->RK,any_cons->RR,map_take->RU,map_drop->RV,all_map->R9,map_id->Sv,sum->SD
open PySem.W renaming Frag->GE,kitOne->GW,mg_none_of->HE,kia_one->Ip,keepIn->JK,fnOf->J0,cellsFrom_some->Mt,codeIn->MJ,mroIn->M3,methodObj->NC,kitx_list->ND,excIn->N3,instObj->OH,lookIn->Py,kitx_tuple->P4,callWith_K->P5,kitx_dict->Qn,plainGet->QL,OpenLaw->Q8,findIn->Ro,kIn_of->Rr,WalkO->RT
open PySem.Heap renaming get?_push_of_some->GI,lt_size->GS,get?_push_size->GZ,get?_update_other->HH,get?_update_self->Ij,size_push->Jr,SameBut->LX
open Nat renaming le_refl->GK,lt_of_lt_of_le->GT,le_of_lt->Hd,lt_or_eq_of_le->Hk,ne_of_lt->Hn,lt_irrefl->Hw,le_trans->HB,le_add_right->HQ,mod_eq_of_lt->HW,le_of_lt_succ->Ib,lt_succ_self->Il,zero_le->Ir,add_sub_cancel'->IH,lt_of_le_of_lt->IK,lt_or_ge->IU,lt_of_le_of_ne->IW,lt_succ_of_lt->JG,mod_lt->JH,le_of_not_lt->JU,lt_of_succ_lt->J_,ne_of_gt->Km,pow_succ->Kn,lt_trans->Kp,sub_one_lt_of_le->KH,add_zero->Lj,le_antisymm->Lq,lt_trichotomy->LB,zero_lt_of_lt->LF,le_sub_one_of_lt->LL,add_le_add_left->LV,add_lt_add_left->LW,add_assoc->Mj,eq_zero_or_pos->Ml,pos_of_ne_zero->Mo,add_sub_cancel_left->Mp,min_eq_left->Mq,add_sub_assoc->ME,pow_le_pow_right->MW,not_lt_zero->M_,one_pos->Ng,zero_add->Nt,add_mul_mod_self_left->Nv,succ_add_eq_add_succ->NJ,sub_lt->NR,le_max_right->Oh,succ_le_succ->Os,sub_sub_self->Ot,div_div_eq_div_mul->OA,sub_add_sub_cancel->OE,le_of_succ_le_succ->OF,add_comm->OP,mod_add_mod->OU,sub_zero->O_,add_lt_of_lt_sub'->Pb,mod_self->Pf,mul_le_mul_right->Pp,mul_le_mul_left->PV,mod_eq_sub_mod->P8,mod_mod_of_dvd->P9,sub_add_cancel->Qc,add_sub_cancel->Qg,sub_pos_of_lt->Qv,succ_le_of_lt->Qw,le_succ_of_le->Qx,lt_of_succ_le->QA,lt_succ_of_le->QB,add_mod_right->QC,le_of_eq->QE,sub_self->QI,div_eq_of_lt->QN,succ_ne_self->QQ,not_lt_of_gt->QR,min_eq_right->QS,lt_of_not_le->QW,le_max_left->Q7,one_ne_zero->Ri,sub_le->RN,mul_comm->R8,zero_max->R_,zero_mod->Se,gcd_comm->Si,add_mod->Ss,sub_sub->Su
open Array renaming length_toList->GQ,toList_append->HC,getElem?_toList->HP,getElem?_eq_getElem->Iu,getD_eq_getD_getElem?->IP,toList_push->J7,getElem?_eq_some_iff->Kh,toList_reverse->KG,getD->LC,getElem?_replicate->L9,mem_toList_iff->MV,toList_setIfInBounds->Nm,forIn_toList->Nr,toList_inj->On,toList_map->Oo,append_assoc->PY,toList_zip->QU,size_map->Rv,toList->R7
open PyProof.Rows renaming boot_isinstance->GU,wpS_bind->G0,wpS_pure->Hf,arrOf->HG,Keyed->HN,SortSt->IV,wpS_forRange->J2,pendingOf->Kc,wpS_mono->KD,boot_list->LO,wpS_modify->MD,SortKind->MM,envOfC->MN,failedOf->M5,assignInOrder_cons->Np,wpS_get->Ny,AllBare->NX,subscriptTail_builtinR->Oy,tuples'->OZ,IsTup->Pn,Constant_none->PZ,gallopOf->Qb,seqObj->Qd,listUpdate_at->Qe,assignInOrder_nil->Ql,boot_range->Qm,boot_tuple->Qy,boot_sum->Q3,seqEpoch_at->Re,entry_list_sort->Rf,slot_list_sort->RA,args_list_sort->RB,sortedHeap_old->RC,Subscript_->RJ,mirror->RO,IntsAre->RS,keyKind'->RW,boot_int->RX,boot_min->R3,boot_max->R5,bubble->Sa
open Bool renaming false_eq_true->G4,and_eq_true->Ic,false_ne_true->Io,not_true->IG,not_false->Kv,eq_iff_iff->Li,eq_false_iff->LA,true_and->LD,and_eq_true_iff->MX,or_eq_true->OS,beq_eq_decide_eq->OT,and_false->Pz,not_eq_true'->Qq
open Int renaming mul_nonneg->Hh,mul_eq_zero->HA,mul_pos->HR,dvd_trans->HS,lt_or_eq_of_le->HU,dvd_mul_left->HX,eq_of_mul_eq_mul_left->H_,mul_nonpos_of_nonneg_of_nonpos->Ia,lt_or_le->Ig,pos_of_mul_pos_right->ID,mul_zero->IJ,eq_of_sub_eq_zero->IS,mul_neg_of_neg_of_pos->Jb,one_mul->Jj,zero_mul->Jn,mul_ediv_cancel_left->Jo,le_of_lt->Jp,sub_pos_of_lt->Jq,ne_of_gt->Jz,nonneg_of_mul_nonneg_right->JP,le_trans->JQ,emod_lt_of_pos->JS,mul_comm->J3,toNat_natCast->J8,dvd_mul_right->Ka,emod_add_mul_ediv->Kt,gcd->Kz,mul_neg_of_pos_of_neg->KB,emod_nonneg->KO,mul_le_mul_of_nonneg_left->La,dvd_add->Ls,le_of_eq->Lu,gcd_dvd_right->LG,mul_lt_mul_of_pos_left->LI,natAbs_of_nonneg->LM,mul_ediv_cancel'->LN,gcd_dvd_left->LS,mul_one->LU,le_refl->MG,natAbs_mul->MK,natAbs_dvd_natAbs->MQ,lt_irrefl->M7,dvd_sub->Nh,dvd_refl->Nu,dvd_neg->N_,mul_neg->Oa,dvd_mul_of_dvd_left->Od,ediv_le_self->Oi,max_eq_right->Ou,le_ediv_iff_mul_le->OG,ediv_nonneg->OR,dvd_coe_gcd->Pc,le_total->Pd,min_eq_left->Pe,sub_self->Pg,le_antisymm->Ph,sub_zero->Pi,ediv_one->Pj,le_of_sub_nonneg->Pv,sub_nonneg_of_le->Pw,add_sub_cancel->Qi,zero_dvd->QJ,dvd_antisymm->QV,sub_left_inj->QX,sub_mul->Rj,sub_nonneg->RE,mul_assoc->RY,ofNat_dvd->RZ,dvd_zero->Sb,add_comm->Sf,add_zero->Sg,ne_of_lt->Sh,sub_sub->Sw,mul_sub->Sx
open Option.some renaming inj->HK
open Classical renaming byContradiction->HY,choose_spec->O1,choose->QP
open Prod renaming ext->Ii,fst->M6,snd->Pm
open PySem.Value renaming ref->Ik,type->J4,none->Lb,bool->Lw,int->Ma,isInt_shape->Mx,str->Q4,float->Sj
open PySem.Around renaming under_plainId->IA
open PySem.F renaming plain_min_loop->IX,plain_max_loop->IY,called_set->Jt,plainAttrs_list->JY,plain_extend_loop->Kw,entry_min_loop->Mu,entry_max_loop->Mw,excBase_ValueError->Nj,slot_list_count->N8,slot_list_index->N9,plain_set_new->OW,slot_set_iter->OX,slot_zip_next->O5,slot_tuple_le->O7,slot_tuple_lt->O8,slot_tuple_gt->O9
open Option renaming map_eq_some_iff->IZ,isSome_iff_exists->Jk,getD_some->LQ,getD_none->Og,map_some->Rk,none->Sr,map->SH
open PySem.Obj renaming mapSeq->JE,data_mapFields->Kq,putSet->MC,isFreed_of_fields->OY,cls_mapFields->Qu
open List.Perm renaming append_left->JN,refl->Nw,append_right->OD,trans->Rc
open List.Pairwise renaming map->Kb,imp_of_mem->KM,nil->Lz
open PySem.Heap.SameBut renaming update->K5,refl->Qs
open List.cons renaming inj->K7,injEq->Nb
open PySem.Calls renaming spliced_cons->Le,spliced_nil->Lx,Name_function_global->Ni,callWith_builtin->Oz,evalArgs_plain->Po
open ToString renaming toString->Mn
open MonadExcept renaming tryCatch->N5
open Prod.mk renaming injEq->N6
open PySem.Heap.IsSliceOf renaming new->P7
open List.Nodup renaming length_le_of_subset->QF
open Nat.succ renaming inj->QH
open PySem.Value.ref renaming injEq->Rg
open PySem.W.Dflts renaming none->SA,noKw->SB
set_option hygiene false
set_option hygiene true
set_option hygiene false
local macro_rules|`(tactic|walk_at"sC")=>`(tactic|exact⟨rfl,rfl,rfl,by decide+kernel,rfl,by decide+kernel,by decide+kernel⟩)
local macro_rules|`(tactic|walk_at"b1")=>`(tactic|exact λ_ _ _ _ _ _ _ h=>My.ar1 h λ_=>rfl)
local macro_rules|`(tactic|walk_at"b2")=>`(tactic|exact λ_ _ _ _ _ _ _ h=>My.ar2 h λ_ _=>rfl)
local macro_rules|`(tactic|walk_at"b3")=>`(tactic|exact λ_ _ _ _ _ _ _ h=>My.ar3 h λ_ _ _=>rfl)
set_option hygiene true
set_option maxHeartbeats 8000000
set_option Elab.async false
set_option linter.all false
set_option maxRecDepth 100000
namespace L2
open PySem PySem.Spec PyProof.Rows
noncomputable abbrev Key:=Sum Int Str
noncomputable def CC:Key->GM->Bool
 | .inl k,v=>Value.isInt k v
 | .inr x,v=>Value.isStrOf x v
noncomputable def Gj(w:HF):Key->Int
 | .inl k=>hashInt k
 | .inr x=>hashStr w x
theorem bW:∀{k:Key}{v:GM},CC k v=true->(∃i t,k=Sum.inl i/\v=Ma i t)\/(∃x t,k=Sum.inr x/\v=Q4 x t)
 | .inl i,v,h=>by
  obtain⟨t,e⟩:=Mx (k:=i) (v:=v) h;exact .inl ⟨i,t,rfl,e⟩
 | .inr x,v,h=>by
  obtain⟨t,e⟩:=Value.isStrOf_shape (x:=x) (v:=v) h;exact .inr ⟨x,t,rfl,e⟩
theorem ED(a b:Int):decide ((Sum.inl a:Key)=Sum.inl b)=(a==b):=by
 by_cases e:a=b
 .subst e;simp
 .have h:¬ (Sum.inl a:Key)=Sum.inl b:=λq=>e (Sum.inl.inj q);rw[decide_eq_false h];exact (beq_eq_false_iff_ne.mpr e).symm
theorem Ep(a b:Str):decide ((Sum.inr a:Key)=Sum.inr b)=decide (a=b):=by
 by_cases e:a=b
 .subst e;simp
 .have h:¬ (Sum.inr a:Key)=Sum.inr b:=λq=>e (Sum.inr.inj q);rw[decide_eq_false h,decide_eq_false e]
theorem Eu(a:Int)(b:Str):decide ((Sum.inl a:Key)=Sum.inr b)=false:=decide_eq_false (λq=>nomatch q)
theorem De(a:Str)(b:Int):decide ((Sum.inr a:Key)=Sum.inl b)=false:=decide_eq_false (λq=>nomatch q)
noncomputable def vq(prog:GX)(w:HF):PySem.KeyKind prog w Key where
 is:=CC
 hash:=Gj w
 inj:=λv a b f d=>by
  rcases bW f with ⟨i,t,rfl,rfl⟩ |⟨x,t,rfl,rfl⟩
  .rcases bW d with ⟨j,u,rfl,e⟩ |⟨y,u,rfl,e⟩
   .injection e with e1 _;rw[e1]
   .exact nomatch e
  .rcases bW d with ⟨j,u,rfl,e⟩ |⟨y,u,rfl,e⟩
   .exact nomatch e
   .injection e with e1 _;rw[e1]
 byValue:=λk v h=>by
  rcases bW h with ⟨i,t,rfl,rfl⟩ |⟨x,t,rfl,rfl⟩ <;>rfl
 pyHash:=λc h=>by
  rcases bW c with ⟨i,t,rfl,rfl⟩ |⟨x,t,rfl,rfl⟩
  .exact wpAny_pyHash_int h
  .exact wpAny_pyHash_str h
 eqBool:=λg c h=>by
  rcases bW g with ⟨i,t,rfl,rfl⟩ |⟨x,t,rfl,rfl⟩
  .rcases bW c with ⟨j,u,rfl,rfl⟩ |⟨y,u,rfl,rfl⟩
   .rw[ED]at h;exact wpAny_eqBool_int h
   .rw[Eu]at h;exact SeqAt.EqAt.int_str i t y u _ _ _ _ h
  .rcases bW c with ⟨j,u,rfl,rfl⟩ |⟨y,u,rfl,rfl⟩
   .rw[De]at h;exact SeqAt.EqAt.str_int x t j u _ _ _ _ h
   .rw[Ep]at h;exact wpAny_eqBool_str h
 «strs»:=λk x t v h=>by
  rcases bW h with ⟨i,u,rfl,e⟩ |⟨y,u,rfl,e⟩
  .exact nomatch e
  .injection e with e1 _;subst e1;cases v <;>rfl
inductive V where
 |non |bl (b:Bool) |int (i:Int) |str (x:Str) |byt (b:Array UInt8) |flt (b:UInt64) |ref (a:Hc) |ty (n:String)
 deriving DecidableEq
noncomputable def ba:V->GM->Prop
 | .non,u=>u=Lb
 | .bl b,u=>u=Lw b
 | .int i,u=>∃t,u=Ma i t
 | .str x,u=>∃t,u=Q4 x t
 | .byt b,u=>∃t,u=Value.bytes b t
 | .flt b,u=>∃t,u=Sj b t
 | .ref a,u=>u=Ik a
 | .ty n,u=>u=J4 n
abbrev aZ:List V->List GM->Prop:=Paired ba
theorem aZ.length{xs:List V}{us:List GM}(r:aZ xs us):xs.length=us.length:=Paired.length r
theorem aZ.get:∀{b:List V}{a:List GM}{i:Nat}{x:V},aZ b a->b[i]?=some x->∃u,a[i]?=some u/\ba x u
 |_,_,_,_,.nil,e=>by simp at e
 |_,_,0,_,.cons r _,e=>by simp at e;subst e;exact⟨_,rfl,r⟩
 |_,_,i+1,x,.cons _ t,e=>by
  obtain⟨u,d,c⟩:=aZ.get (i:=i) (x:=x) t (by simpa using e);exact⟨u,by simpa using d,c⟩
theorem aZ.append:∀{d a:List V}{b c:List GM},aZ d b->aZ a c->aZ (d++a) (b++c)
 |_,_,_,_,.nil,s=>s
 |_,_,_,_,.cons r t,s=>.cons r (aZ.append t s)
theorem aZ.take:∀{b:List V}{a:List GM} (n:Nat),aZ b a->aZ (b.take n) (a.take n)
 |_,_,0,_=>.nil
 |_,_,_+1,.nil=>.nil
 |_,_,n+1,.cons r t=>.cons r (aZ.take n t)
theorem aZ.drop:∀{b:List V}{a:List GM} (n:Nat),aZ b a->aZ (b.drop n) (a.drop n)
 |_,_,0,r=>r
 |_,_,_+1,.nil=>.nil
 |_,_,n+1,.cons _ t=>aZ.drop n t
noncomputable def Er:Option V->Option GM->Prop
 |some v,some u=>ba v u
 |none,none=>True
 |_,_=>False
def KV{a:Type}:List (a×V)->List (a×GM)->Prop:=Paired λ(p:a×V) (q:a×GM)=>p.1=q.1/\ba p.2 q.2
noncomputable def kV:Key->V
 | .inl i=>.int i
 | .inr x=>.str x
inductive HO where
 /-- a list -/
 |lst (xs:List V)
 /-- a tuple (never changes) -/
 |tup (xs:List V)
 /-- a dict whose keys are ints and texts;one whose keys are tuples of ints and texts (the empty one is both) -/
 |dK (S9:List (Key×V)) |dT (S9:List (List Key×V))
 /-- a set of ints:its members,its size -/
 |set (S:Int->Bool) (n:Nat)
 /-- an instance of the class at C,its dict at dx,its attributes -/
 |ins (C dx:Hc) (fs:List (Str×V))
 /-- the dict of the instance at x -/
 |own (x:Hc)
 /-- the dict of an exception -/
 |xd (fs:List (Str×V))
 /-- a bound method,f of x -/
 |met (f x:Hc)
 /-- a range object lo,lo+1,.. below hi -/
 |rng (lo hi:Int)
 /-- a thing that is known to the object (the script;a dict while a loop walks it):read,never written while it is so -/
 |frz (o:Obj) (u:HO)
 /-- a code object's table -/
 |tbl (ps:Array GM)
 /-- any other thing,by what is true of its one object (a def of one's own:SetO a S n:=HO.ext λh=>..) -/
 |ext (φ:Jx->Prop)
noncomputable abbrev Hp:=Hc->Option HO
noncomputable def upd(H:Hp)(a:Hc)(o:HO):Hp:=λb=>if b=a then some o else H b
theorem a9{H:Hp}{a:Hc}{o:HO}:upd H a o a=some o:=by unfold upd;rw[if_pos rfl]
theorem aS{H:Hp}{a b:Hc}{o:HO}(h:b≠a):upd H a o b=H b:=by unfold upd;rw[if_neg h]
theorem bS{H:Hp}{a b:Hc}{o:HO}(h:H a=some o)(h':H b=none):a≠b:=by
 intro e;subst e;rw[h]at h';cases h'
section
variable (P:GX) (w:HF)
noncomputable def cM(H:Hp)(h:Jx)(a:Hc):HO->Prop
 | .lst xs=>xs.length≤sizeLine∧∃(its:List GM) (n:Nat),aZ xs its∧h.get? a=some {cls:=.type "list",data:=.seq its.toArray n }
 | .tup xs=>xs.length<=sizeLine/\∃its:List GM,aZ xs its/\Pn h a its.toArray
 | .dK S9=>S9.length<=sizeLine/\(a==sysModules)=false/\∃e,KV S9 e/\h.DictOf (vq P w) a e
 | .dT S9=>S9.length<=sizeLine/\(a==sysModules)=false/\∃xs:List (List Key×Hc×GM),
   Paired (λ(p:List Key×V) (q:List Key×Hc×GM)=>p.1=q.1/\H q.2.1=some (.tup (p.1.map kV))/\ba p.2 q.2.2) S9 xs/\
   ∃o d j,h.get? a=some o/\o.ExactDict/\o.data=.dict d j/\d.toList=xs.map (entryOfKey (tupleKind (vq P w)))/\(xs.map (·.1)).Nodup
 | .set S n=>h.SetOf (MS P w) a S n
 | .ins C c fs=>H c=some (.own a)/\fs.length<=1000/\c≠a/\h.get? a=some (OH C c)/\
   ∃b,h.Ns1 c b/\(∀f,Er (fs.lookup f) (b f))/\R6 b (fs.map (·.1))
 | .own _=>∃o,h.get? a=some o
 | .xd fs=>∃b,h.Ns1 a b/\∀f,Er (fs.lookup f) (b f)
 | .rng lo k=>∃t u v,h.get? a=some {cls:=.type "range",data:=.fields #[.int lo t,.int k u,.int 1 v] }
 | .frz o u=>h.get? a=some o/\cM H h a u
 | .tbl ps=>h.get? a=some {cls:=.none,data:=.fields ps }
 | .met f x=>h.get? a=some (NC (.ref f) (.ref x))
 | .ext φ=>φ h/\(∃o,h.get? a=some o)/\∀i g:Jx,φ i->(∀o,i.get? a=some o->g.get? a=some o)->φ g
def HOk(H:Hp)(h:Jx):Prop:=∀a o,H a=some o->cM P w H h a o
end
section
variable {P:GX}{w:HF}{H H':Hp}{h h':Jx}{a:Hc}{o:HO}
theorem cM.lt(x:cM P w H h a o):a<h.objs.size:=by
 cases o with
 |lst b=>obtain⟨_,_,_,_,e⟩:=x;exact GS e
 |tup b=>obtain⟨_,_,_,p⟩:=x;exact p.lt
 |dK c=>obtain⟨_,_,_,_,o,_,_,e,_⟩:=x;exact GS e
 |dT c=>obtain⟨_,_,_,_,o,_,_,e,_⟩:=x;exact GS e
 |set S n=>obtain⟨o,_,_,_,e,_⟩:=x;exact GS e
 |ins C d fs=>obtain⟨_,_,_,e,_⟩:=x;exact GS e
 |own y=>obtain⟨_,e⟩:=x;exact GS e
 |xd fs=>obtain⟨_,⟨_,_,_,e,_⟩,_⟩:=x;exact GS e
 |rng k i=>obtain⟨_,_,_,e⟩:=x;exact GS e
 |frz g u=>obtain⟨e,_⟩:=x;exact GS e
 |tbl l=>exact GS (show h.get? a=some _ from x)
 |met f y=>exact GS (show h.get? a=some _ from x)
 |ext j=>obtain⟨_,⟨_,e⟩,_⟩:=x;exact GS e
theorem Paired.mapP{e g:Type}{F G:e->g->Prop}:∀{c:List e}{d:List g},Paired F c d->(∀a b,F a b->G a b)->Paired G c d
 |_,_,.nil,_=>.nil
 |_,_,.cons r t,f=>.cons (f _ _ r) (Paired.mapP t f)
theorem cM.stay(x:cM P w H h a o)(k:∀b u,(b=a\/H b=some (.own a))->h.get? b=some u->h'.get? b=some u)
  (ho:∀b,H b=some (.own a)->H' b=some (.own a)) (ht:∀b l,H b=some (.tup l)->H' b=some (.tup l)):cM P w H' h' a o:=by
 induction o with
 |lst l=>obtain⟨z,its,n,r,e⟩:=x;exact⟨z,its,n,r,k _ _ (.inl rfl) e⟩
 |tup l=>obtain⟨z,its,r,g,e,c⟩:=x;exact⟨z,its,r,g,k _ _ (.inl rfl) e,c⟩
 |dK I=>obtain⟨z,y,D,r,g,i,j,e,c⟩:=x;exact⟨z,y,D,r,g,i,j,k _ _ (.inl rfl) e,c⟩
 |dT I=>
  obtain⟨z,y,l,r,g,i,j,e,c⟩:=x;exact⟨z,y,l,Paired.mapP r λp q z=>⟨z.1,ht _ _ z.2.1,z.2.2⟩,g,i,j,k _ _ (.inl rfl) e,c⟩
 |set S n=>obtain⟨g,i,j,t,e,c⟩:=x;exact⟨g,i,j,t,k _ _ (.inl rfl) e,c⟩
 |ins C J fs=>
  obtain⟨d,z,F,e,s,⟨m,i,j,G,c⟩,r⟩:=x;exact⟨ho _ d,z,F,k _ _ (.inl rfl) e,s,⟨m,i,j,k _ _ (.inr d) G,c⟩,r⟩
 |own y=>obtain⟨g,e⟩:=x;exact⟨g,k _ _ (.inl rfl) e⟩
 |xd fs=>obtain⟨s,⟨m,i,j,e,c⟩,r⟩:=x;exact⟨s,⟨m,i,j,k _ _ (.inl rfl) e,c⟩,r⟩
 |rng M K=>obtain⟨t,u,v,e⟩:=x;exact⟨t,u,v,k _ _ (.inl rfl) e⟩
 |frz g u E=>obtain⟨e,q⟩:=x;exact⟨k _ _ (.inl rfl) e,E q⟩
 |tbl B=>
  have e:h.get? a=some {cls:=.none,data:=.fields B }:=x;show h'.get? a=some {cls:=.none,data:=.fields B };exact k a _ (.inl rfl) e
 |met f y=>
  have e:h.get? a=some (NC (.ref f) (.ref y)):=x;show h'.get? a=some (NC (.ref f) (.ref y));exact k a _ (.inl rfl) e
 |ext L=>obtain⟨p,⟨o,e⟩,A⟩:=x;exact⟨A _ _ p λo q=>k _ _ (.inl rfl) q,⟨o,k _ _ (.inl rfl) e⟩,A⟩
theorem HOk.lt(x:HOk P w H h)(e:H a=some o):a<h.objs.size:=(x a o e).lt
theorem HOk.fresh(x:HOk P w H h)(e:h.objs.size<=a):H a=none:=by
 cases q:H a with
 |none=>rfl
 |some u=>exact absurd (GT (x.lt q) e) (Hw _)
theorem HOk.kept(x:HOk P w H h)(k:∀b u,h.get? b=some u->h'.get? b=some u):HOk P w H h':=λa o e=>
 (x a o e).stay (λb u _ q=>k b u q) (λ_ q=>q) λ_ _ q=>q
theorem HOk.laid(x:HOk P w H h)(k:∀b u,h.get? b=some u->h'.get? b=some u)(i:h.objs.size<=a)(d:cM P w (upd H a o) h' a o):HOk P w (upd H a o) h':=λb u e=>by
 have f:=x.fresh i;by_cases g:b=a
 .subst g;rw[a9]at e;cases e;exact d
 .rw[aS g]at e;exact (x b u e).stay (λc v _ q=>k c v q) (λc q=>by rw[aS (bS q f)];exact q) λc j q=>by rw[aS (bS q f)];exact q
end
def Rd(H:Hp)(a:Hc)(u:HO):Prop:=H a=some u\/∃o,H a=some (.frz o u)
theorem Rd.ok{P:GX}{w:HF}{H:Hp}{h:Jx}{a:Hc}{u:HO}(r:Rd H a u)(x:HOk P w H h):cM P w H h a u:=by
 rcases r with r |⟨o,r⟩
 .exact x a u r
 .obtain⟨_,q⟩:=x a _ r;exact q
noncomputable def Mut:Option HO->Prop
 |some (.lst _)=>True
 |some (.dK _)=>True
 |some (.dT _)=>True
 |some (.set _ _)=>True
 |some (.ins _ _ _)=>True
 |some (.ext _)=>True
 |_=>False
section
variable {P:GX}{w:HF}{H:Hp}{h h':Jx}{x e:Hc}{o':HO}
theorem HOk.write(s:HOk P w H h)(j:Mut (H x))(n:e=x\/H e=some (.own x))(k:∀b u,b≠e->h.get? b=some u->h'.get? b=some u)(m:∃u,h'.get? e=some u)
  (new:cM P w (upd H x o') h' x o'):HOk P w (upd H x o') h':=λb u q=>by
 have d:∀c y,H c=some (.own y)->c≠x:=λc y r z=>by subst z;rw[r]at j;exact j
 have f:∀c g,H c=some (.tup g)->c≠x:=λc g r z=>by subst z;rw[r]at j;exact j
 by_cases i:b=x
 .subst i;rw[a9]at q;cases q;exact new
 .rw[aS i]at q;by_cases a:b=e
  .have o:H b=some (.own x):=by
    rcases n with z |z
    .exact absurd (a.trans z) i
    .rw[a];exact z
   rw[q]at o;cases o;obtain⟨v,p⟩:=m;exact⟨v,by rw[a];exact p⟩
  .refine (s b u q).stay (λc v l r=>k c v ?_ r) (λc r=>by rw[aS (d c b r)];exact r) λc g r=>by rw[aS (f c g r)];exact r
   rcases l with rfl |l
   .exact a
   .rintro rfl;rcases n with z |z
    .exact d c b l z
    .rw[l]at z;cases z;exact i rfl
end
structure Un(fs ex:List Hc)(H H':Hp)(h h':Jx):Prop where
 keep:∀b o,h.get? b=some o->H b=none->b ∉ fs->b ∉ ex->h'.get? b=some o
 slot:∀b o,h.get? b=some o->H b=none->b∈fs->b ∉ ex->∃sl,h'.get? b=some {o with slots:=sl }
 free:∀b o,h.get? b=some o->H b=none->b ∉ ex->H' b=none
 there:∀b o,h.get? b=some o->b ∉ ex->∃o',h'.get? b=some o'
 tups:∀b xs,H b=some (.tup xs)->H' b=some (.tup xs)
 frzs:∀b o u,H b=some (.frz o u)->H' b=some (.frz o u)
 tbls:∀b ps,H b=some (.tbl ps)->∃more,H' b=some (.tbl (ps++more))
section
variable {fs fs' ex ex':List Hc}{H H1 H2:Hp}{h h1 h2 h':Jx}{a x e:Hc}{o:HO}
theorem Un.any(u:Un fs ex H H1 h h1){b:Hc}{a:Obj}(q:h.get? b=some a)(n:H b=none)(d:b ∉ ex):∃e,h1.get? b=some {a with slots:=e }:=by
 by_cases c:b∈fs
 .exact u.slot b a q n c d
 .exact⟨a.slots,u.keep b a q n c d⟩
theorem Un.kept(k:∀b u,h.get? b=some u->h'.get? b=some u):Un fs ex H H h h':=
 ⟨λb a q _ _ _=>k b a q,λb a q _ _ _=>⟨a.slots,k b a q⟩,λ_ _ _ n _=>n,λb a q _=>⟨a,k b a q⟩,λ_ _ q=>q,λ_ _ _ q=>q,λ_ c q=>⟨#[],by rw[q];simp⟩⟩
theorem Un.refl:Un fs ex H H h h:=Un.kept λ_ _ q=>q
theorem Un.laid(k:∀b u,h.get? b=some u->h'.get? b=some u)(d:h.objs.size<=a)(c:H a=none):Un fs ex H (upd H a o) h h' where
 keep:=λb u q _ _ _=>k b u q
 slot:=λb u q _ _ _=>⟨u.slots,k b u q⟩
 free:=λb u q n _=>by rw[aS (Hn (GT (GS q) d))];exact n
 there:=λb u q _=>⟨u,k b u q⟩
 tups:=λb e q=>by rw[aS (bS q c)];exact q
 frzs:=λb u e q=>by rw[aS (bS q c)];exact q
 tbls:=λb f q=>⟨#[],by rw[aS (bS q c),q];simp⟩
theorem Un.write(c:Mut (H x))(l:e=x\/H e=some (.own x))(k:∀b u,b≠e->h.get? b=some u->h'.get? b=some u)(d:∃u,h'.get? e=some u):Un fs ex H (upd H x o) h h':=by
 have i:∀b,H b=none->b≠x:=λb n z=>by subst z;rw[n]at c;exact c
 have g:∀b,H b=none->b≠e:=λb n z=>by
  subst z;rcases l with r |r
  .exact i b n r
  .rw[n]at r;cases r
 have f:∀b u,H b=some u->¬ Mut (some u)->b≠x:=λb u q nm z=>by subst z;rw[q]at c;exact nm c
 refine⟨λb u q n _ _=>k b u (g b n) q,λb u q n _ _=>⟨u.slots,k b u (g b n) q⟩,λb u q n _=>by rw[aS (i b n)];exact n,λb u q _=>?_,
  λb j q=>by rw[aS (f b _ q λz=>z)];exact q,λb u j q=>by rw[aS (f b _ q λz=>z)];exact q,λb m q=>⟨#[],by rw[aS (f b _ q λz=>z),q];simp⟩⟩
 by_cases a:b=e
 .subst a;exact d
 .exact⟨u,k b u a q⟩
end
noncomputable def trk(h:Jx)(H:Hp):List Hc:=(HI h.objs.size).filter λa=>(H a).isSome
noncomputable def pJ(h:Jx)(H:Hp):Jx:=PySem.W.hideAll h (trk h H)
theorem v4(h:Jx)(H:Hp):(pJ h H).objs.size=h.objs.size:=PySem.W.hideAll_size _ _
theorem xi{h:Jx}{H:Hp}{b:Hc}{o:Obj}(e:h.get? b=some o)(n:H b=none):(pJ h H).get? b=some o:=
 PySem.W.hideAll_get _ e λa=>by
  have q:(H b).isSome=true:=(Im.mp a).2;rw[n]at q;simp at q
theorem AR{h:Jx}{H:Hp}{b:Hc}{o:Obj}(e:(pJ h H).get? b=some o):h.get? b=some o/\H b=none:=by
 have a:h.get? b=some o:=PySem.W.of_hideAll (trk h H) e;refine⟨a,?_⟩;cases q:H b with
 |none=>rfl
 |some x=>
  have c:b∈trk h H:=Im.mpr ⟨Hq.mpr (GS a),by simp[q]⟩;have z:(pJ h H).get? b=none:=PySem.W.hideAll_none (trk h H) c;rw[z]at e;cases e
noncomputable def A7(g h:Jx)(L:Hc):List (Hc×Obj):=(HI h.objs.size).filterMap λa=>if a=L\/(g.get? a).isSome=true then none else (h.get? a).map λo=>(a,o)
noncomputable def rest(g h:Jx)(L d:Hc):List (Hc×Obj):=(A7 g h L).filter λp=>decide (p.1≠d)
structure Mod(K:GE)(mg:Str->Option GM)(base:Jx):Prop where
 kin:K.In base
 glob:base.Ns Jf mg
 blt:∃mb,base.Ns RF mb∧∀x:Str,x≠"__name__"→mb x=IL x
 nolimit:base.NoLimit
structure Cx where
 prog:GX
 w:HF
 K:GE
 mg:Str->Option GM
 base:Jx
 A:HM
 N:List Str
 s₀:GP
 H₀:Hp
 env:Env
 outer:List Env
 stack:List Env
 ex:List Hc
 fn:Str->Bool
 calm:Bool
 pn:List (Hc×Obj)
 xe:GM->GP->Prop
noncomputable def frs(l:List Env):List Hc:=l.filterMap (·.frame)
noncomputable abbrev Cx.fs(X:Cx):List Hc:=frs X.outer
def Vis(a:PL)(x:Str):Prop:=a.names.lookup x=some .local\/a.names.lookup x=some .cell\/a.names.lookup x=some .free
def Loc(a:PL)(x:Str):Prop:=a.names.lookup x=some .local\/a.names.lookup x=some .cell
def F_(a:Env)(h:Jx)(m:Str->Option GM)(x:Str)(u:GM):Prop:=
 (a.kindOf x=some .local/\m x=some u)\/((a.kindOf x=some .cell\/a.kindOf x=some .free)/\∃c,a.cells.lookup x=some c/\h.IsCell c (some u))
structure Cx.Ok(X:Cx):Prop where
 mod:Mod X.K X.mg X.base
 kind:X.env.scope.kind=.function
 glob:X.env.globals=Jf
 blt:X.env.builtins=RF
 above:X.s₀.heap.objs.size<=X.env.locals
 inj:∀x y c,X.env.cells.lookup x=some c->X.env.cells.lookup y=some c->x=y
 has:∀x,(X.env.kindOf x=some .cell\/X.env.kindOf x=some .free)->∃c,X.env.cells.lookup x=some c
 cab:∀x c,X.fn x=true->X.env.cells.lookup x=some c->X.s₀.heap.objs.size<=c
 hd:X.calm=true->X.A.handled=none
 frames:X.A.frames=some X.stack
 stk:X.stack=X.outer\/(X.stack=X.env::X.outer/\X.env.frame=some X.env.locals)
 exf:∀b∈X.ex,b≠X.env.locals/\∀x c,X.env.cells.lookup x=some c->c≠b
 bs:∀b o,X.base.get? b=some o->X.s₀.heap.get? b=some o/\X.H₀ b=none
 bsz:X.base.objs.size<=X.s₀.heap.objs.size
 noex:∀b o,X.base.get? b=some o->b ∉ X.ex
 exfs:∀b∈X.ex,b ∉ X.fs
 funs:X.s₀.heap.FunFrames X.base X.outer
 frf:∀b∈X.fs,X.H₀ b=none
structure Inv(X:Cx)(SI:List (Hc×Obj))(σ:List (Option V))(H:Hp)(s:GP):Prop where
 ok:X.Ok
 os:s.os=X.s₀.os
 bare:NX s.gens
 base:Un X.fs X.ex X.H₀ H X.s₀.heap s.heap
 loc:∃m,s.heap.Ns X.env.locals m/\∀(i:Nat) (x:Str) (v:V),X.N[i]?=some x->σ[i]?=some (some v)->Vis X.env.scope x->∃u,ba v u/\F_ X.env s.heap m x u
 cell:∀x c,X.env.cells.lookup x=some c->∃v,s.heap.IsCell c v
 free:H X.env.locals=none
 freeC:∀x c,X.env.cells.lookup x=some c->H c=none
 pin:∀p∈X.pn++SI,s.heap.get? p.1=some p.2/\H p.1=none/\p.1≠X.env.locals/\p.1 ∉ X.fs/\∀v,p.2.data≠.cell v
 hok:HOk X.prog X.w H s.heap
 len:σ.length=X.N.length
section
variable {X:Cx}{SI:List (Hc×Obj)}{σ:List (Option V)}{H H':Hp}{s:GP}{h':Jx}
theorem Cx.Ok.nofr(a:X.Ok){b:Hc}{o:Obj}(e:X.base.get? b=some o):b ∉ X.fs:=λc=>by
 have:=(a.funs.mem c).1;rw[e]at this;cases this
theorem Inv.bs(I:Inv X SI σ H s):∀b o,X.base.get? b=some o->s.heap.get? b=some o/\H b=none:=λb o e=>
 ⟨I.base.keep b o (I.ok.bs b o e).1 (I.ok.bs b o e).2 (I.ok.nofr e) (I.ok.noex b o e),I.base.free b o (I.ok.bs b o e).1 (I.ok.bs b o e).2 (I.ok.noex b o e)⟩
theorem Inv.bk(I:Inv X SI σ H s):∀b o,X.base.get? b=some o->s.heap.get? b=some o:=λb o e=>(I.bs b o e).1
theorem Inv.mod(I:Inv X SI σ H s):Mod X.K X.mg X.base:=I.ok.mod
theorem Inv.kIn(I:Inv X SI σ H s):X.K.In s.heap:=I.ok.mod.kin.keeps I.bk
theorem Inv.lt(I:Inv X SI σ H s):X.env.locals<s.heap.objs.size:=let ⟨_,hn,_⟩:=I.loc;hn.lt
theorem Inv.sz(I:Inv X SI σ H s):X.s₀.heap.objs.size<=s.heap.objs.size:=HB I.ok.above (Hd I.lt)
theorem Inv.nofs(I:Inv X SI σ H s){a:Hc}(h:s.heap.objs.size<=a):a ∉ X.fs:=λb=>by
 obtain⟨_,o,c,_⟩:=I.ok.funs.mem b;exact absurd (GT (GS c) (HB I.sz h)) (Hw _)
theorem Inv.cne(I:Inv X SI σ H s):∀x c,X.env.cells.lookup x=some c->c≠X.env.locals:=λx c e z=>by
 obtain⟨v,o,b,a⟩:=I.cell x c e;obtain⟨m,⟨i,g,h,d,f,_⟩,_⟩:=I.loc;rw[z,d]at b;cases b;rw[f]at a;cases a
theorem Inv.funs(I:Inv X SI σ H s):s.heap.FunFrames X.base X.outer:=by
 have all:∀(l:List Env),(∀b∈frs l,b∈X.fs)->X.s₀.heap.FunFrames X.base l->s.heap.FunFrames X.base l:=by
  intro l
  induction l with
  |nil=>intro _ _;trivial
  |cons i r g=>
   intro f j;obtain⟨k,⟨L,o,c,p,n,h⟩,m⟩:=j;have a:L∈X.fs:=f L (by unfold frs;rw[Jg,c];exact GR);obtain⟨q,e⟩:=I.base.slot L o n (I.ok.frf L a) a λz=>I.ok.exfs L z a;exact⟨k,⟨L,_,c,p,e,h⟩,g (λb d=>f b (by unfold frs;rw[Jg,c];exact GG _ d)) m⟩
 exact all X.outer (λ_ d=>d) I.ok.funs
theorem Inv.stack(I:Inv X SI σ H s):s.heap.FunFrames X.base X.stack:=by
 rcases I.ok.stk with e |⟨e,b⟩
 .rw[e];exact I.funs
 .rw[e];obtain⟨m,a,_⟩:=I.loc;refine .cons (by rw[I.ok.kind];decide) b a ?_ I.funs;exact Heap.get?_none_of_le (HB I.ok.bsz I.ok.above)
theorem Inv.stkSub(I:Inv X SI σ H s):∀b∈frs X.stack,b∈X.env.locals::X.fs:=λb a=>by
 rcases I.ok.stk with e |⟨e,c⟩
 .rw[e]at a;exact GG _ a
 .rw[e]at a;unfold frs at a;rw[Jg,c]at a;exact a
theorem Inv.stkFree(I:Inv X SI σ H s):∀b∈frs X.stack,H b=none:=λb a=>by
 rcases GF.mp (I.stkSub b a) with e |a
 .rw[e];exact I.free
 .obtain⟨_,o,c,_⟩:=I.ok.funs.mem a;exact I.base.free b o c (I.ok.frf b a) λz=>I.ok.exfs b z a
theorem Inv.step{g':Array M0}{t':Nat}{d':Drawn}{ch:List Hc}(I:Inv X SI σ H s)
  (Vd:∀b∈ch,(b∈X.ex\/X.s₀.heap.objs.size<=b)/\b≠X.env.locals/\(∀x c,X.env.cells.lookup x=some c->c≠b)/\∀p∈X.pn++SI,p.1≠b)
  (keep:∀b o,b≠X.env.locals->b ∉ X.fs->b ∉ ch->s.heap.get? b=some o->H b=none->h'.get? b=some o)
  (slot:∀b o,b≠X.env.locals->b∈X.fs->b ∉ ch->s.heap.get? b=some o->H b=none->∃G,h'.get? b=some {o with slots:=G }) (free:∀b o,b ∉ ch->s.heap.get? b=some o->H b=none->H' b=none)
  (there:∀b o,b ∉ ch->s.heap.get? b=some o->∃C,h'.get? b=some C)
  (tups:∀b j,H b=some (.tup j)->H' b=some (.tup j)) (frzs:∀b o u,H b=some (.frz o u)->H' b=some (.frz o u)) (tbls:∀b D,H b=some (.tbl D)->∃more,H' b=some (.tbl (D++more)))
  (ns:∀m,s.heap.Ns X.env.locals m->h'.Ns X.env.locals m) (hok:HOk X.prog X.w H' h') (hg:NX g'):
  Inv X SI σ H' {s with heap:=h',gens:=g',drawn:=d',toks:=t' }:=by
 have A:∀b o,X.s₀.heap.get? b=some o->b≠X.env.locals:=λb o e=>Hn (GT (GS e) I.ok.above)
 have h:∀b o,X.s₀.heap.get? b=some o->b ∉ X.ex->b ∉ ch:=λb o e a t=>by
  rcases (Vd b t).1 with z |z
  .exact a z
  .exact absurd (GT (GS e) z) (Hw _)
 have M:∀x c,X.env.cells.lookup x=some c->∀v,s.heap.IsCell c v->h'.IsCell c v:=λx c e v T=>by
  obtain⟨o,y,E⟩:=T;have f:c ∉ ch:=λz=>(Vd c z).2.2.1 x c e rfl;by_cases N:c∈X.fs
  .obtain⟨G,q⟩:=slot c o (I.cne x c e) N f y (I.freeC x c e);exact⟨_,q,E⟩
  .exact⟨o,keep c o (I.cne x c e) N f y (I.freeC x c e),E⟩
 refine⟨I.ok,I.os,hg,⟨λb o e n t a=>?_,λb o e n t a=>?_,λb o e n a=>?_,λb o e a=>?_,λb j e=>tups b j (I.base.tups b j e),λb o j e=>frzs b o j (I.base.frzs b o j e),λb D e=>?_⟩,?_,λx c e=>?_,?_,λx c e=>?_,λp K=>?_,hok,I.len⟩
 .exact keep b o (A b o e) t (h b o e a) (I.base.keep b o e n t a) (I.base.free b o e n a)
 .obtain⟨G,g⟩:=I.base.slot b o e n t a;obtain⟨F,B⟩:=slot b _ (A b o e) t (h b o e a) g (I.base.free b o e n a);exact⟨F,B⟩
 .obtain⟨C,g⟩:=I.base.there b o e a;exact free b C (h b o e a) g (I.base.free b o e n a)
 .obtain⟨C,g⟩:=I.base.there b o e a;exact there b C (h b o e a) g
 .obtain⟨P,g⟩:=I.base.tbls b D e;obtain⟨Q,B⟩:=tbls b _ g;exact⟨P++Q,by rw[B,PY]⟩
 .obtain⟨m,R,O⟩:=I.loc;refine⟨m,ns m R,λi x v g B S=>?_⟩;obtain⟨u,r,l⟩:=O i x v g B S;refine⟨u,r,?_⟩;rcases l with l |⟨k,c,e,z⟩
  .exact .inl l
  .exact .inr ⟨k,c,e,M x c e _ z⟩
 .obtain⟨v,z⟩:=I.cell x c e;exact⟨v,M x c e v z⟩
 .obtain⟨m,⟨o,_,_,y,_⟩,_⟩:=I.loc;exact free _ o (λz=>(Vd _ z).2.1 rfl) y I.free
 .obtain⟨v,o,y,E⟩:=I.cell x c e;exact free c o (λz=>(Vd c z).2.2.1 x c e rfl) y (I.freeC x c e)
 .obtain⟨e,n,J,L,d⟩:=I.pin p K;have f:p.1 ∉ ch:=λz=>(Vd p.1 z).2.2.2 p K rfl;exact⟨keep p.1 p.2 J L f e n,free p.1 p.2 f e n,J,L,d⟩
theorem Inv.un{t':Nat}(I:Inv X SI σ H s)(u:Un X.fs [] H H' s.heap h')(d:HOk X.prog X.w H' h'):Inv X SI σ H' {s with heap:=h',toks:=t' }:=by
 obtain⟨m,⟨o,l,p,g,r⟩,_⟩:=id I.loc;obtain⟨q,i⟩:=u.any g I.free (by simp)
 exact I.step (g':=s.gens) (d':=s.drawn) (ch:=[]) (λ_ z=>nomatch z) (λb o _ f _ e n=>u.keep b o e n f (by simp)) (λb o _ f _ e n=>u.slot b o e n f (by simp)) (λb o _ e n=>u.free b o e n (by simp)) (λb o _ e=>u.there b o e (by simp)) u.tups u.frzs u.tbls (λt j=>by
  obtain⟨v,c,a,h,k⟩:=j;rw[g]at h;cases h;exact⟨_,c,a,i,k⟩) d I.bare
theorem Inv.call{g':Array M0}{t':Nat}{d':Drawn}{ch:List Hc}(I:Inv X SI σ H s)(u:Un (frs X.stack) ch H H' s.heap h')(h:HOk X.prog X.w H' h')(l:NX g')
  (Vd:∀b∈ch,(b∈X.ex\/X.s₀.heap.objs.size<=b)/\b≠X.env.locals/\(∀x c,X.env.cells.lookup x=some c->c≠b)/\∀p∈X.pn++SI,p.1≠b):
  Inv X SI σ H' {s with heap:=h',gens:=g',drawn:=d',toks:=t' }:=by
 obtain⟨m,⟨o,v,y,i,r⟩,_⟩:=id I.loc;obtain⟨A,d⟩:=u.any i I.free λz=>(Vd _ z).2.1 rfl
 exact I.step (ch:=ch) Vd (λb o d q a e n=>u.keep b o e n (λz=>(GF.mp (I.stkSub b z)).elim d q) a) (λb o _ _ a e n=>u.any e n a) (λb o a e n=>u.free b o e n a) (λb o a e=>u.there b o e a) u.tups u.frzs u.tbls (λB k=>by
  obtain⟨C,g,f,j,t⟩:=k;rw[i]at j;cases j;exact⟨_,g,f,d,t⟩) h l
theorem Inv.turned{t':Nat}{a:Hc}(I:Inv X SI σ H s)(k:∀b o,b≠a->s.heap.get? b=some o->h'.get? b=some o)(w:H a=none)(g:a≠X.env.locals)
  (h1:a∈X.ex\/X.s₀.heap.objs.size<=a) (h2:∀x c,X.env.cells.lookup x=some c->c≠a) (h3:∀p∈X.pn++SI,p.1≠a):Inv X SI σ H {s with heap:=h',toks:=t' }:=by
 have f:∀b u,H b=some u->b≠a:=λb u e z=>by rw[z,w]at e;cases e
 refine I.step (g':=s.gens) (d':=s.drawn) (ch:=[a]) (λb l=>?_) (λb o _ _ d e _=>k b o (λz=>d (by simp[z])) e) (λb o _ _ d e _=>⟨o.slots,k b o (λz=>d (by simp[z])) e⟩) (λ_ _ _ _ n=>n)
  (λb o d e=>⟨o,k b o (λz=>d (by simp[z])) e⟩) (λ_ _ e=>e) (λ_ _ _ e=>e) (λb y e=>⟨#[],by rw[e];simp⟩) (λm i=>?_) (λb u e=>?_) I.bare
 .have e:b=a:=by simpa using l
  subst e;exact⟨h1,g,h2,h3⟩
 .obtain⟨o,h,j,t,r⟩:=i;exact⟨o,h,j,k _ o (Ne.symm g) t,r⟩
 .refine (I.hok b u e).stay (λc v d q=>k c v ?_ q) (λ_ q=>q) λ_ _ q=>q;rcases d with z |z
  .rw[z];exact f b u e
  .exact f c _ z
theorem Inv.tok(I:Inv X SI σ H s)(t:Nat):Inv X SI σ H {s with toks:=t }:=I.un (h':=s.heap) (t':=t) Un.refl I.hok
theorem Inv.kept{t':Nat}(I:Inv X SI σ H s)(k:∀b u,s.heap.get? b=some u->h'.get? b=some u):Inv X SI σ H {s with heap:=h',toks:=t' }:=I.un (Un.kept k) (I.hok.kept k)
theorem Inv.laid{a:Hc}{o:HO}{t':Nat}(I:Inv X SI σ H s)(k:∀b u,s.heap.get? b=some u->h'.get? b=some u)(c:s.heap.objs.size<=a)(d:cM X.prog X.w (upd H a o) h' a o):
  Inv X SI σ (upd H a o) {s with heap:=h',toks:=t' }:=I.un (Un.laid k c (I.hok.fresh c)) (I.hok.laid k c d)
theorem Inv.write{x e:Hc}{o:HO}{t':Nat}(I:Inv X SI σ H s)(d:Mut (H x))(c:e=x\/H e=some (.own x))(k:∀b u,b≠e->s.heap.get? b=some u->h'.get? b=some u)(a:∃u,h'.get? e=some u)
  (new:cM X.prog X.w (upd H x o) h' x o):Inv X SI σ (upd H x o) {s with heap:=h',toks:=t' }:=I.un (Un.write d c k a) (I.hok.write d c k a new)
theorem Inv.weak{a:List (Option V)}(I:Inv X SI σ H s)(e:a.length=σ.length)(w:∀(i:Nat) v,a[i]?=some (some v)->σ[i]?=some (some v)):Inv X SI a H s:=
 ⟨I.ok,I.os,I.bare,I.base,let ⟨m,hn,TN⟩:=I.loc;⟨m,hn,λi x v c d b=>TN i x v c (w i v d) b⟩,I.cell,I.free,I.freeC,I.pin,I.hok,e.trans I.len⟩
theorem Inv.pins_of{a:List (Hc×Obj)}(I:Inv X SI σ H s)(h:∀p∈a,s.heap.get? p.1=some p.2/\H p.1=none/\p.1≠X.env.locals/\p.1 ∉ X.fs/\∀v,p.2.data≠.cell v):Inv X a σ H s:=
 ⟨I.ok,I.os,I.bare,I.base,I.loc,I.cell,I.free,I.freeC,λp b=>(Hi.mp b).elim (λz=>I.pin p (Hm _ z)) (h p),I.hok,I.len⟩
theorem md{N:List Str}(c:N.Nodup){i j:Nat}{x:Str}(a:N[i]?=some x)(b:N[j]?=some x):i=j:=by
 obtain⟨g,d⟩:=GV.mp a;obtain⟨f,e⟩:=GV.mp b;exact (Oe c).mp (d.trans e.symm)
theorem jC{M:SE}{A:HM}{E:GM->GP->Prop}{i:Nat}{x:Str}{v:V}{u:GM}{Q:Unit->GP->Prop}(I:Inv X SI σ H s)(hN:X.N.Nodup)(J:X.N[i]?=some x)(t:Loc X.env.scope x)(r:ba v u)
  (h:∀W,Inv X SI (σ.set i (some v)) H W->(∃a,LX a s.heap W.heap/\(a=X.env.locals\/X.env.cells.lookup x=some a))->Q () W) (hf:autoParam (X.fn x=true\/X.env.scope.names.lookup x=some .local) v3):Ht M A (storeName X.env x u) Q E s:=by
 obtain⟨m,hn,hl⟩:=id I.loc;have K:(X.env.scope.kind==.class || (X.env.scope.kind==.module && X.env.locals !=X.env.globals))=false:=by rw[I.ok.kind];rfl
 have Vm:i<σ.length:=by rw[I.len];exact (GV.mp J).1
 have cne:=I.cne
 have T6:∀{a:Hc}{h':Jx},(∃o,s.heap.get? a=some o/\H a=none)->LX a s.heap h'->HOk X.prog X.w H h':=λ{a h'} ha f b ob e=>by
  obtain⟨_,_,VC⟩:=ha;refine (I.hok b ob e).stay (λc P l q=>(f.2 c ?_).trans q) (λ_ q=>q) λ_ _ q=>q;rintro rfl;rcases l with rfl |l
  .rw[VC]at e;cases e
  .rw[VC]at l;cases l
 rcases t with C |C
 .refine wpAny_storeName_local C hn (λh' Vn f=>?_) K;obtain⟨oL,_,_,T,_⟩:=id hn;refine h _ ⟨I.ok,I.os,I.bare,⟨λb o e n D t=>?_,λb o e n D t=>?_,I.base.free,λb o e t=>?_,I.base.tups,I.base.frzs,I.base.tbls⟩,⟨_,Vn,λj y v' g B e3=>?_⟩,λy c e=>?_,I.free,I.freeC,λp Z=>?_,T6 ⟨oL,T,I.free⟩ f,by simpa using I.len⟩ ⟨_,f,.inl rfl⟩
  .exact (f.2 b (Hn (GT (GS e) I.ok.above))).trans (I.base.keep b o e n D t)
  .obtain⟨U,g⟩:=I.base.slot b o e n D t;exact⟨U,(f.2 b (Hn (GT (GS e) I.ok.above))).trans g⟩
  .obtain⟨o',g⟩:=I.base.there b o e t;exact⟨o',(f.2 b (Hn (GT (GS e) I.ok.above))).trans g⟩
  .by_cases G:j=i
   .subst G;rw[J]at g;cases g;rw[Ms Vm]at B;cases B;exact⟨u,r,.inl ⟨C,by simp⟩⟩
   .rw[Hs (Ne.symm G)]at B;obtain⟨Y,r',q⟩:=hl j y v' g B e3;refine⟨Y,r',?_⟩;rcases q with ⟨k,e⟩ |⟨k,c,e,z⟩
    .refine .inl ⟨k,?_⟩;have:y≠x:=λe=>G (md hN g (e ▸ J));simp[this,e]
    .exact .inr ⟨k,c,e,z.sameBut f (cne y c e)⟩
  .obtain⟨P,z⟩:=I.cell y c e;exact⟨P,z.sameBut f (cne y c e)⟩
  .obtain⟨e,n,R,nf,d⟩:=I.pin p Z;exact⟨(f.2 p.1 R).trans e,n,R,nf,d⟩
 .have F:X.fn x=true:=by
   rcases hf with z |z
   .exact z
   .rw[z]at C;cases C
  obtain⟨c,l⟩:=I.ok.has x (.inl C);obtain⟨P,z⟩:=I.cell x c l;refine wpAny_storeName_cell I.ok.kind C l z (λh' VD f=>?_);obtain⟨oc,UP,L⟩:=id z;refine h {s with heap:=h' } ⟨I.ok,I.os,I.bare,⟨λb o e n D t=>?_,λb o e n D t=>?_,I.base.free,λb o e t=>?_,I.base.tups,I.base.frzs,I.base.tbls⟩,⟨m,hn.sameBut f (Ne.symm (cne x c l)),λj y v' g B e3=>?_⟩,λy S e=>?_,I.free,I.freeC,λp Z=>?_,T6 ⟨oc,UP,I.freeC x c l⟩ f,by simpa using I.len⟩ ⟨c,f,.inr l⟩
  .exact (f.2 b (Hn (GT (GS e) (I.ok.cab x c F l)))).trans (I.base.keep b o e n D t)
  .obtain⟨U,g⟩:=I.base.slot b o e n D t;exact⟨U,(f.2 b (Hn (GT (GS e) (I.ok.cab x c F l)))).trans g⟩
  .obtain⟨o',g⟩:=I.base.there b o e t;exact⟨o',(f.2 b (Hn (GT (GS e) (I.ok.cab x c F l)))).trans g⟩
  .by_cases G:j=i
   .subst G;rw[J]at g;cases g;rw[Ms Vm]at B;cases B;exact⟨u,r,.inr ⟨.inl C,c,l,VD⟩⟩
   .rw[Hs (Ne.symm G)]at B;obtain⟨Y,r',q⟩:=hl j y v' g B e3;refine⟨Y,r',?_⟩;rcases q with q |⟨k,S,e,z'⟩
    .exact .inl q
    .refine .inr ⟨k,S,e,z'.sameBut f ?_⟩;rintro rfl;exact G (md hN g (I.ok.inj _ _ _ e l ▸ J))
  .by_cases O:S=c
   .subst O;exact⟨_,VD⟩
   .obtain⟨w2,z2⟩:=I.cell y S e;exact⟨w2,z2.sameBut f O⟩
  .obtain⟨e,n,R,nf,d⟩:=I.pin p Z;refine⟨(f.2 p.1 ?_).trans e,n,R,nf,d⟩;intro q;rw[q,UP]at e;have q':oc=p.2:=HK e;exact d P (by rw[<-q'];exact L)
theorem jd{M:SE}{A:HM}{E:GM->GP->Prop}{i:Nat}{x:Str}{v:V}{u:GM}{Q:Unit->GP->Prop}(I:Inv X SI σ H s)(b:X.N.Nodup)(c:X.N[i]?=some x)(e:Loc X.env.scope x)(r:ba v u)
  (h:∀a,Inv X SI (σ.set i (some v)) H a->Q () a) (hf:autoParam (X.fn x=true\/X.env.scope.names.lookup x=some .local) v3):Ht M A (storeName X.env x u) Q E s:=
 jC I b c e r (λa d _=>h a d) hf
theorem Inv.call'{s':GP}{ch:List Hc}(I:Inv X SI σ H s)(g:s'.os=s.os)(u:Un (frs X.stack) ch H H' s.heap s'.heap)(a:HOk X.prog X.w H' s'.heap)(d:NX s'.gens)
  (Vd:∀b∈ch,(b∈X.ex\/X.s₀.heap.objs.size<=b)/\b≠X.env.locals/\(∀x c,X.env.cells.lookup x=some c->c≠b)/\∀p∈X.pn++SI,p.1≠b):Inv X SI σ H' s':=by
 obtain⟨h',g',d',t',f⟩:=s';have e:f=s.os:=g;subst e;exact I.call (g':=g') (t':=t') (d':=d') u a d Vd
end
noncomputable abbrev XK:=GM->Option Hc->Hp->Prop
noncomputable abbrev St:=List (Option V)
noncomputable abbrev VK:=V->Hp->Prop
noncomputable abbrev TE:=St->Hp->VK->Prop
noncomputable abbrev TT:=St->Hp->(Bool->Hp->Prop)->Prop
noncomputable abbrev TA:=St->Hp->(List V->Hp->Prop)->Prop
structure oS where
 nx:St->Hp->Prop
 rt:VK
 bk:St->Hp->Prop:=λ_ _=>False
 ct:St->Hp->Prop:=λ_ _=>False
noncomputable abbrev TS:=oS->St->Hp->Prop
def EP(X:Cx)(b:List (Hc×Obj))(c:St)(Q:VK)(u:GM)(s':GP):Prop:=∃v a,Inv X b c a s'/\ba v u/\Q v a
noncomputable def TP(X:Cx)(c:List (Hc×Obj))(d:St)(Q:Bool->Hp->Prop)(b:Bool)(s':GP):Prop:=∃a,Inv X c d a s'/\Q b a
def AP(X:Cx)(c:List (Hc×Obj))(d:St)(Q:List V->Hp->Prop)(us:List GM)(s':GP):Prop:=∃b a,Inv X c d a s'/\aZ b us/\Q b a
def SP(X:Cx)(c:List (Hc×Obj))(D:oS)(f:Flow)(s':GP):Prop:=
 match f with
 | .next=>∃b a,Inv X c b a s'/\D.nx b a
 | .brk=>∃b a,Inv X c b a s'/\D.bk b a
 | .cont=>∃b a,Inv X c b a s'/\D.ct b a
 | .ret u=>∃v b a,Inv X c b a s'/\ba v u/\D.rt v a
def PE(X:Cx)(e:Expr)(t:TE):Prop:=
 ∀(b:List (Hc×Obj)) (s:GP) (a:St) (H:Hp) (Q:VK),Inv X b a H s->t a H Q->Ht (Hr X.prog X.w) X.A (Kg e X.env) (EP X b a Q) X.xe s
def PT(X:Cx)(e:Expr)(t:TT):Prop:=
 ∀(b:List (Hc×Obj)) (s:GP) (a:St) (H:Hp) (Q:Bool->Hp->Prop),Inv X b a H s->t a H Q->Ht (Hr X.prog X.w) X.A (isTrue e X.env (Kg e X.env)) (TP X b a Q) X.xe s
def PW(X:Cx)(e:Expr)(t:TT):Prop:=
 ∀(c:Sem GM) (b:List (Hc×Obj)) (s:GP) (a:St) (H:Hp) (Q:Bool->Hp->Prop),Inv X b a H s->t a H Q->Ht (Hr X.prog X.w) X.A (isTrue e X.env c) (TP X b a Q) X.xe s
theorem PW.pt{X:Cx}{e:Expr}{t:TT}(h:PW X e t):PT X e t:=h _
def PA(X:Cx)(d:List Expr)(t:TA):Prop:=
 ∀(b:Pos) (c:List (Hc×Obj)) (s:GP) (a:St) (H:Hp) (Q:List V->Hp->Prop),Inv X c a H s->t a H Q->Ht (Hr X.prog X.w) X.A (Sk (JZ b (GO d X.env))) (AP X c a Q) X.xe s
def PS(X:Cx)(c:Ki)(t:TS):Prop:=
 ∀(a:List (Hc×Obj)) (s:GP) (b:St) (H:Hp) (D:oS),Inv X a b H s->t D b H->Ht (Hr X.prog X.w) X.A (exec c X.env) (SP X a D) X.xe s
def PSs(X:Cx)(c:List Ki)(t:TS):Prop:=
 ∀(a:List (Hc×Obj)) (s:GP) (b:St) (H:Hp) (D:oS),Inv X a b H s->t D b H->Ht (Hr X.prog X.w) X.A (execs c X.env) (SP X a D) X.xe s
theorem thn{b:Type}{t:Sem b}{Q c:b->GP->Prop}{M:SE}{A:HM}{E:GM->GP->Prop}{s:GP}(h:Ht M A t Q E s)(d:∀a s,Q a s->c a s):Ht M A t c E s:=KJ h d λ_ _ x=>x
section
variable {X:Cx}
noncomputable def FY(i:Nat):TE:=λa H Q=>∃v,a[i]?=some (some v)/\Q v H
noncomputable def tC(v:V):TE:=λ_ H Q=>Q v H
theorem iI{i:Nat}{x:Str}{f:Pos}(q:X.N[i]?=some x)(k:Vis X.env.scope x)(d:autoParam ((x==("__debug__":Str))=false) v0)(t:autoParam ((x==("__classdict__":Str))=false) v0):PE X (.Name x f) (FY i):=by
 intro p s y H Q I h;obtain⟨v,e,h⟩:=h;obtain⟨m,w,o⟩:=I.loc;obtain⟨u,r,l⟩:=o i x v q e k;have a:EP X p y Q u s:=⟨v,H,I,r,h⟩;rcases l with ⟨b,n⟩ |⟨b,c,j,g⟩
 .exact RH (wpAny_loadName_local I.ok.kind b w n a) d
 .rcases b with b |b
  .exact RH (wpAny_loadName_cell I.ok.kind b j g a) d
  .exact RH (wpAny_loadName_free I.ok.kind b j g a t) d
theorem DL{i j pos}:PE X (.Constant (.int i) j pos) (tC (.int i)):=λ_ _ _ H _ I h=>wpAny_Constant_int ⟨.int i,H,I.tok _,⟨_,rfl⟩,h⟩
theorem Fg{b j pos}:PE X (.Constant (.bool b) j pos) (tC (.bl b)):=λ_ _ _ H _ I h=>Constant_bool ⟨.bl b,H,I,rfl,h⟩
theorem DG{j pos}:PE X (.Constant .none j pos) (tC .non):=λ_ _ _ H _ I h=>PZ ⟨.non,H,I,rfl,h⟩
theorem DE{x j pos}:PE X (.Constant (.str x) j pos) (tC (.str x)):=λ_ _ _ H _ I h=>Calls.Constant_str ⟨.str x,H,I.tok _,⟨_,rfl⟩,h⟩
def Gl(X:Cx)(x:Str):Prop:=X.env.kindOf x=some .globalImplicit
theorem iX{E:GM->GP->Prop}{c:List (Hc×Obj)}{s:GP}{d:St}{H:Hp}{x:Str}{u:GM}{a:Pos}{Q:GM->GP->Prop}(I:Inv X c d H s)(b:Gl X x)(e:X.mg x=some u)(h:Q u s)
  (hd:autoParam ((x==("__debug__":Str))=false) v0):Ht (Hr X.prog X.w) X.A (Kg (.Name x a) X.env) Q E s:=
 Ni I.ok.kind b (Calls.loadGlobal_global (by rw[I.ok.glob];exact I.mod.glob.keeps I.bk) e h) hd
theorem cU{E:GM->GP->Prop}{d:List (Hc×Obj)}{s:GP}{g:St}{H:Hp}{x:Str}{u:GM}{a:Pos}{Q:GM->GP->Prop}(I:Inv X d g H s)(b:Gl X x)(i:X.mg x=none)(e:IL x=some u)(h:Q u s)
  (hn:autoParam (x≠"__name__") v0) (hd:autoParam ((x==("__debug__":Str))=false) v0):Ht (Hr X.prog X.w) X.A (Kg (.Name x a) X.env) Q E s:=by
 obtain⟨j,f,c⟩:=I.mod.blt;exact Ni I.ok.kind b (Calls.loadGlobal_builtin (by rw[I.ok.glob];exact I.mod.glob.keeps I.bk) i (by rw[I.ok.blt];exact f.keeps I.bk) ((c x hn).trans e) h) hd
theorem ur{x:Str}{v:V}{u:GM}{a:Pos}(b:Gl X x)(c:X.mg x=some u)(r:ba v u)(d:autoParam ((x==("__debug__":Str))=false) v0):PE X (.Name x a) (tC v):=
 λ_ _ _ H _ I h=>iX I b c ⟨v,H,I,r,h⟩ d
theorem Bh{x:Str}{v:V}{u:GM}{a:Pos}(b:Gl X x)(e:X.mg x=none)(d:IL x=some u)(r:ba v u)(c:autoParam (x≠"__name__") v0)(f:autoParam ((x==("__debug__":Str))=false) v0):PE X (.Name x a) (tC v):=
 λ_ _ _ H _ I h=>cU I b e d ⟨v,H,I,r,h⟩ c f
variable {a b:Expr}{ta tb:TE}{pos:Pos}
def PC(X:Cx)(op:Sm)(a b:Expr)(t:TE):Prop:=
 ∀(d:List (Hc×Obj)) (s:GP) (c:St) (H:Hp) (Q:VK),Inv X d c H s->t c H Q->
  Ht (Hr X.prog X.w) X.A (Kg a X.env) (λv e=>Ht (Hr X.prog X.w) X.A (Kg b X.env) (λu f=>Ht (Hr X.prog X.w) X.A (Iw op v u) (EP X d c Q) X.xe f) X.xe e) X.xe s
theorem x6(b:Expr){op:Sm}(h:op≠.In)(a:op≠.NotIn):Kk op b=false:=by
 have c:(op==CmpOp.In)=false:=by cases op <;>first |rfl |exact absurd rfl h
 have d:(op==CmpOp.NotIn)=false:=by cases op <;>first |rfl |exact absurd rfl a
 cases b <;>simp[Kk,c,d]
noncomputable def FW(ta:TE):TE:=λb H Q=>ta b H λx a=>Q (.bl (decide (x=.non))) a
noncomputable def Fn(ta:TE):TE:=λb H Q=>ta b H λx a=>Q (.bl (!decide (x=.non))) a
theorem ba.none_iff{x:V}{v:GM}(r:ba x v):(v==Lb)=decide (x=.non):=by
 cases x with
 |non=>cases r;rfl
 |bl _=>cases r;rfl
 |int _=>obtain⟨t,rfl⟩:=r;rfl
 |str _=>obtain⟨t,rfl⟩:=r;rfl
 |byt _=>obtain⟨t,rfl⟩:=r;rfl
 |flt _=>obtain⟨t,rfl⟩:=r;rfl
 |ref _=>cases r;rfl
 |ty _=>cases r;rfl
theorem CS{j S6}(b:PE X a ta):PC X .Is a (.Constant .none j S6) (FW ta):=by
 intro d s i H Q I h;refine thn (b d s i H _ I h) λv l k=>?_;obtain⟨x,c,e,f,g⟩:=k;exact PZ (is_none_gen ⟨.bl _,c,e,by rw[f.none_iff];rfl,g⟩)
theorem Bo{j S6}(b:PE X a ta):PC X .IsNot a (.Constant .none j S6) (Fn ta):=by
 intro d s i H Q I h;refine thn (b d s i H _ I h) λv l k=>?_;obtain⟨x,c,e,f,g⟩:=k;exact PZ (isnot_none_gen ⟨.bl _,c,e,by rw[f.none_iff];rfl,g⟩)
noncomputable def tB(t:TE):TT:=λb H Q=>t b H λx a=>∃c,x=.bl c/\Q c a
theorem w6{op:Sm}{t:TE}(h:PC X op a b t)(e:Kk op b=false:=by first |exact x6 _ (by decide) (by decide) |rfl):PT X (.Compare a [op] [b] pos) (tB t):=by
 intro k s n H Q I i;refine OJ (thn (h k s n H _ I i) λv r e=>thn e λu p j=>thn j λc w o=>?_) e;obtain⟨x,m,f,l,g⟩:=o;obtain⟨d,rfl,q⟩:=g;cases l;exact IT ⟨m,f,q⟩
theorem Db{e:Expr}{t:TE}(h:PE X e t)(f:autoParam (∀a,isTrue e X.env a=(do let v <-a;standAt e.pos;Q5 [v] (truthy v))) q0):PT X e (tB t):=by
 intro i s l H Q I g;refine isTrue_plain (thn (h i s l H _ I g) λv n m=>?_) (f _);obtain⟨x,k,b,j,c⟩:=m;obtain⟨d,rfl,q⟩:=c;cases j;exact IT ⟨k,b,q⟩
variable {tA tB':TT}{rest:List Expr}
noncomputable def Ga(t u:TT):TT:=λb H Q=>t b H λc a=>if c=true then u b a Q else Q false a
noncomputable def tOr(t u:TT):TT:=λb H Q=>t b H λc a=>if c=true then Q true a else u b a Q
noncomputable def Gp(t:TT):TT:=λb H Q=>t b H λc a=>Q (!c) a
theorem BD(b:PT X a tA):PW X (.BoolOp .And [a] pos) tA:=by
 intro g d s f H Q I h;refine isTrue_and (thn (b d s f H Q I h) λc i e=>?_);cases c with
 |true=>exact isTrue_and_nil e
 |false=>exact e
theorem Dd(b:PT X a tA):PW X (.BoolOp .Or [a] pos) tA:=by
 intro g d s f H Q I h;refine isTrue_or (thn (b d s f H Q I h) λc i e=>?_);cases c with
 |false=>exact isTrue_or_nil e
 |true=>exact e
theorem zg(k:PT X a tA)(m:PW X (.BoolOp .And (b::rest) pos) tB'):PW X (.BoolOp .And (a::b::rest) pos) (Ga tA tB'):=by
 intro j e s i H Q I h;refine isTrue_and (thn (k e s i H _ I h) λc l n=>?_);obtain⟨d,f,g⟩:=n;cases c with
 |true=>exact m j e l i d Q f g
 |false=>exact⟨d,f,g⟩
theorem Cv(k:PT X a tA)(m:PW X (.BoolOp .Or (b::rest) pos) tB'):PW X (.BoolOp .Or (a::b::rest) pos) (tOr tA tB'):=by
 intro j e s i H Q I h;refine isTrue_or (thn (k e s i H _ I h) λc l n=>?_);obtain⟨d,f,g⟩:=n;cases c with
 |true=>exact⟨d,f,g⟩
 |false=>exact m j e l i d Q f g
theorem DY(b:PT X a tA):PT X (.UnaryOp .Not a pos) (Gp tA):=by
 intro e s f H Q I h;exact isTrue_not (b e s f H (λc d=>Q (!c) d) I h)
noncomputable def Fh(ta tb:TE):TE:=λb H Q=>ta b H λx a=>∃c,x=.bl c/\if c=true then tb b a Q else Q (.bl false) a
noncomputable def Gf(ta tb:TE):TE:=λb H Q=>ta b H λx a=>∃c,x=.bl c/\if c=true then Q (.bl true) a else tb b a Q
noncomputable def Fe(ta:TE):TE:=λb H Q=>ta b H λx a=>∃c,x=.bl c/\Q (.bl (!c)) a
theorem C9{op}{t:TE}(h:PE X a t):PE X (.BoolOp op [a] pos) t:=λb s c H Q I d=>BoolOp_one (h b s c H Q I d)
theorem AD(k:PE X a ta)(m:PE X (.BoolOp .And (b::rest) pos) tb):PE X (.BoolOp .And (a::b::rest) pos) (Fh ta tb):=by
 intro f s i H Q I h;refine BoolOp_and (thn (k f s i H _ I h) λv j n=>?_);obtain⟨x,g,e,l,d⟩:=n;obtain⟨c,rfl,d⟩:=d;cases l;refine IT ?_;cases c with
 |true=>exact m f j i g Q e d
 |false=>exact⟨.bl false,g,e,rfl,d⟩
theorem CI(k:PE X a ta)(m:PE X (.BoolOp .Or (b::rest) pos) tb):PE X (.BoolOp .Or (a::b::rest) pos) (Gf ta tb):=by
 intro f s i H Q I h;refine BoolOp_or (thn (k f s i H _ I h) λv j n=>?_);obtain⟨x,g,e,l,d⟩:=n;obtain⟨c,rfl,d⟩:=d;cases l;refine IT ?_;cases c with
 |false=>exact m f j i g Q e d
 |true=>exact⟨.bl true,g,e,rfl,d⟩
theorem Dw(d:PE X a ta):PE X (.UnaryOp .Not a pos) (Fe ta):=by
 intro f s j H Q I h;refine UnaryOp_ (thn (d f s j H _ I h) λv l k=>?_);obtain⟨x,e,g,i,b⟩:=k;obtain⟨c,rfl,b⟩:=b;cases i;exact not_of (IT ⟨.bl (!c),e,g,rfl,b⟩)
noncomputable def tIf(t:TT)(ta tb:TE):TE:=λa H Q=>t a H λc b=>if c=true then ta a b Q else tb a b Q
theorem rD{c:Expr}(m:PT X c tA)(l:PE X a ta)(n:PE X b tb):PE X (.IfExp c a b pos) (tIf tA ta tb):=by
 intro e s f H Q I h;refine wpAny_IfExp (thn (m e s f H _ I h) λd i o=>?_);obtain⟨g,j,k⟩:=o;cases d with
 |true=>exact l e i f g Q j k
 |false=>exact n e i f g Q j k
end
def SqL(K:GE)(H:Hp)(a:Hc)(xs:List V):Prop:=
 Rd H a (.lst xs)\/
  ∃(o:Obj) (its:Array GM) (n:Nat),K.lookup a=some o∧o.cls=.type "list"∧o.dict=none∧o.data=.seq its n∧its.size≤sizeLine∧aZ xs its.toList
def SqT(K:GE)(H:Hp)(a:Hc)(xs:List V):Prop:=
 Rd H a (.tup xs)\/
  ∃(o:Obj) (its:Array GM) (n:Nat),K.lookup a=some o∧o.cls=.type "tuple"∧o.data=.seq its n∧its.size≤sizeLine∧aZ xs its.toList
noncomputable def F5:GM->Option V
 | .none=>some .non
 | .bool b=>some (.bl b)
 | .int i _=>some (.int i)
 | .str x _=>some (.str x)
 | .bytes b _=>some (.byt b)
 | .float b _=>some (.flt b)
 | .ref a=>some (.ref a)
 | .type n=>some (.ty n)
 |_=>none
theorem ba.abs{x:V}{u:GM}(r:ba x u):F5 u=some x:=by
 cases x with
 |non=>cases r;rfl
 |bl _=>cases r;rfl
 |int _=>obtain⟨t,rfl⟩:=r;rfl
 |str _=>obtain⟨t,rfl⟩:=r;rfl
 |byt _=>obtain⟨t,rfl⟩:=r;rfl
 |flt _=>obtain⟨t,rfl⟩:=r;rfl
 |ref _=>cases r;rfl
 |ty _=>cases r;rfl
theorem ba.inj{x y:V}{u:GM}(r:ba x u)(q:ba y u):x=y:=HK (r.abs.symm.trans q.abs)
theorem aZ.inj:∀{c a:List V}{b:List GM},aZ c b->aZ a b->c=a
 |_,_,_,.nil,.nil=>rfl
 |_,_,_,.cons r t,.cons e d=>by rw[r.inj e,aZ.inj t d]
section
variable {X:Cx}{SI:List (Hc×Obj)}{σ:St}{H:Hp}{s:GP}{a:Hc}{xs ys:List V}
theorem SqL.of{K:GE}(h:H a=some (.lst xs)):SqL K H a xs:=.inl (.inl h)
theorem SqT.of{K:GE}(h:H a=some (.tup xs)):SqT K H a xs:=.inl (.inl h)
theorem Inv.list(I:Inv X SI σ H s)(h:SqL X.K H a xs):∃its:List GM,aZ xs its/\PlainL s.heap a its.toArray/\xs.length<=sizeLine:=by
 rcases h with h |⟨o,its,n,b,d,f,c,g,r⟩
 .obtain⟨z,its,n,r,e⟩:=h.ok I.hok;exact⟨its,r,⟨_,n,e,rfl,rfl,rfl⟩,z⟩
 .refine⟨its.toList,r,⟨o,n,I.kIn a o b,d,f,by simpa using c⟩,?_⟩;have e:=r.length;simp only[GQ]at e;lia
theorem Inv.tuple(I:Inv X SI σ H s)(h:SqT X.K H a xs):∃its:List GM,aZ xs its/\Pn s.heap a its.toArray/\xs.length<=sizeLine:=by
 rcases h with h |⟨o,its,n,b,d,c,f,r⟩
 .obtain⟨z,its,r,p⟩:=h.ok I.hok;exact⟨its,r,p,z⟩
 .refine⟨its.toList,r,⟨o,I.kIn a o b,d,n,by simpa using c⟩,?_⟩;have e:=r.length;simp only[GQ]at e;lia
theorem Inv.list_inj(I:Inv X SI σ H s)(h:SqL X.K H a xs)(h':SqL X.K H a ys):xs=ys:=by
 obtain⟨its,r,⟨o,n,e,_,_,d⟩,_⟩:=I.list h;obtain⟨b,g,⟨j,i,c,_,_,f⟩,_⟩:=I.list h';rw[e]at c;cases c;rw[d]at f;injection f with d1 _
 have:its=b:=by simpa using congrArg R7 d1
 subst this;exact r.inj g
theorem Inv.tuple_inj(I:Inv X SI σ H s)(h:SqT X.K H a xs)(h':SqT X.K H a ys):xs=ys:=by
 obtain⟨its,r,⟨o,e,_,n,d⟩,_⟩:=I.tuple h;obtain⟨b,g,⟨j,c,_,i,f⟩,_⟩:=I.tuple h';rw[e]at c;cases c;rw[d]at f;injection f with d1 _
 have:its=b:=by simpa using congrArg R7 d1
 subst this;exact r.inj g
end
noncomputable abbrev Cx.wish(X:Cx)(E:GM->GP->Prop):Cx:={X with xe:=E }
noncomputable abbrev Cx.nox(X:Cx):Cx:=X.wish λ_ _=>False
theorem Cx.Ok.wish{X:Cx}(a:X.Ok)(E:GM->GP->Prop):(X.wish E).Ok:=
 ⟨a.mod,a.kind,a.glob,a.blt,a.above,a.inj,a.has,a.cab,a.hd,a.frames,a.stk,a.exf,a.bs,a.bsz,a.noex,a.exfs,a.funs,a.frf⟩
theorem Cx.Ok.unwish{X:Cx}{E:GM->GP->Prop}(a:(X.wish E).Ok):X.Ok:=
 ⟨a.mod,a.kind,a.glob,a.blt,a.above,a.inj,a.has,a.cab,a.hd,a.frames,a.stk,a.exf,a.bs,a.bsz,a.noex,a.exfs,a.funs,a.frf⟩
section
variable {X:Cx}{SI:List (Hc×Obj)}{σ:St}{H:Hp}{s:GP}{E:GM→GP→Prop}
theorem Inv.wish(I:Inv X SI σ H s)(E:GM->GP->Prop):Inv (X.wish E) SI σ H s:=⟨I.ok.wish E,I.os,I.bare,I.base,I.loc,I.cell,I.free,I.freeC,I.pin,I.hok,I.len⟩
theorem Inv.unwish(I:Inv (X.wish E) SI σ H s):Inv X SI σ H s:=⟨I.ok.unwish,I.os,I.bare,I.base,I.loc,I.cell,I.free,I.freeC,I.pin,I.hok,I.len⟩
theorem SP.unwish{D:oS}{f:Flow}{s':GP}(h:SP (X.wish E) SI D f s'):SP X SI D f s':=by
 cases f with
 |next=>obtain⟨b,a,I,q⟩:=h;exact⟨b,a,I.unwish,q⟩
 |brk=>obtain⟨b,a,I,q⟩:=h;exact⟨b,a,I.unwish,q⟩
 |cont=>obtain⟨b,a,I,q⟩:=h;exact⟨b,a,I.unwish,q⟩
 |ret u=>obtain⟨v,b,a,I,r,q⟩:=h;exact⟨v,b,a,I.unwish,r,q⟩
theorem PSs.nox{a:List Ki}{t:TS}(h:PSs X.nox a t):PSs X a t:=λSI s σ H D I b=>
 KJ (h SI s σ H D (I.wish _) b) (λ_ _ q=>q.unwish) λ_ _ z=>False.elim z
end
section
variable {X:Cx}{st:Ki}{rest:List Ki}{t u:TS}{e:Expr}{te:TE}{pos:Pos}
noncomputable def Fx:TS:=λD a H=>D.nx a H
noncomputable def F2(t u:TS):TS:=λD a H=>t {D with nx:=u D } a H
theorem BV:PSs X [] Fx:=λ_ _ a H _ I h=>Mb ⟨a,H,I,h⟩
theorem ym(i:PS X st t)(c:PSs X rest u):PSs X (st::rest) (F2 t u):=by
 intro a s g H D I h;refine QK (thn (i a s g H {D with nx:=u D } I h) λf d q=>?_);cases f with
 |next=>
  obtain⟨e,b,j,q⟩:=q;exact c a d e b D j q
 |ret v=>exact q
 |brk=>exact q
 |cont=>exact q
theorem Inv.quiet{a:List (Hc×Obj)}{b:St}{H:Hp}{s:GP}(I:Inv X a b H s):interactive X.env=false:=by simp[interactive,I.ok.kind]
noncomputable def E9(te:TE):TS:=λD a H=>te a H λ_ b=>D.nx a b
theorem kL(g:PE X e te)(hs:autoParam (Kl e none pos.line X.env=pure false) w4):PS X (.Expr e pos) (E9 te):=by
 intro c s a H D I h;exact Rm (thn (g c s a H _ I h) λv i ⟨x,b,d,j,f⟩=>⟨a,b,d,f⟩) I.quiet hs
noncomputable def Gh(te:TE):TS:=λD a H=>te a H D.rt
theorem sr(i:PE X e te):PS X (.Return (some e) pos) (Gh te):=by
 intro c s a H D I h;exact wpAny_Return_some (thn (i c s a H _ I h) λv j ⟨x,b,d,f,g⟩=>⟨x,a,b,d,f,g⟩)
noncomputable def Gc(c:TT)(t u:TS):TS:=λD a H=>c a H λb d=>if b=true then t D a d else u D a d
theorem CM{c:Expr}{a b:List Ki}{k:TT}(o:PT X c k)(m:PSs X a t)(n:PSs X b u):PS X (.If c a b pos) (Gc k t u):=by
 intro e s f H D I h;refine wpAny_If (thn (o e s f H _ I h) λd g p=>?_);obtain⟨l,i,j⟩:=p;cases d with
 |true=>exact m e g f l D i j
 |false=>exact n e g f l D i j
end
noncomputable abbrev TG:=V->St->Hp->(St->Hp->Prop)->Prop
noncomputable abbrev TGs:=List V->St->Hp->(St->Hp->Prop)->Prop
def PG(X:Cx)(a:Expr)(t:TG):Prop:=
 ∀(d:List (Hc×Obj)) (s:GP) (e:St) (H:Hp) (v:V) (u:GM) (Q:St->Hp->Prop),Inv X d e H s->ba v u->t v e H Q->
  Ht (Hr X.prog X.w) X.A (assign a X.env u) (λ_ f=>∃c b,Inv X d c b f/\Q c b) X.xe s
def PGs(X:Cx)(g:List Expr)(t:TGs):Prop:=
 ∀(e:List (Hc×Obj)) (s:GP) (f:St) (H:Hp) (c:List V) (d:List GM) (Q:St->Hp->Prop),Inv X e f H s->aZ c d->t c f H Q->
  Ht (Hr X.prog X.w) X.A (P1 ((LY g X.env).map (·.2)) d) (λ_ h=>∃b a,Inv X e b a h/\Q b a) X.xe s
section
variable {X:Cx}{pos:Pos}
noncomputable def qj(i:Nat):TG:=λv a H Q=>Q (a.set i (some v)) H
theorem aT{i:Nat}{x:Str}(a:X.N.Nodup)(b:X.N[i]?=some x)(e:Loc X.env.scope x)(c:autoParam (X.fn x=true\/X.env.scope.names.lookup x=some .local) v3):PG X (.Name x pos) (qj i):=by
 intro f s g H v u Q I r h;exact Qk (jd I a b e r (λj d=>⟨_,H,d,h⟩) c)
noncomputable def FN:TGs:=λa b H Q=>a=[]/\Q b H
noncomputable def Cy(t:TG)(u:TGs):TGs:=λc d H Q=>∃v r,c=v::r/\t v d H λb a=>u r b a Q
theorem cF:PGs X [] FN:=by
 intro d s a H b c Q I r h;obtain⟨e,h⟩:=h;subst e;cases r;exact Ql ⟨a,H,I,h⟩
theorem aV{e:Expr}{a:List Expr}{t:TG}{u:TGs}(j:PG X e t)(i:PGs X a u)
  (hs:autoParam ((LY (e::a) X.env).map (·.2)=assign e X.env::(LY a X.env).map (·.2)) w4):PGs X (e::a) (Cy t u):=by
 intro c s n H p w Q I r h;obtain⟨v,q,k,h⟩:=h;subst k;cases r with
 |cons r l=>
  rw[hs];refine Np (thn (j c s n H _ _ _ I r h) λ_ d o=>?_);obtain⟨b,m,f,g⟩:=o;exact i c d b m _ _ Q f l g
noncomputable def ET(K:GE)(n:Nat)(t:TGs):TG:=λv c H Q=>∃a b,v=.ref a/\SqT K H a b/\b.length=n/\t b c H Q
theorem dX{c:List Expr}{k:Nat}{t:TGs}{n:Nat}(y:X.calm=true)(h:PGs X c t)
  (hn:autoParam ((LY c X.env).length=n) w4) (TU:autoParam ((LY c X.env).findIdx? (·.1)=none) w4):PG X (.Tuple c k pos) (ET X.K n t):=by
 intro g s i H v u Q I r d;obtain⟨a,m,q,x,p,d⟩:=d;subst q;cases r;obtain⟨its,f,w,A⟩:=I.tuple x;refine assign_Tuple_tuple (I.ok.hd y) w (by simp[hn,<-p,f.length]) TU λl z=>?_;have j:Inv X g i H {s with heap:=l }:=I.kept (t':=s.toks) λb o e=>z b o (Hn (GS e)) e;exact h g _ i H m _ Q j (by simpa using f) d
noncomputable def D9(c:TE)(g:TG):TS:=λD a H=>c a H λx b=>g x a b D.nx
theorem D_{a e:Expr}{c:TE}{g:TG}(k:PE X e c)(m:PG X a g)(hs:autoParam (NY [a] e pos.line X.env=pure false) w4)(l:autoParam (NZ [a] e X.env=pure none) w4)
  (h1:autoParam ((LY [a] X.env).map (·.2)=[assign a X.env]) w4):PS X (.Assign [a] e pos) (D9 c g):=by
 intro b s d H D I h;refine wpAny_Assign_stores (thn (k b s d H _ I h) λv f p=>?_) hs l;obtain⟨x,o,i,n,j⟩:=p;rw[h1];exact thn (m b f d o x v _ i n j) λ_ r q=>q
theorem sC{i:Nat}{x:Str}{e:Expr}{b:TE}{a:Pos}(n:X.N.Nodup)(m:X.N[i]?=some x)(q:Loc X.env.scope x)(f:PE X e b)(hs:autoParam (Kl e (some (.Name x a)) pos.line X.env=pure false) w4)(j:autoParam (X.fn x=true\/X.env.scope.names.lookup x=some .local) v3):
  PS X (.Assign [.Name x a] e pos) (D9 b (qj i)):=by
 intro k s p H D I h;refine wpAny_Assign_Name (thn (f k s p H _ I h) λv u r=>?_) hs;obtain⟨y,o,c,l,d⟩:=r;exact jd c n m q l (λt g=>⟨_,o,g,d⟩) j
noncomputable def Gq(i j:Nat)(ta:TA):TS:=λD a H=>ta a H λc b=>∃v w,c=[v,w]/\D.nx ((a.set i (some v)).set j (some w)) b
theorem Ei{i j:Nat}{x y:Str}{a b:Expr}{ta:TA}{m k l:Pos}{kt k2 pt2}(T:X.calm=true)(t:X.N.Nodup)(L:X.N[i]?=some x)(U:X.N[j]?=some y)(G:i≠j)
  (hx:X.env.scope.names.lookup x=some .local) (hy:X.env.scope.names.lookup y=some .local) (ha:PA X [a,b] ta)
  (hw:NZ [.Tuple [.Name x m,.Name y k] kt l] (.Tuple [a,b] k2 pt2) X.env=pure (some [x,y]))
  (hs:autoParam (NY [.Tuple [.Name x m,.Name y k] kt l] (.Tuple [a,b] k2 pt2) pos.line X.env=pure false) w4):
  PS X (.Assign [.Tuple [.Name x m,.Name y k] kt l] (.Tuple [a,b] k2 pt2) pos) (Gq i j ta):=by
 intro n s z H D I h;rw[exec_Assign_arm];refine GB (P3 ?_);rw[hs];refine GB (GH ?_);rw[if_neg (by decide)];refine GB (Tuple_ (thn (ha _ n s z H _ I h) λO f V=>?_));obtain⟨Y,u,E,K,g⟩:=V;obtain⟨v,w,P,g⟩:=g;subst P
 obtain⟨c,d,rfl,F,B⟩:∃c d,O=[c,d]/\ba v c/\ba w d:=by
  cases K with
  |cons p q=>
   cases q with
   |cons Q M=>
    cases M;exact⟨_,_,rfl,p,Q⟩
 refine J5 ?_ (by show 2<=sizeLine;decide);have J:Inv X n z u {f with heap:=f.heap.push {cls:=.type "tuple",data:=.seq [c,d].toArray } }:=E.kept (t':=f.toks) λb o e=>GI _ e;rw[hw];refine GB (GH ?_);show Ht (Hr X.prog X.w) X.A (do rule "assign.swapped-stores";let items ←unpackItems (.ref f.heap.objs.size) 2 none;P1 [λv=>QZ X.env y v,λv=>QZ X.env x v] items.reverse;pure Flow.next) _ _ _;refine GB (LZ (GB (unpackItems_tuple (items:=#[c,d]) (I.ok.hd T) (IsTup.new f.heap _) λh' S=>?_)));have C:=J.kept (h':=h') (t':=f.toks) λb o e=>S b o (Hn (GS e)) e;show Ht _ _ (P1 [λv=>QZ X.env y v,λv=>QZ X.env x v] [d,c] >>=λ_=>pure Flow.next) _ _ _;refine GB (Np (Rn (jd C t U (.inl hy) B (λW R=>?_) (.inr hy))));refine Np (Rn (jd R t L (.inl hx) F (λZ r=>Ql (GH ?_)) (.inr hx)));rw[List.set_comm _ _ (Ne.symm G)]at r;exact⟨_,u,r,g⟩
noncomputable def Dg(c:TT)(tb:TS):TS:=λD a H=>∃W:Nat->St->Hp->Prop,(∃m,W m a H)/\∀m a H,W m a H->
 c a H λb e=>if b=true then ∃N:St->Hp->Prop,(∀f d,N f d->∃g,g<m/\W g f d)/\tb {D with nx:=N,ct:=N,bk:=D.nx } a e else D.nx a e
theorem yU{c:Expr}{y:List Ki}{C:TT}{tb:TS}(B:OK (Hr X.prog X.w) X.A X.env X.xe)(R:PT X c C)(O:PSs X y tb):PS X (.While c y [] pos) (Dg C tb):=by
 intro m s Q H D I h;obtain⟨W,⟨P,L⟩,g⟩:=h;refine wpAny_While (codeAny_whileLoop (λn M=>∃u t,Inv X m u t M/\W n u t) ?_ P ⟨Q,H,I,L⟩);rintro n J ⟨a,E,K,G⟩;refine KL B (thn (R m J a E _ K (g n a E G)) λb F S=>?_);obtain⟨x,r,i⟩:=S;cases b with
 |true=>
  obtain⟨N,z,i⟩:=i;rw[if_pos rfl];refine KL B (thn (O m F a x _ r i) λf T j=>?_);cases f with
  |next=>
   obtain⟨e,d,k,o⟩:=j;obtain⟨q,l,p⟩:=z e d o;exact⟨q,l,e,d,k,p⟩
  |cont=>
   obtain⟨e,d,k,o⟩:=j;obtain⟨q,l,p⟩:=z e d o;exact⟨q,l,e,d,k,p⟩
  |brk=>exact j
  |ret v=>exact j
 |false=>
  rw[if_neg Io];exact Mb ⟨a,x,r,i⟩
end
structure It where
 go:Nat->Hp->Prop
 yld:Nat->Hp->V->Hp->Prop
 stop:Nat->Hp->Prop
def km(X:Cx)(a:List (Hc×Obj))(H:Hp)(b:Hc):Prop:=
 H b=none/\b≠X.env.locals/\b ∉ X.fs/\(b∈X.ex\/X.s₀.heap.objs.size<=b)/\(∀x c,X.env.cells.lookup x=some c->c≠b)/\∀p∈X.pn++a,p.1≠b
theorem Inv.fpOk{X:Cx}{f:List (Hc×Obj)}{i:St}{H d:Hp}{s:GP}{b:Hc}(I:Inv X f i H s)(a:s.heap.objs.size<=b)(g:d b=none):km X f d b:=by
 refine⟨g,Km (GT I.lt a),I.nofs a,.inr (HB I.sz a),λx c e z=>?_,λp h z=>?_⟩
 .obtain⟨v,q⟩:=I.cell x c e;exact absurd (GT q.lt (by rw[z];exact a)) (Hw _)
 .exact absurd (GT (GS (I.pin p h).1) (by rw[z];exact a)) (Hw _)
structure tq(P:GX)(w:HF)(K:GE)(tg:Expr)(J:It)(fp:List Hc)(it:Hc)(tn:Nat->Jx->Prop):Prop where
 mem:it∈fp
 obj:∀i h,tn i h->∀b∈fp,∃o,h.get? b=some o/\∀v,o.data≠.cell v
 keep:∀i h h',tn i h->(∀b∈fp,∀o,h.get? b=some o->h'.get? b=some o)->tn i h'
 item:∀(X:Cx),X.prog=P->X.w=w->X.K=K->X.calm=true->∀(i:Nat) (SI:List (Hc×Obj)) (s:GP) (σ:St) (H:Hp) (E:GM->GP->Prop),Inv X SI σ H s->(∀b∈fp,km X SI H b)->tn i s.heap->J.go i H->
  Ht (Hr P w) X.A (Px (.ref it)) (λr s1=>∃u,r=some u/\
   Ht (Hr P w) X.A (OM tg (.ref it) u) (λ_ s2=>∃x H',Inv X SI σ H' s2/\ba x u/\J.yld i H x H'/\tn (i+1) s2.heap/\∀b∈fp,H' b=none) E s1) E s
 done:∀(X:Cx),X.prog=P->X.w=w->X.K=K->X.calm=true->∀(i:Nat) (SI:List (Hc×Obj)) (s:GP) (σ:St) (H:Hp) (E:GM->GP->Prop),Inv X SI σ H s->(∀b∈fp,km X SI H b)->tn i s.heap->J.stop i H->
  Ht (Hr P w) X.A (Px (.ref it)) (λr s1=>r=none/\Inv X SI σ H s1) E s
 self:∀(A:HM) (i:Nat) (s:GP) (Q:GM->GP->Prop) (E:GM->GP->Prop),tn i s.heap->Q (.ref it) s->Ht (Hr P w) A (QD (.ref it)) Q E s
noncomputable abbrev TI:=St->Hp->(It->Hp->Prop)->Prop
def PIE(X:Cx)(f:List (Hc×Obj))(j:St)(i:Expr)(R:It->Hp->Prop)(c:GM)(e:GP):Prop:=
 ∃(d:Hc) (h:List Hc) (g:Nat->Jx->Prop) (J:It) (a:Hp),c=.ref d/\Inv X f j a e/\tq X.prog X.w X.K i J h d g/\g 0 e.heap/\(∀b∈h,km X f a b)/\R J a
def PI(X:Cx)(f a:Expr)(d:TI):Prop:=
 ∀(c:List (Hc×Obj)) (s:GP) (b:St) (H:Hp) (R:It->Hp->Prop),Inv X c b H s->d b H R->
  Ht (Hr X.prog X.w) X.A (Kg a X.env) (λv e=>Ht (Hr X.prog X.w) X.A (QD v) (PIE X c b f R) X.xe e) X.xe s
theorem qv{M:SE}{A:HM}{E:GM->GP->Prop}{s:GP}{c:Expr}{a:Hc}{u:GM}{o:Obj}{n:String}{b:Array GM}{Q:Unit->GP->Prop}(f:s.heap.get? a=some o)(d:o.cls=.type n)(e:o.data=.fields b)
  (hn:["enumerate","zip","dict_itemiterator","dict_reverseitemiterator","odict_iterator","itertools.zip_longest","itertools.pairwise"].contains n=false) (hQ:Q () s):Ht M A (OM c (.ref a) u) Q E s:=by
 unfold OM
 cases c <;>first
  |exact GH hQ
  | (cases u <;>first
    |exact GH hQ
    | (refine GB (wpAny_load f ?_)
       rw[d,e];show Ht M A (if (["enumerate","zip","dict_itemiterator","dict_reverseitemiterator","odict_iterator","itertools.zip_longest","itertools.pairwise"].contains n && b[0]?==some (Of _))=true then _ else _) Q E s;rw[if_neg (by intro h;rw[hn,Bool.false_and]at h;cases h)];exact GH hQ))
noncomputable def Itl(K:GE)(a:Hc):It:=
 ⟨λi H=>∃b x,SqL K H a b/\b[i]?=some x,λi H x c=>c=H/\∀b,SqL K H a b->b[i]?=some x,λi H=>∃b,SqL K H a b/\b.length<=i⟩
noncomputable def Itt(K:GE)(a:Hc):It:=
 ⟨λi H=>∃b x,SqT K H a b/\b[i]?=some x,λi H x c=>c=H/\∀b,SqT K H a b->b[i]?=some x,λi H=>∃b,SqT K H a b/\b.length<=i⟩
noncomputable def Itr(b:Int)(n:Nat):It:=⟨λi _=>i<n,λi H x a=>a=H/\x=.int (b+i),λi _=>n<=i⟩
theorem wa{P:GX}{w:HF}{K:GE}{Z:Expr}(a g:Hc):tq P w K Z (Itl K a) [g] g (λi h=>h.IsListIter g a i) where
 mem:=by simp
 obj:=λi h f b j=>by
  have e:b=g:=by simpa using j
  subst e;obtain⟨o,e,c,d⟩:=f;exact⟨o,e,λv z=>by rw[d]at z;cases z⟩
 keep:=λi h l f k=>f.at λo e=>k g (by simp) o e
 item:=by
  intro X D A q N i L s O H E I m f B;subst D A q;obtain⟨R,x,n,J⟩:=B;obtain⟨its,r,p,U⟩:=I.list n;obtain⟨u,V,ru⟩:=r.get J;obtain⟨t,C,Y,G,y,F⟩:=m g (by simp);refine wpAny_pyNext_list_item f p.isList (x:=u) (by simpa using V) λl M T=>?_;have Q:Inv X L O H {s with heap:=l }:=I.turned (t':=s.toks) (λb o j e=>(T.2 b j).trans e) t C G y F;obtain⟨o,e,c,d⟩:=id M;exact⟨u,rfl,qv (s:={s with heap:=l }) e c d (by decide) ⟨x,H,Q,ru,⟨rfl,λys S=>by rw[I.list_inj S n];exact J⟩,M,λb j=>(m b j).1⟩⟩
 done:=by
  intro X D A q N i L s O H E I m f B;subst D A q;obtain⟨R,n,J⟩:=B;obtain⟨its,r,p,U⟩:=I.list n;obtain⟨t,C,Y,G,y,F⟩:=m g (by simp);have hl:=r.length;exact wpAny_pyNext_list_end (I.ok.hd N) f p.isList (by simp;lia) λl W=>⟨rfl,I.turned (t':=s.toks) (λb o j e=>W b o j e) t C G y F⟩
 self:=λ_ _ _ _ _ f h=>wpAny_pyIter_listiter f h
theorem rR{P:GX}{w:HF}{K:GE}{Z:Expr}(a g:Hc):tq P w K Z (Itt K a) [g] g (λi h=>h.IsTupleIter g a i) where
 mem:=by simp
 obj:=λi h f b j=>by
  have e:b=g:=by simpa using j
  subst e;obtain⟨o,e,c,d⟩:=f;exact⟨o,e,λv z=>by rw[d]at z;cases z⟩
 keep:=λi h l f k=>f.at λo e=>k g (by simp) o e
 item:=by
  intro X D A q N i L s O H E I m f B;subst D A q;obtain⟨R,x,n,J⟩:=B;obtain⟨its,r,p,U⟩:=I.tuple n;obtain⟨u,V,ru⟩:=r.get J;obtain⟨t,C,Y,G,y,F⟩:=m g (by simp);refine wpAny_pyNext_tuple_item f (show s.heap.IsTuple a its.toArray from p) (x:=u) (by simpa using V) λl M T=>?_;have Q:Inv X L O H {s with heap:=l }:=I.turned (t':=s.toks) (λb o j e=>(T.2 b j).trans e) t C G y F;obtain⟨o,e,c,d⟩:=id M;exact⟨u,rfl,qv (s:={s with heap:=l }) e c d (by decide) ⟨x,H,Q,ru,⟨rfl,λys S=>by rw[I.tuple_inj S n];exact J⟩,M,λb j=>(m b j).1⟩⟩
 done:=by
  intro X D A q N i L s O H E I m f B;subst D A q;obtain⟨R,n,J⟩:=B;obtain⟨its,r,p,U⟩:=I.tuple n;obtain⟨t,C,Y,G,y,F⟩:=m g (by simp);have hl:=r.length;exact wpAny_pyNext_tuple_end (I.ok.hd N) f (show s.heap.IsTuple a its.toArray from p) (by simp;omega) λl W=>⟨rfl,I.turned (t':=s.toks) (λb o j e=>W b o j e) t C G y F⟩
 self:=λ_ _ _ _ _ f h=>wpAny_pyIter_tupleiter f h
theorem mi{P:GX}{w:HF}{K:GE}{R:Expr}(c:Hc)(j:Int)(n:Nat):tq P w K R (Itr j n) [c] c (λi h=>N0 h c (j+(i:Nat) *1) ((n:Int)-(i:Nat)) 1) where
 mem:=by simp
 obj:=λi h a b d=>by
  have e:b=c:=by simpa using d
  subst e
  exact⟨_,a,λv z=>by
   have L:Data.fields _=Data.cell v:=z;cases L⟩
 keep:=λi h f a k=>k c (by simp) _ a
 item:=by
  intro X x q l B i C s G H E I g a r;subst x q l;obtain⟨m,u,Q,A,p,y⟩:=g c (by simp);have W:=Walks.range (prog:=X.prog) (w:=X.w) (I.ok.hd B) c j 1 n;refine W.item i s _ _ r a λv f F M D J=>?_;obtain⟨t,rfl⟩:=M;have N:Inv X C G H {s with heap:=f,toks:=F }:=I.turned (λb o d e=>J b o (by simpa using d) e) m u A p y;refine⟨_,rfl,qv (s:={s with heap:=f,toks:=F }) (n:="range_iterator") D rfl rfl (by decide) ⟨.int (j+i),H,N,⟨t,?_⟩,⟨rfl,rfl⟩,D,λb d=>(g b d).1⟩⟩;rw[LU]
 done:=by
  intro X x q l B i C s G H E I g a r;subst x q l;obtain⟨m,u,Q,A,p,y⟩:=g c (by simp);exact Ow (I.ok.hd B) a (by have:n<=i:=r;lia) λf O=>⟨rfl,I.turned (t':=s.toks) (λb o d e=>O b o d e) m u A p y⟩
 self:=λ_ _ _ _ _ a h=>Ox a h
section
variable {X:Cx}{tg:Expr}
noncomputable def E5(K:GE)(c:TE):TI:=λd H R=>c d H λx b=>∃a,x=.ref a/\(∃e,SqL K b a e)/\R (Itl K a) b
noncomputable def Go(K:GE)(c:TE):TI:=λd H R=>c d H λx b=>∃a,x=.ref a/\(∃e,SqT K b a e)/\R (Itt K a) b
theorem AT{l:Expr}{f:TE}(i:PE X l f):PI X tg l (E5 X.K f):=by
 intro j s t H R I h;refine thn (i j s t H _ I h) λv c u=>?_;obtain⟨x,r,d,k,g⟩:=u;obtain⟨a,e,⟨w,n⟩,q⟩:=g;subst e;cases k;obtain⟨its,y,p,z⟩:=d.list n;refine JD p.isList ?_;refine⟨c.heap.objs.size,[c.heap.objs.size],_,_,r,rfl,d.kept (t':=c.toks) λb o e=>GI _ e,wa a _,⟨_,GZ _ rfl,rfl,rfl⟩,λb m=>?_,q⟩;have e:b=c.heap.objs.size:=by simpa using m
 subst e;exact d.fpOk (GK _) (d.hok.fresh (GK _))
theorem Dm{l:Expr}{f:TE}(i:PE X l f):PI X tg l (Go X.K f):=by
 intro j s t H R I h;refine thn (i j s t H _ I h) λv c u=>?_;obtain⟨x,r,d,k,g⟩:=u;obtain⟨a,e,⟨w,n⟩,q⟩:=g;subst e;cases k;obtain⟨its,y,p,z⟩:=d.tuple n;refine wpAny_pyIter_tuple (show c.heap.IsTuple a its.toArray from p) ?_;refine⟨c.heap.objs.size,[c.heap.objs.size],_,_,r,rfl,d.kept (t':=c.toks) λb o e=>GI _ e,rR a _,⟨_,GZ _ rfl,rfl,rfl⟩,λb m=>?_,q⟩;have e:b=c.heap.objs.size:=by simpa using m
 subst e;exact d.fpOk (GK _) (d.hok.fresh (GK _))
theorem xJ{f:List (Hc×Obj)}{h:St}{H:Hp}{s:GP}{R:It->Hp->Prop}{E:GM->GP->Prop}{a c:Int}{t u v:Tok}{g:Nat}(I:Inv X f h H s)(k:-(2 ^ 62)<=a)(j:a<2 ^ 62)(p:-(2 ^ 62)<=c)(i:c<2 ^ 62)
  (q:R (Itr a (c-a).toNat) H):Ht (Hr X.prog X.w) X.A (QD (.ref s.heap.objs.size)) (PIE X f h tg R) E {s with heap:=s.heap.push {cls:=.type "range",data:=.fields #[.int a t,.int c u,.int 1 v] },toks:=g }:=by
 refine Nq (IsRange.new ..) (small_one k j p i) ?_;have d:Inv X f h H {s with heap:=s.heap.push {cls:=.type "range",data:=.fields #[.int a t,.int c u,.int 1 v] },toks:=g }:=I.kept λb o e=>GI _ e
 refine⟨(s.heap.push {cls:=.type "range",data:=.fields #[.int a t,.int c u,.int 1 v] }).objs.size,[(s.heap.push {cls:=.type "range",data:=.fields #[.int a t,.int c u,.int 1 v] }).objs.size],_,_,H,rfl,
  d.kept (t':=g) λb o e=>GI _ e,mi _ a (c-a).toNat,?_,λb l=>?_,q⟩
 .have m:a+((0:Nat):Int) *1=a:=by simp
  have n:(((c-a).toNat:Nat):Int)-((0:Nat):Int)=Builtin.Range.rangeSize a c 1:=by rw[rangeSize_one];split <;>lia
  show N0 _ _ (a+((0:Nat):Int) *1) ((((c-a).toNat:Nat):Int)-((0:Nat):Int)) 1;rw[m,n];exact GZ _ rfl
 .have e:b=(s.heap.push {cls:=.type "range",data:=.fields #[.int a t,.int c u,.int 1 v] }).objs.size:=by simpa using l
  subst e;exact d.fpOk (GK _) (d.hok.fresh (GK _))
noncomputable def FT(ta:TA):TI:=λc H R=>ta c H λb a=>∃j:Int,b=[.int j]/\-(2 ^ 62)<=j/\j<2 ^ 62/\R (Itr 0 j.toNat) a
theorem wK{a:Expr}{ta:TA}{p b:Pos}(i:Gl X "range")(g:X.mg "range"=none)(k:PA X [a] ta)(hs:autoParam (GO [a] X.env=[(false,Kg a X.env)]) w4):PI X tg (.Call (.Name "range" p) [a] [] b) (FT ta):=by
 intro l s o H R I h;refine Call_ (cU I i g Qm (PyProof.Rows.callWith_type1 (thn (k b l s o H _ I h) λx v u=>?_) hs rfl));obtain⟨w,y,f,m,c⟩:=u;obtain⟨j,e,c,d,q⟩:=c;subst e;cases m with
 |cons r n=>
  cases n;obtain⟨t,rfl⟩:=r;exact call_range_1 (xJ f (by lia) (by lia) c d (by simpa using q))
noncomputable def FX(f:TI)(g:TG)(tb:TS):TS:=λD a H=>f a H λJ h=>∃W:Nat->Nat->St->Hp->Prop,(∃m,W 0 m a h)/\∀i m a H,W i m a H->
 (J.stop i H/\D.nx a H)\/(J.go i H/\∃N:St->Hp->Prop,(∀d b,N d b->∃e,e<m/\W (i+1) e d b)/\∀x b,J.yld i H x b->g x a b λc j=>tb {D with nx:=N,ct:=N,bk:=D.nx } c j)
noncomputable def jw(a:List Hc)(h:Jx):List (Hc×Obj):=a.filterMap λb=>(h.get? b).map λo=>(b,o)
theorem gj{a:List Hc}{h:Jx}{b:Hc}{o:Obj}(c:b∈a)(e:h.get? b=some o):(b,o)∈jw a h:=Mc.mpr ⟨b,c,by rw[e];rfl⟩
theorem vQ{a:List Hc}{h:Jx}{p:Hc×Obj}(d:p∈jw a h):p.1∈a/\h.get? p.1=some p.2:=by
 obtain⟨b,f,e⟩:=Mc.mp d;cases q:h.get? b with
 |none=>rw[q]at e;cases e
 |some o=>
  rw[q]at e;have c:(b,o)=p:=HK e;subst c;exact⟨f,q⟩
theorem Inv.pinned{c:List (Hc×Obj)}{h:St}{H:Hp}{s:GP}{a:List Hc}(I:Inv X c h H s)(k:∀b∈a,km X c H b)(l:∀b∈a,∃o,s.heap.get? b=some o/\∀v,o.data≠.cell v):Inv X (c++jw a s.heap) h H s:=
 I.pins_of λp m=>(Hi.mp m).elim (λz=>I.pin p (Ha _ z)) λz=>by
  obtain⟨g,e⟩:=vQ z;obtain⟨i,j,n,_⟩:=k p.1 g;obtain⟨o,f,d⟩:=l p.1 g;rw[e]at f;cases f;exact⟨e,i,j,n,d⟩
theorem Inv.unpinned{a c:List (Hc×Obj)}{b:St}{H:Hp}{s:GP}(I:Inv X (a++c) b H s):Inv X a b H s:=I.pins_of λp d=>I.pin p (Ha _ (Hm _ d))
theorem El{p:Expr}{S8:List Ki}{wi:TI}{g:TG}{tb:TS}{U:Pos}(B:OK (Hr X.prog X.w) X.A X.env X.xe)(hc:X.calm=true)(hi:PI X tg p wi)(hg:PG X tg g)(l:PSs X S8 tb)
  (hs:autoParam (∀x,IB p X.env x=pure x) q0):PS X (.For tg p S8 [] U) (FX wi g tb):=by
 intro z s σ H D I h;refine wpAny_For (thn (hi z s σ H _ I h) λv s1 h1=>thn h1 λitv s2 h2=>?_) hs;obtain⟨it,C,tn,J,H2,e,I2,T,st2,f2,W,⟨m0,w0⟩,G⟩:=h2;subst e;have a:∀{t:Hp},(∀b∈C,t b=none)->∀b∈C,km X z t b:=λhn b l=>⟨hn b l,(f2 b l).2⟩
 refine codeAny_forLoop_any (λn Z=>∃i L t,Inv X z L t Z/\tn i Z.heap/\(∀b∈C,t b=none)/\W i n L t) ?_ m0 ⟨0,σ,H2,I2,st2,λb l=>(f2 b l).1,w0⟩;rintro n s3 ⟨i,K,P,I3,st3,M,w3⟩;rcases G i n K P w3 with ⟨E,qn⟩ |⟨go,N,hN,step⟩
 .refine KL B (thn (T.done X rfl rfl rfl hc i z s3 K P X.xe I3 (a M) st3 E) λr s4 ⟨Y,I4⟩=>?_);subst Y;exact Mb ⟨K,P,I4,qn⟩
 .refine KL B (thn (T.item X rfl rfl rfl hc i z s3 K P X.xe I3 (a M) st3 go) λr s4 O=>?_);obtain⟨u,Y,h4⟩:=O;subst Y;refine KL B (thn h4 λ_ s5 O=>?_);obtain⟨x,H5,I5,r5,y5,st5,S⟩:=O;have R:=I5.pinned (a S) (T.obj _ _ st5);refine KL B (thn (hg _ s5 K H5 x u _ R r5 (step x H5 y5)) λ_ s6 O=>?_);obtain⟨Q,H6,I6,q6⟩:=O;refine KL B (thn (l _ s6 Q H6 _ I6 q6) λf V y=>?_)
  have k:∀{q:St}{j:Hp},Inv X (z++jw C s5.heap) q j V->N q j->∃m,m<n/\∃i L t,Inv X z L t V/\tn i V.heap/\(∀b∈C,t b=none)/\W i m L t:=λ{q j} c F=>by
   obtain⟨m',hm,w7⟩:=hN q j F;refine⟨m',hm,i+1,q,j,c.unpinned,T.keep _ _ _ st5 λb l o e=>(c.pin (b,o) (Ha _ (Ha _ (gj l e)))).1,λb l=>?_,w7⟩;obtain⟨o,e,d⟩:=T.obj _ _ st5 b l;exact (c.pin (b,o) (Ha _ (Ha _ (gj l e)))).2.1
  cases f with
  |next=>obtain⟨q,j,c,F⟩:=y;exact k c F
  |cont=>obtain⟨q,j,c,F⟩:=y;exact k c F
  |brk=>obtain⟨q,j,c,y⟩:=y;exact⟨q,j,c.unpinned,y⟩
  |ret v=>obtain⟨x7,q,j,c,r7,y⟩:=y;exact⟨x7,q,j,c.unpinned,r7,y⟩
end
noncomputable abbrev R2:=V->V->Hp->VK->Prop
def OpR(X:Cx)(f:GM->GM->Sem GM)(r:R2):Prop:=
 ∀(a:List (Hc×Obj)) (s:GP) (b:St) (H:Hp) (x y:V) (v u:GM) (Q:VK),Inv X a b H s->ba x v->ba y u->r x y H Q->
  Ht (Hr X.prog X.w) X.A (f v u) (EP X a b Q) X.xe s
def UnR(X:Cx)(f:GM->Sem GM)(r:V->Hp->VK->Prop):Prop:=
 ∀(a:List (Hc×Obj)) (s:GP) (b:St) (H:Hp) (x:V) (v:GM) (Q:VK),Inv X a b H s->ba x v->r x H Q->
  Ht (Hr X.prog X.w) X.A (f v) (EP X a b Q) X.xe s
def cA(X:Cx)(f:GM)(r:List V->Hp->VK->Prop):Prop:=
 ∀(b:List (Hc×Obj)) (s:GP) (c:St) (H:Hp) (d:List V) (a:List GM) (Q:VK),Inv X b c H s->aZ d a->r d H Q->
  Ht (Hr X.prog X.w) X.A (call f a) (EP X b c Q) X.xe s
noncomputable def tOp(r:R2)(ta tb:TE):TE:=λa H Q=>ta a H λx b=>tb a b λy c=>r x y c Q
noncomputable def tUn(r:V->Hp->VK->Prop)(ta:TE):TE:=λb H Q=>ta b H λx a=>r x a Q
noncomputable def rI(C:Int->Int->Prop)(g:Int->Int->V):R2:=λx y H Q=>∃i j,x=.int i/\y=.int j/\C i j/\Q (g i j) H
noncomputable def rI0(g:Int->Int->V):R2:=λx y H Q=>∃i j,x=.int i/\y=.int j/\Q (g i j) H
def rU(g:Int->V):V->Hp->VK->Prop:=λx H Q=>∃i,x=.int i/\Q (g i) H
section
variable {X:Cx}{a b c:Expr}{ta tb tc:TE}{pos:Pos}
theorem Em(r:PE X a ta)(z:PE X b tb){g:List (Hc×Obj)}{s:GP}{d:St}{H:Hp}{R:V->V->Hp->Prop}(I:Inv X g d H s)
  (h:ta d H λx i=>tb d i λy c=>R x y c) {Q:GM->GP->Prop}{f:GM->GM->Sem GM}
  (hf:∀v u e x y c,Inv X g d c e->ba x v->ba y u->R x y c->Ht (Hr X.prog X.w) X.A (f v u) Q X.xe e):
  Ht (Hr X.prog X.w) X.A (Kg a X.env) (λv m=>Ht (Hr X.prog X.w) X.A (Kg b X.env) (λu q=>Ht (Hr X.prog X.w) X.A (f v u) Q X.xe q) X.xe m) X.xe s:=by
 refine thn (r g s d H _ I h) λv l j=>?_;obtain⟨x,i,n,t,o⟩:=j;refine thn (z g l d i _ n o) λu e j=>?_;obtain⟨y,c,p,B,k⟩:=j;exact hf v u e x y c p t B k
theorem vC{op:Operator}{r:R2}(j:OpR X (Md op) r)(e:PE X a ta)(i:PE X b tb):PE X (.BinOp a op b pos) (tOp r ta tb):=by
 intro f s m H Q I h;exact wpAny_BinOp (Em e i I h λv u c x y g d k l q=>j f c m g x y v u Q d k l q)
theorem Fv{op:UnaryOp}{r:V->Hp->VK->Prop}(k:UnR X (unaryOp op) r)(d:PE X a ta):PE X (.UnaryOp op a pos) (tUn r ta):=by
 intro b s c H Q I h;exact UnaryOp_ (thn (d b s c H _ I h) λv f ⟨x,e,g,i,j⟩=>k b f c e x v Q g i j)
theorem opI{f:GM->GM->Sem GM}{C:Int->Int->Prop}{g:Int->Int->Int}
  (rule:∀(i j:Int) (t u:Tok) (s:GP) (Q:GM->GP->Prop) (E:GM->GP->Prop),C i j->Q (.int (g i j) s.toks) {s with toks:=s.toks+1 }->Ht (Hr X.prog X.w) X.A (f (.int i t) (.int j u)) Q E s):
  OpR X f (rI C λi j=>.int (g i j)):=by
 intro e s k H x y v u Q I b c h;obtain⟨i,j,rfl,rfl,d,q⟩:=h;obtain⟨t,rfl⟩:=b;obtain⟨a,rfl⟩:=c;exact rule i j t a s _ _ d ⟨.int (g i j),H,I.tok _,⟨_,rfl⟩,q⟩
theorem EE{f:GM->GM->Sem GM}{g:Int->Int->Int}
  (rule:∀(i j:Int) (t u:Tok) (s:GP) (Q:GM->GP->Prop) (E:GM->GP->Prop),Q (.int (g i j) s.toks) {s with toks:=s.toks+1 }->Ht (Hr X.prog X.w) X.A (f (.int i t) (.int j u)) Q E s):
  OpR X f (rI0 λi j=>.int (g i j)):=by
 intro d s e H x y v u Q I b c h;obtain⟨i,j,rfl,rfl,q⟩:=h;obtain⟨t,rfl⟩:=b;obtain⟨a,rfl⟩:=c;exact rule i j t a s _ _ ⟨.int (g i j),H,I.tok _,⟨_,rfl⟩,q⟩
theorem DX{f:GM->GM->Sem GM}{g:Int->Int->Bool}
  (rule:∀(i j:Int) (t u:Tok) (s:GP) (Q:GM->GP->Prop) (E:GM->GP->Prop),Q (.bool (g i j)) s->Ht (Hr X.prog X.w) X.A (f (.int i t) (.int j u)) Q E s):
  OpR X f (rI0 λi j=>.bl (g i j)):=by
 intro d s e H x y v u Q I b c h;obtain⟨i,j,rfl,rfl,q⟩:=h;obtain⟨t,rfl⟩:=b;obtain⟨a,rfl⟩:=c;exact rule i j t a s _ _ ⟨.bl (g i j),H,I,rfl,q⟩
def Fs(i j:Int):Prop:=0<=j/\j<=1000000/\i.natAbs<2 ^ 64
theorem D5:OpR X (Md .Add) (rI0 λi j=>.int (i+j)):=EE λ_ _ _ _ _ _ _ q=>add_int q
theorem Dc:OpR X (Md .Sub) (rI0 λi j=>.int (i-j)):=EE λ_ _ _ _ _ _ _ q=>sub_int q
theorem DQ:OpR X (Md .Mod) (rI (λ_ j=>0<j) λi j=>.int (i%j)):=opI λi j _ _ _ _ _ a q=>by
 have b:(0:Int)<j:=a;exact mod_int' (by lia) (by rw[Int.fmod_eq_emod_of_nonneg i (by lia)];exact q)
theorem Dp:OpR X (Md .Pow) (rI Fs λi j=>.int (i ^ j.toNat)):=opI λ_ _ _ _ _ _ _ a q=>pow_int_small a.1 a.2.1 a.2.2 q
theorem unI{f:GM->Sem GM}{g:Int->Int}
  (rule:∀(i:Int) (t:Tok) (s:GP) (Q:GM->GP->Prop) (E:GM->GP->Prop),Q (.int (g i) s.toks) {s with toks:=s.toks+1 }->Ht (Hr X.prog X.w) X.A (f (.int i t)) Q E s):
  UnR X f (rU λi=>.int (g i)):=by
 intro b s c H x v Q I a h;obtain⟨i,rfl,q⟩:=h;obtain⟨t,rfl⟩:=a;exact rule i t s _ _ ⟨.int (g i),H,I.tok _,⟨_,rfl⟩,q⟩
theorem Dv:UnR X (unaryOp .USub) (rU λi=>.int (-i)):=unI λ_ _ _ _ _ q=>neg_int q
theorem lG{a:List (Hc×Obj)}{b:St}{H:Hp}{s:GP}{Q:VK}{k c:Bool}(I:Inv X a b H s)(q:Q (.bl k) H)(e:k=c):EP X a b Q (.bool c) s:=by
 subst e;exact⟨.bl k,H,I,rfl,q⟩
theorem E2:OpR X (Iw .Lt) (rI0 λi j=>.bl (decide (i<j))):=DX λ_ _ _ _ _ _ _ q=>lt_int q
theorem EU:OpR X (Iw .LtE) (rI0 λi j=>.bl (decide (i<=j))):=DX λ_ _ _ _ _ _ _ q=>le_int q
theorem Fc:OpR X (Iw .Gt) (rI0 λi j=>.bl (decide (j<i))):=DX λ_ _ _ _ _ _ _ q=>gt_int q
theorem Ap(b:Expr){op:Sm}(h:autoParam (op≠.In) v0)(a:autoParam (op≠.NotIn) v0):Kk op b=false:=by
 have c:(op==CmpOp.In)=false:=by cases op <;>first |rfl |exact absurd rfl h
 have d:(op==CmpOp.NotIn)=false:=by cases op <;>first |rfl |exact absurd rfl a
 cases b <;>simp[Kk,c,d]
theorem A2{op:Sm}{r:R2}(k:OpR X (Iw op) r)(f:PE X a ta)(j:PE X b tb)(d:Kk op b=false):PE X (.Compare a [op] [b] pos) (tOp r ta tb):=by
 intro g s n H Q I h;exact wpAny_Compare1 (Em f j I h λv u c x y i e l m q=>k g c n i x y v u Q e l m q) d
noncomputable def EG(t:TE):TT:=λb H Q=>t b H λx a=>∃k,x=.bl k/\Q k a
theorem Bj{op:Sm}{r:R2}(D:OpR X (Iw op) r)(w:PE X a ta)(C:PE X b tb)(q:Kk op b=false):PT X (.Compare a [op] [b] pos) (EG (tOp r ta tb)):=by
 intro d s f H Q I h
 refine OJ (thn (w d s f H _ I h) λv l ⟨x,F,o,A,p⟩=>thn (C d l f F _ o p) λu j ⟨y,B,t,E,g⟩=>
  thn (D d j f B x y v u _ t A E g) λc J z9=>?_) q
 obtain⟨z,i,n,G,k,e,m⟩:=z9
 subst e;cases G;exact IT ⟨i,n,m⟩
noncomputable def Eg(r g:R2)(ta tb tc:TE):TE:=λa H Q=>ta a H λx e=>tb a e λy f=>r x y f λz b=>∃k,z=.bl k/\
 (if k=true then tc a b λc d=>g y c d Q else Q (.bl false) b)
theorem yl{op f:Sm}{r o:R2}(N:OpR X (Iw op) r)(S:OpR X (Iw f) o)(F:PE X a ta)(M:PE X b tb)(U:PE X c tc)
  (hm:lastMarks [op,f] [b,c]=false:=by with_unfolding_all rfl):PE X (.Compare a [op,f] [b,c] pos) (Eg r o ta tb tc):=by
 intro g s i H Q I h
 refine Compare_chain (thn (F g s i H _ I h) λv t ⟨x,R,w,J,A⟩=>chain_link (thn (M g t i R _ w A) λu q ⟨y,L,C,n,p⟩=>
  thn (N g q i L x y v u _ C J n p) λd V z9=>?_)) hm
 obtain⟨z,j,l,T,k,e,m⟩:=z9
 subst e;cases T;refine IT ?_;cases k with
 |false=>exact ite_ff ⟨.bl false,j,l,rfl,m⟩
 |true=>exact ite_tt (chain_last (thn (U g V i j _ l m) λD E ⟨B,O,P,G,K⟩=>S g E i O y B u D Q P n G K))
theorem rV:(sizeLine:Nat)<2 ^ 63:=by rw[JT];decide
theorem dR{x:V}{us:List GM}(r:aZ [x] us):∃u,us=[u]/\ba x u:=by
 cases r with
 |cons b a=>cases a;exact⟨_,rfl,b⟩
theorem gN{x y:V}{us:List GM}(r:aZ [x,y] us):∃u a,us=[u,a]/\ba x u/\ba y a:=by
 cases r with
 |cons d b=>
  cases b with
  |cons e c=>cases c;exact⟨_,_,rfl,d,e⟩
theorem y_:cA X (.builtin "abs") (λa H Q=>∃i,a=[.int i]∧Q (.int (if i<0 then -i else i)) H):=by
 intro b s e H a c Q I r h;obtain⟨i,rfl,q⟩:=h;obtain⟨u,rfl,t,rfl⟩:=dR r;exact call_abs_int λu d=>⟨.int (if i<0 then -i else i),H,I.tok _,⟨_,rfl⟩,q⟩
theorem vV(c:X.calm=true):cA X (.builtin "max") (λb H Q=>∃i j,b=[.int i,.int j]∧Q (.int (if j >i then j else i)) H):=by
 intro f s n H b l Q I r h;obtain⟨i,j,rfl,q⟩:=h;obtain⟨u,e,rfl,⟨t,rfl⟩,⟨g,rfl⟩⟩:=gN r;refine max_two_ints (I.ok.hd c) λd m k=>⟨_,H,I.kept k,?_,q⟩
 by_cases a:j >i
 .rw[if_pos a,if_pos a];exact⟨_,rfl⟩
 .rw[if_neg a,if_neg a];exact⟨_,rfl⟩
theorem wP(c:X.calm=true):cA X (.builtin "min") (λb H Q=>∃i j,b=[.int i,.int j]∧Q (.int (if j<i then j else i)) H):=by
 intro f s n H b l Q I r h;obtain⟨i,j,rfl,q⟩:=h;obtain⟨u,e,rfl,⟨t,rfl⟩,⟨g,rfl⟩⟩:=gN r;refine min_two_ints (I.ok.hd c) λd m k=>⟨_,H,I.kept k,?_,q⟩
 by_cases a:j<i
 .rw[if_pos a,if_pos a];exact⟨_,rfl⟩
 .rw[if_neg a,if_neg a];exact⟨_,rfl⟩
theorem v_:cA X (.type "int") (λa H Q=>(∃i,a=[.int i]∧Q (.int i) H)∨∃k,a=[.bl k]∧Q (.int (if k then 1 else 0)) H):=by
 intro c s e H a d Q I r h;rcases h with ⟨i,rfl,q⟩ |⟨k,rfl,q⟩
 .obtain⟨u,rfl,t,rfl⟩:=dR r;exact call_int_int ⟨.int i,H,I,⟨_,rfl⟩,q⟩
 .obtain⟨u,rfl,b⟩:=dR r;cases b;exact call_int_bool ⟨.int (if k then 1 else 0),H,I.tok _,⟨_,rfl⟩,q⟩
end
structure D7(h:Jx)(x dx C:Hc)(mA:Str->Option GM):Prop where
 obj:h.get? x=some (OH C dx)
 ns:h.Ns1 dx mA
 ne:dx≠x
theorem wI{h:Jx}{f:Hc}{i:Str->Option GM}(n:h.Ns1 f i):∃g,h.get? f=some g/\∀c,Py c g=some (i c):=by
 obtain⟨o,d,s,p,k,m,_,j⟩:=n;refine⟨o,p,λc=>?_⟩;have e:=j c;unfold nsFind findBy at e;rw[<-Array.find?_toList]at e;unfold Py;rw[k];dsimp only;split
 .rename_i y q
  rw[q]at e;exact congrArg some e
 .rename_i q
  rw[q]at e
  have a:d.toList.any (·.refKey)=false:=by
   rw[List.any_eq_false];intro y l;obtain⟨z,t,b⟩:=m y (MV.mp l);simp[DictEntry.refKey,b]
  have r:¬ d.toList.any (·.refKey)=true:=by rw[a];exact Io
  rw[if_neg r];exact congrArg some e
theorem D7.look{h:Jx}{x b C:Hc}{d:Str->Option GM}(I:D7 h x b C d):∃a,PySem.W.InstAt h x (OH C b) C (some a)/\∀c,Py c a=some (d c):=
 let ⟨a,ho,hl⟩:=wI I.ns
 ⟨a,⟨I.obj,rfl,rfl,ho⟩,hl⟩
section
variable {P:GX}{w:HF}{H H':Hp}{h h':Jx}{a C dx:Hc}{fs fs':List (Str×V)}
theorem B2(c:HOk P w H h)(e:H a=some (.ins C dx fs)):∃b,D7 h a dx C b/\(∀f,Er (fs.lookup f) (b f))/\R6 b (fs.map (·.1))/\fs.length<=1000/\H dx=some (.own a):=by
 obtain⟨d,z,i,g,b,n,r,q⟩:=(show cM P w H h a (.ins C dx fs) from c a _ e)
 exact⟨b,⟨g,n,i⟩,r,q,z,d⟩
end
structure Cls(K:GE)(C:Hc):Prop where
 pg:QL K C Str.empty=true
 hd:PySem.W.hasDictIn K C=true
 po:PySem.W.plainOver K C=true
 sa:Ro K (.ref C) "__setattr__"=some (some (.builtin "object.__setattr__"))
theorem Cls.get{K:GE}{C:Hc}(c:Cls K C)(f:Str):QL K C f=true:=c.pg
section
variable {X:Cx}{SI:List (Hc×Obj)}{σ:St}{H:Hp}{s:GP}{A:HM}{E:GM→GP→Prop}{Q:GM→GP→Prop}{c:GM}{b:Bool}
inductive ko (K:GE) (H:Hp):V->GM->Prop where
 |non:ko K H .non (.type "NoneType")
 |bl (x:Bool):ko K H (.bl x) (.type "bool")
 |int (i:Int):ko K H (.int i) (.type "int")
 |str (x:Str):ko K H (.str x) (.type "str")
 |flt (x:UInt64):ko K H (.flt x) (.type "float")
 |lst {a:Hc}{xs:List V} (e:H a=some (.lst xs)):ko K H (.ref a) (.type "list")
 |frz {a:Hc}{o:Obj}{xs:List V} (e:H a=some (.frz o (.lst xs))):ko K H (.ref a) (.type "list")
 |tup {a:Hc}{xs:List V} (e:H a=some (.tup xs)):ko K H (.ref a) (.type "tuple")
 |dK {a:Hc}{S9:List (Key×V)} (e:H a=some (.dK S9)):ko K H (.ref a) (.type "dict")
 |dT {a:Hc}{S9:List (List Key×V)} (e:H a=some (.dT S9)):ko K H (.ref a) (.type "dict")
 |ins {a C dx:Hc}{fs:List (Str×V)} (e:H a=some (.ins C dx fs)) (cl:Cls K C) (ha:Ro K (.ref C) "__class__"=some (some (.builtin "object.__class__")))
   (hn:PySem.W.specialIn K (.builtin "object.__class__") "__get__"=some (some (.builtin "getset_descriptor.__get__"))) (T3:PySem.W.takesIn K (.builtin "object.__class__")=some true)
   (hm:M3 K C (.type "object")=some true):ko K H (.ref a) (.ref C)
theorem eG{x:V}{u t:GM}(I:Inv X SI σ H s)(f:ba x u)(G:ko X.K H x t)(e:GW X.K t c=some b)(h:∀L,Q (.bool b) {s with toks:=L }):
  Ht (Hr X.prog X.w) A (call (.builtin "isinstance") [u,c]) Q E s:=by
 cases G with
 |non=>cases (show u=Lb from f);exact Ip PySem.W.kitx_none I.kIn True.intro e (λz=>nomatch z) h
 |bl y=>cases (show u=Lw y from f);exact Ip PySem.W.kitx_bool I.kIn True.intro e (λz=>nomatch z) h
 |int i=>obtain⟨t,q⟩:=(show ∃t,u=Ma i t from f);cases q;exact Ip PySem.W.kitx_int I.kIn True.intro e (λz=>nomatch z) h
 |str y=>obtain⟨t,q⟩:=(show ∃t,u=Q4 y t from f);cases q;exact Ip PySem.W.kitx_str I.kIn True.intro e (λz=>nomatch z) h
 |flt y=>obtain⟨t,q⟩:=(show ∃t,u=Sj y t from f);cases q;exact Ip PySem.W.kitx_float I.kIn True.intro e (λz=>nomatch z) h
 | @lst a j d=>
  cases (show u=Ik a from f);obtain⟨_,_,n,_,g⟩:=(show cM X.prog X.w H s.heap a (.lst j) from I.hok a _ d)
  exact Ip ND I.kIn ⟨_,g,rfl⟩ e (λz=>nomatch z) h
 | @frz a F j d=>
  cases (show u=Ik a from f);obtain⟨_,_,_,n,_,g⟩:=(show cM X.prog X.w H s.heap a (.frz F (.lst j)) from I.hok a _ d)
  exact Ip ND I.kIn ⟨_,g,rfl⟩ e (λz=>nomatch z) h
 | @tup a j d=>
  cases (show u=Ik a from f);obtain⟨_,_,_,p⟩:=(show cM X.prog X.w H s.heap a (.tup j) from I.hok a _ d)
  obtain⟨o,g,k,_⟩:=p;exact Ip P4 I.kIn ⟨o,g,k⟩ e (λz=>nomatch z) h
 | @dK a l d=>
  cases (show u=Ik a from f);obtain⟨_,_,R,_,p⟩:=(show cM X.prog X.w H s.heap a (.dK l) from I.hok a _ d)
  obtain⟨o,r,B,g,k,_⟩:=p;exact Ip Qn I.kIn ⟨o,g,k.1⟩ e (λz=>nomatch z) h
 | @dT a l d=>
  cases (show u=Ik a from f);obtain⟨_,_,j,_,o,r,B,g,k,_⟩:=(show cM X.prog X.w H s.heap a (.dT l) from I.hok a _ d)
  exact Ip Qn I.kIn ⟨o,g,k.1⟩ e (λz=>nomatch z) h
 | @ins a C P fs d m D N M v=>
  cases (show u=Ik a from f);obtain⟨T,O,_⟩:=B2 I.hok d;obtain⟨S,J,_⟩:=O.look;exact Ip (PySem.W.kitx_own (m.get _) m.hd D N M v) I.kIn J e (λz=>nomatch z) h
end
structure cZ(k:Nat)(A:HM):Prop where
 hd:A.handled=none
 dp:A.depth+3*k+5<Rq
 un:A.units+16*k+200<KZ
theorem cZ.mono{j k:Nat}{A:HM}(r:cZ k A)(h:j<=k):cZ j A:=⟨r.hd,by have:=r.dp;lia,by have:=r.un;lia⟩
theorem cZ.deeper{k:Nat}{A:HM}(r:cZ (k+1) A)(a:Env):cZ k (A.deeper a):=
 ⟨r.hd,by have:=r.dp;show A.depth+1+3*k+5<_;lia,by have:=r.un;show A.units+3+16*k+200<_;lia⟩
theorem cZ.depth{k:Nat}{A:HM}(r:cZ k A):A.depth<Rq:=by have:=r.dp;lia
noncomputable def Gi:TA:=λ_ H Q=>Q [] H
noncomputable def E4(ta:TE)(b:TA):TA:=λa H Q=>ta a H λx c=>b a c λd e=>Q (x::d) e
variable {es:List Expr}
section
variable {X:Cx}{e:Expr}{te:TE}{t:TA}{pos:Pos}
theorem dZ:PA X [] Gi:=λ_ _ _ _ H Q I h=>Lx ⟨[],H,I,.nil,h⟩
theorem cp(k:PE X e te)(l:PA X es t)(hs:autoParam (GO (e::es) X.env=(false,Kg e X.env)::GO es X.env) w4):PA X (e::es) (E4 te t):=by
 intro pos a s b H Q I h;rw[hs];show Ht _ _ (Sk ((false,Kg e X.env)::JZ pos (GO es X.env))) _ _ s;refine Le (thn (k a s b H _ I h) λu d q=>?_);obtain⟨x,p,f,m,g⟩:=q;exact thn (l pos a d b p _ f g) λv r ⟨i,n,j,o,c⟩=>⟨x::i,n,j,.cons m o,c⟩
noncomputable def Gn(t:TA):TE:=λc H Q=>t c H λb a=>b.length<=sizeLine/\∀p,a p=none->Q (.ref p) (upd a p (.tup b))
noncomputable def F6(t:TA):TE:=λc H Q=>t c H λb a=>b.length<=sizeLine/\∀p,a p=none->Q (.ref p) (upd a p (.lst b))
theorem DV{x1}(h:PA X es t):PE X (.Tuple es x1 pos) (Gn t):=by
 intro i s l H Q I k;refine wpAny_Tuple_spliced (thn (h pos i s l H _ I k) λj a ⟨f,d,c,r,z,q⟩=>⟨by rw[<-r.length];exact z,?_⟩);have g:d a.heap.objs.size=none:=c.hok.fresh (GK _);refine⟨.ref a.heap.objs.size,upd d a.heap.objs.size (.tup f),c.laid (t':=a.toks) (λb u e=>GI _ e) (GK _) ?_,rfl,q _ g⟩;exact⟨z,j,r,⟨_,GZ _ rfl,rfl,_,rfl⟩⟩
theorem Ds(h:PA X es t):PE X (.List es pos) (F6 t):=by
 intro i s l H Q I k;refine wpAny_List_spliced (thn (h pos i s l H _ I k) λj a ⟨f,d,c,r,z,q⟩=>⟨by rw[<-r.length];exact z,?_⟩);have g:d a.heap.objs.size=none:=c.hok.fresh (GK _);refine⟨.ref a.heap.objs.size,upd d a.heap.objs.size (.lst f),c.laid (t':=a.toks) (λb u e=>GI _ e) (GK _) ?_,rfl,q _ g⟩;exact⟨z,j,0,r,GZ _ rfl⟩
end
noncomputable abbrev Sp:=List V->Hp->VK->XK->Prop
noncomputable abbrev CXT:=List Env->Hp->GP->XK->GM->GP->Prop
structure A6(P:GX)(w:HF)(K:GE)(mg:Str->Option GM)(base:Jx)(A:HM)(outer:List Env)(s:GP)(H:Hp):Prop where
 frames:A.frames=some outer
 mod:Mod K mg base
 bs:∀b o,base.get? b=some o->s.heap.get? b=some o/\H b=none
 bsz:base.objs.size<=s.heap.objs.size
 funs:s.heap.FunFrames base outer
 frf:∀b∈frs outer,H b=none
 hok:HOk P w H s.heap
 bare:NX s.gens
def CE(a:List Env)(P:GX)(w:HF)(H:Hp)(s:GP)(Q:VK)(u:GM)(s':GP):Prop:=
 ∃v b,s'.os=s.os/\NX s'.gens/\Un (frs a) [] H b s.heap s'.heap/\HOk P w b s'.heap/\ba v u/\Q v b
def CR(CX:CXT)(a:List Env)(P:GX)(w:HF)(H:Hp)(s:GP)(Q:VK)(E:XK)(r:RI)(s':GP):Prop:=
 match r with
 | .ok (.ret u)=>CE a P w H s Q u s'
 | .ok _=>False
 | .error e=>CX a H s E e s'
structure c_(P:GX)(w:HF)(K:GE)(mg:Str->Option GM)(base:Jx)(CX:CXT)(k:Nat)(f:Hc)(fd:JR)(ps:List Str)(sp:Sp):Prop where
 len:∀vs H Q E,sp vs H Q E->vs.length=ps.length
 run:∀(A:HM) (outer:List Env) (s:GP) (H:Hp) (args:Args) (us:List GM) (vs:List V) (Q:VK) (E:XK),cZ k A->A6 P w K mg base A outer s H->RQ s fd args (ps.zip us)->aZ vs us->sp vs H Q E->
  Me (Hr P w) A (.call (.ref f) args) (CR CX outer P w H s Q E) s
theorem c_.mono{P:GX}{w:HF}{K:GE}{d:Str->Option GM}{a:Jx}{CX:CXT}{j k:Nat}{f:Hc}{e:JR}{g:List Str}{sp:Sp}(F:c_ P w K d a CX j f e g sp)(h:j<=k):
  c_ P w K d a CX k f e g sp:=⟨F.len,λA b s H c m i Q E l=>F.run A b s H c m i Q E (l.mono h)⟩
section
variable {X:Cx}{SI:List (Hc×Obj)}{σ:St}{H:Hp}{s s':GP}
theorem Inv.env0(I:Inv X SI σ H s):A6 X.prog X.w X.K X.mg X.base X.A X.stack s H:=
 ⟨I.ok.frames,I.ok.mod,I.bs,HB I.ok.bsz I.sz,I.stack,I.stkFree,I.hok,I.bare⟩
theorem Inv.after{Q:VK}{u:GM}(I:Inv X SI σ H s)(h:CE X.stack X.prog X.w H s Q u s'):EP X SI σ Q u s':=by
 obtain⟨v,f,j,a,un,e,r,q⟩:=h;obtain⟨i,g,d,t,c⟩:=s';obtain rfl:c=s.os:=j;exact⟨v,f,I.call (h':=i) (g':=g) (d':=d) (t':=t) (ch:=[]) un e a (λb z=>absurd z (by simp)),r,q⟩
end
noncomputable def EO(sp:Sp)(d:List V)(E:XK)(t:TA):TE:=λc H Q=>t c H λb a=>sp (b++d) a Q E
def dy(K:GE)(d:JR)(c:List Str)(b:List GM):Prop:=
 ∀(s:GP) (a:List GM),K.In s.heap->(a++b).length=c.length->RQ s d ⟨a,[]⟩ (c.zip (a++b))
theorem dy.all{K:GE}{c:JR}{b:List Str}(h:∀a:List GM,a.length=b.length->MH c ⟨a,[]⟩=pure (b.zip a)):dy K c b []:=λs a _ d=>by
 rw[II]at d |-;exact .of_eq (h a d)
def gT(CX:CXT)(X:Cx)(E:XK):Prop:=∀(b:List (Hc×Obj)) (c:St) (H:Hp) (s:GP) (e:GM) (a:GP),Inv X b c H s->CX X.stack H s E e a->X.xe e a
section
variable {X:Cx}{CX:CXT}{k:Nat}{f C:Hc}{fd:JR}{ps:List Str}{sp:Sp}{VF:List V}{ds:List GM}{E:XK}{x m:Str}{p pos Te:Pos}{e o:Expr}{ta:TE}{t:TA}
theorem CT{c:List (Hc×Obj)}{d:St}{H:Hp}{s:GP}{Q:VK}{us:List GM}{b:List V}(F:c_ X.prog X.w X.K X.mg X.base CX k f fd ps sp)(l:cZ k X.A)(n:dy X.K fd ps ds)(i:aZ VF ds)(o:gT CX X E)
  (I:Inv X c d H s) (r:aZ b us) (h:sp (b++VF) H Q E):Ht (Hr X.prog X.w) X.A (call (.ref f) us) (EP X c d Q) X.xe s:=by
 have g:aZ (b++VF) (us++ds):=r.append i;have j:(us++ds).length=ps.length:=by rw[<-g.length];exact F.len _ _ _ _ h
 refine Pk (L7 (F.run X.A X.stack s H ⟨us,[]⟩ (us++ds) (b++VF) Q E l I.env0 (n s us I.kIn j) g h) λr m a=>?_);cases r with
 |error e=>exact o c d H s e m I a
 |ok fl=>
  cases fl with
  |ret u=>exact I.after a
  |next=>exact False.elim a
  |brk=>exact False.elim a
  |cont=>exact False.elim a
theorem kF(F:c_ X.prog X.w X.K X.mg X.base CX k f fd ps sp)(i:cZ k X.A)(d:Gl X x)(b:X.mg x=some (.ref f))(g:JK X.K (.ref f)=true)(l:dy X.K fd ps ds)(c:aZ VF ds)(n:gT CX X E)
  (ha:PA X (e::es) t) (TY:autoParam ((x==("__debug__":Str))=false) v0) (he:autoParam (GO (e::es) X.env=(false,Kg e X.env)::GO es X.env) w4) (Td:autoParam ((JZ pos (GO es X.env)).any (·.1)=false) w4):
  PE X (.Call (.Name x p) (e::es) [] pos) (EO sp VF E t):=by
 intro j s m H Q I h;refine Iq (iX I d b ?_ TY);refine P5 (h₀:=X.base) I.ok.mod.kin g (thn (ha pos j s m H _ I h) λv o ⟨u,y,a,r,q⟩=>⟨a.kIn,?_⟩) he Td;exact CT F i l c n a r q
end
structure ay(N P:List Str)(sc:PL):Prop where
 kind:sc.kind=.function
 co:sc.isCoroutine=false
 gen:sc.isGenerator=false
 nd:N.Nodup
 pre:N.take P.length=P
 par:∀x∈P,sc.names.lookup x=some .local\/sc.names.lookup x=some .cell
 nofree:∀y∈sc.names,y.2≠.free
theorem nE{a:Str->Option Pl}{x:Str}:∀{binds:List (Str×GM)}{m:Str->Option GM},(∀v,(x,v) ∉ binds)->So a binds m x=m x
 |[],_,_=>rfl
 | (n,v)::r,m,h=>by
  unfold So;rw[nE λw b=>h w (GG _ b)];split
  .have:x≠n:=by rintro rfl;exact h v GR
   simp[this]
  .rfl
theorem nC{a:Str->Option Pl}{x:Str}:∀{binds:List (Str×GM)}{m:Str->Option GM},(∀v,(x,v) ∉ binds)->Sq a binds m x=m x
 |[],_,_=>rfl
 | (n,v)::r,m,h=>by
  unfold Sq;rw[nC λw b=>h w (GG _ b)];split
  .rfl
  .have:x≠n:=by rintro rfl;exact h v GR
   simp[this]
theorem nB{a:Str->Option Pl}{x:Str}{v:GM}:∀{P:List Str}{b:List GM}{i:Nat}{m:Str->Option GM},P.Nodup->P[i]?=some x->b[i]?=some v->a x=some .local->
  So a (P.zip b) m x=some v
 |[],_,_,_,_,h,_,_=>by simp at h
 |_::_,[],_,_,_,_,h,_=>by simp at h
 |p::P,w::b,0,m,nd,h1,h2,hk=>by
  simp at h1 h2;subst h1;subst h2;show So a ((p,w)::P.zip b) m p=_;unfold So;rw[nE λv c=>(I0.mp nd).1 (ON c).1,if_pos hk];simp
 |p::P,w::b,i+1,m,nd,h1,h2,hk=>by
  show So a ((p,w)::P.zip b) m x=_;unfold So;exact nB (i:=i) (I0.mp nd).2 (by simpa using h1) (by simpa using h2) hk
theorem oa{a:Str->Option Pl}{x:Str}{v:GM}:∀{P:List Str}{b:List GM}{i:Nat}{m:Str->Option GM},P.Nodup->P[i]?=some x->b[i]?=some v->a x≠some .local->
  Sq a (P.zip b) m x=some v
 |[],_,_,_,_,h,_,_=>by simp at h
 |_::_,[],_,_,_,_,h,_=>by simp at h
 |p::P,w::b,0,m,nd,h1,h2,hk=>by
  simp at h1 h2;subst h1;subst h2;show Sq a ((p,w)::P.zip b) m p=_;unfold Sq;rw[nC λv c=>(I0.mp nd).1 (ON c).1,if_neg hk];simp
 |p::P,w::b,i+1,m,nd,h1,h2,hk=>by
  show Sq a ((p,w)::P.zip b) m x=_;unfold Sq;exact oa (i:=i) (I0.mp nd).2 (by simpa using h1) (by simpa using h2) hk
noncomputable def start(N:List Str)(a:List V):St:=a.map some++HJ (N.length-a.length) none
noncomputable def eS(CX:CXT)(P:GX)(w:HF)(K:GE)(mg:Str->Option GM)(base:Jx)(N:List Str)(c:Str)(d:PL)(f:Hc)(b:GM)(A:HM)(outer:List Env)(s:GP)(H:Hp)(E:XK):Cx where
 prog:=P
 w:=w
 K:=K
 mg:=mg
 base:=base
 A:=A.deeper (MN c d s.heap.objs.size f b)
 N:=N
 s₀:=s
 H₀:=H
 env:=MN c d s.heap.objs.size f b
 outer:=outer
 stack:=MN c d s.heap.objs.size f b::outer
 ex:=[]
 calm:=true
 fn:=λ_=>true
 pn:=[]
 xe:=λe h=>Ht (Hr P w) (A.deeper (MN c d s.heap.objs.size f b)) (leaving (MN c d s.heap.objs.size f b) e) (λ_ a=>CX outer H s E e a) (λg a=>CX outer H s E g a) h
theorem qs{a:PL}{n:Nat}{x:Str}(h:a.names.lookup x=some .cell):∃c,(Q6 n a.names []).lookup x=some c:=by
 have q:=Mt a.names n [] (.inl h);exact Jk.mp q
theorem wM{CX:CXT}{P:GX}{w:HF}{K:GE}{J:Str->Option GM}{j:Jx}{N ps:List Str}{I:Str}{l:PL}{f:Hc}{D:GM}{A:HM}{d:List Env}{s L:GP}{H:Hp}{E:XK}{us:List GM}{m:List V}
  (S:ay N ps l) (hd:A.handled=none) (e0:A6 P w K J j A d s H) (hl:m.length=ps.length) (r:aZ m us)
  (x:InCallC s s.heap.objs.size (So (MN I l s.heap.objs.size f D).kindOf (ps.zip us) λ_=>none) (Q6 (s.heap.objs.size+1) l.names []) (Sq (MN I l s.heap.objs.size f D).kindOf (ps.zip us) λ_=>none) L):
  Inv (eS CX P w K J j N I l f D A d s H E) [] (start N m) H L:=by
 have U:ps.length<=N.length:=by have:=congrArg M9 S.pre;rw[K8]at this;lia
 obtain⟨G,T,rfl,M⟩:=x.done;have t:∀b:Hc,b ∉ (eS CX P w K J j N I l f D A d s H E).ex:=λb z=>absurd (show b∈([]:List Hc) from z) (by simp)
 refine⟨⟨e0.mod,S.kind,rfl,rfl,GK _,λy z c G g=>?_,λy o=>?_,λy c _ h=>?_,λ_=>hd,Around.frames_deeper e0.frames,.inr ⟨rfl,rfl⟩,λb z=>absurd z (t b),e0.bs,e0.bsz,λb _ _=>t b,λb z=>absurd z (t b),e0.funs,e0.frf⟩,
  rfl,e0.bare,Un.kept M,⟨_,x.toInCall.ns,λi y v G g W=>?_⟩,λy c h=>⟨_,x.cell y c h⟩,e0.hok.fresh (GK _),λy c h=>?_,λp C=>absurd (show p∈([]:List (Hc×Obj)) from C) (by simp),e0.hok.kept M,?_⟩
 .exact name_of_addr x.apart (Jh G) (Jh g)
 .have o:l.names.lookup y=some .cell\/l.names.lookup y=some .free:=o;rcases o with o |o
  .exact qs o
  .exact absurd rfl (S.nofree _ (Jh o))
 .exact Hd (x.above y c (Jh h))
 .have F:i<m.length:=by
   unfold start at g;by_cases F:i<m.length
   .exact F
   .rw[Hj (by simpa using F)]at g
    rw[JX]at g;split at g <;>cases g
  have R:m[i]?=some v:=by
   unfold start at g;rw[Hg (by simpa using F),GN]at g
   cases e:m[i]? with
   |none=>rw[e]at g;cases g
   |some a=>rw[e]at g;cases g;rfl
  obtain⟨u,O,Q⟩:=r.get R
  have C:ps[i]?=some y:=by
   rw[<-S.pre,Jl (by lia)];exact G
  have B:ps.Nodup:=by rw[<-S.pre];exact S.nd.sublist (NF _ _)
  refine⟨u,Q,?_⟩;rcases S.par y (Hb C) with k |k
  .exact .inl ⟨k,nB B C O k⟩
  .obtain⟨c,e⟩:=qs (n:=s.heap.objs.size+1) k;refine .inr ⟨.inl k,c,e,?_⟩;have q:=x.cell y c e;rw[oa B C O (by show l.names.lookup y≠_;rw[k];decide)]at q
   exact q
 .exact e0.hok.fresh (Hd (x.above y c (Jh h)))
 .unfold start;show _=N.length;rw[He,GD,Jm];lia
theorem Cz{CX:CXT}{P:GX}{w:HF}{K:GE}{B:Str->Option GM}{d:Jx}{k:Nat}{f:Hc}{Z j:Str}{UD:Arguments}{M:List Ki}{g:PL}{Y O X pm c R oc:GM}{an od:Option Hc}
  {Um:Array (Option GM)}{N ps:List Str}{sp:Sp} (lk:K.lookup f=some ⟨oc,od,.func (J0 Z j UD M g Y O X pm an c R),Um⟩) (TX:MJ K c j=true) (S:ay N ps g)
  (len:∀h H Q E,sp h H Q E->h.length=ps.length)
  (TH:∀(A:HM) (a:List Env) (s:GP) (H:Hp) (h:List V) (Q:VK) (E:XK),cZ k (A.deeper (MN j g s.heap.objs.size f c))->sp h H Q E->
   ∃t,PSs (eS CX P w K B d N j g f c A a s H E) M t/\t {nx:=λ_ i=>Q .non i,rt:=Q } (start N h) H):
  c_ P w K B d CX (k+1) f (J0 Z j UD M g Y O X pm an c R) ps sp:=by
 refine⟨len,λA a s H args us h Q E F p hb r U=>?_⟩;have hl:=len _ _ _ _ U;have KX:K.In s.heap:=p.mod.kin.keeps λb o e=>(p.bs b o e).1;have L:s.heap.NoLimit:=p.mod.nolimit.keeps λb o e=>(p.bs b o e).1
 have l:∀y∈ps.zip us,g.names.lookup y.1=some .local\/(g.names.lookup y.1=some .cell/\((Q6 (s.heap.objs.size+1) g.names []).lookup y.1).isSome=true):=λ⟨n,v⟩ hy=>by
  rcases S.par n (ON hy).1 with q |q
  .exact .inl q
  .exact .inr ⟨q,Mt _ _ _ (.inl q)⟩
 refine codeAny_call_function F.depth (KX _ _ lk) rfl S.co S.gen rfl (PySem.W.codeRec_of KX TX) (hb _ _ _ _ ?_);refine wpAny_newFunctionEnv_cells S.kind l λenv he T x=>?_;subst he;refine⟨L.keeps x.toInCall.keep,codeAny_func ?_⟩;obtain⟨t,ht,hq⟩:=TH A a s H h Q E (F.deeper _) U;have I:Inv (eS CX P w K B d N j g f c A a s H E) [] (start N h) H T:=wM S F.hd p hl r x;refine KJ (ht [] T (start N h) H _ I hq) (λfl G m=>?_) λe G m=>m
 have z:∀{C:St}{i:Hp}{v:V}{u:GM},Inv (eS CX P w K B d N j g f c A a s H E) [] C i G->ba v u->Q v i->CE a P w H s Q u G:=
  λ{C i v u} J D q=>⟨v,i,J.os,J.bare,J.base,J.hok,D,q⟩
 cases fl with
 |ret u=>
  obtain⟨v,C,i,J,D,q⟩:=m;exact z J D q
 |next=>
  obtain⟨C,i,J,q⟩:=m;exact z (v:=V.non) (u:=Lb) J rfl q
 |brk=>
  obtain⟨_,_,_,q⟩:=m;exact False.elim q
 |cont=>
  obtain⟨_,_,_,q⟩:=m;exact False.elim q
section
variable {X:Cx}{x:Str}{p pos:Pos}{e:Expr}{t:TA}{id T:String}{r:List V→Hp→VK→Prop}
noncomputable def tCB(r:List V->Hp->VK->Prop)(t:TA):TE:=λc H Q=>t c H λb a=>r b a Q
theorem mO(v:cA X (.builtin id) r)(k:Gl X x)(j:X.mg x=none)(g:IL x=some (.builtin id))(l:PA X (e::es) t)(q:autoParam (x≠"__name__") v0)(n:autoParam ((x==("__debug__":Str))=false) v0)
  (he:autoParam (GO (e::es) X.env=(false,Kg e X.env)::GO es X.env) w4) (Td:autoParam ((JZ pos (GO es X.env)).any (·.1)=false) w4):PE X (.Call (.Name x p) (e::es) [] pos) (tCB r t):=by
 intro a s b H Q I h;refine Iq (cU I k j g ?_ q n);exact PyProof.Rows.callWith_builtin1 (thn (l pos a s b H _ I h) λo c ⟨d,u,f,m,i⟩=>v a c b u d o Q f m i) he Td
theorem nM(v:cA X (.type T) r)(k:Gl X x)(j:X.mg x=none)(g:IL x=some (.type T))(l:PA X (e::es) t)(q:autoParam (x≠"__name__") v0)(n:autoParam ((x==("__debug__":Str))=false) v0)
  (he:autoParam (GO (e::es) X.env=(false,Kg e X.env)::GO es X.env) w4) (Td:autoParam ((JZ pos (GO es X.env)).any (·.1)=false) w4):PE X (.Call (.Name x p) (e::es) [] pos) (tCB r t):=by
 intro a s b H Q I h;refine Iq (cU I k j g ?_ q n);exact PyProof.Rows.callWith_type1 (thn (l pos a s b H _ I h) λo c ⟨d,u,f,m,i⟩=>v a c b u d o Q f m i) he Td
end
end L2
namespace HT
open PySem PyProof.Rows
section
variable {prog:GX}{w:HF}{A:HM}{E:GM→GP→Prop}{s:GP}
noncomputable def sIx(n d:Nat):Option Int->Nat
 |none=>d
 |some v=>if v<0 then (v+(n:Int)).toNat else min v.toNat n
end
end HT
namespace L2
open PySem PySem.Spec PyProof.Rows
noncomputable abbrev TO:=St->Hp->(Option Int->Hp->Prop)->Prop
def PO(X:Cx)(e:Option Expr)(t:TO):Prop:=
 ∀(c:List (Hc×Obj)) (s:GP) (a:St) (H:Hp) (Q:Option Int->Hp->Prop),Inv X c a H s->t a H Q->
  Ht (Hr X.prog X.w) X.A (evalPart e X.env) (λu d=>∃o b,Inv X c a b d/\IsPart u o/\Q o b) X.xe s
noncomputable def Bx:TO:=λ_ H Q=>Q none H
noncomputable def E1(t:TE):TO:=λb H Q=>t b H λx a=>∃i,x=.int i/\Q (some i) a
section
variable {X:Cx}{e:Expr}{te:TE}{lo hi:Option Expr}{tl th:TO}{pos p2:Pos}
theorem BA:PO X none Bx:=by
 intro a s b H Q I h;rw[P6];exact GH ⟨none,H,I,.none,h⟩
theorem B9(h:PE X e te):PO X (some e) (E1 te):=by
 intro d s j H Q I c;rw[evalPart_some];refine thn (h d s j H _ I c) λu l k=>?_;obtain⟨x,g,a,f,b⟩:=k;obtain⟨i,rfl,q⟩:=b;obtain⟨t,rfl⟩:=f;exact⟨some i,g,a,.int i t,q⟩
def SlR(X:Cx)(r:V->Option Int->Option Int->Hp->VK->Prop):Prop:=
 ∀(a:List (Hc×Obj)) (s:GP) (b:St) (H:Hp) (x:V) (v d e:GM) (lo hi:Option Int) (c:Hc) (Q:VK),Inv X a b H s->ba x v->s.heap.IsSliceOf c d e .none->IsPart d lo->IsPart e hi->r x lo hi H Q->
  ∃T f,Qo (.type T) "__getitem__"=pure (some (.builtin f))∧s.TypeIs v T∧Ht (Hr X.prog X.w) X.A (getItem v (.ref c)) (EP X a b Q) X.xe s
noncomputable def tSl(r:V->Option Int->Option Int->Hp->VK->Prop)(te:TE)(tl th:TO):TE:=λa H Q=>te a H λx c=>tl a c λl d=>th a d λu b=>r x l u b Q
theorem Ae{r:V->Option Int->Option Int->Hp->VK->Prop}(F:SlR X r)(B:PE X e te)(D:PO X lo tl)(O:PO X hi th):PE X (.Subscript e (.Slice lo hi none p2) pos) (tSl r te tl th):=by
 intro c s d H Q I h;refine RJ (thn (B c s d H _ I h) λv n i=>?_);obtain⟨x,N,t,G,z⟩:=i;refine wpAny_Slice (thn (D c n d N _ t z) λg m ⟨l,J,C,y,k⟩=>thn (O c m d J _ C k) λf a i=>?_);obtain⟨u,j,p,pu,o⟩:=i;rw[P6];refine GH ?_;have M:Inv X c d j {a with heap:=a.heap.push {cls:=.type "slice",data:=.fields #[g,f,.none] } }:=p.kept (t':=a.toks) λb P q=>GI _ q;obtain⟨T,R,L,K,E⟩:=F c {a with heap:=a.heap.push {cls:=.type "slice",data:=.fields #[g,f,.none] } } d j x v g f l u a.heap.objs.size Q M G (P7 ..) y pu o;show Ht (Hr X.prog X.w) X.A (subscriptTail e (.Slice lo hi none p2) v (.ref a.heap.objs.size)) (EP X c d Q) X.xe {a with heap:=a.heap.push {cls:=.type "slice",data:=.fields #[g,f,.none] } };exact tail_any (ops:=[.ref a.heap.objs.size,v]) K L E (by with_unfolding_all rfl)
noncomputable def vO(xs:List V)(lo hi:Option Int):List V:=(xs.drop (HT.sIx xs.length 0 lo)).take (HT.sIx xs.length xs.length hi-HT.sIx xs.length 0 lo)
theorem q_(xs:List V)(lo hi:Option Int):(vO xs lo hi).length<=xs.length:=by
 unfold vO;rw[K8,K9];lia
end
noncomputable def ixN(n:Nat)(i:Int):Option Nat:=if 0<=i then (if i<n then some i.toNat else none) else if -(n:Int)<=i then some (i+n).toNat else none
noncomputable def atI{a:Type}(xs:List a)(i:Int):Option a:=(ixN xs.length i).bind λj=>xs[j]?
theorem A4{n:Nat}{i:Int}{j:Nat}(h:ixN n i=some j):seqIndex? i n=some j/\j<n/\-(n:Int)<=i/\i<n:=by
 unfold ixN at h;by_cases b:0<=i
 .rw[if_pos b]at h;by_cases a:i<n
  .rw[if_pos a]at h;have e:i.toNat=j:=HK h;exact⟨by rw[seqIndex_of b a,e],by lia,by lia,a⟩
  .rw[if_neg a]at h;cases h
 .rw[if_neg b]at h;by_cases a:-(n:Int)<=i
  .rw[if_pos a]at h;have e:(i+n).toNat=j:=HK h;exact⟨by rw[seqIndex_neg (by lia) a,e],by lia,a,by lia⟩
  .rw[if_neg a]at h;cases h
theorem vf{a:Type}{xs:List a}{i:Int}{v:a}(h:atI xs i=some v):∃j,seqIndex? i xs.length=some j/\xs[j]?=some v/\j<xs.length/\-(xs.length:Int)<=i/\i<xs.length:=by
 unfold atI at h;cases e:ixN xs.length i with
 |none=>rw[e]at h;cases h
 |some j=>
  rw[e]at h;obtain⟨c,b,f,d⟩:=A4 e;exact⟨j,c,h,b,f,d⟩
theorem uN{a:Type}{xs:List a}{j:Nat}{v:a}(h:xs[j]?=some v):atI xs (j:Int)=some v:=by
 have b:j<xs.length:=(GV.mp h).1
 have e:ixN xs.length (j:Int)=some j:=by
  unfold ixN;rw[if_pos (by lia),if_pos (by lia)];simp
 unfold atI;rw[e];exact h
def oK(b:Expr):Prop:=∀o i,subscripted b false o i=operate [o,i] (getItem o i)
def IxR(X:Cx)(r:R2):Prop:=
 ∀(d a:Expr) (b:List (Hc×Obj)) (s:GP) (c:St) (H:Hp) (x y:V) (v u:GM) (Q:VK),Inv X b c H s->ba x v->ba y u->r x y H Q->
  subscripted a false v u=operate [v,u] (getItem v u)->Ht (Hr X.prog X.w) X.A (subscriptTail d a v u) (EP X b c Q) X.xe s
def MtR(X:Cx)(e:String)(r:V->List V->Hp->VK->Prop):Prop:=
 ∀(b:List (Hc×Obj)) (s:GP) (c:St) (H:Hp) (x:V) (d:List V) (v:GM) (a:List GM) (Q:VK),Inv X b c H s->ba x v->aZ d a->r x d H Q->
  Ht (Hr X.prog X.w) X.A (call (.builtin e) (v::a)) (EP X b c Q) X.xe s
section
variable {X:Cx}{a b:Expr}{ta tb:TE}{pos:Pos}
theorem IxR.or{r d:R2}(h:IxR X r)(h':IxR X d):IxR X (λx y H Q=>r x y H Q\/d x y H Q):=by
 intro e a b s i H x y v u Q I c g q f;rcases q with q |q
 .exact h e a b s i H x y v u Q I c g q f
 .exact h' e a b s i H x y v u Q I c g q f
theorem Cl{r:R2}(f:IxR X r)(e:PE X a ta)(j:PE X b tb)(hs:oK b):PE X (.Subscript a b pos) (tOp r ta tb):=by
 intro g s m H Q I h;exact RJ (Em e j I h λv u c x y i d k l q=>f a b g c m i x y v u Q d k l q (hs _ _))
noncomputable def Gz(K:GE):R2:=λx y H Q=>∃p a i v,x=.ref p/\y=.int i/\SqL K H p a/\atI a i=some v/\Q v H
noncomputable def Gs(K:GE):R2:=λx y H Q=>∃p a i v,x=.ref p/\y=.int i/\SqT K H p a/\atI a i=some v/\Q v H
theorem tZ:IxR X (Gz X.K):=by
 intro O d f s l H x y v u Q I E G h k;obtain⟨p,L,i,z,rfl,rfl,F,o,q⟩:=h;cases E;obtain⟨t,rfl⟩:=G;obtain⟨its,r,c,M⟩:=I.list F;obtain⟨j,b,C,P,A,J⟩:=vf o;obtain⟨w,g,n⟩:=r.get C;have B:=r.length;have N:=rV;have a:EP X f l Q w s:=⟨z,H,I,n,q⟩;by_cases m:0<=i
 .have e:i.toNat=j:=by
   rw[seqIndex_of m J]at b;exact HK b
  exact item_listR c.isList m (by lia) (by rw[e];simpa using g) a k
 .have e:(i+(its.toArray.size:Int)).toNat=j:=by
   rw[seqIndex_neg (by lia) A]at b
   rw[G5,<-B];exact HK b
  exact Oy (x:=w) c.isList.typeIs slot_list_getitem.lookup
   (wpAny_getItem_list_neg (Q:=λr D=>r=w/\EP X f l Q r D) c.isList (by lia) (by rw[G5] <;>lia) (by lia) (by rw[e];simpa using g) ⟨rfl,a⟩) k
theorem Dx:IxR X (Gs X.K):=by
 intro L b d s e H x y v u Q I A D h C;obtain⟨p,E,i,z,rfl,rfl,B,g,q⟩:=h;cases A;obtain⟨t,rfl⟩:=D;obtain⟨its,r,c,G⟩:=I.tuple B;obtain⟨j,m,l,N,F,M⟩:=vf g;obtain⟨w,o,f⟩:=r.get l;have k:=r.length;have J:=rV;have a:EP X d e Q w s:=⟨z,H,I,f,q⟩
 exact Oy (x:=w) c.typeIs slot_tuple_getitem.lookup
  (getItem_tuple (j:=j) (Q:=λr n=>r=w/\EP X d e Q r n) c (by lia) (by lia) (by rw[G5,<-k];exact m) (by simpa using o) ⟨rfl,a⟩) C
theorem o_(a b:Option Int)(n:Nat):(Mz a b none n).1=((HT.sIx n 0 a:Nat):Int)/\(Mz a b none n).2.1=((HT.sIx n n b:Nat):Int)/\(Mz a b none n).2.2=1:=by
 refine⟨?_,?_,rfl⟩
 .cases a with
  |none=>simp[Mz,HT.sIx]
  |some i=>
   simp only[Mz,HT.sIx,Og,show (1:Int) >0 by decide,if_true];by_cases h:i<0
   .simp only[h,if_true] <;>lia
   .simp only[h,if_false] <;>lia
 .cases b with
  |none=>simp[Mz,HT.sIx]
  |some i=>
   simp only[Mz,HT.sIx,Og,show (1:Int) >0 by decide,if_true];by_cases h:i<0
   .simp only[h,if_true] <;>lia
   .simp only[h,if_false] <;>lia
theorem m8(a:List GM)(b c:Option Int):slicePick a.toArray b c none=((a.drop (HT.sIx a.length 0 b)).take (HT.sIx a.length a.length c-HT.sIx a.length 0 b)).toArray:=by
 obtain⟨e,d,f⟩:=o_ b c a.toArray.size;unfold slicePick;rw[e,d,f];simp only[sliceRange_one,pick_run,G5] <;>rfl
def Gk(K:GE):V->Option Int->Option Int->Hp->VK->Prop:=λx c d H Q=>∃a b,x=.ref a/\SqL K H a b/\∀p,H p=none->Q (.ref p) (upd H p (.lst (vO b c d)))
theorem BQ:SlR X (Gk X.K):=by
 intro t s y H x v w n d e u Q I k l g pu h;obtain⟨a,c,rfl,m,q⟩:=h;cases k;obtain⟨its,r,f,j⟩:=I.list m;have i:=r.length;refine⟨"list",_,slot_list_getitem.lookup,f.isList.typeIs,?_⟩;refine NG f.isList l g pu .none (by simp) ?_ (by rw[G5] <;>lia);rw[m8,<-i];refine⟨.ref s.heap.objs.size,_,I.laid (t':=s.toks) (o:=.lst (vO c d e)) (λb p q=>GI _ q) (GK _) ?_,rfl,q _ (I.hok.fresh (GK _))⟩;exact⟨HB (q_ c d e) j,_,0,(r.drop (HT.sIx c.length 0 d)).take (HT.sIx c.length c.length e-HT.sIx c.length 0 d),GZ _ rfl⟩
noncomputable def il:V->Bool
 | .non=>true
 | .bl _=>true
 | .int _=>true
 | .str _=>true
 |_=>false
noncomputable def eqV:V->V->Bool
 | .non,.non=>true
 | .bl a,.bl b=>a==b
 | .bl a,.int b=>(if a then 1 else 0)==b
 | .int a,.bl b=>a==(if b then 1 else 0)
 | .int a,.int b=>a==b
 | .str a,.str b=>a==b
 |_,_=>false
theorem Di{A:HM}{s:GP}{y x:V}{u v:GM}(f:ba y u)(c:ba x v)(g:il y=true)(e:il x=true):SeqAt.EqAt A s u v (eqV y x):=by
 cases y with
 |non=>
  cases f;cases x with
  |non=>cases c;exact SeqAt.EqAt.same _
  |bl b=>cases c;exact SeqAt.EqAt.none_bool b
  |int b=>obtain⟨t,rfl⟩:=c;exact SeqAt.EqAt.none_int b t
  |str b=>obtain⟨t,rfl⟩:=c;exact SeqAt.EqAt.none_str b t
  |_=>exact absurd (show false=true from e) Io
 |bl a=>
  cases f;cases x with
  |non=>cases c;exact SeqAt.EqAt.bool_none a
  |bl b=>cases c;exact SeqAt.EqAt.bool_bool a b
  |int b=>obtain⟨t,rfl⟩:=c;exact SeqAt.EqAt.bool_int a b t
  |str b=>obtain⟨t,rfl⟩:=c;exact SeqAt.EqAt.bool_str a b t
  |_=>exact absurd (show false=true from e) Io
 |int a=>
  obtain⟨d,rfl⟩:=f;cases x with
  |non=>cases c;exact SeqAt.EqAt.int_none a d
  |bl b=>cases c;exact SeqAt.EqAt.int_bool a d b
  |int b=>obtain⟨t,rfl⟩:=c;exact SeqAt.EqAt.int_int a d b t
  |str b=>obtain⟨t,rfl⟩:=c;exact SeqAt.EqAt.int_str a d b t
  |_=>exact absurd (show false=true from e) Io
 |str a=>
  obtain⟨d,rfl⟩:=f;cases x with
  |non=>cases c;exact SeqAt.EqAt.str_none a d
  |bl b=>cases c;exact SeqAt.EqAt.str_bool a d b
  |int b=>obtain⟨t,rfl⟩:=c;exact SeqAt.EqAt.str_int a d b t
  |str b=>obtain⟨t,rfl⟩:=c;exact SeqAt.EqAt.str_str a d b t
  |_=>exact absurd (show false=true from e) Io
 |_=>exact absurd (show false=true from g) Io
noncomputable def eqU(x:V)(u:GM):Bool:=match u with
 | .none=>eqV .non x
 | .bool b=>eqV (.bl b) x
 | .int i _=>eqV (.int i) x
 | .str z _=>eqV (.str z) x
 |_=>false
theorem xU{x y:V}{u:GM}(r:ba y u)(f:il y=true):eqU x u=eqV y x:=by
 cases y with
 |non=>cases r;rfl
 |bl b=>cases r;rfl
 |int i=>obtain⟨t,rfl⟩:=r;rfl
 |str z=>obtain⟨t,rfl⟩:=r;rfl
 |_=>exact absurd (show false=true from f) Io
theorem oH{x:V}:∀{a:List V}{b:List GM},aZ a b->a.all il=true->b.any (eqU x)=a.any λy=>eqV y x
 |_,_,.nil,_=>rfl
 |y::a,u::b,.cons r t,f=>by
  rw[M4,Ic]at f;rw[RR,RR,xU r f.1,oH t f.2]
theorem ly{A:HM}{s:GP}{x:V}{v:GM}(e:ba x v)(d:il x=true):∀{c:List V}{b:List GM},aZ c b->c.all il=true->∀u∈b,SeqAt.EqAt A s u v (eqU x u)
 |_,_,.nil,_=>λu a=>by cases a
 |y::c,u::b,.cons r t,f=>λg a=>by
  rw[M4,Ic]at f;rcases GF.mp a with rfl |a
  .rw[xU r f.1];exact Di r e f.1 d
  .exact ly e d t f.2 g a
noncomputable def inV(x:V)(xs:List V):Bool:=xs.any λy=>eqV y x
noncomputable def rIn(K:GE)(b:Bool):R2:=λx y H Q=>∃p a,y=.ref p/\(SqL K H p a\/SqT K H p a)/\il x=true/\a.all il=true/\Q (.bl (if b then !inV x a else inV x a)) H
theorem wu:OpR X (Iw .In) (rIn X.K false):=by
 intro j s k H x y v u Q I e g h;obtain⟨p,i,rfl,a,d,fs,q⟩:=h;cases g;rcases a with a |a
 .obtain⟨its,r,b,f⟩:=I.list a;refine SeqAt.in_listAt (eqU x) b.isList (λw c=>ly e d r fs w (by simpa using c)) ⟨.bl _,H,I,rfl,?_⟩;rw[show its.toArray.any (eqU x)=its.any (eqU x) by simp,oH r fs];exact q
 .obtain⟨its,r,b,f⟩:=I.tuple a;refine SeqAt.in_tupleAt (eqU x) b (λw c=>ly e d r fs w (by simpa using c)) ⟨.bl _,H,I,rfl,?_⟩;rw[show its.toArray.any (eqU x)=its.any (eqU x) by simp,oH r fs];exact q
theorem i9:cA X (.builtin "len") (λf H Q=>∃p a,f=[.ref p]∧(SqL X.K H p a∨SqT X.K H p a)∧Q (.int a.length) H):=by
 intro j s m H f k Q I r h;obtain⟨p,a,rfl,b,q⟩:=h;obtain⟨u,rfl,i⟩:=dR r;cases i;have l:=rV;rcases b with b |b
 .obtain⟨its,e,c,g⟩:=I.list b;have d:=e.length;exact Calls.call_len_list c.isList (by simp only[G5] <;>lia) ⟨.int a.length,H,I.tok _,⟨s.toks+1,by rw[G5,d]⟩,q⟩
 .obtain⟨its,e,c,g⟩:=I.tuple b;have d:=e.length;exact len_tuple c (by simp only[G5] <;>lia) ⟨.int a.length,H,I.tok _,⟨s.toks+1,by rw[G5,d]⟩,q⟩
theorem oz:cA X (.type "list") (λy H Q=>∃p c,y=[.ref p]∧(SqL X.K H p c∨SqT X.K H p c)∧∀l,H l=none→Q (.ref l) (upd H l (.lst c))):=by
 intro A s D H y E Q I r h;obtain⟨p,c,rfl,k,q⟩:=h;obtain⟨u,rfl,C⟩:=dR r;cases C
 have g:∀(its:List GM),aZ c its->c.length<=sizeLine->∀(a:Jx) (d:Nat),(∀b z,s.heap.get? b=some z->a.get? b=some z)->
   a.get? s.heap.objs.size=some {cls:=.type "list",dict:=none,data:=.seq its.toArray d,slots:=#[] }→EP X A D Q (.ref s.heap.objs.size) {s with heap:=a }:=λits f j a d i e=>
  ⟨.ref s.heap.objs.size,_,I.laid (t':=s.toks) i (GK _) (show cM X.prog X.w _ a _ (.lst c) from ⟨j,its,d,f,e⟩),rfl,q _ (I.hok.fresh (GK _))⟩
 rcases k with k |k
 .obtain⟨its,f,m,j⟩:=I.list k;have B:=f.length;obtain⟨o,v,x,n,t⟩:=m.isList;exact call_list_seq p (.inl rfl) v x t (λa d i e=>g its f j a d i e) (by simp only[G5] <;>omega)
 .obtain⟨its,f,m,j⟩:=I.tuple k;have B:=f.length;obtain⟨o,v,x,n,t⟩:=m;exact call_list_seq p (.inr rfl) v x t (λa d i e=>g its f j a d i e) (by simp only[G5] <;>omega)
theorem m7:cA X (.type "tuple") (λj H Q=>∃p a,j=[.ref p]∧((SqL X.K H p a∧∀l,H l=none→Q (.ref l) (upd H l (.tup a)))∨(SqT X.K H p a∧Q (.ref p) H))):=by
 intro k s n H j z Q I r h;obtain⟨p,a,rfl,h⟩:=h;obtain⟨u,rfl,x⟩:=dR r;cases x;rcases h with ⟨f,q⟩ |⟨f,q⟩
 .obtain⟨its,g,d,m⟩:=I.list f;have y:=g.length;refine call_tuple_list d.isList (λc v=>?_) (by simp only[G5] <;>lia);have i:Inv X k n H {s with heap:=c }:=I.kept (t':=s.toks) v
  have t:Inv X k n (upd H c.objs.size (.tup a)) {s with heap:=c.push {cls:=.type "tuple",data:=.seq its.toArray } }:=
   i.laid (t':=s.toks) (λb o e=>GI _ e) (GK _) (show cM X.prog X.w _ _ _ (.tup a) from ⟨m,its,g,IsTup.new _ _⟩)
  exact⟨.ref c.objs.size,_,t,rfl,q _ (i.hok.fresh (GK _))⟩
 .obtain⟨its,g,d,m⟩:=I.tuple f;exact call_tuple_same d ⟨.ref p,H,I,rfl,q⟩
def tyV(K:GE)(T:String)(x:V)(H:Hp):Prop:=match x with
 | .str _=>T="str"
 | .int _=>T="int"
 | .ref p=>(T="list"∧∃b,SqL K H p b)∨(T="tuple"∧∃o,K.lookup p=some o∧o.cls=.type "tuple"∧o.dict=none)∨
   (T="dict"∧((∃a,H p=some (.dK a))∨∃a,H p=some (.dT a)))∨(T="set"∧∃S n,H p=some (.set S n))
 |_=>False
theorem zi{l:List (Hc×Obj)}{w:St}{H:Hp}{s:GP}{T:String}{x:V}{v:GM}(I:Inv X l w H s)(r:ba x v)(f:tyV X.K T x H):
  s.TypeIs v T/\∀a,v=.ref a->∃k,s.heap.get? a=some k/\k.dict=none:=by
 cases x with
 |str z=>
  obtain⟨t,rfl⟩:=r;cases (show T="str" from f);exact⟨typeIs_str s z t,λ_ e=>nomatch e⟩
 |int i=>
  obtain⟨t,rfl⟩:=r;cases (show T="int" from f);exact⟨L8 s i t,λ_ e=>nomatch e⟩
 |ref p=>
  cases r;rcases f with ⟨rfl,y,m⟩ |⟨rfl,o,b,u,g⟩ |⟨rfl,b⟩ |⟨rfl,S,n,b⟩
  .obtain⟨its,_,j,_⟩:=I.list m;refine⟨j.isList.typeIs,λa e=>?_⟩;cases e;obtain⟨o,n,e,c,g,_⟩:=j;exact⟨o,e,g⟩
  .refine⟨⟨o,I.kIn p o b,u⟩,λa e=>?_⟩;cases e;exact⟨o,I.kIn _ o b,g⟩
  .have z:∃o,s.heap.get? p=some o/\o.ExactDict:=by
    rcases b with ⟨q,b⟩ |⟨q,b⟩
    .obtain⟨_,_,_,_,o,_,_,e,d,_⟩:=I.hok p _ b;exact⟨o,e,d⟩
    .obtain⟨_,_,_,_,o,_,_,e,d,_⟩:=I.hok p _ b;exact⟨o,e,d⟩
   obtain⟨o,e,d⟩:=z;refine⟨⟨o,e,d.1⟩,λa h=>?_⟩;cases h;exact⟨o,e,d.2.1⟩
  .obtain⟨o,_,_,_,e,d,_⟩:=I.hok p _ b;refine⟨⟨o,e,d.1⟩,λa h=>?_⟩;cases h;exact⟨o,e,d.2.1⟩
 |_=>exact False.elim f
noncomputable def F8(K:GE)(T:String)(r:V->List V->Hp->VK->Prop)(b:TE):TE:=λc H Q=>b c H λx a=>tyV K T x a/\r x [] a Q
noncomputable def tBM(K:GE)(T:String)(r:V->List V->Hp->VK->Prop)(c:TE)(t:TA):TE:=λb H Q=>c b H λx a=>tyV K T x a/\t b a λd e=>r x d e Q
variable {o e:Expr}{es:List Expr}{to:TE}{t:TA}{Tc:Str}{Te SU:Pos}{T id:String}{r:V→List V→Hp→VK→Prop}
theorem Ex(p:PlainAttrs T)(a:Slot T Tc id)(b:Sy (.builtin id)=pure (.type "method_descriptor"))(j:MtR X id r)(m:PE X o to)
  (Tg:autoParam (Ly o Tc X.env (Kg o X.env)=Kg o X.env) w4) (Th:autoParam ((Te.endLine==SU.line)=true) w4):PE X (.Call (.Attribute o Tc Te) [] [] SU) (F8 X.K T r to):=by
 intro d s f H Q I h;refine wpAny_Call_method0_late Tg Th (thn (m d s f H _ I h) λv g q=>?_);obtain⟨x,n,c,e,ty,i⟩:=q;obtain⟨l,k⟩:=zi c e ty;exact⟨T,id,p,a,b,l,k,Oz rfl (PySem.evalArgs_none (j d g f n x [] v [] Q c e .nil i))⟩
theorem u8(E:PlainAttrs T)(a:Slot T Tc id)(c:Sy (.builtin id)=pure (.type "method_descriptor"))(p:MtR X id r)(A:PE X o to)(u:PA X (e::es) t)
  (Tg:autoParam (Ly o Tc X.env (Kg o X.env)=Kg o X.env) w4)
  (Uk:autoParam (((JZ SU (GO (e::es) X.env)).all (λx=>!x.1) && (Q1 SU (N1 [] X.env)).all (λx=>x.1.isSome)
   && decide ((e::es).length+([]:List N2).length+(if ([]:List N2).isEmpty then 0 else 1)<30))=true) w4)
  (Th:autoParam ((Te.endLine==SU.line)=true) w4) (hs:autoParam (GO (e::es) X.env=(false,Kg e X.env)::GO es X.env) w4) (Tp:autoParam ((JZ SU (GO es X.env)).any (·.1)=false) w4):
  PE X (.Call (.Attribute o Tc Te) (e::es) [] SU) (tBM X.K T r to t):=by
 intro b s d H Q I h;refine wpAny_Call_method_late Tg Uk Th rfl (thn (A b s d H _ I h) λv l F=>?_);obtain⟨x,D,f,g,ty,n⟩:=F;obtain⟨y,w⟩:=zi f g ty;refine⟨T,id,E,a,c,y,w,?_⟩;have i:=u SU b l d D _ f n;rw[hs]at i |-;refine Oz (by show (false || (JZ SU (GO es X.env)).any (·.1))=false;rw[Tp] <;>rfl) (Po ?_)
 exact thn i λC k ⟨m,z,q,B,j⟩=>p b k d z x m v C Q q g B j
end
def MtM(X:Cx)(e:String)(r:V->List V->Hp->VK->Prop):Prop:=
 ∀(b:List (Hc×Obj)) (s:GP) (c:St) (H:Hp) (x:V) (d:List V) (v:GM) (a:List GM) (Q:VK),Inv X b c H s->ba x v->aZ d a->r x d H Q->
  Ht (Hr X.prog X.w) X.A (call (.builtin e) (v::a)) (EP X b c Q) X.xe s
theorem aZ.one:∀{x:V}{a:List GM},aZ [x] a->∃u,a=[u]/\ba x u
 |_,_,.cons r .nil=>⟨_,rfl,r⟩
theorem aZ.zero:∀{a:List GM},aZ [] a->a=[]
 |_,.nil=>rfl
theorem aZ.dropLast{xs:List V}{us:List GM}(h:aZ xs us):aZ xs.dropLast us.dropLast:=by
 induction h with
 |nil=>exact .nil
 |cons r t a=>
  cases t with
  |nil=>exact .nil
  |cons q b=>exact .cons r a
theorem aZ.rep{xs:List V}{us:List GM}(h:aZ xs us):∀k:Nat,aZ (HJ k xs).flatten (HJ k us).flatten
 |0=>.nil
 |k+1=>by
  rw[Ji,Ji,J6,J6];exact aZ.append h (aZ.rep h k)
theorem tQ{c:Type}(l:List c):l.eraseIdx (l.length-1)=l.dropLast:=by
 induction l with
 |nil=>rfl
 |cons a r d=>
  cases r with
  |nil=>rfl
  |cons b r=>
   have e:(a::b::r).length-1=((b::r).length-1)+1:=by
    have g:(a::b::r).length=r.length+2:=rfl;have f:(b::r).length=r.length+1:=rfl;lia
   rw[e,List.eraseIdx_cons_succ,d]
   all_goals rfl
theorem om(a:List GM):∀(k:Nat) (To:List GM),
  RK (λc b=>c++b) To.toArray (HJ k a.toArray)=(To++(HJ k a).flatten).toArray
 |0,To=>by simp
 |k+1,To=>by
  have e:To.toArray++a.toArray=(To++a).toArray:=by simp
  have d:(To++a)++(HJ k a).flatten=To++(HJ (k+1) a).flatten:=by
   rw[Ji,J6,G8]
  rw[<-d,<-om a k (To++a),<-e,Ji,I_]
section
variable {X:Cx}{SI:List (Hc×Obj)}{σ:St}{H:Hp}{s:GP}{l b:Hc}{xs ys zs:List V}
theorem Inv.lset{a its':List GM}{n:Nat}{f:Array GM->Array GM}{t':Nat}(I:Inv X SI σ H s)(c:H l=some (.lst xs))
  (e:s.heap.get? l=some {cls:=.type "list",data:=.seq a.toArray n }) (hf:f a.toArray=its'.toArray) (hv:aZ ys its') (hz:ys.length≤sizeLine):
  Inv X SI σ (upd H l (.lst ys)) {s with heap:=s.heap.update l (JE f),toks:=t' }:=by
 have q:=PySem.IsL.update e f;rw[hf]at q;refine I.write (x:=l) (e:=l) (by rw[c];exact trivial) (.inl rfl) (λg u d b=>(HH s.heap (JE f) (Ne.symm d)).trans b) ⟨_,q⟩ ?_
 exact⟨hz,its',_,hv,q⟩
theorem Inv.lnew{a:List GM}{t':Nat}(I:Inv X SI σ H s)(c:aZ ys a)(b:ys.length<=sizeLine):
  Inv X SI σ (upd H s.heap.objs.size (.lst ys)) {s with heap:=s.heap.push {cls:=.type "list",data:=.seq a.toArray },toks:=t' }:=
 I.laid (λ_ _ q=>GI _ q) (GK _) ⟨b,a,0,c,GZ _ rfl⟩
theorem Inv.fresh(I:Inv X SI σ H s):H s.heap.objs.size=none:=I.hok.fresh (GK _)
theorem Inv.lstM(I:Inv X SI σ H s)(a:H l=some (.lst xs)):xs.length≤sizeLine∧∃(its:List GM) (n:Nat),aZ xs its∧xs.length=its.length∧s.heap.get? l=some {cls:=.type "list",data:=.seq its.toArray n }:=by
 obtain⟨z,its,n,r,e⟩:=I.hok l _ a;exact⟨z,its,n,r,r.length,e⟩
theorem re{n:Nat}(h:n<=sizeLine):Builtin.List.listTooLong n=false:=by
 unfold Builtin.List.listTooLong;exact decide_eq_false (by lia)
end
section
variable {X:Cx}
def AM:V->List V->Hp->VK->Prop:=λx b H Q=>∃l a y,x=.ref l/\b=[y]/\H l=some (.lst a)/\a.length<sizeLine/\Q .non (upd H l (.lst (a++[y])))
theorem n_:MtM X "list.append" AM:=by
 intro i s m H x d v k Q I c b h;obtain⟨l,f,y,rfl,rfl,a,j,q⟩:=h;cases c;obtain⟨u,rfl,ru⟩:=b.one;obtain⟨z,its,n,r,g,e⟩:=I.lstM a;refine M8 F.slot_list_append ⟨_,e,rfl⟩ F.entry_list_append (F.args_list_append_2 _ _) (PySem.list_append l its.toArray n u (by rw[G5];lia)) ⟨e,?_⟩;refine⟨.non,_,I.lset (its':=its++[u]) a e (by simp) (r.append (.cons ru .nil)) ?_,rfl,q⟩;rw[He,OO];lia
def Bq:V->List V->Hp->VK->Prop:=λx d H Q=>∃l b a c,x=.ref l/\d=[.ref b]/\H l=some (.lst a)/\H b=some (.lst c)/\a.length+c.length<=sizeLine/\Q .non (upd H l (.lst (a++c)))
theorem wU:MtM X "list.extend" Bq:=by
 intro A s E H x t v D Q I k d h;obtain⟨l,b,w,G,rfl,rfl,c,o,B,q⟩:=h;cases k;obtain⟨u,rfl,ru⟩:=d.one;cases ru;obtain⟨z,its,n,r,y,e⟩:=I.lstM c;obtain⟨C,a,f,j,m,p⟩:=I.lstM o;have i:its.toArray.size+a.toArray.size<=sizeLine:=by rw[G5,G5];omega
 have g:¬ (!its.toArray.isEmpty && Builtin.List.listTooLong (its.toArray.size+a.toArray.size))=true:=by
  rw[re i,Pz];exact Io
 refine M8 F.slot_list_extend ⟨_,e,rfl⟩ F.entry_list_extend (F.args_list_extend_2 _ _)
  (AutoSeq1.list_extend_list_list_0 l its.toArray n b a.toArray f g (by rw[G5];omega) (by omega)) ⟨e,p,?_⟩
 refine⟨.non,_,I.lset (its':=its++a) c e (by simp) (r.append j) ?_,rfl,q⟩;rw[He];omega
def Gv:V->List V->Hp->VK->Prop:=λx b H Q=>∃l a y,x=.ref l/\b=[]/\H l=some (.lst a)/\a[a.length-1]?=some y/\Q y (upd H l (.lst a.dropLast))
theorem C6:MtM X "list.pop" Gv:=by
 intro o s t H x k v p Q I i c h;obtain⟨l,m,y,rfl,rfl,b,f,q⟩:=h;cases i;have a:=c.zero;subst a;obtain⟨z,its,n,r,d,e⟩:=I.lstM b;obtain⟨u,j,ru⟩:=r.get f
 have g:its.toArray[its.toArray.size-1]?=some u:=by
  show its.toArray[its.length-1]?=some u;rw[<-HP,<-d];exact j
 refine M8 F.slot_list_pop ⟨_,e,rfl⟩ F.entry_list_pop (F.args_list_pop_1 _) (MeetsSeq.list_pop_last l its.toArray n u g (by rw[G5];lia)) ⟨e,?_⟩;refine⟨y,_,I.lset (its':=its.dropLast) b e ?_ r.dropLast ?_,ru,q⟩
 .show its.toArray.eraseIdxIfInBounds (its.toArray.size-1)=its.dropLast.toArray;rw[G5,List.eraseIdxIfInBounds_toArray,tQ]
 .rw[Jw];lia
noncomputable def Gw:R2:=λx y H Q=>∃l b a c,x=.ref l/\y=.ref b/\H l=some (.lst a)/\H b=some (.lst c)/\a.length+c.length<=sizeLine/\∀p,H p=none->Q (.ref p) (upd H p (.lst (a++c)))
theorem DC:OpR X (Md .Add) Gw:=by
 intro w s C H x y v u Q I g m h;obtain⟨l,b,o,D,rfl,rfl,d,j,A,q⟩:=h;cases g;cases m;obtain⟨z,its,n,r,p,e⟩:=I.lstM d;obtain⟨B,a,t,f,i,k⟩:=I.lstM j;refine PySem.P.add_list e k ?_ (by rw[G5,G5];lia);have c:its.toArray++a.toArray=(its++a).toArray:=by simp
 rw[c];exact⟨.ref _,_,I.lnew (t':=s.toks) (r.append f) (by rw[He];lia),rfl,q _ I.fresh⟩
noncomputable def Gm:R2:=λx y H Q=>∃l k a,x=.ref l/\y=.int k/\H l=some (.lst a)/\-(2 ^ 63)<=k/\k<2 ^ 63/\a.length*k.toNat<=sizeLine/\
 ∀p,H p=none->Q (.ref p) (upd H p (.lst (HJ k.toNat a).flatten))
theorem A3{b:Type}(xs:List b)(k:Nat):(HJ k xs).flatten.length=k*xs.length:=by
 induction k with
 |zero=>simp
 |succ k a=>rw[Ji,J6,He,a,Nat.succ_mul,OP]
theorem Du:OpR X (Md .Mult) Gm:=by
 intro K s M H x y v u Q I E G h;obtain⟨l,k,J,rfl,rfl,A,w,p,g,q⟩:=h;cases E;obtain⟨t,rfl⟩:=G;obtain⟨z,its,n,r,j,e⟩:=I.lstM A;have C:its.toArray.size*k.toNat<=sizeLine:=by rw[G5,<-j];exact g
 have c:¬ its.toArray.size*k.toNat >(2 ^ 63-1)/8:=by
  have:(sizeLine:Nat)<=(2 ^ 63-1)/8:=by decide
  omega
 have D:¬ (!Builtin.List.listFitsIndex k)=true:=by
  rw[fitsIndex_both w p];exact Io
 have o:¬ Builtin.List.listTooLong (its.toArray.size*k.toNat)=true:=by
  rw[re C];exact Io
 have b:RK (λd f=>d++f) #[] (HJ (if its.toArray.isEmpty=true then 0 else k.toNat) its.toArray)=(HJ k.toNat its).flatten.toArray:=by
  have i:∀m:Nat,RK (λd f=>d++f) #[] (HJ m its.toArray)=(HJ m its).flatten.toArray:=λm=>by
   have:=om its m [];rw[OQ]at this;exact this
  rw[i];cases its with
  |nil=>simp
  |cons a L=>rw[if_neg (by simp)]
 refine wpAny_binaryOp_repeat_ref (T:="list") (U:="int") (by decide) ⟨_,e,rfl⟩ (λB=>L8 B k t) noFill_list_mul F.fills_int_mul F.slot_int_rmul repeat_list F.slot_int_index.lookup
  (M8 F.slot_int_rmul (L8 s k t) F.entry_int_rmul (F.args_int_rmul_2 _ _) (int___rmul___int_list k t l its.toArray n)
   ⟨e,rfl,⟨_,e,rfl⟩,M8 F.slot_list_mul ⟨_,e,rfl⟩ F.entry_list_mul (F.args_list_mul_2 _ _) (AutoListH.list___mul___list_int_3 l its.toArray n k t D c o) ⟨e,?_⟩⟩)
 rw[b];exact⟨.ref _,_,I.lnew (t':=s.toks) (r.rep k.toNat) (by rw[A3,R8];exact g),rfl,q _ I.fresh⟩
end
end L2
namespace Att
open PySem PySem.W PySem.Calls PyProof.Rows
theorem ke{P:Params}{h:Jx}:∀(c:List Int) (d:List GM),WellAll P h d (c.map WData.int)->RS d c:=by
 intro c
 induction c with
 |nil=>
  intro d w;rw[KY]at w;cases w;exact .nil
 |cons n c e=>
  intro d w;rw[G_]at w;cases w with
  |cons a b=>
   cases a;exact .cons _ _ (e _ b)
theorem script_of{l:OpenLaw}{n:Nat}(v:l.most=some n){P:Params}{h:Jx}{args:List WData}{c:List GM}
  (UE:l.row.toRowW.claim.pre args=true) (hwl:WellAll P h c args):
  ∃a g b,c=[Ik a]∧args=[WData.list (b.map WData.int)]∧h.get? a=some {cls:=.type "list",data:=.seq g.toArray }∧RS g b∧b.length≤n:=by
 have hsh:WShape.hasAll [] args [.list .int]=true:=(pre_splitW UE).1;have i:l.pre.holds [] {args:=args }=true:=(pre_splitW UE).2;obtain⟨d,r,rfl,o,m⟩:=hasAllW_cons hsh;obtain rfl:=hasAllW_nil m;obtain⟨x,rfl,w⟩:=hasW_list o;obtain⟨b,rfl⟩:=items_int w
 have u:b.length<=n:=by
  unfold OpenLaw.pre at i
  have e:(WTm.not (.lt (.lit (.int (n:Int))) (.len (.arg 0)))).holds [] {args:=[.list (b.map .int)] }=true:=by
   have e:=(holds_andW i).1;rw[v]at e;exact e
  have f:=condW_of e (w_not (w_lt w_lit (w_len_list (w_arg rfl))));rw[GD]at f;refine JU λq=>?_
  have t:(n:Int)<((b.length:Nat):Int):=by lia
  first
   | (rw[decide_eq_true t]at f;exact absurd f (by decide))
   | (simp at f;lia)
 cases hwl with
 |cons k j=>
  cases j;cases k with
  |list s p=>exact⟨_,_,b,rfl,rfl,s,ke b _ p,u⟩
theorem post_true(l:OpenLaw)(args:List WData):l.row.toRowW.claim.post args (.bool true) args=true:=
 postW_of (r:=l.row.toRowW) (X:=(true==true))
  (show WShape.has [] (.bool true) .bool=true by first |rfl |decide |simp[WShape.has,WShape.arms,WShape.armsAll])
  (show (WTm.eq .res (.lit (.bool true))).value [] {args:=args,res:=some (.bool true),after:=args }=some (.bool (true==true)) from w_eq_bool (w_res rfl) w_lit) rfl
end Att
namespace L2
open PySem PySem.Spec PyProof.Rows
theorem nT:∀{b:List GM}{a:List Int},RS b a->aZ (a.map V.int) b
 |_,_,.nil=>.nil
 |_,_,.cons n t h=>.cons ⟨t,rfl⟩ (nT h)
def BB(H:Hp):Prop:=∀b,H b=none\/∃o a,H b=some (.frz o (.lst a))
theorem w9{P:GX}{w:HF}{K:GE}{y L:Str->Option GM}{CX:CXT}{k:Nat}{J a:Hc}{N:JR}{x:Str}{sp:Sp}{c:GP}{j:List GM}{ns:List Int}
  (KX:K.In c.heap) (hns:c.heap.Ns Jf y) (hb:c.heap.Ns RF L) (hbb:∀x:Str,x≠"__name__"→L x=IL x) (hlim:c.heap.NoLimit) (hg:c.gens=#[])
  (ha:c.heap.get? a=some {cls:=.type "list",data:=.seq j.toArray }) (hi:RS j ns) (hl:ns.length≤sizeLine) (hr:cZ k Qp)
  (F:∀base:Jx,K.In base->base.Ns Jf y->c_ P w K y base CX k J N [x] sp) (hbind:∀(s:GP) (u:GM),RQ s N ⟨[u],[]⟩ [(x,u)])
  (Uh:∀H:Hp,BB H->SqL K H a (ns.map V.int)->sp [.ref a] H (λv _=>v=.bl true) λ_ _ _=>False)
  (hCX:∀H e f,CX [] H c (λ_ _ _=>False) e f->False):
  Me (Hr P w) Qp (.call (.ref J) ⟨[.ref a],[]⟩) (λr f=>r=.ok (.ret (.bool true))/\OldK c.heap f.heap/\f.os=c.os/\NX f.gens) c:=by
 have M:=nT hi;have p:=hi.length
 have i:∀H:Hp,BB H->SqL K H a (ns.map V.int)->HOk P w H c.heap->(∀b,H b≠none->b=a)->(H a≠none->K.lookup a=none)->
   Me (Hr P w) Qp (.call (.ref J) ⟨[.ref a],[]⟩) (λr f=>r=.ok (.ret (.bool true))/\OldK c.heap f.heap/\f.os=c.os/\NX f.gens) c:=by
  intro H R T B Q U;have S:∀{b:Hc}{o:Obj},c.heap.get? b=some o->H b=none->(pJ c.heap H).get? b=some o:=λe n=>xi e n
  have I:∀{b:Hc}{o:Obj}{l:Array DictEntry}{A:Nat},c.heap.get? b=some o->o.data=.dict l A->H b=none:=λ{b o l A} e d=>by
   cases q:H b with
   |none=>rfl
   |some u=>
    have G:b=a:=Q b (by rw[q];simp);subst G;rw[ha]at e;cases e;have X:Data.seq j.toArray _=Data.dict l A:=d;cases X
  have g:∀{b:Hc}{m:Str->Option GM},c.heap.Ns b m->(pJ c.heap H).Ns b m:=λ{b m} ⟨o,l,A,e,d,r⟩=>⟨o,l,A,S e (I e d),d,r⟩
  have D:K.In (pJ c.heap H):=λb o e=>S (KX b o e) (by
   cases q:H b with
   |none=>rfl
   |some u=>
    have G:b=a:=Q b (by rw[q];simp);subst G;rw[U (by rw[q];simp)]at e;cases e)
  have Y:Mod K y (pJ c.heap H):=⟨D,g hns,⟨L,g hb,hbb⟩,let ⟨mc,h1,h2⟩:=hlim;⟨mc,g h1,h2⟩⟩;have W:A6 P w K y (pJ c.heap H) Qp [] c H:=⟨rfl,Y,λb o e=>AR e,QE (v4 _ _),trivial,λb hb=>absurd (show b∈([]:List Hc) from hb) (by simp),B,.of_eq hg⟩
  refine L7 ((F _ D (g hns)).run Qp [] c H ⟨[.ref a],[]⟩ [.ref a] [.ref a] _ _ hr W (hbind c (.ref a)) (.cons rfl .nil) (Uh H R T)) λr f h=>?_;cases r with
  |error e=>exact (hCX H e f h).elim
  |ok fl=>
   cases fl with
   |next=>exact False.elim h
   |brk=>exact False.elim h
   |cont=>exact False.elim h
   |ret u=>
    obtain⟨v,H',os,E,un,C,r',q⟩:=h;have q':v=.bl true:=q;subst q';obtain rfl:u=Lw true:=r';refine⟨rfl,OldK.of_keep λb o e=>?_,os,E⟩;cases q:H b with
    |none=>exact un.keep b o e q (by intro z;exact absurd (show b∈([]:List Hc) from z) (by simp)) (by simp)
    |some u=>
     rcases R b with z |⟨Z,xs,z⟩
     .rw[q]at z;cases z
     .have z2:=un.frzs b Z _ z;obtain⟨O,_⟩:=B b _ z;obtain⟨e2,_⟩:=C b _ z2;rw[e]at O;cases O;exact e2
 cases hk:K.lookup a with
 |some o=>
  have e:=KX a o hk;rw[ha]at e;cases e;refine i (λ_=>none) (λ_=>.inl rfl) (.inr ⟨_,j.toArray,_,hk,rfl,rfl,rfl,by rw[G5,p];exact hl,by simpa using M⟩) (λb u z=>by have t:(none:Option HO)=some u:=z;cases t) (λb z=>absurd rfl z) λz=>absurd rfl z
 |none=>
  refine i (λb=>if b=a then some (.frz {cls:=.type "list",data:=.seq j.toArray } (.lst (ns.map V.int))) else none) (λb=>?_) (.inl (.inr ⟨{cls:=.type "list",data:=.seq j.toArray },if_pos rfl⟩)) (λb u z=>?_) (λb z=>?_) λ_=>hk
  .by_cases hb:b=a
   .exact .inr ⟨_,_,if_pos hb⟩
   .exact .inl (if_neg hb)
  .by_cases hb:b=a
   .have t:=(if_pos hb).symm.trans z;cases t;subst hb;exact⟨ha,by rw[GD];exact hl,j,_,M,ha⟩
   .have t:=(if_neg hb).symm.trans z;cases t
  .by_cases hb:b=a
   .exact hb
   .exact absurd (if_neg hb) z
noncomputable abbrev KOf{K:GE}{h:Jx}(_:K.In h):GE:=K
end L2
namespace L2
open PySem PySem.Spec PyProof.Rows
noncomputable def cu(s:Ki):Arguments:=match s with
 | .FunctionDef _ a _ _ _ _ _ _ _ _=>a
 |_=>{posonlyargs:=[],args:=[],vararg:=none,kwonlyargs:=[],kw_defaults:=[],kwarg:=none,defaults:=[] }
noncomputable def bN(s:Ki):List Ki:=match s with
 | .FunctionDef _ _ b _ _ _ _ _ _ _=>b
 |_=>[]
noncomputable def am(s:Ki):PL:=match s with
 | .FunctionDef _ _ _ _ _ _ a _ _ _=>a
 |_=>{kind:=.function,names:=[],isGenerator:=false,isCoroutine:=false }
noncomputable abbrev CX0:CXT:=λ_ _ _ _ _ _=>False
noncomputable abbrev E0:XK:=λ_ _ _=>False
structure Fun(K:GE)(x SN:Str)(st:Ki)(f:Hc)(fd:JR):Prop where
 ex:∃(oc:GM) (od:Option Hc) (kV TV pm:GM) (an:Option Hc) (cdv ct:GM) (Um:Array (Option GM)),
  fd=J0 x SN (cu st) (bN st) (am st) .none kV TV pm an cdv ct/\K.lookup f=some ⟨oc,od,.func fd,Um⟩/\MJ K cdv SN=true
 kp:JK K (.ref f)=true
section
variable {P:GX}{w:HF}{K:GE}{mg:Str→Option GM}{base:Jx}
theorem Fun.binds{x l:Str}{b:Ki}{f:Hc}{k:JR}{e:List Str}(F:Fun K x l b f k)
  (h:∀(kV d j:GM) (i:Option Hc) (a c:GM) (g:List GM),g.length=e.length->MH (J0 x l (cu b) (bN b) (am b) .none kV d j i a c) ⟨g,[]⟩=pure (e.zip g)):dy K k e []:=by
 obtain⟨m,n,kV,d,j,i,a,c,p,rfl,q,o⟩:=F.ex;exact .all (h kV d j i a c)
theorem yg{x d:Str}{b:Ki}{f:Hc}{n:GM}{o j:Option Hc}{m:Array (Option GM)}{e h i a g:GM}(l:K.lookup f=some ⟨n,o,.func (J0 x d (cu b) (bN b) (am b) .none e h i j a g),m⟩)
  (c:MJ K a d=true) (k:JK K (.ref f)=true):Fun K x d b f (J0 x d (cu b) (bN b) (am b) .none e h i j a g):=⟨⟨n,o,e,h,i,j,a,g,m,rfl,l,c⟩,k⟩
end
theorem aE{n:Nat}(h:n<=1000):n<sizeLine:=IK h (by decide)
theorem oD{A B:Prop}(h:B):if false=true then A else B:=by
 rw[if_neg Io];exact h
theorem oF{A B:Prop}(h:A):if true=true then A else B:=by
 rw[if_pos rfl];exact h
def aY(H a:Hp):Prop:=∀b o,H b=some o->a b=some o
theorem aY.refl(H:Hp):aY H H:=λ_ _ h=>h
theorem aY.trans{H d e:Hp}(a:aY H d)(b:aY d e):aY H e:=λc o h=>b c o (a c o h)
theorem aY.free{H a:Hp}(e:aY H a){l:Hc}(h:a l=Sr):H l=Sr:=by
 cases q:H l with
 |none=>rfl
 |some o=>
  rw[e l o q]at h;cases h
theorem aY.seq{K:GE}{H b:Hp}{a:Hc}{xs:List V}(e:aY H b)(h:SqL K H a xs):SqL K b a xs:=by
 rcases h with (h |⟨o,h⟩) |h
 .exact .inl (.inl (e _ _ h))
 .exact .inl (.inr ⟨o,e _ _ h⟩)
 .exact .inr h
def Sz(m:Nat)(x:Int):Prop:=x.natAbs<2 ^ m
theorem Sz.mono(h:Sz m x)(a:m<=n):Sz n x:=GT h (MW (by decide) a)
theorem Sz.neg(h:Sz m x):Sz m (-x):=by unfold Sz at *;rw[Int.natAbs_neg];exact h
theorem Sz.add(a:Sz m x)(b:Sz m y):Sz (m+1) (x+y):=by
 unfold Sz at *;have:=Int.natAbs_add_le x y;rw[Kn];omega
theorem Sz.sub(a:Sz m x)(b:Sz m y):Sz (m+1) (x-y):=by
 rw[Int.sub_eq_add_neg];exact a.add b.neg
theorem Sz.mul(a:Sz m x)(b:Sz n y):Sz (m+n) (x*y):=by
 unfold Sz at *;rw[MK,Nat.pow_add];exact Nat.mul_lt_mul'' a b
theorem Sz.le(h:x.natAbs<=y.natAbs)(a:Sz m y):Sz m x:=IK h a
theorem Sz.ediv(a:Sz m x):Sz m (x/y):=Sz.le (Int.natAbs_ediv_le_natAbs x y) a
theorem Sz.abs(a:Sz m x):Sz m (if x<0 then -x else x):=by split;exact a.neg;exact a
instance (m:Nat) (x:Int):Decidable (Sz m x):=inferInstanceAs (Decidable (x.natAbs<2 ^ m))
theorem Sz.add'(a:Sz m x)(b:Sz n y):Sz (max m n+1) (x+y):=(a.mono (Q7 m n)).add (b.mono (Oh m n))
theorem Sz.sub'(a:Sz m x)(b:Sz n y):Sz (max m n+1) (x-y):=(a.mono (Q7 m n)).sub (b.mono (Oh m n))
theorem Sz.lit(h:Sz m x):Sz m x:=h
theorem Sz.ok(a:Sz m x)(b:Sz n y)(h:m+n<=134217728):IntMulOk x y:=
 PyProof.Rows.mulOk_of_bits (intBits_le_iff.mpr a) (intBits_le_iff.mpr b) h
theorem Sz.log(h:Sz m x)(a:m<=9000)(b:x≠0):x.natAbs.log2<9000:=by
 have q:=(Nat.log2_lt (by lia)).mpr (show x.natAbs<2 ^ m from h);lia
def CL(_ j:Int):Prop:=0<j/\Sz 9000 j
def Cd(_ j:Int):Prop:=j≠0/\Sz 9000 j
section
variable {X:Cx}{a b c:Expr}{ta tb tc:TE}{pos:Pos}
theorem Bw:OpR X (Md .Mult) (rI IntMulOk λi j=>.int (i*j)):=opI λ_ _ _ _ _ _ _ a q=>mul_int q a
theorem xt:OpR X (Md .FloorDiv) (rI CL λi j=>.int (i/j)):=opI λi j _ _ _ _ _ a q=>by
 have b:=a.1;exact floordiv_int (by lia) (by rw[Int.fdiv_eq_ediv_of_nonneg i (by lia)];exact q) (.inl (PyProof.noPylong_of_log2 (a.2.log (by decide) (by lia))))
theorem wV:OpR X (Md .FloorDiv) (rI Cd λi j=>.int (i.fdiv j)):=opI λi j _ _ _ _ _ a q=>
 floordiv_int a.1 q (.inl (PyProof.noPylong_of_log2 (a.2.log (by decide) a.1)))
theorem FB(a:Gl X x)(d:X.mg x=none)(c:IL x=some (.type n))(b:autoParam (x≠"__name__") v0)(e:autoParam ((x==("__debug__":Str))=false) v0):PE X (.Name x pos) (tC (.ty n)):=
 Bh a d c rfl b e
theorem sR:cA X (.type "int") (λa H Q=>∃k,a=[.bl k]∧Q (.int (if k then 1 else 0)) H):=by
 intro c s d H a b Q I r h;obtain⟨k,rfl,q⟩:=h;exact v_ c s d H _ b Q I r (.inr ⟨k,rfl,q⟩)
end
theorem kit_int_int(K):GW K (.type "int") (.type "int")=some true:=rfl
theorem kit_int_bool(K):GW K (.type "int") (.type "bool")=some false:=rfl
theorem kit_tuple_tuple(K):GW K (.type "tuple") (.type "tuple")=some true:=rfl
theorem kit_list_list(K):GW K (.type "list") (.type "list")=some true:=rfl
noncomputable def Its(b c:Int)(n:Nat):It:=⟨λi _=>i<n,λi H x a=>a=H/\x=.int (b+(i:Nat) *c),λi _=>n<=i⟩
theorem qN{P:GX}{w:HF}{K:GE}{S:Expr}(d:Hc)(l c:Int)(n:Nat):tq P w K S (Its l c n) [d] d (λi h=>N0 h d (l+(i:Nat) *c) ((n:Int)-(i:Nat)) c) where
 mem:=by simp
 obj:=λi h a b f=>by
  have e:b=d:=by simpa using f
  subst e
  exact⟨_,a,λv z=>by
   have M:Data.fields _=Data.cell v:=z;cases M⟩
 keep:=λi h g a k=>k d (by simp) _ a
 item:=by
  intro X y r m C i D s J H E I j a u;subst y r m;obtain⟨p,x,R,B,q,A⟩:=j d (by simp);have W:=Walks.range (prog:=X.prog) (w:=X.w) (I.ok.hd C) d l c n;refine W.item i s _ _ u a λv g G N F L=>?_;obtain⟨t,rfl⟩:=N;have O:Inv X D J H {s with heap:=g,toks:=G }:=I.turned (λb o f e=>L b o (by simpa using f) e) p x B q A;exact⟨_,rfl,qv (s:={s with heap:=g,toks:=G }) (n:="range_iterator") F rfl rfl (by decide) ⟨.int (l+(i:Nat) *c),H,O,⟨t,rfl⟩,⟨rfl,rfl⟩,F,λb f=>(j b f).1⟩⟩
 done:=by
  intro X y r m C i D s J H E I j a u;subst y r m;obtain⟨p,x,R,B,q,A⟩:=j d (by simp);exact Ow (I.ok.hd C) a (by have:n<=i:=u;lia) λg Q=>⟨rfl,I.turned (t':=s.toks) (λb o f e=>Q b o f e) p x B q A⟩
 self:=λ_ _ _ _ _ a h=>Ox a h
noncomputable def gG(i j c:Int):Nat:=if i<j then ((j-i-1)/c+1).toNat else 0
theorem tU(i:-(2 ^ 60)<=a)(f:a<2 ^ 60)(j:-(2 ^ 60)<=b)(k:b<2 ^ 60)(g:0<c)(l:c<2 ^ 60):Builtin.Range.small a b c=true:=by
 have e:a<b->(b-a-1)/c<=b-a-1:=λh=>Oi _ (by lia);have d:a<b->0<=(b-a-1)/c:=λh=>OR (by lia) (by lia);unfold Builtin.Range.small Builtin.Range.rangeSize;simp only[Builtin.Range.rangeFitsLong,Ic,OS,decide_eq_true_eq,beq_iff_eq,show c >0 from g,if_true];split
 .have:=e (by assumption);have:=d (by assumption);lia
 .lia
section
variable {X:Cx}{tg:Expr}
noncomputable def ES(ta:TA):TI:=λd H R=>ta d H λb a=>∃i j c:Int,b=[.int i,.int j,.int c]/\(-(2 ^ 60)<=i/\i<2 ^ 60/\-(2 ^ 60)<=j/\j<2 ^ 60/\0<c/\c<2 ^ 30)/\R (Its i c (gG i j c)) a
theorem vL(D:Gl X "range")(C:X.mg "range"=none)(E:PA X [a,b,c] ta)(hs:autoParam (GO [a,b,c] X.env=[(false,Kg a X.env),(false,Kg b X.env),(false,Kg c X.env)]) w4)
  (Uc:autoParam (GO [b,c] X.env=[(false,Kg b X.env),(false,Kg c X.env)]) w4):
  PI X tg (.Call (.Name "range" p) [a,b,c] [] pos) (ES ta):=by
 intro v s y H R I h;refine Call_ (cU I D C Qm (PyProof.Rows.callWith_type1 (thn (E pos v s y H _ I h) λP f ⟨N,w,B,F,m⟩=>?_) (by rw[hs,Uc]) (by rw[Uc];rfl)));obtain⟨i,j,k,e,⟨m,z,A,G,x,O⟩,q⟩:=m;subst e;cases F with
 |cons r g=>
  cases g with
  |cons M g=>
   cases g with
   |cons u g=>
    cases g;obtain⟨t,rfl⟩:=r;obtain⟨t',rfl⟩:=M;obtain⟨d,rfl⟩:=u;refine call_range_3 (by lia) ?_ (.inl (PyProof.noPylong_small (by lia)));refine Nq (IsRange.new ..) (tU m z A G x (by lia)) ?_;have n:Inv X v y w {f with heap:=f.heap.push {cls:=.type "range",data:=.fields #[.int i t,.int j t',.int k d] },toks:=f.toks }:=B.kept λb o e=>GI _ e
    refine⟨(f.heap.push {cls:=.type "range",data:=.fields #[.int i t,.int j t',.int k d] }).objs.size,[(f.heap.push {cls:=.type "range",data:=.fields #[.int i t,.int j t',.int k d] }).objs.size],_,_,w,rfl,
     n.kept (t':=f.toks) λb o e=>GI _ e,qN _ i k (gG i j k),?_,λb J=>?_,q⟩
    .have K:i+((0:Nat):Int) *k=i:=by simp
     have L:((gG i j k:Nat):Int)-((0:Nat):Int)=Builtin.Range.rangeSize i j k:=by
      unfold gG Builtin.Range.rangeSize;rw[if_pos (show k >0 from x)];by_cases l:i<j
      .rw[if_pos l,if_pos l];have:0<=(j-i-1)/k:=OR (by lia) (by lia);lia
      .rw[if_neg l,if_neg l] <;>lia
     show N0 _ _ (i+((0:Nat):Int) *k) (((gG i j k:Nat):Int)-((0:Nat):Int)) k;rw[K,L];exact GZ _ rfl
    .have e:b=(f.heap.push {cls:=.type "range",data:=.fields #[.int i t,.int j t',.int k d] }).objs.size:=by simpa using J
     subst e;exact n.fpOk (GK _) (n.hok.fresh (GK _))
end
theorem aQ(h:H p=none)(o):aY H (upd H p o):=λb u q=>by rw[aS (bS q h)];exact q
theorem aY.put(e:aY H H')(h:H l=none)(o):aY H (upd H' l o):=λb u q=>by rw[aS (bS q h)];exact e b u q
theorem aY.tup{K:GE}{H b:Hp}{a:Hc}{xs:List V}(e:aY H b)(h:SqT K H a xs):SqT K b a xs:=by
 rcases h with (h |⟨o,h⟩) |h
 .exact .inl (.inl (e _ _ h))
 .exact .inl (.inr ⟨o,e _ _ h⟩)
 .exact .inr h
end L2
namespace L2
open PySem PySem.W PySem.Calls PySem.Spec PyProof.Rows
theorem rG{ns:List Int}(h:WData.layableAll [WData.list (ns.map WData.int)]=true):∀n∈ns,Sz 1048576 n:=by
 intro n a;have c:=(PySem.W.layableW_arg h) _ (GL.mpr rfl);have b:=PySem.W.layableW_item c (WData.int n) (GJ.mpr ⟨n,a,rfl⟩);have e:=(PySem.W.layableW_iff.mp b).2.2;have d:Builtin.Int.intBits n<=1048576:=by simpa only[WData.weight,Builtin.Int.intBits] using e
 exact intBits_le_iff.mp d
theorem oV{l:Q8} 
  (hn:l.most=some n) (hdf:d.params.defaults=[])
  (call:∀w c b k u h o x cd s a e j,
   PySem.W.Ground q loose [] XP w c k u b.heap->YP w b.heap->
   b.heap.get? h=some o->o.data=.func (docDef d.name d.params d.body d.scope x cd s)->b.heap.CodeRec cd d.name->k d.name=some (.ref h)->
   b.heap.get? a=some {cls:=.type "list",data:=.seq e.toArray }→RS e j→j.length≤n→(∀m∈j,Sz 1048576 m)→b.gens=#[]→
   Me (Hr l.prog w) Qp (.call (.ref h) ⟨[.ref a],[]⟩) (λr p=>r=.ok (.ret (.bool true))/\OldK b.heap p.heap/\p.os=b.os/\NX p.gens) b):
  RT q loose XP YP l.row.toRowW d [] (λf e=>SF f e):=by
 intro w c b k u G Y h o x cd s H kV J C N y v E A z as K i L t Q;obtain rfl:H=.none:=SA y hdf;obtain rfl:kV=.none:=SB y;obtain⟨a,e,j,rfl,rfl,g,I,M⟩:=Att.script_of hn K t;refine PySem.W.enter_call (L7 (call w c b k u h o x cd s a e j G Y J (PySem.W.fd_plain C) N v g I M (rG i) E) λr p O=>?_);obtain⟨rfl,F,P,B⟩:=O;exact⟨.inl ⟨.bool true,.bool true,[],rfl,λ_=>rfl,.bool true,Att.post_true l _,λ_=>⟨Lz,λ_ D=>(nomatch D)⟩⟩,F,P,B⟩
theorem walk_ofB{l:Q8}{K:Params->GE}{sp:GE->Sp} 
  (hn:l.most=some n) (hn2:n<=sizeLine) (hdf:d.params.defaults=[]) (hr:cZ k Qp)
  (hY:∀w h,YP w h->(K w.params).In h)
  (F:∀w i r h,(K w.params).In h->h.Ns Jf i->i d.name=some (.ref r)->
   ∃t,(∀s u,RQ s t ⟨[u],[]⟩ [(x,u)])/\
    ∀base,(K w.params).In base->base.Ns Jf i->c_ l.prog w (K w.params) i base CX k r t [x] (sp (K w.params)))
  (Uh:∀K H a (p:List Int),p.length<=n->(∀m∈p,Sz 1048576 m)->BB H->SqL K H a (p.map V.int)->sp K [.ref a] H (λv _=>v=.bl true) λ_ _ _=>False)
  (hCX:∀H s e y,CX [] H s (λ_ _ _=>False) e y->False):
  RT q loose XP YP l.row.toRowW d [] (λf A=>SF f A):=by
 refine oV hn hdf λw B E i R r o W cd Q a A p G Y S P U z j M C c L=>?_;have D:=hY w _ Y;obtain⟨t,N,J⟩:=F w i r _ D G.T.g z;exact w9 D G.T.g G.T.b G.T.builtins G.T.nolimit L j M (HB C hn2) hr J N (λH O I=>Uh _ H a p C c O I) λH e y=>hCX H E e y
end L2
namespace L2
theorem zn{a:Type}{xs:List a}{i:Nat}{v:a}(e:k=(i:Int))(h:xs[i]?=some v):atI xs k=some v:=by subst e;exact uN h
theorem Sz.natle(a:Sz m y)(h:x.natAbs<=y.natAbs):Sz m x:=Sz.le h a
end L2
namespace L2
open PySem PySem.Spec PyProof.Rows
noncomputable abbrev br(X:Cx)(b:PL)(c:List (Str×Hc))(C:Hc)(s:GP)(H:Hp)(a:List Hc):Cx:=
 {X with s₀:=s,H₀:=H,env:=compEnvC b c C X.env,outer:=X.stack,ex:=a,fn:=λ_=>false,pn:=[],xe:=λ_ _=>False }
noncomputable def mask:List Nat->St->St
 |[],σ=>σ
 |i::is,σ=>mask is (σ.set i none)
theorem gJ:∀is a,(mask is a).length=a.length
 |[],_=>rfl
 |i::is,a=>by rw[mask,gJ is];simp
theorem kP:∀is σ j v,(mask is σ)[j]?=some (some v)->σ[j]?=some (some v)/\j ∉ is
 |[],σ,j,v,h=>⟨h,by simp⟩
 |i::is,σ,j,v,h=>by
  obtain⟨a,b⟩:=kP is _ j v h;by_cases e:i=j
  .subst e;rw[NH]at a;simp at a
  .rw[Hs e]at a;exact⟨a,by simp[Ne.symm e,b]⟩
structure dH(X:Cx)(SJ:PL)(cl:List (Str×Hc))(is:List Nat):Prop where
 clos:RL SJ X.env=pure cl
 cell:∀y∈SJ.names,y.2≠.cell
 kind:SJ.kind=.function
 names:∀y∈SJ.names,y.2=.local->SJ.names.lookup y.1=some .local
 cls:∀x c,cl.lookup x=some c->X.env.cells.lookup x=some c
 free:∀x,((relabel SJ X.env).names.lookup x=some .cell\/(relabel SJ X.env).names.lookup x=some .free)->Vis X.env.scope x/\X.env.scope.names.lookup x≠some .local/\∃c,cl.lookup x=some c
 own:∀i x,X.N[i]?=some x->(relabel SJ X.env).names.lookup x=some .local->i∈is
section
variable {X:Cx}{SI:List (Hc×Obj)}{σ:St}{H:Hp}{s:GP}
theorem qw(I:Inv X SI σ H s)(B:dH X SJ cl is)(d:∀b∈fp,km X SI H b)(w:∀b∈fp,b<s.heap.objs.size)
  (hn:h₁.Ns s.heap.objs.size m) (hk:∀b o,s.heap.get? b=some o->h₁.get? b=some o):
  Inv (br X SJ cl s.heap.objs.size s H fp) [] (mask is σ) H {s with heap:=h₁,toks:=t' }:=by
 refine⟨⟨I.ok.mod,B.kind,I.ok.glob,I.ok.blt,GK _,λx y c f j=>I.ok.inj x y c (B.cls x c f) (B.cls y c j),λx L=>(B.free x L).2.2,λx c h=>(by cases h),I.ok.hd,I.ok.frames,.inl rfl,λb a=>⟨Hn (w b a),λx c e=>(d b a).2.2.2.2.1 x c (B.cls x c e)⟩,
  I.bs,HB I.ok.bsz I.sz,λb o e a=>?_,λb a z=>?_,I.stack,I.stkFree⟩,rfl,I.bare,Un.kept hk,⟨m,hn,λi x v f j M=>?_⟩,λx c e=>?_,I.hok.fresh (GK _),λx c e=>I.freeC x c (B.cls x c e),λp G=>absurd (show p∈([]:List (Hc×Obj)) from G) (by simp),I.hok.kept hk,?_⟩
 .rcases (d b a).2.2.2.1 with z |z
  .exact I.ok.noex b o e z
  .exact absurd (GT (GS e) (HB I.ok.bsz z)) (Hw _)
 .rcases GF.mp (I.stkSub b z) with e |e
  .exact (d b a).2.1 e
  .exact (d b a).2.2.1 e
 .obtain⟨J,F⟩:=kP is σ i v j;have q:=M;rcases q with z |z
  .exact absurd (B.own i x f z) F
  .obtain⟨D,t,c,A⟩:=B.free x z;obtain⟨O,_,E⟩:=I.loc;obtain⟨u,r,l⟩:=E i x v f J D;refine⟨u,r,.inr ⟨z,c,A,?_⟩⟩;rcases l with ⟨k,_⟩ |⟨_,P,K,o,n,g⟩
   .exact absurd k t
   .have C:=B.cls x c A;rw[K]at C;cases C;exact⟨o,hk _ _ n,g⟩
 .obtain⟨v,o,n,g⟩:=I.cell x c (B.cls x c e);exact⟨v,o,hk _ _ n,g⟩
 .show (mask is σ).length=X.N.length;rw[gJ];exact I.len
end
noncomputable def goC(a:List (Str×Hc)):List (Str×Pl)->List (Str×Hc)->List (Str×Hc)
 |[],To=>To
 | (n,k)::r,To=>goC a r (if (k==.free)=true then (n,(a.lookup n).getD 0)::To else To)
theorem sE(h:∀y∈SJ.names,y.2=.free->(env.cells.lookup y.1).isSome=true):RL SJ env=pure (goC env.cells SJ.names []):=by
 have all:∀a d,(∀y∈a,y.2=.free->(env.cells.lookup y.1).isSome=true)->
   (forIn a d (λx l=>match x with | (Tc,b)=>if (b==.free)=true then (do let c <-cellOf env Tc;pure (ForInStep.yield ((Tc,c)::l))) else pure (ForInStep.yield l)):Sem (List (Str×Hc)))=pure (goC env.cells a d):=by
  intro a
  induction a with
  |nil=>intro d _;rfl
  |cons y r i=>
   intro d f;obtain⟨n,k⟩:=y;rw[Mf];by_cases j:k=.free
   .subst j;have:=f (n,.free) GR rfl;obtain⟨c,o⟩:=Jk.mp this;have e:cellOf env n=pure c:=by unfold cellOf;rw[o]
    simp only[beq_self_eq_true,if_true,e,pure_bind];rw[i _ λy g=>f y (GG _ g)];simp only[goC,beq_self_eq_true,if_true,o,LQ]
   .have m:(k==NameKind.free)=false:=by simpa using j
    simp only[m,G4,if_false,pure_bind];rw[i _ λy g=>f y (GG _ g)];simp only[goC,m,G4,if_false]
 simp only[RL];have:=all SJ.names [] h;simpa using this
theorem vE:∀a g,(∀y∈a,y.2=.free->(T9.lookup y.1).isSome=true)->(∀x c,g.lookup x=some c->T9.lookup x=some c)->
  ∀x c,(goC T9 a g).lookup x=some c->T9.lookup x=some c
 |[],_,_,f,x,c,h=>f x c h
 | (n,k)::r,g,hy,f,x,c,h=>by
  refine vE r _ (λy j=>hy y (GG _ j)) (λb i e=>?_) x c h;by_cases hk:k=.free
  .subst hk;simp only[beq_self_eq_true,if_true]at e;rw[MT]at e;by_cases hx:(b==n)=true
   .rw[hx]at e;have UC:b=n:=by simpa using hx
    obtain⟨m,d⟩:=Jk.mp (hy (n,.free) GR rfl);simp only[d,LQ]at e;rw[UC,d];exact e
   .have:(b==n)=false:=by simpa using hx
    rw[this]at e;exact f b i e
  .have l:(k==NameKind.free)=false:=by simpa using hk
   rw[l]at e;exact f b i e
theorem vg:∀a b,((x,NameKind.free)∈a\/∃c,b.lookup x=some c)->∃c,(goC T9 a b).lookup x=some c
 |[],_,h=>by
  rcases h with h |h
  .cases h
  .exact h
 | (n,k)::r,b,h=>by
  rw[goC];refine vg r _ ?_;rcases h with h |⟨c,h⟩
  .rcases GF.mp h with e |h
   .cases e
    right
    simp
   .exact .inl h
  .right
   by_cases hk:k=.free
   .subst hk;simp only[beq_self_eq_true,if_true];rw[MT];cases hx:x==n with
    |true=>exact⟨_,rfl⟩
    |false=>exact⟨c,h⟩
   .have hb:(k==NameKind.free)=false:=by simpa using hk
    rw[hb];exact⟨c,h⟩
theorem de{b:Env}{x:Str}{c:Pl}:∀{a:List (Str×Pl)},
  (a.map λ(n,k)=>if (k==NameKind.free && b.scope.kind==.function && b.kindOf n==some .cell) then (n,NameKind.cell) else (n,k)).lookup x=some c->a.lookup x=some c\/(c=.cell/\a.lookup x=some .free)
 |[],h=>by simp at h
 | (n,k)::r,h=>by
  have ih:=@de b x c r
  change List.lookup x ((if (k==NameKind.free && b.scope.kind==.function && b.kindOf n==some .cell)=true then (n,NameKind.cell) else (n,k))::_)=_ at h
  by_cases d:(k==NameKind.free && b.scope.kind==.function && b.kindOf n==some .cell)=true
  .rw[if_pos d]at h;rw[MT]at h |-;cases hx:x==n with
   |true=>
    rw[hx]at h
    have e:k=.free:=by
     have:=(MX.mp (MX.mp d).1).1;simpa using this
    subst e;have f:=h;cases f;exact .inr ⟨rfl,rfl⟩
   |false=>rw[hx]at h;exact ih h
  .rw[if_neg d]at h;rw[MT]at h |-;cases hx:x==n with
   |true=>rw[hx]at h;exact .inl h
   |false=>rw[hx]at h;exact ih h
noncomputable def zr(a b:PL)(N:List Str)(is:List Nat):Bool:=
 a.names.all (λy=>y.2 !=.cell) && a.names.all (λy=>y.2 !=.local ||a.names.lookup y.1==some .local) && a.names.all (λy=>y.2 !=.free ||b.names.lookup y.1==some .cell) &&
  (HI N.length).all λi=>match N[i]? with |some x=>a.names.lookup x !=some .local ||is.contains i |none=>true
theorem blk(Tz)(N)(is)(f:X.N=N)(hs:X.env.scope=Tz)(d:X.env.cells=Q6 (X.env.locals+1) Tz.names [])(q:SJ.kind=.function)(h:zr SJ Tz N is=true):dH X SJ (goC X.env.cells SJ.names []) is:=by
 subst f;unfold zr at h;simp only[Ic,K_]at h;obtain⟨⟨⟨s,r⟩,v⟩,o⟩:=h
 have j:∀y∈SJ.names,y.2=.free->Tz.names.lookup y.1=some .cell:=λy a e=>by
  have:=v y a;simp only[OS,bne_iff_ne,ne_eq,beq_iff_eq]at this;exact this.resolve_left λz=>z e
 have m:∀y∈SJ.names,y.2=.free->(X.env.cells.lookup y.1).isSome=true:=λy a e=>by
  rw[d];exact Mt _ _ _ (.inl (j y a e))
 have g:∀y∈SJ.names,y.2≠.cell:=λy a=>by have:=s y a;simpa using this
 refine⟨sE m,g,q,λy a e=>?_,vE _ _ m (λx c e=>by simp at e),λx b=>?_,λi x l p=>?_⟩
 .have:=r y a;simp only[OS,bne_iff_ne,ne_eq,beq_iff_eq]at this;exact this.resolve_left λz=>z e
 .have k:(x,NameKind.free)∈SJ.names:=by
   rcases b with b |b
   .rcases de b with z |⟨_,z⟩
    .exact absurd rfl (g _ (Jh z))
    .exact Jh z
   .rcases de b with z |⟨z,_⟩
    .exact Jh z
    .cases z
  have n:=j _ k rfl;refine⟨.inr (.inl (by rw[hs];exact n)),(by rw[hs,show Tz.names.lookup x=some .cell from n];intro z;cases z),vg _ _ (.inl k)⟩
 .have u:=(GV.mp l).1;have:=o i (Hq.mpr u);rw[l]at this
  have t:SJ.names.lookup x=some .local:=by
   rcases de p with z |⟨z,_⟩
   .exact z
   .cases z
  simp only[t,bne_self_eq_false,Bool.false_or,List.contains_iff_mem]at this;exact this
end L2
namespace L2
open PySem PySem.Spec PySem.W PyProof.Rows
theorem B_{K:Frag}(X:K.In h)(u:mg x=some (.ref C))(q:excIn K C bmB newId=true):OwnCls x C bmB newId mg h:=by
 refine⟨u,?_⟩;unfold excIn at q;split at q
 .rename_i B cd f v
  split at q
  .rename_i G w g l j e n i p k
   simp only[Ic,beq_iff_eq,Qq]at q;obtain⟨⟨⟨⟨⟨y,E⟩,b⟩,D⟩,a⟩,d⟩:=q;subst y E;obtain⟨nm,bs,z,F,A,r,s,sub,m,c,t⟩:=cd;subst p b;have o:f=#[g,l,j,e,some (.builtin n),i]:=by cases f;simp only at k;rw[k]
   subst o;exact⟨w,F,nm,A,bs,r,s,sub,m,c,B,g,l,j,e,i,_,X _ _ v,.of_isNs (isNs_of_in X a),nsMap_none_of_in X a d,tail_of_in X D⟩
  .cases q
 .cases q
noncomputable def CXF(P:GX)(w:HF):CXT:=λa H s E e f=>∃(g:Hc) (d h:GM) (B:Jx) (c:Hp),e=.ref g/\f.os=s.os/\NX f.gens/\Un (frs a) [] H c s.heap f.heap/\HOk P w c f.heap/\c g=none/\
 (∀b o,s.heap.get? b=some o->b ∉ frs a->H b=none->B.get? b=some o)/\(∀b u,c b=some u->∃o,B.get? b=some o)/\(∀b o,s.heap.get? b=some o->b ∉ frs a->∃i,B.get? b=some i)/\
 Heap.FlyingW B a g d h f.heap/\E d none c
theorem u_:gT (CXF P w) X E0:=λ_ _ _ _ _ _ _ h=>by
 obtain⟨_,_,_,_,_,_,_,_,_,_,_,_,_,_,_,a⟩:=h;exact a.elim
theorem nR(x:cM P w H h a o):∃b,h.get? a=some b:=by
 cases o with
 |lst c=>obtain⟨_,_,_,_,e⟩:=x;exact⟨_,e⟩
 |tup c=>obtain⟨_,_,_,b,e,_⟩:=x;exact⟨_,e⟩
 |dK d=>obtain⟨_,_,_,_,o,_,_,e,_⟩:=x;exact⟨_,e⟩
 |dT d=>obtain⟨_,_,_,_,o,_,_,e,_⟩:=x;exact⟨_,e⟩
 |set S n=>obtain⟨o,_,_,_,e,_⟩:=x;exact⟨_,e⟩
 |ins C g fs=>obtain⟨_,_,_,e,_⟩:=x;exact⟨_,e⟩
 |own y=>obtain⟨_,e⟩:=x;exact⟨_,e⟩
 |xd fs=>obtain⟨_,⟨_,_,_,e,_⟩,_⟩:=x;exact⟨_,e⟩
 |rng k i=>obtain⟨_,_,_,e⟩:=x;exact⟨_,e⟩
 |frz b u=>obtain⟨e,_⟩:=x;exact⟨_,e⟩
 |tbl l=>exact⟨_,(show h.get? a=some _ from x)⟩
 |met f y=>exact⟨_,(show h.get? a=some _ from x)⟩
 |ext j=>obtain⟨_,⟨_,e⟩,_⟩:=x;exact⟨_,e⟩
theorem kA{h h' B:Jx}(j:HOk P w H' h)(l:∀b u,H' b=some u->∃o,B.get? b=some o)(f:B.StaysIn h)(d:B.StaysIn h'):HOk P w H' h':=λa o e=>by
 refine (j a o e).stay (λb u k q=>?_) (λ_ q=>q) λ_ _ q=>q
 have:∃v,H' b=some v:=by
  rcases k with z |z
  .subst z;exact⟨_,e⟩
  .exact⟨_,z⟩
 obtain⟨v,g⟩:=this;obtain⟨i,c⟩:=l b v g;have:=f b i c;rw[q]at this;cases this;exact d b _ c
theorem yE{c:List Hc}{h m:Hp}{f h1 i B:Jx}(u:Un c [] h m f h1)(k1:∀b o,f.get? b=some o->b ∉ c->h b=none->B.get? b=some o)(k3:∀b o,f.get? b=some o->b ∉ c->∃g,B.get? b=some g)
  (st:B.StaysIn i) (up:h1.UpToSlots i) (fr:∀b∈c,∀o,f.get? b=some o->∀q,o.data≠.fields q) (frf:∀b∈c,h b=none):Un c [] h m f i where
 keep:=λb o e n a _=>st b o (k1 b o e a n)
 slot:=λb o e n a l=>by
  obtain⟨r,j⟩:=u.slot b o e n a l;obtain⟨d,k⟩:=up b _ j (fr b a o e);exact⟨d,k⟩
 free:=u.free
 there:=λb o e l=>by
  by_cases a:b∈c
  .obtain⟨r,j⟩:=u.slot b o e (frf b a) a l;obtain⟨d,k⟩:=up b _ j (fr b a o e);exact⟨_,k⟩
  .obtain⟨g,p⟩:=k3 b o e a;exact⟨g,st b g p⟩
 tups:=u.tups
 frzs:=u.frzs
 tbls:=u.tbls
theorem oE{h a:Jx}:∀{l},h.FunFrames a l->∀b∈frs l,∀o,h.get? b=some o->∀d,o.data≠.fields d
 |[],_,b,c,_,_=>absurd (show b∈[] from c) (by simp)
 |env::r,⟨_,⟨L,o',hf,_,ho,hd⟩,hr⟩,b,c,o,e=>by
  unfold frs at c;rw[Jg,hf]at c;rcases GF.mp c with z |z
  .subst z;rw[ho]at e;cases e;exact hd
  .exact oE hr b z o e
section
variable {P:GX}{w:HF}{K:Frag}{mg:Str→Option GM}{base:Jx}{N:List Str}{SN:Str}{SJ:PL}{f:Hc}{cd:GM}{A:HM}{outer:List Env}{s:GP}{H:Hp}{E:XK}
theorem yf(h:env.frame=some L):frs (env::l)=L::frs l:=by unfold frs;rw[Jg,h]
theorem p6{B h1 p:Jx}(I:Inv (eS (CXF P w) P w K mg base N SN SJ f cd A outer s H E) SI σ H1 s1)
  (un:Un (frs (MN SN SJ s.heap.objs.size f cd::outer)) [] H1 H' s1.heap h1)
  (k1:∀b o,s1.heap.get? b=some o->b ∉ frs (MN SN SJ s.heap.objs.size f cd::outer)->H1 b=none->B.get? b=some o) (k3:∀b o,s1.heap.get? b=some o->b ∉ frs (MN SN SJ s.heap.objs.size f cd::outer)->∃c,B.get? b=some c)
  (st:B.StaysIn p) (up:h1.UpToSlots p):
  Un (frs outer) [] H H' s.heap p/\(∀b o,s.heap.get? b=some o->b ∉ frs outer->H b=none->B.get? b=some o)/\(∀b o,s.heap.get? b=some o->b ∉ frs outer->∃c,B.get? b=some c):=by
 have M:frs (MN SN SJ s.heap.objs.size f cd::outer)=s.heap.objs.size::frs outer:=yf rfl;rw[M]at un k1 k3
 have v:∀b o,s.heap.get? b=some o->b ∉ frs outer->b ∉ s.heap.objs.size::frs outer:=λb o e a z=>by
  rcases GF.mp z with y |y
  .exact absurd (GS e) (by rw[y];exact Hw _)
  .exact a y
 have d:Un (frs outer) [] H H1 s.heap s1.heap:=I.base
 have C:∀b o,s.heap.get? b=some o->b ∉ frs outer->H b=none->B.get? b=some o:=λb o e a n=>
  k1 b o (d.keep b o e n a (by simp)) (v b o e a) (d.free b o e n (by simp))
 have x:∀b o,s.heap.get? b=some o->b ∉ frs outer->∃c,B.get? b=some c:=λb o e a=>by
  obtain⟨c,m⟩:=d.there b o e (by simp);exact k3 b c m (v b o e a)
 have i:∀b∈frs outer,∀o,s.heap.get? b=some o->∀D,o.data≠.fields D:=oE I.ok.funs;have l:∀b∈frs outer,H b=none:=I.ok.frf;refine⟨⟨λb o e n a _=>st b o (C b o e a n),λb o e n a g=>?_,λb o e n g=>?_,λb o e g=>?_,λb t e=>un.tups b t (d.tups b t e),λb o u e=>un.frzs b o u (d.frzs b o u e),λb L e=>?_⟩,C,x⟩
 .obtain⟨G,h⟩:=d.slot b o e n a g;obtain⟨q,k⟩:=un.slot b _ h (d.free b o e n g) (GG _ a) g;obtain⟨j,r⟩:=up b _ k (i b a o e);exact⟨j,r⟩
 .obtain⟨c,h⟩:=d.there b o e g;exact un.free b c h (d.free b o e n g) g
 .by_cases a:b∈frs outer
  .obtain⟨G,h⟩:=d.slot b o e (l b a) a g;obtain⟨q,k⟩:=un.slot b _ h (d.free b o e (l b a) g) (GG _ a) g;obtain⟨j,r⟩:=up b _ k (i b a o e);exact⟨_,r⟩
  .obtain⟨c,m⟩:=x b o e a;exact⟨c,st b c m⟩
 .obtain⟨F,h⟩:=d.tbls b L e;obtain⟨J,k⟩:=un.tbls b _ h;exact⟨F++J,by rw[k,PY]⟩
theorem tW:gT (CXF P w) (eS (CXF P w) P w K mg base N SN SJ f cd A outer s H E) E:=by
 intro y D C v e z I d;obtain⟨j,c,o,B,l,rfl,r,b,un,g,h,t,i,m,fl,k⟩:=d;refine wpAny_leaves_onW I.ok.frames rfl fl λx a q=>?_;obtain⟨u,p,n⟩:=p6 I un t m a.1 q;exact⟨j,c,o,B,l,rfl,r.trans I.os,b,u,kA g i fl.1 a.1,h,p,i,n,a,k⟩
noncomputable def CY(E:XK)(C:Hc)(c:TE):TS:=λ_ b H=>c b H λ_ a=>E (.ref C) none a
theorem Ag(l:excIn K C [.type "ValueError",.type "Exception",.type "BaseException",.type "object"] "ValueError.__new__"=true)
  (hg:Gl (eS (CXF P w) P w K mg base N SN SJ f cd A outer s H E) x) (hm:mg x=some (.ref C)) (he:PE (eS (CXF P w) P w K mg base N SN SJ f cd A outer s H E) e0 te)
  (TU:autoParam (GO [e0] (eS (CXF P w) P w K mg base N SN SJ f cd A outer s H E).env=[(false,Kg e0 (eS (CXF P w) P w K mg base N SN SJ f cd A outer s H E).env)]) w4) (hd:autoParam ((x==("__debug__":Str))=false) v0):
  PS (eS (CXF P w) P w K mg base N SN SJ f cd A outer s H E) (.Raise (some (.Call (.Name x np) [e0] [] SU)) none pos) (CY E C te):=by
 intro G B W U D I h;have O:=B_ I.ok.mod.kin hm l;obtain⟨Z,V,nm,q,bs,hdct,sn,sub,ab,col,dd,k0,k1,k2,k3,k5,Y,R,L,m,T⟩:=O.obj;have M:(JZ SU (GO [e0] (eS (CXF P w) P w K mg base N SN SJ f cd A outer s H E).env)).any (·.1)=false:=by rw[TU];rfl
 refine wpAny_Raise_call_subT (nm:=nm) (q:=q) (N:=V) (bs:=bs) (hdct:=hdct) (sn:=sn) (sub:=sub) (ab:=ab) (col:=col) (dd:=dd) (k0:=k0) (k1:=k1) (k2:=k2) (k3:=k3) (k5:=k5)
  Nj (T.hasType Nj.hasBase) (I.ok.hd rfl) M m (iX I hg hm ⟨rfl,?_⟩ hd)
 rw[TU];refine Po ?_;refine Le (thn (he G B W U _ I h) λv r ⟨y,k,a,r2,F⟩=>Lx ⟨rfl,by show 1<=sizeLine;decide,a.bk _ _ R,L.keeps a.bk,T.keeps a.bk,λX e n=>?_⟩);have i:=a.stack
 refine wpAny_leaves_madeW a.ok.frames rfl (λb o q=>of_hideAll _ q)
  (funFrames_hide i λj he b d=>Mc.mpr ⟨j,he,d⟩) n λh2 t fl _ _ S=>?_
 have g:∀b u,k b=some u->∃o,(hideAll r.heap (frs (MN SN SJ s.heap.objs.size f cd::outer))).get? b=some o:=λb u e=>by
  obtain⟨p,c⟩:=nR (a.hok b u e);exact⟨p,hideAll_get _ c λz=>by have:=a.stkFree b z;rw[e]at this;cases this⟩
 obtain⟨u,Q,J⟩:=p6 a (Un.kept n.keeps) (λb o e d _=>hideAll_get _ e d) (λb o e d=>⟨o,hideAll_get _ e d⟩) fl.1 S;refine⟨e,.ref C,.ref t,_,k,rfl,a.os,a.bare,u,kA a.hok g (λb o q=>of_hideAll _ q) fl.1,?_,Q,g,J,fl,F⟩;cases z:k e with
 |none=>rfl
 |some u=>
  obtain⟨p,c⟩:=nR (a.hok e u z);rw[n.new]at c;cases c
end
theorem Fun.okF{K:Frag}{d:Ki}(F:Fun K x SN d f fd)(S:ay N ps (am d))(e:∀c H Q E,sp c H Q E->c.length=ps.length)
  (TH:∀b A a s H c Q E,cZ k (A.deeper (MN SN (am d) s.heap.objs.size f b))->sp c H Q E->
   ∃t,PSs (eS (CXF P w) P w K mg base N SN (am d) f b A a s H E) (bN d) t/\t {nx:=λ_ h=>Q .non h,rt:=Q } (start N c) H):c_ P w K mg base (CXF P w) (k+1) f fd ps sp:=by
 obtain⟨n,p,kV,o,u,r,b,m,q,rfl,l,j⟩:=F.ex;exact Cz l j S e λA a s H c Q E i g=>TH b A a s H c Q E i g
noncomputable abbrev iE(X:Cx)(a:Hc):Cx:={X with A:=X.A.mark (some (.ref a)),calm:=false,xe:=λ_ _=>False }
section
variable {X:Cx}{SI:List (Hc×Obj)}{σ:St}{H:Hp}{s:GP}
theorem Inv.hand(I:Inv X SI σ H s)(ea):Inv (iE X ea) SI σ H s:=
 ⟨⟨I.ok.mod,I.ok.kind,I.ok.glob,I.ok.blt,I.ok.above,I.ok.inj,I.ok.has,I.ok.cab,λh=>(by cases h),I.ok.frames,I.ok.stk,I.ok.exf,I.ok.bs,I.ok.bsz,I.ok.noex,I.ok.exfs,I.ok.funs,I.ok.frf⟩,
  I.os,I.bare,I.base,I.loc,I.cell,I.free,I.freeC,I.pin,I.hok,I.len⟩
theorem Inv.unhand(a:X.calm=true->X.A.handled=none)(I:Inv (iE X ea) SI σ H s):Inv X SI σ H s:=
 ⟨⟨I.ok.mod,I.ok.kind,I.ok.glob,I.ok.blt,I.ok.above,I.ok.inj,I.ok.has,I.ok.cab,a,I.ok.frames,I.ok.stk,I.ok.exf,I.ok.bs,I.ok.bsz,I.ok.noex,I.ok.exfs,I.ok.funs,I.ok.frf⟩,
  I.os,I.bare,I.base,I.loc,I.cell,I.free,I.freeC,I.pin,I.hok,I.len⟩
theorem SP.unhand(c:X.calm=true->X.A.handled=none)(h:SP (iE X ea) SI D f s'):SP X SI D f s':=by
 cases f with
 |next=>obtain⟨b,a,I,q⟩:=h;exact⟨b,a,I.unhand c,q⟩
 |brk=>obtain⟨b,a,I,q⟩:=h;exact⟨b,a,I.unhand c,q⟩
 |cont=>obtain⟨b,a,I,q⟩:=h;exact⟨b,a,I.unhand c,q⟩
 |ret u=>obtain⟨v,b,a,I,r,q⟩:=h;exact⟨v,b,a,I.unhand c,r,q⟩
end
end L2
namespace L2
open PySem PySem.Spec PyProof.Rows
theorem oh:(HI n).all e=true↔∀j,j<n->e j=true:=by
 rw[K_];exact⟨λh j a=>h j (Hq.mpr a),λh j a=>h j (Hq.mp a)⟩
end L2
namespace PySem.W
open PySem PySem.Spec PySem.Calls PyProof.Rows PySem.Builtin PySem.Builtin.ObjectAttr PySem.Builtin.Getset_descriptor
section
variable {prog:GX}{w:HF}{A:HM}{E:GM→GP→Prop}{s:GP}{K:Frag}{x C:Hc}
def OfCls(x C:Hc)(h:Jx):Prop:=∃o,h.get? x=some o/\o.cls=.ref C
theorem OfCls.type(I:OfCls x C h):Looks M h (Sy (.ref x)) (.ref C):=by
 obtain⟨o,a,b⟩:=I;exact b ▸ (Looks.ld a).andThen .now
theorem CV(X:K.In s.heap)(I:OfCls x C s.heap)(a:mroIn K C (.type "object")=some true)
  (h:R (.ok (.ret (.ref C))) s):Me (Hr prog w) A (.call (.builtin "getset_descriptor.__get__") ⟨[.builtin "object.__class__",.ref x,tp],[]⟩) R s:=by
 obtain⟨b,g,f,t,c⟩:=s;have d:=I.type (M:=Hr prog w);have e:=looks_mroIn (M:=Hr prog w) X a;refine MY KF.slot_gs.plain KF.entry_gs (KF.slot_gs.check _ _ _ _ _ _ _ _ KF.type_class (KF.args_gs _ _ _) ?_);unfold Builtin.«getset_descriptor.__get__» descrGet;rw[dga_obj];refine GB (GH ?_);unfold descrGetter descrCheckInstance descrNameAndClass NI;simp only[KF.owner_class]
 repeat lk
 refine⟨Code.quiet_builtin _ (by decide+kernel),IM KF.entry_class ?_⟩;unfold Builtin.«object.__class__» shownTypeOf
 repeat lk
 exact h
theorem AG(X:K.In h)(d:findIn K (.ref C) Tc=some (some a))(b:specialIn K a "__get__"=some (some g))(i:takesIn K a=some true):
  Looks M h (find (.ref x) (.ref C) Tc) (.bind g a):=by
 have e:=looks_findIn (M:=M) X d;have f:Looks M h (getOf (some a)) (some g):=looks_specialIn X b;have c:=looks_takesIn (M:=M) X i;exact e.andThen (f.andThen ((show Looks M h (dataDescriptor? (some a) (some g)) (some (g,a)) from c.andThen .now).andThen (Looks.tag .now)))
variable (hga:findIn K (.ref C) "__getattribute__"=some (some (.builtin "BaseException.__getattribute__"))) (hgn:findIn K (.ref C) "__getattr__"=some none) (ha:findIn K (.ref C) "__class__"=some (some (.builtin "object.__class__")))
 (hn:specialIn K (.builtin "object.__class__") "__get__"=some (some (.builtin "getset_descriptor.__get__"))) (T3:takesIn K (.builtin "object.__class__")=some true) (hm:mroIn K C (.type "object")=some true) (hmB:mroIn K C (.type "BaseException")=some true)
include ha hn T3 hm in
theorem xl(X:K.In s.heap)(I:OfCls x C s.heap)(c:Q (.done (.ret (.ref C))) s):
  Ht (Hr prog w) A (Builtin.«object.__getattribute__» ⟨[.ref x,.str "__class__" tk],[]⟩) Q E s:=by
 have b:=I.type (M:=Hr prog w);have a:=AG (M:=Hr prog w) (x:=x) X ha hn T3;obtain⟨d,g,f,t,e⟩:=s;unfold Builtin.«object.__getattribute__»;refine GB (GH ?_);refine GB (GH (GB (b.at (GB (a.at ?_)))));show Ht _ _ (bindTo _ _ _ _) _ _ _;unfold bindTo;show Ht _ _ (Q5 [_] (call _ [_,_,_]) >>=ret) _ _ _;refine GB (Iz (Pk (CV X I hm ?_)));exact GH c
include hmB in
theorem xm(X:K.In s.heap)(I:OfCls x C s.heap)(h:Q () s):Ht M A (QM "BaseException.__getattribute__" ⟨[.ref x,nameV],[]⟩) Q E s:=by
 have b:builtinKind "BaseException.__getattribute__"=some .slot:=by decide+kernel
 have a:splitId "BaseException.__getattribute__"=some ("BaseException","__getattribute__"):=by decide+kernel
 have c:=F.args_bexc_ga (.ref x) nameV;have L:Looks M s.heap (NI (.ref x) (.type "BaseException")) true:=I.type.andThen (looks_mroIn X hmB);obtain⟨d,g,f,t,e⟩:=s;simp only[QM,b,a];refine GB (L.at ?_)
 repeat (first |assumption |wp_step)
include hga hgn ha hn T3 hm hmB
theorem Cb(X:K.In s.heap)(I:OfCls x C s.heap)(a:R (.ok (.ret (.ref C))) s):
  Me (Hr prog w) A (.call (.builtin "BaseException.__getattribute__") ⟨[.ref x,.str "__class__" tk],[]⟩) R s:=by
 exact MY F.excAttr_ValueError.ga.plain F.entry_bexc_ga (xm hmB X I (xl ha hn T3 hm X I a))
theorem yY(X:K.In s.heap)(I:OfCls x C s.heap)(h:Q (some (.ref C)) {s with toks:=s.toks+1 }):Ht (Hr prog w) A (getAttr? (.ref x) "__class__") Q E s:=by
 obtain⟨f,g,d,t,i⟩:=s;have a:=I.type (M:=Hr prog w);have b:=looks_findIn (M:=Hr prog w) X hga;have c:=looks_findIn (M:=Hr prog w) X hgn;have e:=F.excAttr_ValueError.ga.bind (.ref x);unfold getAttr? getAttrBy? getAttrBy;refine GB (wpAny_mkText (GB (Mg (Iz (GB (a.at (GB (b.at ?_))))))));show Ht _ _ (Q9 _ _ _ _ _ _) _ _ _;unfold Q9;refine GB (c.at ?_);refine GB (Mg (Iz ?_));show Ht _ _ (Rt _ _ _) _ _ _;unfold Rt;rw[e];refine GB (GH (Pk ?_));exact Cb hga hgn ha hn T3 hm hmB X I (GH (GH h))
theorem BJ(i:(clsIn K C).isSome=true):KitX K (.ref x) (.ref C) (OfCls x C) where
 ty:=λ_ _ _ I=>I.type
 it:=λ_ _ X _=>by
  obtain⟨d,a⟩:=Jk.mp i;unfold clsIn at a;split at a
  .rename_i l j g b c
   intro t u s p k q;unfold isType loadHead;exact GB (Ru (k _ _ (X _ _ c)) (GH q))
  .cases a
 ne:=λh m r its n o X f=>by
  obtain⟨d,a⟩:=Jk.mp i;refine LA.mpr λq=>?_;have e:C=m:=Value.ref.inj (beq_iff_eq.mp q);subst e;unfold clsIn at a;split at a
  .rename_i l j g b c
   have z:=(X _ _ c).symm.trans f;cases z
  .cases a
 ca:=λX I k=>yY hga hgn ha hn T3 hm hmB X I k
end
theorem k_{K:Frag}(h:mroIn K C v=some b):(clsIn K C).isSome=true:=by
 obtain⟨cd,e,_⟩:=Option.bind_eq_some_iff.mp h;rw[e];rfl
structure XcOk(K:Frag)(C:Hc):Prop where
 ga:findIn K (.ref C) "__getattribute__"=some (some (.builtin "BaseException.__getattribute__"))
 gn:findIn K (.ref C) "__getattr__"=some none
 at_:findIn K (.ref C) "__class__"=some (some (.builtin "object.__class__"))
 sp:specialIn K (.builtin "object.__class__") "__get__"=some (some (.builtin "getset_descriptor.__get__"))
 tk:takesIn K (.builtin "object.__class__")=some true
 mo:mroIn K C (.type "object")=some true
 mb:mroIn K C (.type "BaseException")=some true
theorem XcOk.kit{K:Frag}(h:XcOk K C):KitX K (.ref x) (.ref C) (OfCls x C):=BJ h.ga h.gn h.at_ h.sp h.tk h.mo h.mb (k_ h.mo)
end PySem.W
namespace L2
open PySem PySem.Spec PyProof.Rows
inductive TyX where
 |nm (n:String) |xc (C:Hc)
inductive U where
 |non |bl (b:Bool) |int (i:Int) |str (x:Str) |ty (n:TyX) |dic |scr (xs:List U) |tup (xs:List U) |lst (xs:List U)
noncomputable def U.items:U->Option (List U)
 | .scr xs=>some xs
 | .tup xs=>some xs
 | .lst xs=>some xs
 |_=>none
noncomputable def hid(H:Hp)(O:List Hc):Hp:=λb=>if b∈O then none else H b
theorem iD(h:hid H O b=some o):H b=some o/\b ∉ O:=by
 unfold hid at h;split at h
 .cases h
 .exact⟨h,by assumption⟩
theorem dF(h:H b=some o)(n:b ∉ O):hid H O b=some o:=by
 unfold hid;rw[if_neg n];exact h
theorem aC:aY (hid H O) H:=λ_ _ h=>(iD h).1
theorem aM(e:aY H H'):aY (hid H O) (hid H' O):=λ_ _ h=>dF (e _ _ (iD h).1) (iD h).2
theorem fM(e:∀a∈O',a∈O):aY (hid H O) (hid H O'):=λ_ _ h=>dF (iD h).1 λz=>(iD h).2 (e _ z)
theorem bM(e:aY H H')(n:H a=none):aY (hid H O) (hid H' (a::O)):=λb o h=>by
 obtain⟨c,d⟩:=iD h;refine dF (e _ _ c) λz=>?_;rcases GF.mp z with y |y
 .subst y;rw[n]at c;cases c
 .exact d y
theorem oZ(h:a∈O):hid (upd H a o) O=hid H O:=by
 funext b
 unfold hid;split
 .rfl
 .rename_i n
  rw[aS λe=>n (by rw[e];exact h)]
inductive Rp (K:GE) (H:Hp):V->U->Prop where
 |non:Rp K H .non .non
 |bl (b:Bool):Rp K H (.bl b) (.bl b)
 |int (i:Int):Rp K H (.int i) (.int i)
 |str (x:Str):Rp K H (.str x) (.str x)
 |ty (n:String):Rp K H (.ty n) (.ty (.nm n))
 |dic {a:Hc}{S9:List (Key×V)} (h:H a=some (.dK S9)):Rp K H (.ref a) .dic
 |xc {a C:Hc} (h:H a=some (.ext (PySem.W.OfCls a C))) (k:PySem.W.XcOk K C):Rp K H (.ref a) (.ty (.xc C))
 |scr {a:Hc}{vs:List V}{xs:List U} (h:SqL K H a vs) (hl:vs.length=xs.length) (hi:∀(i:Nat) (v:V) (x:U),vs[i]?=some v->xs[i]?=some x->Rp K H v x):Rp K H (.ref a) (.scr xs)
 |tup {a:Hc}{vs:List V}{xs:List U} (h:SqT K H a vs) (hl:vs.length=xs.length) (hi:∀(i:Nat) (v:V) (x:U),vs[i]?=some v->xs[i]?=some x->Rp K H v x):Rp K H (.ref a) (.tup xs)
 |lst {a:Hc}{vs:List V}{xs:List U} (h:H a=some (.lst vs)) (hl:vs.length=xs.length) (hi:∀(i:Nat) (v:V) (x:U),vs[i]?=some v->xs[i]?=some x->Rp K H v x):Rp K H (.ref a) (.lst xs)
theorem Rp.same{K:GE}(e:aY H H')(h:Rp K H v u):Rp K H' v u:=by
 induction h with
 |non=>exact .non
 |bl b=>exact .bl b
 |int i=>exact .int i
 |str x=>exact .str x
 |ty n=>exact .ty n
 |dic h=>exact .dic (e _ _ h)
 |xc h k=>exact .xc (e _ _ h) k
 |scr h c d a=>exact .scr (e.seq h) c a
 |tup h c d a=>exact .tup (e.tup h) c a
 |lst h c d a=>exact .lst (e _ _ h) c a
structure Rps(K:GE)(H:Hp)(vs:List V)(xs:List U):Prop where
 len:vs.length=xs.length
 at_:∀(i:Nat) (v:V) (x:U),vs[i]?=some v->xs[i]?=some x->Rp K H v x
theorem Rps.same{K:GE}(e:aY H H')(h:Rps K H vs xs):Rps K H' vs xs:=⟨h.len,λi v x a b=>(h.at_ i v x a b).same e⟩
theorem Rps.nil{K:GE}:Rps K H [] []:=⟨rfl,λi v x h=>by simp at h⟩
theorem Rps.cons{K:GE}{H:Hp}{v:V}{x:U}{e:List V}{xs:List U}(h:Rp K H v x)(t:Rps K H e xs):Rps K H (v::e) (x::xs):=by
 refine⟨by simp[t.len],λi a b d c=>?_⟩;cases i with
 |zero=>simp at d c;subst d;subst c;exact h
 |succ i=>exact t.at_ i a b (by simpa using d) (by simpa using c)
theorem Rps.snoc{K:GE}(h:Rps K H vs xs)(t:Rps K H ws ys):Rps K H (vs++ws) (xs++ys):=by
 refine⟨by simp[h.len,t.len],λi a b d c=>?_⟩;by_cases e:i<vs.length
 .rw[Hg e]at d;rw[Hg (by rw[<-h.len];exact e)]at c
  exact h.at_ i a b d c
 .have f:=JU e;rw[Hj f]at d;rw[Hj (by rw[<-h.len];exact f),<-h.len]at c
  exact t.at_ _ a b d c
theorem Rps.get{K:GE}{i:Nat}(h:Rps K H vs xs)(e:xs[i]?=some x):∃v,vs[i]?=some v/\Rp K H v x:=by
 have a:i<vs.length:=by rw[h.len];exact (GV.mp e).1
 exact⟨vs[i],GC a,h.at_ i _ x (GC a) e⟩
theorem Rps.atI{K:GE}(h:Rps K H vs xs)(e:L2.atI xs i=some x):∃v,L2.atI vs i=some v/\Rp K H v x:=by
 unfold L2.atI at e |-;rw[h.len];cases q:ixN xs.length i with
 |none=>rw[q]at e;cases e
 |some j=>
  rw[q]at e;obtain⟨v,b,a⟩:=h.get e;exact⟨v,b,a⟩
theorem Rps.cons_inv{K:GE}(h:Rps K H vs (x::xs)):∃v c,vs=v::c/\Rp K H v x/\Rps K H c xs:=by
 cases vs with
 |nil=>have:=h.len;simp at this
 |cons v c=>
  refine⟨v,c,rfl,h.at_ 0 v x rfl rfl,by have:=h.len;simpa using this,λi a b e d=>h.at_ (i+1) a b (by simpa using e) (by simpa using d)⟩
theorem Rps.nil_inv{K:GE}(h:Rps K H vs []):vs=[]:=Js.mp (by rw[h.len];rfl)
structure DkR(K:GE)(H:Hp)(kv:List (Key×V))(S9:List (Str×U)):Prop where
 len:kv.length=S9.length
 at_:∀(i:Nat) (k:Key) (v:V) (x:Str) (u:U),kv[i]?=some (k,v)->S9[i]?=some (x,u)->k=.inr x/\Rp K H v u
theorem DkR.same{K:GE}(e:aY H H')(h:DkR K H kv S9):DkR K H' kv S9:=⟨h.len,λi k v x u a b=>⟨(h.at_ i k v x u a b).1,(h.at_ i k v x u a b).2.same e⟩⟩
inductive Sl where
 |val (u:U) |own (xs:List U) |pin (w:V) (u:U) |dsk (w:Bool) (C a d:Hc) (S9:List (Str×U))
noncomputable abbrev PSt:=List (Option Sl)
noncomputable def BK(K:GE)(H:Hp)(O c:List Hc)(v:V):Sl->Prop
 | .val u=>Rp K (hid H O) v u
 | .own xs=>∃a b,v=.ref a/\a∈O/\a ∉ c/\H a=some (.lst b)/\Rps K (hid H O) b xs
 | .pin w u=>v=w/\Rp K (hid H O) v u
 | .dsk w C a d g=>∃f e,v=.ref a∧d∈O∧(w=true→d ∉ c)∧H a=some (.ins C f [("lands",.ref d)])∧H d=some (.dK e)∧DkR K (hid H O) e g
structure Rs(K:GE)(H0:Hp)(O0:List Hc)(ps:PSt)(σ:St)(H:Hp)(O:List Hc):Prop where
 same:aY H0 H
 old:∀a∈O0,a∈O
 new:∀a∈O,a∈O0\/H0 a=none
 dom:∀a∈O,H a≠none
 len:σ.length=ps.length
 at_:∀(i:Nat) (s:Sl),ps[i]?=some (some s)->∃v,σ[i]?=some (some v)/\BK K H O O0 v s
 inj:∀(i j:Nat) (xs ys:List U) (a:Hc),ps[i]?=some (some (.own xs))->ps[j]?=some (some (.own ys))->σ[i]?=some (some (.ref a))->σ[j]?=some (some (.ref a))->i=j
section
variable {K:GE}{H0 H H':Hp}{O0 O:List Hc}{ps:PSt}{σ:St}
theorem BK.same(e:aY H H')(h:BK K H O O0 v s):BK K H' O O0 v s:=by
 cases s with
 |val u=>exact Rp.same (aM e) h
 |own o=>obtain⟨a,l,f,b,i,g,c⟩:=h;exact⟨a,l,f,b,i,e _ _ g,c.same (aM e)⟩
 |pin w u=>exact⟨h.1,Rp.same (aM e) h.2⟩
 |dsk w C a d n=>obtain⟨j,m,f,b,i,g,c,k⟩:=h;exact⟨j,m,f,b,i,e _ _ g,e _ _ c,k.same (aM e)⟩
theorem Rs.go(R:Rs K H0 O0 ps σ H O)(e:aY H H'):Rs K H0 O0 ps σ H' O:=
 ⟨R.same.trans e,R.old,R.new,λa b z=>R.dom a b (e.free z),R.len,λi s h=>let ⟨v,h1,h2⟩:=R.at_ i s h;⟨v,h1,h2.same e⟩,R.inj⟩
theorem d9{a:Type}{xs:List a}{y x:a}(h:(xs.set i y)[j]?=some x):(i=j/\x=y)\/(i≠j/\xs[j]?=some x):=by
 by_cases e:i=j
 .subst e;rw[NH]at h;simp at h;exact .inl ⟨rfl,h.2.symm⟩
 .rw[Hs e]at h;exact .inr ⟨e,h⟩
theorem jg{a:Type}{xs:List a}{y:a}(h:i<xs.length):(xs.set i y)[i]?=some y:=by rw[NH];simp[h]
theorem aH{a:Type}{xs:List a}{y:a}(h:xs[i]?=some y):i<xs.length:=(GV.mp h).1
theorem mF(h:(ps.set i (some (.val u)))[j]?=some (some (.own xs))):i≠j/\ps[j]?=some (some (.own xs)):=by
 rcases d9 h with ⟨_,e⟩ |h
 .cases e
 .exact h
theorem Rs.set(R:Rs K H0 O0 ps σ H O)(r:Rp K (hid H O) v u):Rs K H0 O0 (ps.set i (some (.val u))) (σ.set i (some v)) H O:=by
 refine⟨R.same,R.old,R.new,R.dom,by simp[R.len],λj s h=>?_,λj k o x a c b g d=>?_⟩
 .rcases d9 h with ⟨e,q⟩ |⟨n,q⟩
  .subst e;cases q;have f:=aH h;rw[Mh]at f;exact⟨v,jg (by rw[R.len];exact f),r⟩
  .obtain⟨w,c,b⟩:=R.at_ j s q;exact⟨w,by rw[Hs n];exact c,b⟩
 .obtain⟨t,m⟩:=mF c;obtain⟨p,l⟩:=mF b;rw[Hs t]at g;rw[Hs p]at d;exact R.inj j k o x a m l g d
theorem Rs.drop(R:Rs K H0 O0 ps σ H O):Rs K H0 O0 (ps.set i none) (σ.set i o) H O:=by
 have b:∀{j}{s},(ps.set i none)[j]?=some (some s)->i≠j/\ps[j]?=some (some s):=λ{j s} h=>by
  rcases d9 h with ⟨_,e⟩ |h
  .cases e
  .exact h
 refine⟨R.same,R.old,R.new,R.dom,by simp[R.len],λj s h=>?_,λj k p u a d c g f=>?_⟩
 .obtain⟨n,q⟩:=b h;obtain⟨w,d,c⟩:=R.at_ j s q;exact⟨w,by rw[Hs n];exact d,c⟩
 .obtain⟨t,m⟩:=b d;obtain⟨r,l⟩:=b c;rw[Hs t]at g;rw[Hs r]at f;exact R.inj j k p u a m l g f
theorem Rs.own(R:Rs K H0 O0 ps σ H O)(e:aY H H')(n:H a=none)(h:H' a=some (.lst vs))(r:Rps K (hid H' (a::O)) vs xs):
  Rs K H0 O0 (ps.set i (some (.own xs))) (σ.set i (some (.ref a))) H' (a::O):=by
 have J:a ∉ O:=λz=>R.dom a z n;have E:a ∉ O0:=λz=>J (R.old a z);have Y:=R.same.free n
 have S:∀(j:Nat) m,ps[j]?=some (some (.own m))->σ[j]?≠some (some (.ref a)):=λj m o g=>by
  obtain⟨v,c,b,L,f,Z,_⟩:=R.at_ j _ o;rw[g]at c;cases c;cases f;exact J Z
 refine⟨R.same.trans e,λb p=>GG _ (R.old b p),λb p=>?_,λb p z=>?_,by simp[R.len],λj s q=>?_,λj k m T b o g c f=>?_⟩
 .rcases GF.mp p with y |y
  .subst y;exact .inr Y
  .exact R.new b y
 .rcases GF.mp p with y |y
  .subst y;rw[h]at z;cases z
  .exact R.dom b y (e.free z)
 .rcases d9 q with ⟨W,F⟩ |⟨X,F⟩
  .subst W;cases F;have l:=aH q;rw[Mh]at l;exact⟨.ref a,jg (by rw[R.len];exact l),a,vs,rfl,GR,E,h,r⟩
  .obtain⟨w,o,g⟩:=R.at_ j s F;refine⟨w,by rw[Hs X];exact o,?_⟩;cases s with
   |val u=>exact Rp.same (bM e n) g
   |own m=>
    obtain⟨b,L,I,G,B,x,D⟩:=g;exact⟨b,L,I,GG _ G,B,e _ _ x,D.same (bM e n)⟩
   |pin z u=>exact⟨g.1,Rp.same (bM e n) g.2⟩
   |dsk w C b d S9=>obtain⟨U,kv,I,G,B,x,D,V⟩:=g;exact⟨U,kv,I,GG _ G,B,e _ _ x,e _ _ D,V.same (bM e n)⟩
 .rcases d9 o with ⟨P,A⟩ |⟨N,A⟩ <;>rcases d9 g with ⟨Q,t⟩ |⟨M,t⟩
  .rw[<-P,<-Q]
  .subst P;have l:=aH c;rw[Mh]at l;rw[jg l]at c;cases c;rw[Hs M]at f;exact absurd f (S k T t)
  .subst Q;have l:=aH f;rw[Mh]at l;rw[jg l]at f;cases f;rw[Hs N]at c;exact absurd c (S j m A)
  .rw[Hs N]at c;rw[Hs M]at f;exact R.inj j k m T b A t c f
theorem Rs.write(R:Rs K H0 O0 ps σ H O)(n:ps[i]?=some (some (.own xs)))(hs:σ[i]?=some (some (.ref a)))(r:Rps K (hid H O) vs ys):
  Rs K H0 O0 (ps.set i (some (.own ys))) σ (upd H a (.lst vs)) O:=by
 obtain⟨v,D,b,Y,Q,A,B,G,Z⟩:=R.at_ i _ n;rw[hs]at D;cases D;cases Q;have W:=(R.new a A).resolve_left B;have g:hid (upd H a (.lst vs)) O=hid H O:=oZ A;refine⟨R.same.put W _,R.old,R.new,λb U z=>?_,by simp[R.len],λj s q=>?_,λj k I E b P L N S=>?_⟩
 .by_cases e:b=a
  .subst e;rw[a9]at z;cases z
  .rw[aS e]at z;exact R.dom b U z
 .rcases d9 q with ⟨M,m⟩ |⟨T,m⟩
  .subst M;cases m;exact⟨.ref a,hs,a,vs,rfl,A,B,a9,by rw[g];exact r⟩
  .obtain⟨w,F,h⟩:=R.at_ j s m;refine⟨w,F,?_⟩;cases s with
   |val u=>exact (show Rp K (hid (upd H a (.lst vs)) O) w u by rw[g];exact h)
   |own I=>
    obtain⟨b,E,t,x,y,f,l⟩:=h;subst t;have:b≠a:=λz=>by subst z;exact T (R.inj i j xs I b n m hs F)
    exact⟨b,E,rfl,x,y,by rw[aS this];exact f,by rw[g];exact l⟩
   |pin z u=>exact⟨h.1,by rw[g];exact h.2⟩
   |dsk w C b d S9=>
    obtain⟨J,X,t,x,y,f,l,V⟩:=h;exact⟨J,X,t,x,y,by rw[aS λz=>by rw[z,G]at f;cases f];exact f,by rw[aS λz=>by rw[z,G]at l;cases l];exact l,by rw[g];exact V⟩
 .have p:∃c,ps[j]?=some (some (.own c)):=by
   rcases d9 P with ⟨e,_⟩ |⟨_,z⟩
   .subst e;exact⟨_,n⟩
   .exact⟨_,z⟩
  have o:∃c,ps[k]?=some (some (.own c)):=by
   rcases d9 L with ⟨e,_⟩ |⟨_,z⟩
   .subst e;exact⟨_,n⟩
   .exact⟨_,z⟩
  obtain⟨_,p⟩:=p;obtain⟨_,o⟩:=o;exact R.inj j k _ _ b p o N S
noncomputable def SubP:PSt->PSt->Prop
 |[],[]=>True
 |none::p,_::q=>SubP p q
 |some s::p,t::q=>t=some s/\SubP p q
 |_,_=>False
theorem SubP.at_:∀{p q},SubP p q->p.length=q.length/\∀(i:Nat) s,p[i]?=some (some s)->q[i]?=some (some s)
 |[],[],_=>⟨rfl,λi s h=>by simp at h⟩
 |none::p,t::q,h=>by
  obtain⟨b,a⟩:=SubP.at_ (q:=q) h;refine⟨by simp[b],λi s e=>?_⟩;cases i with
  |zero=>simp at e
  |succ i=>exact a i s (by simpa using e)
 |some s0::p,t::q,h=>by
  obtain⟨c,h⟩:=h;obtain⟨b,a⟩:=SubP.at_ h;refine⟨by simp[b],λi s e=>?_⟩;cases i with
  |zero=>simp at e;subst e;rw[c];rfl
  |succ i=>exact a i s (by simpa using e)
 |[],_::_,h=>h.elim
 |none::_,[],h=>h.elim
 |some _::_,[],h=>h.elim
theorem Rs.sub(R:Rs K H0 O0 ps σ H O)(h:SubP Tu ps):Rs K H0 O0 Tu σ H O:=by
 obtain⟨f,b⟩:=h.at_;exact⟨R.same,R.old,R.new,R.dom,R.len.trans f.symm,λi s e=>R.at_ i s (b i s e),λi j g c a d k=>R.inj i j g c a (b _ _ d) (b _ _ k)⟩
end
def Ev(X:Cx)(f:Hp)(c:List Hc)(b:PSt)(e:Expr)(u:U):Prop:=
 PE X e λd H Q=>∃O,Rs X.K f c b d H O/\∀v a,aY H a->Rp X.K (hid a O) v u->Q v a
def EvN(X:Cx)(h:Hp)(f:List Hc)(d:PSt)(e:Expr)(xs:List U):Prop:=
 PE X e λg H Q=>∃O,Rs X.K h f d g H O/\∀a c b,aY H b->H a=none->b a=some (.lst c)->Rps X.K (hid b (a::O)) c xs->Q (.ref a) b
def Tt(X:Cx)(g:Hp)(d:List Hc)(c:PSt)(e:Expr)(b:Bool):Prop:=
 PT X e λf H Q=>∃O,Rs X.K g d c f H O/\∀a,aY H a->Q b a
def Tw(X:Cx)(g:Hp)(d:List Hc)(c:PSt)(e:Expr)(b:Bool):Prop:=
 PW X e λf H Q=>∃O,Rs X.K g d c f H O/\∀a,aY H a->Q b a
def EvA(X:Cx)(g:Hp)(e:List Hc)(d:PSt)(c:List Expr)(us:List U):Prop:=
 PA X c λf H Q=>∃O,Rs X.K g e d f H O/\∀b a,aY H a->Rps X.K (hid a O) b us->Q b a
theorem PE.mono(h:PE X e t)(m:∀a H Q,t' a H Q->t a H Q):PE X e t':=λb s a H Q I q=>h b s a H Q I (m a H Q q)
theorem PT.mono(h:PT X e t)(m:∀a H Q,t' a H Q->t a H Q):PT X e t':=λb s a H Q I q=>h b s a H Q I (m a H Q q)
theorem PW.mono(h:PW X e t)(m:∀a H Q,t' a H Q->t a H Q):PW X e t':=λb c s a H Q I q=>h b c s a H Q I (m a H Q q)
theorem PA.mono(h:PA X e t)(m:∀a H Q,t' a H Q->t a H Q):PA X e t':=λb c s a H Q I q=>h b c s a H Q I (m a H Q q)
theorem PS.mono(h:PS X e t)(m:∀D a H,t' D a H->t D a H):PS X e t':=λb s a H D I q=>h b s a H D I (m D a H q)
theorem PSs.mono(h:PSs X e t)(m:∀D a H,t' D a H->t D a H):PSs X e t':=λb s a H D I q=>h b s a H D I (m D a H q)
variable {es:List Expr}
section
variable {X:Cx}{H0:Hp}{O0:List Hc}{ps:PSt}{a b c e:Expr}{pos p:Pos}{u x y:U}{xs ys us:List U}{i j:Int}
theorem EvN.ev(h:EvN X H0 O0 ps e xs):Ev X H0 O0 ps e (.lst xs):=PE.mono h λj H Q ⟨O,R,k⟩=>⟨O,R,λa i d s n h r=>by
 have f:a ∉ O:=λz=>R.dom a z n;have c:aY (hid d (a::O)) (hid d O):=fM λb g=>GG _ g;exact k _ d s (.lst (dF h f) (r.same c).len (r.same c).at_)⟩
theorem aa(i:Nat){x:Str}(h:ps[i]?=some (some (.val u)))(b:autoParam (X.N[i]?=some x) w4)(c:autoParam (Vis X.env.scope x) j0)(e:autoParam ((x==("__debug__":Str))=false) v0)
  (TX:autoParam ((x==("__classdict__":Str))=false) v0):Ev X H0 O0 ps (.Name x pos) u:=PE.mono (iI b c e TX) λf H Q ⟨O,R,k⟩=>by
 obtain⟨v,d,a⟩:=R.at_ i _ h;exact⟨v,d,k v H (.refl H) a⟩
theorem ag{i j pos}:Ev X H0 O0 ps (.Constant (.int i) j pos) (.int i):=PE.mono DL λ_ H _ ⟨_,_,k⟩=>k _ H (.refl H) (.int i)
theorem m_{i j pos}:Ev X H0 O0 ps (.Constant (.bool i) j pos) (.bl i):=PE.mono Fg λ_ H _ ⟨_,_,k⟩=>k _ H (.refl H) (.bl i)
theorem Cm{j pos}:Ev X H0 O0 ps (.Constant .none j pos) .non:=PE.mono DG λ_ H _ ⟨_,_,k⟩=>k _ H (.refl H) .non
theorem wX{i j pos}:Ev X H0 O0 ps (.Constant (.str i) j pos) (.str i):=PE.mono DE λ_ H _ ⟨_,_,k⟩=>k _ H (.refl H) (.str i)
theorem lw{x:Str}(a:Gl X x)(d:X.mg x=none)(c:IL x=some (.type n))(b:autoParam (x≠"__name__") v0)(e:autoParam ((x==("__debug__":Str))=false) v0):Ev X H0 O0 ps (.Name x pos) (.ty (.nm n)):=
 PE.mono (FB a d c b e) λ_ H _ ⟨_,_,k⟩=>k _ H (.refl H) (.ty n)
theorem two(R:Rs X.K H0 O0 ps σ H O)
  (ha:∀σ H Q,(∃O,Rs X.K H0 O0 ps σ H O/\∀v a,aY H a->Rp X.K (hid a O) v x->Q v a)->ta σ H Q) (hb:∀σ H Q,(∃O,Rs X.K H0 O0 ps σ H O/\∀v a,aY H a->Rp X.K (hid a O) v y->Q v a)->tb σ H Q)
  (h:∀v w a,aY H a->Rs X.K H0 O0 ps σ a O->Rp X.K (hid a O) v x->Rp X.K (hid a O) w y->r v w a Q):tOp r ta tb σ H Q:=
 ha σ H _ ⟨O,R,λv e c f=>hb σ e _ ⟨O,R.go c,λw g b d=>h v w g (c.trans b) (R.go (c.trans b)) (f.same (aM b)) d⟩⟩
theorem Cp{g:Int->Int->Int}(h:OpR X (Md op) (rI0 λi j=>.int (g i j)))(d:Ev X H0 O0 ps a (.int i))(f:Ev X H0 O0 ps b (.int j)):Ev X H0 O0 ps (.BinOp a op b pos) (.int (g i j)):=
 PE.mono (vC h d f) λm H Q ⟨O,R,k⟩=>two R (λ_ _ _ z=>z) (λ_ _ _ z=>z) λv w c s _ e l=>by
  cases e;cases l;exact⟨i,j,rfl,rfl,k _ c s (.int _)⟩
theorem p8{g:Int->Int->Int}(h:OpR X (Md op) (rI C λi j=>.int (g i j)))(d:Ev X H0 O0 ps a (.int i))(f:Ev X H0 O0 ps b (.int j))(m:C i j):Ev X H0 O0 ps (.BinOp a op b pos) (.int (g i j)):=
 PE.mono (vC h d f) λn H Q ⟨O,R,k⟩=>two R (λ_ _ _ z=>z) (λ_ _ _ z=>z) λv w c s _ e l=>by
  cases e;cases l;exact⟨i,j,rfl,rfl,m,k _ c s (.int _)⟩
theorem bH(c:Ev X H0 O0 ps a (.int i))(d:Ev X H0 O0 ps b (.int j)):Ev X H0 O0 ps (.BinOp a .Add b pos) (.int (i+j)):=Cp D5 c d
theorem bj(c:Ev X H0 O0 ps a (.int i))(d:Ev X H0 O0 ps b (.int j)):Ev X H0 O0 ps (.BinOp a .Sub b pos) (.int (i-j)):=Cp Dc c d
theorem aJ(d:Ev X H0 O0 ps a (.int i))(e:Ev X H0 O0 ps b (.int j))(c:IntMulOk i j):Ev X H0 O0 ps (.BinOp a .Mult b pos) (.int (i*j)):=p8 Bw d e c
theorem cO(d:Ev X H0 O0 ps a (.int i))(e:Ev X H0 O0 ps b (.int j))(c:CL i j):Ev X H0 O0 ps (.BinOp a .FloorDiv b pos) (.int (i/j)):=p8 xt d e c
theorem Et(d:Ev X H0 O0 ps a (.int i))(e:Ev X H0 O0 ps b (.int j))(c:Cd i j):Ev X H0 O0 ps (.BinOp a .FloorDiv b pos) (.int (i.fdiv j)):=p8 wV d e c
theorem bC(d:Ev X H0 O0 ps a (.int i))(e:Ev X H0 O0 ps b (.int j))(c:0<j):Ev X H0 O0 ps (.BinOp a .Mod b pos) (.int (i%j)):=p8 DQ d e c
theorem ut(d:Ev X H0 O0 ps a (.int i))(e:Ev X H0 O0 ps b (.int j))(c:Fs i j):Ev X H0 O0 ps (.BinOp a .Pow b pos) (.int (i ^ j.toNat)):=p8 Dp d e c
theorem bT(c:Ev X H0 O0 ps a (.int i)):Ev X H0 O0 ps (.UnaryOp .USub a pos) (.int (-i)):=
 PE.mono (Fv Dv c) λd H Q ⟨O,R,k⟩=>⟨O,R,λv b s r=>by cases r;exact⟨i,rfl,k _ b s (.int _)⟩⟩
end
def U.isN:U->Bool
 | .non=>true
 |_=>false
def U.isB(a:Bool):U->Bool
 | .bl b=>a==b
 | .int j=>(if a then 1 else 0)==j
 |_=>false
def U.isI(i:Int):U->Bool
 | .bl b=>i==(if b then 1 else 0)
 | .int j=>i==j
 |_=>false
def U.isS(a:Str):U->Bool
 | .str b=>a==b
 |_=>false
def U.isT(f:List U->Bool):U->Bool
 | .tup ys=>f ys
 |_=>false
def U.isL(f:List U->Bool):U->Bool
 | .lst ys=>f ys
 | .scr ys=>f ys
 |_=>false
def U.isC(f:U->Bool)(g:List U->Bool):List U->Bool
 |[]=>false
 |y::ys=>f y && g ys
mutual
def eqW:U->U->Bool
 | .non=>U.isN
 | .bl a=>U.isB a
 | .int i=>U.isI i
 | .str a=>U.isS a
 | .tup xs=>U.isT (eqWs xs)
 | .lst xs=>U.isL (eqWs xs)
 | .scr xs=>U.isL (eqWs xs)
 |_=>λ_=>false
def eqWs:List U->List U->Bool
 |[]=>List.isEmpty
 |x::xs=>U.isC (eqW x) (eqWs xs)
end
def U.okS(f:Nat->Bool):Nat->Bool
 |0=>false
 |n+1=>f n
mutual
def okU:Nat->U->Bool
 |_,.ty _=>false
 |_,.dic=>false
 |n,.tup a=>U.okS (λn=>okUs n a) n
 |n,.lst a=>U.okS (λn=>okUs n a) n
 |n,.scr a=>U.okS (λn=>okUs n a) n
 |_,_=>true
def okUs:Nat->List U->Bool
 |_,[]=>true
 |n,x::xs=>okU n x && okUs n xs
end
theorem jf:∀{n}{a}{i:Nat}{x},okUs n a=true->a[i]?=some x->okU n x=true
 |n,[],i,x,_,h=>by simp at h
 |n,y::a,0,x,h,e=>by simp at e;subst e;simp[okUs]at h;exact h.1
 |n,y::a,i+1,x,h,e=>by simp[okUs]at h;exact jf h.2 (by simpa using e)
theorem iY:∀b a,((HI (min b.length a.length)).all (λj=>eqW (b.getD j .non) (a.getD j .non)) && b.length==a.length)=eqWs b a
 |[],[]=>rfl
 |[],y::a=>rfl
 |x::b,[]=>rfl
 |x::b,y::a=>by
  have ih:=iY b a;show _=(eqW x y && eqWs b a);rw[<-ih];simp only[Ie,Nat.succ_min_succ];rw[List.range_succ_eq_map,M4,R9];have e:((b.length+1==a.length+1))=(b.length==a.length):=by simp
  rw[e,Bool.and_assoc];rfl
theorem IsU.list(I:Inv X SI σ H s){xs:List U}(h:SqL X.K H a vs)(c:vs.length=xs.length):∃its,aZ vs its/\s.heap.IsList a its.toArray/\its.length=xs.length:=by
 obtain⟨its,r,b,_⟩:=I.list h;exact⟨its,r,b.isList,by rw[<-r.length,c]⟩
theorem IsU.tup{X:Cx}{c:List (Hc×Obj)}{e:St}{H:Hp}{s:GP}(I:Inv X c e H s){a:Hc}{xs:List U}{b:List V}(h:SqT X.K H a b)(f:b.length=xs.length):∃its,aZ b its/\Pn s.heap a its.toArray/\its.length=xs.length:=by
 obtain⟨its,r,d,_⟩:=I.tuple h;exact⟨its,r,d,by rw[<-r.length,f]⟩
section
variable {X:Cx}{SI:List (Hc×Obj)}{σ:St}{H:Hp}{s:GP}
inductive Kd (s:GP):GM->U->Prop
 |non:Kd s .none .non
 |bl (b:Bool):Kd s (.bool b) (.bl b)
 |int (i:Int) (t:Tok):Kd s (.int i t) (.int i)
 |str (x:Str) (t:Tok):Kd s (.str x t) (.str x)
 |scr {a:Hc}{xs:List U}{its:List GM} (pl:s.heap.IsList a its.toArray):Kd s (.ref a) (.scr xs)
 |lst {a:Hc}{xs:List U}{its:List GM} (pl:s.heap.IsList a its.toArray):Kd s (.ref a) (.lst xs)
 |tup {a:Hc}{xs:List U}{its:List GM} (pl:Pn s.heap a its.toArray):Kd s (.ref a) (.tup xs)
structure D3(X:Cx)(H:Hp)(n:Nat)(xs:List U)(vs:List V)(its:List GM):Prop where
 r:aZ vs its
 l:its.length=xs.length
 hl:vs.length=xs.length
 hi:∀(i:Nat) (v:V) (x:U),vs[i]?=some v->xs[i]?=some x->Rp X.K H v x
 o:okUs n xs=true
theorem Rp.kd(I:Inv X SI σ H s){n:Nat}{v:V}{x:U}{p:GM}(R:Rp X.K H v x)(q:ba v p)(o:okU n x=true):Kd s p x:=by
 cases R with
 |non=>cases (show p=Lb from q);exact .non
 |bl b=>cases (show p=Lw b from q);exact .bl b
 |int i=>obtain⟨t,rfl⟩:=(show ∃t,p=Ma i t from q);exact .int i t
 |str i=>obtain⟨t,rfl⟩:=(show ∃t,p=Q4 i t from q);exact .str i t
 |scr d c e=>cases q;obtain⟨its,r,a,l⟩:=IsU.list I d c;exact .scr a
 |lst d c e=>cases q;obtain⟨its,r,a,l⟩:=IsU.list I (SqL.of d) c;exact .lst a
 |tup d c e=>cases q;obtain⟨its,r,a,l⟩:=IsU.tup I d c;exact .tup a
 |ty |dic |xc=>cases o
theorem sj{n:Nat}{f:Nat->Bool}(o:U.okS f n=true):∃m,n=m+1/\f m=true:=by
 cases n with
 |zero=>cases o
 |succ n=>exact⟨n,rfl,o⟩
theorem Rp.its(I:Inv X SI σ H s){n:Nat}{v:V}{x:U}{a:Hc}(R:Rp X.K H v x)(q:ba v (.ref a))(o:okU n x=true):∃m g h its,n=m+1/\D3 X H m g h its/\((SqL X.K H a h/\s.heap.IsList a its.toArray/\(x=.lst g\/x=.scr g))\/(SqT X.K H a h/\Pn s.heap a its.toArray/\x=.tup g)):=by
 cases R with
 |non |bl |int |str=>exact nomatch q
 |scr c b f=>cases q;obtain⟨m,e,o⟩:=sj o;obtain⟨its,r,d,l⟩:=IsU.list I c b;exact⟨m,_,_,its,e,⟨r,l,b,f,o⟩,.inl ⟨c,d,.inr rfl⟩⟩
 |lst c b f=>cases q;obtain⟨m,e,o⟩:=sj o;obtain⟨its,r,d,l⟩:=IsU.list I (SqL.of c) b;exact⟨m,_,_,its,e,⟨r,l,b,f,o⟩,.inl ⟨SqL.of c,d,.inl rfl⟩⟩
 |tup c b f=>cases q;obtain⟨m,e,o⟩:=sj o;obtain⟨its,r,d,l⟩:=IsU.tup I c b;exact⟨m,_,_,its,e,⟨r,l,b,f,o⟩,.inr ⟨c,d,rfl⟩⟩
 |ty |dic |xc=>cases o
structure Knd(s:GP)(P:GM->GM->Bool->Prop):Prop where
 nn:P .none .none true
 nb:∀b,P .none (.bool b) false
 ni:∀i t,P .none (.int i t) false
 ns:∀c t,P .none (.str c t) false
 bn:∀b,P (.bool b) .none false
 bb:∀a b,P (.bool a) (.bool b) (a==b)
 bi:∀a j t,P (.bool a) (.int j t) ((if a then 1 else 0)==j)
 bs:∀a c t,P (.bool a) (.str c t) false
 jn:∀i t,P (.int i t) .none false
 jb:∀i t b,P (.int i t) (.bool b) (i==(if b then 1 else 0))
 ji:∀i t j u,P (.int i t) (.int j u) (i==j)
 js:∀i t c u,P (.int i t) (.str c u) false
 sn:∀c t,P (.str c t) .none false
 sb:∀c t b,P (.str c t) (.bool b) false
 si:∀c t i u,P (.str c t) (.int i u) false
 ss:∀c t d u,P (.str c t) (.str d u) (c==d)
 nl:∀{l:Hc}{its:Array GM},s.heap.IsList l its->P .none (.ref l) false
 nt:∀{l:Hc}{its:Array GM},Pn s.heap l its->P .none (.ref l) false
 bl:∀{l:Hc}{its:Array GM} b,s.heap.IsList l its->P (.bool b) (.ref l) false
 bt:∀{l:Hc}{its:Array GM} b,Pn s.heap l its->P (.bool b) (.ref l) false
 jl:∀{l:Hc}{its:Array GM} i t,s.heap.IsList l its->P (.int i t) (.ref l) false
 jt:∀{l:Hc}{its:Array GM} i t,Pn s.heap l its->P (.int i t) (.ref l) false
 sl:∀{l:Hc}{its:Array GM} c t,s.heap.IsList l its->P (.str c t) (.ref l) false
 st:∀{l:Hc}{its:Array GM} c t,Pn s.heap l its->P (.str c t) (.ref l) false
 ln:∀{l:Hc}{its:Array GM},s.heap.IsList l its->P (.ref l) .none false
 tn:∀{l:Hc}{its:Array GM},Pn s.heap l its->P (.ref l) .none false
 lb:∀{l:Hc}{its:Array GM} b,s.heap.IsList l its->P (.ref l) (.bool b) false
 tb:∀{l:Hc}{its:Array GM} b,Pn s.heap l its->P (.ref l) (.bool b) false
 lj:∀{l:Hc}{its:Array GM} i t,s.heap.IsList l its->P (.ref l) (.int i t) false
 tj:∀{l:Hc}{its:Array GM} i t,Pn s.heap l its->P (.ref l) (.int i t) false
 ls:∀{l:Hc}{its:Array GM} c t,s.heap.IsList l its->P (.ref l) (.str c t) false
 ts:∀{l:Hc}{its:Array GM} c t,Pn s.heap l its->P (.ref l) (.str c t) false
theorem Knd.all{P:GM->GM->Bool->Prop}(k:Knd s P){p q:GM}{x y:U}(h:Kd s p x)(f:Kd s q y)(g:∀a b,p=.ref a->q=.ref b->P p q (eqW x y)):P p q (eqW x y):=by
 cases h with
 |non=>cases f with
  |non=>exact k.nn
  |bl b=>exact k.nb b
  |int i t=>exact k.ni i t
  |str c t=>exact k.ns c t
  |scr e |lst e=>exact k.nl e
  |tup e=>exact k.nt e
 |bl a=>cases f with
  |non=>exact k.bn a
  |bl b=>exact k.bb a b
  |int i t=>exact k.bi a i t
  |str c t=>exact k.bs a c t
  |scr e |lst e=>exact k.bl a e
  |tup e=>exact k.bt a e
 |int j u=>cases f with
  |non=>exact k.jn j u
  |bl b=>exact k.jb j u b
  |int i t=>exact k.ji j u i t
  |str c t=>exact k.js j u c t
  |scr e |lst e=>exact k.jl j u e
  |tup e=>exact k.jt j u e
 |str d u=>cases f with
  |non=>exact k.sn d u
  |bl b=>exact k.sb d u b
  |int i t=>exact k.si d u i t
  |str c t=>exact k.ss d u c t
  |scr e |lst e=>exact k.sl d u e
  |tup e=>exact k.st d u e
 |scr e |lst e=>cases f with
  |non=>exact k.ln e
  |bl b=>exact k.lb b e
  |int i t=>exact k.lj i t e
  |str c t=>exact k.ls c t e
  |_=>exact g _ _ rfl rfl
 |tup e=>cases f with
  |non=>exact k.tn e
  |bl b=>exact k.tb b e
  |int i t=>exact k.tj i t e
  |str c t=>exact k.ts c t e
  |_=>exact g _ _ rfl rfl
theorem BI(h:xs.length=ys.length)(c:∀(i:Nat) x y,xs[i]?=some x->ys[i]?=some y->eqW x y=true):eqWs xs ys=true:=by
 rw[<-iY,Ic,oh];refine⟨λj d=>?_,by simp[h]⟩;have a:j<xs.length:=by lia
 have b:j<ys.length:=by lia
 rw[G7,GC a,G7,GC b];exact c j _ _ (GC a) (GC b)
theorem Rp.one_of(I:Inv X SI σ H s){n:Nat}{v:V}{x y:U}{p:GM}(M:∀m,n=m+1->∀{v:V}{x y:U}{p:GM},Rp X.K H v x->Rp X.K H v y->ba v p->okU m x=true->okU m y=true->eqW x y=true)(J:Rp X.K H v x)(F:Rp X.K H v y)(q:ba v p)(E:okU n x=true)(D:okU n y=true):eqW x y=true:=by
 have g:∀a,p=.ref a->eqW x y=true:=λa e=>by
  subst e;obtain⟨m,O,L,its,j,f,h⟩:=J.its I q E;obtain⟨Q,P,N,G,k,C,d⟩:=F.its I q D;subst j;cases k
  have c:L=N->eqWs O P=true:=by
   rintro rfl;refine BI (f.hl.symm.trans C.hl) λi x y j k=>?_;have w:=f.hl ▸ aH j;obtain⟨u,_,q⟩:=f.r.get (GC w);exact M _ rfl (f.hi i _ x (GC w) j) (C.hi i _ y (GC w) k) q (jf f.o j) (jf C.o k)
  rcases h with ⟨z,B,h⟩ |⟨z,B,h⟩ <;>rcases d with ⟨t,A,d⟩ |⟨t,A,d⟩
  .rcases h with rfl |rfl <;>rcases d with rfl |rfl <;>exact c (I.list_inj z t)
  .exact absurd rfl (SeqAt.ne_of_list_tuple B A)
  .exact absurd rfl (SeqAt.ne_of_list_tuple A B)
  .subst h d;exact c (I.tuple_inj z t)
 have l:=F.kd I q D;cases J.kd I q E with
 |non=>cases l;rfl
 |bl b=>cases l;exact beq_self_eq_true b
 |int b=>cases l;exact beq_self_eq_true b
 |str b=>cases l;exact beq_self_eq_true b
 |_=>exact g _ rfl
theorem Rp.one(I:Inv X SI σ H s):∀n {v}{x y}{p},Rp X.K H v x->Rp X.K H v y->ba v p->okU n x=true->okU n y=true->eqW x y=true:=by
 intro n
 induction n with
 |zero=>exact Rp.one_of I λm e=>by cases e
 |succ n a=>exact Rp.one_of I λ_ e=>by cases e;exact a
theorem yo{A:HM}(a:A.units<KZ):Knd s (SeqAt.EqAt A s):=⟨SeqAt.EqAt.same _,SeqAt.EqAt.none_bool,SeqAt.EqAt.none_int,SeqAt.EqAt.none_str,SeqAt.EqAt.bool_none,SeqAt.EqAt.bool_bool,SeqAt.EqAt.bool_int,SeqAt.EqAt.bool_str,SeqAt.EqAt.int_none,SeqAt.EqAt.int_bool,SeqAt.EqAt.int_int,SeqAt.EqAt.int_str,SeqAt.EqAt.str_none,SeqAt.EqAt.str_bool,SeqAt.EqAt.str_int,SeqAt.EqAt.str_str,(SeqAt.EqAt.none_list · a),(SeqAt.EqAt.none_tuple · a),(SeqAt.EqAt.bool_list · · a),(SeqAt.EqAt.bool_tuple · · a),(SeqAt.EqAt.int_list · · · a),(SeqAt.EqAt.int_tuple · · · a),(SeqAt.EqAt.str_list · · · a),(SeqAt.EqAt.str_tuple · · · a),(SeqAt.EqAt.list_none · a),(SeqAt.EqAt.tuple_none · a),(SeqAt.EqAt.list_bool · · a),(SeqAt.EqAt.tuple_bool · · a),(SeqAt.EqAt.list_int · · · a),(SeqAt.EqAt.tuple_int · · · a),(SeqAt.EqAt.list_str · · · a),(SeqAt.EqAt.tuple_str · · · a)⟩
theorem zE{A:HM}(a:A.units<KZ):Knd s (SeqAt.RcAt A s):=⟨SeqAt.RcAt.none_none,SeqAt.RcAt.none_bool,SeqAt.RcAt.none_int,SeqAt.RcAt.none_str,SeqAt.RcAt.bool_none,SeqAt.RcAt.bool_bool,SeqAt.RcAt.bool_int,SeqAt.RcAt.bool_str,SeqAt.RcAt.int_none,SeqAt.RcAt.int_bool,SeqAt.RcAt.int_int,SeqAt.RcAt.int_str,SeqAt.RcAt.str_none,SeqAt.RcAt.str_bool,SeqAt.RcAt.str_int,SeqAt.RcAt.str_str,(SeqAt.RcAt.none_list · a),(SeqAt.RcAt.none_tuple · a),(SeqAt.RcAt.bool_list · · a),(SeqAt.RcAt.bool_tuple · · a),(SeqAt.RcAt.int_list · · · a),(SeqAt.RcAt.int_tuple · · · a),(SeqAt.RcAt.str_list · · · a),(SeqAt.RcAt.str_tuple · · · a),(SeqAt.RcAt.list_none · a),(SeqAt.RcAt.tuple_none · a),(SeqAt.RcAt.list_bool · · a),(SeqAt.RcAt.tuple_bool · · a),(SeqAt.RcAt.list_int · · · a),(SeqAt.RcAt.tuple_int · · · a),(SeqAt.RcAt.list_str · · · a),(SeqAt.RcAt.tuple_str · · · a)⟩
structure Knq(A:HM)(s:GP)(P:GM->GM->Bool->Prop):Prop where
 k:Knd s P
 ll:∀{a b:Hc}{xs ys:Array GM}{e:Nat->Bool},s.heap.IsList a xs->s.heap.IsList b ys->xs.size=ys.size->(∀j (h1:j<xs.size) (h2:j<ys.size),SeqAt.EqAt A.in1 s xs[j] ys[j] (e j))->P (.ref a) (.ref b) ((HI xs.size).all e)
 ln:∀{a b:Hc}{xs ys:Array GM},s.heap.IsList a xs->s.heap.IsList b ys->(xs.size !=ys.size)=true->P (.ref a) (.ref b) false
 lt:∀{a b:Hc}{xs ys:Array GM},s.heap.IsList a xs->Pn s.heap b ys->P (.ref a) (.ref b) false
 tl:∀{a b:Hc}{xs ys:Array GM},Pn s.heap a xs->s.heap.IsList b ys->P (.ref a) (.ref b) false
 tt:∀{a b:Hc}{xs ys:Array GM}{e:Nat->Bool},Pn s.heap a xs->Pn s.heap b ys->(∀j (h1:j<xs.size) (h2:j<ys.size),SeqAt.EqAt A.in1 s xs[j] ys[j] (e j))->P (.ref a) (.ref b) ((HI (min xs.size ys.size)).all e && xs.size==ys.size)
theorem Au(I:Inv X SI σ H s){n:Nat}{C D:List V}{xs ys:List U}{c h:List GM}(d:D3 X H n xs C c)(f:D3 X H n ys D h){A:HM}
  (rc0:∀(x y:U) (v w:V) (p q:GM),Rp X.K H v x->Rp X.K H w y->ba v p->ba w q->okU n x=true->okU n y=true->SeqAt.RcAt A s p q (eqW x y)) (hu:A.units<KZ)
  (j:Nat) (j1:j<c.length) (j2:j<h.length):SeqAt.EqAt A s c[j] h[j] (eqW (xs.getD j .non) (ys.getD j .non)):=by
 have E:j<C.length:=d.r.length ▸ j1;have B:j<D.length:=f.r.length ▸ j2;obtain⟨x,u⟩:∃x,xs[j]?=some x:=⟨_,GC (d.l ▸ j1)⟩;obtain⟨y,k⟩:∃y,ys[j]?=some y:=⟨_,GC (f.l ▸ j2)⟩;rw[G7,G7,u,k];have z:=d.hi j _ x (GC E) u;have R2:=f.hi j _ y (GC B) k;obtain⟨p,G,g⟩:=d.r.get (GC E);obtain⟨q,J,i⟩:=f.r.get (GC B);rw[show c[j]=p from HK ((GC j1).symm.trans G),show h[j]=q from HK ((GC j2).symm.trans J)];have t:=jf d.o u;have m:=jf f.o k;refine (yo hu).all (z.kd I g t) (R2.kd I i m) λa b F L=>?_;subst F L;by_cases e:a=b
 .subst e;rw[<-g.inj i]at R2;show SeqAt.EqAt A s _ _ (eqW x y);rw[Rp.one I n z R2 g t m];exact SeqAt.EqAt.same _
 .exact SeqAt.EqAt.of_refs e (rc0 x y _ _ _ _ z R2 g i t m)
theorem Knq.all{A:HM}{P:GM->GM->Bool->Prop}(k:Knq A s P)(I:Inv X SI σ H s){n:Nat}{x y:U}{v w:V}{p q:GM}(h:∀m,n=m+1->∀(x y:U) (v w:V) (p q:GM),Rp X.K H v x->Rp X.K H w y->ba v p->ba w q->okU m x=true->okU m y=true->SeqAt.RcAt A.in1 s p q (eqW x y))(F:∀m,n=m+1->A.in1.units<KZ)
  (R1:Rp X.K H v x) (R2:Rp X.K H w y) (q1:ba v p) (q2:ba w q) (o1:okU n x=true) (o2:okU n y=true):P p q (eqW x y):=by
 refine k.k.all (R1.kd I q1 o1) (R2.kd I q2 o2) λa b B G=>?_;subst B G;obtain⟨m,o,J,its,D,i,d⟩:=R1.its I q1 o1;obtain⟨M,t,L,C,E,j,c⟩:=R2.its I q2 o2;subst D;cases E;have r:=Au I i j (h m rfl) (F m rfl);rcases d with ⟨z,f,d⟩ |⟨z,f,d⟩ <;>rcases c with ⟨u,e,c⟩ |⟨u,e,c⟩
 .have:P (.ref a) (.ref b) (eqWs o t):=by
   rw[<-iY,<-i.l,<-j.l];by_cases g:its.length=C.length
   .have:=k.ll f e g r;rw[<-g,Nat.min_self,beq_self_eq_true,Bool.and_true];exact this
   .rw[beq_false_of_ne g,Pz];exact k.ln f e (bne_iff_ne.mpr g)
  rcases d with rfl |rfl <;>rcases c with rfl |rfl <;>exact this
 .subst c;rcases d with rfl |rfl <;>exact k.lt f e
 .subst d;rcases c with rfl |rfl <;>exact k.tl f e
 .subst d c;show P _ _ (eqWs o t);rw[<-iY,<-i.l,<-j.l];exact k.tt f e r
theorem pX{A:HM}(a:A.units<KZ):Knq A s (SeqAt.RcAt A s):=⟨zE a,(SeqAt.RcAt.lists · · · a ·),(SeqAt.RcAt.lists_lengths · · · a),(SeqAt.RcAt.list_tuple · · a),(SeqAt.RcAt.tuple_list · · a),(SeqAt.RcAt.tuples · · a ·)⟩
theorem Fd(I:Inv X SI σ H s):∀n A x y v w p q,Rp X.K H v x->Rp X.K H w y->ba v p->ba w q->okU n x=true->okU n y=true->A.units+n<KZ->SeqAt.RcAt A s p q (eqW x y):=by
 intro n
 induction n with
 |zero=>exact λA x y v w p q g R2 c b f d a=>(pX a).all I (λm e=>by cases e) (λm e=>by cases e) g R2 c b f d
 |succ n i=>
  intro A x y v w p q g R2 c b f d a;have h:A.in1.units+n<KZ:=NJ A.units n ▸ a;exact (pX (IK (HQ _ _) a)).all I (λ_ e x y v w p q j k r o t l=>by cases e;exact i A.in1 x y v w p q j k r o t l h) (λ_ _=>IK (HQ _ n) h) g R2 c b f d
theorem yd{A:HM}(a:A.units<KZ):Knq A s (λp q b=>SeqAt.RcNeAt A s p q (!b)):=⟨⟨SeqAt.RcNeAt.none_none,SeqAt.RcNeAt.none_bool,SeqAt.RcNeAt.none_int,SeqAt.RcNeAt.none_str,SeqAt.RcNeAt.bool_none,SeqAt.RcNeAt.bool_bool,SeqAt.RcNeAt.bool_int,SeqAt.RcNeAt.bool_str,SeqAt.RcNeAt.int_none,SeqAt.RcNeAt.int_bool,SeqAt.RcNeAt.int_int,SeqAt.RcNeAt.int_str,SeqAt.RcNeAt.str_none,SeqAt.RcNeAt.str_bool,SeqAt.RcNeAt.str_int,SeqAt.RcNeAt.str_str,(SeqAt.RcNeAt.none_list · a),(SeqAt.RcNeAt.none_tuple · a),(SeqAt.RcNeAt.bool_list · · a),(SeqAt.RcNeAt.bool_tuple · · a),(SeqAt.RcNeAt.int_list · · · a),(SeqAt.RcNeAt.int_tuple · · · a),(SeqAt.RcNeAt.str_list · · · a),(SeqAt.RcNeAt.str_tuple · · · a),(SeqAt.RcNeAt.list_none · a),(SeqAt.RcNeAt.tuple_none · a),(SeqAt.RcNeAt.list_bool · · a),(SeqAt.RcNeAt.tuple_bool · · a),(SeqAt.RcNeAt.list_int · · · a),(SeqAt.RcNeAt.tuple_int · · · a),(SeqAt.RcNeAt.list_str · · · a),(SeqAt.RcNeAt.tuple_str · · · a)⟩,(SeqAt.RcNeAt.lists · · · a ·),(SeqAt.RcNeAt.lists_lengths · · · a),(SeqAt.RcNeAt.list_tuple · · a),(SeqAt.RcNeAt.tuple_list · · a),(SeqAt.RcNeAt.tuples · · a ·)⟩
theorem DT(I:Inv X SI σ H s)(n)(A)(x y)(v w)(p q)(m:Rp X.K H v x)(i:Rp X.K H w y)(d:ba v p)(c:ba w q)(g:okU (n+1) x=true)(f:okU (n+1) y=true)(b:A.units+(n+1)<KZ):SeqAt.RcNeAt A s p q (!eqW x y):=by
 have a:A.in1.units+n<KZ:=NJ A.units n ▸ b;exact (yd (IK (HQ _ _) b)).all I (λ_ e x y v w p q h j o l r k=>by cases e;exact Fd I n A.in1 x y v w p q h j o l r k a) (λ_ _=>IK (HQ _ n) a) m i d c g f
end
def OpS(X:Cx)(f:GM->GM->Sem GM)(x y:U)(z:V):Prop:=OpR X f λv w H Q=>Rp X.K H v x/\Rp X.K H w y/\Q z H
section
variable {X:Cx}{H0:Hp}{O0:List Hc}{ps:PSt}{a b c e:Expr}{rest:List Expr}{pos p:Pos}{u x y:U}{xs ys us:List U}{i j:Int}{k m:Bool}
theorem Rp.out{K:GE}(h:Rp K (hid H O) v u):Rp K H v u:=h.same aC
theorem dw(i:OpS X (Iw op) x y (.bl k))(e:Ev X H0 O0 ps a x)(h:Ev X H0 O0 ps b y)(g:Kk op b=false:=by first |exact Ap _ |with_unfolding_all rfl):Ev X H0 O0 ps (.Compare a [op] [b] pos) (.bl k):=
 PE.mono (A2 i e h g) λj H Q ⟨O,R,q⟩=>two R (λ_ _ _ z=>z) (λ_ _ _ z=>z) λv w c s _ f d=>⟨f.out,d.out,q _ c s (.bl _)⟩
theorem aw(i:OpS X (Iw op) x y (.bl k))(e:Ev X H0 O0 ps a x)(h:Ev X H0 O0 ps b y)(g:Kk op b=false:=by first |exact Ap _ |with_unfolding_all rfl):Tt X H0 O0 ps (.Compare a [op] [b] pos) k:=
 PT.mono (Bj i e h g) λj H Q ⟨O,R,q⟩=>two R (λ_ _ _ z=>z) (λ_ _ _ z=>z) λv w c s _ f d=>⟨f.out,d.out,_,rfl,q c s⟩
theorem xZ{g:Int->Int->Bool}(e:OpR X (Iw op) (rI0 λi j=>.bl (g i j))):OpS X (Iw op) (.int i) (.int j) (.bl (g i j)):=by
 intro b s k H v w p q Q I c f h;obtain⟨d,a,l⟩:=h;cases d;cases a;exact e b s k H _ _ _ _ Q I c f ⟨i,j,rfl,rfl,l⟩
theorem d8:OpS X (Iw .Lt) (.int i) (.int j) (.bl (decide (i<j))):=xZ E2
theorem F3:OpS X (Iw .LtE) (.int i) (.int j) (.bl (decide (i<=j))):=xZ EU
theorem eo:OpS X (Iw .Gt) (.int i) (.int j) (.bl (decide (j<i))):=xZ Fc
theorem F1(j:X.A.units+10<KZ)(d:okU 9 x=true)(b:okU 9 y=true):OpS X (Iw .Eq) x y (.bl (eqW x y)):=by
 intro i s k H v w p q Q I c e h;obtain⟨g,f,a⟩:=h;exact Fd I 9 X.A x y v w p q g f c e d b (by lia) X.prog X.w _ _ (lG I a rfl)
theorem Gg(j:X.A.units+10<KZ)(d:okU 9 x=true)(b:okU 9 y=true):OpS X (Iw .NotEq) x y (.bl (!eqW x y)):=by
 intro i s k H v w p q Q I c e h;obtain⟨g,f,a⟩:=h;exact DT I 8 X.A x y v w p q g f c e d b (by omega) X.prog X.w _ _ (lG I a rfl)
theorem aW:OpS X (Iw .Eq) (.int i) (.int j) (.bl (decide (i=j))):=by
 rintro g s h H v w p q Q I c a ⟨d,b,e⟩;cases d;cases b;obtain⟨t,rfl⟩:=c;obtain⟨f,rfl⟩:=a;exact eq_int (lG I e (OT i j))
theorem j3:OpS X (Iw .NotEq) (.int i) (.int j) (.bl (!decide (i=j))):=by
 rintro g s h H v w p q Q I c a ⟨d,b,e⟩;cases d;cases b;obtain⟨t,rfl⟩:=c;obtain⟨f,rfl⟩:=a;exact ne_int (lG I e (by rw[bne,OT]))
theorem Ce{j S6}(c:Ev X H0 O0 ps a x)(h:∀K H v,Rp K H v x->decide (v=V.non)=k):Tt X H0 O0 ps (.Compare a [.Is] [.Constant .none j S6] pos) k:=
 PT.mono (w6 (CS c)) λd H Q ⟨O,R,q⟩=>⟨O,R,λv b s r=>⟨_,rfl,by rw[h _ _ v r];exact q b s⟩⟩
theorem o5{j S6}(c:Ev X H0 O0 ps a x)(h:∀K H v,Rp K H v x->decide (v=V.non)=k):Tt X H0 O0 ps (.Compare a [.IsNot] [.Constant .none j S6] pos) (!k):=
 PT.mono (w6 (Bo c)) λd H Q ⟨O,R,q⟩=>⟨O,R,λv b s r=>⟨_,rfl,by rw[h _ _ v r];exact q b s⟩⟩
noncomputable def Ax:U->Bool | .non=>true |_=>false
theorem jJ(x):∀K H v,Rp K H v x->decide (v=V.non)=Ax x:=λK H v r=>by
 cases r <;>simp[Ax]
theorem c9(h:Ev X H0 O0 ps e (.bl k))(c:autoParam (∀a,isTrue e X.env a=(do let v <-a;standAt e.pos;Q5 [v] (truthy v))) q0):Tt X H0 O0 ps e k:=
 PT.mono (Db h c) λd H Q ⟨O,R,q⟩=>⟨O,R,λv b s r=>by cases r;exact⟨_,rfl,q b s⟩⟩
theorem dj(h:Tt X H0 O0 ps a k):Tt X H0 O0 ps (.UnaryOp .Not a pos) (!k):=PT.mono (DY h) λb H Q ⟨O,R,q⟩=>⟨O,R,q⟩
theorem Tw.t(h:Tw X H0 O0 ps e k):Tt X H0 O0 ps e k:=h.pt
theorem jH(h:Tt X H0 O0 ps a k):Tw X H0 O0 ps (.BoolOp .And [a] pos) k:=BD h
theorem ju(h:Tt X H0 O0 ps a k):Tw X H0 O0 ps (.BoolOp .Or [a] pos) k:=Dd h
theorem lh(d:Tt X H0 O0 ps a k)(i:k=true->Tw X H0 O0 ps (.BoolOp .And (b::rest) pos) m):Tw X H0 O0 ps (.BoolOp .And (a::b::rest) pos) (k && m):=by
 cases k with
 |true=>exact PW.mono (zg d (i rfl)) λf H Q ⟨O,R,q⟩=>⟨O,R,λc s=>by exact oF (⟨O,R.go s,λg e=>q g (s.trans e)⟩)⟩
 |false=>exact PW.mono (zg d (λ_ _ _ _ _ _ _ h=>h.elim) (tB':=λ_ _ _=>False)) λf H Q ⟨O,R,q⟩=>⟨O,R,λc s=>by exact oD (q c s)⟩
theorem kh(d:Tt X H0 O0 ps a k)(i:k=false->Tw X H0 O0 ps (.BoolOp .Or (b::rest) pos) m):Tw X H0 O0 ps (.BoolOp .Or (a::b::rest) pos) (k ||m):=by
 cases k with
 |false=>exact PW.mono (Cv d (i rfl)) λf H Q ⟨O,R,q⟩=>⟨O,R,λc s=>by exact oD (⟨O,R.go s,λg e=>q g (s.trans e)⟩)⟩
 |true=>exact PW.mono (Cv d (λ_ _ _ _ _ _ _ h=>h.elim) (tB':=λ_ _ _=>False)) λf H Q ⟨O,R,q⟩=>⟨O,R,λc s=>by exact oF (q c s)⟩
theorem oj{op}(h:Ev X H0 O0 ps a u):Ev X H0 O0 ps (.BoolOp op [a] pos) u:=C9 h
theorem nY(d:Ev X H0 O0 ps a (.bl k))(j:k=true->Ev X H0 O0 ps (.BoolOp .And (b::rest) pos) (.bl m)):Ev X H0 O0 ps (.BoolOp .And (a::b::rest) pos) (.bl (k && m)):=by
 cases k with
 |true=>exact PE.mono (AD d (j rfl)) λg H Q ⟨O,R,q⟩=>⟨O,R,λv c s r=>by cases r;exact⟨_,rfl,by exact oF (⟨O,R.go s,λv i f e=>q v i (s.trans f) e⟩)⟩⟩
 |false=>exact PE.mono (AD d (λ_ _ _ _ _ _ h=>h.elim) (tb:=λ_ _ _=>False)) λg H Q ⟨O,R,q⟩=>⟨O,R,λv c s r=>by cases r;exact⟨_,rfl,by exact oD (q _ c s (.bl _))⟩⟩
theorem EK(d:Ev X H0 O0 ps a (.bl k))(j:k=false->Ev X H0 O0 ps (.BoolOp .Or (b::rest) pos) (.bl m)):Ev X H0 O0 ps (.BoolOp .Or (a::b::rest) pos) (.bl (k ||m)):=by
 cases k with
 |false=>exact PE.mono (CI d (j rfl)) λg H Q ⟨O,R,q⟩=>⟨O,R,λv c s r=>by cases r;exact⟨_,rfl,by exact oD (⟨O,R.go s,λv i f e=>q v i (s.trans f) e⟩)⟩⟩
 |true=>exact PE.mono (CI d (λ_ _ _ _ _ _ h=>h.elim) (tb:=λ_ _ _=>False)) λg H Q ⟨O,R,q⟩=>⟨O,R,λv c s r=>by cases r;exact⟨_,rfl,by exact oF (q _ c s (.bl _))⟩⟩
theorem Ck(c:Ev X H0 O0 ps a (.bl k)):Ev X H0 O0 ps (.UnaryOp .Not a pos) (.bl (!k)):=PE.mono (Dw c) λd H Q ⟨O,R,q⟩=>⟨O,R,λv b s r=>by cases r;exact⟨_,rfl,q _ b s (.bl _)⟩⟩
theorem Cr(g:Tt X H0 O0 ps c k)(j:k=true->Ev X H0 O0 ps a u)(m:k=false->Ev X H0 O0 ps b u):Ev X H0 O0 ps (.IfExp c a b pos) u:=by
 cases k with
 |true=>exact PE.mono (rD g (j rfl) (λ_ _ _ _ _ _ h=>h.elim) (tb:=λ_ _ _=>False)) λl H Q ⟨O,R,q⟩=>⟨O,R,λi s=>by exact oF (⟨O,R.go s,λv f e d=>q v f (s.trans e) d⟩)⟩
 |false=>exact PE.mono (rD g (λ_ _ _ _ _ _ h=>h.elim) (m rfl) (ta:=λ_ _ _=>False)) λl H Q ⟨O,R,q⟩=>⟨O,R,λi s=>by exact oD (⟨O,R.go s,λv f e d=>q v f (s.trans e) d⟩)⟩
theorem ak:EvA X H0 O0 ps [] []:=PA.mono dZ λa H Q ⟨O,R,q⟩=>q [] H (.refl H) .nil
theorem ae(d:Ev X H0 O0 ps e u)(f:EvA X H0 O0 ps es us)(hs:autoParam (GO (e::es) X.env=(false,Kg e X.env)::GO es X.env) w4):EvA X H0 O0 ps (e::es) (u::us):=
 PA.mono (cp d f hs) λk H Q ⟨O,R,q⟩=>⟨O,R,λv i b g=>⟨O,R.go b,λj h a c=>q _ h (b.trans a) (.cons (g.same (aM a)) c)⟩⟩
theorem Rs.hidnew{K:GE}(R:Rs K H0 O0 ps σ H O){p:Hc}(n:H p=none):hid (upd H p o) O p=some o:=dF a9 λz=>R.dom p z n
theorem FE{x1}(h:EvA X H0 O0 ps es us)(g:autoParam (us.length<=sizeLine) k4):Ev X H0 O0 ps (.Tuple es x1 pos) (.tup us):=
 PE.mono (DV h) λj H Q ⟨O,R,q⟩=>⟨O,R,λf i c d=>⟨by rw[d.len];exact g,λp e=>by
  have b:=aQ e (.tup f);have a:=d.same (aM b);exact q _ _ (c.trans b) (.tup (SqT.of ((R.go c).hidnew e)) a.len a.at_)⟩⟩
theorem FH(h:EvA X H0 O0 ps es us)(d:autoParam (us.length<=sizeLine) k4):EvN X H0 O0 ps (.List es pos) us:=
 PE.mono (Ds h) λg H Q ⟨O,R,q⟩=>⟨O,R,λe f b c=>⟨by rw[c.len];exact d,λp a=>by
  exact q p e _ (b.trans (aQ a _)) (b.free a) a9 (c.same (bM (aQ a _) a))⟩⟩
theorem ax(l:Ev X H0 O0 ps a x)(n:Ev X H0 O0 ps b (.int i))(g:x.items=some xs)(k:atI xs i=some u)(hs:oK b:=by intro _ _;rfl):Ev X H0 O0 ps (.Subscript a b pos) u:=
 PE.mono (Cl (tZ.or Dx) l n hs) λp H Q ⟨O,R,q⟩=>two R (λ_ _ _ z=>z) (λ_ _ _ z=>z) λv w j s _ m o=>by
  cases o;cases m with
  |scr h c f=>cases g;obtain⟨z,e,d⟩:=Rps.atI ⟨c,f⟩ k;exact .inl ⟨_,_,i,z,rfl,rfl,aC.seq h,e,q z j s d⟩
  |lst h c f=>cases g;obtain⟨z,e,d⟩:=Rps.atI ⟨c,f⟩ k;exact .inl ⟨_,_,i,z,rfl,rfl,aC.seq (SqL.of h),e,q z j s d⟩
  |tup h c f=>cases g;obtain⟨z,e,d⟩:=Rps.atI ⟨c,f⟩ k;exact .inr ⟨_,_,i,z,rfl,rfl,aC.tup h,e,q z j s d⟩
  |_=>cases g
theorem fh(n:Nat){x:Str}(h:ps[n]?=some (some (.own xs)))(k:Ev X H0 O0 ps b (.int i))(g:atI xs i=some u)(l:autoParam (X.N[n]?=some x) w4)(d:autoParam (Vis X.env.scope x) j0)(e:autoParam ((x==("__debug__":Str))=false) v0)
  (TX:autoParam ((x==("__classdict__":Str))=false) v0) (hs:oK b:=by intro _ _;rfl):Ev X H0 O0 ps (.Subscript (.Name x p) b pos) u:=
 PE.mono (Cl tZ (iI l d e TX) k hs) λC H Q A=>by
  obtain⟨O,R,q⟩:=A;obtain⟨v,j,a,c,rfl,D,B,y,m⟩:=R.at_ n _ h;refine⟨_,j,O,R,λw f s r=>?_⟩;cases r;obtain⟨z,t,o⟩:=m.atI g;exact⟨a,c,i,z,rfl,rfl,SqL.of (s _ _ y),t,q z f s (o.same (aM s))⟩
def eA(X:Cx)(f:GM)(us:List U)(u:U):Prop:=cA X f λc H Q=>∃O,(∀a∈O,H a≠none)/\Rps X.K (hid H O) c us/\∀v b,aY H b->Rp X.K (hid b O) v u->Q v b
def Cf(X:Cx)(f:GM)(us:List U)(xs:List U):Prop:=cA X f λc H Q=>∃O,(∀a∈O,H a≠none)/\Rps X.K (hid H O) c us/\∀a c b,aY H b->H a=none->b a=some (.lst c)->Rps X.K (hid b (a::O)) c xs->Q (.ref a) b
theorem aq{b:String}(o:eA X (.builtin b) us u)(h:Gl X f)(g:X.mg f=none)(d:IL f=some (.builtin b))(i:EvA X H0 O0 ps (e::es) us)(n:autoParam (f≠"__name__") v0)(m:autoParam ((f==("__debug__":Str))=false) v0)
  (he:autoParam (GO (e::es) X.env=(false,Kg e X.env)::GO es X.env) w4) (Td:autoParam ((JZ pos (GO es X.env)).any (·.1)=false) w4):Ev X H0 O0 ps (.Call (.Name f p) (e::es) [] pos) u:=
 PE.mono (mO o h g d i n m he Td) λt H Q ⟨O,R,q⟩=>⟨O,R,λr s a j=>⟨O,(R.go a).dom,j,λv k c l=>q v k (a.trans c) l⟩⟩
theorem pG{b:String}(o:eA X (.type b) us u)(h:Gl X f)(g:X.mg f=none)(d:IL f=some (.type b))(i:EvA X H0 O0 ps (e::es) us)(n:autoParam (f≠"__name__") v0)(m:autoParam ((f==("__debug__":Str))=false) v0)
  (he:autoParam (GO (e::es) X.env=(false,Kg e X.env)::GO es X.env) w4) (Td:autoParam ((JZ pos (GO es X.env)).any (·.1)=false) w4):Ev X H0 O0 ps (.Call (.Name f p) (e::es) [] pos) u:=
 PE.mono (nM o h g d i n m he Td) λt H Q ⟨O,R,q⟩=>⟨O,R,λr s a j=>⟨O,(R.go a).dom,j,λv k c l=>q v k (a.trans c) l⟩⟩
theorem fm{d:String}(u:Cf X (.type d) us xs)(k:Gl X f)(j:X.mg f=none)(i:IL f=some (.type d))(l:EvA X H0 O0 ps (e::es) us)(t:autoParam (f≠"__name__") v0)(s:autoParam ((f==("__debug__":Str))=false) v0)
  (he:autoParam (GO (e::es) X.env=(false,Kg e X.env)::GO es X.env) w4) (Td:autoParam ((JZ pos (GO es X.env)).any (·.1)=false) w4):EvN X H0 O0 ps (.Call (.Name f p) (e::es) [] pos) xs:=
 PE.mono (nM u k j i l t s he Td) λw H Q ⟨O,R,q⟩=>⟨O,R,λc v b m=>⟨O,(R.go b).dom,m,λa c o g n h r=>q a c o (b.trans g) (b.free n) h r⟩⟩
theorem cq{K:GE}(h:Rps K H vs [x]):∃v,vs=[v]/\Rp K H v x:=by
 obtain⟨v,c,rfl,b,a⟩:=h.cons_inv;rw[a.nil_inv];exact⟨v,rfl,b⟩
theorem fY{K:GE}(h:Rps K H vs [x,y]):∃v w,vs=[v,w]/\Rp K H v x/\Rp K H w y:=by
 obtain⟨v,d,rfl,b,a⟩:=h.cons_inv;obtain⟨w,rfl,c⟩:=cq a;exact⟨v,w,rfl,b,c⟩
theorem cA.mono(h:cA X f r)(m:∀a H Q,r' a H Q->r a H Q):cA X f r':=λb s c H a us Q I v q=>h b s c H a us Q I v (m a H Q q)
theorem pj{K:GE}(h:Rp K H v x)(d:x.items=some xs):∃a e,v=.ref a/\(SqL K H a e\/SqT K H a e)/\Rps K H e xs:=by
 cases h with
 |scr h c b=>cases d;exact⟨_,_,rfl,.inl h,c,b⟩
 |lst h c b=>cases d;exact⟨_,_,rfl,.inl (SqL.of h),c,b⟩
 |tup h c b=>cases d;exact⟨_,_,rfl,.inr h,c,b⟩
 |_=>cases d
theorem uE{K:GE}{a:Hc}(h:SqL K (hid H O) a vs\/SqT K (hid H O) a vs):SqL K H a vs\/SqT K H a vs:=h.imp (λz=>aC.seq z) λz=>aC.tup z
theorem bu(f:x.items=some xs):eA X (.builtin "len") [x] (.int xs.length):=cA.mono i9 λi H Q g=>by
 obtain⟨O,d,r,q⟩:=g;obtain⟨v,rfl,h⟩:=cq r;obtain⟨a,c,rfl,e,b⟩:=pj h f;exact⟨a,c,rfl,uE e,by rw[b.len];exact q _ H (.refl H) (.int _)⟩
theorem CZ(n:Nat){x:Str}(h:ps[n]?=some (some (.own xs)))(f:Gl X "len")(d:X.mg "len"=none)(i:autoParam (X.N[n]?=some x) w4)(c:autoParam (Vis X.env.scope x) j0)(e:autoParam ((x==("__debug__":Str))=false) v0)
  (TX:autoParam ((x==("__classdict__":Str))=false) v0) (hs:autoParam (GO [.Name x p'] X.env=(false,Kg (.Name x p') X.env)::GO [] X.env) w4) (Td:autoParam ((JZ pos (GO [] X.env)).any (·.1)=false) w4):Ev X H0 O0 ps (.Call (.Name "len" pc) [.Name x p'] [] pos) (.int xs.length):=
 PE.mono (mO i9 f d G3 (cp (iI i c e TX) dZ hs) (by decide) (by decide) hs Td) λo H Q l=>by
  obtain⟨O,R,q⟩:=l;obtain⟨v,g,a,b,rfl,p,m,k,j⟩:=R.at_ n _ h;exact⟨_,g,a,b,rfl,.inl (SqL.of k),by rw[j.len];exact q _ H (.refl H) (.int _)⟩
theorem lv:eA X (.builtin "abs") [.int i] (.int (if i<0 then -i else i)):=cA.mono y_ λb H Q a=>by
 obtain⟨O,d,r,q⟩:=a;obtain⟨v,rfl,h⟩:=cq r;cases h;exact⟨i,rfl,q _ H (.refl H) (.int _)⟩
theorem E3(b:X.calm=true):eA X (.builtin "max") [.int i,.int j] (.int (if j >i then j else i)):=cA.mono (vV b) λe H Q c=>by
 obtain⟨O,d,r,q⟩:=c;obtain⟨v,w,rfl,h,a⟩:=fY r;cases h;cases a;exact⟨i,j,rfl,q _ H (.refl H) (.int _)⟩
theorem EF(b:X.calm=true):eA X (.builtin "min") [.int i,.int j] (.int (if j<i then j else i)):=cA.mono (wP b) λe H Q c=>by
 obtain⟨O,d,r,q⟩:=c;obtain⟨v,w,rfl,h,a⟩:=fY r;cases h;cases a;exact⟨i,j,rfl,q _ H (.refl H) (.int _)⟩
theorem xK:eA X (.type "int") [.bl k] (.int (if k then 1 else 0)):=cA.mono sR λb H Q a=>by
 obtain⟨O,d,r,q⟩:=a;obtain⟨v,rfl,h⟩:=cq r;cases h;exact⟨k,rfl,q _ H (.refl H) (.int _)⟩
theorem gK(g:x.items=some xs):Cf X (.type "list") [x] xs:=cA.mono oz λj H Q i=>by
 obtain⟨O,d,r,q⟩:=i;obtain⟨v,rfl,h⟩:=cq r;obtain⟨a,c,rfl,f,e⟩:=pj h g;exact⟨a,c,rfl,uE f,λl b=>q l c _ (aQ b _) b a9 (e.same (bM (aQ b _) b))⟩
theorem AN(j:x=.lst xs∨x=.scr xs):eA X (.type "tuple") [x] (.tup xs):=cA.mono m7 λm H Q k=>by
 obtain⟨O,d,r,q⟩:=k;obtain⟨v,rfl,h⟩:=cq r;have g:∀{l}{o},H l=none->hid (upd H l o) O l=some o:=λ{l o} b=>dF a9 λz=>d _ z b;rcases j with rfl |rfl
 .cases h with
  |lst h b c=>exact⟨_,_,rfl,.inl ⟨aC.seq (SqL.of h),λl a=>q _ _ (aQ a _) (.tup (SqT.of (g a)) b λi v x e f=>(c i v x e f).same (aM (aQ a _)))⟩⟩
 .cases h with
  |scr h b c=>exact⟨_,_,rfl,.inl ⟨aC.seq h,λl a=>q _ _ (aQ a _) (.tup (SqT.of (g a)) b λi v x e f=>(c i v x e f).same (aM (aQ a _)))⟩⟩
noncomputable def tyU:U->GM
 | .non=>.type "NoneType" | .bl _=>.type "bool" | .int _=>.type "int" | .str _=>.type "str" | .ty _=>.type "type" | .dic=>.type "dict" | .scr _=>.type "list" | .tup _=>.type "tuple" | .lst _=>.type "list"
theorem dS(t:∀m,x≠.ty m)(h:GW X.K (tyU x) (.type n)=some k):eA X (.builtin "isinstance") [x,.ty (.nm n)] (.bl k):=by
 intro y s E H F us Q I r D;obtain⟨O,d,C,q⟩:=D;obtain⟨v,w,rfl,A,u⟩:=fY C;cases u;obtain⟨M,J,rfl,c,B⟩:=gN r;cases B;have a:∀p,EP X y E Q (.bool k) {s with toks:=p }:=λp=>⟨.bl k,H,I.tok _,rfl,q _ H (.refl H) (.bl _)⟩
 cases A with
 |non=>exact eG I c .non h a
 |bl b=>exact eG I c (.bl b) h a
 |int b=>exact eG I c (.int b) h a
 |str b=>exact eG I c (.str b) h a
 |ty m=>exact absurd rfl (t _)
 |dic e=>exact eG I c (.dK (aC _ _ e)) h a
 |xc e G=>exact absurd rfl (t _)
 |scr e j l=>
  cases c;obtain⟨its,_,f,_⟩:=I.list (aC.seq e);obtain⟨o,L,g,i,_⟩:=f;exact Ip ND I.kIn ⟨o,g,i⟩ h (λz=>nomatch z) a
 |lst e j l=>exact eG I c (.lst (aC _ _ e)) h a
 |tup e j l=>
  cases c;obtain⟨its,_,f,_⟩:=I.tuple (aC.tup e);obtain⟨o,g,i,_⟩:=f;exact Ip P4 I.kIn ⟨o,g,i⟩ h (λz=>nomatch z) a
end
inductive Out where
 |val (u:U) |new (xs:List U) |exc (C:Hc) |dsk (d:Hc) (u:U) (S9:List (Str×U))
noncomputable def rF(K:GE)(c:Hp)(e:List Hc)(Q:VK)(E:XK):Out->Prop
 | .val u=>∀v b,aY c b->Rp K (hid b e) v u->Q v b
 | .new xs=>∀a f b,aY c b->c a=none->b a=some (.lst f)->Rps K (hid b (a::e)) f xs->Q (.ref a) b
 | .exc C=>∀b,aY c b->E (.ref C) none b
 | .dsk d u h=>∀v g b,aY c b->b d=some (.dK g)->DkR K (hid b (d::e)) g h->Rp K (hid b (d::e)) v u->Q v b
theorem rF.later{K:GE}(e:aY H0 H1)(h:rF K H0 O0 Q E o):rF K H1 O0 Q E o:=by
 cases o with
 |val u=>exact λv b s r=>h v b (e.trans s) r
 |new i=>exact λa c b s n q r=>h a c b (e.trans s) (e.free n) q r
 |exc C=>exact λb s=>h b (e.trans s)
 |dsk d u g=>exact λv f b s q r p=>h v f b (e.trans s) q r p
structure PD where
 nx:PSt->Prop
 rt:Out->Prop
 bk:PSt->Prop:=λ_=>False
 ct:PSt->Prop:=λ_=>False
structure Lf(K:GE)(H0:Hp)(O0:List Hc)(E:XK)(D:PD)(D':oS):Prop where
 nx:∀ps σ H O,Rs K H0 O0 ps σ H O->D.nx ps->D'.nx σ H
 bk:∀ps σ H O,Rs K H0 O0 ps σ H O->D.bk ps->D'.bk σ H
 ct:∀ps σ H O,Rs K H0 O0 ps σ H O->D.ct ps->D'.ct σ H
 rt:∀o,D.rt o->rF K H0 O0 D'.rt E o
def Ws(X:Cx)(b:Hp)(a:List Hc)(E:XK)(d:List Ki)(D:PD)(e:PSt):Prop:=PSs X d λc f H=>Lf X.K b a E D c/\∃O,Rs X.K b a e f H O
def W1(X:Cx)(b:Hp)(a:List Hc)(E:XK)(s:Ki)(D:PD)(d:PSt):Prop:=PS X s λc e H=>Lf X.K b a E D c/\∃O,Rs X.K b a d e H O
variable {S8:List Ki}
section
variable {X:Cx}{H0:Hp}{O0:List Hc}{E:XK}{ps Tu:PSt}{D:PD}{s:Ki}{ss:List Ki}{a b c e:Expr}{pos p:Pos}{u x y:U}{xs ys us:List U}{k:Bool}
theorem aA(h:D.nx ps):Ws X H0 O0 E [] D ps:=PSs.mono BV λb a H ⟨L,O,R⟩=>L.nx ps a H O R h
theorem af(h:W1 X H0 O0 E s {D with nx:=λp=>Ws X H0 O0 E ss D p } ps):Ws X H0 O0 E (s::ss) D ps:=by
 have c:PSs X ss λb a H=>∃p,Ws X H0 O0 E ss D p/\Lf X.K H0 O0 E D b/\∃O,Rs X.K H0 O0 p a H O:=λd s a H b I ⟨p,w,l,r⟩=>w d s a H b I ⟨l,r⟩;exact PSs.mono (ym h c) λb a H ⟨L,O,R⟩=>⟨⟨λp a H O R q=>⟨p,q,L,O,R⟩,L.bk,L.ct,L.rt⟩,O,R⟩
theorem cX(h:Ws X H0 O0 E ss D Tu)(hs:SubP Tu ps):Ws X H0 O0 E ss D ps:=PSs.mono h λa b H ⟨L,O,R⟩=>⟨L,O,R.sub hs⟩
theorem u7{x:Str}(a:X.N.Nodup)(b:X.N[i]?=some x)(f:Loc X.env.scope x)(d:Ev X H0 O0 ps e u)(h:D.nx (ps.set i (some (.val u))))(hs:autoParam (Kl e (some (.Name x S6)) pos.line X.env=pure false) w4)(c:autoParam (X.fn x=true\/X.env.scope.names.lookup x=some .local) v3):
  W1 X H0 O0 E (.Assign [.Name x S6] e pos) D ps:=PS.mono (sC a b f d hs c) λj k H ⟨L,O,R⟩=>⟨O,R,λv g s r=>L.nx _ _ _ O ((R.go s).set r) h⟩
theorem fP{x:Str}(f:X.N.Nodup)(d:X.N[i]?=some x)(g:Loc X.env.scope x)(b:EvN X H0 O0 ps e xs)(h:D.nx (ps.set i (some (.own xs))))(hs:autoParam (Kl e (some (.Name x S6)) pos.line X.env=pure false) w4)(c:autoParam (X.fn x=true\/X.env.scope.names.lookup x=some .local) v3):
  W1 X H0 O0 E (.Assign [.Name x S6] e pos) D ps:=PS.mono (sC f d g b hs c) λl m H ⟨L,O,R⟩=>⟨O,R,λa j k s n q r=>L.nx _ _ _ _ (R.own s n q r) h⟩
theorem mY(a:Tt X H0 O0 ps c k)(g:k=true->Ws X H0 O0 E tb D ps)(e:k=false->Ws X H0 O0 E fb D ps):W1 X H0 O0 E (.If c tb fb pos) D ps:=by
 cases k with
 |true=>exact PS.mono (CM a (g rfl) (λ_ _ _ _ _ _ h=>h.elim) (u:=λ_ _ _=>False)) λd f H ⟨L,O,R⟩=>⟨O,R,λb s=>oF ⟨L,O,R.go s⟩⟩
 |false=>exact PS.mono (CM a (λ_ _ _ _ _ _ h=>h.elim) (e rfl) (t:=λ_ _ _=>False)) λd f H ⟨L,O,R⟩=>⟨O,R,λb s=>oD ⟨L,O,R.go s⟩⟩
theorem Rs.ret{K:GE}(R:Rs K H0 O0 ps σ H O)(r:Rp K (hid H O) v u):Rp K (hid H O0) v u:=r.same (fM R.old)
theorem aR(b:Ev X H0 O0 ps e u)(h:D.rt (.val u)):W1 X H0 O0 E (.Return (some e) pos) D ps:=
 PS.mono (sr b) λc d H ⟨L,O,R⟩=>⟨O,R,λv a s r=>L.rt _ h v a (R.same.trans s) ((R.go s).ret r)⟩
theorem cx(g:EvN X H0 O0 ps e xs)(h:D.rt (.new xs)):W1 X H0 O0 E (.Return (some e) pos) D ps:=
 PS.mono (sr g) λi j H ⟨L,O,R⟩=>⟨O,R,λa d c s n q r=>L.rt _ h a d c (R.same.trans s) (R.same.free n) q (r.same (fM λb f=>by
  rcases GF.mp f with y |y
  .subst y;exact GR
  .exact GG _ (R.old b y)))⟩
theorem gh(i:Nat){x:Str}(m:ps[i]?=some (some (.own xs)))(h:D.rt (.new xs))(l:autoParam (X.N[i]?=some x) w4)(e:autoParam (Vis X.env.scope x) j0)(g:autoParam ((x==("__debug__":Str))=false) v0)
  (TX:autoParam ((x==("__classdict__":Str))=false) v0):W1 X H0 O0 E (.Return (some (.Name x p)) pos) D ps:=
 PS.mono (sr (iI l e g TX)) λr s H q=>by
  obtain⟨L,O,R⟩:=q;obtain⟨v,j,a,d,rfl,c,f,o,n⟩:=R.at_ i _ m;refine⟨_,j,L.rt _ h a d H R.same ((R.new a c).resolve_left f) o (n.same (fM λb k=>?_))⟩;rcases GF.mp k with y |y
  .subst y;exact c
  .exact R.old b y
theorem yn(a:Ev X H0 O0 ps e u)(h:D.nx ps)(hs:autoParam (Kl e none pos.line X.env=pure false) w4):W1 X H0 O0 E (.Expr e pos) D ps:=
 PS.mono (kL a hs) λc d H ⟨L,O,R⟩=>⟨O,R,λv b s r=>L.nx _ _ _ O (R.go s) h⟩
theorem cN(i){x:Str}(c:ps[i]?=some (some (.own xs)))(j:Ev X H0 O0 ps e u)(k:xs.length<sizeLine)(h:D.nx (ps.set i (some (.own (xs++[u])))))
  (hN:autoParam (X.N[i]?=some x) w4) (hv:autoParam (Vis X.env.scope x) j0) (hd:autoParam ((x==("__debug__":Str))=false) v0) (TX:autoParam ((x==("__classdict__":Str))=false) v0)
  (Tg:autoParam (Ly (.Name x xp) "append" X.env (Kg (.Name x xp) X.env)=Kg (.Name x xp) X.env) w4)
  (Uk:autoParam (((JZ SU (GO [e] X.env)).all (λx=>!x.1) && (Q1 SU (N1 [] X.env)).all (λx=>x.1.isSome) && decide ([e].length+([]:List N2).length+(if ([]:List N2).isEmpty then 0 else 1)<30))=true) w4)
  (Th:autoParam ((Te.endLine==SU.line)=true) w4) (UZ:autoParam (GO [e] X.env=(false,Kg e X.env)::GO [] X.env) w4) (Tp:autoParam ((JZ SU (GO [] X.env)).any (·.1)=false) w4)
  (hs:autoParam (Kl (.Call (.Attribute (.Name x xp) "append" Te) [e] [] SU) none pos.line X.env=pure false) w4):W1 X H0 O0 E (.Expr (.Call (.Attribute (.Name x xp) "append" Te) [e] [] SU) pos) D ps:=
 PS.mono (kL (u8 JY PySem.F.slot_list_append PySem.F.type_list_append n_ (iI hN hv hd TX) (cp j dZ UZ) Tg Uk Th UZ Tp) hs) λo p H l=>by
  obtain⟨L,O,R⟩:=l;obtain⟨v,b,a,g,rfl,q,m,f,d⟩:=R.at_ i _ c;refine⟨_,b,.inl ⟨rfl,_,SqL.of f⟩,O,R,λw n s r=>⟨a,g,w,rfl,rfl,s _ _ f,by rw[d.len];exact k,?_⟩⟩;exact L.nx _ _ _ O ((R.go s).write c b ((d.same (aM s)).snoc (.cons r .nil))) h
theorem z_(i){x:Str}(k:ps[i]?=some (some (.own xs)))(n:xs≠[])(h:D.nx (ps.set i (some (.own xs.dropLast))))
  (hN:autoParam (X.N[i]?=some x) w4) (hv:autoParam (Vis X.env.scope x) j0) (hd:autoParam ((x==("__debug__":Str))=false) v0) (TX:autoParam ((x==("__classdict__":Str))=false) v0)
  (Tg:autoParam (Ly (.Name x xp) "pop" X.env (Kg (.Name x xp) X.env)=Kg (.Name x xp) X.env) w4)
  (Th:autoParam ((Te.endLine==SU.line)=true) w4)
  (hs:autoParam (Kl (.Call (.Attribute (.Name x xp) "pop" Te) [] [] SU) none pos.line X.env=pure false) w4):W1 X H0 O0 E (.Expr (.Call (.Attribute (.Name x xp) "pop" Te) [] [] SU) pos) D ps:=
 PS.mono (kL (Ex JY PySem.F.slot_list_pop PySem.F.type_list_pop C6 (iI hN hv hd TX) Tg Th) hs) λq r H o=>by
  obtain⟨L,O,R⟩:=o;obtain⟨v,g,a,b,rfl,s,p,l,e⟩:=R.at_ i _ k;have f:0<b.length:=by rw[e.len];exact Hx.mpr n
  have m:b.length-1<b.length:=by lia
  refine⟨_,g,.inl ⟨rfl,_,SqL.of l⟩,a,b,b[b.length-1],rfl,rfl,l,GC m,?_⟩;refine L.nx _ _ _ O (R.write k g ⟨by simp[e.len],λj v x c d=>?_⟩) h;rw[Lc]at c d;split at c
  .split at d
   .exact e.at_ j v x c d
   .cases d
  .cases c
end
noncomputable def oP:List Nat->TGs
 |[]=>FN
 |j::js=>Cy (qj j) (oP js)
noncomputable def setAll:PSt->List Nat->List U->PSt
 |ps,j::js,u::us=>setAll (ps.set j (some (.val u))) js us
 |ps,_,_=>ps
noncomputable def kG:St->List Nat->List V->St
 |σ,j::js,u::us=>kG (σ.set j (some u)) js us
 |σ,_,_=>σ
theorem Rs.setAll{K:GE}:∀{js}{ps}{c}{a}{b},Rs K H0 O0 ps c H O->Rps K (hid H O) a b->Rs K H0 O0 (L2.setAll ps js b) (kG c js a) H O
 |[],ps,c,a,b,R,r=>by cases b <;>cases a <;>exact R
 |j::js,ps,c,a,[],R,r=>by rw[r.nil_inv];exact R
 |j::js,ps,c,a,u::b,R,r=>by
  obtain⟨v,f,rfl,e,d⟩:=r.cons_inv;exact Rs.setAll (js:=js) (R.set e) d
theorem jE:∀{b}{σ}{a},a.length=b.length->Q (kG σ b a) H->oP b a σ H Q
 |[],σ,[],_,q=>⟨rfl,q⟩
 |j::b,σ,v::a,e,q=>⟨v,a,rfl,jE (by simpa using e) q⟩
 |[],_,_::_,e,_=>by simp at e
 |_::_,_,[],e,_=>by simp at e
def TgS(X:Cx)(d:Hp)(c:List Hc)(h:Expr)(f:PSt)(u:U)(e:PSt):Prop:=
 PG X h λv g H Q=>∃O,Rs X.K d c f g H O/\Rp X.K (hid H O) v u/\∀b a,aY H a->Rs X.K d c e b a O->Q b a
theorem PG.mono(h:PG X e t)(m:∀v a H Q,t' v a H Q->t v a H Q):PG X e t':=λb s a H v u Q I r q=>h b s a H v u Q I r (m v a H Q q)
theorem PI.mono(h:PI X tg e t)(m:∀a H Q,t' a H Q->t a H Q):PI X tg e t':=λb s a H Q I q=>h b s a H Q I (m a H Q q)
def Yl(K:GE)(J:It)(G:Hp)(xs:List U):Prop:=
 ∀a,aY G a->(∀i,i<xs.length->J.go i a/\∀x b,J.yld i a x b->b=a/\∃u,xs[i]?=some u/\Rp K G x u)/\J.stop xs.length a
def EvI(X:Cx)(g:Hp)(d:List Hc)(c:PSt)(f a:Expr)(xs:List U):Prop:=
 PI X f a λe H R=>∃O,Rs X.K g d c e H O/\∀J b,aY H b->Yl X.K J (hid b O) xs->R J b
section
variable {X:Cx}{H0:Hp}{O0:List Hc}{E:XK}{ps Tu:PSt}{D:PD}{s:Ki}{ss:List Ki}{a b c e tg iter:Expr}{pos p:Pos}{u x y:U}{xs ys us:List U}{k:Bool}
theorem eW{x:Str}(a:X.N.Nodup)(b:X.N[i]?=some x)(d:Loc X.env.scope x)(c:autoParam (X.fn x=true\/X.env.scope.names.lookup x=some .local) v3):TgS X H0 O0 (.Name x pos) ps u (ps.set i (some (.val u))):=
 PG.mono (aT a b d c) λv e H Q ⟨O,R,r,q⟩=>q _ H (.refl H) (R.set r)
theorem Ci{k:Nat}(js)(g:X.calm=true)(h:PGs X es (oP js))(b:us.length=js.length)(c:autoParam ((LY es X.env).length=js.length) w4)(e:autoParam ((LY es X.env).findIdx? (·.1)=none) w4):TgS X H0 O0 (.Tuple es k pos) ps (.tup us) (setAll ps js us):=
 PG.mono (dX g h c e) λv j H Q i=>by
  obtain⟨O,R,r,q⟩:=i;cases r with
  |tup f a d=>exact⟨_,_,rfl,aC.tup f,a.trans b,jE (a.trans b) (q _ H (.refl H) (R.setAll ⟨a,d⟩))⟩
theorem FS(b:Ev X H0 O0 ps e u)(d:TgS X H0 O0 tg ps u Tu)(h:D.nx Tu)(hs:autoParam (NY [tg] e pos.line X.env=pure false) w4)(c:autoParam (NZ [tg] e X.env=pure none) w4)
  (h1:autoParam ((LY [tg] X.env).map (·.2)=[assign tg X.env]) w4):W1 X H0 O0 E (.Assign [tg] e pos) D ps:=
 PS.mono (D_ b d hs c h1) λk m H ⟨L,O,R⟩=>⟨O,R,λv l a f=>⟨O,R.go a,f,λi j g R2=>L.nx _ _ _ O R2 h⟩⟩
theorem EN{x y:Str}{kt k2 pt2}(m:X.calm=true)(l:X.N.Nodup)(g:X.N[i]?=some x)(n:X.N[j]?=some y)(d:i≠j)
  (hx:X.env.scope.names.lookup x=some .local) (hy:X.env.scope.names.lookup y=some .local) (ha:EvA X H0 O0 ps [a,b] [u,w])
  (hw:NZ [.Tuple [.Name x px,.Name y py] kt pt] (.Tuple [a,b] k2 pt2) X.env=pure (some [x,y])) (h:D.nx ((ps.set i (some (.val u))).set j (some (.val w))))
  (hs:autoParam (NY [.Tuple [.Name x px,.Name y py] kt pt] (.Tuple [a,b] k2 pt2) pos.line X.env=pure false) w4):
  W1 X H0 O0 E (.Assign [.Tuple [.Name x px,.Name y py] kt pt] (.Tuple [a,b] k2 pt2) pos) D ps:=
 PS.mono (Ei m l g n d hx hy ha hw hs) λp r H ⟨L,O,R⟩=>⟨O,R,λo q c f=>by
  obtain⟨v,z,rfl,k,e⟩:=fY f;exact⟨v,z,rfl,L.nx _ _ _ O (((R.go c).set k).set e) h⟩⟩
theorem bZ(l:Ev X H0 O0 ps iter x)(n:x=.lst xs\/x=.scr xs):EvI X H0 O0 ps tg iter xs:=
 PI.mono (AT l) λt H Q ⟨O,R,q⟩=>⟨O,R,λv f s r=>by
  have g:∃a b,v=.ref a/\SqL X.K (hid f O) a b/\Rps X.K (hid f O) b xs:=by
   rcases n with rfl |rfl
   .cases r with
    |lst c e j=>exact⟨_,_,rfl,SqL.of c,e,j⟩
   .cases r with
    |scr c e j=>exact⟨_,_,rfl,c,e,j⟩
  obtain⟨a,b,rfl,c,k⟩:=g;refine⟨a,rfl,⟨b,aC.seq c⟩,q _ f s λp d=>⟨λi h=>?_,⟨b,d.seq c,by rw[k.len];exact GK _⟩⟩⟩;have m:i<b.length:=by rw[k.len];exact h
  refine⟨⟨b,b[i],d.seq c,GC m⟩,λz o y=>⟨y.1,xs[i],GC h,k.at_ i z _ (y.2 b (d.seq c)) (GC h)⟩⟩⟩
theorem ER(h:Ev X H0 O0 ps iter (.tup xs)):EvI X H0 O0 ps tg iter xs:=
 PI.mono (Dm h) λo H Q ⟨O,R,q⟩=>⟨O,R,λv g s r=>by
  cases r with
  | @tup a b _ c j k=>
   have f:Rps X.K (hid g O) b xs:=⟨j,k⟩;refine⟨a,rfl,⟨b,aC.tup c⟩,q _ g s λn d=>⟨λi e=>?_,⟨b,d.tup c,by rw[f.len];exact GK _⟩⟩⟩;have l:i<b.length:=by rw[f.len];exact e
   refine⟨⟨b,b[i],d.tup c,GC l⟩,λz m y=>⟨y.1,xs[i],GC e,f.at_ i z _ (y.2 b (d.tup c)) (GC e)⟩⟩⟩
noncomputable def f8(a:Int)(n:Nat):List U:=(HI n).map λ(i:Nat)=>U.int (a+(i:Int))
theorem cS{a:Int}:(f8 a n).length=n:=by simp[f8]
theorem oo{a:Int}(h:i<n):(f8 a n)[i]?=some (.int (a+(i:Int))):=by
 unfold f8;rw[GN,JF h];rfl
theorem e7{b:Int}(h:(f8 b n)[i]?=some x):i<n/\x=.int (b+(i:Int)):=by
 have a:=aH h;rw[cS]at a;rw[oo a]at h;exact⟨a,(HK h).symm⟩
theorem lg{K:GE}{a:Int}:Yl K (Itr a n) G (f8 a n):=λe d=>by
 rw[cS];refine⟨λi b=>⟨b,λz c y=>⟨y.1,_,oo b,?_⟩⟩,GK _⟩;rw[y.2];exact .int _
theorem k8(d:Gl X "range")(b:X.mg "range"=none)(e:EvA X H0 O0 ps [a] [.int j])(g:-(2 ^ 62)≤j)(f:j<2 ^ 62)(hs:autoParam (GO [a] X.env=[(false,Kg a X.env)]) w4):EvI X H0 O0 ps tg (.Call (.Name "range" p) [a] [] pos) (f8 0 j.toNat):=
 PI.mono (wK d b e hs) λk H Q ⟨O,R,q⟩=>⟨O,R,λi c s r=>by
  obtain⟨v,rfl,h⟩:=cq r;cases h;exact⟨j,rfl,g,f,q _ c s lg⟩⟩
noncomputable def h9(a c:Int)(n:Nat):List U:=(HI n).map λ(i:Nat)=>U.int (a+(i:Int) *c)
theorem gE{a c:Int}:(h9 a c n).length=n:=by simp[h9]
theorem kO{a c:Int}(h:i<n):(h9 a c n)[i]?=some (.int (a+(i:Int) *c)):=by
 unfold h9;rw[GN,JF h];rfl
theorem ro{b c:Int}(h:(h9 b c n)[i]?=some x):i<n/\x=.int (b+(i:Int) *c):=by
 have a:=aH h;rw[gE]at a;rw[kO a]at h;exact⟨a,(HK h).symm⟩
theorem z8(k:Gl X "range")(f:X.mg "range"=none)(n:EvA X H0 O0 ps [a,b,c] [.int i,.int j,.int m])(h:-(2 ^ 60)≤i∧i<2 ^ 60∧-(2 ^ 60)≤j∧j<2 ^ 60∧0<m∧m<2 ^ 30)(hs:autoParam (GO [a,b,c] X.env=[(false,Kg a X.env),(false,Kg b X.env),(false,Kg c X.env)]) w4)
  (Uc:autoParam (GO [b,c] X.env=[(false,Kg b X.env),(false,Kg c X.env)]) w4):
  EvI X H0 O0 ps tg (.Call (.Name "range" p) [a,b,c] [] pos) (h9 i m (gG i j m)):=
 PI.mono (vL k f n hs Uc) λC H Q ⟨O,R,q⟩=>⟨O,R,λx g s r=>by
  obtain⟨v,A,rfl,o,d⟩:=r.cons_inv;obtain⟨w,z,rfl,d,l⟩:=fY d;cases o;cases d;cases l;refine⟨i,j,m,rfl,h,q _ g s λB u=>?_⟩;rw[gE];refine⟨λi e=>⟨e,λz t y=>⟨y.1,_,kO e,?_⟩⟩,GK _⟩;rw[y.2];exact .int _⟩
theorem Rs.rebase{K:GE}(R:Rs K H0 O0 ps σ H O):Rs K (hid H (O.filter λa=>decide (a ∉ O0))) O0 ps σ H O:=
 ⟨aC,R.old,λa b=>by
  by_cases h:a∈O0
  .exact .inl h
  .right;unfold hid;rw[if_pos (Im.mpr ⟨b,by simpa using h⟩)],R.dom,R.len,R.at_,R.inj⟩
theorem Rs.base{K:GE}(R:Rs K H0 O0 ps σ H O):aY H0 (hid H (O.filter λa=>decide (a ∉ O0))):=λb o h=>by
 refine dF (R.same b o h) λz=>?_;obtain⟨d,c⟩:=Im.mp z;rcases R.new b d with y |y
 .simp[y]at c
 .rw[h]at y;cases y
theorem Rs.unbase{K:GE}(e:aY H0 H1)(R:Rs K H1 O0 ps σ H O):Rs K H0 O0 ps σ H O:=
 ⟨e.trans R.same,R.old,λa b=>(R.new a b).imp id λz=>e.free z,R.dom,R.len,R.at_,R.inj⟩
theorem Rs.seen{K:GE}(R:Rs K H0 O0 ps σ H O)(e:Rs K (hid H (O.filter λa=>decide (a ∉ O0))) O0 VH σ2 H2 O2):aY (hid H O) (hid H2 O2):=λb o h=>by
 obtain⟨f,c⟩:=iD h;have d:hid H (O.filter λa=>decide (a ∉ O0)) b=some o:=dF f λz=>c (Im.mp z).1;refine dF (e.same b o d) λz=>?_;rcases e.new b z with y |y
 .exact c (R.old b y)
 .rw[d]at y;cases y
theorem EH(hc:X.calm=true)(hp:OK (Hr X.prog X.w) X.A X.env X.xe)(T:EvI X H0 O0 ps tg iter xs)(f:Nat->PSt->Prop)(h0:f 0 ps)
  (hs:∀H0 i x ps,xs[i]?=some x->f i ps->∃Tu,TgS X H0 O0 tg ps x Tu/\Ws X H0 O0 E S8 {D with nx:=f (i+1),ct:=f (i+1),bk:=D.nx } Tu) (hd:∀ps,f xs.length ps->D.nx ps)
  (hf:autoParam (∀x,IB iter X.env x=pure x) q0):W1 X H0 O0 E (.For tg iter S8 [] pos) D ps:=by
 have S:PG X tg λv c H Q=>∃b ps u Tu,TgS X b O0 tg ps u Tu/\∃O,Rs X.K b O0 ps c H O/\Rp X.K (hid H O) v u/\∀g d,aY H d->Rs X.K b O0 Tu g d O->Q g d:=
  λj s c H v u Q I r ⟨b,ps,w,Tu,t,z⟩=>t j s c H v u Q I r z
 have W:PSs X S8 λh c H=>∃b k Tu,Ws X b O0 E S8 k Tu/\Lf X.K b O0 E k h/\∃O,Rs X.K b O0 Tu c H O:=λj s c H h I ⟨b,k,Tu,w,z⟩=>w j s c H h I z;refine PS.mono (El hp hc T S W hf) λh c H ⟨L,O,R⟩=>⟨O,R,λJ b M Y=>?_⟩
 have B:=R.go M;have base:=B.base;refine⟨λi m c H=>m=xs.length-i/\i<=xs.length/\∃ps l,f i ps/\Rs X.K (hid b (O.filter λa=>decide (a ∉ O0))) O0 ps c H l,⟨_,rfl,Ir _,ps,O,h0,B.rebase⟩,?_⟩;rintro i m P V ⟨rfl,hi2,n,C,F,R2⟩;have seen:=B.seen R2;obtain⟨y1,y2⟩:=Y V (seen.trans aC);by_cases G:i<xs.length
 .obtain⟨Z,U⟩:=y1 i G;refine .inr ⟨Z,λg d=>∃ps l,f (i+1) ps/\Rs X.K (hid b (O.filter λa=>decide (a ∉ O0))) O0 ps g d l,λg d z=>⟨xs.length-(i+1),by omega,rfl,G,z⟩,λx N y=>?_⟩;obtain⟨rfl,u,hu,r⟩:=U x N y;obtain⟨Tu,t,w⟩:=hs (hid b (O.filter λa=>decide (a ∉ O0))) i u n hu F;refine⟨_,n,u,Tu,t,C,R2,r.same seen,λg d s' R'=>⟨_,_,Tu,w,?_,C,R'⟩⟩;exact⟨λp c H O R q=>⟨p,O,q,R⟩,λp c H O R q=>L.nx _ _ _ _ (R.unbase base) q,λp c H O R q=>⟨p,O,q,R⟩,λo q=>(L.rt o q).later base⟩
 .have e:i=xs.length:=by omega
  subst e;exact .inl ⟨y2,L.nx _ _ _ _ (R2.unbase base) (hd n F)⟩
theorem Bp(y:OK (Hr X.prog X.w) X.A X.env X.xe)(e:Nat->PSt->Prop)(m)(C:e m ps)
  (hs:∀m ps,e m ps->∃b,Tt X H0 O0 ps c b/\(b=true->Ws X H0 O0 E S8 {D with nx:=λp=>∃d,d<m/\e d p,ct:=λp=>∃d,d<m/\e d p,bk:=D.nx } ps)/\(b=false->D.nx ps)):W1 X H0 O0 E (.While c S8 [] pos) D ps:=by
 have B:PT X c λa H Q=>∃ps b,Tt X H0 O0 ps c b/\∃O,Rs X.K H0 O0 ps a H O/\∀g,aY H g->Q b g:=λh s a H Q I ⟨ps,b,t,z⟩=>t h s a H Q I z;have x:PSs X S8 λf a H=>∃i Tu,Ws X H0 O0 E S8 i Tu/\Lf X.K H0 O0 E i f/\∃O,Rs X.K H0 O0 Tu a H O:=λh s a H f I ⟨i,Tu,w,z⟩=>w h s a H f I z;refine PS.mono (yU y B x) λf a H ⟨L,O,R⟩=>⟨λm a H=>∃ps O,e m ps/\Rs X.K H0 O0 ps a H O,⟨m,ps,O,C,R⟩,?_⟩
 rintro m r J ⟨j,k,o,R2⟩;obtain⟨b,t,v,u⟩:=hs m j o;refine⟨j,b,t,k,R2,λF n=>?_⟩;cases b with
 |true=>
  refine oF ⟨λa H=>∃d,d<m/\∃ps O,e d ps/\Rs X.K H0 O0 ps a H O,λG g z=>z,_,j,v rfl,?_,k,R2.go n⟩;exact⟨λp a H O R ⟨d,l,q⟩=>⟨d,l,p,O,q,R⟩,λp a H O R q=>L.nx _ _ _ _ R q,λp a H O R ⟨d,l,q⟩=>⟨d,l,p,O,q,R⟩,L.rt⟩
 |false=>exact oD (L.nx _ _ _ _ (R2.go n) (u rfl))
noncomputable def fe:List Nat->PSt->PSt
 |[],ps=>ps
 |i::is,ps=>fe is (ps.set i none)
theorem Rs.mask{K:GE}:∀{is}{ps}{a},Rs K H0 O0 ps a H O->Rs K H0 O0 (fe is ps) (L2.mask is a) H O
 |[],ps,a,R=>R
 |i::is,ps,a,R=>Rs.mask (is:=is) (R.drop)
theorem Rs.hide{K:GE}(R:Rs K H0 O0 ps σ H O)(e:aY H H')(n:H l=none)(d:H' l≠none):Rs K H0 O0 ps σ H' (l::O):=by
 refine⟨R.same.trans e,λa c=>GG _ (R.old a c),λa c=>?_,λa c z=>?_,R.len,λi s h=>?_,R.inj⟩
 .rcases GF.mp c with y |y
  .subst y;exact .inr (R.same.free n)
  .exact R.new a y
 .rcases GF.mp c with y |y
  .subst y;exact d z
  .exact R.dom a y (e.free z)
 .obtain⟨w,t,f⟩:=R.at_ i s h;refine⟨w,t,?_⟩;cases s with
  |val u=>exact Rp.same (bM e n) f
  |own ys=>
   obtain⟨b,r,o,m,j,g,k⟩:=f;exact⟨b,r,o,GG _ m,j,e _ _ g,k.same (bM e n)⟩
  |pin z u=>exact⟨f.1,Rp.same (bM e n) f.2⟩
  |dsk w C b d x=>obtain⟨p,v,o,m,j,g,k,q⟩:=f;exact⟨p,v,o,GG _ m,j,e _ _ g,e _ _ k,q.same (bM e n)⟩
theorem rc{js is:List Nat}:∀{b}{a},(∀j∈js,j∈is)->∀n v,n ∉ is->b[n]?=some (some v)->(kG b js a)[n]?=some (some v):=by
 induction js with
 |nil=>intro b a _ n v _ h;cases a <;>exact h
 |cons j js f=>
  intro b a d n v c h;cases a with
  |nil=>exact h
  |cons w g=>exact f (λz e=>d z (GG _ e)) n v c (by rw[Hs (λz=>c (by rw[<-z];exact d j GR))];exact h)
def GOk(g:TG)(K:GE)(is:List Nat)(f:PSt->U->PSt)(b:U->Prop):Prop:=
 ∀(H0:Hp) (O0:List Hc) (ps:PSt) (c:St) (H:Hp) (O:List Hc) (v:V) (u:U) (Q:St->Hp->Prop),b u->Rs K H0 O0 ps c H O->Rp K (hid H O) v u->
  (∀a,Rs K H0 O0 (f ps u) a H O->(∀(n:Nat) (w:V),n ∉ is->c[n]?=some (some w)->a[n]?=some (some w))->Q a H)->g v c H Q
theorem fS{K:GE}(h:i∈is):GOk (qj i) K is (λps u=>ps.set i (some (.val u))) λ_=>True:=λH0 O0 ps b H O v u Q _ R r q=>
 q _ (R.set r) λn w a e=>by rw[Hs (λz=>a (by rw[<-z];exact h))];exact e
theorem df{K:GE}(h:∀j∈js,j∈is):GOk (ET K js.length (oP js)) K is (λps u=>match u with | .tup us=>setAll ps js us |_=>ps) λu=>∃us,u=.tup us/\us.length=js.length:=λH0 O0 ps i H O v u Q d R r q=>by
 obtain⟨us,rfl,b⟩:=d;cases r with
 |tup f a c=>exact⟨_,_,rfl,aC.tup f,a.trans b,jE (a.trans b) (q _ (R.setAll ⟨a,c⟩) λn w g e=>rc h n w g e)⟩
end
def Yz(K:GE)(J:It)(G:Hp)(xs:List U):Prop:=
 ∀b,aY G b->(∀i,i<xs.length->J.go i b/\∀x d,J.yld i b x d->aY b d/\∃u,xs[i]?=some u/\∀c,(∀a∈c,b a≠none)->aY G (hid b c)->Rp K (hid d c) x u)/\J.stop xs.length b
def EvZ(X:Cx)(g:Hp)(d:List Hc)(c:PSt)(f a:Expr)(xs:List U):Prop:=
 PI X f a λe H R=>∃O,Rs X.K g d c e H O/\∀J b,aY H b->Yz X.K J (hid b O) xs->R J b
def CH(is:List Nat)(g:St)(l:Hc)(h:TE)(W:Nat->Nat->Hp->Prop)(i m:Nat)(a:St)(b:Bool)(f:Hp):Prop:=
 (∀(j:Nat) (v:V),(mask is g)[j]?=some (some v)->a[j]?=some (some v))/\
   if b=true then h a f λy e=>∃d,e l=some (.lst d)/\d.length<sizeLine/\∃c,c<m/\W (i+1) c (upd e l (.lst (d++[y]))) else ∃c,c<m/\W (i+1) c f
def vA(is:List Nat)(g:TG)(h:TT)(j:TE)(e:St)(Q:VK)(J:It)(d:Hp):Prop:=∀l,d l=none->
 ∃W:Nat->Nat->Hp->Prop,(∃m,W 0 m (upd d l (.lst [])))/\∀i m b,W i m b->
  (J.stop i b/\Q (.ref l) b)\/(J.go i b/\∀x c,J.yld i b x c->g x (mask is e) c λa f=>h a f (CH is e l j W i m a))
def Tst(X:Cx)(f:PL)(e:List (Str×Hc))(a:List Expr)(b:TT):Prop:=(a=[]/\∀g H Q,b g H Q->Q true H)\/∃c,a=[c]/\∀C s H d,PT (br X f e C s H d) c b
noncomputable abbrev eL(h:Jx):Jx:=h.push {cls:=.type "list",dict:=none,data:=.seq ([]:List GM).toArray }
noncomputable abbrev bX(X:Cx)(c:PL)(b:List (Str×Hc))(s:GP)(H:Hp)(l:Hc)(a:List Hc):Cx:=br X c b s.heap.objs.size s (upd H l (.lst [])) a
section
variable {X:Cx}{SI:List (Hc×Obj)}{σ:St}{H:Hp}{s:GP}
theorem nH(hc:X.calm=true)(B:dH X SJ cl is)
  (hg:∀C s H h,PG (br X SJ cl C s H h) tg g) (ht:Tst X SJ cl cs tt) (he:∀C s H h,PE (br X SJ cl C s H h) Ud te) (hs:∀x,IB iter X.env x=pure x)
  (I:Inv X SI σ H s) (hi:Ht (Hr X.prog X.w) X.A (Kg iter X.env) (λv s1=>Ht (Hr X.prog X.w) X.A (QD v) (PIE X SI σ tg (vA is g tt te σ Q0)) X.xe s1) X.xe s)
  (fin:∀l C j k m,Inv X SI σ j k->k.heap.Ns C m->j C=none->C≠X.env.locals->C ∉ X.fs->X.s₀.heap.objs.size<=C->(∀x c,X.env.cells.lookup x=some c->c≠C)->(∀p∈X.pn++SI,p.1≠C)->Q0 (.ref l) j->
   compPost (Hr X.prog X.w) X.A X.xe use Q (.ref l) C (.ok .next) k):
  Ht (Hr X.prog X.w) X.A (comprehension (.ListComp Ud [⟨tg,iter,cs,0⟩] SJ pos) SJ X.env pos0 (newList []) false (Kg iter X.env) use) Q X.xe s:=by
 refine wpAny_comprehension_free rfl hs B.clos B.kind B.names (thn hi λxv s1 h1=>thn h1 λitv a h2=>?_);obtain⟨it,h,tn,J,D,e,I2,T,st2,f2,R⟩:=h2;subst e;refine J5 (wpAny_newFunctionEnv B.cell (by intro y hy;simp at hy) (λL hns Uo=>?_) B.kind);have hl:=I2.hok.fresh (GK _);obtain⟨W,⟨m0,w0⟩,turn⟩:=R a.heap.objs.size hl
 have N:Inv X SI σ (upd D a.heap.objs.size (.lst [])) {a with heap:=eL a.heap }:=
  I2.laid (λb u e=>GI _ e) (GK _) ⟨Ir _,[],0,.nil,GZ _ rfl⟩
 have V:∀b∈h,b<a.heap.objs.size:=λb f=>let ⟨o,e,_⟩:=T.obj 0 _ st2 b f;GS e
 have P:∀b∈h,km X SI (upd D a.heap.objs.size (.lst [])) b:=λb f=>⟨by rw[aS (Hn (V b f))];exact (f2 b f).1,(f2 b f).2⟩
 have kp:∀b o,(eL a.heap).get? b=some o->L.get? b=some o:=λb o e=>
  Uo.extBut b o (Hn (GS e)) (GI _ e)
 have st4:=T.keep 0 _ _ st2 λb _ o e=>kp b o (GI _ e)
 have hfl3:∀b∈h,b<(eL a.heap).objs.size:=λb f=>by
  rw[Jr];exact JG (V b f)
 have I4:=qw (t':=a.toks+([]:List (Str×GM)).length) N B P hfl3 hns kp
 have K:Me (Hr X.prog X.w) X.A (.compLoop (.ListComp Ud [⟨tg,iter,cs,0⟩] SJ pos) 0 (.ref it) (.ref a.heap.objs.size) (compEnvC SJ cl (eL a.heap).objs.size X.env))
   (compPost (Hr X.prog X.w) X.A X.xe use Q (.ref a.heap.objs.size) (eL a.heap).objs.size)
   {a with heap:=L,toks:=a.toks+([]:List (Str×GM)).length }:=by
  generalize hs3:({a with heap:=eL a.heap }:GP)=F at *
  have hC:(eL a.heap).objs.size=F.heap.objs.size:=by rw[<-hs3]
  rw[hC]
  have U0:∀{j},(∀b∈h,j b=none)->∀b∈h,km (bX X SJ cl F D a.heap.objs.size h) [] j b:=λhn b f=>
   ⟨hn b f,(I4.ok.exf b f).1,I4.ok.exfs b f,.inl f,λx c e=>(I4.ok.exf b f).2 x c e,λp hp=>absurd hp (by simp)⟩
  have back:∀{SV}{j}{pp}{k},Inv (bX X SJ cl F D a.heap.objs.size h) pp SV j k->Inv X SI σ j k:=λI'=>
   N.call' I'.os I'.base I'.hok I'.bare λb f=>⟨(P b f).2.2.2.1,(P b f).2.1,(P b f).2.2.2.2.1,(P b f).2.2.2.2.2⟩
  refine codeAny_loop rfl (λn k=>∃i j,Inv (bX X SJ cl F D a.heap.objs.size h) [] (mask is σ) j k/\tn i k.heap/\(∀b∈h,j b=none)/\W i n j) ?_ m0 ⟨0,_,(by subst hs3;exact I4),st4,λb f=>(P b f).1,w0⟩;rintro n s5 ⟨i,H5,I5,st5,fr5,w5⟩;refine wpAny_noted ?_;rw[compTurn_list];refine GB (P3 (GB ?_));rcases turn i n H5 w5 with ⟨Y,q⟩ |⟨go,step⟩
  .refine thn (T.done (bX X SJ cl F D a.heap.objs.size h) rfl rfl rfl hc i [] s5 _ H5 _ I5 (U0 fr5) st5 Y) λr s6 ⟨hr,I6⟩=>?_;subst hr;refine GH ?_;obtain⟨m6,hn6,_⟩:=I6.loc;refine fin _ F.heap.objs.size H5 s6 m6 (back I6) hn6 I6.free (Km N.lt) (N.nofs (GK _)) N.sz (λx c e=>?_) (λp hp=>?_) q
   .obtain⟨v,z⟩:=N.cell x c e;exact Hn z.lt
   .exact Hn (GS (N.pin p hp).1)
  .refine thn (T.item (bX X SJ cl F D a.heap.objs.size h) rfl rfl rfl hc i [] s5 _ H5 _ I5 (U0 fr5) st5 go) λr s6 G=>?_;obtain⟨u,hr,h6⟩:=G;subst hr;refine GB (thn h6 λ_ s7 G=>?_);obtain⟨x,H7,I7,r7,y7,O,fr7⟩:=G;have I7':=I7.pinned (U0 fr7) (T.obj _ _ O);refine GB (KJ (hg _ _ _ _ _ s7 (mask is σ) H7 x u _ I7' r7 (step x H7 y7)) (λ_ s8 G=>?_) λ_ _ z=>z.elim);obtain⟨t,H8,I8,q8⟩:=G;refine GB (KJ (Q:=TP (bX X SJ cl F D a.heap.objs.size h) ([]++jw h s7.heap) t (CH is σ a.heap.objs.size te W i n t)) (E:=λ_ _=>False) ?_ (λbb s9 ⟨H9,S,sub,q9⟩=>?_) λ_ _ z=>z.elim)
   .rcases ht with ⟨rfl,z⟩ |⟨c,rfl,z⟩
    .exact wpAny_tests_nil ⟨H8,I8,z _ _ _ q8⟩
    .exact wpAny_tests_one (z _ _ _ _ _ s8 t H8 _ I8 q8)
   have Z:∀{j}{k}{SV},Inv (bX X SJ cl F D a.heap.objs.size h) ([]++jw h s7.heap) SV j k->tn (i+1) k.heap/\∀b∈h,j b=none:=λ{j k SV} J=>⟨T.keep _ _ _ O λb f o e=>(J.pin (b,o) (Ha _ (Ha _ (gj f e)))).1,λb f=>by
    obtain⟨o,e,d⟩:=T.obj _ _ O b f;exact (J.pin (b,o) (Ha _ (Ha _ (gj f e)))).2.1⟩
   cases bb with
   |true=>
    simp only[if_true];refine GB (GB (KJ (he _ _ _ _ _ s9 t H9 _ S q9) (λv s10 G=>?_) λ_ _ z=>z.elim));obtain⟨y,H10,I10,r10,vs,U,hz,m',hm,w'⟩:=G;refine GB (KJ (n_ (X:=bX X SJ cl F D a.heap.objs.size h) _ s10 t H10 (.ref a.heap.objs.size) [y] (.ref a.heap.objs.size) [v] (λ_ j=>j=upd H10 a.heap.objs.size (.lst (vs++[y]))) I10 rfl (.cons r10 .nil) ⟨_,vs,y,rfl,rfl,U,hz,rfl⟩) (λz s11 G=>?_) λ_ _ z=>z.elim);obtain⟨zv,H11,M,_,e11⟩:=G;subst e11;obtain⟨k1,k2⟩:=Z M;exact GH (GH ⟨rfl,m',hm,i+1,_,(M.unpinned).weak (by rw[M.len,gJ,I.len]) sub,k1,k2,w'⟩)
   |false=>
    simp only[G4,if_false];obtain⟨m',hm,w'⟩:=q9;obtain⟨k1,k2⟩:=Z S
    first
     |exact GH ⟨rfl,m',hm,i+1,_,(S.unpinned).weak (by rw[S.len,gJ,I.len]) sub,k1,k2,w'⟩
     |exact GB (GH (GH ⟨rfl,m',hm,i+1,_,(S.unpinned).weak (by rw[S.len,gJ,I.len]) sub,k1,k2,w'⟩))
 exact codeAny_compStart_list K (T.self X.A 0 _ _ _ st4 K)
theorem zt(u:X.calm=true)(B:dH X SJ cl is)
  (hi:PI X tg iter wi) (hg:∀C s H a,PG (br X SJ cl C s H a) tg g) (ht:Tst X SJ cl cs tt) (he:∀C s H a,PE (br X SJ cl C s H a) Ud te) (hs:∀x,IB iter X.env x=pure x):
  PE X (.ListComp Ud [⟨tg,iter,cs,0⟩] SJ pos) λσ H Q=>wi σ H (vA is g tt te σ Q):=by
 intro SI s σ H Q I h;rw[eval_ListComp];refine nH u B hg ht he hs I (hi SI s σ H _ I h) λl C d w m k p i f y c t r q=>⟨m,p,λv n=>?_⟩
 exact⟨.ref l,d,k.turned (λb o j e=>n.extBut b o j e) i (Ne.symm f.symm) (.inr c) t r,rfl,q⟩
theorem qc(M:X.calm=true)(E:X.N.Nodup)(O:X.N[j]?=some y)(t:Loc X.env.scope y)(B:dH X SJ cl is)
  (hi:PI X tg iter wi) (hg:∀C s H d,PG (br X SJ cl C s H d) tg g) (ht:Tst X SJ cl cs tt) (he:∀C s H d,PE (br X SJ cl C s H d) Ud te) (hs:∀x,IB iter X.env x=pure x)
  (Vp:Kl (.ListComp Ud [⟨tg,iter,cs,0⟩] SJ pos) (some (.Name y py)) Uu.line X.env=pure true) (hf:X.fn y=true\/X.env.scope.names.lookup y=some .local):
  PS X (.Assign [.Name y py] (.ListComp Ud [⟨tg,iter,cs,0⟩] SJ pos) Uu) (D9 (λσ H Q=>wi σ H (vA is g tt te σ Q)) (qj j)):=by
 intro SI s σ H D I h;rw[exec_Assign_Name_used _ _ _ _ Vp];refine GB (P3 (GB ?_));refine GB (KJ (nH M B hg ht he hs I (hi SI s σ H _ I h) λl C r z m G K w i T n k L q=>?_) (λ_ z F=>GH (GH F)) λ_ _ e=>e);refine Qk (jC G E O t (v:=.ref l) rfl (λR p P=>?_) hf);obtain⟨a,J,u⟩:=P
 have f:C≠a:=by
  rcases u with e |e
  .rw[e];exact i
  .exact Ne.symm (k _ _ e)
 refine⟨m,K.sameBut J f,λS c=>⟨_,r,p.turned (λb o A e=>c.extBut b o A e) w i (.inr n) k L,q⟩⟩
end
section
variable {X:Cx}{H0:Hp}{O0:List Hc}{E:XK}{ps:PSt}{D:PD}{tg iter cond Ud:Expr}{pos Uu py:Pos}{xs ys:List U}{fs:List (Option U)}{SJ:PL}{cl:List (Str×Hc)}{is:List Nat}{g:TG}{f:PSt→U→PSt}{dom:U→Prop}{cs:List Expr}{y:Str}{j:Nat}
theorem Yl.z{K:GE}(Y:Yl K J G xs):Yz K J G xs:=λb a=>⟨λi c=>⟨((Y b a).1 i c).1,λx d y=>by
 obtain⟨rfl,u,e,r⟩:=((Y b a).1 i c).2 x d y;exact⟨.refl _,u,e,λg _ f=>r.same f⟩⟩,(Y b a).2⟩
theorem EvI.z(h:EvI X H0 O0 ps tg iter xs):EvZ X H0 O0 ps tg iter xs:=PI.mono h λb H R ⟨O,r,q⟩=>⟨O,r,λJ a s Y=>q J a s Y.z⟩
theorem qT(hg:GOk g X.K is f dom)(SQ:fs.length=xs.length)(hz:xs.length<=sizeLine)(Ua:∀x∈xs,dom x)
  (ht:(cs=[]/\∀o∈fs,o.isSome=true)\/∃c,cs=[c]/\∀C s H t (i:Nat) (x:U) (o:Option U),xs[i]?=some x->fs[i]?=some o->Tt (br X SJ cl C s H t) H0 O0 (f (fe is ps) x) c o.isSome)
  (he:∀C s H t (i:Nat) (x y:U),xs[i]?=some x->fs[i]?=some (some y)->Ev (br X SJ cl C s H t) H0 O0 (f (fe is ps) x) Ud y):
  ∃tt te,Tst X SJ cl cs tt/\(∀C s H t,PE (br X SJ cl C s H t) Ud te)/\∀h A O Q J,Rs X.K H0 O0 ps h A O->Yz X.K J (hid A O) xs->
   (∀a n d,aY A d->A a=none->d a=some (.lst n)->Rps X.K (hid d (a::O)) n (fs.filterMap id)->Q (.ref a) d)->vA is g tt te h Q J A:=by
 refine⟨λh H Q=>∃(i:Nat) (x:U) (o:Option U),xs[i]?=some x/\fs[i]?=some o/\∃L,Rs X.K H0 O0 (f (fe is ps) x) h H L/\∀d,aY H d->Q o.isSome d,λh H Q=>∃i x y,xs[i]?=some x/\fs[i]?=some (some y)/\∃L,Rs X.K H0 O0 (f (fe is ps) x) h H L/\∀v d,aY H d->Rp X.K (hid d L) v y->Q v d,
  ?_,λC s H t P S h d Q I ⟨i,x,y,R,p,z⟩=>he C s H t i x y R p P S h d Q I z,λh A O Q J R1 Y N l F=>?_⟩
 .refine ht.imp (λ⟨a,b⟩=>⟨a,λh H Q ⟨i,x,o,_,p,_,_,q⟩=>b o (Hb p) ▸ q H (.refl H)⟩) λ⟨c,a,b⟩=>⟨c,a,λC s H t P S h d Q I ⟨i,x,o,R,p,z⟩=>b C s H t i x o R p P S h d Q I z⟩
 refine⟨λi m B=>m=xs.length-i/\i<=xs.length/\aY A B/\∃n,B l=some (.lst n)/\n.length<=i/\Rps X.K (hid B (l::O)) n ((fs.take i).filterMap id),⟨_,rfl,Ir _,aQ F _,[],a9,GK _,by rw[PF];exact .nil⟩,?_⟩;rintro i m B ⟨rfl,hi,D,n,p,hv,W⟩;have seen:aY (hid A O) (hid B (l::O)):=bM D F;obtain⟨y1,y2⟩:=Y B (seen.trans aC);by_cases M:i<xs.length
 .obtain⟨g1,g2⟩:=y1 i M;refine .inr ⟨g1,λx H3 y=>?_⟩;obtain⟨G,u,Z,r⟩:=g2 x H3 y;have R2:=((R1.mask (is:=is)).hide D F (by rw[p];intro z;cases z)).go G;have h3:=G _ _ p;refine hg H0 O0 _ _ H3 (l::O) x u _ (Ua u (Hb Z)) R2 (r (l::O) (λb hb z=>by rcases GF.mp hb with k |k;(rw[k,p]at z;cases z);exact R1.dom b k (D.free z)) seen) λσ4 R4 keep=>?_;obtain⟨o,T⟩:∃o,fs[i]?=some o:=⟨_,GC (by lia)⟩
  refine⟨i,u,o,Z,T,_,R4,λH5 E=>⟨λj w e=>keep j w (kP is h j w e).2 e,?_⟩⟩;have VI:=(W.same (aM G)).same (aM E);have e:(fs.take (i+1)).filterMap id=(fs.take i).filterMap id++o.toList:=by rw[Ku,T,Option.toList_some,List.filterMap_append];cases o <;>rfl
  cases o with
  |none=>exact oD ⟨xs.length-(i+1),by lia,rfl,M,(D.trans G).trans E,n,E _ _ h3,by lia,by rw[e];simpa using VI⟩
  |some yv=>
   refine oF ⟨i,u,yv,Z,T,_,R4.go E,λv H6 V r6=>⟨n,V _ _ (E _ _ h3),by lia,xs.length-(i+1),by lia,rfl,M,(((D.trans G).trans E).trans V).put F _,n++[v],a9,by simp;lia,?_⟩⟩;rw[oZ GR,e];exact (VI.same (aM V)).snoc (.cons r6 .nil)
 .have e:i=xs.length:=by lia
  subst e;rw[<-SQ,Kj]at W;exact .inl ⟨y2,N l n B D F p W⟩
theorem uA(z:X.calm=true)(B:dH X SJ cl is)(p:EvZ X H0 O0 ps tg iter xs)(l:∀C s H b,PG (br X SJ cl C s H b) tg g)(j:GOk g X.K is f dom)(u:fs.length=xs.length)(v:xs.length<=sizeLine)(w:∀x∈xs,dom x)
  (ht:(cs=[]/\∀o∈fs,o.isSome=true)\/∃c,cs=[c]/\∀C s H b (i:Nat) (x:U) (o:Option U),xs[i]?=some x->fs[i]?=some o->Tt (br X SJ cl C s H b) H0 O0 (f (fe is ps) x) c o.isSome)
  (he:∀C s H b (i:Nat) (x y:U),xs[i]?=some x->fs[i]?=some (some y)->Ev (br X SJ cl C s H b) H0 O0 (f (fe is ps) x) Ud y)
  (hs:∀x,IB iter X.env x=pure x):EvN X H0 O0 ps (.ListComp Ud [⟨tg,iter,cs,0⟩] SJ pos) (fs.filterMap id):=by
 obtain⟨D,E,t,m,A⟩:=qT j u v w ht he;exact PE.mono (zt z B p l t m hs) λG H Q ⟨O,R,q⟩=>⟨O,R,λJ F d Y=>A _ _ _ _ _ (R.go d) Y λa e k s n h r=>q a e k (d.trans s) (d.free n) h r⟩
theorem sV(d:Bool)(A:X.calm=true)(w:X.N.Nodup)(F:X.N[j]?=some y)(q:Loc X.env.scope y)(B:dH X SJ cl is)
  (hi:EvZ X H0 O0 ps tg iter xs) (hg:∀C s H e,PG (br X SJ cl C s H e) tg g) (gk:GOk g X.K is f dom) (SQ:fs.length=xs.length) (hz:xs.length<=sizeLine) (Ua:∀x∈xs,dom x)
  (ht:(cs=[]/\∀o∈fs,o.isSome=true)\/∃c,cs=[c]/\∀C s H e (i:Nat) (x:U) (o:Option U),xs[i]?=some x->fs[i]?=some o->Tt (br X SJ cl C s H e) H0 O0 (f (fe is ps) x) c o.isSome)
  (he:∀C s H e (i:Nat) (x y:U),xs[i]?=some x->fs[i]?=some (some y)->Ev (br X SJ cl C s H e) H0 O0 (f (fe is ps) x) Ud y) (h:D.nx (ps.set j (some (if d then .own (fs.filterMap id) else .val (.lst (fs.filterMap id))))))
  (hs:∀x,IB iter X.env x=pure x) (Vp:Kl (.ListComp Ud [⟨tg,iter,cs,0⟩] SJ pos) (some (.Name y py)) Uu.line X.env=pure true) (hf:X.fn y=true\/X.env.scope.names.lookup y=some .local):
  W1 X H0 O0 E (.Assign [.Name y py] (.ListComp Ud [⟨tg,iter,cs,0⟩] SJ pos) Uu) D ps:=by
 obtain⟨Q,S,u,t,G⟩:=qT gk SQ hz Ua ht he;refine PS.mono (qc A w F q B hi hg u t hs Vp hf) λP V H ⟨L,O,R⟩=>⟨O,R,λJ T k Y=>G _ _ _ _ _ (R.go k) Y λa I M s n l r=>?_⟩
 cases d with
 |true=>exact L.nx _ _ _ _ ((R.go k).own s n l r) h
 |false=>
  have p:a ∉ O:=λz=>(R.go k).dom a z n;have m:=r.same (fM λb v=>GG a v);exact L.nx _ _ _ _ (((R.go k).go s).set (.lst (dF l p) m.len m.at_)) h
theorem fmS(ys:List U):(ys.map some).filterMap id=ys:=by simp[List.filterMap_map]
theorem cE(h:X.calm=true)(B:dH X SJ cl is)(d:EvZ X H0 O0 ps tg iter xs)(b:∀C s H a,PG (br X SJ cl C s H a) tg g)(j:GOk g X.K is f dom)
  (SQ:ys.length=xs.length) (hz:xs.length<=sizeLine) (Ua:∀x∈xs,dom x) (he:∀C s H a (i:Nat) (x y:U),xs[i]?=some x->ys[i]?=some y->Ev (br X SJ cl C s H a) H0 O0 (f (fe is ps) x) Ud y)
  (hs:autoParam (∀x,IB iter X.env x=pure x) q0):EvN X H0 O0 ps (.ListComp Ud [⟨tg,iter,[],0⟩] SJ pos) ys:=
 fmS ys ▸ uA h B d b j (by simpa using SQ) hz Ua (.inl ⟨rfl,by simp⟩) (λC s H a i x y e c=>he C s H a i x y e (by simpa using c)) hs
theorem tE(a:Bool)(l:X.calm=true)(e:X.N.Nodup)(m:X.N[j]?=some y)(c:Loc X.env.scope y)(B:dH X SJ cl is)
  (hi:EvZ X H0 O0 ps tg iter xs) (hg:∀C s H b,PG (br X SJ cl C s H b) tg g) (gk:GOk g X.K is f dom) (SQ:ys.length=xs.length) (hz:xs.length<=sizeLine) (Ua:∀x∈xs,dom x)
  (he:∀C s H b (i:Nat) (x y:U),xs[i]?=some x->ys[i]?=some y->Ev (br X SJ cl C s H b) H0 O0 (f (fe is ps) x) Ud y) (h:D.nx (ps.set j (some (if a then .own ys else .val (.lst ys)))))
  (hs:autoParam (∀x,IB iter X.env x=pure x) q0)
  (Vp:autoParam (Kl (.ListComp Ud [⟨tg,iter,[],0⟩] SJ pos) (some (.Name y py)) Uu.line X.env=pure true) w4) (hf:autoParam (X.fn y=true\/X.env.scope.names.lookup y=some .local) v3):
  W1 X H0 O0 E (.Assign [.Name y py] (.ListComp Ud [⟨tg,iter,[],0⟩] SJ pos) Uu) D ps:=
 sV a l e m c B hi hg gk (by simpa using SQ) hz Ua (.inl ⟨rfl,by simp⟩) (λC s H b i x y k d=>he C s H b i x y k (by simpa using d)) ((fmS ys).symm ▸ h) hs Vp hf
theorem pP(fs:List (Option U))(d:X.calm=true)(B:dH X SJ cl is)(c:EvZ X H0 O0 ps tg iter xs)(b:∀C s H a,PG (br X SJ cl C s H a) tg g)(e:GOk g X.K is f dom)
  (SQ:fs.length=xs.length) (hz:xs.length<=sizeLine) (Ua:∀x∈xs,dom x) (ht:∀C s H a (i:Nat) (x:U) (o:Option U),xs[i]?=some x->fs[i]?=some o->Tt (br X SJ cl C s H a) H0 O0 (f (fe is ps) x) cond o.isSome)
  (he:∀C s H a (i:Nat) (x y:U),xs[i]?=some x->fs[i]?=some (some y)->Ev (br X SJ cl C s H a) H0 O0 (f (fe is ps) x) Ud y)
  (hs:autoParam (∀x,IB iter X.env x=pure x) q0):EvN X H0 O0 ps (.ListComp Ud [⟨tg,iter,[cond],0⟩] SJ pos) (fs.filterMap id):=
 uA d B c b e SQ hz Ua (.inr ⟨_,rfl,ht⟩) he hs
end
noncomputable def spU(K:GE)(c:List U->Out->Prop):Sp:=λd H Q E=>∃b O o,(∀a∈O,H a≠none)/\Rps K (hid H O) d b/\c b o/\rF K H O Q E o
section
variable {X:Cx}{H0:Hp}{O0:List Hc}{E:XK}{ps Tu:PSt}{D:PD}{s:Ki}{ss:List Ki}{a b c e:Expr}{pos p:Pos}{u x y:U}{xs ys us:List U}{k:Bool}
 {CX:CXT}{n:Nat}{f C:Hc}{fd:JR}{pn:List Str}{SY:List U->Out->Prop}{nm:Str}
theorem D4(F:c_ X.prog X.w X.K X.mg X.base CX n f fd pn (spU X.K SY))(j:cZ n X.A)(g:Gl X nm)(d:X.mg nm=some (.ref f))(i:JK X.K (.ref f)=true)(m:dy X.K fd pn [])(s:gT CX X E0)
  (ha:EvA X H0 O0 ps (e::es) us) (h:SY us (.val u)) (TY:autoParam ((nm==("__debug__":Str))=false) v0) (he:autoParam (GO (e::es) X.env=(false,Kg e X.env)::GO es X.env) w4) (Td:autoParam ((JZ pos (GO es X.env)).any (·.1)=false) w4):
  Ev X H0 O0 ps (.Call (.Name nm p) (e::es) [] pos) u:=
 PE.mono (kF F j g d i m .nil s ha TY he Td) λt H Q ⟨O,R,q⟩=>⟨O,R,λc r a k=>by
  show spU X.K SY (c++[]) r Q _;rw[II];exact⟨us,O,.val u,(R.go a).dom,k,h,λv l b o=>q v l (a.trans b) o⟩⟩
theorem DJ(F:c_ X.prog X.w X.K X.mg X.base CX n f fd pn (spU X.K SY))(m:cZ n X.A)(j:Gl X nm)(g:X.mg nm=some (.ref f))(k:JK X.K (.ref f)=true)(s:dy X.K fd pn [])(v:gT CX X E0)
  (ha:EvA X H0 O0 ps (e::es) us) (h:SY us (.new xs)) (TY:autoParam ((nm==("__debug__":Str))=false) v0) (he:autoParam (GO (e::es) X.env=(false,Kg e X.env)::GO es X.env) w4) (Td:autoParam ((JZ pos (GO es X.env)).any (·.1)=false) w4):
  EvN X H0 O0 ps (.Call (.Name nm p) (e::es) [] pos) xs:=
 PE.mono (kF F m j g k s .nil v ha TY he Td) λx H Q ⟨O,R,q⟩=>⟨O,R,λc u b o=>by
  show spU X.K SY (c++[]) u Q _;rw[II];exact⟨us,O,.new xs,(R.go b).dom,o,h,λa c r d i l t=>q a c r (b.trans d) (b.free i) l t⟩⟩
def Xv(X:Cx)(H0:Hp)(O0:List Hc)(E:XK)(ps:PSt)(e:Expr)(C:Hc):Prop:=PE X e λb H _=>∃O,Rs X.K H0 O0 ps b H O/\∀a,aY H a->E (.ref C) none a
theorem zI(F:c_ X.prog X.w X.K X.mg X.base CX n f fd pn (spU X.K SY))(j:cZ n X.A)(g:Gl X nm)(d:X.mg nm=some (.ref f))(i:JK X.K (.ref f)=true)(m:dy X.K fd pn [])(r:gT CX X E)
  (ha:EvA X H0 O0 ps (e::es) us) (h:SY us (.exc C)) (TY:autoParam ((nm==("__debug__":Str))=false) v0) (he:autoParam (GO (e::es) X.env=(false,Kg e X.env)::GO es X.env) w4) (Td:autoParam ((JZ pos (GO es X.env)).any (·.1)=false) w4):
  Xv X H0 O0 E ps (.Call (.Name nm p) (e::es) [] pos) C:=
 PE.mono (kF F j g d i m .nil r ha TY he Td) λs H Q ⟨O,R,q⟩=>⟨O,R,λc o a k=>by
  show spU X.K SY (c++[]) o Q _;rw[II];exact⟨us,O,.exc C,(R.go a).dom,k,h,λl b=>q l (a.trans b)⟩⟩
theorem DZ{i:Nat}{x:Str}(b:X.N.Nodup)(c:X.N[i]?=some x)(g:Loc X.env.scope x)(f:Xv X H0 O0 E ps e C)(h:D.rt (.exc C))(hs:autoParam (Kl e (some (.Name x S6)) pos.line X.env=pure false) w4)(d:autoParam (X.fn x=true\/X.env.scope.names.lookup x=some .local) v3):
  W1 X H0 O0 E (.Assign [.Name x S6] e pos) D ps:=PS.mono (sC b c g f hs d) λj k H ⟨L,O,R⟩=>⟨O,R,λa s=>L.rt _ h a (R.same.trans s)⟩
end
section
variable {P:GX}{w:HF}{K:GE}{mg:Str→Option GM}{base:Jx}{N pn:List Str}{SN nm:Str}{SJ:PL}{f:Hc}{cd:GM}{A:HM}{outer:List Env}{s:GP}{H H0:Hp}{O0:List Hc}{E:XK}{D:PD}{ps:PSt}{u:U}
theorem pE(a:N3 K C [.type "ValueError",.type "Exception",.type "BaseException",.type "object"] "ValueError.__new__"=true)
  (hg:Gl (eS (CXF P w) P w K mg base N SN SJ f cd A outer s H E) x) (hm:mg x=some (.ref C)) (he:Ev (eS (CXF P w) P w K mg base N SN SJ f cd A outer s H E) H0 O0 ps e0 u) (h:D.rt (.exc C))
  (TU:autoParam (GO [e0] (eS (CXF P w) P w K mg base N SN SJ f cd A outer s H E).env=[(false,Kg e0 (eS (CXF P w) P w K mg base N SN SJ f cd A outer s H E).env)]) w4) (hd:autoParam ((x==("__debug__":Str))=false) v0):
  W1 (eS (CXF P w) P w K mg base N SN SJ f cd A outer s H E) H0 O0 E (.Raise (some (.Call (.Name x np) [e0] [] SU)) none pos) D ps:=
 PS.mono (Ag a hg hm he TU hd) λc d H ⟨L,O,R⟩=>⟨O,R,λv b s r=>L.rt _ h b (R.same.trans s)⟩
noncomputable def fX(N:List Str)(us:List U):PSt:=us.map (λu=>some (.val u))++HJ (N.length-us.length) none
theorem uT{m:Ki}(F:Fun K nm SN m f fd)(S:ay N pn (am m))(p:∀b o,SY b o->b.length=pn.length)
  (TH:∀g A outer s H E O b o,cZ k (A.deeper (MN SN (am m) s.heap.objs.size f g))->SY b o->
   Ws (eS (CXF P w) P w K mg base N SN (am m) f g A outer s H E) H O E (bN m) ⟨λ_=>o=.val .non,λt=>t=o,λ_=>False,λ_=>False⟩ (fX N b)):c_ P w K mg base (CXF P w) (k+1) f fd pn (spU K SY):=by
 refine F.okF S (λu H Q E h=>?_) λg A outer s H u Q E z h=>?_
 .obtain⟨b,O,o,_,r,n,_⟩:=h;rw[r.len];exact p b o n
 .obtain⟨b,O,o,d,r,n,q⟩:=h;refine⟨_,TH g A outer s H E O b o z n,⟨λps L x I R e=>?_,λ_ _ _ _ _ e=>e.elim,λ_ _ _ _ _ e=>e.elim,λt e=>by subst e;exact q⟩,O,?_⟩
  .subst e;exact q .non x R.same .non
  .refine⟨.refl H,λa h=>h,λa h=>.inl h,d,?_,λi D e=>?_,λi j C G a l J _ _=>?_⟩
   .unfold start fX;rw[He,He,GD,GD,Jm,Jm,r.len]
   .unfold fX at e;by_cases c:i<b.length
    .rw[Hg (by simpa using c),GN,GC c]at e
     cases e;obtain⟨v,B,y⟩:=r.get (GC c);refine⟨v,?_,y⟩;unfold start;rw[Hg (by simpa [r.len] using c),GN,B];rfl
    .rw[Hj (by simpa using c),JX]at e
     split at e <;>cases e
   .exfalso
    unfold fX at l;by_cases c:i<b.length
    .rw[Hg (by simpa using c),GN,GC c]at l
     cases l
    .rw[Hj (by simpa using c),JX]at l
     split at l <;>cases l
end
section
variable {X:Cx}{H0:Hp}{O0:List Hc}{ps:PSt}{a b c e:Expr}{rest:List Expr}{pos p p2:Pos}{u x y:U}{xs ys us:List U}{i j:Int}{k m:Bool}{lo hi:Option Expr}{l h:Option Int}
def EvO(X:Cx)(H0:Hp)(O0:List Hc)(ps:PSt)(e:Option Expr)(n:Option Int):Prop:=PO X e λb H Q=>∃O,Rs X.K H0 O0 ps b H O/\∀a,aY H a->Q n a
theorem f7:EvO X H0 O0 ps none none:=λa s b H Q I ⟨O,R,q⟩=>BA a s b H Q I (q H (.refl H))
theorem fZ(d:Ev X H0 O0 ps e (.int i)):EvO X H0 O0 ps (some e) (some i):=λb s c H Q I ⟨O,R,q⟩=>B9 d b s c H Q I ⟨O,R,λv a s r=>by cases r;exact⟨i,rfl,q a s⟩⟩
noncomputable def iF(xs:List U)(lo hi:Option Int):List U:=(xs.drop (HT.sIx xs.length 0 lo)).take (HT.sIx xs.length xs.length hi-HT.sIx xs.length 0 lo)
theorem Rps.drop{K:GE}(r:Rps K H vs xs)(n):Rps K H (vs.drop n) (xs.drop n):=⟨by simp[r.len],λi v x b a=>r.at_ _ v x (by rwa [Ko]at b) (by rwa [Ko]at a)⟩
theorem Rps.take{K:GE}(r:Rps K H vs xs)(n):Rps K H (vs.take n) (xs.take n):=⟨by simp[r.len],λi v x a b=>by
 by_cases c:i<n
 .rw[Jl c]at a b;exact r.at_ i v x a b
 .rw[List.getElem?_take_eq_none (by lia)]at a
  cases a⟩
theorem Rps.cut{K:GE}(r:Rps K H vs xs):Rps K H (vO vs l h) (iF xs l h):=by
 unfold vO iF;rw[r.len];exact (r.drop _).take _
theorem eF(r:Ev X H0 O0 ps e x)(c:EvO X H0 O0 ps lo l)(d:EvO X H0 O0 ps hi h)(t:x=.lst xs\/x=.scr xs):EvN X H0 O0 ps (.Subscript e (.Slice lo hi none p2) pos) (iF xs l h):=
 PE.mono (Ae BQ r c d) λz H Q ⟨O,R,q⟩=>⟨O,R,λv o g n=>⟨O,R.go g,λy m=>⟨O,R.go (g.trans m),λw u=>by
  have k:∃a i,v=.ref a/\SqL X.K (hid o O) a i/\Rps X.K (hid o O) i xs:=by
   rcases t with rfl |rfl
   .cases n with
    |lst f c d=>exact⟨_,_,rfl,SqL.of f,c,d⟩
   .cases n with
    |scr f c d=>exact⟨_,_,rfl,f,c,d⟩
  obtain⟨a,i,rfl,f,s⟩:=k;have b:=m.trans u;refine⟨a,i,rfl,b.seq (aC.seq f),λp j=>q p _ _ ((g.trans b).trans (aQ j _)) ((g.trans b).free j) a9 ?_⟩;exact (s.cut.same (aM b)).same (bM (aQ j _) j)⟩⟩⟩
theorem fN(h:Ev X H0 O0 ps a (.lst xs))(j:Ev X H0 O0 ps b (.lst ys))(m:xs.length+ys.length<=sizeLine):EvN X H0 O0 ps (.BinOp a .Add b pos) (xs++ys):=
 PE.mono (vC DC h j) λr H Q ⟨O,R,q⟩=>two R (λ_ _ _ z=>z) (λ_ _ _ z=>z) λv w o s _ i k=>by
  cases i with
  |lst n e l=>
   cases k with
   |lst g f d=>
    refine⟨_,_,_,_,rfl,rfl,aC _ _ n,aC _ _ g,by rw[e,f];exact m,λp c=>q p _ _ (s.trans (aQ c _)) (s.free c) a9 ?_⟩;exact (Rps.snoc ⟨e,l⟩ ⟨f,d⟩).same (bM (aQ c _) c)
noncomputable def fl:U->V
 | .bl b=>.bl b | .int i=>.int i | .str x=>.str x |_=>.non
noncomputable def xr:U->Bool
 | .bl _=>true | .int _=>true | .str _=>true | .non=>true |_=>false
theorem CB{K:GE}(h:Rp K H v u)(f:xr u=true):v=fl u/\il v=true:=by
 cases h <;>first |exact⟨rfl,rfl⟩ |simp[xr]at f
theorem yZ{K:GE}:∀{vs}{xs},Rps K H vs xs->xs.all xr=true->vs=xs.map fl/\vs.all il=true
 |vs,[],r,_=>by rw[r.nil_inv];exact⟨rfl,rfl⟩
 |vs,x::xs,r,f=>by
  obtain⟨v,h,rfl,e,a⟩:=r.cons_inv;simp only[M4,Ic]at f;obtain⟨c,g⟩:=CB e f.1;obtain⟨b,d⟩:=yZ a f.2;refine⟨by rw[G_,<-c,<-b],?_⟩;simp only[M4,Ic];exact⟨g,d⟩
theorem Gu(z:xr x=true)(c:y.items=some ys)(f:ys.all xr=true):OpS X (Iw .In) x y (.bl (inV (fl x) (ys.map fl))):=by
 intro g s u H v w p q Q I i l h;obtain⟨t,r,d⟩:=h;obtain⟨a,b,rfl,k,e⟩:=pj r c;obtain⟨m,n⟩:=CB t z;obtain⟨o,j⟩:=yZ e f;exact wu g s u H v _ p q Q I i l ⟨a,b,rfl,k,n,j,by rw[m,o];exact d⟩
theorem EW{bs:List Bool}(P:X.calm=true):eA X (.builtin "all") [.lst (bs.map U.bl)] (.bl (bs.all id)):=by
 intro W s σ H S us Q I r k;obtain⟨O,d,J,q⟩:=k;obtain⟨v,rfl,D⟩:=cq J;obtain⟨p1,rfl,B⟩:=dR r;cases D with
 | @lst a f _ k t E=>
  cases B;obtain⟨its,g,c,_⟩:=I.list (SqL.of (aC _ _ k));have F:its.length=bs.length:=by rw[<-g.length,t,GD]
  have G:∀(i:Nat) z,its.toArray[i]?=some z->z=.bool (bs.getD i false):=λi z e=>by
   have hi:i<its.length:=by have:=aH (show its[i]?=some z by simpa using e);exact this
   have m:i<bs.length:=by lia
   have l:i<f.length:=by rw[g.length];exact hi
   obtain⟨u,n,L⟩:=g.get (GC l);have M:=E i f[i] (.bl bs[i]) (GC l) (by rw[GN,GC m];rfl);have C:its[i]?=some z:=by simpa using e
   rw[C]at n;cases n;generalize f[i]=V at *;cases M;rw[G7,GC m];exact L
  refine call_all_walk (JD c.isList ?_);have N:a≠s.heap.objs.size:=by obtain⟨o,e,_⟩:=c.isList;exact Hn (GS e)
  refine⟨s.heap.objs.size,_,_,_,_,_,λi=>bs.getD i false,rfl,Walks.list (A:=X.A.in1) (I.ok.hd P) s.heap.objs.size a N its.toArray,⟨⟨_,GZ _ rfl,rfl,rfl⟩,c.isList.push _⟩,λi z Y Q' E' y K=>?_,λT Z w=>?_⟩
  .rw[G i z y];exact IT K
  .have e:(HI its.toArray.size).all (λi=>bs.getD i false)=bs.all id:=by
    rw[G5,F,Li,oh,K_];constructor
    .intro h x R;obtain⟨i,hi,rfl⟩:=IF R;have:=h i hi
     rwa [G7,GC hi]at this
    .intro h j p;rw[G7,GC p];exact h _ (HV p)
   rw[e];refine⟨.bl _,H,I.kept λb o e=>w b o ?_ (GI _ e),rfl,q _ H (.refl H) (.bl _)⟩;intro z;have:b=s.heap.objs.size:=by simpa using z
   exact absurd (GS e) (by rw[this];exact Hw _)
end
theorem Ws.nox(h:Ws X.nox H0 O0 E ss D ps):Ws X H0 O0 E ss D ps:=PSs.nox h
theorem c_.calm{K:GE}(F:c_ P w K mg base (CXF P w) k f fd ps sp)(h:∀c H Q E,sp c H Q E->sp c H Q E0):c_ P w K mg base CX0 k f fd ps sp:=by
 refine⟨F.len,λA a s H b m c Q E j g l d n=>L7 (F.run A a s H b m c Q E0 j g l d (h _ _ _ _ n)) λr o q=>?_⟩;cases r with
 |ok fl=>
  cases fl with
  |ret u=>exact q
  |next=>exact q
  |brk=>exact q
  |cont=>exact q
 |error e=>
  obtain⟨_,_,_,_,_,_,_,_,_,_,_,_,_,_,_,i⟩:=q;exact i.elim
def jj:List U->Out->Prop:=λb o=>∃a:List Int,b=[.scr (a.map U.int)]/\a.length<=63/\(∀m∈a,Sz 1048576 m)/\o=.val (.bl true)
theorem yq{K:GE}(vs)(H)(Q)(E)(h:spU K jj vs H Q E):spU K jj vs H Q E0:=by
 obtain⟨c,O,o,d,r,⟨a,e,b,f,rfl⟩,q⟩:=h;exact⟨c,O,_,d,r,⟨a,e,b,f,rfl⟩,q⟩
theorem wo{K:GE}{ns:List Int}(h:ns.length<=63)(g:∀m∈ns,Sz 1048576 m)(j:SqL K H a (ns.map V.int)):spU K jj [.ref a] H (λv _=>v=.bl true) E:=by
 refine⟨[.scr (ns.map U.int)],[],.val (.bl true),λa f=>(nomatch f),.cons ?_ .nil,⟨ns,rfl,h,g,rfl⟩,λv k s r=>by cases r;rfl⟩;have e:hid H []=H:=by funext b;unfold hid;rw[if_neg (by simp)]
 rw[e];refine .scr j (by simp) λi v x c d=>?_;rw[GN]at c d;cases q:ns[i]? with
 |none=>rw[q]at c;cases c
 |some n=>rw[q]at c d;cases c;cases d;exact .int n
theorem ig(a:cZ k A):A.units+10<KZ:=by have:=a.un;lia
theorem zU{ns:List Int}(b:0<=k)(h:k<(ns.length:Int)):atI (ns.map U.int) k=some (.int (ns.getD k.toNat 0)):=by
 have a:k.toNat<ns.length:=by lia
 have q:atI (ns.map U.int) ((k.toNat:Nat):Int)=some (.int (ns.getD k.toNat 0)):=uN (by rw[GN,G7,GC a] <;>rfl)
 rwa [show ((k.toNat:Nat):Int)=k by lia]at q
theorem Bi{ns:List Int}(h:∀m∈ns,Sz 1048576 m)(i):Sz 1048576 (ns.getD i 0):=by
 by_cases a:i<ns.length
 .rw[G7,GC a,LQ];exact h _ (HV a)
 .rw[G7,Hu (by lia),Og];exact Sz.mono (m:=8) (by decide) (by decide)
noncomputable abbrev pt(x y:Int):U:=.tup [.int x,.int y]
theorem dTb[Decidable p](h:decide p=true):p:=of_decide_eq_true h
theorem dFb[Decidable p](h:decide p=false):¬ p:=of_decide_eq_false h
theorem nTb[Decidable p](h:(!decide p)=true):¬ p:=by simpa using h
theorem nFb[Decidable p](h:(!decide p)=false):p:=by simpa using h
theorem vB(h:a=b):Out.val (.bl a)=Out.val (.bl b):=by rw[h]
theorem vIO(h:a=b):Out.val (.int a)=Out.val (.int b):=by rw[h]
mutual
theorem qM:∀n u,okU n u=true->eqW u u=true
 |_,.non,_=>rfl
 |_,.bl b,_=>beq_self_eq_true b
 |_,.int b,_=>beq_self_eq_true b
 |_,.str b,_=>beq_self_eq_true b
 |n+1,.tup a,h=>eqWs_refl n a h
 |n+1,.lst a,h=>eqWs_refl n a h
 |n+1,.scr a,h=>eqWs_refl n a h
theorem eqWs_refl:∀n a,okUs n a=true->eqWs a a=true
 |_,[],_=>rfl
 |n,x::a,h=>by
  simp only[okUs,Ic]at h;exact MX.mpr ⟨qM n x h.1,eqWs_refl n a h.2⟩
end
theorem Af{c:Type}{f:c->U}{l:List c}(h:∀a∈l,okU n (f a)=true):okUs n (l.map f)=true:=by
 induction l with
 |nil=>rfl
 |cons a l d=>
  rw[G_,okUs,Ic];exact⟨h a GR,d λb e=>h b (GG _ e)⟩
theorem zu{b:Type}{n:Nat}{f:b->U}{l:List b}(h:∀a,okU n (f a)=true):okU (n+1) (.lst (l.map f))=true:=Af λa _=>h a
theorem qQ{c:Type}{f:c->U}{p:c->c->Prop}[DecidableEq c](d:∀a b,eqW (f a) (f b)=decide (a=b)):∀(l m:List c),eqWs (l.map f) (m.map f)=decide (l=m)
 |[],[]=>rfl
 |[],_::_=>rfl
 |_::_,[]=>rfl
 |a::l,b::m=>by
  show (eqW (f a) (f b) && eqWs (l.map f) (m.map f))=_;rw[d,qQ (p:=p) d l m,Li];simp
section
variable {X:Cx}{H0:Hp}{O0:List Hc}{E:XK}{ps:PSt}{D:PD}{a b c e:Expr}{rest:List Expr}{pos:Pos}{k:Bool}
theorem bR(b:Tt X H0 O0 ps c k)(a:k=true)(h:Ws X H0 O0 E tb D ps):W1 X H0 O0 E (.If c tb fb pos) D ps:=mY b (λ_=>h) (λe=>by rw[a]at e;cases e)
theorem aU(b:Tt X H0 O0 ps c k)(a:k=false)(h:Ws X H0 O0 E fb D ps):W1 X H0 O0 E (.If c tb fb pos) D ps:=mY b (λe=>by rw[a]at e;cases e) (λ_=>h)
theorem gD(c:Tt X H0 O0 ps a k)(d:k=false):Tw X H0 O0 ps (.BoolOp .And (a::b::rest) pos) false:=by
 subst d;exact lh (m:=true) c λh=>by cases h
theorem Cs(c:Ev X H0 O0 ps a (.bl k))(d:k=true):Ev X H0 O0 ps (.BoolOp .Or (a::b::rest) pos) (.bl true):=by
 subst d;exact EK (m:=true) c λh=>by cases h
end
section
variable {X:Cx}{H0:Hp}{O0:List Hc}{E:XK}{ps:PSt}{D:PD}{tg iter c:Expr}{pos:Pos}{xs:List U}{α:Type}
theorem TgS.sub(h:TgS X H0 O0 tg p u Tu)(hs:SubP p p'):TgS X H0 O0 tg p' u Tu:=PG.mono h λv a H Q ⟨O,R,r,q⟩=>⟨O,R.sub hs,r,q⟩
theorem Tt.sub(h:Tt X H0 O0 p e k)(hs:SubP p p'):Tt X H0 O0 p' e k:=PT.mono h λa H Q ⟨O,R,q⟩=>⟨O,R.sub hs,q⟩
theorem d_(c:α->PSt)(Q:Nat->α->Prop)(j:X.calm=true)(h:OK (Hr X.prog X.w) X.A X.env X.xe)(g:EvI X H0 O0 ps tg iter xs)(f:∃a,Q 0 a/\SubP (c a) ps)
  (hs:∀H0 i x (a:α),xs[i]?=some x->Q i a->∃d,TgS X H0 O0 tg (c a) x d/\Ws X H0 O0 E S8 {D with nx:=λp=>∃b,Q (i+1) b/\SubP (c b) p,ct:=λp=>∃b,Q (i+1) b/\SubP (c b) p,bk:=D.nx } d)
  (hd:∀a ps,Q xs.length a->SubP (c a) ps->D.nx ps) (hf:autoParam (∀x,IB iter X.env x=pure x) q0):W1 X H0 O0 E (.For tg iter S8 [] pos) D ps:=
 EH j h g (λi ps=>∃a,Q i a/\SubP (c a) ps) f (λH0 i x ps k l=>by
  obtain⟨a,q,e⟩:=l;obtain⟨d,t,w⟩:=hs H0 i x a k q;exact⟨d,t.sub e,w⟩) (λps ⟨a,q,e⟩=>hd a ps q e) hf
theorem gH(h:α->PSt)(Q:Nat->α->Prop)(r:OK (Hr X.prog X.w) X.A X.env X.xe)(s:∃m a,Q m a/\SubP (h a) ps)
  (hs:∀m a,Q m a->∃b,Tt X H0 O0 (h a) c b/\(b=true->Ws X H0 O0 E S8 {D with nx:=λp=>∃d f,d<m/\Q d f/\SubP (h f) p,ct:=λp=>∃d f,d<m/\Q d f/\SubP (h f) p,bk:=D.nx } (h a))/\(b=false->∀ps,SubP (h a) ps->D.nx ps)):W1 X H0 O0 E (.While c S8 [] pos) D ps:=by
 obtain⟨m,a,q,i⟩:=s;refine Bp r (λm ps=>∃a,Q m a/\SubP (h a) ps) m ⟨a,q,i⟩ λm ps u=>?_;obtain⟨a,q,i⟩:=u;obtain⟨b,t,o,n⟩:=hs m a q;refine⟨b,t.sub i,λe=>?_,λe=>n e ps i⟩;refine cX (PSs.mono (o e) λv j H ⟨L,O,R⟩=>⟨⟨λp j H O R ⟨d,f,l,k,g⟩=>L.nx p j H O R ⟨d,l,f,k,g⟩,L.bk,λp j H O R ⟨d,f,l,k,g⟩=>L.ct p j H O R ⟨d,l,f,k,g⟩,L.rt⟩,O,R⟩) i
end
noncomputable abbrev P2:=Int×Int
noncomputable abbrev pu(p:P2):U:=.tup [.int p.1,.int p.2]
noncomputable abbrev lp(l:List P2):U:=.lst (l.map pu)
theorem tF(p q):eqW (pu p) (pu q)=decide (p=q):=by
 obtain⟨a,b⟩:=p;obtain⟨c,d⟩:=q;show (a==c && (b==d && true))=_;rw[Li];simp
theorem Do(l m:List P2):eqW (lp l) (lp m)=decide (l=m):=qQ (p:=λ_ _=>True) tF l m
theorem CO(l):okU 9 (lp l)=true:=zu λ_=>rfl
theorem zR{l:List P2}{i:Nat}(h:(l.map pu)[i]?=some x):∃p,l[i]?=some p/\p∈l/\x=pu p:=by
 rw[GN]at h;cases q:l[i]? with
 |none=>rw[q]at h;cases h
 |some p=>rw[q]at h;cases h;exact⟨p,rfl,Hb q,rfl⟩
theorem di{c:Type}{l:List c}{f:c->U}{g:c->U}{i:Nat}(b:(l.map f)[i]?=some x)(d:(l.map g)[i]?=some y):∃a,l[i]?=some a/\a∈l/\x=f a/\y=g a:=by
 rw[GN]at b d;cases q:l[i]? with
 |none=>rw[q]at b;cases b
 |some p=>rw[q]at b d;cases b;cases d;exact⟨p,rfl,Hb q,rfl,rfl⟩
theorem W1.mono(h:W1 X H0 O0 E s {D with nx:=J } ps)(m:∀ps,J ps->D.nx ps):W1 X H0 O0 E s D ps:=
 PS.mono h λb a H ⟨L,O,R⟩=>⟨⟨λp a H O R q=>L.nx p a H O R (m p q),L.bk,L.ct,L.rt⟩,O,R⟩
theorem jL(J)(a:W1 X H0 O0 E s {D with nx:=J } ps)(b:∀ps,J ps->Ws X H0 O0 E ss D ps):Ws X H0 O0 E (s::ss) D ps:=
 af (W1.mono a b)
end L2
namespace PySem.W
open PySem PySem.Spec PySem.Calls PyProof.Rows
theorem tw{K:Frag}(X:K.In s.heap)(I:OfCls x C s.heap)(e:typeIn K (.ref B)=some (.type "type"))(j:(clsIn K B).isSome=true)
  (hB:mroIn K B (.type "BaseException")=some true) (hC:mroIn K C (.ref B)=some true) (h:Q true s):Ht M A (excMatches (.ref x) (.ref B)) Q E s:=by
 have v:Looks M s.heap (Sy (.ref x)) (.ref C):=I.type;have i:Looks M s.heap (Sy (.ref B)) (.type "type"):=looks_typeIn X e;have l:Looks M s.heap (NI (.ref B) (.type "tuple")) false:=i.andThen (Looks.of_pure tc_notTuple);have r:Looks M s.heap (isSubtype (.ref B) (.type "BaseException")) true:=looks_mroIn X hB;have m:Looks M s.heap (isSubtype (.ref C) (.ref B)) true:=looks_mroIn X hC
 have G:Looks M s.heap (isType (.ref B)) true:=by
  obtain⟨d,a⟩:=Jk.mp j;unfold clsIn at a;split at a
  .rename_i w n f b c
   intro z F y p k q;unfold isType loadHead;exact GB (Ru (k _ _ (X _ _ c)) (GH q))
  .cases a
 obtain⟨u,g,o,t,D⟩:=s;unfold excMatches isExcClass
 repeat (first |lk |wp_step)
 exact h
end PySem.W
namespace L2
open PySem PySem.Spec PySem.W PyProof.Rows
section
variable {X:Cx}{SI:List (Hc×Obj)}{σ:St}{H:Hp}{s:GP}
theorem kD(I:Inv X SI σ H s)(V:X.N.Nodup)(D:X.N[i]?=some x)(O:X.env.kindOf x=some .local)
  (h:∀G,Inv X SI (σ.set i none) H G->Q () G):Ht M A (do QZ X.env x .none;unbindBehindTheSuite X.env x pos) Q E s:=by
 obtain⟨m,hn,L⟩:=id I.loc;have g:(X.env.scope.kind==.class || (X.env.scope.kind==.module && X.env.locals !=X.env.globals))=false:=by rw[I.ok.kind];rfl
 have R:i<σ.length:=by rw[I.len];exact (GV.mp D).1
 have cne:=I.cne;refine wpAny_nameGoes_keeps O hn g λK v T a=>?_
 have J:HOk X.prog X.w H K:=λb P e=>by
  refine (I.hok b P e).stay (λc C t q=>(a.2 c ?_).trans q) (λ_ q=>q) λ_ _ q=>q;rintro rfl;rcases t with z |t
  .rw[<-z,I.free]at e;cases e
  .rw[I.free]at t;cases t
 refine h _ ⟨I.ok,I.os,I.bare,⟨λb o e n u l=>?_,λb o e n u l=>?_,I.base.free,λb o e l=>?_,I.base.tups,I.base.frzs,I.base.tbls⟩,⟨_,T,λj y v' f r e3=>?_⟩,λy c e=>?_,I.free,I.freeC,λp W=>?_,J,by simpa using I.len⟩
 .exact (a.2 b (Hn (GT (GS e) I.ok.above))).trans (I.base.keep b o e n u l)
 .obtain⟨S,f⟩:=I.base.slot b o e n u l;exact⟨S,(a.2 b (Hn (GT (GS e) I.ok.above))).trans f⟩
 .obtain⟨Y,f⟩:=I.base.there b o e l;exact⟨Y,(a.2 b (Hn (GT (GS e) I.ok.above))).trans f⟩
 .by_cases B:j=i
  .subst B;rw[Ms R]at r;cases r
  .rw[Hs (Ne.symm B)]at r;obtain⟨U,Z,q⟩:=L j y v' f r e3;refine⟨U,Z,?_⟩;rcases q with ⟨k,e⟩ |⟨k,c,e,z⟩
   .refine .inl ⟨k,?_⟩;have:y≠x:=λe=>B (md V f (e ▸ D));simp[this,e]
   .exact .inr ⟨k,c,e,z.sameBut a (cne y c e)⟩
 .obtain⟨C,z⟩:=I.cell y c e;exact⟨C,z.sameBut a (cne y c e)⟩
 .obtain⟨e,n,F,nf,d⟩:=I.pin p W;exact⟨(a.2 p.1 F).trans e,n,F,nf,d⟩
theorem yP{k:List Hc}{j d:Hp}{h i:Jx}{a:Hc}{o:HO}(u:Un k [] j d h i)(l:h.get? a=none)(g:d a=none):Un k [] j (upd d a o) h i where
 keep:=u.keep
 slot:=u.slot
 free:=λb f e n r=>by
  rw[aS λz=>by subst z;rw[l]at e;cases e];exact u.free b f e n r
 there:=u.there
 tups:=λb c e=>by have q:=u.tups b c e;rw[aS (bS q g)];exact q
 frzs:=λb f c e=>by have q:=u.frzs b f c e;rw[aS (bS q g)];exact q
 tbls:=λb p e=>by obtain⟨m,q⟩:=u.tbls b p e;exact⟨m,by rw[aS (bS q g)];exact q⟩
theorem wG(k:HOk P w H' h)(b:H' ea=none)(I:OfCls ea C h):HOk P w (upd H' ea (.ext (OfCls ea C))) h:=λa o e=>by
 by_cases z:a=ea
 .subst z;rw[a9]at e;cases e;obtain⟨f,i,n⟩:=id I;exact⟨I,⟨f,i⟩,λm l ⟨d,j,c⟩ g=>⟨d,g _ j,c⟩⟩
 .rw[aS z]at e;refine (k a o e).stay (λ_ _ _ q=>q) (λ_ q=>?_) λ_ _ q=>?_
  all_goals (first | (rw[aS (bS q b)];exact q) |trace_state)
end
section
variable {X:Cx}
noncomputable def oS.drop(D:oS)(i:Nat):oS:=⟨λa H=>D.nx (a.set i none) H,D.rt,λa H=>D.bk (a.set i none) H,λa H=>D.ct (a.set i none) H⟩
noncomputable def Es(K:Frag)(sp:Sp)(B:Hc)(i:Nat)(ta:TA)(th:TS):TS:=λD d H=>ta d H λf e=>sp f e (λ_ b=>D.nx d b) λc _ b=>∃C,c=.ref C/\mroIn K C (.ref B)=some true/\
 ∀a,b a=none->th (D.drop i) (d.set i (some (.ref a))) (upd b a (.ext (OfCls a C)))
theorem xo 
  (hstk:X.stack=X.env::X.outer) (hfr:X.env.frame=some X.env.locals) (F:c_ X.prog X.w X.K X.mg X.base (CXF X.prog X.w) k fA fd ps sp) (hr:cZ k X.A) (hg:Gl X f) (hm:X.mg f=some (.ref fA)) (hk:keepIn X.K (.ref fA)=true) (hb:dy X.K fd ps []) (ha:PA X.nox (e::es) ta)
  (hgx:Gl X x) (hmx:X.mg x=some (.ref B)) (hT:typeIn X.K (.ref B)=some (.type "type")) (hB:mroIn X.K B (.type "BaseException")=some true)
  (hN:X.N.Nodup) (hi:X.N[i]?=some n) (hl:X.env.kindOf n=some .local) (hth:∀a,PSs (iE X a) (b₀::suite) th)
  (TY:autoParam ((f==("__debug__":Str))=false) v0) (hdx:autoParam ((x==("__debug__":Str))=false) v0) (he:autoParam (GO (e::es) X.env=(false,Kg e X.env)::GO es X.env) w4) (Td:autoParam ((JZ SU (GO es X.env)).any (·.1)=false) w4)
  (Vp:autoParam (Kl (.Call (.Name f p) (e::es) [] SU) none epos.line X.env=pure false) w4):
  PS X (.Try [.Expr (.Call (.Name f p) (e::es) [] SU) epos] [.ExceptHandler (some (.Name x np)) (some n) (b₀::suite) hpos] [] [] pos) (Es X.K sp B i ta th):=by
 intro j s Z H D I h;refine wpAny_Try_except ?_;refine QK (Rm (Q:=λf s'=>match f with | .next=>Ht (Hr X.prog X.w) X.A (execs [] X.env) (λf SR=>match f with | .next=>Ht (Hr X.prog X.w) X.A (execs [] X.env) (SP X j D) X.xe SR |f=>SP X j D f SR) _ s' |f=>_) ?_ I.quiet Vp);refine Iq (iX I hg hm ?_ TY);refine P5 (h₀:=X.base) I.ok.mod.kin hk (KJ (ha SU j s Z H _ (I.wish _) h) (λus M ⟨vs,H1,I1,r,q⟩=>⟨I1.kIn,?_⟩) λ_ _ z=>z.elim) he Td;have d:Inv X j Z H1 M:=I1.unwish;have SQ:us.length=ps.length:=by rw[<-r.length];exact F.len _ _ _ _ q
 have Y:=hb M us d.kIn (by rw[II];exact SQ);rw[II]at Y;refine Pk (L7 (F.run X.A X.stack M H1 ⟨us,[]⟩ us vs _ _ hr d.env0 Y r q) λres s' R=>?_)
 cases res with
 |ok fl=>
  cases fl with
  |ret u=>
   obtain⟨v,H2,I2,_,q2⟩:=d.after R;exact Mb (Mb ⟨Z,H2,I2,q2⟩)
  |next=>exact False.elim R
  |brk=>exact False.elim R
  |cont=>exact False.elim R
 |error ev=>
  obtain⟨a,cls,a0,B0,H',rfl,os,l,un,P,y,k1,k2,k3,fl,C,rfl,hmC,hT'⟩:=R;have g:=d.ok.frames;have V:=fl;rw[hstk]at g fl;refine wpAny_looks_onW g hfr fl λh4 E O=>?_
  refine wpAny_landsW E λh5 G S=>?_;have J:∀b∈frs X.stack,∀o,M.heap.get? b=some o->∀vs,o.data≠.fields vs:=oE d.stack
  have inv:∀c,B0.StaysIn c->s'.heap.UpToSlots c->Inv X j Z H' {s' with heap:=c }:=λc T up=>
   d.call' (s':={s' with heap:=c }) (ch:=[]) os (yE un k1 k3 T up J d.stkFree) (kA P k2 fl.1 T) l (λb z=>absurd z (by simp))
  have n0:M.heap.get? a=none:=by
   cases z:M.heap.get? a with
   |none=>rfl
   |some o=>
    exfalso
    by_cases T4:a∈frs X.stack
    .obtain⟨sl,e1⟩:=un.slot a o z (d.stkFree a T4) T4 (by simp);obtain⟨_,_,_,oe,vs',T',oT,ts,g1,g2,g3,_⟩:=V;rw[e1]at g1;cases g1;exact J a T4 o z _ g3
    .obtain⟨o',e'⟩:=k3 a o z T4;have:=V.2.1;rw[e']at this;cases this
  have U:∀c,B0.StaysIn c->s'.heap.UpToSlots c->OfCls a C c->Inv X j Z (upd H' a (.ext (OfCls a C))) {s' with heap:=c }:=λc T up oc=>
   d.call' (s':={s' with heap:=c }) (ch:=[]) os (yP (yE un k1 k3 T up J d.stkFree) n0 y) (wG (kA P k2 fl.1 T) y oc) l (λb z=>absurd z (by simp))
  have I5:=inv h5 G.1 (O.trans S);refine wpAny_handleBy_cons (codeAny_handlers_test (iX (X:=iE X a) (I5.hand a) hgx hmx ?_ hdx)) (by intro z;cases z);refine tw I5.kIn G.there hT (k_ hB) hB hmC ?_;refine codeAny_handlers_suite_as (lands_againW G λc W up6=>?_);have I6:=U c W.1 ((O.trans S).trans up6) W.there;refine jC (X:=iE X a) (v:=.ref a) (I6.hand a) hN hi (.inl hl) rfl (λs7 I7 _=>?_) (.inr hl);refine KJ (hth a j s7 _ _ (D.drop i) I7 (hT' a y)) (λf s2 z=>?_) λ_ _ z=>z.elim;have z1:SP X j (D.drop i) f s2:=z.unhand I.ok.hd;cases f with
  |next=>obtain⟨SV,H8,t,m⟩:=z1;exact kD t hN hi hl λs9 L=>⟨_,_,L,m⟩
  |brk=>obtain⟨SV,H8,t,m⟩:=z1;exact kD t hN hi hl λs9 L=>⟨_,_,L,m⟩
  |cont=>obtain⟨SV,H8,t,m⟩:=z1;exact kD t hN hi hl λs9 L=>⟨_,_,L,m⟩
  |ret u=>obtain⟨v,SV,H8,t,r8,m⟩:=z1;exact kD t hN hi hl λs9 L=>⟨v,_,_,L,r8,m⟩
variable {H0:Hp}{O0:List Hc}{E:XK}{ps:PSt}{D:PD}{a e:Expr}{es:List Expr}{us:List U}{k:Bool}{n:Nat}{fd:JR}{pn:List Str}{SY:List U→Out→Prop}
theorem Az:cA X (.builtin "isinstance") (λb H Q=>∃a C D k,b=[.ref a,.ref D]∧H a=some (.ext (OfCls a C))∧XcOk X.K C∧kitOne X.K (.ref C) (.ref D)=some k∧Q (.bl k) H):=by
 intro j s m H b us Q I r h;obtain⟨a,C,D,k,rfl,c,d,e,q⟩:=h;obtain⟨u,i,rfl,f,g⟩:=gN r;cases f;cases g;exact Ip d.kit I.kIn (I.hok _ _ c).1 e (λz=>nomatch z) λl=>⟨.bl k,H,I.tok _,rfl,q⟩
theorem bF(h:kitOne X.K (.ref C) (.ref D')=some k)(g:Gl X "isinstance")(f:X.mg "isinstance"=none)(e:IL "isinstance"=some (.builtin "isinstance"))(i:Ev X H0 O0 ps a (.ty (.xc C)))(b:Gl X nm)(c:X.mg nm=some (.ref D'))
  (hd:autoParam ((nm==("__debug__":Str))=false) v0)
  (he:autoParam (GO [a,.Name nm p2] X.env=(false,Kg a X.env)::GO [.Name nm p2] X.env) w4) (he2:autoParam (GO [.Name nm p2] X.env=(false,Kg (.Name nm p2) X.env)::GO [] X.env) w4) (Td:autoParam ((JZ pos (GO [.Name nm p2] X.env)).any (·.1)=false) w4):
  Ev X H0 O0 ps (.Call (.Name "isinstance" p) [a,.Name nm p2] [] pos) (.bl k):=
 PE.mono (mO Az g f e (cp i (cp (ur (v:=.ref D') b c rfl hd) dZ he2) he) (by decide) (by decide) he Td) λo H Q ⟨O,R,q⟩=>⟨O,R,λv n d l=>by
  cases l with
  |xc m j=>exact⟨_,_,_,k,rfl,aC _ _ m,j,h,q _ n d (.bl k)⟩⟩
theorem jI{n:String}(h:GW X.K (.ref C) (.type n)=some k):eA X (.builtin "isinstance") [.ty (.xc C),.ty (.nm n)] (.bl k):=by
 intro i s t H u us Q I r p;obtain⟨O,d,o,q⟩:=p;obtain⟨v,w,rfl,l,g⟩:=fY o;cases g;obtain⟨x,f,rfl,j,m⟩:=gN r;cases (show f=J4 n from m);have a:∀b,EP X i t Q (.bool k) {s with toks:=b }:=λb=>⟨.bl k,H,I.tok _,rfl,q _ H (.refl H) (.bl _)⟩
 cases l with
 |xc e c=>
  cases j;exact Ip c.kit I.kIn (I.hok _ _ (aC _ _ e)).1 h (λz=>nomatch z) a
noncomputable def PD.drop(D:PD)(i:Nat):PD:=⟨λp=>D.nx (p.set i none),D.rt,λp=>D.bk (p.set i none),λp=>D.ct (p.set i none)⟩
theorem Lf.drop{K:Frag}(L:Lf K H0 O0 E D D')(i):Lf K H0 O0 E (D.drop i) (D'.drop i):=
 ⟨λps a H O R h=>L.nx _ _ H O R.drop h,λps a H O R h=>L.bk _ _ H O R.drop h,λps a H O R h=>L.ct _ _ H O R.drop h,L.rt⟩
theorem jF 
  (hstk:X.stack=X.env::X.outer) (hfr:X.env.frame=some X.env.locals) (F:c_ X.prog X.w X.K X.mg X.base (CXF X.prog X.w) n fA fd pn (spU X.K SY)) (hr:cZ n X.A) (hg:Gl X f) (hm:X.mg f=some (.ref fA)) (hk:JK X.K (.ref fA)=true) (hb:dy X.K fd pn []) (ha:EvA X.nox H0 O0 ps (e::es) us)
  (hgx:Gl X x) (hmx:X.mg x=some (.ref B)) (hT:typeIn X.K (.ref B)=some (.type "type")) (hB:mroIn X.K B (.type "BaseException")=some true)
  (hN:X.N.Nodup) (hi:X.N[i]?=some m) (hl:X.env.kindOf m=some .local) (Uh:SY us (.exc C)) (hC:mroIn X.K C (.ref B)=some true) (hxc:XcOk X.K C)
  (h:∀a,Ws (iE X a) H0 O0 E (b₀::suite) (D.drop i) (ps.set i (some (.val (.ty (.xc C))))))
  (TY:autoParam ((f==("__debug__":Str))=false) v0) (hdx:autoParam ((x==("__debug__":Str))=false) v0) (he:autoParam (GO (e::es) X.env=(false,Kg e X.env)::GO es X.env) w4) (Td:autoParam ((JZ SU (GO es X.env)).any (·.1)=false) w4)
  (Vp:autoParam (Kl (.Call (.Name f p) (e::es) [] SU) none epos.line X.env=pure false) w4):
  W1 X H0 O0 E (.Try [.Expr (.Call (.Name f p) (e::es) [] SU) epos] [.ExceptHandler (some (.Name x np)) (some m) (b₀::suite) hpos] [] [] pos) D ps:=
 PS.mono (xo (th:=λd j H=>Lf X.K H0 O0 E (D.drop i) d/\∃O,Rs X.K H0 O0 (ps.set i (some (.val (.ty (.xc C))))) j H O) hstk hfr F hr hg hm hk hb ha hgx hmx hT hB hN hi hl (λa=>h a) TY hdx he Td Vp) λd j H ⟨L,O,R⟩=>
  ⟨O,R,λo l b k=>⟨us,O,.exc C,(R.go b).dom,k,Uh,λq g=>⟨C,rfl,hC,λa c=>⟨L.drop i,O,((R.go (b.trans g)).go (aQ c _)).set (.xc ((R.go (b.trans g)).hidnew c) hxc)⟩⟩⟩⟩
end
end L2
namespace L2
open PySem
theorem aO:GO (.Constant c j pos::es) env=(false,Kg (.Constant c j pos) env)::GO es env:=by rw[GO];intro e p h;cases h
theorem bL:GO (.Tuple l j pos::es) env=(false,Kg (.Tuple l j pos) env)::GO es env:=by rw[GO];intro e p h;cases h
theorem Ee:GO (.List l pos::es) env=(false,Kg (.List l pos) env)::GO es env:=by rw[GO];intro e p h;cases h
theorem jA:GO (.UnaryOp o a pos::es) env=(false,Kg (.UnaryOp o a pos) env)::GO es env:=by rw[GO];intro e p h;cases h
theorem aN:GO (.BinOp a o b pos::es) env=(false,Kg (.BinOp a o b pos) env)::GO es env:=by rw[GO];intro e p h;cases h
theorem ai:GO (.Name x pos::es) env=(false,Kg (.Name x pos) env)::GO es env:=by rw[GO];intro e p h;cases h
theorem aK:GO (.Subscript a b pos::es) env=(false,Kg (.Subscript a b pos) env)::GO es env:=by rw[GO];intro e p h;cases h
theorem aB:GO (.Call f a k pos::es) env=(false,Kg (.Call f a k pos) env)::GO es env:=by rw[GO];intro e p h;cases h
theorem yr:GO (.Compare a o c pos::es) env=(false,Kg (.Compare a o c pos) env)::GO es env:=by rw[GO];intro e p h;cases h
theorem cH:GO (.ListComp e g sc pos::es) env=(false,Kg (.ListComp e g sc pos) env)::GO es env:=by rw[GO];intro e p h;cases h
structure EvS(X:Cx)(H0:Hp)(O0:List Hc)(ps:PSt)(es:List Expr)(us:List U):Prop where
 a:EvA X H0 O0 ps es us
section
variable {X:Cx}{H0:Hp}{O0:List Hc}{ps:PSt}{e:Expr}{es:List Expr}{u:U}{us:List U}{pos:Pos}
theorem aF:EvS X H0 O0 ps [] []:=⟨ak⟩
theorem aj(c:Ev X H0 O0 ps e u)(b:EvS X H0 O0 ps es us)(hs:GO (e::es) X.env=(false,Kg e X.env)::GO es X.env):EvS X H0 O0 ps (e::es) (u::us):=⟨ae c b.a hs⟩
theorem aL{x1}(h:EvS X H0 O0 ps es us)(b:autoParam (us.length<=sizeLine) k4):Ev X H0 O0 ps (.Tuple es x1 pos) (.tup us):=FE h.a b
theorem bI(h:EvS X H0 O0 ps es us)(b:autoParam (us.length<=sizeLine) k4):EvN X H0 O0 ps (.List es pos) us:=FH h.a b
end
end L2
namespace ST
open PySem PySem.SetTable
def Ris(xs:Array Nat):Prop:=∀(i j x y:Nat),i<j->xs[i]?=some x->xs[j]?=some y->x<y
theorem Ris.inj(h:Ris xs){i j x:Nat}(b:xs[i]?=some x)(a:xs[j]?=some x):i=j:=by
 rcases LB i j with z |z |z
 .exact absurd (h i j x x z b a) (Hw _)
 .exact z
 .exact absurd (h j i x x z a b) (Hw _)
theorem e_{xs:Array Nat}(h:i<xs.size):xs[i]?=some xs[i]:=by simp[h]
theorem uW{xs:Array Nat}(h:xs[i]?=some x):i<xs.size:=(Kh.mp h).1
theorem oM(R:Ris xs)(j):∀SX lo a,lo<=a->a<=xs.size->a-lo<=SX->(∀i x,i<lo->xs[i]?=some x->x<j)->(∀i x,a<=i->xs[i]?=some x->j<=x)->
  (∀i x,i<below.go xs j SX lo a->xs[i]?=some x->x<j)/\(∀i x,below.go xs j SX lo a<=i->xs[i]?=some x->j<=x)/\below.go xs j SX lo a<=xs.size
 |0,lo,a,m,f,n,h,g=>by
  have e:lo=a:=by lia
  subst e;rw[below.go];exact⟨h,g,f⟩
 |SX+1,lo,a,m,f,n,h,g=>by
  rw[below.go];by_cases k:lo<a
  .rw[if_pos k];have c:(lo+a)/2<xs.size:=by lia
   have e:xs.getD ((lo+a)/2) j=xs[(lo+a)/2]:=by simp[LC,c]
   simp only[e];split
   .rename_i d
    refine oM R j SX _ a (by lia) f (by lia) (λi x l b=>?_) g;rcases Hk (show i<=(lo+a)/2 by lia) with z |z
    .exact Kp (R i _ x _ z b (e_ c)) d
    .subst z;rw[e_ c]at b;cases b;exact d
   .rename_i d
    refine oM R j SX lo _ (by lia) (by lia) (by lia) h (λi x l b=>?_);rcases Hk l with z |z
    .exact HB (JU d) (Hd (R _ i _ x z (e_ c) b))
    .subst z;rw[e_ c]at b;cases b;exact JU d
  .rw[if_neg k];have e:lo=a:=by lia
   subst e;exact⟨h,g,f⟩
theorem fU(R:Ris xs)(j):(∀i x,i<below xs j->xs[i]?=some x->x<j)/\(∀i x,below xs j<=i->xs[i]?=some x->j<=x)/\below xs j<=xs.size:=
 oM R j xs.size 0 xs.size (Ir _) (GK _) (by lia) (λi x h=>absurd h (M_ _)) (λi x h e=>absurd (uW e) (by lia))
theorem zl(R:Ris xs)(h:xs[i]?=some j):below xs j=i:=by
 obtain⟨c,b,d⟩:=fU R j;rcases LB (below xs j) i with z |z |z
 .have a:=Kp z (uW h);have:=b _ _ (GK _) (e_ a);have:=R _ _ _ _ z (e_ a) h;lia
 .exact z
 .have:=c i j z h;lia
theorem nQ{t:SetTable}(R:Ris t.place)(h:t.place[i]?=some j):t.slot j=.live i:=by
 unfold SetTable.slot;simp only[zl R h,h,beq_self_eq_true,if_true]
theorem wB{t:SetTable}(a:t.dummies=#[])(h:∀i:Nat,t.place[i]?≠some j):t.slot j=.empty:=by
 unfold SetTable.slot;have e:(t.place[below t.place j]?==some j)=false:=by simpa using h _
 simp only[e,a];simp[SetTable.has]
theorem sF{t:SetTable}(R:Ris t.place)(b:t.dummies=#[])(j):(t.slot j=.empty/\∀i:Nat,t.place[i]?≠some j)\/∃i,t.slot j=.live i/\t.place[i]?=some j:=by
 by_cases h:∃i:Nat,t.place[i]?=some j
 .obtain⟨i,a⟩:=h;exact .inr ⟨i,nQ R a,a⟩
 .exact .inl ⟨wB b λi e=>h ⟨i,e⟩,λi e=>h ⟨i,e⟩⟩
theorem wd(R:Ris xs){mask:Nat}(l:xs.size<=mask):∃s,s<=mask/\∀i:Nat,xs[i]?≠some s:=by
 apply HY;intro g
 have all:∀s,s<=mask->∃i:Nat,xs[i]?=some s:=λs d=>by
  apply HY;intro h;exact g ⟨s,d,λi e=>h ⟨i,e⟩⟩
 have c:∀s,s<=mask->∃i:Nat,xs[i]?=some s/\s<=i:=by
  intro s
  induction s with
  |zero=>intro h;obtain⟨i,a⟩:=all 0 h;exact⟨i,a,Ir _⟩
  |succ s f=>
   intro h;obtain⟨i,a,j⟩:=f (by lia);obtain⟨k,b⟩:=all (s+1) h;refine⟨k,b,?_⟩;rcases LB i k with z |z |z
   .lia
   .subst z;rw[a]at b;cases b
   .have:=R k i _ _ z b a;lia
 obtain⟨i,a,j⟩:=c mask (GK _);have:=uW a;lia
noncomputable def adv(mask:Nat)(p:Probe):Probe:=
 if p.more >0 then {p with j:=p.j+1,more:=p.more-1 } else
 {p with j:=(leap mask p.i p.perturb).1,more:=runEnd mask (leap mask p.i p.perturb).1-(leap mask p.i p.perturb).1,i:=(leap mask p.i p.perturb).1,perturb:=(leap mask p.i p.perturb).2 }
theorem l4(t:SetTable)(p:Probe):t.advance p=adv t.mask p:=by
 unfold SetTable.advance adv;split
 .rfl
 .rfl
noncomputable def start(mask:Nat)(h:Int):Probe:={j:=bits h%(mask+1),more:=runEnd mask (bits h%(mask+1))-bits h%(mask+1),i:=bits h%(mask+1),perturb:=bits h,dummy:=none }
noncomputable def pth(mask:Nat)(h:Int):Nat->Probe
 |0=>start mask h
 |n+1=>adv mask (pth mask h n)
noncomputable def bp(mask:Nat)(h:Int):Nat->Nat×Nat
 |0=>(bits h%(mask+1),bits h)
 |r+1=>leap mask (bp mask h r).1 (bp mask h r).2
theorem ku{mask:Nat}:∀m (p:Probe) (f:Nat->Probe),f 0=p->(∀n,f (n+1)=adv mask (f n))->m<=p.more->f m={p with j:=p.j+m,more:=p.more-m }
 |0,p,f,a,_,_=>by rw[a];rfl
 |m+1,p,f,a,b,c=>by
  rw[b m,ku m p f a b (by lia)];unfold adv;rw[if_pos (by show p.more-m >0;lia)];simp only[Probe.mk.injEq];exact⟨by lia,by lia,trivial,trivial,trivial⟩
theorem lE(mask)(h):∀n,(pth mask h n).dummy=none
 |0=>rfl
 |n+1=>by
  rw[pth];unfold adv;split
  .exact lE mask h n
  .exact lE mask h n
theorem vG(mask i):runEnd mask i-i<=9:=by unfold runEnd;split <;>lia
theorem uY(mask)(h):∀r,∃n,n<=10*r/\pth mask h n={j:=(bp mask h r).1,more:=runEnd mask (bp mask h r).1-(bp mask h r).1,i:=(bp mask h r).1,perturb:=(bp mask h r).2,dummy:=none }
 |0=>⟨0,GK _,rfl⟩
 |r+1=>by
  obtain⟨n,b,e⟩:=uY mask h r;have c:=vG mask (bp mask h r).1;have step:=ku (runEnd mask (bp mask h r).1-(bp mask h r).1) (pth mask h n) (λm=>pth mask h (n+m)) rfl (λm=>rfl) (by rw[e];exact GK _);refine⟨n+(runEnd mask (bp mask h r).1-(bp mask h r).1)+1,by lia,?_⟩;rw[pth];have a:=step;rw[a,e];unfold adv;rw[if_neg (by simp)];rfl
theorem BH(h):bits h<2 ^ 64:=by
 unfold bits;lia
theorem og(mask)(h):∀r,(bp mask h r).2=bits h/32 ^ r
 |0=>by simp[bp]
 |r+1=>by
  rw[bp];show (bp mask h r).2/32=_;rw[og mask h r,OA,Kn]
theorem wQ(mask)(h)(r)(a:12<=r):(bp mask h r).2/32=0:=by
 rw[og];have b:=BH h;rw[OA];apply QN;have:32 ^ 12*32<=32 ^ r*32:=Pp _ (MW (by decide) a);exact GT (GT b (by decide)) this
noncomputable def cK:Nat->Nat
 |0=>1
 |k+1=>cK k*(4*cK k+2)
theorem Am:∀k,∃m,cK k=2 ^ k*(2*m+1)
 |0=>⟨0,by simp[cK]⟩
 |k+1=>by
  obtain⟨m,e⟩:=Am k;refine⟨2*(cK k) *m+m+cK k,?_⟩;rw[cK,Kn];have:cK k*(4*cK k+2)=2 ^ k*(2*m+1) *(4*cK k+2):=by rw[<-e]
  rw[this];generalize cK k=c;generalize 2 ^ k=p;grind
noncomputable def ie:Nat->Nat->Nat
 |0,x=>x
 |n+1,x=>5*ie n x+1
theorem lF(m x):∀n,ie (m+n) x=ie n (ie m x)
 |0=>rfl
 |n+1=>by rw[<-Mj,ie,lF m x n,ie]
theorem l6:∀k x,ie (2 ^ k) x=(1+4*cK k) *x+cK k
 |0,x=>by simp[ie,cK]
 |k+1,x=>by
  rw[Kn,Nat.mul_two,lF,l6 k,l6 k,cK];generalize cK k=c;grind
theorem tM(k x):ie (2 ^ k) x%2 ^ (k+1)=(x+2 ^ k)%2 ^ (k+1):=by
 rw[l6];obtain⟨m,e⟩:=Am k;rw[e]
 have:(1+4*(2 ^ k*(2*m+1))) *x+2 ^ k*(2*m+1)=(x+2 ^ k)+2 ^ (k+1) *(2*(2*m+1) *x+m):=by
  rw[Kn];generalize 2 ^ k=p;grind
 rw[this,Nv]
theorem Fz{a p:Nat}(h:a<p+p):a%p=if a<p then a else a-p:=by
 split
 .exact HW (by assumption)
 .rw[P8 (by omega),HW (by omega)]
theorem BO{a b p:Nat}(d:a<p+p)(f:b<p+p)(e:a%p=b%p)(n:a≠b):(a+p)%(p+p)=b:=by
 rw[Fz d,Fz f]at e;by_cases c:a<p
 .rw[if_pos c]at e;rw[HW (by omega)]
  split at e <;>omega
 .rw[if_neg c]at e;rw[P8 (by omega),HW (by omega)]
  split at e <;>omega
theorem iA(x):∀k y,∃n,n<2 ^ k/\ie n x%2 ^ k=y%2 ^ k
 |0,y=>⟨0,by simp,by simp[Nat.mod_one]⟩
 |k+1,y=>by
  obtain⟨n,g,e⟩:=iA x k y;have d:2 ^ (k+1)=2 ^ k+2 ^ k:=by rw[Kn];omega
  have i:0<2 ^ k:=Nat.pow_pos (by decide);by_cases h:ie n x%2 ^ (k+1)=y%2 ^ (k+1)
  .exact⟨n,by omega,h⟩
  .refine⟨n+2 ^ k,by omega,?_⟩;rw[lF,tM];generalize ie n x=z at *;have c:z%2 ^ (k+1)%2 ^ k=z%2 ^ k:=P9 _ ⟨2,by rw[Kn]⟩;have f:y%2 ^ (k+1)%2 ^ k=y%2 ^ k:=P9 _ ⟨2,by rw[Kn]⟩;have l1:=JH z (show 0<2 ^ (k+1) by omega);have l2:=JH y (show 0<2 ^ (k+1) by omega);rw[<-OU];rw[<-c,<-f]at e;generalize z%2 ^ (k+1)=a at *;generalize y%2 ^ (k+1)=b at *;rw[d]at *;generalize 2 ^ k=p at *;exact BO l1 l2 e h
theorem l_{mask k:Nat}(a:mask+1=2 ^ k)(h):∀q,(bp mask h (12+q)).1=ie q (bp mask h 12).1%2 ^ k
 |0=>by
  rw[ie]
  have:(bp mask h 12).1<2 ^ k:=by
   rw[<-a];exact JH _ (by lia)
  exact (HW this).symm
 |q+1=>by
  show (leap mask (bp mask h (12+q)).1 (bp mask h (12+q)).2).1=_;unfold leap;simp only[wQ mask h (12+q) (by lia)];rw[l_ a h q,a,ie,Lj,R8 5 _];generalize ie q (bp mask h 12).1=z;generalize 2 ^ k=m;rw[Ss,Nat.mod_mul_mod,<-Ss]
theorem cover{mask k:Nat}(a:mask+1=2 ^ k)(h)(s)(hs:s<=mask):∃n,n<10*turns mask/\(pth mask h n).j=s:=by
 obtain⟨q,d,e⟩:=iA (bp mask h 12).1 k s;obtain⟨n,c,b⟩:=uY mask h (12+q);refine⟨n,?_,?_⟩
 .unfold turns;lia
 .rw[b];rw[l_ a h q,e];exact HW (by lia)
def Liv(t:SetTable)(j:Nat):Prop:=∃i:Nat,t.place[i]?=some j
structure TOk(t:SetTable)(hs:List Int):Prop where
 R:Ris t.place
 d:t.dummies=#[]
 k:∃k,3<=k/\t.mask+1=2 ^ k
 n:t.place.size=hs.length
 f:t.place.size<=t.mask
 le:∀(i x:Nat),t.place[i]?=some x->x<=t.mask
 reach:∀(i j:Nat) (h:Int),t.place[i]?=some j->hs[i]?=some h->∃m,(pth t.mask h m).j=j/\∀m',m'<m->Liv t (pth t.mask h m').j
theorem least{P:Nat->Prop}:∀n,P n->∃m,m<=n/\P m/\∀k,k<m->¬ P k:=by
 intro n
 induction n using Nat.strongRecOn with
 |_ n e=>
  intro h;by_cases a:∃k,k<n/\P k
  .obtain⟨k,a,b⟩:=a;obtain⟨m,g,d,f⟩:=e k a b;exact⟨m,by lia,d,f⟩
  .exact⟨n,GK _,h,λk c b=>a ⟨k,c,b⟩⟩
theorem ti(T:TOk t hs)(h):∃N,N<10*turns t.mask/\¬ Liv t (pth t.mask h N).j/\∀m,m<N->Liv t (pth t.mask h m).j:=by
 obtain⟨s,a,c⟩:=wd T.R T.f;obtain⟨k,_,d⟩:=T.k;obtain⟨n,q,e⟩:=cover d h s a;obtain⟨m,p,g,o⟩:=least (P:=λn=>¬ Liv t (pth t.mask h n).j) n (by show ¬ Liv t (pth t.mask h n).j;rw[e];rintro ⟨i,l⟩;exact c i l);exact⟨m,by lia,g,λk b=>HY λz=>o k b z⟩
theorem qI(T:TOk t hs)(hashAt)(h)(s:¬ Liv t (pth t.mask h N).j)(q:∀m,m<N->Liv t (pth t.mask h m).j):∀SX n,n<=N->N-n<SX->
  (probe.go t hashAt h SX (pth t.mask h n)=some (.empty (pth t.mask h N).j none)/\∀m i,n<=m->m<N->t.place[i]?=some (pth t.mask h m).j->hashAt i≠h)\/
  ∃m i,n<=m/\m<N/\t.place[i]?=some (pth t.mask h m).j/\hashAt i=h/\probe.go t hashAt h SX (pth t.mask h n)=some (.candidate (pth t.mask h m).j i (pth t.mask h (m+1)))/\
   ∀c a,n<=c->c<m->t.place[a]?=some (pth t.mask h c).j->hashAt a≠h
 |0,n,_,y=>by lia
 |SX+1,n,r,y=>by
  rw[probe.go];rcases sF T.R T.d (pth t.mask h n).j with ⟨e,x⟩ |⟨i,e,b⟩
  .have hN:n=N:=by
    rcases Hk r with z |z
    .obtain⟨i,b⟩:=q n z;exact absurd b (x i)
    .exact z
   subst hN;refine .inl ⟨by simp only[e,lE],λm i l k=>by lia⟩
  .have hN:n<N:=by
    rcases Hk r with z |z
    .exact z
    .subst z;exact absurd ⟨i,b⟩ s
   simp only[e];by_cases g:hashAt i=h
   .refine .inr ⟨n,i,GK _,hN,b,g,?_,λc a l k=>by lia⟩;simp only[g,beq_self_eq_true,if_true,l4];rfl
   .have B:(hashAt i==h)=false:=by simpa using g
    simp only[B,G4,if_false,l4];have v:=qI T hashAt h s q SX (n+1) (by lia) (by lia);rcases v with ⟨p,o⟩ |⟨m,D,p,o,u,A,C,w⟩
    .refine .inl ⟨p,λm a l k f=>?_⟩;rcases Hk l with z |z
     .exact o m a z k f
     .subst z;rw[T.R.inj f b];exact g
    .refine .inr ⟨m,D,by lia,o,u,A,C,λc a l k f=>?_⟩;rcases Hk l with z |z
     .exact w c a z k f
     .subst z;rw[T.R.inj f b];exact g
theorem yh(T:TOk t hs){N i:Nat}(c:¬ Liv t (pth t.mask h N).j)(b:hs[i]?=some h):∃m j,m<N/\t.place[i]?=some j/\(pth t.mask h m).j=j:=by
 have a:i<t.place.size:=by rw[T.n];exact (GV.mp b).1
 obtain⟨m,e,d⟩:=T.reach i _ h (e_ a) b;refine⟨m,_,?_,e_ a,e⟩;rcases LB m N with z |z |z
 .exact z
 .subst z;exact absurd ⟨i,by rw[e];exact e_ a⟩ c
 .exact absurd (d N z) c
theorem fv{a:Type}(xs)(p)(x:a):(insertAt xs p x).toList=xs.toList.take p++x::xs.toList.drop p:=by
 unfold insertAt;simp[Array.toList_extract];exact JB (by simp)
theorem cJ{b:Type}{xs:Array b}{x:b}(f:p<=xs.size)(i):(insertAt xs p x)[i]?=if i<p then xs[i]? else if i=p then some x else xs[i-1]?:=by
 rw[<-HP,fv];have e:(xs.toList.take p).length=p:=by simp;lia
 by_cases a:i<p
 .rw[if_pos a,Hg (by lia),Jl a,HP]
 .rw[if_neg a,Hj (by lia),e];by_cases c:i=p
  .subst c;simp
  .rw[if_neg c];obtain⟨q,d⟩:∃q,i-p=q+1:=⟨i-p-1,by lia⟩
   rw[d,K0,Ko,HP];congr 1;lia
theorem ip{a:Type}(xs)(p)(x:a)(b:p<=xs.size):(insertAt xs p x).size=xs.size+1:=by
 rw[<-GQ,fv];simp;lia
noncomputable def iJ{a:Type}(xs:List a)(p:Nat)(x:a):List a:=xs.take p++x::xs.drop p
theorem wY{b:Type}{xs:List b}{x:b}(f:p<=xs.length)(i):(iJ xs p x)[i]?=if i<p then xs[i]? else if i=p then some x else xs[i-1]?:=by
 unfold iJ;have e:(xs.take p).length=p:=by simp;lia
 by_cases a:i<p
 .rw[if_pos a,Hg (by lia),Jl a]
 .rw[if_neg a,Hj (by lia),e];by_cases c:i=p
  .subst c;simp
  .rw[if_neg c];obtain⟨q,d⟩:∃q,i-p=q+1:=⟨i-p-1,by lia⟩
   rw[d,K0,Ko];congr 1;lia
theorem AF(R:Ris xs)(k:∀i:Nat,xs[i]?≠some j):Ris (insertAt xs (below xs j) j):=by
 obtain⟨n,l,p⟩:=fU R j
 have gt:∀i x,below xs j<=i->xs[i]?=some x->j<x:=λi x m c=>by
  rcases Hk (l i x m c) with z |z
  .exact z
  .subst z;exact absurd c (k i)
 intro a b x y o c d;rw[cJ p]at c d;by_cases g:a<below xs j
 .rw[if_pos g]at c;by_cases f:b<below xs j
  .rw[if_pos f]at d;exact R a b x y o c d
  .rw[if_neg f]at d;by_cases e:b=below xs j
   .rw[if_pos e]at d;cases d;exact n a x g c
   .rw[if_neg e]at d;exact R a (b-1) x y (by lia) c d
 .rw[if_neg g]at c;have f:¬ b<below xs j:=by lia
  rw[if_neg f]at d;have e:¬ b=below xs j:=by lia
  rw[if_neg e]at d;by_cases h:a=below xs j
  .rw[if_pos h]at c;cases c;exact gt (b-1) y (by lia) d
  .rw[if_neg h]at c;exact R (a-1) (b-1) x y (by lia) c d
theorem vc(b:p<=xs.size)(s):(∃i:Nat,(insertAt xs p j)[i]?=some s)↔s=j\/∃i:Nat,xs[i]?=some s:=by
 constructor
 .rintro ⟨i,a⟩;rw[cJ b]at a;split at a
  .exact .inr ⟨i,a⟩
  .split at a
   .cases a;exact .inl rfl
   .exact .inr ⟨i-1,a⟩
 .rintro (rfl |⟨i,a⟩)
  .exact⟨p,by rw[cJ b,if_neg (Hw _),if_pos rfl]⟩
  .by_cases h:i<p
   .exact⟨i,by rw[cJ b,if_pos h];exact a⟩
   .exact⟨i+1,by rw[cJ b,if_neg (by lia),if_neg (by lia)];simpa using a⟩
theorem TOk.put(T:TOk t hs)(D:¬ Liv t (pth t.mask h N).j)(B:∀m,m<N->Liv t (pth t.mask h m).j)(w:(pth t.mask h N).j<=t.mask)(A:t.place.size+1<=t.mask):
  TOk (t.put (pth t.mask h N).j).1 (iJ hs (t.put (pth t.mask h N).j).2 h):=by
 have y:∀i,t.place[i]?≠some (pth t.mask h N).j:=λi e=>D ⟨i,e⟩;obtain⟨_,_,c⟩:=fU T.R (pth t.mask h N).j;have r:below t.place (pth t.mask h N).j<=hs.length:=by rw[<-T.n];exact c
 have E:(if SetTable.has t.dummies (pth t.mask h N).j then eraseAt t.dummies (below t.dummies (pth t.mask h N).j) else t.dummies)=#[]:=by
  rw[T.d];simp[SetTable.has]
 unfold SetTable.put;simp only[E];refine⟨AF T.R y,rfl,T.k,?_,?_,λi x e=>?_,λi j v f a=>?_⟩
 .show (insertAt _ _ _).size=(iJ hs _ h).length;rw[ip _ _ _ c,T.n];unfold iJ;simp;lia
 .show (insertAt _ _ _).size<=t.mask;rw[ip _ _ _ c];exact A
 .rcases (vc c x).mp ⟨i,e⟩ with z |⟨q,C⟩
  .rw[z];exact w
  .exact T.le q x C
 .have b:∀s,Liv t s->Liv {t with place:=insertAt t.place (below t.place (pth t.mask h N).j) (pth t.mask h N).j,dummies:=#[] } s:=λs z=>(vc c s).mpr (.inr z);rw[cJ c]at f;rw[wY r]at a;split at f
  .rename_i z
   rw[if_pos z]at a;obtain⟨m,p,o⟩:=T.reach i j v f a;exact⟨m,p,λl g=>b _ (o l g)⟩
  .rename_i z
   rw[if_neg z]at a;split at f
   .rename_i u
    rw[if_pos u]at a;cases f;cases a;exact⟨N,rfl,λl g=>b _ (B l g)⟩
   .rename_i u
    rw[if_neg u]at a;obtain⟨m,p,o⟩:=T.reach (i-1) j v f a;exact⟨m,p,λl g=>b _ (o l g)⟩
theorem zG{mask:Nat}(h):∀n,(pth mask h n).j+(pth mask h n).more<=mask
 |0=>by
  show bits h%(mask+1)+(runEnd mask (bits h%(mask+1))-bits h%(mask+1))<=mask;have:=JH (bits h) (show 0<mask+1 by lia);unfold runEnd;split <;>lia
 |n+1=>by
  have a:=zG (mask:=mask) h n;rw[pth];unfold adv;split
  .simp only;lia
  .show (leap mask _ _).1+(runEnd mask (leap mask _ _).1-(leap mask _ _).1)<=mask;have:(leap mask (pth mask h n).i (pth mask h n).perturb).1<mask+1:=JH _ (by lia);unfold runEnd;split <;>lia
def OL(owner:Array (Option Nat))(j:Nat):Prop:=∃k:Nat,owner[j]?=some (some k)
noncomputable def nr(mask:Nat)(h:Int):Nat->Nat
 |0=>0
 |r+1=>nr mask h r+(runEnd mask (bp mask h r).1-(bp mask h r).1)+1
theorem CN(mask)(h):∀r,pth mask h (nr mask h r)={j:=(bp mask h r).1,more:=runEnd mask (bp mask h r).1-(bp mask h r).1,i:=(bp mask h r).1,perturb:=(bp mask h r).2,dummy:=none }
 |0=>rfl
 |r+1=>by
  have e:=CN mask h r;have step:=ku (runEnd mask (bp mask h r).1-(bp mask h r).1) (pth mask h (nr mask h r)) (λm=>pth mask h (nr mask h r+m)) rfl (λm=>rfl) (by rw[e];exact GK _);have a:=step;rw[nr,pth,a,e];unfold adv;rw[if_neg (by simp)];rfl
theorem tO(mask)(h)(r k)(a:k<=runEnd mask (bp mask h r).1-(bp mask h r).1):(pth mask h (nr mask h r+k)).j=(bp mask h r).1+k:=by
 have e:=CN mask h r;have step:=ku k (pth mask h (nr mask h r)) (λm=>pth mask h (nr mask h r+m)) rfl (λm=>rfl) (by rw[e];exact a);have b:=step;rw[b,e]
theorem vI(mask i):i<=runEnd mask i:=by unfold runEnd;split <;>lia
theorem AS(mask)(h):∀r,(bp mask h r).1<=mask
 |0=>Ib (JH _ (by lia))
 |r+1=>Ib (JH _ (by lia))
theorem rC{mask i:Nat}(h:i<=mask):runEnd mask i<=mask:=by unfold runEnd;split <;>lia
theorem uj{mask:Nat}(D:owner.size=mask+1)(h):∀SX r,(∃d,r<=d/\d<r+SX/\owner[(bp mask h d).1]?=some none)->(∀m,m<nr mask h r->OL owner (pth mask h m).j)->
  ∃N,layClean.free mask owner SX (bp mask h r).1 (bp mask h r).2=some (pth mask h N).j/\owner[(pth mask h N).j]?=some none/\∀m,m<N->OL owner (pth mask h m).j
 |0,r,⟨d,t,B,_⟩,_=>by lia
 |SX+1,r,g,p=>by
  rw[layClean.free];have Vg:=vI mask (bp mask h r).1;have F:=rC (AS mask h r);have i:∀k,k<runEnd mask (bp mask h r).1+1-(bp mask h r).1->(bp mask h r).1+k<owner.size:=λk s=>by lia
  cases hf:(HI (runEnd mask (bp mask h r).1+1-(bp mask h r).1)).find? λk=>(owner.getD ((bp mask h r).1+k) (some 0)).isNone with
  |some k=>
   obtain⟨w,A,y⟩:=List.find?_range_eq_some.mp hf;have s:=Hq.mp A;have n:=i k s
   have E:owner[(bp mask h r).1+k]?=some none:=by
    have:owner.getD ((bp mask h r).1+k) (some 0)=owner[(bp mask h r).1+k]:=by simp[LC,n]
    rw[this]at w;have:owner[(bp mask h r).1+k]=none:=by simpa using w
    simp[n,this]
   have l:=tO mask h r k (by lia);refine⟨nr mask h r+k,by simp only[l],by rw[l];exact E,λm o=>?_⟩;by_cases b:m<nr mask h r
   .exact p m b
   .obtain⟨q,rfl⟩:∃q,m=nr mask h r+q:=⟨m-nr mask h r,by lia⟩
    have c:=y q (by lia);have f:=i q (by lia);rw[tO mask h r q (by lia)];have:owner.getD ((bp mask h r).1+q) (some 0)=owner[(bp mask h r).1+q]:=by simp[LC,f]
    rw[this]at c;cases a:owner[(bp mask h r).1+q] with
    |none=>rw[a]at c;simp at c
    |some v=>exact⟨v,by simp[f,a]⟩
  |none=>
   have u:∀q,q<runEnd mask (bp mask h r).1+1-(bp mask h r).1->OL owner ((bp mask h r).1+q):=λq c=>by
    have:=List.find?_eq_none.mp hf q (Hq.mpr c);have f:=i q c;have e:owner.getD ((bp mask h r).1+q) (some 0)=owner[(bp mask h r).1+q]:=by simp[LC,f]
    rw[e]at this;cases a:owner[(bp mask h r).1+q] with
    |none=>rw[a]at this;simp at this
    |some v=>exact⟨v,by simp[f,a]⟩
   have next:=uj D h SX (r+1) (by
    obtain⟨d,t,B,x⟩:=g;refine⟨d,?_,by lia,x⟩;rcases Hk t with z |z
    .exact z
    .subst z;obtain⟨v,a⟩:=u 0 (by lia);rw[Lj,x]at a;cases a) (λm o=>by
    by_cases b:m<nr mask h r
    .exact p m b
    .obtain⟨q,rfl⟩:∃q,m=nr mask h r+q:=⟨m-nr mask h r,by lia⟩
     have C:nr mask h r+q<nr mask h r+(runEnd mask (bp mask h r).1-(bp mask h r).1)+1:=o;rw[tO mask h r q (by lia)];exact u q (by lia))
   exact next
structure OI(mask:Nat)(owner:Array (Option Nat))(hs:List Int):Prop where
 sz:owner.size=mask+1
 lt:∀(j k:Nat),owner[j]?=some (some k)->k<hs.length
 inj:∀(i j k:Nat),owner[i]?=some (some k)->owner[j]?=some (some k)->i=j
 all:∀k:Nat,k<hs.length->∃j:Nat,owner[j]?=some (some k)
 reach:∀(j k:Nat) (h:Int),owner[j]?=some (some k)->hs[k]?=some h->∃m,(pth mask h m).j=j/\∀m',m'<m->OL owner (pth mask h m').j
theorem OI.free{mask:Nat}(O:OI mask owner hs)(u:hs.length<=mask):∃s,s<=mask/\owner[s]?=some none:=by
 apply HY;intro l
 have f:∀s,s<=mask->OL owner s:=λs t=>by
  have i:s<owner.size:=by rw[O.sz];lia
  cases e:owner[s] with
  |none=>exact absurd ⟨s,t,by simp[i,e]⟩ l
  |some k=>exact⟨k,by simp[i,e]⟩
 have o:((HI (mask+1)).map λs=>(owner.getD s none).getD 0).Nodup:=by
  rw[Nk,Hy];refine KM ?_ (OB);intro a b m n v e;obtain⟨d,c⟩:=f a (by have:=Hq.mp m;lia);obtain⟨q,j⟩:=f b (by have:=Hq.mp n;lia);have g:(owner.getD a none).getD 0=d:=by simp[IP,c]
  have p:(owner.getD b none).getD 0=q:=by simp[IP,j]
  rw[g,p]at e;subst e;have:=O.inj a b d c j;lia
 have sub:((HI (mask+1)).map λs=>(owner.getD s none).getD 0) ⊆ HI hs.length:=by
  intro x r;obtain⟨s,h,rfl⟩:=GJ.mp r;obtain⟨d,c⟩:=f s (by have:=Hq.mp h;lia);have g:(owner.getD s none).getD 0=d:=by simp[IP,c]
  rw[g];exact Hq.mpr (O.lt s d c)
 have:=QF o sub;simp at this;lia
theorem OI.step{mask k:Nat}(A:mask+1=2 ^ k){owner:Array (Option Nat)}{hs:List Int}(O:OI mask owner hs)(D:hs.length<=mask)(h):
  ∃j,layClean.free mask owner (turns mask) (bits h%(mask+1)) (bits h)=some j/\OI mask (owner.setIfInBounds j (some hs.length)) (hs++[h]):=by
 obtain⟨s,E,u⟩:=O.free D;obtain⟨q,G,e⟩:=iA (bp mask h 12).1 k s;have w:(bp mask h (12+q)).1=s:=by rw[l_ A h q,e];exact HW (by lia)
 obtain⟨N,x,p,F⟩:=uj O.sz h (turns mask) 0 ⟨12+q,Ir _,by unfold turns;lia,by rw[w];exact u⟩ (λm g=>absurd g (M_ _));refine⟨_,x,?_⟩;generalize hj:(pth mask h N).j=j at *;have o:=(Kh.mp p).1
 have get:∀i,(owner.setIfInBounds j (some hs.length))[i]?=if j=i then some (some hs.length) else owner[i]?:=λi=>by
  rw[Array.getElem?_setIfInBounds];split
  .rename_i z;subst z;simp[o]
  .rfl
 have l:∀i,OL owner i->OL (owner.setIfInBounds j (some hs.length)) i:=λi ⟨v,f⟩=>by
  refine⟨v,?_⟩;rw[get,if_neg (λz=>by subst z;rw[p]at f;cases f)];exact f
 refine⟨by simp[O.sz],λi v e=>?_,λa b v c d=>?_,λv f=>?_,λi v C c d=>?_⟩
 .rw[get]at e;split at e
  .cases e;simp
  .have:=O.lt i v e;simp;lia
 .rw[get]at c d;split at c <;>split at d
  .lia
  .cases c;exact absurd (O.lt b _ d) (Hw _)
  .cases d;exact absurd (O.lt a _ c) (Hw _)
  .exact O.inj a b v c d
 .simp at f;rcases Hk (Ib f) with z |z
  .obtain⟨i,n⟩:=O.all v z;refine⟨i,?_⟩;rw[get,if_neg (λy=>by subst y;rw[p]at n;cases n)];exact n
  .subst z;exact⟨j,by rw[get,if_pos rfl]⟩
 .rw[get]at c;split at c
  .rename_i z
   cases c;simp at d;subst d;exact⟨N,by rw[hj];exact z,λm g=>l _ (F m g)⟩
  .have f:=O.lt i v c;rw[Hg f]at d;obtain⟨m,t,r⟩:=O.reach i v C c d;exact⟨m,t,λB g=>l _ (r B g)⟩
theorem vd{mask k:Nat}(b:mask+1=2 ^ k):∀more done a,OI mask a done->done.length+more.length<=mask+1->∃c,more.foldl (λl h=>do
  let (a,k) <-l
  let j <-layClean.free mask a (turns mask) (bits h%(mask+1)) (bits h)
  pure (a.setIfInBounds j (some k),k+1)) (some (a,done.length))=some (c,done.length+more.length)/\OI mask c (done++more)
 |[],done,a,O,_=>⟨a,by simp,by simpa using O⟩
 |h::more,done,a,O,hl=>by
  obtain⟨j,e,f⟩:=O.step b (by simp at hl;lia) h;obtain⟨i,d,g⟩:=vd b more (done++[h]) _ f (by simp at hl |-;lia);refine⟨i,?_,by simpa using g⟩;rw[I_]
  have:(do
   let (a,k) <-some (a,done.length)
   let j <-layClean.free mask a (turns mask) (bits h%(mask+1)) (bits h)
   pure (a.setIfInBounds j (some k),k+1):Option (Array (Option Nat)×Nat))=some (a.setIfInBounds j (some done.length),done.length+1):=by
   simp[e]
  rw[this];simp only[He,OO]at d;rw[d];simp;lia
theorem qX{mask k:Nat}(b:mask+1=2 ^ k)(f:hs.size<=mask+1):∃a,layClean mask hs=some a/\OI mask a hs.toList:=by
 have d:OI mask (Array.replicate (mask+1) none) []:=⟨by simp,λj k e=>by simp[L9]at e,λi j k e=>by simp[L9]at e,λk h=>by simp at h,λj k h e=>by simp[L9]at e⟩
 obtain⟨c,e,O⟩:=vd b hs.toList [] _ d (by simpa using f);refine⟨c,?_,by simpa using O⟩;unfold layClean;rw[<-Array.foldl_toList];simp only[Mi]at e;rw[e];rfl
theorem qS(n):∀SX k,n<2 ^ (k+SX)->∃a,k<=a/\sizeAbove.go n SX (2 ^ k)=2 ^ a/\n<2 ^ a/\(2 ^ a<=2*n\/a=k)
 |0,k,h=>⟨k,GK _,rfl,by simpa using h,.inr rfl⟩
 |SX+1,k,h=>by
  rw[sizeAbove.go];by_cases Vo:2 ^ k<=n
  .rw[if_pos Vo,<-Kn];obtain⟨a,e,b,d,c⟩:=qS n SX (k+1) (by rw[show k+1+SX=k+(SX+1) by lia];exact h);refine⟨a,by lia,b,d,.inl ?_⟩;rcases c with z |z
   .exact z
   .subst z;rw[Kn];lia
  .rw[if_neg Vo];exact⟨k,GK _,rfl,by lia,.inr rfl⟩
theorem above(n)(h:n<2 ^ 60):∃k,3<=k/\sizeAbove n=2 ^ k/\n<2 ^ k/\2 ^ k<=2*n+8:=by
 obtain⟨k,b,a,d,c⟩:=qS n 64 3 (GT h (MW (by decide) (by decide)));refine⟨k,b,a,d,?_⟩;rcases c with z |z
 .lia
 .subst z;lia
noncomputable def dL(mask:Nat)(owner:Array (Option Nat)):List (Nat×Nat):=(HI (mask+1)).filterMap λj=>(owner.getD j none).map (j,·)
theorem qR(owner:Array (Option Nat)):∀l:List Nat,(l.filterMap λj=>(owner.getD j none).map (j,·)).map (·.1)=l.filter λj=>(owner.getD j none).isSome
 |[]=>rfl
 |a::l=>by
  have ih:=qR owner l;rw[Jg,Oj];cases owner.getD a none with
  |none=>simpa using ih
  |some v=>simpa using ih
theorem eR{mask:Nat}(c:owner.size=mask+1)(j k):(j,k)∈dL mask owner↔owner[j]?=some (some k):=by
 unfold dL;rw[Mc];constructor
 .rintro ⟨a,d,e⟩;have b:a<owner.size:=by rw[c];exact Hq.mp d
  cases hv:owner.getD a none with
  |none=>rw[hv]at e;cases e
  |some v=>
   rw[hv]at e;cases e;have:owner.getD j none=owner[j]:=by simp[LC,b]
   rw[this]at hv;simp[b,hv]
 .intro e;have b:=(Kh.mp e).1;refine⟨j,Hq.mpr (by lia),?_⟩;rw[IP,e];rfl
theorem vS(mask)(owner):(dL mask owner).Pairwise λa b=>a.1<b.1:=by
 have:=(OB (n:=mask+1)).filter λj=>(owner.getD j none).isSome;rw[<-qR owner (HI (mask+1)),Hy]at this;exact this
theorem DB{l:List Nat}(h:l.Pairwise (· < ·)):Ris l.toArray:=by
 intro i j x y e b a;rw[Lk]at b a;obtain⟨f,d⟩:=GV.mp b;obtain⟨c,g⟩:=GV.mp a;have:=G6.mp h i j f c e;rw[d,g]at this;exact this
theorem Bu{mask k:Nat}(P:3<=k)(s:mask+1=2 ^ k)(D:hs.size<=mask)(finger moves)(led plain):
  ∃t d,laid mask finger moves led plain hs=some (t,d)/\TOk t (d.toList.map λi=>hs.getD i 0)/\d.toList.Perm (HI hs.size)/\t.mask=mask/\t.led=led/\t.plain=plain/\t.moves=moves:=by
 obtain⟨c,e,O⟩:=qX s (hs:=hs) (by lia);have y:=vS mask c
 have I:((dL mask c).map (·.2)).Nodup:=by
  rw[Nk,Hy];refine KM ?_ y;intro a b E H R g;have u:=(eR O.sz a.1 a.2).mp E;have F:=(eR O.sz b.1 b.2).mp H;rw[g]at u;have:=O.inj a.1 b.1 b.2 u F;lia
 have f:((dL mask c).map (·.2)).Perm (HI hs.size):=by
  refine (JA I QO).mpr λx=>?_;rw[GJ,Hq];constructor
  .rintro ⟨⟨j,v⟩,r,rfl⟩;have:=O.lt j v ((eR O.sz j v).mp r);simpa using this
  .intro N;obtain⟨j,M⟩:=O.all x (by simpa using N);exact⟨(j,x),(eR O.sz j x).mpr M,rfl⟩
 have len:(dL mask c).length=hs.size:=by have:=f.length_eq;simpa using this
 refine⟨_,_,by unfold laid;rw[e];rfl,⟨?_,rfl,⟨k,P,s⟩,?_,?_,λi x g=>?_,λi j h l o=>?_⟩,?_,rfl,rfl,rfl,rfl⟩
 .show Ris ((dL mask c).map (·.1)).toArray;exact DB (by rw[Hy];exact y)
 .show ((dL mask c).map (·.1)).toArray.size=_;simp[dL]
 .show ((dL mask c).map (·.1)).toArray.size<=mask;simp[len,D]
 .change ((dL mask c).map (·.1)).toArray[i]?=some x at g
  rw[Lk,GN]at g;cases q:(dL mask c)[i]? with
  |none=>rw[q]at g;cases g
  |some p=>
   rw[q]at g;cases g;have:=(eR O.sz p.1 p.2).mp (Hb q);have:=(Kh.mp this).1;show p.1<=mask;have Q:=O.sz;lia
 .change ((dL mask c).map (·.1)).toArray[i]?=some j at l
  change (((dL mask c).map (·.2)).toArray.toList.map λi=>hs.getD i 0)[i]?=some h at o
  rw[Lk,GN]at l;rw[GN,GN]at o;cases q:(dL mask c)[i]? with
  |none=>rw[q]at l;cases l
  |some p=>
   rw[q]at l o;cases l;have w:=(eR O.sz p.1 p.2).mp (Hb q);have A:=O.lt _ _ w
   have L:hs.toList[p.2]?=some h:=by
    have G:hs.getD p.2 0=h:=by simpa using o
    have:p.2<hs.size:=by simpa using A
    rw[<-G];simp[LC,this]
   obtain⟨m,C,z⟩:=O.reach _ _ h w L;refine⟨m,C,λJ r=>?_⟩;obtain⟨v,B⟩:=z J r;obtain⟨n,K⟩:=IE.mp ((eR O.sz _ v).mpr B);refine⟨n,?_⟩;show ((dL mask c).map (·.1)).toArray[n]?=_;rw[Lk,GN,K];rfl
 .show ((dL mask c).map (·.2)).toArray.toList.Perm _;simpa using f
variable {prog:GX}{w:HF}{E:GM→GP→Prop}
section
variable {A:HM}{s:GP}
abbrev TK(prog:GX)(w:HF)(h:Jx)(k:List Int)(b:Hc):Prop:=IsTupleKey (MS prog w) h k b
noncomputable abbrev hsh(prog:GX)(w:HF)(k:List Int):Int:=tupleKeyHash (MS prog w) k
theorem TK.ints{h:Jx}{k:List Int}{b:List GM}(x:ItemsAre (MS prog w) k b):∀v∈b,∃n t,v=.int n t:=by
 induction x with
 |nil=>intro v a;simp at a
 |cons d _ c=>
  intro v a;rcases GF.mp a with rfl |a
  .obtain⟨t,rfl⟩:=Mx d;exact⟨_,t,rfl⟩
  .exact c v a
theorem n6(c:TK prog w s.heap k a)(h:Q false s):Ht (Hr prog w) A (MA 8 (.ref a)) Q E s:=by
 have m:=c.typeIs;obtain⟨o,items,n,l,_,i,j⟩:=c;unfold MA;refine GB (QG m ?_);dsimp only;rw[if_pos (by decide)];refine GB (GH ?_);simp only[IG,G4,if_false];refine GB (JL l i ?_);refine GB ?_;rw[<-Nr];refine Ol _ (λrest r b=>r.1=none/\b=s/\∀v∈rest,∃n t,v=Ma n t) _ ?_ ?_ _ _ ⟨rfl,rfl,TK.ints (h:=s.heap) j⟩
 .rintro v rest r b ⟨d,rfl,f⟩;obtain⟨n,t,rfl⟩:=f v GR;have e:MA 7 (Ma n t)=pure false:=by unfold MA;rfl
  rw[e];refine GB (GH ?_);simp only[G4,if_false];exact GH ⟨rfl,rfl,λu g=>f u (GG _ g)⟩
 .rintro ⟨p,q⟩ b ⟨d,rfl,_⟩;subst d;exact GH h
theorem FJ(d:TK prog w s.heap k a)(h:Q true s):Ht (Hr prog w) A (PM 8 (.ref a)) Q E s:=by
 have m:=d.typeIs;obtain⟨o,items,n,l,_,i,j⟩:=d;unfold PM;refine GB (Ll m F.slot_tuple_hash.lookup ?_);show Ht _ _ (NK (.ref a) >>=_) _ _ s;refine GB (JL l i ?_);refine GB ?_;show Ht _ _ (forIn items _ _) _ _ s;rw[<-Nr];refine Ol _ (λrest r c=>r.1=none/\c=s/\∀v∈rest,∃n t,v=Ma n t) _ ?_ ?_ _ _ ⟨rfl,rfl,TK.ints (h:=s.heap) j⟩
 .rintro v rest r c ⟨b,rfl,f⟩;obtain⟨n,t,rfl⟩:=f v GR;have e:PM 7 (Ma n t)=pure true:=by unfold PM;rfl
  rw[e];refine GB (GH ?_);simp only[IG,G4,if_false];exact GH ⟨rfl,rfl,λu g=>f u (GG _ g)⟩
 .rintro ⟨p,q⟩ c ⟨b,rfl,_⟩;simp only at b;subst b;exact GH h
theorem sM(g:TK prog w s.heap k a)(m:∀v∈l,∃c b,v=.ref b/\TK prog w s.heap c b)(h:Q false s):
  Ht (Hr prog w) A (searchCouldBeSeen (.ref a) l) Q E s:=by
 refine GB ?_;refine Ol _ (λrest r f=>r.1=none/\f=s/\∀v∈rest,∃c b,v=.ref b/\TK prog w s.heap c b) _ ?_ ?_ _ _ ⟨rfl,rfl,m⟩
 .rintro v rest r f ⟨i,rfl,e⟩;obtain⟨c,b,rfl,j⟩:=e v GR;dsimp only;split
  .exact GH ⟨rfl,rfl,λu d=>e u (GG _ d)⟩
  .refine GB (OV g ?_);simp only[IG,G4,if_false];refine GB (OV j ?_);simp only[IG,G4,if_false];refine GB (n6 g ?_);simp only[G4,if_false];refine GB (n6 j ?_);simp only[G4,if_false];exact GH ⟨rfl,rfl,λu d=>e u (GG _ d)⟩
 .rintro ⟨o,n⟩ f ⟨i,rfl,_⟩;subst i;exact GH h
noncomputable def ents(prog:GX)(w:HF)(a:List (List Int×Hc)):List (Int×GM):=a.map λp=>(hsh prog w p.1,.ref p.2)
theorem tX{i:Nat}:(ents prog w kb)[i]?=(kb[i]?).map λp=>(hsh prog w p.1,.ref p.2):=by unfold ents;rw[GN]
theorem B3(kb):(ents prog w kb).map (·.1)=kb.map λp=>hsh prog w p.1:=by unfold ents;rw[Ho];rfl
theorem TOk.fits(T:TOk t hs){n:Nat}(a:hs.length=n):t.fits n=true:=by
 have b:=T.n;have e:=T.f;have c:t.fill=t.place.size:=by unfold fill;rw[T.d];rfl
 unfold SetTable.fits;rw[c];simp[b,a];lia
theorem TOk.gave(T:TOk t hs):t.gaveWay=false:=by
 obtain⟨k,b,a⟩:=T.k;unfold SetTable.gaveWay;obtain⟨j,rfl⟩:∃j,k=j+1:=⟨k-1,by lia⟩
 have:t.mask%2=1:=by lia
 simp[this]
theorem pU(hu:A.units<KZ)
  (ho:s.heap.get? S=some o) (hd:o.data=.set es ep t) (he:es.toList=ents prog w kb) (T:TOk t (kb.map λp=>hsh prog w p.1)) (Vh:∀p∈kb,TK prog w s.heap p.1 p.2) (hx:TK prog w s.heap k x)
  (hN:N<10*turns t.mask) (h0:¬ Liv t (pth t.mask (hsh prog w k) N).j) (h1:∀m,m<N->Liv t (pth t.mask (hsh prog w k) m).j) 
  (qf:(∀p∈kb,p.1≠k)->Q (.free (pth t.mask (hsh prog w k) N).j false) s) (qt:(∃p∈kb,p.1=k)->Q (.there none) s):
  ∀r n J,n<=N->N-n<r->J.getD (t.probeStart (hsh prog w k))=pth t.mask (hsh prog w k) n->
   (∀(m i:Nat) p,m<n->t.place[i]?=some (pth t.mask (hsh prog w k) m).j->kb[i]?=some p->p.1≠k)->
   Ht (Hr prog w) A (N4 S (.ref x) (hsh prog w k) true r J) Q E s:=by
 have V:es.size=kb.length:=by rw[<-GQ,he];simp[ents]
 have Tx:t.fits es.size=true:=T.fits (by rw[GD,V]);have I:∀i:Nat,es[i]?=(kb[i]?).map λ(p:List Int×Hc)=>(hsh prog w p.1,Ik p.2):=λi=>by rw[<-HP,he,tX]
 intro r
 induction r with
 |zero=>intro n J _ h;lia
 |succ r ih=>
  intro n J hn hf TU UE;unfold N4;refine GB (JI ho hd Tx ?_);dsimp only;rw[T.gave];simp only[G4,if_false];rw[TU];have c:∀(i:Nat) (p:List Int×Hc),kb[i]?=some p->((es[i]?.map (λ(e:Int×GM)=>e.1)).getD 0:Int)=hsh prog w p.1:=λi p B=>by rw[I,B];rfl
  have pg:=qI T (λ(i:Nat)=>(es[i]?.map (λ(e:Int×GM)=>e.1)).getD 0) (hsh prog w k) h0 h1 (10*turns t.mask) n hn (by lia);split
  .rename_i met l
   rcases pg with ⟨e,SS⟩ |⟨m,i,K,L,C,U4,e,d⟩
   .have q:=l.symm.trans e;cases q;dsimp only;refine GH (qf λp B f=>?_);obtain⟨i,O⟩:=IE.mp B;obtain⟨m,j,hm,C,hj⟩:=yh T (h:=hsh prog w k) h0 (i:=i) (by rw[GN,O,<-f];rfl);rcases IU m n with W |W
    .exact UE m i p W (by rw[hj];exact C) O f
    .exact SS m i W hm (by rw[hj];exact C) (by rw[c i p O,f])
   .have q:=l.symm.trans e;cases q;dsimp only;have P:i<kb.length:=by rw[<-V,<-show t.place.size=es.size by rw[T.n,GD,V]];exact uW C
    obtain⟨p,B⟩:∃p,kb[i]?=some p:=⟨_,GC P⟩;have H:=Hb B;have D:es[i]?=some (hsh prog w p.1,Ik p.2):=by rw[I,B];rfl
    have rest:Ht (Hr prog w) A (do
      let Z <-Q5 [Ik p.2] (eqBool (Ik p.2) (.ref x))
      let (es',_,t') <-setState S
      if true && Z then return .there none
      let some same:=t'.sameMemory t.moves t.mask |unsupported "set.changed-during-lookup:is-the-new-block-at-the-old-address"
      let u <-match (if same then t'.slot (pth t.mask (hsh prog w k) m).j else .empty) with
       | .live i'=>match es'[i']? with
        |some (_,y')=>do pure (if <-isSame y' (Ik p.2) then some i' else none)
        |none=>pure none
       |_=>pure none
      match u with
      |none=>rule "set.search.anew";N4 S (.ref x) (hsh prog w k) true r none
      |some i'=>if Z then return .there (some i') else N4 S (.ref x) (hsh prog w k) true r (some (pth t.mask (hsh prog w k) (m+1)))) Q E s:=by
     refine GB (Iz (Lg hu (Vh p H) hx ?_));refine GB (JI ho hd Tx ?_);dsimp only;by_cases f:p.1=k
     .rw[decide_eq_true f];simp only[Bool.and_self,if_true];exact GH (qt ⟨p,H,f⟩)
     .rw[decide_eq_false f];simp only[Pz,G4,if_false];have Y:t.sameMemory t.moves t.mask=some true:=by unfold SetTable.sameMemory;simp
      rw[Y];dsimp only;rw[if_pos rfl,nQ T.R C];dsimp only;rw[D];dsimp only;refine GB (wpAny_isSame_ref_self ?_);refine GB (GH ?_);simp only[if_true];refine ih (m+1) (some (pth t.mask (hsh prog w k) (m+1))) (by lia) (by lia) rfl λU i' F b a G=>?_;rcases IU U n with z |z
      .exact UE U i' F z a G
      .rcases Hk (Ib b) with y |y
       .have:=d U i' z y a;intro X;exact this (by rw[c i' F G,X])
       .subst y;have ei:=T.R.inj C a;subst ei;rw[B]at G;cases G;exact f
    by_cases g:t.led=true
    .rw[g];simp only[IG,G4,if_false];rw[D];exact rest
    .rw[show t.led=false by simpa using g];simp only[Kv,if_true];refine GB (sM hx (λv hv=>?_) ?_)
     .obtain⟨X,M,rfl⟩:=GJ.mp hv
      have b:X∈es.toList:=by
       have:=MV.mp M;exact MV.mpr (Array.mem_filter.mp this).1
      rw[he]at b;obtain⟨F,G,rfl⟩:=GJ.mp b;exact⟨F.1,F.2,rfl,Vh F G⟩
     .simp only[G4,if_false];rw[D];exact rest
  .rename_i TF
   rcases pg with ⟨e,SS⟩ |⟨m,i,K,L,C,U4,e,d⟩
   .exact absurd e (TF _)
   .exact absurd e (TF _)
structure SP(prog:GX)(w:HF)(h:Jx)(S:Hc)(kb:List (List Int×Hc)):Prop where
 ex:∃o es ep t,h.get? S=some o∧o.ExactSet∧o.data=.set es ep t∧es.toList=ents prog w kb∧TOk t (kb.map λp=>hsh prog w p.1)∧t.led=(!w.params.followText "set-order")∧t.plain=true∧t.tooFull=false∧t.mask<8*kb.length+8
 keys:∀p∈kb,TK prog w h p.1 p.2
 nd:(kb.map (·.1)).Nodup
theorem TK.keep{es ep t}(x:TK prog w h k b)(j:h.get? S=some o)(i:o.data=.set es ep t)(hs:LX S h h'):TK prog w h' k b:=by
 obtain⟨d,items,n,c,g,a,e⟩:=x
 have f:b≠S:=by
  rintro rfl;obtain rfl:d=o:=HK (c.symm.trans j);rw[i]at a;exact nomatch a
 exact⟨d,items,n,(hs.2 b f).trans c,g,a,e⟩
theorem rN(x)(es):byScan (.ref x) es=false:=by simp[byScan,Value.scannable]
theorem qV{a b:Type}(f:a->b)(xs)(p)(x:a):(iJ xs p x).map f=iJ (xs.map f) p (f x):=by
 unfold iJ;rw[Hz,G_,RU,RV]
theorem fT{a:Type}(xs)(p)(x:a):(iJ xs p x).Perm (xs++[x]):=by
 refine Om.trans ?_;rw[Hv];exact (Nl x xs).symm
theorem qW{b c:Type}{a:List b}(f:b->c)(d:c):∀(o:List Nat),(∀i∈o,i<a.length)->o.map (λi=>((a.map f).toArray).getD i d)=(o.filterMap λi=>a[i]?).map f
 |[],_=>rfl
 |i::o,h=>by
  have hi:=h i GR;rw[G_,Jg,GC hi,qW f d o λj e=>h j (GG _ e)];simp[LC,hi]
theorem vJ{c:Type}{b:List c}{o:List Nat}(h:o.Perm (HI b.length)):(o.filterMap λi=>b[i]?).Perm b:=by
 refine (h.filterMap _).trans ?_
 suffices (HI b.length).filterMap (λi=>b[i]?)=b by rw[this]
 have:∀(l a:List c),(List.range' a.length l.length).filterMap (λi=>(a++l)[i]?)=l:=by
  intro l
  induction l with
  |nil=>intro a;rfl
  |cons x l d=>
   intro a;rw[Ie,List.range'_succ,Jg];have e:(a++x::l)[a.length]?=some x:=by rw[Hj (GK _)];simp
   rw[e];have:=d (a++[x]);simpa using this
 have q:=this b [];simpa [List.range_eq_range'] using q
theorem B4(T:TOk t hs)(h:t.tooFull=false):t.place.size+1<=t.mask:=by
 obtain⟨k,c,a⟩:=T.k;have b:t.fill=t.place.size:=by unfold fill;rw[T.d];rfl
 unfold tooFull at h;simp at h;lia
theorem FP(v:s.heap.get? S=some o)(B:o.ExactSet)(j:o.data=.set es ep t)(y:es.toList=ents prog w kb)
  (T:TOk t (kb.map λp=>hsh prog w p.1)) (hl:t.led=(!w.params.followText "set-order")) (hp:t.plain=true) (Vh:∀p∈kb,TK prog w s.heap p.1 p.2) (UG:(kb.map (·.1)).Nodup) (h1:0<kb.length) (hn:kb.length≤1000)
  (h:∀x Uq,LX S s.heap x->SP prog w x S Uq->Uq.Perm kb->Q () {s with heap:=x }):Ht (Hr prog w) A (setRelay S (grown kb.length)) Q E s:=by
 have u:es.size=kb.length:=by rw[<-GQ,y];simp[ents]
 have U:t.fits es.size=true:=T.fits (by rw[GD,u]);have F:∀i:Nat,es[i]?=(kb[i]?).map λp=>(hsh prog w p.1,Ik p.2):=λi=>by rw[<-HP,y,tX]
 have L:grown kb.length=kb.length*4:=by unfold grown;rw[if_neg (by lia)]
 rw[L];obtain⟨k,M,P,Y,X⟩:=above (kb.length*4) (by lia);have K:(sizeAbove (kb.length*4)-1)+1=2 ^ k:=by lia
 obtain⟨b,a,e,T',f,G,el,z,_⟩:=Bu M K (hs:=es.map (·.1)) (by rw[Rv,u];lia) t.finger (t.movedTo (sizeAbove (kb.length*4)-1)) t.led t.plain;have m:t.relaid (es.map (·.1)) (kb.length*4)=some (b,a):=e;have D:a.toList.Perm (HI kb.length):=by rw[Rv,u]at f;exact f
 have J:∀i∈a.toList,i<kb.length:=λi O=>Hq.mp (D.mem_iff.mp O);have l:=vJ D
 have q:(a.filterMap (λi=>es[i]?)).toList=ents prog w (a.toList.filterMap λi=>kb[i]?):=by
  rw[Array.toList_filterMap];unfold ents;rw[List.map_filterMap];congr 1
  funext i
  rw[F]
 have c:(a.filterMap (λi=>es[i]?)).size=es.size:=by
  rw[<-GQ,q,u];unfold ents;rw[GD,l.length_eq]
 refine GB (JI v j U ?_);dsimp only;rw[if_neg (by rw[P,JT];lia),m]
 have g:Ht (Hr prog w) A (do
   if (a.filterMap (λi=>es[i]?)).size !=es.size then unsupported "internal:set-table-lost-an-element"
   pure (a.filterMap (λi=>es[i]?),b):Sem (Array (Int×GM)×SetTable)) (λr R=>Ht (Hr prog w) A (storeSet S r.1 r.2) Q E R) E s:=by
  rw[c];simp only[bne_self_eq_false,G4,if_false];refine GH ?_;refine Qr v j ?_ (by rw[c,u,JT];lia)
  have C:(s.heap.update S (MC (a.filterMap (λi=>es[i]?)) b)).get? S=some {o with data:=.set (a.filterMap (λi=>es[i]?)) (ep+1) b }:=by
   have:=Ij (MC (a.filterMap (λi=>es[i]?)) b) v (by rw[Q_ _ b j];rfl);rw[Q_ _ b j]at this;exact this
  have I:=K5 s.heap S (MC (a.filterMap (λi=>es[i]?)) b);refine h _ (a.toList.filterMap λi=>kb[i]?) I ⟨⟨_,_,_,b,C,B,rfl,q,?_,by rw[el];exact hl,by rw[z];exact hp,?_,?_⟩,λp W=>?_,?_⟩ l
  .have:=qW (λp=>hsh prog w p.1) 0 a.toList J;rw[<-this]
   have V:(es.map (·.1))=((kb.map λp=>hsh prog w p.1)).toArray:=by
    apply On.mp;rw[Oo,y,B3]
   rw[V]at T';exact T'
  .have N:b.fill=b.place.size:=by unfold fill;rw[T'.d];rfl
   have H:=T'.n;rw[GD,D.length_eq,List.length_range]at H;unfold tooFull;rw[N,H,G];simp;lia
  .rw[G,l.length_eq];lia
  .exact (Vh p (l.mem_iff.mp W)).keep v j I
  .exact ((l.map (·.1)).nodup_iff).mpr UG
 exact GB g
theorem rP(hu:A.units<KZ)(P:SP prog w s.heap S kb)(U:TK prog w s.heap k x)(hn:kb.length<1000)
  (h:∀b F Uq,LX S s.heap F->SP prog w F S Uq->(if k∈kb.map (·.1) then Uq=kb else Uq.Perm (kb++[(k,x)]))->Q b {s with heap:=F }):
  Ht (Hr prog w) A (setAddHashed S (.ref x) (hsh prog w k)) Q E s:=by
 obtain⟨⟨o,c,X,t,l,y,f,L,T,V,hp,VL,U5⟩,R,UG⟩:=P;have P0:SP prog w s.heap S kb:=⟨⟨o,c,X,t,l,y,f,L,T,V,hp,VL,U5⟩,R,UG⟩;have Tq:c.size=kb.length:=by rw[<-GQ,L];simp[ents]
 have Tx:t.fits c.size=true:=T.fits (by rw[GD,Tq]);obtain⟨N,hN,h0,Y⟩:=ti T (hsh prog w k);have hN':N<100000:=by unfold turns at hN;lia
 unfold setAddHashed setAddHashedIn;refine Iz (GB (JI l f Tx ?_));dsimp only;rw[rN];simp only[G4,if_false];unfold setSearch;refine GB (pU hu l f L T R U hN h0 Y (λTF=>?_) (λD=>?_) 100000 0 none (Ir _) (by lia) rfl λm i p hm=>by lia)
 .dsimp only;have G:k ∉ kb.map (·.1):=λz=>by obtain⟨p,K,e⟩:=GJ.mp z;exact TF p K e
  refine GB (JI l f Tx ?_);dsimp only;generalize hj:(pth t.mask (hsh prog w k) N).j=j at *;have T1:=T.put (h:=hsh prog w k) (N:=N) (by rw[hj];exact h0) Y (by have:=zG (mask:=t.mask) (hsh prog w k) N;lia) (B4 T VL);rw[hj]at T1;have C:(t.put j).1.plain=true:=hp;have r:(t.put j).1.led=(!w.params.followText "set-order"):=V;have u:(t.put j).1.mask=t.mask:=rfl;generalize (t.put j).1=d at *;generalize (t.put j).2=q at *;have O:(iJ kb q (k,x)).length=kb.length+1:=by rw[(fT kb q (k,x)).length_eq];simp
  have v:(insertAt c q (hsh prog w k,Ik x)).toList=ents prog w (iJ kb q (k,x)):=by
   rw[fv,L];unfold ents;rw[qV];rfl
  have I:(insertAt c q (hsh prog w k,Ik x)).size=kb.length+1:=by
   rw[<-GQ,v];unfold ents;rw[GD,O]
  have W:TOk d ((iJ kb q (k,x)).map λp=>hsh prog w p.1):=by rw[qV];exact T1
  rw[if_pos C];refine GB (FJ U ?_);rw[if_pos rfl]
  have H:(s.heap.update S (MC (insertAt c q (hsh prog w k,Ik x)) d)).get? S=some {o with data:=.set (insertAt c q (hsh prog w k,Ik x)) (X+1) d }:=by
   have:=Ij (MC (insertAt c q (hsh prog w k,Ik x)) d) l (by rw[Q_ _ d f];rfl);rw[Q_ _ d f]at this;exact this
  have M:=K5 s.heap S (MC (insertAt c q (hsh prog w k,Ik x)) d)
  have g:∀p∈iJ kb q (k,x),TK prog w (s.heap.update S (MC (insertAt c q (hsh prog w k,Ik x)) d)) p.1 p.2:=λp K=>by
   have:=(fT kb q (k,x)).mem_iff.mp K;rcases Hi.mp this with z |z
   .exact (R p z).keep l f M
   .rw[GL.mp z];exact U.keep l f M
  have n:((iJ kb q (k,x)).map (·.1)).Nodup:=by
   rw[((fT kb q (k,x)).map (·.1)).nodup_iff,Hz,JJ];refine⟨UG,by simp,λa ha b Z=>?_⟩;simp at Z;subst Z;rintro rfl;exact G ha
  refine GB (Qr l f ?_ (by rw[I,JT];lia));rw[Kv,LD];by_cases B:d.tooFull=true
  .rw[if_pos B,Tq,<-O];refine GB (FP (s:={s with heap:=s.heap.update S (MC (insertAt c q (hsh prog w k,Ik x)) d) }) H y rfl v W r C g n (by lia) (by lia) λF Uq J P' pm=>GH ?_);exact h true F Uq (M.trans J) P' (by rw[if_neg G];exact pm.trans (fT kb q (k,x)))
  .rw[if_neg B];refine GH (h true _ (iJ kb q (k,x)) M ⟨⟨_,_,_,d,H,y,rfl,v,W,r,C,by simpa using B,by rw[u,O];lia⟩,g,n⟩ (by rw[if_neg G];exact fT kb q (k,x)))
 .dsimp only;refine GH ?_;have G:k∈kb.map (·.1):=by obtain⟨p,K,e⟩:=D;exact GJ.mpr ⟨p,K,e⟩
  exact h false s.heap kb (Qs S s.heap) P0 (by rw[if_pos G])
end
section
variable {A:HM}
theorem TK.moved(x:TK prog w s.heap k b)(e:b ∉ wr)(m:Moved wr G s s'):TK prog w s'.heap k b:=by
 obtain⟨o,its,n,f,c,d,a⟩:=x;exact⟨o,its,n,m.heap b o e f,c,d,a⟩
theorem SP.moved(x:SP prog w s.heap S kb)(f:S ∉ wr)(g:∀p∈kb,p.2 ∉ wr)(m:Moved wr G s s'):SP prog w s'.heap S kb:=by
 obtain⟨⟨o,b,d,t,h,r⟩,e,c⟩:=x;exact⟨⟨o,b,d,t,m.heap S o f h,r⟩,λp a=>(e p a).moved (g p a) m,c⟩
structure Got(kx:Nat->List Int×Hc)(i:Nat)(kb:List (List Int×Hc)):Prop where
 src:∀p∈kb,∃j,j<i/\p=kx j
 all:∀j,j<i->(kx j).1∈kb.map (·.1)
 len:kb.length<=i
variable {R:RI→GP→Prop}{I:Hc}{fp wr:List Hc}{G:Array M0→Array M0→Prop}{n:Nat}{P:Nat→GM→Prop}{St:Nat→GP→Prop}
theorem Ad(W:WalksS prog w A.in1 I fp wr G n P St)(X:A.in1.units<KZ)(V:S ∉ fp)(d:Nat->List Int×Hc)(hP:∀i v,P i v->v=.ref (d i).2)(r:∀i,i<n->(d i).2 ∉ wr)(hn:n<=1000):
  ∀k i s l,n-i=k->i<=n->St i s->SP prog w s.heap S l->Got d i l->(∀j,j<n->TK prog w s.heap (d j).1 (d j).2)->
   (∀y E,Moved (S::wr) G s y->SP prog w y.heap S E->Got d n E->R (.ok (.ret .none)) y)->
   Me (Hr prog w) A (.builtin "set.update.loop" ⟨[.ref S,.ref I],[]⟩) R s:=by
 have C:S ∉ wr:=λh=>V (W.sub _ h);have more:∀b∈wr,b∈S::wr:=λb B=>GG _ B;intro k
 induction k with
 |zero=>
  intro i s l hk hi J H g U N;obtain rfl:i=n:=by lia
  refine IM PyProof.Rows.F.entry_set_update_loop ?_;rw[IA PyProof.Rows.F.plain_set_update_loop _];refine GB (W.done s _ _ J λy m=>?_);exact GH (N y l (m.mono more) (H.moved C (λp q=>by obtain⟨j,c,rfl⟩:=g.src p q;exact r j c) m) g)
 |succ k Z=>
  intro i s l hk hi J H g U N;have D:i<n:=by lia
  have Vh:∀p∈l,p.2 ∉ wr:=λp q=>by obtain⟨j,c,rfl⟩:=g.src p q;exact r j (by lia)
  refine IM PyProof.Rows.F.entry_set_update_loop ?_;rw[IA PyProof.Rows.F.plain_set_update_loop _];refine GB (W.item i s _ _ D J λv f pv st1 m=>?_);obtain rfl:=hP i v pv;have x:=H.moved C Vh m;have u:∀j,j<n->TK prog w f.heap (d j).1 (d j).2:=λj c=>(U j c).moved (r j c) m;refine GB (Iz ?_);unfold setAdd;refine Iz (GB (wpAny_pyHash_tuple X (u i D) ?_));refine rP (s:={f with toks:=f.toks+((d i).1.length+1) }) X x (u i D) (by have:=g.len;lia) λb h' E L O a=>?_;obtain⟨⟨o,es,ep,t,ho,hex,hd,M⟩,hks,UG⟩:=x;have same:∀b o,b ∉ S::wr->f.heap.get? b=some o->h'.get? b=some o:=λb o B e=>by rw[L.2 b (λz=>B (by rw[z];exact GR))];exact e
  refine GH ⟨Jc PyProof.Rows.F.plain_set_update_loop _,Z (i+1) _ E (by lia) D (W.frame _ f _ _ st1 (by show f.toks<=f.toks+_;lia) λb B o e=>?_) O ?_ (λj c=>(u j c).keep ho hd L) λY T m2 K g2=>?_⟩
  .rw[L.2 b (λz=>V (by rw[<-z];exact B))];exact e
  .by_cases Q:(d i).1∈l.map (·.1)
   .rw[if_pos Q]at a;subst a;refine⟨λp q=>?_,λj c=>?_,by have:=g.len;lia⟩
    .obtain⟨j,c,e⟩:=g.src p q;exact⟨j,by lia,e⟩
    .rcases Hk (Ib c) with z |z
     .exact g.all j z
     .rw[z];exact Q
   .rw[if_neg Q]at a;refine⟨λp q=>?_,λj c=>?_,by rw[a.length_eq];have:=g.len;simp;lia⟩
    .rcases Hi.mp (a.mem_iff.mp q) with z |z
     .obtain⟨j,c,e⟩:=g.src p z;exact⟨j,by lia,e⟩
     .exact⟨i,Il i,by rw[GL.mp z]⟩
    .rw[(a.map (·.1)).mem_iff,Hz];rcases Hk (Ib c) with z |z
     .exact Hm _ (g.all j z)
     .rw[z];exact Ha _ (by simp)
  .exact N Y T (Moved.trans W.gtrans ((m.mono more).then_heap (by show f.toks<=f.toks+_;lia) same) m2) K g2
end
section
variable {A:HM}{s:GP}
noncomputable abbrev cB(w:HF):Obj:={cls:=.type "set",dict:=none,data:=.set #[] 0 (.fresh 0 0 (!w.params.followText "set-order")) }
theorem zo:TOk (.fresh 0 0 (!w.params.followText "set-order")) [] where
 R:=by intro i j x y _ h;simp[SetTable.fresh]at h
 d:=rfl
 k:=⟨3,by decide,rfl⟩
 n:=rfl
 f:=by show 0<=7;decide
 le:=by intro i x h;simp[SetTable.fresh]at h
 reach:=by intro i x h a;simp[SetTable.fresh]at a
theorem xN(e:h.get? S=some (cB w)):SP prog w h S []:=by
 refine⟨⟨_,_,_,_,e,⟨rfl,rfl,rfl⟩,rfl,rfl,zo,rfl,rfl,by simp[SetTable.tooFull,SetTable.fresh,SetTable.fill],by show 7<8;decide⟩,λp a=>by simp at a,by simp⟩
theorem A5(a)(h:Q (.ref s.heap.objs.size) {s with heap:=s.heap.push (cB w) }):
  Me (Hr prog w) A (.call (.builtin "set.__new__") ⟨[.type "set",a],[]⟩) (wants Q E) s:=by
 refine Ra ?_;refine GB (PN (PySem.F.newCall_set_1 a) (GH ⟨Jc OW _,IM PySem.F.entry_set_new ?_⟩));rw[IA OW _];unfold Builtin.«set.__new__» Builtin.Frozenset.newClass;have b:=sub_set_self
 wp_walk
 refine LR (GH ?_);simp only[newObj];exact GB (wpAny_alloc (GH (GH h)))
set_option maxRecDepth 100000 in
theorem call_set_pts(t:Nat->List Int×Hc)(hh:A.handled=none)(hu:A.in1.in1.in1.units<KZ)(hl:s.heap.IsList l items)
  (T5:∀i (v:GM),items[i]?=some v->v=.ref (t i).2) (T3:∀i,i<items.size->TK prog w s.heap (t i).1 (t i).2) (hn:items.size<=1000)
  (h:∀a I f,SP prog w a s.heap.objs.size f->Got t items.size f->(∀b o,s.heap.get? b=some o->a.get? b=some o)->Q (.ref s.heap.objs.size) {s with heap:=a,toks:=I }):
  Ht (Hr prog w) A (call (.type "set") [.ref l]) Q E s:=by
 obtain⟨cc,tl,Z⟩:=Jt.mro;have N:=Jt.made;have hsub:=Jt.sub;refine Pk (Ra ?_);refine GH ⟨Code.quiet_builtin _ (by decide+kernel),IM PySem.F.entry_type_call ?_⟩;rw[Around.under_plain (weight_type_call_type "set" [.ref l] []) rfl];have g1:=Jt.notType;have g2:=Jt.canCreate;have g3:=PySem.F.typeCall_set_1 (.ref l)
 repeat (any_goals (first |assumption |wp_step))
 refine L7 (A5 (w:=w) (.ref l) (E:=E) (Q:=λu W=>u=.ref s.heap.objs.size/\W={s with heap:=s.heap.push (cB w) }) ⟨rfl,rfl⟩) λr W O=>?_;cases r with
 |error e=>exact O
 |ok fl=>
  cases fl with
  |ret u=>
   obtain⟨rfl,rfl⟩:=O;have X:(s.heap.push (cB w)).get? s.heap.objs.size=some (cB w):=GZ _ rfl;have hT:Shared.TypeIs {s with heap:=s.heap.push (cB w) } (.ref s.heap.objs.size) "set":=⟨_,X,rfl⟩
   have hli:=Jt.init.lookup;have hbi:=Jt.init.bind (.ref s.heap.objs.size)
   repeat (any_goals (first |assumption |wp_step))
   refine L7 (MY (R:=wants (λr Y=>r=.none/\∃a I f,Y={s with heap:=a,toks:=I }/\
     SP prog w a s.heap.objs.size f/\Got t items.size f/\(∀b o,s.heap.get? b=some o->a.get? b=some o)) E) Jt.init.plain PySem.F.entry_set_init (check_set_init_1 hT ?_)) λy Y J=>?_
   .obtain⟨ol,D,B,V,G⟩:=hl;obtain⟨ocls,q,VM,c⟩:=ol;simp only at B G;subst B;subst G;have H:(s.heap.push (cB w)).get? l=some {cls:=.type "list",dict:=q,data:=.seq items V,slots:=c }:=GI _ D;have k1:=PySem.F.sub_list_set;have k2:=PySem.F.sub_list_frozenset;have k3:(J4 "list"==J4 "dict")=false:=by decide
    have US:(s.heap.push (cB w)).IsList l items:=⟨_,H,rfl,V,rfl⟩;unfold Builtin.«set.__init__» noKeywords Builtin.Frozenset.updateFrom;generalize hPI:QD=PI
    wp_walk
    subst hPI;refine JD US (GB (wpAny_runValue ?_));have x:l<s.heap.objs.size:=GS D;have h3:A.in1.in1.in1.handled=none:=by simp[hh]
    have d:(s.heap.push (cB w)).objs.size=s.heap.objs.size+1:=Jr ..;have C:l≠(s.heap.push (cB w)).objs.size:=by rw[d];exact Hn (JG x)
    have Ur:s.heap.objs.size ∉ [(s.heap.push (cB w)).objs.size,l]:=by
     rw[d];intro z;rcases GF.mp z with z |z
     .exact absurd z (Hn (Il _))
     .exact absurd (GL.mp z) (Km x)
    refine Ad ((Walks.list h3 _ l C items).toS) hu Ur t T5 (λi hi=>?_) hn (items.size-0) 0 _ [] (by lia) (Ir _)
     ⟨⟨_,GZ _ rfl,rfl,rfl⟩,(US.push _)⟩ ?_ ⟨λp hp=>by simp at hp,λj hj=>by lia,by simp⟩ (λj hj=>?_) λs' f m K g=>?_
    .intro z;have L:=GL.mp z;obtain⟨o,_,_,S,_⟩:=T3 i hi;have:=GS S;rw[L,d]at this;exact Hw _ (Kp (Il _) this)
    .exact xN (GI _ X)
    .obtain⟨o,its,k,S,r⟩:=T3 j hj;exact⟨o,its,k,GI _ (GI _ S),r⟩
    .obtain⟨a,g',d',T,M⟩:=s';obtain rfl:g'=s.gens:=m.gens;obtain rfl:d'=s.drawn:=m.drawn;obtain rfl:M=s.os:=m.os;refine GH ?_;show Ht _ _ (ret Lb) _ _ _;refine GH ⟨rfl,a,T,f,rfl,K,g,λb o e=>?_⟩;have P:=GS e;refine m.heap b o (λz=>?_) (GI _ (GI _ e));rcases GF.mp z with z |z
     .exact absurd z (Hn P)
     .have L:=GL.mp z;rw[L,d]at P;exact Hw _ (Kp (Il _) P)
   .cases y with
    |error e=>exact J
    |ok n=>
     cases n with
     |ret r=>
      obtain⟨rfl,a,I,f,rfl,K,g,U⟩:=J
      repeat (any_goals (first |assumption |wp_step))
      exact h _ _ f K g U
     |_=>exact J.elim
  |_=>exact O.elim
end
theorem eO:Slot "set_iterator" "__next__" "set_iterator.__next__":=
 .of (owner:="set_iterator") (n:="__next__") (by rw[Lm,JM];kernel_rfl) (by decide+kernel) (by decide+kernel) (by decide+kernel) (by first |exact .inl (by decide+kernel) |exact .inr (by decide+kernel)) (by rw[ML];kernel_rfl)
theorem lm:entryFor table "set_iterator.__next__"=some Builtin.«set_iterator.__next__»:=entryFor_of_tree (by kernel_rfl)
theorem nZ(a):argsOk "set_iterator.__next__" ⟨[a],[]⟩:=by unfold argsOk;kernel_rfl
theorem tN:entryFor table "set.__iter__"=some Builtin.«frozenset.__iter__»:=Rw (id':="frozenset.__iter__") (by kernel_rfl) rfl (by decide+kernel) (by kernel_rfl)
theorem tI{a:Type}{l:List a}(h:i<l.length):(l[i]::l.eraseIdx i).Perm l:=by
 rw[List.eraseIdx_eq_take_drop_succ];refine Om.symm.trans ?_;rw[<-HZ h,Hv]
theorem uQ{c:Type}(next):∀SX k a (out:Array c),a.length=SX->(pickOrder.go next SX k a out).toList.Perm (out.toList++a)
 |0,k,a,out,h=>by
  obtain rfl:a=[]:=Js.mp h;rw[pickOrder.go,II]
 |SX+1,k,a,out,h=>by
  have b:next k%a.length<a.length:=JH _ (by lia)
  rw[pickOrder.go,GC b];refine (uQ next SX (k+1) _ _ (by rw[List.length_eraseIdx_of_lt b];lia)).trans ?_;rw[J7,G8];refine JN _ ?_;rw[List.singleton_append];exact tI b
theorem yt{a:Type}(next)(xs:Array a):(P_ next xs).toList.Perm xs.toList:=by
 unfold P_;have:=uQ next xs.size 0 xs.toList #[] (by simp)
 simpa using this
section
variable {A:HM}{s:GP}
noncomputable def cQ(w:HF)(S:Hc)(a:Array (Int×GM))(b:Nat):List GM:=(if w.params.followText "set-order"=true then P_ (w.params.setOrder S b) a else a).toList.map (·.2)
theorem fJ(w)(S)(es)(ep):(cQ w S es ep).Perm (es.toList.map (·.2)):=by
 refine List.Perm.map _ ?_;split
 .exact yt _ es
 .exact Nw _
noncomputable def gP(t:SetTable):Nat->Nat
 |0=>0
 |j+1=>t.place.getD j 0+1
noncomputable def bh(w:HF)(t:SetTable)(i:Nat):Nat:=if w.params.followText "set-order"=true then 0 else gP t i
def r_(w:HF)(h:Jx)(a S:Hc)(t:SetTable)(i n b:Nat):Prop:=∃o,h.get? a=some o∧o.cls=.type "set_iterator"∧o.data=.fields #[Of (bh w t i),Of i,.ref S,Of n,Of b]
theorem r_.ty(x:r_ w s.heap it S t i n ep):s.TypeIs (.ref it) "set_iterator":=let ⟨o,ho,hc,_⟩:=x;⟨o,ho,hc⟩
structure SO(prog:GX)(w:HF)(o:Obj)(es:Array (Int×GM))(ep:Nat)(t:SetTable)(hs:List Int):Prop where
 ex:o.ExactSet
 d:o.data=.set es ep t
 T:TOk t hs
 n:hs.length=es.size
 led:t.led=(!w.params.followText "set-order")
 plain:t.plain=true
theorem xn{es ep t hs}(O:SO prog w o es ep t hs)(a:s.heap.get? S=some o)(h:Q false s):Ht (Hr prog w) A (setDrawn S) Q E s:=by
 refine GB (JI a O.d (O.T.fits O.n) (GB (GB (LR (GH (GH ?_))))));have q:Q (!w.params.followText "set-order" && (!t.plain && decide (es.size >1))) s:=by rw[O.plain];simpa using h
 exact q
theorem y9{es ep t hs}(O:SO prog w o es ep t hs)(a:s.heap.get? S=some o)
  (hQ:Q (.ref s.heap.objs.size) {s with heap:=s.heap.push {cls:=.type "set_iterator",data:=.fields #[Of 0,Of 0,.ref S,Of es.size,Of ep] } }):Ht (Hr prog w) A (QD (.ref S)) Q E s:=by
 have b:s.TypeIs (.ref S) "set":=⟨o,a,O.ex.1⟩;refine Qt b OX (Jd OX b tN ?_ (PySem.F.args_set_iter_1 _));show Ht _ _ (Builtin.Frozenset.sizeOf S >>=_) _ _ s;refine GB (GB (Na a O.d (O.T.fits O.n) (GH ?_)));refine GB (xn O a ?_);simp only[G4,if_false];refine GB (GH ?_);refine GB (wpAny_setEpoch_of a O.d (O.T.fits O.n) ?_);refine GB (J5 (GH ⟨_,rfl,"set_iterator",_,⟨_,GZ _ rfl,rfl⟩,eO.lookup,?_⟩));exact hQ
theorem sT(T:TOk t hs)(g:i<=t.place.size):below t.place (gP t i)=i:=by
 obtain⟨a,d,f⟩:=fU T.R (gP t i);cases i with
 |zero=>
  dsimp only[gP]at *;rcases Ml (below t.place 0) with z |z
  .exact z
  .have:=a 0 _ z (e_ (by lia));lia
 |succ j=>
  dsimp only[gP]at *;have c:j<t.place.size:=by lia
  have e:t.place.getD j 0=t.place[j]:=by simp[LC,c]
  rw[e]at a d f |-;generalize hb:below t.place (t.place[j]+1)=b at *;rcases LB b (j+1) with z |z |z
  .have:=d j t.place[j] (by lia) (e_ c);lia
  .exact z
  .have q:=a (j+1) _ z (e_ (by lia));have:=T.R j (j+1) _ _ (by lia) (e_ c) (e_ (show j+1<t.place.size by lia));lia
theorem kR{es ep t hs}(O:SO prog w o es ep t hs)(c:s.heap.get? S=some o)(r:i<=es.size)
  (h:Q (((cQ w S es ep)[i]?).map λv=>(v,bh w t (i+1))) s):Ht (Hr prog w) A (setNext S (bh w t i) i ep) Q E s:=by
 have f:=O.T.fits O.n;have u:t.place.size=es.size:=by rw[O.T.n,O.n]
 refine GB (JI c O.d f (GB (GB (LR (GH ?_)))));by_cases a:w.params.followText "set-order"=true
 .dsimp only;rw[show (Hr prog w).w.params.followText "set-order"=true from a,if_pos rfl,if_neg (by simp)];refine GB (GB (JI c O.d f (GB (GB (LR (GH ?_))))));rw[show (Hr prog w).w.params.followText "set-order"=true from a,if_pos rfl];refine GB (LR (GH (GH ?_)))
  have e:SH (λe=>(e.2,bh w t i)) (P_ (w.params.setOrder S ep) es)[i]?=((cQ w S es ep)[i]?).map λv=>(v,bh w t (i+1)):=by
   unfold cQ bh;rw[if_pos a,if_pos a,if_pos a,GN,HP,Option.map_map];rfl
  have q:Q (SH (λe=>(e.2,bh w t i)) (P_ (w.params.setOrder S ep) es)[i]?) s:=by rw[e];exact h
  exact q
 .have g:w.params.followText "set-order"=false:=by simpa using a
  rw[show (Hr prog w).w.params.followText "set-order"=false from g,if_neg (by simp)];have k:bh w t i=gP t i:=by unfold bh;rw[if_neg a]
  have l:below t.place (bh w t i)=i:=by rw[k];exact sT O.T (by lia)
  have m:(match es[below t.place (bh w t i)]?,t.place[below t.place (bh w t i)]? with
    |some (_,x),some j=>some (x,j+1)
    |_,_=>none)=((cQ w S es ep)[i]?).map λv=>(v,bh w t (i+1)):=by
   rw[l];unfold cQ bh;rw[if_neg a,if_neg a,GN,HP];rcases IU i es.size with z |z
   .have b:i<t.place.size:=by lia
    simp[z,b,LC,gP]
   .have b:t.place.size<=i:=by lia
    simp[z,b]
  split
  .rename_i p
   exact absurd (show (!t.plain && decide (es.size >1))=true from p) (by rw[O.plain];simp)
  .refine GB ?_;show Ht _ _ (if (!t.led && !es.isEmpty)=true then unsupported "set:maker-not-led" else pure ()) _ _ _;rw[O.led,g,if_neg (by simp)];refine GH (GH ?_)
   have q:Q (match es[below t.place (bh w t i)]?,t.place[below t.place (bh w t i)]? with
    |some (_,x),some j=>some (x,j+1)
    |_,_=>none) s:=by rw[m];exact h
   exact q
theorem vP{es ep t hs}(O:SO prog w o es ep t hs)(h:s.heap.get? S=some o)(c:r_ w s.heap it S t i es.size ep)(g:(cQ w S es ep)[i]?=some v)
  (hQ:∀e,r_ w e it S t (i+1) es.size ep->LX it s.heap e->Q (some v) {s with heap:=e }):Ht (Hr prog w) A (Px (.ref it)) Q E s:=by
 obtain⟨m,a,l,b⟩:=id c;have j:=O.T.fits O.n;refine GB (Mg (Mm c.ty eO (Jd eO c.ty lm ?_ (nZ _))));refine GB (GH ?_);refine GB (Rx a b ?_);dsimp only[Of];refine GB (Na h O.d j ?_);rw[if_neg (by simp)]
 have k:i<es.size:=by
  have q:=(GV.mp g).1;rw[(fJ w S es ep).length_eq,GD,GQ]at q;exact q
 rw[show ((bh w t i:Nat):Int).toNat=bh w t i from J8 _,show (i:Int).toNat=i from J8 _,show (ep:Int).toNat=ep from J8 _];refine GB (kR O h (Hd k) ?_);rw[g];refine GB (PH a b (by simp) ?_);have f:=Ij (Obj.mapFields (·.setIfInBounds 0 (Ma ((bh w t (i+1):Nat)) 0))) a (OY (Kq b _));refine GB (PH f (Kq b _) (by simp) ?_);refine GH ⟨_,rfl,GH (hQ _ ?_ ((K5 ..).trans (K5 ..)))⟩;refine⟨_,Ij _ f (OY (Kq (Kq b _) _)),(Qu ..).trans ((Qu ..).trans l),?_⟩;rw[Kq (Kq b _)];simp[Of]
theorem yc{es ep t hs}(g:A.handled=none)(O:SO prog w o es ep t hs)(f:s.heap.get? S=some o)(b:r_ w s.heap it S t es.size es.size ep)
  (hQ:∀c,Heap.ExtBut it s.heap c->Q none {s with heap:=c }):Ht (Hr prog w) A (Px (.ref it)) Q E s:=by
 obtain⟨j,a,i,e⟩:=id b;have h:=O.T.fits O.n;refine GB (Mg (Mm b.ty eO (Jd eO b.ty lm ?_ (nZ _))));refine GB (GH ?_);refine GB (Rx a e ?_);dsimp only[Of];refine GB (Na f O.d h ?_);rw[if_neg (by simp)];rw[show ((bh w t es.size):Int).toNat=bh w t es.size from J8 _,show (es.size:Int).toNat=es.size from J8 _,show (ep:Int).toNat=ep from J8 _];refine GB (kR O f (GK _) ?_);rw[show (cQ w S es ep)[es.size]?=none from Hu (by rw[(fJ w S es ep).length_eq,GD,GQ];exact GK _)];refine GB (PH a e (by simp) ?_);refine GB ?_;simp only[newExc,newTuple];refine GB (J5 ?_ (by size_fits));refine GB (PN (by first |rfl | (simp only[firstArgMember];rfl)) ?_);refine J5 ?_ (by size_fits);simp only[raiseNew];refine GB (wpAny_handled ?_);rw[show A.in1.handled=none from g];refine GB (GH (wpAny_throw ?_));refine GB (JV ⟨_,GZ _ rfl,rfl⟩ PJ ?_);exact GH (hQ _ (((K5 ..).extBut.push _).push _))
end
end ST
namespace ST
open PySem PySem.SetTable PySem.W
theorem nu:Slot "set_iterator" "__iter__" "set_iterator.__iter__":=
 .of (owner:="set_iterator") (n:="__iter__") (by rw[Lm,JM];kernel_rfl) (by decide+kernel) (by decide+kernel) (by decide+kernel) (by first |exact .inl (by decide+kernel) |exact .inr (by decide+kernel)) (by rw[ML];kernel_rfl)
theorem sW:entryFor table "set_iterator.__iter__"=some Builtin.«dict_keyiterator.__iter__»:=Rw (id':="dict_keyiterator.__iter__") (by kernel_rfl) rfl (by decide+kernel) (by kernel_rfl)
theorem vK(a):argsOk "set_iterator.__iter__" ⟨[a],[]⟩:=by unfold argsOk;kernel_rfl
section
variable {prog:GX}{w:HF}{A:HM}{E:GM→GP→Prop}{s:GP}
theorem AE(a:r_ w s.heap it S t i n ep)(h:Q (.ref it) s):Ht (Hr prog w) A (QD (.ref it)) Q E s:=by
 refine Qt a.ty nu (Jd nu a.ty sW ?_ (vK _));exact GH ⟨_,rfl,"set_iterator",_,a.ty,eO.lookup,h⟩
theorem wJ(q:A.handled=none){c S:Hc}(u:S≠c){o:Obj}{es ep t hs}(O:SO prog w o es ep t hs):
  Walks prog w A c [c,S] [c] es.size (λi v=>(cQ w S es ep)[i]?=some v) (λi h=>r_ w h c S t i es.size ep/\h.get? S=some o) where
 sub:=λb d=>by simp at d;simp[d]
 frame:=λ_ _ _ a l=>⟨let ⟨x,hx,r⟩:=a.1;⟨x,l c (by simp) x hx,r⟩,l S (by simp) o a.2⟩
 item:=λi s Q E p a g=>by
  obtain⟨v,k⟩:∃v,(cQ w S es ep)[i]?=some v:=⟨_,GC (by rw[(fJ w S es ep).length_eq,GD,GQ];exact p)⟩
  refine vP O a.2 a.1 k λj f m=>?_;exact g v j s.toks k ⟨f,(m.2 S u).trans a.2⟩ λb x d e=>m.extBut b x (λz=>d (by simp[z])) e
 done:=λs Q E a g=>yc q O a.2 a.1 λj n=>g j s.toks λb x d e=>n b x (λz=>d (by simp[z])) e
 self:=λ_ _ _ _ a g=>AE a.1 g
theorem zj(c:s.TypeIs (.ref r) "set")(h:Q false s):Ht (Hr prog w) A (Builtin.List.listLengthHint (.ref r)) Q E s:=by
 unfold Builtin.List.listLengthHint;refine GB (Ll c PySem.F.slot_set_len.lookup ?_);generalize hid:("set.__len__":String)=a
 wp_delta
 rw[show splitId a=some ("set","__len__") from by subst hid;decide+kernel];subst hid;refine GB (JV (T:="set") (b:=true) c (by rw[ML];kernel_rfl) ?_);refine Ln (λz=>absurd z (by decide)) (λ_=>?_);refine Ln (λ_=>?_) (λz=>absurd (by decide+kernel) z);exact GB (QG c (GH h))
theorem B5{S:Hc}{o:Obj}{es ep t hs}(O:SO prog w o es ep t hs):KdlSrc prog w "set" S S es.size (λi v=>(cQ w S es ep)[i]?=some v) (λh=>h.get? S=some o) where
 type:=λ_ a=>⟨o,a,O.ex.1⟩
 there:=λ_ a=>⟨GS a,GS a⟩
 keep:=λ_ _ a d=>d S (.inl rfl) o a
 notList:=by decide
 notTuple:=by decide
 hint:=λ_ _ _ _ a b=>zj ⟨o,a,O.ex.1⟩ b
 iter:=λ_ s c a=>⟨_,_,(λ_ _ b=>y9 O a b),wJ c (Hn (GS a)) O,⟨⟨_,GZ _ rfl,rfl,by simp[bh,gP]⟩,GI _ a⟩⟩
end
end ST
namespace ST
open PySem PySem.W PyProof.Rows
variable {lt:Nat→Nat→Bool}{n:Nat}
abbrev g(p:Array Nat)(k:Nat):Nat:=p.getD k 0
noncomputable def ltP(a b:Int×Int):Bool:=decide (a.1<b.1\/(a.1=b.1/\a.2<b.2))
theorem jz(d:ltP a b=true)(e:ltP b c=true):ltP a c=true:=by
 unfold ltP at *;simp at *;lia
theorem h7(c:ltP a b=true):ltP b a=false:=by
 unfold ltP at *;simp at *;lia
theorem ltP_tot(h:a≠b)(c:ltP a b=false):ltP b a=true:=by
 unfold ltP at *;have:¬ (a.1=b.1/\a.2=b.2):=λz=>h (Ii z.1 z.2);simp at *;lia
section
variable {prog:GX}{w:HF}{A:HM}{E:GM→GP→Prop}{s:GP}
theorem TK.two(k:TK prog w h [x,y] b):∃o its n t u,h.get? b=some o∧o.cls=.type "tuple"∧o.data=.seq its n∧its.toList=[.int x t,.int y u]:=by
 obtain⟨o,its,n,j,f,g,a⟩:=k;cases S0:its.toList with
 |nil=>rw[S0]at a;cases a
 |cons l r=>
  rw[S0]at a;cases a with
  |cons i e=>
   cases e with
   |cons d c=>
    cases c;obtain⟨t,rfl⟩:=Mx i;obtain⟨u,rfl⟩:=Mx d;exact⟨o,its,n,t,u,j,f,g,S0⟩
theorem Dk(q:TK prog w s.heap [a.1,a.2] x)(k:TK prog w s.heap [b.1,b.2] y)(h:Q (ltP a b) s):Ht (Hr prog w) A (keyLt' (OZ true) (.ref x) (.ref y)) Q E s:=by
 obtain⟨o,its,n,t,u,l,_,j,e⟩:=q.two;obtain⟨C,c,r,v,B,p,_,i,g⟩:=k.two;refine kat_lt l j p i ?_;rw[e,g];refine kat_cons ((MS prog w).eqBool (a:=a.1) (b:=b.1) (IC _ _ _ _) (IC _ _ _ _) ?_);by_cases d:a.1=b.1
 .rw[decide_eq_true d];refine kat_yes (kat_cons ((MS prog w).eqBool (a:=a.2) (b:=b.2) (IC _ _ _ _) (IC _ _ _ _) ?_));by_cases f:a.2=b.2
  .rw[decide_eq_true f];refine kat_yes (kat_nil ?_);have z:ltP a b=false:=by unfold ltP;simp;lia
   rw[z]at h
   have m:decide (its.size<c.size)=false:=by
    rw[<-GQ,<-GQ,e,g];simp
   rw[m];exact h
  .rw[decide_eq_false f];refine kat_no (kat_one _ _ (lt_int ?_));have z:ltP a b=decide (a.2<b.2):=by unfold ltP;rw[d];simp
   rw[z]at h;exact h
 .rw[decide_eq_false d];refine kat_no (oneLt_int ?_);have z:ltP a b=decide (a.1<b.1):=by unfold ltP;simp[d]
  rw[z]at h;exact h
noncomputable abbrev PB:=List ((Int×Int)×Hc)
noncomputable abbrev refs(pb:PB):List GM:=pb.map λp=>Ik p.2
theorem zm(e:∀p∈pb,TK prog w s.heap [p.1.1,p.1.2] p.2)(m:0<pb.length)(h:Q (OZ true) s):Ht (Hr prog w) A (RW (refs pb).toArray) Q E s:=by
 obtain⟨fs,b,d,c⟩:∃fs,KatTups s.heap (refs pb) fs/\fs.length=pb.length/\∀v∈fs,∃n t,v=Ma n t:=by
  clear h m
  induction pb with
  |nil=>exact⟨[],.nil,rfl,λv a=>by simp at a⟩
  |cons p r f=>
   obtain⟨fs,b,d,c⟩:=f λq k=>e q (GG _ k);obtain⟨o,its,n,t,u,i,l,g,j⟩:=(e p GR).two;refine⟨.int p.1.1 t::fs,.cons i l g (by rw[<-HP,j];rfl) b,by simp[d],λv a=>?_⟩;rcases GF.mp a with z |z
   .exact⟨_,_,z⟩
   .exact c v z
 refine kat_kind (T:=.type "int") b (by lia) (λv a=>?_) (by decide) h;obtain⟨n,t,rfl⟩:=c v a;exact Looks.of_pure rfl
end
end ST
namespace ST
open PySem PySem.W PyProof.Rows PySem.Calls
theorem AA{q i:Type}(f:q->i){l m:List i}(h:l.Perm m):∀a,m=a.map f->∃b,NL b a/\l=List.map f b:=by
 induction h with
 |nil=>intro a e;exact⟨a,.refl _,e⟩
 | @cons x l m _ n=>
  intro a e
  match a,e with
  |[],e=>simp at e
  |k::a,e=>
   rw[G_,Nb]at e;obtain⟨b,p,j⟩:=n a e.2;exact⟨k::b,p.cons k,by rw[G_,<-j,e.1]⟩
 |swap x y l=>
  intro a e
  match a,e with
  |[],e=>simp at e
  |[_],e=>simp at e
  |k::k'::a,e=>
   simp only[G_,Nb]at e;exact⟨k'::k::a,.swap k k' a,by rw[G_,G_,<-e.2.2,e.1,e.2.1]⟩
 |trans _ _ c d=>
  intro a e;obtain⟨g,o,t⟩:=d a e;obtain⟨r,u,s⟩:=c g t;exact⟨r,u.trans o,s⟩
noncomputable def ptsOf(a:List (List Int×Hc)):PB:=a.map λp=>((p.1.getD 0 0,p.1.getD 1 0),p.2)
end ST
namespace ST
open PySem
noncomputable def ins(x:Int×Int):List (Int×Int)->List (Int×Int)
 |[]=>[x]
 |y::r=>if x=y then y::r else if ltP x y=true then x::y::r else y::ins x r
noncomputable def srt(pts:List (Int×Int)):List (Int×Int):=pts.foldr ins []
theorem ins_mem(x z):∀l,z∈ins x l↔z=x\/z∈l
 |[]=>by simp[ins]
 |y::r=>by
  unfold ins;split
  .rename_i h;subst h;simp
  .split
   .simp
   .rw[GF,ins_mem x z r,GF];constructor
    .rintro (h |h |h)
     .exact .inr (.inl h)
     .exact .inl h
     .exact .inr (.inr h)
    .rintro (h |h |h)
     .exact .inr (.inl h)
     .exact .inl h
     .exact .inr (.inr h)
abbrev Asc(l:List (Int×Int)):Prop:=l.Pairwise (λx y=>ltP x y=true)
theorem ins_asc(x):∀l,Asc l->Asc (ins x l)
 |[],_=>by simp[ins]
 |y::r,h=>by
  unfold ins;split
  .exact h
  .rename_i f
   obtain⟨c,d⟩:=Hl.mp h;split
   .rename_i a
    refine Hl.mpr ⟨λz b=>?_,h⟩;rcases GF.mp b with e |e
    .rw[e];exact a
    .exact jz a (c z e)
   .rename_i a
    refine Hl.mpr ⟨λz b=>?_,ins_asc x r d⟩;rcases (ins_mem x z r).mp b with e |e
    .rw[e];exact ltP_tot f (by simpa using a)
    .exact c z e
theorem srt_mem(z):∀l,z∈srt l↔z∈l
 |[]=>by simp[srt]
 |y::r=>by
  show z∈ins y (srt r)↔_;rw[ins_mem,srt_mem z r,GF]
theorem srt_asc:∀l,Asc (srt l)
 |[]=>Lz
 |y::r=>ins_asc y (srt r) (srt_asc r)
theorem asc_irr:ltP x x=false:=by unfold ltP;simp
theorem asc_one:∀{l m},Asc l->Asc m->(∀z,z∈l↔z∈m)->l=m
 |[],[],_,_,_=>rfl
 |[],y::r,_,_,h=>by have:=(h y).mpr GR;simp at this
 |x::l,[],_,_,h=>by have:=(h x).mp GR;simp at this
 |x::l,y::m,hl,hm,h=>by
  obtain⟨d,f⟩:=Hl.mp hl;obtain⟨c,g⟩:=Hl.mp hm
  have e:x=y:=by
   rcases GF.mp ((h x).mp GR) with z |z
   .exact z
   .rcases GF.mp ((h y).mpr GR) with b |b
    .exact b.symm
    .have:=h7 (c x z);rw[d y b]at this;cases this
  subst e;congr 1;refine asc_one f g λz=>⟨λa=>?_,λa=>?_⟩
  .rcases GF.mp ((h z).mp (GG _ a)) with e |e
   .have:=d z a;rw[e,asc_irr]at this;cases this
   .exact e
  .rcases GF.mp ((h z).mpr (GG _ a)) with e |e
   .have:=c z a;rw[e,asc_irr]at this;cases this
   .exact e
theorem asc_srt(h:Asc l):srt l=l:=asc_one (srt_asc l) h λz=>srt_mem z l
theorem vm(x):∀l,(ins x l).length<=l.length+1
 |[]=>by simp[ins]
 |y::r=>by
  have:=vm x r;unfold ins;split
  .simp
  .split
   .simp
   .simp only[Ie];lia
theorem srt_len:∀l,(srt l).length<=l.length
 |[]=>GK _
 |y::r=>by
  have h1:=vm y (srt r);have a:=srt_len r;show (ins y (srt r)).length<=_;simp only[Ie];lia
end ST
namespace L2
open PySem PySem.Spec PyProof.Rows
theorem GA{p:Nat->Hc->Prop}(h:∀i,i<n->∃b,p i b):∃f:Nat->Hc,∀i,i<n->p i (f i):=by
 refine⟨λi=>if k:i<n then QP (h i k) else 0,λi a=>?_⟩;dsimp only;rw[dif_pos a];exact O1 (h i a)
theorem xy:IL "set"=some (.type "set"):=by decide+kernel
end L2
namespace ST
open PySem
variable {G:Array M0→Array M0→Prop}{P:Nat→GM→Prop}{T:String}
section
variable {prog:GX}{w:HF}{A:HM}{s:GP}{R:RI→GP→Prop}{I:Hc}{fp wr:List Hc}{n:Nat}{St:Nat→GP→Prop}
def AJ(prog:GX)(w:HF)(T:String):Prop:=∀(A:HM) (E:GM->GP->Prop) (s:GP) (r:Hc) (Q:Bool->GP->Prop),s.TypeIs (.ref r) T->(∀b,Q b s)->Ht (Hr prog w) A (Builtin.List.listLengthHint (.ref r)) Q E s
end
section
variable {prog:GX}{w:HF}{A:HM}{E:GM→GP→Prop}{s:GP}{I:Hc}{Fi:GP→Prop}
theorem call_list_any(x:s.TypeIs (.ref I) T)(t:(J4 T==J4 "list")=false)(v:(J4 T==J4 "tuple")=false)(j:AJ prog w T)
  (self:∀d Q E,(∀b o,s.heap.get? b=some o->d.get? b=some o)->Q (.ref I) {s with heap:=d }->Ht (Hr prog w) A.in1.in1 (QD (.ref I)) Q E {s with heap:=d })
  (loop:∀R d c,(∀b o,s.heap.get? b=some o→d.get? b=some o)→d.get? s.heap.objs.size=some {cls:=.type "list",dict:=none,data:=.seq #[] c,slots:=#[] }→(∀a,Fi a→R (.ok (.ret .none)) a)→Me (Hr prog w) A.in1 (.builtin "list.extend.loop" ⟨[.ref s.heap.objs.size,.ref I,.none],[]⟩) R {s with heap:=d })
  (hQ:∀a,Fi a→Q (.ref s.heap.objs.size) a):Ht (Hr prog w) A (call (.type "list") [.ref I]) Q E s:=by
 refine callType_codes (Q₁:=λg n=>g=.ref s.heap.objs.size∧n={s with heap:=s.heap.push {cls:=.type "list",data:=.seq #[] } }) PySem.F.called_list (PySem.F.typeCall_list_1 _) PySem.F.entry_list_init (code_list_new _ ⟨rfl,rfl⟩) λg n i=>?_;obtain⟨rfl,rfl⟩:=i;have k:(s.heap.push {cls:=.type "list",data:=.seq #[] }).get? s.heap.objs.size=some {cls:=.type "list",data:=.seq #[] }:=GZ _ rfl;have y:∀b o,s.heap.get? b=some o→(s.heap.push {cls:=.type "list",data:=.seq #[] }).get? b=some o:=λb o e=>GI _ e;have lt:∀b o,s.heap.get? b=some o->s.heap.objs.size≠b:=λb o e=>Km (GS e);generalize s.heap.objs.size=S at *;refine⟨⟨_,k,rfl⟩,PySem.F.args_list_init_2 _ _,?_⟩;refine GB ?_;refine GB (JL k rfl (GH ?_));refine GB (Ju k rfl ?_);have m:=Ij (JE (λ_=>#[])) k rfl;have l:∀b o,s.heap.get? b=some o→((s.heap.push {cls:=.type "list",data:=.seq #[] }).update S (JE (λ_=>#[]))).get? b=some o:=λb o e=>(HH _ _ (lt b o e)).trans (y b o e);refine GB (Lo ?_);generalize (s.heap.push {cls:=.type "list",data:=.seq #[] }).update S (JE (λ_=>#[]))=u at *
 obtain⟨r,q,z⟩:=x;have h:({s with heap:=u }:GP).TypeIs (.ref I) T:=⟨r,l _ _ q,z⟩
 refine GB (QG h ?_);have B:Builtin.List.listSameRef (.ref S) (.ref I)=false:=by simp[Builtin.List.listSameRef,lt _ _ q]
 simp only[B,t,v,Bool.or_false,G4,if_false];refine GB (self _ _ _ l (GB (Iz (j _ _ _ _ _ h λb=>?_))));refine Ln (λ_=>?_) (λ_=>GH ⟨Jc Kw _,loop _ _ _ l m λa f=>⟨rfl,hQ a f⟩⟩);refine GB (LZ (GB ?_));refine GB (Ju m rfl ?_);have p:=Ij (JE (·.push Lb)) m rfl;refine Ju p rfl (GH ⟨Jc Kw _,loop _ _ _ (λb o e=>?_) (Ij (JE (·.pop)) p rfl) λa f=>⟨rfl,hQ a f⟩⟩);exact (HH _ _ (lt b o e)).trans ((HH _ _ (lt b o e)).trans (l b o e))
end
section
variable {prog:GX}{w:HF}{A:HM}{E:GM→GP→Prop}{s:GP}{I:Hc}{fp wr:List Hc}{n:Nat}{St:Nat→GP→Prop}
theorem call_list_it(W:WalksS prog w A.in1.in1 I fp wr G n P St)(y:∀i s,St i s→s.TypeIs (.ref I) T)(u:(J4 T==J4 "list")=false)(v:(J4 T==J4 "tuple")=false)(h:AJ prog w T)(p:St 0 s)(r:∀b∈fp,b<s.heap.objs.size) 
  (hQ:∀a d f,Moved (s.heap.objs.size::wr) G s a->
   a.heap.get? s.heap.objs.size=some {cls:=.type "list",dict:=none,data:=.seq d f,slots:=#[] }→ItemsOf P d n→Q (.ref s.heap.objs.size) a) (hn:n≤sizeLine):
  Ht (Hr prog w) A (call (.type "list") [.ref I]) Q E s:=
 call_list_any (Fi:=λa=>∃d f,Moved (s.heap.objs.size::wr) G s a∧a.heap.get? s.heap.objs.size=some {cls:=.type "list",dict:=none,data:=.seq d f,slots:=#[] }∧ItemsOf P d n) (y 0 s p) u v h (λl Q E k q=>W.self 0 _ _ _ (W.frame 0 s l s.toks p (GK _) λb _ o e=>k b o e) q)
  (λR l c k g z=>codeAny_extend_loopS W hn _ (λt=>Hw _ (r _ t)) _ n 0 _ _ _ rfl (Ir _) (W.frame 0 s l s.toks p (GK _) λb _ o e=>k b o e) g (ItemsOf.nil P) λa d f m x j=>z a ⟨d,f,Moved.trans W.gtrans ((Moved.refl W.grefl).then_heap (GK _) λb o _ e=>k b o e) m,x,j⟩) λa ⟨d,f,m,g,j⟩=>hQ a d f m g j
end
theorem Cc:Qo (.type "list_reverseiterator") "__len__"=pure none:=by rw[Lm,JM];kernel_rfl
theorem mW:Slot "list_reverseiterator" "__length_hint__" "list_reverseiterator.__length_hint__":=
 .of (owner:="list_reverseiterator") (n:="__length_hint__") (by rw[Lm,JM];kernel_rfl) (by decide+kernel) (by decide+kernel) (by decide+kernel) (by first |exact .inl (by decide+kernel) |exact .inr (by decide+kernel)) (by rw[ML];kernel_rfl)
theorem hint_rev(prog)(w):AJ prog w "list_reverseiterator":=λA E s r Q c h=>by
 refine GB (Ll c Cc ?_);refine GB (Ll c mW.lookup ?_);generalize hid:"list_reverseiterator.__length_hint__"=a
 wp_delta
 rw[show splitId a=some ("list_reverseiterator","__length_hint__") from by subst hid;decide+kernel];subst hid;refine GB (JV (b:=true) c (by rw[ML];kernel_rfl) ?_);refine Ln (λz=>absurd z (by decide)) (λ_=>?_);refine Ln (λ_=>?_) (λz=>absurd (by decide+kernel) z);refine Ln (λz=>absurd z (by decide+kernel)) (λ_=>GH (h _))
end ST
namespace L2
open PySem PySem.Spec PyProof.Rows
theorem m9:IL "reversed"=some (.type "reversed"):=by decide+kernel
theorem aZ.rev:∀{d}{c},aZ d c->aZ d.reverse c.reverse:=λ{d c} r=>by
 induction r with
 |nil=>exact .nil
 | @cons x u d c g i f=>
  rw[NM,NM]
  have app:∀{a}{b},aZ a b->aZ (a++[x]) (b++[u]):=λ{a b} q=>by
   induction q with
   |nil=>exact .cons g .nil
   |cons h _ e=>exact .cons h e
  exact app f
theorem Rps.rev{K:GE}(r:Rps K H vs xs):Rps K H vs.reverse xs.reverse:=⟨by simp[r.len],λi v x a b=>by
 have c:i<vs.length:=by have:=aH a;simpa using this
 have d:i<xs.length:=by rw[<-r.len];exact c
 rw[IQ c]at a;rw[IQ d,<-r.len]at b;exact r.at_ _ v x a b⟩
section
variable {X:Cx}{H0:Hp}{O0:List Hc}{ps:PSt}{e k:Expr}{x:U}{xs:List U}{pos S6 p p' p2:Pos}
theorem vM{K:GE}(f:Rp K H v x)(g:x=.lst xs\/x=.scr xs):∃a e,v=.ref a/\SqL K H a e/\Rps K H e xs:=by
 rcases g with rfl |rfl
 .cases f with
  |lst c d b=>exact⟨_,_,rfl,SqL.of c,d,b⟩
 .cases f with
  |scr c d b=>exact⟨_,_,rfl,c,d,b⟩
theorem Fl(B:Ev X H0 O0 ps e x)(F:Ev X H0 O0 ps k (.int (-1)))(S:x=.lst xs\/x=.scr xs):EvN X H0 O0 ps (.Subscript e (.Slice none none (some k) p2) pos) xs.reverse:=by
 rintro l s o H Q I ⟨O,R,q⟩;refine RJ (thn (B l s o H (λv f=>aY H f/\Rp X.K (hid f O) v x) I ⟨O,R,λv f i m=>⟨i,m⟩⟩) λu i T=>?_);obtain⟨v,f,y,m,n,J⟩:=T;obtain⟨a,w,rfl,P,N⟩:=vM J S;cases m;refine wpAny_Slice ?_;rw[P6];refine GH (GH ?_);rw[evalPart_some];refine thn (F l i o f (λv d=>aY f d/\v=.int (-1)) y ⟨O,R.go n,λv d g L=>⟨g,by cases L;rfl⟩⟩) λU g E=>?_;obtain⟨Y,d,C,A,c,rfl⟩:=E;obtain⟨t,rfl⟩:=A;have j:Inv X l o d {g with heap:=g.heap.push {cls:=.type "slice",data:=.fields #[.none,.none,.int (-1) t] } }:=C.kept λb G z=>GI _ z;obtain⟨its,r,p,M⟩:=j.list (c.seq (aC.seq P));have V:=r.length;refine tail_any p.isList.typeIs slot_list_getitem.lookup ?_ (by with_unfolding_all rfl);refine NG p.isList (P7 ..) .none .none (IsPart.int _ _) (by simp) ?_ (by rw[G5];lia);rw[PySem.W.krv_pick];generalize hn:(g.heap.push {cls:=.type "slice",data:=.fields #[.none,.none,.int (-1) t] }).objs.size=D;have h:d D=none:=j.hok.fresh (by rw[<-hn];exact GK _);refine⟨.ref D,upd d D (.lst w.reverse),j.laid (λb G z=>GI _ z) (by rw[<-hn];exact GK _) ⟨by rw[HL];exact M,its.reverse,0,r.rev,?_⟩,rfl,?_⟩
 .rw[<-hn];exact GZ _ rfl
 .refine q D _ _ ((n.trans c).trans (aQ h _)) ((n.trans c).free h) a9 ?_;exact (N.rev.same (aM c)).same (bM (aQ h _) h)
theorem vN(hc:X.calm=true)(hg:Gl X "list")(hm:X.mg "list"=none)(r:Gl X "reversed")(B:X.mg "reversed"=none)(ha:Ev X H0 O0 ps e (.lst xs))
  (he:autoParam (GO [e] X.env=(false,Kg e X.env)::GO [] X.env) w4):EvN X H0 O0 ps (.Call (.Name "list" p) [.Call (.Name "reversed" p') [e] [] S6] [] pos) xs.reverse:=by
 rintro C s G H Q I ⟨O,R,q⟩;have hh:=I.ok.hd hc;refine Iq (cU I hg hm LO ?_);refine callWith_type1 (e:=.Call (.Name "reversed" p') [e] [] S6) (rest:=[]) ?_ aB rfl;rw[aB];refine Le ?_;refine Iq (cU I r B m9 ?_);refine callWith_type1 (thn (cp ha dZ he S6 C s G H (λM g=>∃v,M=[v]/\aY H g/\Rp X.K (hid g O) v (.lst xs)) I ⟨O,R,λv g d r1=>⟨v,rfl,d,r1⟩⟩) λus d hx=>?_) he rfl;obtain⟨M,g,t,rv,v,rfl,U,rp⟩:=hx;obtain⟨u,rfl,ru⟩:=dR rv;obtain⟨a,N,rfl,hq,rs⟩:=vM rp (.inl rfl);cases ru;obtain⟨its,L,x,hz⟩:=t.list (aC.seq hq);have SQ:=L.length;have n:its.toArray.size=its.length:=by simp
 refine call_reversed_list x.isList ?_;have I2:Inv X C G g {d with heap:=d.heap.push (SC a ((its.toArray.size:Int)-1)) }:=t.kept (t':=d.toks) λb h z=>GI _ z;refine Lx ?_;have P:a<d.heap.objs.size:=by obtain⟨o,ho,_⟩:=x.isList;exact GS ho
 have W:=(Walks.listRev (prog:=X.prog) (w:=X.w) (A:=X.A.in1.in1) hh d.heap.objs.size a (Hn P) its.toArray).toS;refine ST.call_list_it (T:="list_reverseiterator") (s:={d with heap:=d.heap.push (SC a ((its.toArray.size:Int)-1)) }) W (λi s' st=>st.2.1.typeIs) (by decide) (by decide) (ST.hint_rev _ _) ⟨Ir _,⟨_,GZ _ rfl,rfl,by simp[SC]⟩,x.isList.push _⟩ (λb f=>?_) (λs3 S c m Y F=>?_) (by rw[n];lia)
 .show b<(d.heap.push _).objs.size;rw[Jr];simp at f;rcases f with z |z
  .rw[z];exact Il _
  .rw[z];exact JG P
 .obtain⟨V,g3,d3,k,J⟩:=s3;obtain rfl:g3=d.gens:=m.gens;obtain rfl:d3=d.drawn:=m.drawn;obtain rfl:J=d.os:=m.os;have j:(d.heap.push (SC a ((its.toArray.size:Int)-1))).objs.size=d.heap.objs.size+1:=Jr ..
  have keep:∀b h,d.heap.get? b=some h->V.get? b=some h:=λb h z=>by
   have f:=GS z;refine m.heap b h (λy=>?_) (GI _ z);rcases GF.mp y with y |y
   .rw[y]at f;have T4:d.heap.objs.size+1<d.heap.objs.size:=by rw[<-j];exact f
    exact absurd T4 (by lia)
   .rw[GL.mp y]at f;exact Hw _ f
  have Vq:S.toList=its.reverse:=by
   apply J9;intro i;rcases IU i S.size with z |z
   .have y:=F.2 i _ (Iu z);have E:i<its.length:=by rw[F.1,n]at z;exact z
    rw[HP,Iu z,IQ E,<-y,n];simp
   .have E:its.length<=i:=by rw[F.1,n]at z;exact z
    rw[Hu (by simpa using z),Hu (by simpa using E)]
  generalize hn:(d.heap.push (SC a ((its.toArray.size:Int)-1))).objs.size=D at *;have l:g D=none:=I2.hok.fresh (by rw[<-hn];exact GK _);have Z:Inv X C G (upd g D (.lst N.reverse)) {d with heap:=V,toks:=k }:=t.laid (t':=k) (o:=.lst N.reverse) keep (by rw[j];exact Nat.le_succ _) ⟨by rw[HL];exact hz,its.reverse,c,L.rev,by rw[<-Vq,Array.toArray_toList];exact Y⟩;refine⟨.ref D,_,Z,rfl,q D _ _ (U.trans (aQ l _)) (U.free l) a9 ?_⟩;exact rs.rev.same (bM (aQ l _) l)
end
section
variable {X:Cx}{H0:Hp}{O0:List Hc}{ps:PSt}{xs:List U}{us:List U}{es:List Expr}{x:Str}{pc p' pos:Pos}
theorem cC(n:Nat)(h:ps[n]?=some (some (.own xs)))(a:Gl X "len")(d:X.mg "len"=none)(b:autoParam (X.N[n]?=some x) w4)(c:autoParam (Vis X.env.scope x) j0)(e:autoParam ((x==("__debug__":Str))=false) v0)
  (TX:autoParam ((x==("__classdict__":Str))=false) v0) (Td:autoParam ((JZ pos (GO [] X.env)).any (·.1)=false) w4):Ev X H0 O0 ps (.Call (.Name "len" pc) [.Name x p'] [] pos) (.int xs.length):=CZ n h a d b c e TX ai Td
end
end L2
namespace ST
open PySem
abbrev IsZ2(h:Jx)(z a c T:Hc)(b:Bool):Prop:=h.get? z=some {cls:=.type "zip",dict:=none,data:=.fields #[Of T,.bool b,.bool false,.ref a,.ref c],slots:=#[] }
section
variable {prog:GX}{w:HF}{A:HM}{E:GM→GP→Prop}{s:GP}
theorem FM(h:s.heap.get? T=some o)(q:Q (some o) s):Ht (Hr prog w) A (loadIfAlive T) Q E s:=λb p a=>by
 unfold loadIfAlive;rw[Sem.wp_loadIfAlive,h];simpa using q
theorem qY(e:IsZ2 s.heap z TI TO T b)(g:s.heap.get? T=some oT)(h:∀f,IsZ2 f z TI TO T true->LX z s.heap f->Q false {s with heap:=f }):
  Ht (Hr prog w) A (Builtin.SmallTypes.ownedTupleIsFree (.ref z)) Q E s:=by
 refine GB (PR e rfl rfl ?_);refine GB (FM (by rw[J8];exact g) ?_);rw[if_neg (by simp)];refine GB (PR e rfl (x:=.bool b) rfl ?_);cases b with
 |true=>
  rw[if_neg (by decide)];exact GH (h s.heap e (Qs _ _))
 |false=>
  rw[if_pos (by decide)];refine GB (wpAny_setField_rec e (by simp) λd a c=>GH (h d a c))
theorem next_zip{Pt:Hc->Prop}(r:A.handled=none)(D:Q2 z TI TO i1 i2 l1 l2)
  (zz:(IsZip s.heap z TI TO .none/\∃a b,RM s.heap TO a b)\/∃b T,Pt T/\(∃o,s.heap.get? T=some o)/\IsZ2 s.heap z TI TO T b) (hTI:RM s.heap TI (.ref i1) (.ref i2))
  (h1:s.heap.IsListIter i1 l1 k) (h2:s.heap.IsListIter i2 l2 k) (US:s.heap.IsList l1 xs) (hl2:s.heap.IsList l2 ys)
  (hQ:∀x y h',xs[k]?=some x->ys[k]?=some y->(∃b T,(T=s.heap.objs.size\/Pt T)/\IsZ2 h' z TI TO T b)->h'.IsListIter i1 l1 (k+1)->h'.IsListIter i2 l2 (k+1)->RM h' s.heap.objs.size x y->(∀c o,c≠z->c≠TO->c≠i1->c≠i2->s.heap.get? c=some o->h'.get? c=some o)->Q (some (.ref s.heap.objs.size)) {s with heap:=h' })
  (hE:xs[k]?=none\/ys[k]?=none->∀h',(∀c o,c≠z->c≠TO->c≠i1->c≠i2->s.heap.get? c=some o->h'.get? c=some o)->Q none {s with heap:=h' }):Ht (Hr prog w) A (Px (.ref z)) Q E s:=by
 rcases zz with ⟨g,a,b,h⟩ |⟨b,T,pt,⟨U,R⟩,g⟩
 .cases hx:xs[k]? with
  |none=>exact MZ r D g hTI h h1 h2 US hl2 (.inl hx) (hE (.inl hx))
  |some x=>
   cases hy:ys[k]? with
   |none=>exact MZ r D g hTI h h1 h2 US hl2 (.inr hy) (hE (.inr hy))
   |some y=>exact O4 D g hTI h h1 h2 US hl2 hx hy λh' K v S M H _ N=>hQ x y h' hx hy ⟨false,_,.inl rfl,K⟩ S M H N
 have l:s.TypeIs (.ref z) "zip":=⟨_,g,rfl⟩;refine GB (Mg (Mm l O5 (Jd O5 l PySem.F.entry_zip_next ?_ (PySem.F.args_zip_next_1 _))));show Ht _ _ (field (.ref z) 2 >>=_) _ _ _;refine GB (PR g rfl rfl ?_);refine GB (PR g rfl rfl (GB (JL hTI rfl ?_)));refine GB (qY g R λV L d=>?_);simp only[G4,if_false];refine GB ?_;rw[<-Nr];simp only[Mf,Nx];refine GB (GB (Iz ?_));cases hx:xs[k]? with
 |none=>
  refine GB (O6 r (h1.extBut d.extBut D.i1z) (US.extBut d.extBut D.l1z) hx λC e f t=>?_);obtain⟨o,u,n⟩:=t;exact GB (JV ⟨o,u,n⟩ PJ (GH (hE (.inl hx) C λc o m _ j p q=>f _ _ j (d.extBut _ _ m q))))
 |some x=>
  refine GB (OC (h1.extBut d.extBut D.i1z) (US.extBut d.extBut D.l1z) hx λC P f=>GH ?_);refine GH ?_;refine GB (GB (Iz ?_));have B:=(h2.extBut d.extBut D.i2z).extBut f.extBut D.i12.symm;have v:=(hl2.extBut d.extBut D.l2z).extBut f.extBut D.l2i1;cases hy:ys[k]? with
  |none=>
   refine GB (O6 r B v hy λn e i t=>?_);obtain⟨o,u,J⟩:=t;exact GB (JV ⟨o,u,J⟩ PJ (GH (hE (.inr hy) n λc o m _ j p q=>i _ _ p (f.extBut _ _ j (d.extBut _ _ m q)))))
  |some y=>
   refine GB (OC B v hy λn I i=>GH ?_);refine GH (GH ?_);refine GB (Ry ?_ (by show 2<=sizeLine;rw[JT];lia));have G:n.objs.size=s.heap.objs.size:=by rw[i.1,f.1,d.1]
   have O:=i.extBut _ _ D.i2z.symm (f.extBut _ _ D.i1z.symm L);refine GH ⟨_,rfl,GH ?_⟩;rw[G];refine hQ x y _ hx hy ⟨true,T,.inr pt,GI _ O⟩ (((P.extBut i.extBut D.i12)).at λo e=>GI _ e) (I.at λo e=>GI _ e) ?_ λc o m _ j p e=>GI _ (i.extBut _ _ p (f.extBut _ _ j (d.extBut _ _ m e)));rw[<-G];exact GZ _ rfl
end
theorem AK:Qo (.type "zip") "__len__"=pure none:=by rw[Lm,JM];kernel_rfl
theorem x8:Qo (.type "zip") "__length_hint__"=pure none:=by rw[Lm,JM];kernel_rfl
theorem hint_zip(prog)(w):AJ prog w "zip":=λA E s r Q a h=>by
 refine GB (Ll a AK ?_);refine GB (Ll a x8 ?_);exact GH (h _)
end ST
namespace L2
open PySem PySem.Spec PyProof.Rows
theorem FV{a b:Nat}(h:a<b\/b<a):@Ne Hc a b:=λe=>by
 have c:a=b:=e;lia
theorem qb:IL "zip"=some (.type "zip"):=by decide+kernel
theorem vz{f:List Hc}(I:Inv X SI σ H s)(h:∀b∈f,km X SI H b)
  (k:∀b o,b ∉ f->s.heap.get? b=some o->h'.get? b=some o) (hp:s.heap.objs.size<=p) (new:cM X.prog X.w (upd H p (.tup xs)) h' p (.tup xs)):
  Inv X SI σ (upd H p (.tup xs)) {s with heap:=h',toks:=t' }:=by
 have fresh:=I.hok.fresh hp;have D:∀b o,s.heap.get? b=some o->b≠p:=λb o e z=>absurd (GT (GS e) hp) (by rw[z];exact Hw _);have d:∀b u,H b=some u->b≠p:=λb u e z=>by rw[z,fresh]at e;cases e
 have i:∀b u,H b=some u->b ∉ f:=λb u e z=>by rw[(h b z).1]at e;cases e
 refine I.step (g':=s.gens) (d':=s.drawn) (ch:=f) (λb g=>?_) (λb o _ _ a e _=>k b o a e) (λb o _ _ a e _=>⟨o.slots,k b o a e⟩) (λb o _ e n=>by rw[aS (D b o e)];exact n)
  (λb o a e=>⟨o,k b o a e⟩) (λb xs e=>by rw[aS (d b _ e)];exact e) (λb o u e=>by rw[aS (d b _ e)];exact e) (λb F e=>⟨#[],by rw[aS (d b _ e),e];simp⟩) (λm l=>?_) (λb u e=>?_) I.bare
 .obtain⟨E,x,G,C,t,B⟩:=h b g;exact⟨C,x,t,B⟩
 .obtain⟨o,j,y,A,r⟩:=l;exact⟨o,j,y,k _ o (λz=>(h _ z).2.1 rfl) A,r⟩
 .by_cases g:b=p
  .subst g;rw[a9]at e;cases e;exact new
  .rw[aS g]at e;refine (I.hok b u e).stay (λc v a q=>k c v ?_ q) (λc q=>by rw[aS (d c _ q)];exact q) λc xs q=>by rw[aS (d c _ q)];exact q
   rcases a with z |z
   .rw[z];exact i b u e
   .exact i c _ z
theorem t8{d:List Hc}(I:Inv X SI σ H s)(f:∀b∈d,km X SI H b)
  (k:∀b o,b ∉ d->s.heap.get? b=some o->h'.get? b=some o):Inv X SI σ H {s with heap:=h',toks:=t' }:=by
 have g:∀b u,H b=some u->b ∉ d:=λb u e z=>by rw[(f b z).1]at e;cases e
 refine I.step (λb t=>?_) (λb o _ _ a e _=>k b o a e) (λb o _ _ a e _=>⟨o.slots,k b o a e⟩) (λ_ _ _ _ n=>n)
  (λb o a e=>⟨o,k b o a e⟩) (λ_ _ e=>e) (λ_ _ _ e=>e) (λb B e=>⟨#[],by rw[e];simp⟩) (λm i=>?_) (λb u e=>?_) I.bare
 .obtain⟨A,l,C,y,j,x⟩:=f b t;exact⟨y,l,j,x⟩
 .obtain⟨o,h,p,w,r⟩:=i;exact⟨o,h,p,k _ o (λz=>(f _ z).2.1 rfl) w,r⟩
 .refine (I.hok b u e).stay (λc v a q=>k c v ?_ q) (λ_ q=>q) λ_ _ q=>q;rcases a with z |z
  .rw[z];exact g b u e
  .exact g c _ z
section
variable {X:Cx}{SI:List (Hc×Obj)}{σ:St}{O:List Hc}{z TI TO i1 i2 l1 l2 S:Hc}{va vb:List V}{xs ys:List U}{H1:Hp}{A:HM}{R:RI→GP→Prop}{res:GM}
theorem Gb{a b c d e f i:Nat}(h:c<=i\/d<=i)(g:a=c)(j:b=d)(l1:a=e)(l2:b=f):min e f<=i:=by omega
theorem zP(hh:A.in1.handled=none)(D:Q2 z TI TO i1 i2 l1 l2)(hS:S ∉ [z,TI,TO,i1,i2])(nS:H1 S=none)(dO:∀b∈O,H1 b≠none)(q1:SqL X.K (hid H1 O) l1 va)(q2:SqL X.K (hid H1 O) l2 vb)(P:Rps X.K (hid H1 O) va xs)(r2:Rps X.K (hid H1 O) vb ys)
  (hR:∀W h L,Inv X SI σ L W->aY H1 L->L S=some (.lst h)->Rps X.K (hid L (S::O)) h (L_ (λa b=>U.tup [a,b]) xs ys)->R (.ok (.ret res)) W):
  ∀(k i:Nat) (s:GP) (H:Hp) (h:List V),(L_ (λa b=>U.tup [a,b]) xs ys).length-i<k->Inv X SI σ H s->aY H1 H->H S=some (.lst h)->h.length=i->Rps X.K (hid H (S::O)) h ((L_ (λa b=>U.tup [a,b]) xs ys).take i)->(∀b∈[z,TI,TO,i1,i2],km X SI H b/\b<s.heap.objs.size)->
   RM s.heap TI (.ref i1) (.ref i2)->s.heap.IsListIter i1 l1 i->s.heap.IsListIter i2 l2 i->((IsZip s.heap z TI TO .none/\∃a b,RM s.heap TO a b)\/∃b T,(∃t,H T=some (.tup t))/\ST.IsZ2 s.heap z TI TO T b)->
   Me (Hr X.prog X.w) A (.builtin "list.extend.loop" ⟨[.ref S,.ref z,res],[]⟩) R s:=by
 intro k
 induction k with
 |zero=>exact λi s H h M=>absurd M (M_ _)
 |succ k ih=>
  intro i s H h M I B G hl rs N gI j1 j2 zz;obtain⟨ia,ra,p1,z1⟩:=I.list (B.seq (aC.seq q1));obtain⟨ib,rb,p2,_⟩:=I.list (B.seq (aC.seq q2));have la:=ra.length;have lb:=rb.length;have l1:=P.len;have l2:=r2.len;rw[Nc]at M
  have Z:∀{h':Jx},(∀c o,c≠z->c≠TO->c≠i1->c≠i2->s.heap.get? c=some o->h'.get? c=some o)->∀d o,d ∉ [z,TI,TO,i1,i2]->s.heap.get? d=some o->h'.get? d=some o:=λp d o C e=>by
   simp only[GF,G9,or_false,not_or]at C;exact p d o C.1 C.2.2.1 C.2.2.2.1 C.2.2.2.2 e
  refine IM PySem.F.entry_extend_loop ?_;rw[IA Kw _];refine GB (ST.next_zip (Pt:=λT=>∃t,H T=some (.tup t)) hh D (zz.imp_right λ⟨b,T,⟨t,m⟩,g⟩=>⟨b,T,⟨t,m⟩,let ⟨_,_,_,ob,e,_⟩:=I.hok T _ m;⟨ob,e⟩,g⟩) gI j1 j2 p1.isList p2.isList (λx y h' ex ey nz n1 n2 np p=>?_) λhe h' p=>?_)
  rotate_left
  .refine GH (hR _ h H (t8 (t':=s.toks) I (λb j=>(N b j).1) (Z p)) B G ?_)
   rwa [JB]at rs
   rw[Nc];simp at he;exact Gb he la lb l1 l2
  .have hia:=aH (show ia[i]?=some x by simpa using ex);have hib:=aH (show ib[i]?=some y by simpa using ey);obtain⟨v,e1⟩:∃v,va[i]?=some v:=⟨_,GC (by omega)⟩
   obtain⟨u,e2⟩:∃u,vb[i]?=some u:=⟨_,GC (by omega)⟩
   obtain⟨x',k1,t1⟩:=ra.get e1;obtain⟨y',k2,t2⟩:=rb.get e2;obtain rfl:x'=x:=by simpa [k1] using ex
   obtain rfl:y'=y:=by simpa [k2] using ey
   obtain⟨xu,f1⟩:∃v,xs[i]?=some v:=⟨_,GC (by omega)⟩
   obtain⟨yu,f2⟩:∃u,ys[i]?=some u:=⟨_,GC (by omega)⟩
   have fresh:H s.heap.objs.size=none:=I.hok.fresh (GK _);have I2:=vz (s:=s) (h':=h') (t':=s.toks) (xs:=[v,u]) I (λb j=>(N b j).1) (Z p) (GK _) ⟨by show 2<=sizeLine;decide,[x',y'],.cons t1 (.cons t2 .nil),⟨_,np,rfl,_,rfl⟩⟩;have Sp:S≠s.heap.objs.size:=λe=>by rw[e,fresh]at G;cases G
   have Q:upd H s.heap.objs.size (.tup [v,u]) S=some (.lst h):=by rw[aS Sp];exact G
   have J:aY H (upd H s.heap.objs.size (.tup [v,u])):=aQ fresh _;obtain⟨zs,its,n,r,hl2,e⟩:=I2.lstM Q;have E:∀b o,b≠S->h'.get? b=some o->(h'.update S (JE (·.push (.ref s.heap.objs.size)))).get? b=some o:=λb o j e=>(HH _ _ (Ne.symm j)).trans e;have vr:aZ [V.ref s.heap.objs.size] [Ik s.heap.objs.size]:=.cons rfl .nil;have l:∀b∈[z,TI,TO,i1,i2],b≠S:=λb j e=>hS (e ▸ j);refine GB (Ju (s:={s with heap:=h' }) e rfl (GH ⟨Jc Kw _,ih (i+1) _ (upd (upd H s.heap.objs.size (.tup [v,u])) S (.lst (h++[.ref s.heap.objs.size]))) (h++[.ref s.heap.objs.size]) ?_ (I2.lset (t':=s.toks) (ys:=h++[.ref s.heap.objs.size]) (its':=its++[.ref s.heap.objs.size]) Q e (by simp) (r.append vr) ?_) ((B.trans J).put nS _) a9 (by simp[hl]) ?_ (λb j=>?_) ?_ ?_ ?_ (.inr ?_)⟩) (by rw[G5];omega) (by rw[Array.size_push,G5];omega))
   .rw[Nc];omega
   .rw[He];simp;omega
   .rw[oZ GR,Ku,MU.mpr ⟨xu,yu,f1,f2,rfl⟩];refine (rs.same (aM J)).snoc (.cons ?_ .nil);have Y:=(bM (O:=O) B nS).trans (aM J);have all:Rps X.K (hid (upd H s.heap.objs.size (.tup [v,u])) (S::O)) [v,u] [xu,yu]:=.cons ((P.at_ i _ _ e1 f1).same Y) (.cons ((r2.at_ i _ _ e2 f2).same Y) .nil);refine .tup (SqT.of (dF a9 λhp=>?_)) all.len all.at_;rcases GF.mp hp with q |q
    .exact Sp q.symm
    .exact dO _ q (B.free fresh)
   .obtain⟨⟨f0,f⟩,T4⟩:=N b j;refine⟨⟨?_,f⟩,Kp T4 (GS (E _ _ Sp.symm np))⟩;rw[aS (λe=>hS (by rw[<-e];exact j)),aS (Hn T4)];exact f0
   .exact E _ _ (l _ (by simp)) (p TI _ D.TIz D.TITO D.TIi1 D.TIi2 gI)
   .exact n1.at λo e=>E _ o (l _ (by simp)) e
   .exact n2.at λo e=>E _ o (l _ (by simp)) e
   .obtain⟨b,T,m,g⟩:=nz;refine⟨b,T,?_,E _ _ (l _ (by simp)) g⟩;rcases m with rfl |⟨t,m⟩
    .exact⟨_,by rw[aS Sp.symm];exact a9⟩
    .exact⟨t,by rw[aS λe=>by rw[e,G]at m;cases m];exact J _ _ m⟩
end
section
variable {X:Cx}{H0:Hp}{O0:List Hc}{ps:PSt}{e f:Expr}{x y:U}{xs ys:List U}{pos S6 p p':Pos}
theorem nU(hc:X.calm=true)(hg:Gl X "list")(hm:X.mg "list"=none)(hgz:Gl X "zip")(W:X.mg "zip"=none)(ha:Ev X H0 O0 ps e x)(hx:x=.lst xs∨x=.scr xs)(w:Ev X H0 O0 ps f y)(hy:y=.lst ys∨y=.scr ys) 
  (he:autoParam (GO [e,f] X.env=(false,Kg e X.env)::GO [f] X.env) w4) (hf:autoParam (GO [f] X.env=(false,Kg f X.env)::GO [] X.env) w4):
  EvN X H0 O0 ps (.Call (.Name "list" p) [.Call (.Name "zip" p') [e,f] [] S6] [] pos) (L_ (λa b=>U.tup [a,b]) xs ys):=by
 rintro Y s σ H Q I ⟨O,S,q⟩;have hh:X.A.handled=none:=I.ok.hd hc;refine Iq (cU I hg hm LO ?_);refine callWith_type1 (e:=.Call (.Name "zip" p') [e,f] [] S6) (rest:=[]) ?_ aB rfl;rw[aB];show Ht _ _ (Sk ((false,Kg (.Call (.Name "zip" p') [e,f] [] S6) X.env)::JZ pos (GO [] X.env))) _ _ s;refine Le ?_;refine Iq (cU I hgz W qb ?_);refine callWith_type1 (thn (cp ha (cp w dZ hf) he S6 Y s σ H (λl t=>∃v u,l=[v,u]/\aY H t/\Rp X.K (hid t O) v x/\Rp X.K (hid t O) u y) I ⟨O,S,λv t h r1=>⟨O,S.go h,λu H2 s2 r2=>⟨v,u,rfl,h.trans s2,r1.same (aM s2),r2⟩⟩⟩) λus h UC=>?_) he (by rw[hf];rfl);obtain⟨l,t,B,rv,v,u,rfl,N,P,rp2⟩:=UC;obtain⟨w1,w2,rfl,ru1,Z⟩:=gN rv;obtain⟨a,va,rfl,VP,M⟩:=vM P hx;obtain⟨b,vb,rfl,Vr,V⟩:=vM rp2 hy;cases ru1;cases Z;obtain⟨ia,ra,F,hz1⟩:=B.list (aC.seq VP);obtain⟨ib,rb,z,hz2⟩:=B.list (aC.seq Vr);have al:@LT.lt Nat instLTNat a h.heap.objs.size:=by obtain⟨o,ho,_⟩:=F.isList;exact GS ho
 have bl:@LT.lt Nat instLTNat b h.heap.objs.size:=by obtain⟨o,ho,_⟩:=z.isList;exact GS ho
 refine PySem.call_zip_2 F.isList z.isList λj J z2 z3 z4 z5 z6 z7=>?_;refine Lx ?_;have D:Q2 (h.heap.objs.size+4) (h.heap.objs.size+2) (h.heap.objs.size+3) h.heap.objs.size (h.heap.objs.size+1) a b:=by constructor <;>exact FV (by lia)
 have L:Inv X Y σ t {h with heap:=j }:=B.kept (t':=h.toks) z7;have sz:h.heap.objs.size+4<j.objs.size:=GS J
 refine ST.call_list_any (T:="zip") (s:={h with heap:=j }) (Fi:=λG=>∃l n,Inv X Y σ n G∧aY t n∧n j.objs.size=some (.lst l)∧Rps X.K (hid n (j.objs.size::O)) l (L_ (λa b=>U.tup [a,b]) xs ys)) ⟨_,J,rfl⟩ (by decide) (by decide) (ST.hint_zip _ _) (λh2 Q E k q=>Oq (s:={h with heap:=h2 }) (k _ _ J) q)
  (λR h2 c k g hR=>zP (A:=X.A.in1) hh D (λw=>?_) (L.hok.fresh (GK _)) (S.go N).dom VP Vr M V (λG l n a b c d=>hR G ⟨l,n,a,b,c,d⟩) _ 0 _ (upd t j.objs.size (.lst [])) [] (Il _) (L.laid (t':=h.toks) (o:=.lst []) k (GK _) ⟨Ir _,[],c,.nil,g⟩) (aQ (L.hok.fresh (GK _)) _) a9 rfl (by rw[PF];exact .nil) (λb w=>?_) (k _ _ z2) (z4.at λo e=>k _ o e) (z5.at λo e=>k _ o e) (.inl ⟨k _ _ J,_,_,k _ _ z3⟩)) λG ⟨l,n,i,m,e,r⟩=>⟨.ref j.objs.size,n,i,rfl,q _ _ _ (N.trans m) (N.free (L.hok.fresh (GK _))) e r⟩
 .simp only[GF,G9,or_false]at w;have C:(j.objs.size:Nat)=_\/(j.objs.size:Nat)=_\/(j.objs.size:Nat)=_\/(j.objs.size:Nat)=_\/(j.objs.size:Nat)=_:=w;lia
 .have C:h.heap.objs.size<=b/\b<=h.heap.objs.size+4:=by
   simp only[GF,G9,or_false]at w;rcases w with e |e |e |e |e <;>rw[e] <;>exact⟨by first |exact HQ _ _ |exact GK _,by first |exact GK _ |exact HQ _ _ |exact LV (by decide) _⟩
  refine⟨B.fpOk C.1 ?_,IK C.2 (Kp sz (GS g))⟩;rw[aS (Hn (IK C.2 sz))];exact B.hok.fresh C.1
end
theorem jX(ns:List Int):∀j,preSum (λi=>ns.getD i 0) j=(ns.take j).sum
 |0=>by simp[preSum]
 |j+1=>by rw[preSum,jX ns j,PySem.sum_take_succ]
section
variable {X:Cx}{ns:List Int}{M:Int}
theorem mQ{K:GE}(d:aZ ws its)(c:Rps K H ws (ns.map U.int))(i)(z:GM)(e:its.toArray[i]?=some z):∃t,z=.int (ns.getD i 0) t:=by
 have l:=c.len;rw[GD]at l;have b:its[i]?=some z:=by simpa using e
 have j:=aH b;have g:i<ws.length:=by rw[d.length];exact j
 have f:i<ns.length:=by lia
 obtain⟨u,a,k⟩:=d.get (GC g);have h:=c.at_ i ws[i] (.int ns[i]) (GC g) (by rw[GN,GC f];rfl);rw[b]at a;cases a;generalize ws[i]=m at *;cases h;rw[G7,GC f];obtain⟨t,rfl⟩:=k;exact⟨t,rfl⟩
theorem x9(N:X.calm=true)(f:M∈ns∧∀a∈ns,M≤a):eA X (.builtin "min") [.lst (ns.map U.int)] (.int M):=by
 intro W s σ H S Y Q I r h;obtain⟨O,d,J,q⟩:=h;obtain⟨v,rfl,C⟩:=cq J;obtain⟨p1,rfl,B⟩:=dR r;cases C with
 | @lst a V _ h m F=>
  cases B;obtain⟨its,k,c,_⟩:=I.list (SqL.of (aC _ _ h));have u:its.length=ns.length:=by rw[<-k.length,m,GD]
  have w:=mQ (ns:=ns) k ⟨m,F⟩;have K:0<ns.length:=Iy f.1;refine call_min_walk (JD c.isList ?_);have l:a<s.heap.objs.size:=by obtain⟨o,e,_⟩:=c.isList;exact GS e
  refine⟨s.heap.objs.size,_,_,_,_,_,_,rfl,Walks.list (A:=X.A.in1) (I.ok.hd N) s.heap.objs.size a (Hn l) its.toArray,⟨⟨_,GZ _ rfl,rfl,rfl⟩,c.isList.push _⟩,λb D=>?_,by rw[G5,u];exact K,CmpOf.ints_lt (λi=>ns.getD i 0) w,λv T G y x=>?_⟩
  .show b<(s.heap.push _).objs.size;rw[Jr];rcases GF.mp D with z |z
   .rw[z];exact Il _
   .rw[GL.mp z];exact JG l
  .obtain⟨t,rfl⟩:=w _ _ y;obtain⟨E,n⟩:=argBest_lt (λi=>ns.getD i 0) (its.toArray.size-1)
   have e:ns.getD (IR (λi j=>decide (ns.getD i 0<ns.getD j 0)) (its.toArray.size-1)) 0=M:=by
    rw[G5,u]at E n |-;generalize IR (λi j=>decide (ns.getD i 0<ns.getD j 0)) (ns.length-1)=g at *
    have p:g<ns.length:=by lia
    obtain⟨j,P,R⟩:=IF f.1;have L:=n j (by lia);have Z:=f.2 ns[g] (HV p);simp only[G7,GC p,GC P,LQ]at L |-;lia
   rw[e];refine⟨.int M,H,I.kept (t':=G) λb o e=>x b o ?_ (GI _ e),⟨t,rfl⟩,q _ H (.refl H) (.int _)⟩;intro z;have:b=s.heap.objs.size:=by simpa using z
   exact absurd (GS e) (by rw[this];exact Hw _)
theorem my(y:X.calm=true):eA X (.builtin "sum") [.lst (ns.map U.int)] (.int ns.sum):=by
 intro E s J H B F Q I r f;obtain⟨O,d,x,q⟩:=f;obtain⟨v,rfl,m⟩:=cq x;obtain⟨G,rfl,l⟩:=dR r;cases m with
 | @lst a D _ f j p=>
  cases l;obtain⟨its,g,c,_⟩:=I.list (SqL.of (aC _ _ f));have t:its.length=ns.length:=by rw[<-g.length,j,GD]
  have u:=mQ (ns:=ns) g ⟨j,p⟩;refine call_sum_walkG (JD c.isList ?_);have h:a<s.heap.objs.size:=by obtain⟨o,e,_⟩:=c.isList;exact GS e
  refine⟨s.heap.objs.size,_,_,_,_,_,λi=>ns.getD i 0,rfl,Walks.list (A:=X.A.in1) (I.ok.hd y) s.heap.objs.size a (Hn h) its.toArray,⟨⟨_,GZ _ rfl,rfl,rfl⟩,c.isList.push _⟩,λb n=>?_,u,λC w t' k=>?_⟩
  .show b<(s.heap.push _).objs.size;rw[Jr];rcases GF.mp n with z |z
   .rw[z];exact Il _
   .rw[GL.mp z];exact JG h
  .rw[jX,G5,t,Kj];refine⟨.int ns.sum,H,I.kept (t':=w) λb o e=>k b o ?_ (GI _ e),⟨t',rfl⟩,q _ H (.refl H) (.int _)⟩;intro z;have:b=s.heap.objs.size:=by simpa using z
   exact absurd (GS e) (by rw[this];exact Hw _)
end
end L2
namespace ST
open PySem PyProof.Rows
noncomputable def leP(a b:Int×Int):Bool:=decide (a.1<b.1\/(a.1=b.1/\a.2<=b.2))
section
variable {prog:GX}{w:HF}{A:HM}{E:GM→GP→Prop}{s:GP}
theorem u6(h:Q (.bool (decide (x<=y))) s):Ht (Hr prog w) A (Nd .LtE (.int x t) (.int y u)) Q E s:=
 NO (op:=.LtE) (L8 s _ t) (L8 s _ u) PySem.F.slot_int_le PySem.F.entry_int_le (PySem.F.args_int_le_2 _ _) (gives_int_le _ _ t u) (λx=>nomatch x) h
theorem yz(q:TK prog w s.heap [a.1,a.2] x)(f:TK prog w s.heap [b.1,b.2] y)(h:P (.done (.ret (.bool (leP a b)))) s):
  Ht (Hr prog w) A (Builtin.«tuple.__le__» ⟨[.ref x,.ref y],[]⟩) P E s:=by
 have e:=f.typeIs;obtain⟨o,its,n,t,u,m,_,l,g⟩:=q.two;obtain⟨C,c,r,v,B,p,_,k,j⟩:=f.two;show Ht _ _ (NI (.ref y) (.type "tuple") >>=_) _ _ s;refine GB (JV e MP ?_);simp only[IG,G4,if_false];refine GB (Kr m l ?_);refine GB (Kr p k ?_);have sz:its.size=c.size:=by rw[<-GQ,<-GQ,g,j];rfl
 rw[g,j];refine GB ?_;simp only[Ks,NP,Mf,Nx];refine GB (GB ((MS prog w).eqBool (a:=a.1) (b:=b.1) (IC _ _ _ _) (IC _ _ _ _) ?_));by_cases d:a.1=b.1
 .rw[decide_eq_true d];simp only[IG,G4,if_false];refine GH ?_;refine GB (GB ((MS prog w).eqBool (a:=a.2) (b:=b.2) (IC _ _ _ _) (IC _ _ _ _) ?_));by_cases i:a.2=b.2
  .rw[decide_eq_true i];simp only[IG,G4,if_false];refine GH (GH ?_);have z:leP a b=true:=by unfold leP;simp;lia
   rw[z]at h;refine GH ?_;show P (.done (.ret (.bool (decide (its.size<=c.size))))) s;rw[sz,decide_eq_true (GK _)];exact h
  .rw[decide_eq_false i];simp only[Kv,if_true];have z:leP a b=decide (a.2<=b.2):=by unfold leP;rw[d];simp
   rw[z]at h;exact GB (LZ (GB (u6 (GB (GH (GH (GH (GH h))))))))
 .rw[decide_eq_false d];simp only[Kv,if_true];have z:leP a b=decide (a.1<=b.1):=by unfold leP;simp[d];rw[Int.lt_iff_le_and_ne];simp[d]
  rw[z]at h;exact GB (LZ (GB (u6 (GB (GH (GH (GH (GH h))))))))
theorem le_pts(f:A.units<KZ)(c:TK prog w s.heap [a.1,a.2] x)(d:TK prog w s.heap [b.1,b.2] y)(h:Q (.bool (leP a b)) s):
  Ht (Hr prog w) A (Iw .LtE (.ref x) (.ref y)) Q E s:=
 Lp (op:=.LtE) c.typeIs d.typeIs O7
  (Jd O7 c.typeIs PySem.F.entry_tuple_le (yz c d ⟨_,rfl,(λe=>nomatch e),h⟩) (PySem.F.args_tuple_le_2 _ _)) f
end
end ST
namespace L2
open PySem PySem.Spec PyProof.Rows
section
variable {X:Cx}{H0:Hp}{O0:List Hc}{ps:PSt}{a b c:Expr}{pos:Pos}{x y z:U}{p q:P2}{k m:Bool}
theorem len1{b:Type}{l:List b}:l.length=1->∃a,l=[a]:=JC.mp
theorem len2{c:Type}{l:List c}(h:l.length=2):∃a b,l=[a,b]:=by
 cases l with
 |nil=>cases h
 |cons a t=>
  obtain⟨b,rfl⟩:=len1 (QH h);exact⟨a,b,rfl⟩
theorem len3{d:Type}{l:List d}(h:l.length=3):∃a b c,l=[a,b,c]:=by
 cases l with
 |nil=>cases h
 |cons a t=>
  obtain⟨b,c,rfl⟩:=len2 (QH h);exact⟨a,b,c,rfl⟩
theorem CK(I:Inv X SI σ H s)(r:Rp X.K H v (pu p))(e:ba v u):∃b,u=.ref b/\ST.TK X.prog X.w s.heap [p.1,p.2] b:=by
 cases r with
 | @tup b E _ y d a=>
  cases e;refine⟨b,rfl,?_⟩;obtain⟨t,q,l,_⟩:=I.tuple y;have x:=d;obtain⟨z,k,rfl⟩:=len2 x;have f:=a 0 z _ rfl rfl;have c:=a 1 k _ rfl rfl;cases f;cases c;obtain⟨A,B,rfl,g,j⟩:=gN q;obtain⟨D,rfl⟩:=g;obtain⟨C,rfl⟩:=j;obtain⟨o,i,m,n,h⟩:=l;exact⟨o,_,n,i,m,h,.cons (IC _ _ _ _) (.cons (IC _ _ _ _) .nil)⟩
theorem qC(n:X.A.units+10<KZ):OpS X (Iw .LtE) (pu p) (pu q) (.bl (ST.leP p q)):=by
 intro l s o H v w e f Q I b d h;obtain⟨j,i,a⟩:=h;obtain⟨m,rfl,g⟩:=CK I j b;obtain⟨k,rfl,c⟩:=CK I i d;exact ST.le_pts (by lia) g c (lG I a rfl)
theorem Fp(c:Tt X H0 O0 ps cd k)(d:Ev X H0 O0 ps a x)(e:Ev X H0 O0 ps b y):Ev X H0 O0 ps (.IfExp cd a b pos) (if k=true then x else y):=by
 cases k with
 |true=>exact Cr c (λ_=>d) (λh=>nomatch h)
 |false=>exact Cr c (λh=>nomatch h) (λ_=>e)
theorem Bt(o:OpS X (Iw op) x y (.bl k))(p:OpS X (Iw op') y z (.bl m))(i:Ev X H0 O0 ps a x)(n:Ev X H0 O0 ps b y)(s:Ev X H0 O0 ps c z)
  (hm:lastMarks [op,op'] [b,c]=false:=by with_unfolding_all rfl):Ev X H0 O0 ps (.Compare a [op,op'] [b,c] pos) (.bl (k && m)):=
 PE.mono (yl o p i n s hm) λA H Q ⟨O,R,q⟩=>⟨O,R,λu w e j=>⟨O,R.go e,λt l d f=>⟨(j.same (aM d)).out,f.out,k,rfl,by
  cases k with
  |false=>exact oD (q _ l (e.trans d) (.bl _))
  |true=>exact oF ⟨O,(R.go e).go d,λv h g r=>⟨(f.same (aM g)).out,r.out,q _ h ((e.trans d).trans g) (.bl _)⟩⟩⟩⟩⟩
end
section
variable {X:Cx}{p q:P2}{l:List P2}
theorem jD(I:Inv X SI σ H s)(r:Rp X.K H v (pu p))(e:ba v u):∃b,u=.ref b/\∀a w,ST.TK a w s.heap [p.1,p.2] b:=by
 cases r with
 | @tup b F _ z f c=>
  cases e;refine⟨b,rfl,λa w=>?_⟩;obtain⟨x,t,m,_⟩:=I.tuple z;have y:=f;obtain⟨A,l,rfl⟩:=len2 y;have g:=c 0 A _ rfl rfl;have d:=c 1 l _ rfl rfl;cases g;cases d;obtain⟨B,C,rfl,h,k⟩:=gN t;obtain⟨E,rfl⟩:=h;obtain⟨D,rfl⟩:=k;obtain⟨o,j,q,n,i⟩:=m;exact⟨o,_,n,j,q,i,.cons (IC _ _ _ _) (.cons (IC _ _ _ _) .nil)⟩
end
end L2
namespace ST
open PySem
def vH(prog:GX)(w:HF)(A:HM)(op:Sm)(G:Jx->Prop)(P:Nat->GM->Prop)(bt:Nat->Nat->Bool):Prop:=
 ∀i j b a (s:GP) (Q:GM->GP->Prop) (E:GM->GP->Prop),G s.heap->P i b->P j a->Q (.bool (bt i j)) s->Ht (Hr prog w) A (Nd op b a) Q E s
variable {prog:GX}{w:HF}{R:RI→GP→Prop}{P:Nat→GM→Prop}
section
variable {A:HM}{I S:Hc}{fp wr:List Hc}{n:Nat}{St:Nat→Jx→Prop}{G:Jx→Prop}{bt:Nat→Nat→Bool}
theorem vW(W:Walks prog w A.in1 I fp wr n P St)(O:vH prog w A.in1 .Lt G P bt)(f:∀h a,G h->(∀b o,b ∉ wr->b≠S->h.get? b=some o->a.get? b=some o)->G a)(L:S ∉ fp):
  ∀k j s vb c,n-(j+1)=k→j+1≤n→G s.heap→St (j+1) s.heap→P (IR bt j) vb→s.heap.get? S=some {cls:=.type "list",dict:=none,data:=.seq #[vb,vb] c,slots:=#[] }→
  (∀v a q,P (IR bt (n-1)) v->(∀b o,b ∉ wr->b≠S->s.heap.get? b=some o->a.get? b=some o)->R (.ok (.ret v)) {s with heap:=a,toks:=q })->
  Me (Hr prog w) A (.builtin "min.loop" ⟨[.ref I,.none,.ref S],[]⟩) R s:=by
 have K:S ∉ wr:=λh=>L (W.sub _ h);have nm:(Mn "min"++Mn ".loop":String)="min.loop":=by decide
 intro k
 induction k with
 |zero=>
  intro j s vb c M Q g t p m r;obtain rfl:j+1=n:=by lia
  refine IM Mu ?_;rw[IA IX _];show Ht _ A.in1 (NK (.ref S) >>=_) _ _ s;refine GB (JL m rfl ?_);show Ht _ A.in1 (N5 (Px (.ref I)) _ >>=_) _ _ s;refine GB (Kx (W.done s _ _ t λa q i=>?_));show Ht _ A.in1 (Rb S (λ_=>#[]) >>=_) _ _ _;refine GB (Ju (i S _ K m) rfl (GB (Lo (GH ?_))));exact r vb _ q p λb o d l e=>(HH _ _ (Ne.symm l)).trans (i b o d e)
 |succ k F=>
  intro j s vb c M Q g t p m r;refine IM Mu ?_;rw[IA IX _];show Ht _ A.in1 (NK (.ref S) >>=_) _ _ s;refine GB (JL m rfl ?_);show Ht _ A.in1 (N5 (Px (.ref I)) _ >>=_) _ _ s;refine GB (Kx (W.item (j+1) s _ _ (by lia) t λv a q J H i=>?_));have D:G a:=f _ _ g λb o d _ e=>i b o d e;have u:=i S _ K m;show Ht _ A.in1 (N5 (Q5 [v,v] (Nd .Lt v vb >>=_)) _ >>=_) _ _ _;refine GB (Kx (Iz (GB (O (j+1) (IR bt j) v vb _ _ _ D J p ?_))));refine GB (Iz (IT (GB (Lo (GH ?_)))));by_cases l:bt (j+1) (IR bt j)=true
  .rw[if_pos l];refine GB (Ju u rfl (GB (Lo ?_)));rw[nm];have z:∀b o,b≠S->a.get? b=some o->(a.update S (JE λ_=>#[v,v])).get? b=some o:=λb o h e=>(HH _ _ (Ne.symm h)).trans e;refine GH ⟨Jc IX _,F (j+1) _ v _ (by lia) (by lia) (f _ _ D λb o _ h e=>z b o h e) (W.frame _ _ _ H λb N o e=>z b o (λh=>L (h ▸ N)) e) (by rw[IR,if_pos l];exact J) (Ij _ u rfl) λx B C y E=>?_⟩;exact r x B C y λb o d h e=>E b o d h (z b o h (i b o d e))
  .rw[if_neg l];refine GB (Lo ?_);rw[nm];refine GH ⟨Jc IX _,F (j+1) _ vb c (by lia) (by lia) D H (by rw[IR,if_neg l];exact p) u λx B C y E=>?_⟩;exact r x B C y λb o d h e=>E b o d h (i b o d e)
theorem s_(W:Walks prog w A.in1 I fp wr n P St)(E:vH prog w A.in1 .Lt G P bt)(d:∀h a,G h->(∀b o,b ∉ wr->b≠S->h.get? b=some o->a.get? b=some o)->G a)(k:S ∉ fp)(p:0<n)(g:G s.heap)(r:St 0 s.heap)
  (hS:s.heap.get? S=some {cls:=.type "list",dict:=none,data:=.seq #[] c,slots:=#[] })
  (hR:∀v a m,P (IR bt (n-1)) v->(∀b o,b ∉ wr->b≠S->s.heap.get? b=some o->a.get? b=some o)->R (.ok (.ret v)) {s with heap:=a,toks:=m }):
  Me (Hr prog w) A (.builtin "min.loop" ⟨[.ref I,.none,.ref S],[]⟩) R s:=by
 have C:S ∉ wr:=λh=>k (W.sub _ h);have nm:(Mn "min"++Mn ".loop":String)="min.loop":=by decide
 refine IM Mu ?_;rw[IA IX _];show Ht _ A.in1 (NK (.ref S) >>=_) _ _ s;refine GB (JL hS rfl ?_);show Ht _ A.in1 (N5 (Px (.ref I)) _ >>=_) _ _ s;refine GB (Kx (W.item 0 s _ _ p r λv a m B y j=>?_));have l:=j S _ C hS;show Ht _ A.in1 (Rb S (λ_=>#[v,v]) >>=_) _ _ _;refine GB (Ju l rfl ?_);rw[nm];have i:∀b o,b≠S->a.get? b=some o->(a.update S (JE λ_=>#[v,v])).get? b=some o:=λb o h e=>(HH _ _ (Ne.symm h)).trans e;refine GH ⟨Jc IX _,vW W E d k _ 0 _ v _ rfl p (d _ _ g λb o f h e=>i b o h (j b o f e)) (W.frame _ _ _ y λb x o e=>i b o (λh=>k (h ▸ x)) e) B (Ij _ l rfl) λq u z t D=>?_⟩;exact hR q u z t λb o f h e=>D b o f h (i b o h (j b o f e))
end
variable {E:GM→GP→Prop}
section
variable {A:HM}{s:GP}
theorem call_minG(x:A.handled=none)(f:s.heap.IsList l items)(D:0<items.size)(I:vH prog w A.in1 .Lt G (λi v=>items[i]?=some v) bt)
  (g:G s.heap) (stay:∀h a,G h->(∀b o,s.heap.get? b=some o->h.get? b=some o)->(∀b o,s.heap.get? b=some o->a.get? b=some o)->G a)
  (hQ:∀v a m,items[IR bt (items.size-1)]?=some v->(∀b o,s.heap.get? b=some o->a.get? b=some o)->Q v {s with heap:=a,toks:=m }):
  Ht (Hr prog w) A (call (.builtin "min") [.ref l]) Q E s:=by
 have nm:(Mn "min"++Mn ".loop":String)="min.loop":=by decide
 refine Qa PySem.F.kind_min PySem.F.plain_min PySem.F.entry_min (PySem.F.args_min1 _) ?_;show Ht _ A.in1 (Builtin.Builtins.bindParams "min" ["key","default"] 0 ⟨[],[]⟩ >>=_) _ _ s;refine GB (PN (show Builtin.Builtins.bindParams "min" ["key","default"] 0 ⟨[],[]⟩=pure [none,none] from rfl) ?_);refine GB (GH ?_);refine GB (JD f ?_);have d:l<s.heap.objs.size:=by obtain⟨o,e,_⟩:=f;exact GS e
 refine GB (J5 ?_);rw[nm];have W:=Walks.list (prog:=prog) (w:=w) (A:=A.in1) x s.heap.objs.size l (Hn d) items;have n:∀b o,s.heap.get? b=some o→((s.heap.push {cls:=.type "list_iterator",data:=.fields #[.ref l,.int 0 0] }).push {cls:=.type "list",data:=.seq #[] }).get? b=some o:=λb o e=>GI _ (GI _ e);have q:(s.heap.push {cls:=.type "list_iterator",data:=.fields #[.ref l,.int 0 0] }).objs.size=s.heap.objs.size+1:=Jr ..
 have lt:∀b o,s.heap.get? b=some o→b ∉ [s.heap.objs.size]∧b≠(s.heap.push {cls:=.type "list_iterator",data:=.fields #[.ref l,.int 0 0] }).objs.size:=λb o e=>by
  have h:=GS e;refine⟨λz=>?_,λz=>?_⟩
  .rw[GL.mp z]at h;exact Hw _ h
  .rw[z,q]at h;exact Hw _ (J_ h)
 refine GH ⟨Jc IX _,s_ (G:=λh=>G h/\∀b o,s.heap.get? b=some o->h.get? b=some o) W (λi j y t u H C c=>I i j y t u H C c.1) (λh a c k=>?_) ?_ D ⟨stay _ _ g (λ_ _ e=>e) n,n⟩ ⟨⟨_,GI _ (GZ _ rfl),rfl,rfl⟩,(f.push _).push _⟩ (GZ _ rfl) λv a m B k=>?_⟩
 .have r:∀b o,s.heap.get? b=some o->a.get? b=some o:=λb o e=>k b o (lt b o e).1 (lt b o e).2 (c.2 b o e);exact⟨stay _ _ c.1 c.2 r,r⟩
 .intro z;have p:(s.heap.push {cls:=.type "list_iterator",data:=.fields #[.ref l,.int 0 0] }).objs.size∈[s.heap.objs.size,l]:=z;rw[q]at p;rcases GF.mp p with z |z
  .exact absurd z (QQ _)
  .have e:=GL.mp z;rw[<-e]at d;exact absurd d (QR (Il _))
 .exact hQ v a m B λb o e=>k b o (lt b o e).1 (lt b o e).2 (n b o e)
end
section
variable {A:HM}{I S:Hc}{fp wr:List Hc}{n:Nat}{St:Nat→Jx→Prop}{G:Jx→Prop}{bt:Nat→Nat→Bool}
theorem wO(W:Walks prog w A.in1 I fp wr n P St)(O:vH prog w A.in1 .Gt G P bt)(f:∀h a,G h->(∀b o,b ∉ wr->b≠S->h.get? b=some o->a.get? b=some o)->G a)(L:S ∉ fp):
  ∀k j s vb c,n-(j+1)=k→j+1≤n→G s.heap→St (j+1) s.heap→P (IR bt j) vb→s.heap.get? S=some {cls:=.type "list",dict:=none,data:=.seq #[vb,vb] c,slots:=#[] }→
  (∀v a q,P (IR bt (n-1)) v->(∀b o,b ∉ wr->b≠S->s.heap.get? b=some o->a.get? b=some o)->R (.ok (.ret v)) {s with heap:=a,toks:=q })->
  Me (Hr prog w) A (.builtin "max.loop" ⟨[.ref I,.none,.ref S],[]⟩) R s:=by
 have K:S ∉ wr:=λh=>L (W.sub _ h);have nm:(Mn "max"++Mn ".loop":String)="max.loop":=by decide
 intro k
 induction k with
 |zero=>
  intro j s vb c M Q g t p m r;obtain rfl:j+1=n:=by lia
  refine IM Mw ?_;rw[IA IY _];show Ht _ A.in1 (NK (.ref S) >>=_) _ _ s;refine GB (JL m rfl ?_);show Ht _ A.in1 (N5 (Px (.ref I)) _ >>=_) _ _ s;refine GB (Kx (W.done s _ _ t λa q i=>?_));show Ht _ A.in1 (Rb S (λ_=>#[]) >>=_) _ _ _;refine GB (Ju (i S _ K m) rfl (GB (Lo (GH ?_))));exact r vb _ q p λb o d l e=>(HH _ _ (Ne.symm l)).trans (i b o d e)
 |succ k F=>
  intro j s vb c M Q g t p m r;refine IM Mw ?_;rw[IA IY _];show Ht _ A.in1 (NK (.ref S) >>=_) _ _ s;refine GB (JL m rfl ?_);show Ht _ A.in1 (N5 (Px (.ref I)) _ >>=_) _ _ s;refine GB (Kx (W.item (j+1) s _ _ (by lia) t λv a q J H i=>?_));have D:G a:=f _ _ g λb o d _ e=>i b o d e;have u:=i S _ K m;show Ht _ A.in1 (N5 (Q5 [v,v] (Nd .Gt v vb >>=_)) _ >>=_) _ _ _;refine GB (Kx (Iz (GB (O (j+1) (IR bt j) v vb _ _ _ D J p ?_))));refine GB (Iz (IT (GB (Lo (GH ?_)))));by_cases l:bt (j+1) (IR bt j)=true
  .rw[if_pos l];refine GB (Ju u rfl (GB (Lo ?_)));rw[nm];have z:∀b o,b≠S->a.get? b=some o->(a.update S (JE λ_=>#[v,v])).get? b=some o:=λb o h e=>(HH _ _ (Ne.symm h)).trans e;refine GH ⟨Jc IY _,F (j+1) _ v _ (by lia) (by lia) (f _ _ D λb o _ h e=>z b o h e) (W.frame _ _ _ H λb N o e=>z b o (λh=>L (h ▸ N)) e) (by rw[IR,if_pos l];exact J) (Ij _ u rfl) λx B C y E=>?_⟩;exact r x B C y λb o d h e=>E b o d h (z b o h (i b o d e))
  .rw[if_neg l];refine GB (Lo ?_);rw[nm];refine GH ⟨Jc IY _,F (j+1) _ vb c (by lia) (by lia) D H (by rw[IR,if_neg l];exact p) u λx B C y E=>?_⟩;exact r x B C y λb o d h e=>E b o d h (i b o d e)
theorem tJ(W:Walks prog w A.in1 I fp wr n P St)(E:vH prog w A.in1 .Gt G P bt)(d:∀h a,G h->(∀b o,b ∉ wr->b≠S->h.get? b=some o->a.get? b=some o)->G a)(k:S ∉ fp)(p:0<n)(g:G s.heap)(r:St 0 s.heap)
  (hS:s.heap.get? S=some {cls:=.type "list",dict:=none,data:=.seq #[] c,slots:=#[] })
  (hR:∀v a m,P (IR bt (n-1)) v->(∀b o,b ∉ wr->b≠S->s.heap.get? b=some o->a.get? b=some o)->R (.ok (.ret v)) {s with heap:=a,toks:=m }):
  Me (Hr prog w) A (.builtin "max.loop" ⟨[.ref I,.none,.ref S],[]⟩) R s:=by
 have C:S ∉ wr:=λh=>k (W.sub _ h);have nm:(Mn "max"++Mn ".loop":String)="max.loop":=by decide
 refine IM Mw ?_;rw[IA IY _];show Ht _ A.in1 (NK (.ref S) >>=_) _ _ s;refine GB (JL hS rfl ?_);show Ht _ A.in1 (N5 (Px (.ref I)) _ >>=_) _ _ s;refine GB (Kx (W.item 0 s _ _ p r λv a m B y j=>?_));have l:=j S _ C hS;show Ht _ A.in1 (Rb S (λ_=>#[v,v]) >>=_) _ _ _;refine GB (Ju l rfl ?_);rw[nm];have i:∀b o,b≠S->a.get? b=some o->(a.update S (JE λ_=>#[v,v])).get? b=some o:=λb o h e=>(HH _ _ (Ne.symm h)).trans e;refine GH ⟨Jc IY _,wO W E d k _ 0 _ v _ rfl p (d _ _ g λb o f h e=>i b o h (j b o f e)) (W.frame _ _ _ y λb x o e=>i b o (λh=>k (h ▸ x)) e) B (Ij _ l rfl) λq u z t D=>?_⟩;exact hR q u z t λb o f h e=>D b o f h (i b o h (j b o f e))
end
section
variable {A:HM}{s:GP}
theorem call_maxG(x:A.handled=none)(f:s.heap.IsList l items)(D:0<items.size)(I:vH prog w A.in1 .Gt G (λi v=>items[i]?=some v) bt)
  (g:G s.heap) (stay:∀h a,G h->(∀b o,s.heap.get? b=some o->h.get? b=some o)->(∀b o,s.heap.get? b=some o->a.get? b=some o)->G a)
  (hQ:∀v a m,items[IR bt (items.size-1)]?=some v->(∀b o,s.heap.get? b=some o->a.get? b=some o)->Q v {s with heap:=a,toks:=m }):
  Ht (Hr prog w) A (call (.builtin "max") [.ref l]) Q E s:=by
 have nm:(Mn "max"++Mn ".loop":String)="max.loop":=by decide
 refine Qa PySem.F.kind_max PySem.F.plain_max PySem.F.entry_max (PySem.F.args_max1 _) ?_;show Ht _ A.in1 (Builtin.Builtins.bindParams "max" ["key","default"] 0 ⟨[],[]⟩ >>=_) _ _ s;refine GB (PN (show Builtin.Builtins.bindParams "max" ["key","default"] 0 ⟨[],[]⟩=pure [none,none] from rfl) ?_);refine GB (GH ?_);refine GB (JD f ?_);have d:l<s.heap.objs.size:=by obtain⟨o,e,_⟩:=f;exact GS e
 refine GB (J5 ?_);rw[nm];have W:=Walks.list (prog:=prog) (w:=w) (A:=A.in1) x s.heap.objs.size l (Hn d) items;have n:∀b o,s.heap.get? b=some o→((s.heap.push {cls:=.type "list_iterator",data:=.fields #[.ref l,.int 0 0] }).push {cls:=.type "list",data:=.seq #[] }).get? b=some o:=λb o e=>GI _ (GI _ e);have q:(s.heap.push {cls:=.type "list_iterator",data:=.fields #[.ref l,.int 0 0] }).objs.size=s.heap.objs.size+1:=Jr ..
 have lt:∀b o,s.heap.get? b=some o→b ∉ [s.heap.objs.size]∧b≠(s.heap.push {cls:=.type "list_iterator",data:=.fields #[.ref l,.int 0 0] }).objs.size:=λb o e=>by
  have h:=GS e;refine⟨λz=>?_,λz=>?_⟩
  .rw[GL.mp z]at h;exact Hw _ h
  .rw[z,q]at h;exact Hw _ (J_ h)
 refine GH ⟨Jc IY _,tJ (G:=λh=>G h/\∀b o,s.heap.get? b=some o->h.get? b=some o) W (λi j y t u H C c=>I i j y t u H C c.1) (λh a c k=>?_) ?_ D ⟨stay _ _ g (λ_ _ e=>e) n,n⟩ ⟨⟨_,GI _ (GZ _ rfl),rfl,rfl⟩,(f.push _).push _⟩ (GZ _ rfl) λv a m B k=>?_⟩
 .have r:∀b o,s.heap.get? b=some o->a.get? b=some o:=λb o e=>k b o (lt b o e).1 (lt b o e).2 (c.2 b o e);exact⟨stay _ _ c.1 c.2 r,r⟩
 .intro z;have p:(s.heap.push {cls:=.type "list_iterator",data:=.fields #[.ref l,.int 0 0] }).objs.size∈[s.heap.objs.size,l]:=z;rw[q]at p;rcases GF.mp p with z |z
  .exact absurd z (QQ _)
  .have e:=GL.mp z;rw[<-e]at d;exact absurd d (QR (Il _))
 .exact hQ v a m B λb o e=>k b o (lt b o e).1 (lt b o e).2 (n b o e)
end
end ST
namespace ST
open PySem PyProof.Rows
section
variable {prog:GX}{w:HF}{A:HM}{E:GM→GP→Prop}{s:GP}
theorem uP(h:Q (.bool (decide (x<y))) s):Ht (Hr prog w) A (Nd .Lt (.int x t) (.int y u)) Q E s:=
 NO (L8 s _ t) (L8 s _ u) PySem.F.slot_int_lt PySem.F.entry_int_lt (PySem.F.args_int_lt_2 _ _) (gives_int_lt _ _ t u) (λx=>nomatch x) h
theorem yF(q:TK prog w s.heap [a.1,a.2] x)(f:TK prog w s.heap [b.1,b.2] y)(h:P (.done (.ret (.bool (ltP a b)))) s):
  Ht (Hr prog w) A (Builtin.«tuple.__lt__» ⟨[.ref x,.ref y],[]⟩) P E s:=by
 have e:=f.typeIs;obtain⟨o,its,n,t,u,m,_,l,g⟩:=q.two;obtain⟨C,c,r,v,B,p,_,k,j⟩:=f.two;show Ht _ _ (NI (.ref y) (.type "tuple") >>=_) _ _ s;refine GB (JV e MP ?_);simp only[IG,G4,if_false];refine GB (Kr m l ?_);refine GB (Kr p k ?_);have sz:its.size=c.size:=by rw[<-GQ,<-GQ,g,j];rfl
 rw[g,j];refine GB ?_;simp only[Ks,NP,Mf,Nx];refine GB (GB ((MS prog w).eqBool (a:=a.1) (b:=b.1) (IC _ _ _ _) (IC _ _ _ _) ?_));by_cases d:a.1=b.1
 .rw[decide_eq_true d];simp only[IG,G4,if_false];refine GH ?_;refine GB (GB ((MS prog w).eqBool (a:=a.2) (b:=b.2) (IC _ _ _ _) (IC _ _ _ _) ?_));by_cases i:a.2=b.2
  .rw[decide_eq_true i];simp only[IG,G4,if_false];refine GH (GH ?_);have z:ltP a b=false:=by unfold ltP;simp;lia
   rw[z]at h;refine GH ?_;show P (.done (.ret (.bool (decide (its.size<c.size))))) s;rw[sz,decide_eq_false (Hw _)];exact h
  .rw[decide_eq_false i];simp only[Kv,if_true];have z:ltP a b=decide (a.2<b.2):=by unfold ltP;rw[d];simp
   rw[z]at h;exact GB (LZ (GB (uP (GB (GH (GH (GH (GH h))))))))
 .rw[decide_eq_false d];simp only[Kv,if_true];have z:ltP a b=decide (a.1<b.1):=by unfold ltP;simp[d]
  rw[z]at h;exact GB (LZ (GB (uP (GB (GH (GH (GH (GH h))))))))
theorem lt_ptsR(f:A.units<KZ)(c:TK prog w s.heap [a.1,a.2] x)(d:TK prog w s.heap [b.1,b.2] y)(h:Q (.bool (ltP a b)) s):
  Ht (Hr prog w) A (Iw .Lt (.ref x) (.ref y)) Q E s:=
 Lp (op:=.Lt) c.typeIs d.typeIs O8
  (Jd O8 c.typeIs PySem.F.entry_tuple_lt (yF c d ⟨_,rfl,(λe=>nomatch e),h⟩) (PySem.F.args_tuple_lt_2 _ _)) f
theorem uX(h:Q (.bool (decide (y<x))) s):Ht (Hr prog w) A (Nd .Gt (.int x t) (.int y u)) Q E s:=
 NO (op:=.Gt) (L8 s _ t) (L8 s _ u) PySem.F.slot_int_gt PySem.F.entry_int_gt (PySem.F.args_int_gt_2 _ _) (gives_int_gt _ _ t u) (λx=>nomatch x) h
theorem zf(q:TK prog w s.heap [a.1,a.2] x)(f:TK prog w s.heap [b.1,b.2] y)(h:P (.done (.ret (.bool (ltP b a)))) s):
  Ht (Hr prog w) A (Builtin.«tuple.__gt__» ⟨[.ref x,.ref y],[]⟩) P E s:=by
 have e:=f.typeIs;obtain⟨o,its,n,t,u,m,_,l,g⟩:=q.two;obtain⟨C,c,r,v,B,p,_,k,j⟩:=f.two;show Ht _ _ (NI (.ref y) (.type "tuple") >>=_) _ _ s;refine GB (JV e MP ?_);simp only[IG,G4,if_false];refine GB (Kr m l ?_);refine GB (Kr p k ?_);have sz:its.size=c.size:=by rw[<-GQ,<-GQ,g,j];rfl
 rw[g,j];refine GB ?_;simp only[Ks,NP,Mf,Nx];refine GB (GB ((MS prog w).eqBool (a:=a.1) (b:=b.1) (IC _ _ _ _) (IC _ _ _ _) ?_));by_cases d:a.1=b.1
 .rw[decide_eq_true d];simp only[IG,G4,if_false];refine GH ?_;refine GB (GB ((MS prog w).eqBool (a:=a.2) (b:=b.2) (IC _ _ _ _) (IC _ _ _ _) ?_));by_cases i:a.2=b.2
  .rw[decide_eq_true i];simp only[IG,G4,if_false];refine GH (GH ?_);have z:ltP b a=false:=by unfold ltP;simp;omega
   rw[z]at h;refine GH ?_;show P (.done (.ret (.bool (decide (its.size >c.size))))) s;rw[sz,decide_eq_false (Hw _)];exact h
  .rw[decide_eq_false i];simp only[Kv,if_true];have z:ltP b a=decide (b.2<a.2):=by unfold ltP;rw[d];simp
   rw[z]at h;exact GB (LZ (GB (uX (GB (GH (GH (GH (GH h))))))))
 .rw[decide_eq_false d];simp only[Kv,if_true];have z:ltP b a=decide (b.1<a.1):=by unfold ltP;simp[Ne.symm d]
  rw[z]at h;exact GB (LZ (GB (uX (GB (GH (GH (GH (GH h))))))))
theorem gt_ptsR(f:A.units<KZ)(c:TK prog w s.heap [a.1,a.2] x)(d:TK prog w s.heap [b.1,b.2] y)(h:Q (.bool (ltP b a)) s):
  Ht (Hr prog w) A (Iw .Gt (.ref x) (.ref y)) Q E s:=
 Lp (op:=.Gt) c.typeIs d.typeIs O9
  (Jd O9 c.typeIs PySem.F.entry_tuple_gt (zf c d ⟨_,rfl,(λe=>nomatch e),h⟩) (PySem.F.args_tuple_gt_2 _ _)) f
end
theorem ux:ltP a b=true↔(a.1<b.1\/(a.1=b.1/\a.2<b.2)):=by unfold ltP;exact decide_eq_true_iff
theorem ltP_no:ltP a b=false↔¬ (a.1<b.1\/(a.1=b.1/\a.2<b.2)):=by unfold ltP;exact decide_eq_false_iff_not
theorem ltP_one(d:ltP a b=false)(c:ltP b a=false):a=b:=by
 rw[ltP_no]at d c;obtain⟨g,e⟩:=a;obtain⟨f,h⟩:=b;simp only[N6]at *;lia
theorem best_min(f:Nat->Int×Int):∀k,IR (λi j=>ltP (f i) (f j)) k<=k/\∀j,j<=k->ltP (f j) (f (IR (λi j=>ltP (f i) (f j)) k))=false
 |0=>⟨GK _,λj c=>by
  obtain rfl:j=0:=by lia
  rw[ltP_no];simp[IR]⟩
 |k+1=>by
  obtain⟨d,b⟩:=best_min f k;by_cases a:ltP (f (k+1)) (f (IR (λi j=>ltP (f i) (f j)) k))=true
  .rw[IR,if_pos a];refine⟨GK _,λj c=>?_⟩;rw[ux]at a;rcases IU j (k+1) with z |z
   .have:=ltP_no.mp (b j (by lia));rw[ltP_no];lia
   .obtain rfl:j=k+1:=by lia
    rw[ltP_no];lia
  .rw[IR,if_neg a];refine⟨by lia,λj c=>?_⟩;rcases IU j (k+1) with z |z
   .exact b j (by lia)
   .obtain rfl:j=k+1:=by lia
    simpa using a
theorem best_max(f:Nat->Int×Int):∀k,IR (λi j=>ltP (f j) (f i)) k<=k/\∀j,j<=k->ltP (f (IR (λi j=>ltP (f j) (f i)) k)) (f j)=false
 |0=>⟨GK _,λj c=>by
  obtain rfl:j=0:=by lia
  rw[ltP_no];simp[IR]⟩
 |k+1=>by
  obtain⟨d,b⟩:=best_max f k;by_cases a:ltP (f (IR (λi j=>ltP (f j) (f i)) k)) (f (k+1))=true
  .rw[IR,if_pos a];refine⟨GK _,λj c=>?_⟩;rw[ux]at a;rcases IU j (k+1) with z |z
   .have:=ltP_no.mp (b j (by lia));rw[ltP_no];lia
   .obtain rfl:j=k+1:=by lia
    rw[ltP_no];lia
  .rw[IR,if_neg a];refine⟨by lia,λj c=>?_⟩;rcases IU j (k+1) with z |z
   .exact b j (by lia)
   .obtain rfl:j=k+1:=by lia
    simpa using a
end ST
namespace L2
open PySem PySem.Spec PyProof.Rows
variable {pos:Pos}
section
variable {X:Cx}{pts:List P2}{M:P2}
theorem xC(I:Inv X SI σ H s)(e:aZ ws its)(h:Rps X.K H ws (pts.map pu))(i)(y)(k:its.toArray[i]?=some y):
  i<pts.length/\∃c,y=.ref c/\ws[i]?=some (.ref c)/\∀a w,ST.TK a w s.heap [(pts.getD i (0,0)).1,(pts.getD i (0,0)).2] c:=by
 have f:its[i]?=some y:=by simpa using k
 have m:ws.length=pts.length:=by rw[h.len,GD]
 have l:i<its.length:=aH f;have b:i<ws.length:=by rw[e.length];exact l
 have d:i<pts.length:=by lia
 obtain⟨u,g,j⟩:=e.get (GC b);rw[f]at g;cases g;have r:=h.at_ i _ (pu (pts.getD i (0,0))) (GC b) (by rw[GN,GC d];simp[d])
 obtain⟨c,rfl,t⟩:=jD I r j;refine⟨d,c,rfl,?_,t⟩;rw[GC b];generalize ws[i]=z at *;cases r;cases j;rfl
theorem Co(a:g<pts.length):(pts.map pu)[g]?=some (pu (pts.getD g (0,0))):=by
 rw[GN,GC a];simp[a]
theorem Ew(hc:X.calm=true)(hu:X.A.units+10<KZ)(C:M∈pts)(P:∀q∈pts,ST.ltP q M=false):eA X (.builtin "min") [lp pts] (pu M):=by
 intro SI s σ H vs us Q I r p;obtain⟨O,d,rs,q⟩:=p;obtain⟨v,rfl,V⟩:=cq rs;obtain⟨p1,rfl,S⟩:=dR r;cases V with
 | @lst a N _ p x Z=>
  cases S;obtain⟨its,u,J,_⟩:=I.list (SqL.of (aC _ _ p));have F:Rps X.K (hid H O) N (pts.map pu):=⟨x,Z⟩;have D:its.toArray.size=pts.length:=by rw[G5,<-u.length,x,GD]
  have m:=xC (pts:=pts) I u (F.same aC);have hn:0<pts.length:=Iy C;refine ST.call_minG (G:=λh=>∀(i:Nat) (y:GM),its.toArray[i]?=some y->∃c,y=.ref c/\ST.TK X.prog X.w h [(pts.getD i (0,0)).1,(pts.getD i (0,0)).2] c) (bt:=λi j=>ST.ltP (pts.getD i (0,0)) (pts.getD j (0,0))) (I.ok.hd hc) J.isList (by rw[D];exact hn) (λi j vi T s' Q' E' g U f k=>?_) (λi y b=>?_) (λh L _ _ k2 i y b=>?_) λy L tk b W=>?_
  .obtain⟨c,rfl,t⟩:=g i vi U;obtain⟨c',rfl,t'⟩:=g j T f;exact ST.lt_ptsR (show X.A.units+1<KZ by lia) t t' k
  .obtain⟨_,c,rfl,_,t⟩:=m i y b;exact⟨c,rfl,t _ _⟩
  .obtain⟨_,c,rfl,_,t⟩:=m i y b;obtain⟨o,items,n,Y,z⟩:=t X.prog X.w;exact⟨c,rfl,o,items,n,k2 c o Y,z⟩
  .obtain⟨l,c,rfl,R,t⟩:=m _ y b;obtain⟨b1,B⟩:=ST.best_min (λi=>pts.getD i (0,0)) (its.toArray.size-1)
   have e:pts.getD (IR (λi j=>ST.ltP (pts.getD i (0,0)) (pts.getD j (0,0))) (its.toArray.size-1)) (0,0)=M:=by
    rw[D]at b1 B l |-;generalize IR (λi j=>ST.ltP (pts.getD i (0,0)) (pts.getD j (0,0))) (pts.length-1)=g at *
    obtain⟨j,f⟩:=IE.mp C;have E:=B j (by have:=aH f;lia);rw[show pts.getD j (0,0)=M by rw[G7,f];rfl]at E
    exact ST.ltP_one (P _ (by simp[l])) E
   refine⟨.ref c,H,I.kept (t':=tk) W,rfl,q _ H (.refl H) ?_⟩;have z:=F.at_ _ _ _ R (Co l);rw[e]at z;exact z
theorem Da(hc:X.calm=true)(hu:X.A.units+10<KZ)(C:M∈pts)(P:∀q∈pts,ST.ltP M q=false):eA X (.builtin "max") [lp pts] (pu M):=by
 intro SI s σ H vs us Q I r p;obtain⟨O,d,rs,q⟩:=p;obtain⟨v,rfl,V⟩:=cq rs;obtain⟨p1,rfl,S⟩:=dR r;cases V with
 | @lst a N _ p x Z=>
  cases S;obtain⟨its,u,J,_⟩:=I.list (SqL.of (aC _ _ p));have F:Rps X.K (hid H O) N (pts.map pu):=⟨x,Z⟩;have D:its.toArray.size=pts.length:=by rw[G5,<-u.length,x,GD]
  have m:=xC (pts:=pts) I u (F.same aC);have hn:0<pts.length:=Iy C;refine ST.call_maxG (G:=λh=>∀(i:Nat) (y:GM),its.toArray[i]?=some y->∃c,y=.ref c/\ST.TK X.prog X.w h [(pts.getD i (0,0)).1,(pts.getD i (0,0)).2] c) (bt:=λi j=>ST.ltP (pts.getD j (0,0)) (pts.getD i (0,0))) (I.ok.hd hc) J.isList (by rw[D];exact hn) (λi j vi T s' Q' E' g U f k=>?_) (λi y b=>?_) (λh L _ _ k2 i y b=>?_) λy L tk b W=>?_
  .obtain⟨c,rfl,t⟩:=g i vi U;obtain⟨c',rfl,t'⟩:=g j T f;exact ST.gt_ptsR (show X.A.units+1<KZ by lia) t t' k
  .obtain⟨_,c,rfl,_,t⟩:=m i y b;exact⟨c,rfl,t _ _⟩
  .obtain⟨_,c,rfl,_,t⟩:=m i y b;obtain⟨o,items,n,Y,z⟩:=t X.prog X.w;exact⟨c,rfl,o,items,n,k2 c o Y,z⟩
  .obtain⟨l,c,rfl,R,t⟩:=m _ y b;obtain⟨b1,B⟩:=ST.best_max (λi=>pts.getD i (0,0)) (its.toArray.size-1)
   have e:pts.getD (IR (λi j=>ST.ltP (pts.getD j (0,0)) (pts.getD i (0,0))) (its.toArray.size-1)) (0,0)=M:=by
    rw[D]at b1 B l |-;generalize IR (λi j=>ST.ltP (pts.getD j (0,0)) (pts.getD i (0,0))) (pts.length-1)=g at *
    obtain⟨j,f⟩:=IE.mp C;have E:=B j (by have:=aH f;lia);rw[show pts.getD j (0,0)=M by rw[G7,f];rfl]at E
    exact ST.ltP_one E (P _ (by simp[l]))
   refine⟨.ref c,H,I.kept (t':=tk) W,rfl,q _ H (.refl H) ?_⟩;have z:=F.at_ _ _ _ R (Co l);rw[e]at z;exact z
variable {H0:Hp}{O0:List Hc}{ps:PSt}{x:Str}{a b:Expr}{i j:Int}
theorem Cj(a:Gl X x)(h:∃t,X.mg x=some (.int i t))(c:autoParam ((x==("__debug__":Str))=false) v0):Ev X H0 O0 ps (.Name x pos) (.int i):=by
 obtain⟨t,b⟩:=h;exact PE.mono (ur (v:=.int i) a b ⟨t,rfl⟩ c) λ_ H _ ⟨_,_,k⟩=>k _ H (.refl H) (.int i)
end
theorem Rps.rep{K:GE}(r:Rps K H vs xs):∀k,Rps K H (HJ k vs).flatten (HJ k xs).flatten
 |0=>.nil
 |k+1=>by
  rw[Ji,Ji,J6,J6];exact r.snoc (r.rep k)
section
variable {X:Cx}{H0:Hp}{O0:List Hc}{ps:PSt}{a b:Expr}{xs:List U}{u:U}{k:Int}
theorem EZ(e:Ev X H0 O0 ps a (.lst xs))(i:Ev X H0 O0 ps b (.int k))(h:-(2 ^ 63)<=k)(f:k<2 ^ 63)(m:xs.length*k.toNat<=sizeLine):EvN X H0 O0 ps (.BinOp a .Mult b pos) (HJ k.toNat xs).flatten:=
 PE.mono (vC Du e i) λr H Q ⟨O,R,q⟩=>two R (λ_ _ _ z=>z) (λ_ _ _ z=>z) λv w o s _ g j=>by
  cases j;cases g with
  |lst n d l=>
   refine⟨_,_,_,rfl,rfl,aC _ _ n,h,f,by rw[d];exact m,λp c=>q p _ _ (s.trans (aQ c _)) (s.free c) a9 ?_⟩;exact (Rps.rep ⟨d,l⟩ _).same (bM (aQ c _) c)
theorem qk{a:Type}(u:a):∀k,(HJ k [u]).flatten=HJ k u
 |0=>rfl
 |k+1=>by rw[Ji,J6,qk u k];rfl
theorem xO(c:Ev X H0 O0 ps a (.lst [u]))(g:Ev X H0 O0 ps b (.int k))(f:-(2 ^ 63)<=k)(d:k<2 ^ 63)(e:k.toNat<=sizeLine):EvN X H0 O0 ps (.BinOp a .Mult b pos) (HJ k.toNat u):=by
 rw[<-qk];exact EZ c g f d (by simpa using e)
end
theorem Rs.free{K:GE}{I H:Hp}{B O:List Hc}{r:PSt}{J:St}{xs:List U}(n:Nat)(h:r[n]?=some (some (.own xs)))(R:Rs K I B r J H O):∃F,(∀b∈F,b∈O)/\Rs K I B (r.set n (some (.val (.lst xs)))) J H F:=by
 obtain⟨v,A,a,vs,rfl,ha,t,E,G⟩:=R.at_ n _ h;have c:∀b∈O.filter (λb=>decide (b≠a)),b∈O:=λb f=>(Im.mp f).1;have keep:∀b∈O,b≠a->b∈O.filter (λb=>decide (b≠a)):=λb f q=>Im.mpr ⟨f,by simpa using q⟩;have g:aY (hid H O) (hid H (O.filter (λb=>decide (b≠a)))):=fM c;have L:a ∉ O.filter (λb=>decide (b≠a)):=λz=>by have:=(Im.mp z).2;simp at this
 refine⟨O.filter (λb=>decide (b≠a)),c,R.same,λb f=>keep b (R.old b f) λe=>t (e ▸ f),λb f=>R.new b (c b f),λb f=>R.dom b (c b f),by rw[R.len,Mh],λi s k=>?_,λi j T zs b p o Z Q=>?_⟩
 .rcases d9 k with ⟨rfl,e⟩ |⟨q,k⟩
  .cases e;exact⟨.ref a,A,.lst (dF E L) (G.same g).len (G.same g).at_⟩
  .obtain⟨w,D,ok⟩:=R.at_ i s k;refine⟨w,D,?_⟩;cases s with
   |val u=>exact Rp.same g ok
   |own T=>
    obtain⟨b,P,rfl,f,l,x,m⟩:=ok;refine⟨b,P,rfl,keep b f λe=>?_,l,x,m.same g⟩;subst e;exact q (R.inj n i _ _ b h k A D)
   |pin z u=>exact⟨ok.1,Rp.same g ok.2⟩
   |dsk w C b d S9=>
    obtain⟨M,N,V,X,Y,S,y,W⟩:=ok;exact⟨M,N,V,keep d X (λe=>by rw[e,E]at y;cases y),Y,S,y,W.same g⟩
 .rcases d9 p with ⟨_,e⟩ |⟨_,p⟩
  .cases e
  .rcases d9 o with ⟨_,e⟩ |⟨_,o⟩
   .cases e
   .exact R.inj i j _ _ b p o Z Q
section
variable {X:Cx}{H0:Hp}{O0:List Hc}{E:XK}{ps:PSt}{D:PD}{ss:List Ki}{e:Expr}{xs:List U}{b:Bool}
theorem sZ(n:Nat)(h:ps[n]?=some (some (.own xs)))(w:Ws X H0 O0 E ss D (ps.set n (some (.val (.lst xs))))):Ws X H0 O0 E ss D ps:=
 PSs.mono w λd e H c=>by
  obtain⟨L,O,R⟩:=c;obtain⟨a,_,b⟩:=R.free n h;exact⟨L,a,b⟩
end
section
variable {X:Cx}{ns:List Int}{M:Int}
theorem zh(N:X.calm=true)(f:M∈ns∧∀a∈ns,a≤M):eA X (.builtin "max") [.lst (ns.map U.int)] (.int M):=by
 intro W s σ H S Y Q I r h;obtain⟨O,d,J,q⟩:=h;obtain⟨v,rfl,C⟩:=cq J;obtain⟨p1,rfl,B⟩:=dR r;cases C with
 | @lst a V _ h m F=>
  cases B;obtain⟨its,k,c,_⟩:=I.list (SqL.of (aC _ _ h));have u:its.length=ns.length:=by rw[<-k.length,m,GD]
  have w:=mQ (ns:=ns) k ⟨m,F⟩;have K:0<ns.length:=Iy f.1;refine call_max_walk (JD c.isList ?_);have l:a<s.heap.objs.size:=by obtain⟨o,e,_⟩:=c.isList;exact GS e
  refine⟨s.heap.objs.size,_,_,_,_,_,_,rfl,Walks.list (A:=X.A.in1) (I.ok.hd N) s.heap.objs.size a (Hn l) its.toArray,⟨⟨_,GZ _ rfl,rfl,rfl⟩,c.isList.push _⟩,λb D=>?_,by rw[G5,u];exact K,CmpOf.ints_gt (λi=>ns.getD i 0) w,λv T G y x=>?_⟩
  .show b<(s.heap.push _).objs.size;rw[Jr];rcases GF.mp D with z |z
   .rw[z];exact Il _
   .rw[GL.mp z];exact JG l
  .obtain⟨t,rfl⟩:=w _ _ y;obtain⟨E,n⟩:=argBest_gt (λi=>ns.getD i 0) (its.toArray.size-1)
   have e:ns.getD (IR (λi j=>decide (ns.getD i 0 >ns.getD j 0)) (its.toArray.size-1)) 0=M:=by
    rw[G5,u]at E n |-;generalize IR (λi j=>decide (ns.getD i 0 >ns.getD j 0)) (ns.length-1)=g at *
    have p:g<ns.length:=by lia
    obtain⟨j,P,R⟩:=IF f.1;have L:=n j (by lia);have Z:=f.2 ns[g] (HV p);simp only[G7,GC p,GC P,LQ]at L |-;lia
   rw[e];refine⟨.int M,H,I.kept (t':=G) λb o e=>x b o ?_ (GI _ e),⟨t,rfl⟩,q _ H (.refl H) (.int _)⟩;intro z;have:b=s.heap.objs.size:=by simpa using z
   exact absurd (GS e) (by rw[this];exact Hw _)
variable {H0:Hp}{O0:List Hc}{E:XK}{ps:PSt}{D:PD}{e:Expr}{xs ys:List U}
theorem zM(i:Nat){x:Str}{f c d:Pos}(k:ps[i]?=some (some (.own xs)))(o:Ev X H0 O0 ps e (.lst ys))(q:xs.length+ys.length<=sizeLine)(h:D.nx (ps.set i (some (.own (xs++ys)))))
  (hN:autoParam (X.N[i]?=some x) w4) (hv:autoParam (Vis X.env.scope x) j0) (hd:autoParam ((x==("__debug__":Str))=false) v0) (TX:autoParam ((x==("__classdict__":Str))=false) v0)
  (Tg:autoParam (Ly (.Name x d) "extend" X.env (Kg (.Name x d) X.env)=Kg (.Name x d) X.env) w4)
  (Uk:autoParam (((JZ c (GO [e] X.env)).all (λx=>!x.1) && (Q1 c (N1 [] X.env)).all (λx=>x.1.isSome) && decide ([e].length+([]:List N2).length+(if ([]:List N2).isEmpty then 0 else 1)<30))=true) w4)
  (Th:autoParam ((f.endLine==c.line)=true) w4) (UZ:autoParam (GO [e] X.env=(false,Kg e X.env)::GO [] X.env) w4) (Tp:autoParam ((JZ c (GO [] X.env)).any (·.1)=false) w4)
  (hs:autoParam (Kl (.Call (.Attribute (.Name x d) "extend" f) [e] [] c) none pos.line X.env=pure false) w4):W1 X H0 O0 E (.Expr (.Call (.Attribute (.Name x d) "extend" f) [e] [] c) pos) D ps:=
 PS.mono (kL (u8 JY PySem.F.slot_list_extend PySem.F.type_list_extend wU (iI hN hv hd TX) (cp o dZ UZ) Tg Uk Th UZ Tp) hs) λB C H y=>by
  obtain⟨L,O,R⟩:=y;obtain⟨v,j,a,n,rfl,G,z,m,l⟩:=R.at_ i _ k;refine⟨_,j,.inl ⟨rfl,_,SqL.of m⟩,O,R,λw A s r=>?_⟩;cases r with
  | @lst b u _ t g p=>
   refine⟨a,b,n,u,rfl,rfl,s _ _ m,aC _ _ t,by rw[l.len,g];exact q,?_⟩;exact L.nx _ _ _ O ((R.go s).write k j ((l.same (aM s)).snoc ⟨g,p⟩)) h
end
end L2
namespace L2
open PySem PySem.Spec PySem.W PyProof.Rows
structure xM(K:GE)(x SN:Str)(st:Ki)(f:Hc)(fd:JR)(D:Hc):Prop where
 ex:∃(oc:GM) (od:Option Hc) (kV TV pm:GM) (an:Option Hc) (cdv ct:GM) (Um:Array (Option GM)),
  fd=J0 x SN (cu st) (bN st) (am st) (.ref D) kV TV pm an cdv ct/\K.lookup f=some ⟨oc,od,.func fd,Um⟩/\MJ K cdv SN=true
 kp:JK K (.ref f)=true
theorem BE{K:GE}{x d:Str}{b:Ki}{f D:Hc}{n:GM}{o j:Option Hc}{m:Array (Option GM)}{e h i a g:GM}(l:K.lookup f=some ⟨n,o,.func (J0 x d (cu b) (bN b) (am b) (.ref D) e h i j a g),m⟩)
  (c:MJ K a d=true) (k:JK K (.ref f)=true):xM K x d b f (J0 x d (cu b) (bN b) (am b) (.ref D) e h i j a g) D:=⟨⟨n,o,e,h,i,j,a,g,m,rfl,l,c⟩,k⟩
section
variable {P:GX}{w:HF}{K:GE}{mg:Str→Option GM}{base:Jx}{N pn:List Str}{SN nm:Str}{f D:Hc}
theorem xM.okF{x:Str}{d:Ki}{g:JR}{k:Nat}{sp:Sp}(F:xM K x SN d f g D)(S:ay N pn (am d))(e:∀c H Q E,sp c H Q E->c.length=pn.length)
  (TH:∀(b:GM) (A:HM) (a:List Env) (s:GP) (H:Hp) (c:List V) (Q:VK) (E:XK),cZ k (A.deeper (MN SN (am d) s.heap.objs.size f b))->sp c H Q E->
   ∃t,PSs (eS (CXF P w) P w K mg base N SN (am d) f b A a s H E) (bN d) t/\t {nx:=λ_ i=>Q .non i,rt:=Q } (start N c) H):c_ P w K mg base (CXF P w) (k+1) f g pn sp:=by
 obtain⟨o,q,kV,p,v,u,b,n,r,rfl,m,l⟩:=F.ex;exact Cz m l S e λA a s H c Q E j h=>TH b A a s H c Q E j h
theorem C8{n:Ki}{x:JR}{k:Nat}{t:List U->Out->Prop}(F:xM K nm SN n f x D)(S:ay N pn (am n))(u:∀c o,t c o->c.length=pn.length)
  (TH:∀(l:GM) (A:HM) (b:List Env) (s:GP) (H:Hp) (E:XK) (O:List Hc) (c:List U) (o:Out),cZ k (A.deeper (MN SN (am n) s.heap.objs.size f l))->t c o->
   Ws (eS (CXF P w) P w K mg base N SN (am n) f l A b s H E) H O E (bN n) ⟨λ_=>o=.val .non,λy=>y=o,λ_=>False,λ_=>False⟩ (fX N c)):c_ P w K mg base (CXF P w) (k+1) f x pn (spU K t):=by
 refine F.okF S (λz H Q E h=>?_) λl A b s H z Q E G h=>?_
 .obtain⟨c,O,o,_,r,p,_⟩:=h;rw[r.len];exact u c o p
 .obtain⟨c,O,o,d,r,p,q⟩:=h;refine⟨_,TH l A b s H E O c o G p,⟨λM X B V R e=>?_,λ_ _ _ _ _ e=>e.elim,λ_ _ _ _ _ e=>e.elim,λy e=>by subst e;exact q⟩,O,?_⟩
  .subst e;exact q .non B R.same .non
  .refine⟨.refl H,λa h=>h,λa h=>.inl h,d,?_,λi L e=>?_,λi j J T a m W _ _=>?_⟩
   .unfold start fX;rw[He,He,GD,GD,Jm,Jm,r.len]
   .unfold fX at e;by_cases g:i<c.length
    .rw[Hg (by simpa using g),GN,GC g]at e
     cases e;obtain⟨v,I,C⟩:=r.get (GC g);refine⟨v,?_,C⟩;unfold start;rw[Hg (by simpa [r.len] using g),GN,I];rfl
    .rw[Hj (by simpa using g),JX]at e
     split at e <;>cases e
   .exfalso
    unfold fX at m;by_cases g:i<c.length
    .rw[Hg (by simpa using g),GN,GC g]at m
     cases m
    .rw[Hj (by simpa using g),JX]at m
     split at m <;>cases m
end
section
variable {X:Cx}{H0:Hp}{O0:List Hc}{ps:PSt}{e:Expr}{es:List Expr}{pos p:Pos}{u:U}{us:List U}{xs:List U}{CX:CXT}{n:Nat}{f:Hc}{fd:JR}{pn:List Str}{SY:List U→Out→Prop}{nm:Str}{j:Int}
theorem ul(F:c_ X.prog X.w X.K X.mg X.base CX n f fd pn (spU X.K SY))(l:cZ n X.A)(i:Gl X nm)(g:X.mg nm=some (.ref f))(k:JK X.K (.ref f)=true)(a:∃t,dy X.K fd pn [.int j t])(x:gT CX X E0)
  (ha:EvA X H0 O0 ps (e::es) us) (h:SY (us++[.int j]) (.val u)) (TY:autoParam ((nm==("__debug__":Str))=false) v0) (he:autoParam (GO (e::es) X.env=(false,Kg e X.env)::GO es X.env) w4) (Td:autoParam ((JZ pos (GO es X.env)).any (·.1)=false) w4):
  Ev X H0 O0 ps (.Call (.Name nm p) (e::es) [] pos) u:=by
 obtain⟨t,a⟩:=a;refine PE.mono (kF F l i g k a (.cons (show ba (.int j) (.int j t) from ⟨t,rfl⟩) .nil) x ha TY he Td) λy H Q ⟨O,R,q⟩=>⟨O,R,λd s b m=>?_⟩
 show spU X.K SY (d++[.int j]) s Q _;exact⟨us++[.int j],O,.val u,(R.go b).dom,m.snoc (.cons (.int _) .nil),h,λv o c r=>q v o (b.trans c) r⟩
end
end L2
namespace L2
open PySem PySem.Spec PyProof.Rows
theorem wD{P:GX}{w:HF}{K:GE}{R:Expr}(c:Hc)(j:Int)(n:Nat):tq P w K R (Itr j n) [c] c (λi h=>IsLongIter h c (j+(i:Nat) *1) ((n:Int)-(i:Nat)) 1) where
 mem:=by simp
 obj:=λi h a b d=>by
  have e:b=c:=by simpa using d
  subst e
  exact⟨_,a,λv z=>by
   have L:Data.fields _=Data.cell v:=z;cases L⟩
 keep:=λi h f a k=>k c (by simp) _ a
 item:=by
  intro X x q l B i C s G H E I g a r;subst x q l;obtain⟨m,u,Q,A,p,y⟩:=g c (by simp);have W:=Walks.longrange (prog:=X.prog) (w:=X.w) (I.ok.hd B) c j 1 n;refine W.item i s _ _ r a λv f F M D J=>?_;obtain⟨t,rfl⟩:=M;have N:Inv X C G H {s with heap:=f,toks:=F }:=I.turned (λb o d e=>J b o (by simpa using d) e) m u A p y;refine⟨_,rfl,qv (s:={s with heap:=f,toks:=F }) (n:="longrange_iterator") D rfl rfl (by decide) ⟨.int (j+i),H,N,⟨t,?_⟩,⟨rfl,rfl⟩,D,λb d=>(g b d).1⟩⟩;rw[LU]
 done:=by
  intro X x q l B i C s G H E I g a r;subst x q l;obtain⟨m,u,Q,A,p,y⟩:=g c (by simp);exact wpAny_pyNext_long_end (I.ok.hd B) a (by have:n<=i:=r;lia) λf O=>⟨rfl,I.turned (t':=s.toks) (λb o d e=>O b o d e) m u A p y⟩
 self:=λ_ _ _ _ _ a h=>wpAny_pyIter_longiter a h
section
variable {X:Cx}{tg:Expr}
theorem nF{a c:Int}(I:Inv X SI σ H s)
  (q:R (Itr a (c-a).toNat) H):Ht (Hr X.prog X.w) X.A (QD (.ref s.heap.objs.size)) (PIE X SI σ tg R) E {s with heap:=s.heap.push {cls:=.type "range",data:=.fields #[.int a t,.int c u,.int 1 v] },toks:=tk }:=by
 have d:Inv X SI σ H {s with heap:=s.heap.push {cls:=.type "range",data:=.fields #[.int a t,.int c u,.int 1 v] },toks:=tk }:=I.kept λb o e=>GI _ e;have h:a+((0:Nat):Int) *1=a:=by simp
 have i:(((c-a).toNat:Nat):Int)-((0:Nat):Int)=Builtin.Range.rangeSize a c 1:=by rw[rangeSize_one];split <;>lia
 by_cases g:Builtin.Range.small a c 1=true
 .refine Nq (IsRange.new ..) g ?_
  refine⟨(s.heap.push {cls:=.type "range",data:=.fields #[.int a t,.int c u,.int 1 v] }).objs.size,[(s.heap.push {cls:=.type "range",data:=.fields #[.int a t,.int c u,.int 1 v] }).objs.size],_,_,H,rfl,
   d.kept (t':=tk) λb o e=>GI _ e,mi _ a (c-a).toNat,?_,λb f=>?_,q⟩
  .show N0 _ _ (a+((0:Nat):Int) *1) ((((c-a).toNat:Nat):Int)-((0:Nat):Int)) 1;rw[h,i];exact GZ _ rfl
  .have e:b=(s.heap.push {cls:=.type "range",data:=.fields #[.int a t,.int c u,.int 1 v] }).objs.size:=by simpa using f
   subst e;exact d.fpOk (GK _) (d.hok.fresh (GK _))
 .refine wpAny_pyIter_longrange (IsRange.new ..) (by simpa using g) ?_
  refine⟨(s.heap.push {cls:=.type "range",data:=.fields #[.int a t,.int c u,.int 1 v] }).objs.size,[(s.heap.push {cls:=.type "range",data:=.fields #[.int a t,.int c u,.int 1 v] }).objs.size],_,_,H,rfl,
   d.kept (t':=tk) λb o e=>GI _ e,wD _ a (c-a).toNat,?_,λb f=>?_,q⟩
  .show IsLongIter _ _ (a+((0:Nat):Int) *1) ((((c-a).toNat:Nat):Int)-((0:Nat):Int)) 1;rw[h,i];exact GZ _ rfl
  .have e:b=(s.heap.push {cls:=.type "range",data:=.fields #[.int a t,.int c u,.int 1 v] }).objs.size:=by simpa using f
   subst e;exact d.fpOk (GK _) (d.hok.fresh (GK _))
noncomputable def DP(ta:TA):TI:=λc H R=>ta c H λb a=>∃i j:Int,b=[.int i,.int j]/\R (Itr i (j-i).toNat) a
theorem tP(l:Gl X "range")(k:X.mg "range"=none)(m:PA X [a,b] ta)(hs:autoParam (GO [a,b] X.env=[(false,Kg a X.env),(false,Kg b X.env)]) w4)(d:autoParam (GO [b] X.env=[(false,Kg b X.env)]) w4):
  PI X tg (.Call (.Name "range" p) [a,b] [] pos) (DP ta):=by
 intro n s v H R I h;refine Call_ (cU I l k Qm (PyProof.Rows.callWith_type1 (thn (m pos n s v H _ I h) λz w ⟨x,A,f,o,g⟩=>?_) (by rw[hs,d]) (by rw[d];rfl)));obtain⟨i,j,e,q⟩:=g;subst e;cases o with
 |cons r c=>
  cases c with
  |cons u c=>
   cases c;obtain⟨t,rfl⟩:=r;obtain⟨y,rfl⟩:=u;exact call_range_2 (nF f q)
variable {H0:Hp}{O0:List Hc}{ps:PSt}{a b:Expr}{p pos:Pos}
theorem wL(f:Gl X "range")(d:X.mg "range"=none)(g:EvA X H0 O0 ps [a,b] [.int i,.int j])(hs:autoParam (GO [a,b] X.env=[(false,Kg a X.env),(false,Kg b X.env)]) w4)(c:autoParam (GO [b] X.env=[(false,Kg b X.env)]) w4):
  EvI X H0 O0 ps tg (.Call (.Name "range" p) [a,b] [] pos) (f8 i (j-i).toNat):=
 PI.mono (tP f d g hs c) λm H Q ⟨O,R,q⟩=>⟨O,R,λl e s r=>by
  obtain⟨v,w,rfl,k,h⟩:=fY r;cases k;cases h;exact⟨i,j,rfl,q _ e s lg⟩⟩
end
end L2
namespace TS
open PySem PyProof.Rows
noncomputable def pS:Bool->HN->Array HN->Nat->Nat->Nat->StateT IV Sem (Option Nat):=sortPriv% PySem.Builtin.gallop
section
variable {prog:GX}{w:HF}{A:HM}{E:GM→GP→Prop}{s:GP}
noncomputable def gt(a:Array HN)(i:Nat):HN:=a.getD i (Lb,Lb)
theorem gt_eq{a:Array HN}{i:Nat}(h:i<a.toList.length):gt a i=a.toList[i]:=by
 have b:i<a.size:=by simpa using h
 simp[gt,LC,b]
theorem b6{a:Array HN}{i:Nat}(h:i<a.size):gt a i∈a.toList:=by rw[gt_eq (by simpa using h)];exact HV _
theorem el{a:Array HN}{i:Nat}{c:IV}{Q:HN->IV->Prop}(b:i<a.size)(h:Q (gt a i) c):wpS (Hr prog w) A E s (elem' a i) Q c:=by
 rw[elem'_eq,Iu b];refine Hf ?_;rw[gt_eq (by simpa using b)]at h
 simpa using h
variable {M:SE}{σ:Type}
theorem wif{b:Type}{c:Prop}[Decidable c]{x y:StateT σ Sem b}{Q:b->σ->Prop}{a:σ}(h:c->wpS M A E s x Q a)(k:¬ c->wpS M A E s y Q a):wpS M A E s (if c then x else y) Q a:=by
 by_cases e:c
 .rw[if_pos e];exact h e
 .rw[if_neg e];exact k e
theorem md1{p r:Nat}(h:¬ p ≥ r):(p+r)/2<r:=by lia
theorem md2{p r:Nat}(h:¬ p ≥ r):p<=(p+r)/2:=by lia
theorem md3{p r x k q:Nat}(m:r+x<=k+p)(h:q<r):q+(x+1)<=k+p:=HB (by rw[<-Mj,Nat.add_right_comm];exact Nat.add_le_add_right h x) m
theorem md4{p r x k q:Nat}(m:r+x<=k+p)(h:p<=q):r+(x+1)<=k+(q+1):=Os (HB m (LV h k))
theorem md5{a b:Nat}(h:¬ a ≥ b):a+(b-a)/2<b:=by lia
theorem md6{p r k:Nat}(h:p<=r)(m:r+max 0 k<=k+p):p=r:=Lq h (by rw[R_,OP]at m;exact Nat.le_of_add_le_add_left m)
theorem md7{h p n o:Nat}(a:p<=n)(b:h<n)(c:n-h<=o):p<=h+min o (n-h):=by rw[QS c,IH (Hd b)];exact a
theorem gal{o:Bool}{y:HN}{v:Array HN}{q n d:Nat}{t:IV}{Q:Option Nat->IV->Prop}{f:Nat->Bool}{p:Nat}(K:d<n)
  (U1:∀i,i<n->q+i<v.size)
  (hT:o=true->∀i (Q:Option Bool->IV->Prop),i<n->Q (some (f i)) t->wpS (Hr prog w) A E s (lt' (gt v (q+i)) y) Q t)
  (hF:o=false->∀i (Q:Option Bool->IV->Prop),i<n->Q (some (!f i)) t->wpS (Hr prog w) A E s (lt' y (gt v (q+i))) Q t)
  (hp:p<=n) (hf:∀i,i<n->(f i=true↔i<p)) (h:Q (some p) t):wpS (Hr prog w) A E s (pS o y v q n d) Q t:=by
 have J:∀{i:Nat}{Q:Option Bool->IV->Prop},i<n->Q (some (f i)) t->wpS (Hr prog w) A E s (do
   let x <-elem' v (q+i)
   if o then lt' x y else return (<-lt' y x).map (!·)) Q t:=λ{i Q} l O=>by
  refine G0 (el (U1 _ l) ?_);cases o with
  |true=>exact hT rfl _ _ l O
  |false=>exact G0 (hF rfl _ _ l (Hf (by simpa using O)))
 refine G0 (J K ?_);dsimp -zeta only
 extract_lets+onlyGivenNames j
 have R:∀a b k l,k<=p->p<=l->l<=n->wpS (Hr prog w) A E s (j () a b k l) Q t:=λ_ _ k l U T N=>by
  refine G0 (KD (J2 (I:=λx c st2=>st2=t/\∃k l,c=(none,k,l)/\k<=p/\p<=l/\l<=n/\l+x<=n+k) (Q:=λc st2=>st2=t/\∃k,c=(none,k,p)) ?_ ?_ ⟨rfl,_,_,rfl,U,T,N,HB N (HQ _ _)⟩) ?_)
  .rintro x c _ _ S ⟨rfl,k,l,rfl,B,r,m,F⟩;refine wif (λ(D:k ≥ l)=>Hf ⟨rfl,k,by rw[Lq (HB D B) r]⟩) λD=>?_;have D:¬ k ≥ l:=D;have P:=md5 D;have u:k+(l-k)/2<n:=GT P m;dsimp only;refine G0 (J u (wif (λC=>?_) λC=>?_))
   .have:=(hf _ u).mp C;exact Hf ⟨rfl,_,_,rfl,this,r,m,md4 F (HQ _ _)⟩
   .have:¬ k+(l-k)/2<p:=λz=>C ((hf _ u).mpr z);exact Hf ⟨rfl,_,_,rfl,B,JU this,Hd u,md3 F P⟩
  .rintro c _ ⟨rfl,k,l,rfl,B,r,m,F⟩;exact⟨rfl,k,by rw[Lq (HB (QE (md6 (HB B r) F).symm) B) r]⟩
  .rintro c _ ⟨rfl,k,rfl⟩;exact Hf h
 refine wif (λM=>?_) λM=>?_
 .have L:=(hf d K).mp M;refine G0 (KD (J2 (I:=λx c H=>H=t/\∃g e,c=(none,g,e)/\x+1<=e/\g<e/\d+g<p) (Q:=λc H=>H=t/\∃g e,c=(none,g,e)/\g<e/\d+g<p/\p<=d+min e (n-d)) ?_ ?_ ⟨rfl,0,1,rfl,GK _,by lia,by lia⟩) ?_)
  .rintro x c _ _ S ⟨rfl,g,e,rfl,B,r,m⟩;refine wif (λ(G:e ≥ n-d)=>Hf ⟨rfl,g,e,rfl,r,m,md7 hp K G⟩) λG=>?_;have G:¬ e ≥ n-d:=G;have u:d+e<n:=by lia
   dsimp only;refine G0 (J u (wif (λC=>?_) λC=>?_))
   .have:¬ d+e<p:=λz=>by simp[(hf _ u).mpr z]at C
    exact Hf ⟨rfl,g,e,rfl,r,m,by lia⟩
   .have:=(hf _ u).mp (by simpa using C);exact Hf ⟨rfl,_,_,rfl,by lia,by lia,this⟩
  .rintro c _ ⟨rfl,g,e,rfl,B,r,m⟩;exact⟨rfl,g,e,rfl,r,m,by lia⟩
  rintro c _ ⟨rfl,g,e,rfl,B,r,m⟩;exact R 0 0 (d+g+1) (d+min e (n-d)) (by lia) m (by lia)
 .have L:¬ d<p:=λz=>M ((hf d K).mpr z);refine G0 (KD (J2 (I:=λx c H=>H=t/\∃g e,c=(none,g,e)/\x+1<=e/\g<e/\g<=d/\p<=d-g) (Q:=λc H=>H=t/\∃g e,c=(none,g,e)/\g<=d/\p<=d-g/\d+1-min e (d+1)<=p) ?_ ?_ ⟨rfl,0,1,rfl,GK _,by lia,by lia,by lia⟩) ?_)
  .rintro x c _ _ S ⟨rfl,g,e,rfl,B,r,m,F⟩;refine wif (λ(G:e ≥ d+1)=>Hf ⟨rfl,g,e,rfl,m,F,by lia⟩) λG=>?_;have G:¬ e ≥ d+1:=G;have u:d-e<n:=by lia
   dsimp only;refine G0 (J u (wif (λC=>?_) λC=>?_))
   .have:=(hf _ u).mp C;exact Hf ⟨rfl,g,e,rfl,m,F,by lia⟩
   .have:¬ d-e<p:=λz=>C ((hf _ u).mpr z);exact Hf ⟨rfl,_,_,rfl,by lia,by lia,by lia,by lia⟩
  .rintro c _ ⟨rfl,g,e,rfl,B,r,m,F⟩;exact⟨rfl,g,e,rfl,m,F,by lia⟩
  rintro c _ ⟨rfl,g,e,rfl,B,r,m⟩;exact R 0 0 (d+1-min e (d+1)) (d-g) m r (by lia)
end
noncomputable def nk:Nat->StateT IV Sem Unit:=sortPriv% PySem.Builtin.setMinGallop
noncomputable abbrev ft(a:IV)(g:Nat):IV:=SortSt.mk' (kindOf a) (HG a) (Kc a) g (M5 a)
noncomputable def zp:Array HN->Array HN->StateT IV Sem (Array HN):=sortPriv% PySem.Builtin.mergeLo
section
variable {α:Type}{R:α→α→Bool}{A B out:List α}{ia ib:Nat}
structure MI(R:α->α->Bool)(A B out:List α)(ia ib:Nat):Prop where
 perm:out.Perm (A.take ia++B.take ib)
 srt:out.Pairwise λx y=>R x y=true
 lA:∀x∈out,∀y∈A.drop ia,R x y=true
 lB:∀x∈out,∀y∈B.drop ib,R x y=true
structure MO(R:α->α->Bool)(A B:List α):Prop where
 tr:∀x y z,R x y=true->R y z=true->R x z=true
 sA:A.Pairwise λx y=>R x y=true
 sB:B.Pairwise λx y=>R x y=true
 tot:∀x∈A,∀y∈B,R y x=false->R x y=true
theorem st1{x y n m s:Nat}(h:0<n)(k:x+1+y+n+m<=s):x+2+(n-1)+m<=s:=by lia
theorem st2{x y n m s:Nat}(h:0<n)(k:x+1+y+n+m<=s):x+1+(y+1)+(n-1)+m<=s:=by lia
theorem st3{x y n m s:Nat}(h:0<m)(k:x+1+y+n+m<=s):x+2+n+(m-1)<=s:=by lia
theorem st4{x y n m s:Nat}(h:0<m)(k:x+1+y+n+m<=s):x+1+(y+1)+n+(m-1)<=s:=by lia
theorem st5{x y n a m b s:Nat}(h:0<n)(d:n<=a)(c:m<b)(k:x+2+y+a+b<=s):x+2+(y+1)+(n-1)+m<=s:=by lia
theorem st6{x y n m s:Nat}(k:x+2+(y+1)+n+m<=s):x+2+n+m<=s:=by lia
theorem bq{n m:Nat}(h:(n==m)=true):n=m:=eq_of_beq h
theorem bn{n m:Nat}(h:¬ (n==m)=true):n≠m:=λe=>h (beq_iff_eq.mpr e)
theorem lt2{n:Nat}(h:0<n)(k:n≠1):1<n:=IW h k.symm
theorem fV(d:∀x y z,R x y=true->R y z=true->R x z=true){L:List α}(c:L.Pairwise λx y=>R x y=true){i:Nat}(b:i<L.length){x:α}(h:R x L[i]=true):∀y∈L.drop i,R x y=true:=λy a=>by
 rw[HZ b]at a;rcases GF.mp a with e |e
 .rw[e];exact h
 .have:=(Hl.mp (by rw[<-HZ b];exact c.sublist (KN i L))).1 y e;exact d _ _ _ h this
theorem nD{L:List α}(a:L.Pairwise λx y=>R x y=true){i:Nat}(c:i<L.length):∀y∈L.drop (i+1),R L[i] y=true:=λy b=>
 (Hl.mp (by rw[<-HZ c];exact a.sublist (KN i L))).1 y b
theorem ix{L:List α}{i:Nat}{y:α}(h:y∈L.drop (i+1)):y∈L.drop i:=by
 rw[<-Rz]at h;exact JW h
theorem g_{L:List α}{i:Nat}(a:i<L.length):L[i]∈L.drop i:=by rw[HZ a];exact GR
theorem MI.pushA(O:MO R A B)(I:MI R A B out ia ib)(c:ia<A.length)(h:∀y∈B.drop ib,R A[ia] y=true):MI R A B (out++[A[ia]]) (ia+1) ib where
 perm:=by
  rw[KC c];refine (I.perm.append_right _).trans ?_;rw[G8,G8];exact JN _ Lr
 srt:=Ih.mpr ⟨I.srt,by simp,λx b y a=>by rw[GL.mp a];exact I.lA x b _ (g_ c)⟩
 lA:=λx b y a=>by
  rcases Hi.mp b with e |e
  .exact I.lA x e y (ix a)
  .rw[GL.mp e];exact nD O.sA c y a
 lB:=λx b y a=>by
  rcases Hi.mp b with e |e
  .exact I.lB x e y a
  .rw[GL.mp e];exact h y a
theorem MI.pushB(O:MO R A B)(I:MI R A B out ia ib)(c:ib<B.length)(h:∀y∈A.drop ia,R B[ib] y=true):MI R A B (out++[B[ib]]) ia (ib+1) where
 perm:=by
  rw[KC c,<-G8];exact I.perm.append_right _
 srt:=Ih.mpr ⟨I.srt,by simp,λx b y a=>by rw[GL.mp a];exact I.lB x b _ (g_ c)⟩
 lA:=λx b y a=>by
  rcases Hi.mp b with e |e
  .exact I.lA x e y a
  .rw[GL.mp e];exact h y a
 lB:=λx b y a=>by
  rcases Hi.mp b with e |e
  .exact I.lB x e y (ix a)
  .rw[GL.mp e];exact nD O.sB c y a
theorem MI.runA(O:MO R A B)(a:ib<B.length):∀(k:Nat) {out:List α}{ia:Nat},MI R A B out ia ib->ia+k<=A.length->(∀i (h:ia+i<A.length),i<k->R A[ia+i] B[ib]=true)->MI R A B (out++(A.drop ia).take k) (ia+k) ib
 |0,out,ia,I,_,_=>by simpa using I
 |k+1,out,ia,I,d,h=>by
  have hi:ia<A.length:=by lia
  have b:=I.pushA O hi (fV O.tr O.sB a (h 0 (by lia) (by lia)))
  have:=MI.runA O a k b (by lia) (λi f c=>by
   have:=h (i+1) (by lia) (by lia);have e:A[ia+1+i]=A[ia+(i+1)]'(by lia):=by congr 1;lia
   rw[e];exact this)
  rw[HZ hi,Nf];rw[G8,show ia+1+k=ia+(k+1) by lia]at this
  exact this
theorem MI.runB(O:MO R A B)(a:ia<A.length):∀(k:Nat) {out:List α}{ib:Nat},MI R A B out ia ib->ib+k<=B.length->(∀i (h:ib+i<B.length),i<k->R B[ib+i] A[ia]=true)->MI R A B (out++(B.drop ib).take k) ia (ib+k)
 |0,out,ib,I,_,_=>by simpa using I
 |k+1,out,ib,I,d,h=>by
  have hi:ib<B.length:=by lia
  have b:=I.pushB O hi (fV O.tr O.sA a (h 0 (by lia) (by lia)))
  have:=MI.runB O a k b (by lia) (λi f c=>by
   have:=h (i+1) (by lia) (by lia);have e:B[ib+1+i]=B[ib+(i+1)]'(by lia):=by congr 1;lia
   rw[e];exact this)
  rw[HZ hi,Nf];rw[G8,show ib+1+k=ib+(k+1) by lia]at this
  exact this
def Mgd(R:α->α->Bool)(A B r:List α):Prop:=r.Perm (A++B)/\r.Pairwise λx y=>R x y=true
theorem MI.perm_all(I:MI R A B out ia ib):(out++A.drop ia++B.drop ib).Perm (A++B):=by
 have h:(out++A.drop ia++B.drop ib).Perm ((A.take ia++B.take ib)++A.drop ia++B.drop ib):=(I.perm.append_right _).append_right _;refine h.trans ?_;have e:A++B=(A.take ia++A.drop ia)++(B.take ib++B.drop ib):=by rw[Hv,Hv]
 rw[e,G8,G8,G8];refine JN _ ?_;rw[<-G8,<-G8];exact OD _ Lr
theorem MI.doneB(O:MO R A B)(I:MI R A B out ia ib)(h:ib=B.length):Mgd R A B (out++A.drop ia++B.drop ib):=by
 refine⟨I.perm_all,?_⟩;rw[h,QT,II];exact Ih.mpr ⟨I.srt,O.sA.sublist (KN _ _),I.lA⟩
theorem MI.doneA(O:MO R A B)(I:MI R A B out ia ib)(h:ia=A.length):Mgd R A B (out++A.drop ia++B.drop ib):=by
 refine⟨I.perm_all,?_⟩;rw[h,QT,II];exact Ih.mpr ⟨I.srt,O.sB.sublist (KN _ _),I.lB⟩
theorem MI.last(O:MO R A B)(I:MI R A B out ia ib)(h:ia+1=A.length)(c:∀y∈B,R y (A[ia]'(by lia))=true):Mgd R A B (out++B.drop ib++A.drop ia):=by
 refine⟨?_,?_⟩
 .refine Rc ?_ I.perm_all;rw[G8,G8];exact JN _ Lr
 .have e:A.drop ia=[A[ia]'(by lia)]:=by rw[HZ (by lia),List.drop_of_length_le (by lia)]
  rw[e];refine Ih.mpr ⟨Ih.mpr ⟨I.srt,O.sB.sublist (KN _ _),I.lB⟩,by simp,λx b y a=>?_⟩;rw[GL.mp a];rcases Hi.mp b with z |z
  .exact I.lA x z _ (by rw[e];simp)
  .exact c x (JW z)
end
section
variable {M:SE}{A:HM}{E:GM→GP→Prop}{s:GP}{σ:Type}
theorem sQ{d:Type}{n:Nat}{f:Nat->d->StateT σ Sem (ForInStep d)}(I:Nat->d->σ->Prop){Q:d->σ->Prop}
  (hstep:∀i c a,i<n->I i c a->∀b:ForInStep d->σ->Prop,(∀c e,Q c e->b (.done c) e)->(∀c e,I (i+1) c e->b (.yield c) e)->wpS M A E s (f i c) b a)
  (hend:∀c a,I n c a->Q c a) {c:d}{a:σ} (h:I 0 c a):wpS M A E s (forIn [0:n] c f) Q a:=
 J2 I (λi c a _ g j=>hstep i c a g j _ (λ_ _ h=>h) (λ_ _ h=>h)) (λc a h=>hend c a (by rwa [R_]at h)) h
variable {prog:GX}{w:HF}
theorem ru{x:String}{Q:Unit->IV->Prop}{a:IV}(h:Q () a):wpS (Hr prog w) A E s (liftM (rule x)) Q a:=wpS_lift (LZ ⟨rfl,h⟩)
def Asks(prog:GX)(w:HF)(A:HM)(E:GM->GP->Prop)(s:GP)(b:MM)(P:HN->Prop)(R:HN->HN->Bool):Prop:=
 ∀x y a (Q:Option Bool->IV->Prop),P x->P y->kindOf a=b->Q (some (R x y)) a->wpS (Hr prog w) A E s (lt' x y) Q a
theorem uv{n:Nat}(q:Nat->Bool)(b:∀i j,i<j->j<n->q j=true->q i=true):∃k,k<=n/\(∀i,i<k->q i=true)/\∀i,k<=i->i<n->q i=false:=by
 have go:∀m,m<=n->(∀i,m<=i->i<n->q i=false)->∃k,k<=n/\(∀i,i<k->q i=true)/\∀i,k<=i->i<n->q i=false:=by
  intro m
  induction m with
  |zero=>intro _ c;exact⟨0,Ir _,λi h=>by lia,c⟩
  |succ m e=>
   intro g c;by_cases d:q m=true
   .refine⟨m+1,g,λi a=>?_,c⟩;rcases Hk (Ib a) with z |z
    .exact b i m z (by lia) d
    .subst z;exact d
   .refine e (by lia) λi a f=>?_;rcases Hk a with z |z
    .exact c i z f
    .subst z;simpa using d
 exact go n (GK _) λi o l=>by lia
variable {κ:MM}{P:HN→Prop}{R:HN→HN→Bool} (K:Asks prog w A E s κ P R)
include K
theorem CU{a:HN}{b:Array HN}{c n d:Nat}{g:IV}{Q:Option Nat->IV->Prop}(t:kindOf g=κ)(H:c+n<=b.size)(C:d<n)(v:P a)(pb:∀i,i<n->P (gt b (c+i)))(r:∀x y z,R x y=true->R y z=true->R x z=true)(D:∀i j,i<j->j<n->R (gt b (c+i)) (gt b (c+j))=true)
  (h:∀k,k<=n->(∀i,i<k->R (gt b (c+i)) a=true)->(∀i,k<=i->i<n->R (gt b (c+i)) a=false)->Q (some k) g):wpS (Hr prog w) A E s (pS true a b c n d) Q g:=by
 obtain⟨k,l,q,o⟩:=uv (n:=n) (λi=>R (gt b (c+i)) a) λi j B u G=>r _ _ _ (D i j B u) G;refine gal (f:=λi=>R (gt b (c+i)) a) (p:=k) C (λi e=>by lia) (λ_ i I e F=>K _ _ _ _ (pb i e) v t F) (λz=>by cases z) l (λi e=>?_) (h k l q o)
 .constructor
  .intro m;rcases IU i k with z |z
   .exact z
   .rw[o i z e]at m;cases m
  .intro z;exact q i z
theorem D8{a:HN}{b:Array HN}{c n d:Nat}{g:IV}{Q:Option Nat->IV->Prop}(B:kindOf g=κ)(H:c+n<=b.size)(D:d<n)(C:P a)(pb:∀i,i<n->P (gt b (c+i)))(v:∀x y z,R x y=true->R y z=true->R x z=true)(F:∀i j,i<j->j<n->R (gt b (c+i)) (gt b (c+j))=true)
  (h:∀k,k<=n->(∀i,i<k->R a (gt b (c+i))=false)->(∀i,k<=i->i<n->R a (gt b (c+i))=true)->Q (some k) g):wpS (Hr prog w) A E s (pS false a b c n d) Q g:=by
 obtain⟨k,q,u,t⟩:=uv (n:=n) (λi=>!R a (gt b (c+i))) λi j m l o=>by
  rw[Qq]at o |-;cases hc:R a (gt b (c+i)) with
  |false=>rfl
  |true=>rw[v _ _ _ hc (F i j m l)]at o;cases o
 refine gal (f:=λi=>!R a (gt b (c+i))) (p:=k) D (λi e=>by lia) (λz=>by cases z) (λ_ i I e G=>K _ _ _ _ C (pb i e) B (by simpa using G)) q (λi e=>?_) (h k q (λi e=>by simpa using u i e) λi m l=>by simpa using t i m l)
 .constructor
  .intro r;rcases IU i k with z |z
   .exact z
   .have:=t i z e;rw[this]at r;cases r
  .intro z;exact u i z
omit K in
theorem jB(a:Array HN)(i:Nat):(a.extract i a.size).toList=a.toList.drop i:=by simp[JB]
omit K in
theorem hW(a:Array HN)(i k:Nat):(a.extract i (i+k)).toList=(a.toList.drop i).take k:=by simp
omit K in
theorem sg{g:Nat}{a:IV}{Q:Unit->IV->Prop}(h:Q () (ft a g)):wpS (Hr prog w) A E s (nk g) Q a:=MD h
theorem mlo{a b:Array HN}{t:IV}{Q:Array HN->IV->Prop}(O:MO R a.toList b.toList)(pa:∀x∈a.toList,P x)(pb:∀x∈b.toList,P x)(ha:0<a.size)(hb:0<b.size)(h0:R (gt b 0) (gt a 0)=true)(hl:∀y∈b.toList,R y (gt a (a.size-1))=true)(hk:kindOf t=κ)
  (h:∀r g,Mgd R a.toList b.toList r.toList->Q r (ft t g)):wpS (Hr prog w) A E s (zp a b) Q t:=by
 have la:a.toList.length=a.size:=by simp
 have lb:b.toList.length=b.size:=by simp
 have dn:∀{out:Array HN}{d f:Nat},MI R a.toList b.toList out.toList d f->f=b.size->Mgd R a.toList b.toList (out++a.extract d a.size++b.extract f b.size).toList:=λ{out d f} I e=>by
  rw[HC,HC,jB,jB];exact I.doneB O (by lia)
 have ls:∀{out:Array HN}{d f:Nat},MI R a.toList b.toList out.toList d f->d+1=a.size->Mgd R a.toList b.toList (out++b.extract f b.size++a.extract d a.size).toList:=λ{out d f} I e=>by
  rw[HC,HC,jB,jB];refine I.last O (by lia) λy hy=>?_;have:=hl y hy;rw[show a.size-1=d by lia,gt_eq (by lia)]at this
  exact this
 have pA:∀{out:Array HN}{d f:Nat},MI R a.toList b.toList out.toList d f->d<a.size->f<b.size->R (gt b f) (gt a d)=false->MI R a.toList b.toList (out.push (gt a d)).toList (d+1) f:=λ{out d f} I Z X B=>by
  rw[J7,gt_eq (show d<a.toList.length by lia)];refine I.pushA O (by lia) (fV O.tr O.sB (show f<b.toList.length by lia) ?_);rw[gt_eq (show f<b.toList.length by lia),gt_eq (show d<a.toList.length by lia)]at B
  exact O.tot _ (HV _) _ (HV _) B
 have pB:∀{out:Array HN}{d f:Nat},MI R a.toList b.toList out.toList d f->d<a.size->f<b.size->R (gt b f) (gt a d)=true->MI R a.toList b.toList (out.push (gt b f)).toList d (f+1):=λ{out d f} I Z X B=>by
  rw[J7,gt_eq (show f<b.toList.length by lia)];refine I.pushB O (by lia) (fV O.tr O.sA (show d<a.toList.length by lia) ?_);rw[gt_eq (show f<b.toList.length by lia),gt_eq (show d<a.toList.length by lia)]at B
  exact B
 have sa:∀{d n:Nat},d+n<=a.size->∀i j,i<j->j<n->R (gt a (d+i)) (gt a (d+j))=true:=λ{d n} hn i j Z X=>by
  rw[gt_eq (show d+i<a.toList.length by lia),gt_eq (show d+j<a.toList.length by lia)];exact G6.mp O.sA _ _ _ _ (by lia)
 have sb:∀{f n:Nat},f+n<=b.size->∀i j,i<j->j<n->R (gt b (f+i)) (gt b (f+j))=true:=λ{f n} hn i j Z X=>by
  rw[gt_eq (show f+i<b.toList.length by lia),gt_eq (show f+j<b.toList.length by lia)];exact G6.mp O.sB _ _ _ _ (by lia)
 have dA:∀{out:Array HN}{d f:Nat},MI R a.toList b.toList out.toList d f->d=a.size->Mgd R a.toList b.toList (out++a.extract d a.size++b.extract f b.size).toList:=λ{out d f} I e=>by
  rw[HC,HC,jB,jB];exact I.doneA O (by lia)
 have rA:∀{out:Array HN}{d f k:Nat},MI R a.toList b.toList out.toList d f->f<b.size->d+k<=a.size->(∀i,i<k->R (gt b f) (gt a (d+i))=false)->MI R a.toList b.toList (out++a.extract d (d+k)).toList (d+k) f:=λ{out d f k} I X Z B=>by
  rw[HC,hW];refine I.runA O (show f<b.toList.length by lia) k (by lia) λi h W=>?_;have:=B i W;rw[gt_eq (show f<b.toList.length by lia),gt_eq h]at this
  exact O.tot _ (HV _) _ (HV _) this
 have rB:∀{out:Array HN}{d f k:Nat},MI R a.toList b.toList out.toList d f->d<a.size->f+k<=b.size->(∀i,i<k->R (gt b (f+i)) (gt a d)=true)->MI R a.toList b.toList (out++b.extract f (f+k)).toList d (f+k):=λ{out d f k} I X Z B=>by
  rw[HC,hW];refine I.runB O (show d<a.toList.length by lia) k (by lia) λi h W=>?_;have:=B i W;rw[gt_eq (show d<a.toList.length by lia),gt_eq h]at this
  exact this
 have start:MI R a.toList b.toList (#[gt b 0]:Array HN).toList 0 1:=by
  have e:(#[gt b 0]:Array HN)=(#[]:Array HN).push (gt b 0):=rfl;rw[e];exact pB ⟨by simp,by simp,by simp,by simp⟩ ha hb h0
 refine G0 (ru ?_);refine G0 (el hb ?_)
 try dsimp -zeta only
 refine wif (λe1=>Hf (h _ (Qb t) (dn start (bq e1)))) λe1=>?_;have Vt:1<b.size:=IW hb (bn e1);refine wif (λe2=>Hf (h _ (Qb t) (ls start (bq e2)))) λe2=>?_;have e2':1<a.size:=IW ha (bn e2);refine G0 (Ny ?_)
 try dsimp -zeta only
 refine G0 (KD (sQ (I:=λx c p=>∃g out d f F,p=ft t g/\c=(none,out,d,f,F)/\MI R a.toList b.toList out.toList d f/\d+1<a.size/\f<b.size/\x+1<=d+f) (Q:=λc p=>∃g r rest,p=ft t g/\c=(some r,rest)/\Mgd R a.toList b.toList r.toList) ?step ?fin ⟨Qb t,_,_,_,_,rfl,rfl,start,e2',Vt,GK _⟩) ?post)
 case fin=>
  rintro c p ⟨g,out,d,f,F,rfl,rfl,I,U,S,T⟩
  exfalso;lia
 case post=>
  rintro c p ⟨g,r,rest,rfl,rfl,m⟩;exact Hf (h r g m)
 case step=>
  rintro x c p hx ⟨g,out,d,f,F,rfl,rfl,I,U,S,T⟩ post pd py;refine G0 (KD (sQ (I:=λx2 c p=>∃out d f v z,p=ft t g/\c=(none,out,d,f,v,z)/\MI R a.toList b.toList out.toList d f/\d+1<a.size/\f<b.size/\x+1+x2<=d+f) (Q:=λc p=>p=ft t g/\((∃r rest,c=(some r,rest)/\Mgd R a.toList b.toList r.toList)\/∃out d f v z,c=(none,out,d,f,v,z)/\MI R a.toList b.toList out.toList d f/\d+1<a.size/\f<b.size/\x+2<=d+f)) ?s2 ?f2 ⟨out,d,f,0,0,rfl,rfl,I,U,S,T⟩) ?p2)
  case f2=>
   rintro c p ⟨out,d,f,v,z,rfl,rfl,I,G,q,M⟩
   exfalso;lia
  case s2=>
   rintro y c p hy ⟨out,d,f,v,z,rfl,rfl,I,G,q,M⟩ post2 C qy;dsimp only;have Y:d<a.size:=J_ G;refine G0 (el q ?_);refine G0 (el Y ?_);refine G0 (K _ _ _ _ (pb _ (b6 q)) (pa _ (b6 Y)) hk ?_);dsimp only;refine wif (λhw=>G0 (el q ?_)) λhw=>G0 (el Y ?_)
   .have D:=pB I Y q hw;refine wif (λL=>Hf (C _ _ ⟨rfl,.inl ⟨_,_,rfl,dn D (bq L)⟩⟩)) λL=>?_;have Vu:f+1<b.size:=IW q (bn L);exact wif (λhm=>Hf (C _ _ ⟨rfl,.inr ⟨_,_,_,_,_,rfl,D,G,Vu,by lia⟩⟩)) λhm=>Hf (qy _ _ ⟨_,_,_,_,_,rfl,rfl,D,G,Vu,by lia⟩)
   .have D:=pA I Y q (by simpa using hw);refine wif (λJ=>Hf (C _ _ ⟨rfl,.inl ⟨_,_,rfl,ls D (bq J)⟩⟩)) λJ=>?_;have ea':d+1+1<a.size:=IW G (bn J);exact wif (λhm=>Hf (C _ _ ⟨rfl,.inr ⟨_,_,_,_,_,rfl,D,ea',q,by lia⟩⟩)) λhm=>Hf (qy _ _ ⟨_,_,_,_,_,rfl,rfl,D,ea',q,by lia⟩)
  case p2=>
   rintro c p ⟨rfl,⟨r,rest,rfl,m⟩ |⟨out,d,f,v,z,rfl,I,U,S,T⟩⟩
   .exact Hf (pd _ _ ⟨g,r,_,rfl,rfl,m⟩)
   .refine G0 (ru ?_);refine G0 (KD (sQ (I:=λx3 c p=>∃g out d f F v z,p=ft t g/\c=(none,out,d,f,F,v,z)/\MI R a.toList b.toList out.toList d f/\d+1<a.size/\f<b.size/\x+2+x3<=d+f) (Q:=λc p=>∃g,p=ft t g/\((∃r rest,c=(some r,rest)/\Mgd R a.toList b.toList r.toList)\/∃out d f F v z,c=(none,out,d,f,F,v,z)/\MI R a.toList b.toList out.toList d f/\d+1<a.size/\f<b.size/\x+2<=d+f)) ?s3 ?f3 ⟨g,out,d,f,_,v,z,rfl,rfl,I,U,S,T⟩) ?p3)
    case f3=>
     rintro c p ⟨g,out,d,f,F,v,z,rfl,rfl,I,G,q,M⟩
     exfalso;lia
    case p3=>
     rintro c p ⟨g,rfl,⟨r,rest,rfl,m⟩ |⟨out,d,f,F,v,z,rfl,I,U,S,T⟩⟩
     .exact Hf (pd _ _ ⟨g,r,_,rfl,rfl,m⟩)
     .refine G0 (sg ?_);exact Hf (py _ _ ⟨_,_,_,_,_,rfl,rfl,I,U,S,T⟩)
    case s3=>
     rintro x3 c p hx3 ⟨g,out,d,f,F,v,z,rfl,rfl,I,G,q,M⟩ u C qy;dsimp -zeta only
     extract_lets+onlyGivenNames q1 q2 q3 q4 q5 q6 q7 q8 q9 q10 q11 q12 j
     have H:∀m,wpS (Hr prog w) A E s (j () m) u (ft t g):=λm=>by
      refine G0 (sg ?_);dsimp -zeta only[q1,q2,q3,q4,q5,q6,q7,q8,q9,q10,q11,q12];refine G0 (el q (G0 (D8 K hk (show d+(a.size-d)<=a.size by lia) (by lia) (pb _ (b6 q)) (λi W=>pa _ (b6 (by lia))) O.tr (sa (by lia)) λk kn k1 k2=>?_)));dsimp -zeta only
      extract_lets+onlyGivenNames r1 j'
      have H:∀o i,MI R a.toList b.toList o.toList i f->i+1<a.size->d<=i->R (gt b f) (gt a i)=true->wpS (Hr prog w) A E s (j' () o i) u (ft t m):=λout i I l9 l0 B=>by
       have V:i<a.size:=J_ l9;have I3:=pB I V q B;refine G0 (el q (wif (λL=>Hf (C _ _ ⟨_,rfl,.inl ⟨_,_,rfl,dn I3 (bq L)⟩⟩)) λL=>?_));have Vu:f+1<b.size:=IW q (bn L);refine G0 (el V (G0 (CU K hk (show f+1+(b.size-(f+1))<=b.size by lia) (by lia) (pa _ (b6 V)) (λi W=>pb _ (b6 (by lia))) O.tr (sb (by lia)) λl ln m1 m2=>?_)));dsimp -zeta only
       extract_lets+onlyGivenNames r2 r3 j''
       have H:∀o n,MI R a.toList b.toList o.toList i n->n<b.size->f<n->R (gt b n) (gt a i)=false->wpS (Hr prog w) A E s (j'' () o n) u (ft t m):=λout n I l1 l0 B=>by
        have I6:=pA I V l1 B;refine G0 (el V (wif (λJ=>Hf (C _ _ ⟨_,rfl,.inl ⟨_,_,rfl,ls I6 (bq J)⟩⟩)) λJ=>?_));have e6:i+1+1<a.size:=IW l9 (bn J);exact wif (λ_=>Hf (C _ _ ⟨_,rfl,.inr ⟨_,_,_,_,_,_,rfl,I6,e6,l1,by lia⟩⟩)) λ_=>Hf (qy _ _ ⟨_,_,_,_,_,_,_,rfl,rfl,I6,e6,l1,by lia⟩)
       refine wif (λhl0=>?_) λhl0=>H _ _ I3 Vu (by lia) (m2 0 (by lia) (by lia));have I4:=rB I3 V (show f+1+l<=b.size by lia) m1;refine wif (λN=>Hf (C _ _ ⟨_,rfl,.inl ⟨_,_,rfl,dn I4 (bq N)⟩⟩)) λN=>?_;have ec':f+1+l<b.size:=by simp at N;lia
       exact H _ _ I4 ec' (by lia) (m2 l (GK _) (by lia))
      refine wif (λhk0=>?_) λhk0=>H _ _ I G (by lia) (k2 0 (by lia) (by lia));have D:=rA I q (show d+k<=a.size by lia) k1;refine wif (λN=>Hf (C _ _ ⟨_,rfl,.inl ⟨_,_,rfl,ls D (bq N)⟩⟩)) λN=>wif (λed=>Hf (C _ _ ⟨_,rfl,.inl ⟨_,_,rfl,dA D (bq ed)⟩⟩)) λed=>?_;have e1:¬ d+k+1=a.size:=bn N;have e2:¬ d+k=a.size:=bn ed;exact H _ _ D (by lia) (by lia) (k2 k (GK _) (by lia))
     exact wif (λ_=>H _) λ_=>H _
end
section
variable {α:Type}{R:α→α→Bool}{A B:List α}
theorem vo(L:List α)(i k:Nat)(h:i+k<=L.length):((L.drop i).take k).reverse=(L.reverse.drop (L.length-i-k)).take k:=by
 rw[List.reverse_take,List.reverse_drop,K9,List.drop_take,Ot (Nat.le_sub_of_add_le' h)]
theorem Fu{n m:Nat}(h:0<m)(k:m<=n):n-(m-1)=n-m+1:=by rw[Nat.sub_sub_right n h,Nat.sub_add_comm k]
theorem yR(L:List α)(n:Nat)(h:n<=L.length):L.reverse.drop (L.length-n)=(L.take n).reverse:=by
 rw[List.drop_reverse,Ot h]
theorem MO.rev(O:MO R A B):MO (λx y=>R y x) B.reverse A.reverse where
 tr:=λ_ _ _ c b=>O.tr _ _ _ b c
 sA:=JO.mpr O.sB
 sB:=JO.mpr O.sA
 tot:=λx d y a h=>O.tot y (GY.mp a) x (GY.mp d) h
theorem Mgd.rev{r:List α}(m:Mgd (λx y=>R y x) B.reverse A.reverse r):Mgd R A B r.reverse:=
 ⟨(NQ r).trans (m.1.trans ((Lr).trans ((NQ A).append (NQ B)))),JO.mpr m.2⟩
end
section
variable {prog:GX}{w:HF}{A:HM}{E:GM→GP→Prop}{s:GP}{κ:MM}{P:HN→Prop}{R:HN→HN→Bool} (K:Asks prog w A E s κ P R)
theorem f9{a:Array HN}{n i:Nat}(b:n<=a.size)(c:i<n)(h:a.size-n+i<a.toList.reverse.length):a.toList.reverse[a.size-n+i]=gt a (n-1-i):=by
 rw[List.getElem_reverse,gt_eq (by simp;lia)];congr 1;simp;lia
noncomputable def zJ:Array HN->Array HN->StateT IV Sem (Array HN):=sortPriv% PySem.Builtin.mergeHi
include K
theorem mhi{a b:Array HN}{F:IV}{Q:Array HN->IV->Prop}(O:MO R a.toList b.toList)(pa:∀x∈a.toList,P x)(pb:∀x∈b.toList,P x)(ha:0<a.size)(hb:0<b.size)(h0:R (gt b (b.size-1)) (gt a (a.size-1))=true)(hl:∀y∈a.toList,R (gt b 0) y=true)(hk:kindOf F=κ)
  (h:∀r g,Mgd R a.toList b.toList r.toList->Q r (ft F g)):wpS (Hr prog w) A E s (zJ a b) Q F:=by
 have la:a.toList.reverse.length=a.size:=by simp
 have lb:b.toList.reverse.length=b.size:=by simp
 have S:=O.rev
 have xa:∀n,n<=a.size->(a.extract 0 n).toList=(a.toList.reverse.drop (a.size-n)).reverse:=λn T=>by
  have:=yR a.toList n (by simpa using T);rw[GQ]at this;rw[this,LJ];simp
 have xb:∀n,n<=b.size->(b.extract 0 n).toList=(b.toList.reverse.drop (b.size-n)).reverse:=λn T=>by
  have:=yR b.toList n (by simpa using T);rw[GQ]at this;rw[this,LJ];simp
 have dn:∀{out:Array HN}{f d:Nat},MI (λx y=>R y x) b.toList.reverse a.toList.reverse out.toList (b.size-d) (a.size-f)->d<=b.size->f=0->Mgd R a.toList b.toList (a.extract 0 f++b.extract 0 d++out.reverse).toList:=λ{out f d} I T e=>by
  have:=(I.doneB S (by lia)).rev;rw[Ke,Ke,<-G8,<-xa f (by lia),<-xb d T]at this
  rw[HC,HC,KG];exact this
 have dA:∀{out:Array HN}{f d:Nat},MI (λx y=>R y x) b.toList.reverse a.toList.reverse out.toList (b.size-d) (a.size-f)->f<=a.size->d=0->Mgd R a.toList b.toList (a.extract 0 f++b.extract 0 d++out.reverse).toList:=λ{out f d} I T e=>by
  have:=(I.doneA S (by lia)).rev;rw[Ke,Ke,<-G8,<-xa f T,<-xb d (by lia)]at this
  rw[HC,HC,KG];exact this
 have ls:∀{out:Array HN}{f d:Nat},MI (λx y=>R y x) b.toList.reverse a.toList.reverse out.toList (b.size-d) (a.size-f)->f<=a.size->d=1->Mgd R a.toList b.toList (b.extract 0 d++a.extract 0 f++out.reverse).toList:=λ{out f d} I T e=>by
  have:=(I.last S (by lia) λy hy=>by
   have z:=hl y (GY.mp hy);have g:=f9 (a:=b) (n:=d) (i:=0) (by lia) (by lia) (by lia);simp only[Lj]at g;rw[g,e];exact z).rev
  rw[Ke,Ke,<-G8,<-xa f T,<-xb d (by lia)]at this
  rw[HC,HC,KG];exact this
 have pB:∀{out:Array HN}{f d:Nat},MI (λx y=>R y x) b.toList.reverse a.toList.reverse out.toList (b.size-d) (a.size-f)->0<f->f<=a.size->0<d->d<=b.size->R (gt b (d-1)) (gt a (f-1))=true->MI (λx y=>R y x) b.toList.reverse a.toList.reverse (out.push (gt a (f-1))).toList (b.size-d) (a.size-(f-1)):=λ{out f d} I B G h3 h4 V=>by
  have g:=f9 (a:=a) (n:=f) (i:=0) G B (by lia);have N:=f9 (a:=b) (n:=d) (i:=0) h4 h3 (by lia);simp only[Lj,O_]at g N;rw[J7,<-g,Fu B G];refine I.pushB S (by lia) (fV S.tr S.sA (by lia) ?_);rw[g,N];exact V
 have pA:∀{out:Array HN}{f d:Nat},MI (λx y=>R y x) b.toList.reverse a.toList.reverse out.toList (b.size-d) (a.size-f)->0<f->f<=a.size->0<d->d<=b.size->R (gt b (d-1)) (gt a (f-1))=false->MI (λx y=>R y x) b.toList.reverse a.toList.reverse (out.push (gt b (d-1))).toList (b.size-(d-1)) (a.size-f):=λ{out f d} I B G h3 h4 V=>by
  have g:=f9 (a:=a) (n:=f) (i:=0) G B (by lia);have N:=f9 (a:=b) (n:=d) (i:=0) h4 h3 (by lia);simp only[Lj,O_]at g N;rw[J7,<-N,Fu h3 h4];refine I.pushA S (by lia) (fV S.tr S.sB (by lia) ?_);rw[g,N];exact O.tot _ (b6 (by lia)) _ (b6 (by lia)) V
 have rB:∀{out:Array HN}{f d k:Nat},MI (λx y=>R y x) b.toList.reverse a.toList.reverse out.toList (b.size-d) (a.size-f)->k<=f->f<=a.size->0<d->d<=b.size->(∀i,k<=i->i<f->R (gt b (d-1)) (gt a i)=true)->MI (λx y=>R y x) b.toList.reverse a.toList.reverse (out++(a.extract k f).reverse).toList (b.size-d) (a.size-k):=λ{out f d k} I B G h3 h4 V=>by
  have e:(a.extract k f).reverse.toList=(a.toList.reverse.drop (a.size-f)).take (f-k):=by
   have:=vo a.toList k (f-k) (by rw[IH B];simpa using G);rw[GQ,Su,IH B]at this;rw[<-this,KG,<-hW,IH B]
  rw[HC,e,<-OE G B];refine I.runB S (by lia) _ (by lia) λi h hi=>?_;have N:=f9 (a:=b) (n:=d) (i:=0) h4 h3 (by lia);simp only[Lj,O_]at N;rw[f9 G (by lia),N];exact V _ (by lia) (by lia)
 have rA:∀{out:Array HN}{f d k:Nat},MI (λx y=>R y x) b.toList.reverse a.toList.reverse out.toList (b.size-d) (a.size-f)->k<=d->d<=b.size->0<f->f<=a.size->(∀i,k<=i->i<d->R (gt b i) (gt a (f-1))=false)->MI (λx y=>R y x) b.toList.reverse a.toList.reverse (out++(b.extract k d).reverse).toList (b.size-k) (a.size-f):=λ{out f d k} I B G h3 h4 V=>by
  have e:(b.extract k d).reverse.toList=(b.toList.reverse.drop (b.size-d)).take (d-k):=by
   have:=vo b.toList k (d-k) (by rw[IH B];simpa using G);rw[GQ,Su,IH B]at this;rw[<-this,KG,<-hW,IH B]
  rw[HC,e,<-OE G B];refine I.runA S (by lia) _ (by lia) λi h hi=>?_;have N:=f9 (a:=a) (n:=f) (i:=0) h4 h3 (by lia);simp only[Lj,O_]at N;rw[f9 G (by lia),N];exact O.tot _ (b6 (by lia)) _ (b6 (by lia)) (V _ (by lia) (by lia))
 have sa:∀{n:Nat},n<=a.size->∀i j,i<j->j<n->R (gt a (0+i)) (gt a (0+j))=true:=λ{n} T i j B G=>by
  rw[gt_eq (show 0+i<a.toList.length by rw[GQ];lia),gt_eq (show 0+j<a.toList.length by rw[GQ];lia)];exact G6.mp O.sA _ _ _ _ (by lia)
 have sb:∀{n:Nat},n<=b.size->∀i j,i<j->j<n->R (gt b (0+i)) (gt b (0+j))=true:=λ{n} T i j B G=>by
  rw[gt_eq (show 0+i<b.toList.length by rw[GQ];lia),gt_eq (show 0+j<b.toList.length by rw[GQ];lia)];exact G6.mp O.sB _ _ _ _ (by lia)
 have Z:∀{n:Nat},0<n->n<=a.size->n-1<a.size:=λh k=>GT (NR h Ng) k;have sB:∀{n:Nat},0<n->n<=b.size->n-1<b.size:=λh k=>GT (NR h Ng) k
 have start:MI (λx y=>R y x) b.toList.reverse a.toList.reverse (#[gt a (a.size-1)]:Array HN).toList (b.size-b.size) (a.size-(a.size-1)):=by
  have e:(#[gt a (a.size-1)]:Array HN)=(#[]:Array HN).push (gt a (a.size-1)):=rfl;rw[e];exact pB ⟨by simp,by simp,by simp,by simp⟩ ha (GK _) hb (GK _) h0
 refine G0 (ru ?_);refine G0 (el (Z ha (GK _)) ?_)
 try dsimp -zeta only
 refine wif (λe1=>Hf (h _ (Qb F) (dn start (GK _) (bq e1)))) λe1=>?_;have Vt:0<a.size-1:=Mo (bn e1);refine wif (λe2=>Hf (h _ (Qb F) (ls start (by lia) (bq e2)))) λe2=>?_;have e2':1<b.size:=lt2 hb (bn e2);refine G0 (Ny ?_)
 try dsimp -zeta only
 refine G0 (KD (sQ (I:=λx c v=>∃g f d out W,v=ft F g/\c=(none,f,d,out,W)/\MI (λx y=>R y x) b.toList.reverse a.toList.reverse (out).toList (b.size-d) (a.size-f)/\0<f/\f<=a.size/\1<d/\d<=b.size/\x+1+f+d<=a.size+b.size) (Q:=λc v=>∃g r rest,v=ft F g/\c=(some r,rest)/\Mgd R a.toList b.toList r.toList) ?step ?fin ⟨Qb F,_,_,_,_,rfl,rfl,start,Vt,by lia,e2',GK _,by lia⟩) ?post)
 case fin=>
  rintro c v ⟨g,f,d,out,W,rfl,rfl,I,t,u,D,q,C⟩
  exfalso;lia
 case post=>
  rintro c v ⟨g,r,rest,rfl,rfl,m⟩;exact Hf (h r g m)
 case step=>
  rintro x c v hx ⟨g,f,d,out,W,rfl,rfl,I,t,u,D,q,C⟩ post pd py;refine G0 (KD (sQ (I:=λx2 c v=>∃f d out L M,v=ft F g/\c=(none,f,d,out,L,M)/\MI (λx y=>R y x) b.toList.reverse a.toList.reverse (out).toList (b.size-d) (a.size-f)/\0<f/\f<=a.size/\1<d/\d<=b.size/\x+1+x2+f+d<=a.size+b.size) (Q:=λc v=>v=ft F g/\((∃r rest,c=(some r,rest)/\Mgd R a.toList b.toList r.toList)\/∃f d out L M,c=(none,f,d,out,L,M)/\MI (λx y=>R y x) b.toList.reverse a.toList.reverse (out).toList (b.size-d) (a.size-f)/\0<f/\f<=a.size/\1<d/\d<=b.size/\x+2+f+d<=a.size+b.size)) ?s2 ?f2 ⟨f,d,out,0,0,rfl,rfl,I,t,u,D,q,C⟩) ?p2)
  case f2=>
   rintro c v ⟨f,d,out,L,M,rfl,rfl,I,t,u,D,q,C⟩
   exfalso;lia
  case s2=>
   rintro y c v hy ⟨f,d,out,L,M,rfl,rfl,I,t,u,D,q,C⟩ post2 U qy
   try dsimp only
   have J:0<d:=J_ D;refine G0 (el (sB J q) ?_);refine G0 (el (Z t u) ?_);refine G0 (K _ _ _ _ (pb _ (b6 (sB J q))) (pa _ (b6 (Z t u))) hk ?_)
   try dsimp only
   refine wif (λhw=>G0 (el (Z t u) ?_)) λhw=>G0 (el (sB J q) ?_)
   .have X:=pB I t u J q hw;refine wif (λeb=>Hf (U _ _ ⟨rfl,.inl ⟨_,_,rfl,dn X q (bq eb)⟩⟩)) λeb=>?_;have Vu:0<f-1:=Mo (bn eb);exact wif (λhm=>Hf (U _ _ ⟨rfl,.inr ⟨_,_,_,_,_,rfl,X,Vu,Hd (Z t u),D,q,st1 t C⟩⟩)) λhm=>Hf (qy _ _ ⟨_,_,_,_,_,rfl,rfl,X,Vu,Hd (Z t u),D,q,st2 t C⟩)
   .have X:=pA I t u J q (by simpa using hw);refine wif (λea=>Hf (U _ _ ⟨rfl,.inl ⟨_,_,rfl,ls X u (bq ea)⟩⟩)) λea=>?_;have ea':1<d-1:=lt2 (Qv D) (bn ea);exact wif (λhm=>Hf (U _ _ ⟨rfl,.inr ⟨_,_,_,_,_,rfl,X,t,u,ea',Hd (sB J q),st3 J C⟩⟩)) λhm=>Hf (qy _ _ ⟨_,_,_,_,_,rfl,rfl,X,t,u,ea',Hd (sB J q),st4 J C⟩)
  case p2=>
   rintro c v ⟨rfl,⟨r,rest,rfl,m⟩ |⟨f,d,out,L,M,rfl,I,t,u,D,q,C⟩⟩
   .exact Hf (pd _ _ ⟨g,r,_,rfl,rfl,m⟩)
   .refine G0 (ru ?_);refine G0 (KD (sQ (I:=λx3 c v=>∃g f d out W L M,v=ft F g/\c=(none,f,d,out,W,L,M)/\MI (λx y=>R y x) b.toList.reverse a.toList.reverse (out).toList (b.size-d) (a.size-f)/\0<f/\f<=a.size/\1<d/\d<=b.size/\x+2+x3+f+d<=a.size+b.size) (Q:=λc v=>∃g,v=ft F g/\((∃r rest,c=(some r,rest)/\Mgd R a.toList b.toList r.toList)\/∃f d out W L M,c=(none,f,d,out,W,L,M)/\MI (λx y=>R y x) b.toList.reverse a.toList.reverse (out).toList (b.size-d) (a.size-f)/\0<f/\f<=a.size/\1<d/\d<=b.size/\x+2+f+d<=a.size+b.size)) ?s3 ?f3 ⟨g,f,d,out,_,L,M,rfl,rfl,I,t,u,D,q,C⟩) ?p3)
    case f3=>
     rintro c v ⟨g,f,d,out,W,L,M,rfl,rfl,I,t,u,D,q,C⟩
     exfalso;lia
    case p3=>
     rintro c v ⟨g,rfl,⟨r,rest,rfl,m⟩ |⟨f,d,out,W,L,M,rfl,I,t,u,D,q,C⟩⟩
     .exact Hf (pd _ _ ⟨g,r,_,rfl,rfl,m⟩)
     .refine G0 (sg ?_);exact Hf (py _ _ ⟨_,_,_,_,_,rfl,rfl,I,t,u,D,q,C⟩)
    case s3=>
     rintro x3 c v hx3 ⟨g,f,d,out,W,L,M,rfl,rfl,I,t,u,D,q,C⟩ H U qy;dsimp -zeta only
     extract_lets+onlyGivenNames q1 q2 q3 q4 q5 q6 q7 q8 q9 q10 q11 q12 j
     have hj:∀m,wpS (Hr prog w) A E s (j () m) H (ft F g):=λm=>by
      refine G0 (sg ?_);dsimp -zeta only[q1,q2,q3,q4,q5,q6,q7,q8,q9,q10,q11,q12];have J:0<d:=J_ D;refine G0 (el (sB J q) (G0 (D8 K hk (show 0+f<=a.size by lia) (NR t Ng) (pb _ (b6 (sB J q))) (λi hi=>pa _ (b6 (by lia))) O.tr (sa (by lia)) λk kn k1 k2=>?_)));simp only[Nt]at k1 k2;dsimp -zeta only
      extract_lets+onlyGivenNames r0 r1 j'
      have hj:∀n o,MI (λx y=>R y x) b.toList.reverse a.toList.reverse o.toList (b.size-d) (a.size-n)->0<n->n<=f->R (gt b (d-1)) (gt a (n-1))=false->wpS (Hr prog w) A E s (j' () n o) H (ft F m):=λn out I n0 n1 V=>by
       have Y:n<=a.size:=HB n1 u;have I3:=pA I n0 Y J q V;have b1:d-1<=b.size:=HB (RN _ _) q;refine G0 (el (sB J q) (wif (λeb=>Hf (U _ _ ⟨_,rfl,.inl ⟨_,_,rfl,ls I3 Y (bq eb)⟩⟩)) λeb=>?_));have Vu:1<d-1:=lt2 (Qv D) (bn eb);refine G0 (el (Z n0 Y) (G0 (CU K hk (show 0+(d-1)<=b.size by lia) (by lia) (pa _ (b6 (Z n0 Y))) (λi hi=>pb _ (b6 (by lia))) O.tr (sb (by lia)) λl ln l1 l2=>?_)));simp only[Nt]at l1 l2;dsimp -zeta only
       extract_lets+onlyGivenNames r2 r3 r4 j''
       have hj:∀p o,MI (λx y=>R y x) b.toList.reverse a.toList.reverse o.toList (b.size-p) (a.size-n)->1<p->p<d->R (gt b (p-1)) (gt a (n-1))=true->wpS (Hr prog w) A E s (j'' () p o) H (ft F m):=λp out I p0 p1 V=>by
        have p2:p<=b.size:=Hd (GT p1 q);have I6:=pB I n0 Y (J_ p0) p2 V;refine G0 (el (Z n0 Y) (wif (λea=>Hf (U _ _ ⟨_,rfl,.inl ⟨_,_,rfl,dn I6 p2 (bq ea)⟩⟩)) λea=>?_));have e6:0<n-1:=Mo (bn ea);have n3:n-1<=a.size:=HB (RN _ _) Y;exact wif (λ_=>Hf (U _ _ ⟨_,rfl,.inr ⟨_,_,_,_,_,_,rfl,I6,e6,n3,p0,p2,st6 (st5 n0 n1 p1 C)⟩⟩)) λ_=>Hf (qy _ _ ⟨_,_,_,_,_,_,_,rfl,rfl,I6,e6,n3,p0,p2,st5 n0 n1 p1 C⟩)
       refine wif (λhl0=>?_) λhl0=>hj _ _ I3 Vu (by lia) (l1 (d-1-1) (by lia));have I4:=rA I3 ln b1 n0 Y l2;refine wif (λec=>Hf (U _ _ ⟨_,rfl,.inl ⟨_,_,rfl,ls I4 Y (bq ec)⟩⟩)) λec=>wif (λed=>Hf (U _ _ ⟨_,rfl,.inl ⟨_,_,rfl,dA I4 Y (bq ed)⟩⟩)) λed=>?_;have B:¬ l=1:=bn ec;have G:¬ l=0:=bn ed;exact hj _ _ I4 (by lia) (by lia) (l1 (l-1) (by lia))
      refine wif (λhk0=>?_) λhk0=>hj _ _ I t (by lia) (k1 (f-1) (by lia));have X:=rB I kn u J q k2;refine wif (λec=>Hf (U _ _ ⟨_,rfl,.inl ⟨_,_,rfl,dn X q (bq ec)⟩⟩)) λec=>?_;have B:¬ k=0:=bn ec;exact hj _ _ X (by lia) (by lia) (k1 (k-1) (by lia))
     exact wif (λ_=>hj _) λ_=>hj _
end
section
theorem p5{b:Type}:∀(m:List b) (n p:Nat) (X Y:List b) (arr:Array b),arr.toList=X++Y->X.length=p+n->m.length<=Y.length->((m.zipIdx n).foldl (λa (x:b×Nat)=>a.setIfInBounds (p+x.2) x.1) arr).toList=X++m++Y.drop m.length
 |[],n,p,X,Y,arr,e,_,_=>by simpa using e
 |x::m,n,p,X,[],arr,e,h1,h2=>by simp at h2
 |x::m,n,p,X,y::Y,arr,e,h1,h2=>by
  rw[List.zipIdx_cons,I_]
  have:=p5 m (n+1) p (X++[x]) Y (arr.setIfInBounds (p+n) x) (by
   rw[Nm,e,<-h1,Pa _ _ (GK _)];simp) (by simp;lia) (by simpa using h2)
  rw[this];simp
theorem xR{M:SE}{A:HM}{E:GM->GP->Prop}{s:GP}{a:Type}{x:a}{Q:PUnit->a->Prop}{b:a}(h:Q ⟨⟩ x):wpS M A E s (set x:StateT a Sem PUnit) Q b:=by
 unfold wpS;rw[StateT.run_set];exact GH ⟨rfl,h⟩
theorem seg{a:Type}(X S Y:List a):((X++S++Y).drop X.length).take S.length=S:=by simp
end
section
variable {prog:GX}{w:HF}{A:HM}{E:GM→GP→Prop}{s:GP}{κ:MM}{P:HN→Prop}{R:HN→HN→Bool} (K:Asks prog w A E s κ P R)
theorem yT{a:Array HN}{X S Y:List HN}(h:a.toList=X++(S++Y)){j:Nat}(b:j<S.length):gt a (X.length+j)=S[j]:=by
 rw[gt_eq (by rw[h,He,He];exact LW (GT b (HQ _ _)) _)];simp only[h];rw[Nz (HQ _ _)];simp only[Mp];rw[NS b]
include K
theorem mat{i o n pw t J pw2:Nat}{X b d Y:List HN}{f:IV}{Q:Bool->IV->Prop}(Z:kindOf f=κ)(hf:M5 f=none)(h1:(Kc f)[i]?=some (o,n,pw))(h2:(Kc f)[i+1]?=some (t,J,pw2))(W:(HG f).toList=X++b++d++Y)(lX:X.length=o)(H:b.length=n)(l2:d.length=J)(Uo:t=o+n)(p1:0<n)(F:0<J)(pp:∀x∈b++d,P x)(O:MO R b d)
  (h:∀S SK,kindOf SK=κ->M5 SK=none->Kc SK=((Kc f).setIfInBounds i (o,n+J,pw)).eraseIdxIfInBounds (i+1)->(HG SK).toList=X++S++Y->Mgd R b d S->Q true SK):wpS (Hr prog w) A E s (mergeAt' i) Q f:=by
 have sz:(HG f).size=o+n+J+Y.length:=by rw[<-GQ,W,He,He,He,lX,H,l2]
 have C:∀{j},j<n->j<b.length:=λh=>H.symm ▸ h;have G:∀{j},j<J->j<d.length:=λh=>l2.symm ▸ h
 have U:∀j (p:j<b.length),gt (HG f) (o+j)=b[j]:=λj p=>by
  rw[<-lX];exact yT (Y:=d++Y) (by rw[W];simp only[G8]) p
 have T:∀j (p:j<d.length),gt (HG f) (t+j)=d[j]:=λj p=>by
  rw[Uo,<-lX,<-H,<-He];exact yT (by rw[W,G8]) p
 have q1:∀j,j<n->P (gt (HG f) (o+j)):=λj p=>by rw[U j (C p)];exact pp _ (Hm _ (HV _))
 have q2:∀j,j<J->P (gt (HG f) (t+j)):=λj p=>by rw[T j (G p)];exact pp _ (Ha _ (HV _))
 have z1:o+n<=(HG f).size:=by rw[sz,Mj];exact HQ _ _
 have I:t+J<=(HG f).size:=by rw[sz,Uo];exact HQ _ _
 obtain⟨m,em⟩:∃m,m+1=n:=⟨n-1,Qc p1⟩;have D:m<n:=em ▸ Il m;refine G0 (Ny ?_);rw[h1,h2];dsimp only;refine G0 (xR ?_);refine G0 (el (GT (Nat.lt_add_of_pos_right F) I) ?_)
 refine G0 (D8 K Z z1 p1 (q2 0 F) q1 O.tr (λx y h3 h4=>by
  rw[U x (C (Kp h3 h4)),U y (C h4)];exact G6.mp O.sA _ _ _ _ h3) λk kn k1 k2=>?_)
 dsimp only;have hb0:gt (HG f) t=d[0]'(G F):=T 0 (G F);rw[hb0]at k1 k2
 have hU:∀x∈b.take k,∀y∈d,R x y=true:=λx V y hy=>by
  obtain⟨j,p,rfl⟩:=IF V;have jk:j<k:=GT p (PU _ _);have z:=k1 j jk;rw[U j (C (GT jk kn))]at z;have I:=O.tot _ (HV _) _ (HV _) z;rw[NT];exact fV O.tr O.sB (G F) I y hy
 have f1:∀v∈b.drop k,R (d[0]'(G F)) v=true:=λv q=>by
  obtain⟨j,p,rfl⟩:=IF q;rw[K9]at p;have Us:=Pb p;rw[NU,<-U (k+j) Us];exact k2 _ (HQ _ _) (H ▸ Us)
 by_cases e1:(n-k==0)=true
 .rw[if_pos e1];have Vt:n-k=0:=bq e1;refine Hf (h (b++d) _ Z hf rfl (by rw[<-G8];exact W) ⟨Nw _,Ih.mpr ⟨O.sA,O.sB,λx V y hy=>hU x (by rw[JB (H ▸ Nat.le_of_sub_eq_zero Vt)];exact V) y hy⟩⟩)
 rw[if_neg e1];have Vt:0<n-k:=Mo (bn e1);have ei:o+k+(n-k)-1=o+m:=by rw[Mj,IH kn,<-em];rfl
 have Ti:gt (HG f) (o+k+(n-k)-1)=b[m]'(C D):=by rw[ei,U m (C D)]
 refine G0 (el (ei ▸ GT (LW D o) z1) ?_)
 refine G0 (CU K Z I (NR F Ng) (by rw[Ti,<-U m (C D)];exact q1 m D) q2 O.tr (λx y h3 h4=>by
  rw[T x (G (Kp h3 h4)),T y (G h4)];exact G6.mp O.sB _ _ _ _ h3) λl ln m1 m2=>?_)
 dsimp only;rw[Ti]at m1 m2
 have hZ:∀x∈b,∀z∈d.drop l,R x z=true:=λx V z hz=>by
  obtain⟨j,p,rfl⟩:=IF hz;rw[K9]at p;obtain⟨i,hi,rfl⟩:=IF V;rw[NU];have Us:=Pb p;have z:=m2 (l+j) (HQ _ _) (l2 ▸ Us);rw[T (l+j) Us]at z;have I:=O.tot _ (HV _) _ (HV _) z;rcases Hk (Ib (show i<m+1 by rw[em,<-H];exact hi)) with c |c
  .exact O.tr _ _ _ (G6.mp O.sA i m hi (C D) c) I
  .subst c;exact I
 have f2:∀v∈d.take l,R v (b[m]'(C D))=true:=λv q=>by
  obtain⟨j,p,rfl⟩:=IF q;have jl:j<l:=GT p (PU _ _);rw[NT,<-T j (G (GT jl ln))];exact m1 _ jl
 have l0:0<l:=by
  rcases Ml l with c |c
  .exfalso
   have z:=m2 0 (QE c) F;rw[T 0 (G F)]at z;have I:=f1 (b[m]'(C D)) (List.drop_subset_drop_left b (Ib (show k<m+1 by rw[em];exact Nat.lt_of_sub_pos Vt)) (g_ (C D)))
   rw[I]at z;cases z
  .exact c
 rw[if_neg λz=>Km l0 (bq z)];have ll:∀{a:Array HN},a.toList.length=a.size:=by simp
 have eL:(HG f).toList=(X++b.take k)++b.drop k++(d.take l++(d.drop l++Y)):=by
  rw[W]
  conv=>lhs;rw[←Hv k b,←Hv l d]
  simp only[G8]
 have lXk:(X++b.take k).length=o+k:=by rw[He,K8,lX,H,Mq kn]
 have M:((HG f).extract (o+k) t).toList=b.drop k:=by
  rw[show t=o+k+(n-k) by rw[Uo,Mj,IH kn],hW,eL];have:=seg (X++b.take k) (b.drop k) (d.take l++(d.drop l++Y));rw[lXk,K9,H]at this;exact this
 have L:((HG f).extract t (t+l)).toList=d.take l:=by
  rw[hW,W];have:=seg (X++b) (d.take l) (d.drop l++Y);rw[He,K8,lX,H,l2,<-Uo,Mq ln]at this;rw[<-G8,G8 (X++b),Hv]at this;exact this
 generalize V:(HG f).extract (o+k) t=x at M |-;generalize hy:(HG f).extract t (t+l)=y at L |-;have sx:x.size=n-k:=by rw[<-ll,M,K9,H]
 have sy:y.size=l:=by rw[<-ll,L,K8,l2,Mq ln]
 have x0:0<x.size:=sx.symm ▸ Vt;have y0:0<y.size:=sy.symm ▸ l0
 have O2:MO R x.toList y.toList:=by
  rw[M,L];exact⟨O.tr,O.sA.sublist (KN _ _),O.sB.sublist (NF _ _),λu B v q=>O.tot u (JW B) v (LK q)⟩
 have gx:gt x (x.size-1)=b[m]'(C D):=by
  rw[gt_eq (by rw[ll];exact NR x0 Ng)];simp only[M,sx,NU];congr 1;rw[<-ME Vt,IH kn,<-em];rfl
 have gy:gt y 0=d[0]'(G F):=by
  rw[gt_eq (by rw[ll];exact y0)];simp only[L,NT]
 have px:∀u∈x.toList,P u:=λu B=>pp u (Hm _ (JW (by rw[M]at B;exact B)));have py:∀u∈y.toList,P u:=λu B=>pp u (Ha _ (LK (by rw[L]at B;exact B)));have UK:∀v∈y.toList,R v (gt x (x.size-1))=true:=λv q=>by rw[gx];exact f2 v (by rw[L]at q;exact q)
 have U4:∀v∈x.toList,R (gt y 0) v=true:=λv q=>by rw[gy];exact f1 v (by rw[M]at q;exact q)
 have fin:∀r:Array HN,Mgd R x.toList y.toList r.toList->((r.toList.zipIdx).foldl (λa (x:HN×Nat)=>a.setIfInBounds (o+k+x.2) x.1) (HG f)).toList=X++(b.take k++r.toList++d.drop l)++Y/\Mgd R b d (b.take k++r.toList++d.drop l):=λr m=>by
  have lr:r.toList.length=(b.drop k++d.take l).length:=by rw[<-M,<-L];exact m.1.length_eq
  constructor
  .rw[p5 r.toList 0 (o+k) (X++b.take k) (b.drop k++d.take l++(d.drop l++Y)) _ (by rw[eL];simp only[G8]) lXk (by rw[lr,He (as:=b.drop k++d.take l)];exact HQ _ _)];rw[lr,List.drop_left];simp only[G8]
  .have mp:r.toList.Perm (b.drop k++d.take l):=by rw[<-M,<-L];exact m.1
   constructor
   .refine ((mp.append_left _).append_right _).trans ?_
    have e:b++d=b.take k++(b.drop k++d.take l)++d.drop l:=by
     conv=>lhs;rw[←Hv k b,←Hv l d]
     simp only[G8]
    rw[e]
   .have sp1:=O.sA;rw[<-Hv k b]at sp1;have sp2:=O.sB;rw[<-Hv l d]at sp2;have c1:=Ih.mp sp1;have c2:=Ih.mp sp2;refine Ih.mpr ⟨Ih.mpr ⟨c1.1,m.2,λu B v q=>?_⟩,c2.2.1,λu B v q=>?_⟩
    .rcases Hi.mp (mp.mem_iff.mp q) with z |z
     .exact c1.2.2 u B v z
     .exact hU u B v (LK z)
    .rcases Hi.mp B with z |z
     .exact hU u z v (JW q)
     .rcases Hi.mp (mp.mem_iff.mp z) with z |z
      .exact hZ u (JW z) v q
      .exact c2.2.2 u z v q
 have N:∀(r:Array HN) g,Mgd R x.toList y.toList r.toList->Q true (SortSt.mk' (kindOf f) ((r.toList.zipIdx).foldl (λa (x:HN×Nat)=>a.setIfInBounds (o+k+x.2) x.1) (HG f)) (((Kc f).setIfInBounds i (o,n+J,pw)).eraseIdxIfInBounds (i+1)) g (M5 f)):=λr g m=>h _ _ Z hf rfl (fin r m).1 (fin r m).2;by_cases hc:n-k<=l
 .rw[if_pos hc];refine G0 (mlo K O2 px py x0 y0 (U4 _ (b6 x0)) UK Z λr g m=>?_);refine G0 (MD ?_);refine G0 (Ny ?_);have:=N r g m;refine Hf ?_;show Q (M5 f).isNone _;rw[show (M5 f).isNone=true by rw[hf];rfl];exact this
 .rw[if_neg hc];refine G0 (mhi K O2 px py x0 y0 (UK _ (b6 (NR y0 Ng))) U4 Z λr g m=>?_);refine G0 (MD ?_);refine G0 (Ny ?_);have:=N r g m;refine Hf ?_;show Q (M5 f).isNone _;rw[show (M5 f).isNone=true by rw[hf];rfl];exact this
end
variable {R:HN→HN→Bool}{κ:MM}{P:HN→Prop}{l:List HN}
section
variable {prog:GX}{w:HF}{A:HM}{E:GM→GP→Prop}{s:GP}
structure Ord(P:HN->Prop)(R:HN->HN->Bool)(l:List HN):Prop where
 tr:∀x y z,R x y=true->R y z=true->R x z=true
 tot:∀x∈l,∀y∈l,x≠y->R x y=false->R y x=true
 nd:l.Nodup
 hp:∀x∈l,P x
structure Stt(κ:MM)(l:List HN)(pd:Array (Nat×Nat×Nat))(st:IV):Prop where
 kind:kindOf st=κ
 failed:M5 st=none
 perm:(HG st).toList.Perm l
 pend:Kc st=pd
variable {pd:Array (Nat×Nat×Nat)}
theorem Stt.size{a:IV}(S:Stt κ l pd a):(HG a).size=l.length:=by rw[<-GQ,S.perm.length_eq]
theorem Stt.p(O:Ord P R l){a:IV}(S:Stt κ l pd a){i:Nat}(h:i<l.length):P (gt (HG a) i):=O.hp _ (S.perm.mem_iff.mp (b6 (by rw[S.size];exact h)))
theorem Stt.tot(O:Ord P R l){a:IV}(S:Stt κ l pd a){i j:Nat}(b:i<l.length)(c:j<l.length)(g:i≠j)(f:R (gt (HG a) i) (gt (HG a) j)=false):R (gt (HG a) j) (gt (HG a) i)=true:=by
 refine O.tot _ (S.perm.mem_iff.mp (b6 (by rw[S.size];exact b))) _ (S.perm.mem_iff.mp (b6 (by rw[S.size];exact c))) (λe=>g ?_) f;have d:i<(HG a).toList.length:=by rw[GQ,S.size];exact b
 have h:j<(HG a).toList.length:=by rw[GQ,S.size];exact c
 rw[gt_eq d,gt_eq h]at e;exact (Oe (S.perm.nodup_iff.mpr O.nd)).mp e
theorem Stt.arr{b:IV}(S:Stt κ l pd b){a:Array HN}(h:a.Perm (HG b)):Stt κ l pd (setArr b a):=⟨S.kind,S.failed,(Array.perm_iff_toList_perm.mp h).trans S.perm,S.pend⟩
theorem ltK(K:Asks prog w A E s κ P R)(O:Ord P R l){i j:Nat}{a:IV}{Q:Option Bool->IV->Prop}(S:Stt κ l pd a)(b:i<l.length)(c:j<l.length)(h:Q (some (R (gt (HG a) i) (gt (HG a) j))) a):wpS (Hr prog w) A E s (ltAt' i j) Q a:=by
 rw[ltAt'_eq];refine G0 (Ny ?_);refine G0 (el (by rw[S.size];exact b) ?_);refine G0 (el (by rw[S.size];exact c) ?_);exact K _ _ _ _ (S.p O b) (S.p O c) S.kind h
theorem pY{a b:Array HN}{i j:Nat}(h:a[i]?=b[j]?):gt a i=gt b j:=by
 unfold gt;rw[IP,IP,h]
def Up(R:HN->HN->Bool)(a:Array HN)(b m:Nat):Prop:=∀i j,i<j->j<m->R (gt a (b+i)) (gt a (b+j))=true
def Dn(R:HN->HN->Bool)(a:Array HN)(b m:Nat):Prop:=∀i j,i<j->j<m->R (gt a (b+j)) (gt a (b+i))=true
def Kept(a b:Array HN)(c:Nat):Prop:=∀j,j<c->gt b j=gt a j
theorem DN{a:Array HN}{b d:Nat}(hs:b<a.size)(g:d<=b)(k:Nat):gt (Sa a b d) k=if k=b-d then gt a b else if b-d<k/\k<=b then gt a (k-1) else gt a k:=by
 have e:=getElem?_bubble hs d g k;by_cases f:k=b-d
 .rw[if_pos f]at e |-;exact pY e
 .rw[if_neg f]at e |-;by_cases c:b-d<k/\k<=b
  .rw[if_pos c]at e |-;exact pY e
  .rw[if_neg c]at e |-;exact pY e
theorem td{a:Array HN}{i j:Nat}(c:j<=a.size)(k:Nat):gt (RO a i j ((j-i)/2)) k=if i<=k/\k<j then gt a (i+j-1-k) else gt a k:=by
 have e:=getElem?_mirror_all (xs:=a) (i:=i) c k;by_cases b:i<=k/\k<j
 .rw[if_pos b]at e |-;exact pY e
 .rw[if_neg b]at e |-;exact pY e
variable (K:Asks prog w A E s κ P R)
include K
theorem FZ(O:Ord P R l){a n Z:Nat}{y:IV}{Q:Bool->IV->Prop}(hn:a+n<=l.length)(hok:Z<=n)(S:Stt κ l pd y)(hs:Up R (HG y) a Z)
  (h:∀b,Stt κ l pd b->Kept (HG y) (HG b) a->Up R (HG b) a n->Q true b):wpS (Hr prog w) A E s (binarySort' a n Z) Q y:=by
 rw[binarySort'_eq]
 refine G0 (KD (J2 (I:=λk c b=>c=(none,())/\Stt κ l pd b/\Kept (HG y) (HG b) a/\Up R (HG b) a (min k n))
  (Q:=λc b=>c=(none,())/\Stt κ l pd b/\Kept (HG y) (HG b) a/\Up R (HG b) a n) ?step ?fin ?init) ?post)
 case post=>
  rintro c b ⟨rfl,q,D,m⟩;exact Hf (h b q D m)
 case init=>
  refine⟨rfl,S,λ_ _=>rfl,λi j f M=>?_⟩;exact hs i j f (by lia)
 case fin=>
  rintro c b ⟨hc,q,D,m⟩;refine⟨hc,q,D,?_⟩
  rwa [QS (Oh _ _)]at m
 case step=>
  rintro k c b hak u ⟨rfl,q,D,m⟩;rw[Mq (Hd u)]at m;have U:a+k<l.length:=GT (LW u a) hn
  refine G0 (KD (J2 (I:=λx c d=>d=b/\∃p r,c=(none,p,r)/\p<=r/\r<=k/\r+x<=k+p/\
    (∀i,i<p->R (gt (HG b) (a+i)) (gt (HG b) (a+k))=true)/\(∀i,r<=i->i<k->R (gt (HG b) (a+k)) (gt (HG b) (a+i))=true))
   (Q:=λc d=>d=b/\∃p r,c=(none,p,r)/\p<=k/\
    (∀i,i<p->R (gt (HG b) (a+i)) (gt (HG b) (a+k))=true)/\(∀i,p<=i->i<k->R (gt (HG b) (a+k)) (gt (HG b) (a+i))=true)) ?istep ?ifin ?iinit) ?ipost)
  case iinit=>exact⟨rfl,0,k,rfl,Ir _,GK _,GK _,λi hi=>absurd hi (M_ _),λi G W=>absurd W (Nat.not_lt.mpr G)⟩
  case ifin=>
   rintro c d ⟨rfl,p,r,rfl,t,g,N,B,v⟩;have:p=r:=md6 t N;subst this;exact⟨rfl,p,p,rfl,g,B,v⟩
  case istep=>
   rintro x c d _ hxk ⟨rfl,p,r,rfl,t,g,N,B,v⟩;dsimp only;by_cases F:p ≥ r
   .rw[if_pos F];have:p=r:=Lq t F;subst this;exact Hf ⟨rfl,p,p,rfl,g,B,v⟩
   .rw[if_neg F];have X:=md1 F;have d2:=md2 F;have V:(p+r)/2<k:=GT X g;have d4:a+(p+r)/2<l.length:=Kp (LW V a) U;refine G0 (ltK K O q U d4 ?_);dsimp only;by_cases H:R (gt (HG d) (a+k)) (gt (HG d) (a+(p+r)/2))=true
    .rw[if_pos H];refine Hf ⟨rfl,p,(p+r)/2,rfl,d2,Hd V,md3 N X,B,λi G W=>?_⟩;rcases Hk G with z |z
     .exact O.tr _ _ _ H (m _ _ z W)
     .rw[<-z];exact H
    .rw[if_neg H];have ht:=q.tot O U d4 (λe=>Hw _ (Nat.lt_of_lt_of_eq V (Nat.add_left_cancel e))) (eq_false_of_ne_true H);refine Hf ⟨rfl,(p+r)/2+1,r,rfl,X,g,md4 N d2,λi G=>?_,v⟩;rcases Hk (Ib G) with z |z
     .exact O.tr _ _ _ (m _ _ z V) ht
     .rw[z];exact ht
  case ipost=>
   rintro c d ⟨rfl,p,r,rfl,J,B,v⟩;show wpS _ _ _ _ (do moveDown' (a+k) (a+p);pure (ForInStep.yield (none,()))) _ _;rw[moveDown'_eq];have hks:a+k<(HG d).size:=by rw[q.size];exact U
   have at_:∀j,gt (Sa (HG d) (a+k) (a+k-(a+p))) j=if j=a+p then gt (HG d) (a+k) else if a+p<j/\j<=a+k then gt (HG d) (j-1) else gt (HG d) j:=λj=>by
    have:=DN hks (RN _ (a+p)) j
    rwa [Ot (LV J a)]at this
   refine G0 (MD (Hf ⟨rfl,q.arr (bubble_perm _ _ _),λj M=>?_,?_⟩))
   .show gt (Sa (HG d) (a+k) (a+k-(a+p))) j=_;have o:=GT M (HQ a p);rw[at_,if_neg (Hn o),if_neg λz=>Nat.lt_asymm z.1 o];exact D j M
   .rw[Mq u];intro i j f M;show R (gt (Sa (HG d) (a+k) (a+k-(a+p))) (a+i)) (gt (Sa (HG d) (a+k) (a+k-(a+p))) (a+j))=true
    have L:∀j,gt (Sa (HG d) (a+k) (a+k-(a+p))) (a+j)=if j=p then gt (HG d) (a+k) else if p<j/\j<=k then gt (HG d) (a+(j-1)) else gt (HG d) (a+j):=λj=>by
     rw[at_];simp only[Nat.add_left_cancel_iff,Nat.add_lt_add_iff_left,Nat.add_le_add_iff_left];by_cases c:p<j
     .rw[ME (Qw (LF c)) a]
     .rw[if_neg (c:=p<j/\j<=k) λz=>c z.1,if_neg (c:=p<j/\j<=k) λz=>c z.1]
    have o:=Ib M;rw[L,L];by_cases Y:i=p
    .subst Y;rw[if_pos rfl,if_neg (Km f),if_pos ⟨f,o⟩];exact v _ (LL f) (KH (LF f) o)
    .rw[if_neg Y];by_cases C:p<i
     .have c:=Kp C f;rw[if_pos ⟨C,HB (Hd f) o⟩,if_neg (Km c),if_pos ⟨c,o⟩];exact m _ _ (Nat.sub_lt_sub_right (Qw (LF C)) f) (KH (LF f) o)
     .have a3:i<p:=IW (JU C) Y;rw[if_neg λz=>C z.1];by_cases b1:j=p
      .subst b1;rw[if_pos rfl];exact B _ a3
      .rw[if_neg b1];by_cases T:p<j
       .rw[if_pos ⟨T,o⟩];exact m _ _ (GT a3 (LL T)) (KH (LF f) o)
       .rw[if_neg λz=>T z.1];exact m _ _ f (GT (IW (JU T) b1) J)
end
section
variable {prog:GX}{w:HF}{A:HM}{E:GM→GP→Prop}{s:GP}{pd:Array (Nat×Nat×Nat)}
theorem Up.more(f:∀x y z,R x y=true->R y z=true->R x z=true){a:Array HN}{b m:Nat}(S:Up R a b m)(d:1<=m)(h:R (gt a (b+m-1)) (gt a (b+m))=true):Up R a b (m+1):=λi j c g=>by
 rcases Hk (Ib g) with z |z
 .exact S i j c z
 .subst z;have e:b+(j-1)=b+j-1:=(ME d b).symm;rcases Hk (LL c) with y |y
  .have:=S i (j-1) y (KH d (GK j));rw[e]at this;exact f _ _ _ this h
  .subst y;rw[e];exact h
theorem Dn.more(f:∀x y z,R x y=true->R y z=true->R x z=true){a:Array HN}{b m:Nat}(S:Dn R a b m)(d:1<=m)(h:R (gt a (b+m)) (gt a (b+m-1))=true):Dn R a b (m+1):=λi j c g=>by
 rcases Hk (Ib g) with z |z
 .exact S i j c z
 .subst z;have e:b+(j-1)=b+j-1:=(ME d b).symm;rcases Hk (LL c) with y |y
  .have:=S i (j-1) y (KH d (GK j));rw[e]at this;exact f _ _ _ h this
  .subst y;rw[e];exact h
theorem rvs{i j:Nat}{Q:Unit->IV->Prop}{a:IV}(h:Q () (setArr a (RO (HG a) i j ((j-i)/2)))):wpS (Hr prog w) A E s (reverseSlice' i j) Q a:=by
 rw[reverseSlice'_eq];exact MD h
variable (K:Asks prog w A E s κ P R)
include K
theorem cnt(O:Ord P R l){a f:Nat}{o:IV}{Q:Option Nat->IV->Prop}(V:a+f<=l.length)(v:1<=f)(S:Stt κ l pd o)
  (h:∀m b,Stt κ l pd b->Kept (HG o) (HG b) a->1<=m->m<=f->Up R (HG b) a m->Q (some m) b):wpS (Hr prog w) A E s (countRun' a f) Q o:=by
 rw[countRun'_eq];dsimp only;refine G0 (KD (J2 (I:=λx c b=>b=o/\c=(none,x)/\Up R (HG o) a x) (Q:=λc b=>b=o/\∃n,c=(none,n)/\1<=n/\n<=f/\Up R (HG o) a n/\(n<f->R (gt (HG o) (a+n)) (gt (HG o) (a+n-1))=true)) ?s1 ?f1 ⟨rfl,rfl,λi j U W=>by lia⟩) ?p1)
 case s1=>
  rintro x c b k D ⟨rfl,rfl,u⟩;dsimp only;refine G0 (ltK K O S (show a+x<l.length by lia) (show a+x-1<l.length by lia) ?_);dsimp only;by_cases g:R (gt (HG b) (a+x)) (gt (HG b) (a+x-1))=true
  .rw[if_pos g];exact Hf ⟨rfl,x,rfl,k,by lia,u,λ_=>g⟩
  .rw[if_neg g];exact Hf ⟨rfl,rfl,u.more O.tr k (S.tot O (by lia) (by lia) (by lia) (by simpa using g))⟩
 case f1=>
  rintro c b ⟨rfl,rfl,u⟩;rw[show max 1 f=f by lia]at u |-
  exact⟨rfl,f,rfl,v,GK _,u,λz=>by lia⟩
 case p1=>
  rintro c b ⟨rfl,n,rfl,r,q,u,L⟩;dsimp only;by_cases e:(n==f)=true
  .rw[if_pos e];exact Hf (h n _ S (λ_ _=>rfl) r q u)
  rw[if_neg e];have F:n<f:=by have z:¬ n=f:=(by simpa using e);lia
  by_cases t:n >1
  .rw[if_pos t];refine G0 (ltK K O S (show a<l.length by lia) (show a+n-1<l.length by lia) ?_);dsimp only;have z:=u 0 (n-1) (by lia) (by lia);rw[Lj,show a+(n-1)=a+n-1 by lia]at z
   rw[if_pos z];exact Hf (h n _ S (λ_ _=>rfl) r q u)
  rw[if_neg t];obtain rfl:n=1:=by lia
  have M:Dn R (HG b) a 2:=Dn.more O.tr (λi j x y=>by lia) (GK _) (L F);refine G0 (ru ?_)
  try dsimp only
  refine G0 (KD (J2 (I:=λx c st2=>st2=b/\c=(none,x,0)/\Dn R (HG b) a x) (Q:=λc st2=>st2=b/\∃n,c=(none,n,0)/\2<=n/\n<=f/\Dn R (HG b) a n) ?s2 ?f2 ⟨rfl,rfl,M⟩) ?p2)
  case s2=>
   rintro x c st2 k D ⟨rfl,rfl,u⟩;dsimp only;refine G0 (ltK K O S (show a+x<l.length by lia) (show a+x-1<l.length by lia) ?_);dsimp only;by_cases g:R (gt (HG st2) (a+x)) (gt (HG st2) (a+x-1))=true
   .rw[if_pos g,if_neg (by lia)];exact Hf ⟨rfl,rfl,u.more O.tr (by lia) g⟩
   .rw[if_neg g];refine G0 (ltK K O S (show a+x-1<l.length by lia) (show a+x<l.length by lia) ?_);dsimp only;rw[if_pos (S.tot O (by lia) (by lia) (by lia) (by simpa using g))];exact Hf ⟨rfl,x,rfl,k,by lia,u⟩
  case f2=>
   rintro c st2 ⟨rfl,rfl,u⟩;rw[show max (1+1) f=f by lia]at u |-
   exact⟨rfl,f,rfl,by lia,GK _,u⟩
  case p2=>
   rintro c st2 ⟨rfl,n,rfl,r,q,d⟩;dsimp only;rw[if_neg (by lia)];refine G0 (rvs ?_);have sz:=S.size;have p:Stt κ l pd (setArr st2 (RO (HG st2) a (a+n) ((a+n-a)/2))):=S.arr (mirror_perm _ _ _ _)
   have B:Kept (HG st2) (RO (HG st2) a (a+n) ((a+n-a)/2)) a:=λj N=>by
    rw[td (by lia),if_neg (by lia)]
   have C:Up R (RO (HG st2) a (a+n) ((a+n-a)/2)) a n:=λi j T N=>by
    rw[td (by lia),td (by lia),if_pos (by lia),if_pos (by lia),show a+(a+n)-1-(a+i)=a+(n-1-i) by lia,show a+(a+n)-1-(a+j)=a+(n-1-j) by lia];exact d _ _ (by lia) (by lia)
   generalize TU:setArr st2 (RO (HG st2) a (a+n) ((a+n-a)/2))=st3 at p |-;have H:HG st3=RO (HG st2) a (a+n) ((a+n-a)/2):=by rw[<-TU]
   rw[<-H]at B C;refine G0 (KD (J2 (I:=λx c b=>b=st3/\c=(none,x)/\Up R (HG st3) a x) (Q:=λc b=>b=st3/\∃m,c=(none,m)/\1<=m/\m<=f/\Up R (HG st3) a m) ?s3 ?f3 ⟨rfl,rfl,C⟩) ?p3)
   case s3=>
    rintro x c b k D ⟨rfl,rfl,u⟩;dsimp only;refine G0 (ltK K O p (show a+x<l.length by lia) (show a+x-1<l.length by lia) ?_);dsimp only;by_cases g:R (gt (HG b) (a+x)) (gt (HG b) (a+x-1))=true
    .rw[if_pos g];exact Hf ⟨rfl,x,rfl,by lia,by lia,u⟩
    .rw[if_neg g];exact Hf ⟨rfl,rfl,u.more O.tr (by lia) (p.tot O (by lia) (by lia) (by lia) (by simpa using g))⟩
   case f3=>
    rintro c b ⟨rfl,rfl,u⟩;rw[show max n f=f by lia]at u |-
    exact⟨rfl,f,rfl,v,GK _,u⟩
   case p3=>
    rintro c b ⟨rfl,m,rfl,G,J,u⟩;exact Hf (h m _ p B G J u)
end
section
variable {prog:GX}{w:HF}{A:HM}{E:GM→GP→Prop}{s:GP}
noncomputable def Ch(R:HN->HN->Bool)(a:Array HN):List (Nat×Nat×Nat)->Nat->Nat->Prop
 |[],x,y=>x=y
 |r::t,x,y=>r.1=x/\0<r.2.1/\Up R a x r.2.1/\Ch R a t (x+r.2.1) y
theorem Ch.len{a:Array HN}:∀{p:List (Nat×Nat×Nat)}{x y:Nat},Ch R a p x y->x+p.length<=y
 |[],x,y,h=>by have:x=y:=h;simp;lia
 |r::t,x,y,h=>by
  have:=Ch.len h.2.2.2;have:=h.2.1;simp;lia
theorem Ch.app{a:Array HN}:∀{p q:List (Nat×Nat×Nat)}{x y:Nat},Ch R a (p++q) x y↔∃z,Ch R a p x z/\Ch R a q z y
 |[],q,x,y=>⟨λh=>⟨x,rfl,h⟩,λ⟨z,c,b⟩=>by have:x=z:=c;subst this;exact b⟩
 |r::t,q,x,y=>by
  constructor
  .rintro ⟨c,b,e,d⟩;obtain⟨z,i,f⟩:=Ch.app.mp d;exact⟨z,⟨c,b,e,i⟩,f⟩
  .rintro ⟨z,⟨c,b,e,d⟩,g⟩;exact⟨c,b,e,Ch.app.mpr ⟨z,d,g⟩⟩
theorem Ch.congr{a b:Array HN}:∀{p:List (Nat×Nat×Nat)}{x y:Nat},(∀j,x<=j->j<y->gt b j=gt a j)->Ch R a p x y->Ch R b p x y
 |[],x,y,_,h=>h
 |r::t,x,y,e,h=>by
  have:=Ch.len h.2.2.2;refine⟨h.1,h.2.1,λi j d f=>?_,Ch.congr (λj g c=>e j (by lia) c) h.2.2.2⟩;rw[e _ (by lia) (by lia),e _ (by lia) (by lia)];exact h.2.2.1 i j d f
theorem wj(a:Array HN)(j:Nat):gt a j=a.toList.getD j (Lb,Lb):=by simp[gt]
theorem EJ{X Y:List HN}{j:Nat}{d:HN}(h:j<X.length):(X++Y).getD j d=X.getD j d:=by
 rw[G7,G7,Hg h]
theorem Bl{X Y:List HN}{j:Nat}{d:HN}(h:X.length<=j):(X++Y).getD j d=Y.getD (j-X.length) d:=by
 rw[G7,G7,Hj h]
theorem Eo{a:Type}(X:List a)(c b v:a)(Y:List a):((X++c::b::Y).set X.length v).eraseIdx (X.length+1)=X++v::Y:=by
 rw[Pa _ _ (GK _),QI,List.eraseIdx_append_of_length_le (by lia),Mp];rfl
theorem parts(L:List HN)(x y z:Nat):L=L.take x++(L.drop x).take y++(L.drop (x+y)).take z++L.drop (x+y+z):=by
 have c:=Hv x L;have a:=Hv y (L.drop x);have b:=Hv z (L.drop (x+y));rw[Rz]at a b;rw[G8,b,G8,a,c]
variable (K:Asks prog w A E s κ P R)
include K
theorem Fr(O:Ord P R l){p:Array (Nat×Nat×Nat)}{F i:Nat}{b:IV}{Q:Bool->IV->Prop}(S:Stt κ l p b)(C:Ch R (HG b) p.toList 0 F)(UK:F<=l.length)(t:i+1<p.size)
  (h:∀p' n,Stt κ l p' n->Ch R (HG n) p'.toList 0 F->p'.size+1=p.size->(∀j,F<=j->gt (HG n) j=gt (HG b) j)->Q true n):wpS (Hr prog w) A E s (mergeAt' i) Q b:=by
 have lp:p.toList.length=p.size:=by simp
 have hi0:i<p.size:=by lia
 have ep:p.toList=p.toList.take i++(p[i]::p[i+1]::p.toList.drop (i+2)):=by
  conv=>lhs;rw[←Hv i p.toList,HZ (show i<p.toList.length by lia),HZ (show i+1<p.toList.length by lia)]
  rfl
 have T:(Kc b)[i]?=some (p[i].1,p[i].2.1,p[i].2.2):=by rw[S.pend,Iu hi0]
 have M:(Kc b)[i+1]?=some (p[i+1].1,p[i+1].2.1,p[i+1].2.2):=by rw[S.pend,Iu t]
 rw[ep]at C;obtain⟨sa,C1,e1,n1,u1,e2,n2,u2,C2⟩:=Ch.app.mp C;have C2l:=C2.len;generalize hp1:p[i]=r1 at *;generalize hp2:p[i+1]=r2 at *;obtain⟨a,c,v⟩:=r1;obtain⟨sb,d,Z⟩:=r2;dsimp only at *;subst e1;subst e2;have sz:=S.size;have la:(HG b).toList.length=l.length:=by rw[GQ,sz]
 have r:=parts (HG b).toList a c d;have lX:((HG b).toList.take a).length=a:=by simp;lia
 have l1:(((HG b).toList.drop a).take c).length=c:=by simp;lia
 have l2:(((HG b).toList.drop (a+c)).take d).length=d:=by simp;lia
 have c1:∀j (g:j<(((HG b).toList.drop a).take c).length),(((HG b).toList.drop a).take c)[j]=gt (HG b) (a+j):=λj g=>by
  rw[gt_eq (by lia)];simp
 have c2:∀j (g:j<(((HG b).toList.drop (a+c)).take d).length),(((HG b).toList.drop (a+c)).take d)[j]=gt (HG b) (a+c+j):=λj g=>by
  rw[gt_eq (by lia)];simp
 generalize hX:(HG b).toList.take a=X at *;generalize hS1:((HG b).toList.drop a).take c=W at *;generalize hS2:((HG b).toList.drop (a+c)).take d=I at *;generalize hY:(HG b).toList.drop (a+c+d)=Y at *
 have o:∀x∈W++I,x∈l:=λx B=>S.perm.mem_iff.mp (by
  rw[r];rcases Hi.mp B with z |z <;>simp[z])
 have nd:(X++W++I++Y).Nodup:=by rw[<-r];exact S.perm.nodup_iff.mpr O.nd
 have U:MO R W I:=by
  refine⟨O.tr,G6.mpr λi j t g H=>?_,G6.mpr λi j t g H=>?_,λx B y D hr=>O.tot y (o y (Ha _ D)) x (o x (Hm _ B)) (λe=>?_) hr⟩
  .rw[c1 i t,c1 j g];exact u1 i j H (by lia)
  .rw[c2 i t,c2 j g];exact u2 i j H (by lia)
  .have J:=(JJ.mp nd).1;exact (JJ.mp J).2.2 x (Ha _ B) y D e.symm
 refine mat K S.kind S.failed T M r lX l1 l2 rfl n1 n2 (λx B=>O.hp x (o x B)) U λN n k f V u m=>?_;have lS:N.length=c+d:=by rw[m.1.length_eq,He,l1,l2]
 have L:(((Kc b).setIfInBounds i (a,c+d,v)).eraseIdxIfInBounds (i+1)).toList=p.toList.take i++((a,c+d,v)::p.toList.drop (i+2)):=by
  rw[S.pend]
  have z:((p.setIfInBounds i (a,c+d,v)).eraseIdxIfInBounds (i+1)).toList=(p.toList.set i (a,c+d,v)).eraseIdx (i+1):=by
   rw[Array.eraseIdxIfInBounds,dif_pos (by simpa using t),Array.toList_eraseIdx,Nm]
  have li:(p.toList.take i).length=i:=by simp;lia
  have y:=Eo (p.toList.take i) (a,c,v) (a+c,d,Z) (a,c+d,v) (p.toList.drop (i+2));rw[<-ep,li]at y;rw[z,y]
 rw[<-V]at L;refine h (Kc n) n ⟨k,f,?_,rfl⟩ ?_ ?_ λj g=>?_
 .rw[u];refine Rc ?_ S.perm;rw[r];refine OD _ ?_;rw[G8];exact JN _ m.1
 .rw[L];refine Ch.app.mpr ⟨a,C1.congr λj T M=>?_,rfl,(by dsimp only;lia),λx y G D=>?_,?_⟩
  .rw[wj,wj,u,r];simp only[G8];rw[EJ (by lia),EJ (by lia)]
  .have q:∀j (g:j<N.length),gt (HG n) (a+j)=N[j]:=λj g=>by
    rw[gt_eq (by rw[u];simp;lia)];simp only[u];rw[NS (by simp;lia),Nz (by lia)];congr 1;lia
   dsimp only at D;rw[q x (by lia),q y (by lia)];exact G6.mp m.2 _ _ _ _ G
  .dsimp only;rw[<-Mj];refine C2.congr λj T M=>?_;rw[wj,wj,u,r];rw[Bl (by simp;lia),Bl (by simp;lia)];congr 1;simp;lia
 .have:(Kc n).toList.length=_:=congrArg M9 L;simp at this;lia
 .rw[wj,wj,u,r];rw[Bl (by simp;lia),Bl (by simp;lia)];congr 1;simp;lia
end
section
variable {prog:GX}{w:HF}{A:HM}{E:GM→GP→Prop}{s:GP}
theorem ilt{c:Prop}[Decidable c]{a b n:Nat}(e:a+1<n)(d:b+1<n):(if c then a else b)+1<n:=by split <;>assumption
theorem Ch.modL{a:Array HN}(b:Nat):∀{p:List (Nat×Nat×Nat)} (k:Nat) {x y:Nat},Ch R a p x y->Ch R a (p.modify k λr=>(r.1,r.2.1,b)) x y
 |[],k,x,y,h=>by rw[List.modify_nil];exact h
 |r::t,0,x,y,h=>by rw[List.modify_zero_cons];exact h
 |r::t,k+1,x,y,h=>by rw[List.modify_succ_cons];exact⟨h.1,h.2.1,h.2.2.1,Ch.modL b k h.2.2.2⟩
theorem Ch.mod{a:Array HN}{p:Array (Nat×Nat×Nat)}{x y:Nat}(h:Ch R a p.toList x y)(b k:Nat):Ch R a (p.modify k λr=>(r.1,r.2.1,b)).toList x y:=by
 rw[Array.toList_modify];exact h.modL b k
variable (K:Asks prog w A E s κ P R)
include K
theorem sruns(O:Ord P R l){st:IV}{Q:Unit->IV->Prop}(S:Stt κ l #[] st)(h:∀pd SK,Stt κ l pd SK->Up R (HG SK) 0 l.length->Q () SK):wpS (Hr prog w) A E s sortRuns' Q st:=by
 rw[sortRuns'_eq];refine G0 (Ny ?_)
 try dsimp -zeta only
 simp -zeta only[S.size];refine G0 (KD (sQ (I:=λx c SK=>∃lo pd,c=(none,lo)/\Stt κ l pd SK/\Ch R (HG SK) pd.toList 0 lo/\lo<=l.length/\x<=lo) (Q:=λc SK=>∃pd,c=(none,l.length)/\Stt κ l pd SK/\Ch R (HG SK) pd.toList 0 l.length) ?step ?fin ⟨0,#[],rfl,S,rfl,Ir _,Ir _⟩) ?post)
 case fin=>
  rintro c SK ⟨lo,pd,rfl,S',C,UK,px⟩;obtain rfl:lo=l.length:=by lia
  exact⟨pd,rfl,S',C⟩
 case step=>
  rintro x c SK hx ⟨lo,pd,rfl,S',C,UK,px⟩ post qd qy;dsimp -zeta only;refine wif (λ(Vg:lo ≥ l.length)=>Hf (qd _ _ ⟨pd,by rw[show lo=l.length by lia],S',by rw[show lo=l.length by lia]at C;exact C⟩)) λVg=>?_;have Vg:¬ lo ≥ l.length:=Vg;refine G0 (cnt K O (show lo+(l.length-lo)<=l.length by lia) (by lia) S' λm st2 S2 kp m1 m2 u=>?_);dsimp -zeta only
  extract_lets+onlyGivenNames q1 j
  have hj:∀nn st3,0<nn->nn<=l.length-lo->Stt κ l pd st3->Ch R (HG st3) pd.toList 0 lo->Up R (HG st3) lo nn->wpS (Hr prog w) A E s (j () nn) post st3:=λnn st3 f1 f2 S3 C3 u3=>by
   refine G0 (Ny ?_);have hp:Kc st3=pd:=S3.pend;rw[hp];dsimp only;cases hb:pd.back? with
   |none=>
    try dsimp only
    refine G0 (MD (Hf (qy _ _ ⟨lo+nn,pd.push (lo,nn,0),rfl,?_,?_,by lia,by lia⟩)))
    .exact⟨S3.kind,S3.failed,S3.perm,by show (Kc st3).push _=_;rw[hp]⟩
    .rw[J7];exact Ch.app.mpr ⟨lo,C3,rfl,f1,u3,rfl⟩
   |some v=>
    obtain⟨s1,n1,pw0⟩:=v
    try dsimp only
    generalize power' _ _ _ _=pw;refine G0 (KD (J2 (I:=λ_ c SK=>∃pd,c=(none,())/\Stt κ l pd SK/\Ch R (HG SK) pd.toList 0 lo/\Up R (HG SK) lo (nn)) (Q:=λc SK=>∃pd,c=(none,())/\Stt κ l pd SK/\Ch R (HG SK) pd.toList 0 lo/\Up R (HG SK) lo (nn)) ?_ (λ_ _ z=>z) ⟨pd,rfl,S3,C3,u3⟩) ?_)
    .rintro y c st4 _ hy ⟨pd,rfl,S4,C4,u4⟩
     try dsimp only
     refine G0 (Ny ?_);rw[S4.pend];by_cases hs:pd.size >1
     .rw[if_pos hs,Iu (show pd.size-2<pd.size by lia)];generalize pd[pd.size-2]=q;obtain⟨q1,q2,q3⟩:=q
      try dsimp only
      by_cases ho:q3<=pw
      .rw[if_pos ho];exact Hf ⟨pd,rfl,S4,C4,u4⟩
      .rw[if_neg ho];refine G0 (Fr K O S4 C4 UK (show pd.size-2+1<pd.size by lia) λp' st5 S5 C5 _ k5=>?_);simp only[IG,G4,if_false];exact Hf ⟨p',rfl,S5,C5,λi j Tf hj=>by rw[k5 _ (by lia),k5 _ (by lia)];exact u4 i j Tf hj⟩
     .rw[if_neg hs];exact Hf ⟨pd,rfl,S4,C4,u4⟩
    .rintro c st4 ⟨pd,rfl,S4,C4,u4⟩
     try dsimp only
     have hp4:=S4.pend;refine G0 (MD ?_);refine G0 (MD (Hf (qy _ _ ⟨lo+nn,(pd.modify (pd.size-1) λr=>(r.1,r.2.1,pw)).push (lo,nn,0),rfl,?_,?_,by lia,by lia⟩)))
     .refine⟨S4.kind,S4.failed,S4.perm,?_⟩;show ((Kc st4).modify ((Kc st4).size-1) λr=>(r.1,r.2.1,pw)).push _=_;rw[hp4]
     .rw[J7];exact Ch.app.mpr ⟨lo,C4.mod pw _,rfl,f1,u4,rfl⟩
  have C2:Ch R (HG st2) pd.toList 0 lo:=C.congr λj _ hj=>kp j hj;refine wif (λ(hm:m<minRun' l.length l.length 0)=>?_) λ_=>hj m st2 (by lia) (by lia) S2 C2 u;refine G0 (ru (G0 (FZ K O (show lo+min (l.length-lo) (minRun' l.length l.length 0)<=l.length by lia) (show m<=min (l.length-lo) (minRun' l.length l.length 0) by lia) S2 u λst3 S3 k3 u3=>?_)));exact wif (λz=>by simp at z) λ_=>hj _ _ (by lia) (by lia) S3 (C2.congr λj _ hj=>k3 j hj) u3
 case post=>
  rintro c SK ⟨pd,rfl,S',C⟩
  try dsimp only
  refine G0 (KD (J2 (I:=λx c SK=>∃pd,c=(none,())/\Stt κ l pd SK/\Ch R (HG SK) pd.toList 0 l.length/\(pd.size<=1\/pd.size<=l.length-x)) (Q:=λc SK=>∃pd,c=(none,())/\Stt κ l pd SK/\Ch R (HG SK) pd.toList 0 l.length/\pd.size<=1) ?s2 ?f2 ⟨pd,rfl,S',C,.inr (by have:=C.len;rw[GQ]at this;lia)⟩) ?p2)
  case s2=>
   rintro y c st4 _ hy ⟨pd,rfl,S4,C4,hs⟩
   try dsimp only
   refine G0 (Ny ?_);rw[S4.pend];by_cases h1:pd.size<=1
   .rw[if_pos h1];exact Hf ⟨pd,rfl,S4,C4,h1⟩
   .rw[if_neg h1];refine G0 (Fr K O S4 C4 (GK _) (ilt (by lia) (by lia)) λp' st5 S5 C5 e5 k5=>?_);simp only[IG,G4,if_false];exact Hf ⟨p',rfl,S5,C5,by lia⟩
  case f2=>
   rintro c st4 ⟨pd,rfl,S4,C4,hs⟩;exact⟨pd,rfl,S4,C4,by lia⟩
  case p2=>
   rintro c st4 ⟨pd,rfl,S4,C4,h1⟩;refine Hf (h pd st4 S4 ?_);rw[<-GQ]at h1;generalize pd.toList=L at *;cases L with
   |nil=>have:0=l.length:=C4
         intro i j Tf hj;lia
   |cons r t=>
    cases t with
    |nil=>
     obtain⟨_,_,u,e⟩:=C4;have e':0+r.2.1=l.length:=e;rw[Nt]at e';rw[<-e'];exact u
    |cons r2 t=>simp at h1
end
end TS
namespace ST
open PySem PySem.W PyProof.Rows
theorem FQ{d m:Type}{f:d->m}:∀{l1 l2:List m},l1.Perm l2->∀l:List d,l2=l.map f->∃l':List d,l'.Perm l/\l'.map f=l1:=by
 intro l1 l2 h
 induction h with
 |nil=>intro l e;exact⟨l,.refl _,e.symm⟩
 |cons x _ o=>
  intro l e;cases l with
  |nil=>cases e
  |cons a t=>
   obtain⟨i,j⟩:=K7 e;obtain⟨l',p,q⟩:=o t j;exact⟨a::l',p.cons a,by rw[G_,q,i]⟩
 |swap x y r=>
  intro l e
  match l,e with
  |a::b::t,e=>
   obtain⟨i,j⟩:=K7 e;obtain⟨v,u⟩:=K7 j;exact⟨b::a::t,.swap a b t,by rw[G_,G_,i,v,u]⟩
 |trans _ _ c g=>
  intro l e;obtain⟨l',p,q⟩:=g l e;obtain⟨k,s,n⟩:=c l' q.symm;exact⟨k,s.trans p,n⟩
section
variable {prog:GX}{w:HF}{A:HM}{E:GM→GP→Prop}{s:GP}
theorem TK.det{h:Jx}{p q:(Int×Int)×Hc}(j:TK prog w h [p.1.1,p.1.2] p.2)(k:TK prog w h [q.1.1,q.1.2] q.2)(e:p.2=q.2):p=q:=by
 obtain⟨o,its,n,t,u,f,_,d,b⟩:=j.two;obtain⟨x,g,r,s,v,m,_,i,l⟩:=k.two;rw[e,m]at f;cases f;rw[i]at d;cases d;rw[l]at b;have c:=(K7 b).1;have a:=(K7 (K7 b).2).1;injection c with c _
 injection a with a _;exact Ii (Ii c.symm a.symm) e
end
end ST
namespace L2
open PySem PySem.Spec PyProof.Rows
theorem EL{p:Nat->Hc->Prop}{n:Nat}(h:∀i,i<n->∃b,p i b):∃f:Nat->Hc,∀i,i<n->p i (f i):=by
 refine⟨λi=>if k:i<n then QP (h i k) else 0,λi a=>?_⟩;dsimp only;rw[dif_pos a];exact O1 (h i a)
section
variable {X:Cx}{tg:Expr}
noncomputable def Ez(ta:TA):TI:=λc H R=>ta c H λb a=>∃j:Int,b=[.int j]/\R (Itr 0 (j-0).toNat) a
theorem sJ{a:Expr}{ta:TA}{p b:Pos}(g:Gl X "range")(f:X.mg "range"=none)(i:PA X [a] ta)(hs:autoParam (GO [a] X.env=[(false,Kg a X.env)]) w4):
  PI X tg (.Call (.Name "range" p) [a] [] b) (Ez ta):=by
 intro k s n H R I h;refine Call_ (cU I g f Qm (PyProof.Rows.callWith_type1 (thn (i b k s n H _ I h) λv o ⟨u,w,c,l,d⟩=>?_) (by rw[hs];rfl) rfl));obtain⟨j,e,q⟩:=d;subst e;cases l with
 |cons r m=>
  cases m;obtain⟨t,rfl⟩:=r;exact call_range_1 (nF c q)
variable {H0:Hp}{O0:List Hc}{ps:PSt}{a:Expr}{p pos:Pos}
theorem vZ{j:Int}(c:Gl X "range")(e:X.mg "range"=none)(d:EvA X H0 O0 ps [a] [.int j])(hs:autoParam (GO [a] X.env=[(false,Kg a X.env)]) w4):
  EvI X H0 O0 ps tg (.Call (.Name "range" p) [a] [] pos) (f8 0 (j-0).toNat):=
 PI.mono (sJ c e d hs) λg H Q ⟨O,R,q⟩=>⟨O,R,λf b s r=>by
  obtain⟨v,rfl,h⟩:=cq r;cases h;exact⟨j,rfl,q _ b s lg⟩⟩
end
end L2
namespace L2
open PySem PySem.Spec PySem.W PyProof.Rows
noncomputable abbrev T'(l:List Nat):Str:=⟨l.toArray⟩
noncomputable abbrev sg(c:Nat):U:=.str ⟨#[c]⟩
structure EvD(X:Cx)(H0:Hp)(O0:List Hc)(ps:PSt)(e:Expr)(u:U):Prop where
 ev:Ev X H0 O0 ps e u
theorem dsp(h:EvS X H0 O0 ps es us)(a:us.length<=sizeLine):EvD X H0 O0 ps (.List es pos) (.lst us):=⟨EvN.ev (bI h a)⟩
structure EvM(X:Cx)(H0:Hp)(O0:List Hc)(ps:PSt)(e:Expr)(us:List U):Prop where
 ev:EvN X H0 O0 ps e us
theorem EA(h:EvS X H0 O0 ps es us)(a:us.length<=sizeLine):EvM X H0 O0 ps (.List es pos) us:=⟨bI h a⟩
end L2
namespace ST2
open PySem PySem.SetTable ST
section
variable {prog:GX}{w:HF}{A:HM}{E:GM→GP→Prop}{s:GP}
noncomputable abbrev K4:=(Int×Int)×(Int×Int)
noncomputable abbrev l1(k:K4):List Int:=[k.1.1,k.1.2]
noncomputable abbrev l2(k:K4):List Int:=[k.2.1,k.2.2]
def TQ(prog:GX)(w:HF)(h:Jx)(k:K4)(b:Hc):Prop:=∃o items n c a,h.get? b=some o∧o.cls=.type "tuple"∧o.data=.seq items n∧items.toList=[.ref c,.ref a]∧TK prog w h (l1 k) c∧TK prog w h (l2 k) a
variable {hZ:K4→Int}
noncomputable def ents(hZ:K4->Int)(a:List (K4×Hc)):List (Int×GM):=a.map λp=>(hZ p.1,.ref p.2)
structure SP(prog:GX)(w:HF)(hZ:K4->Int)(h:Jx)(S:Hc)(kb:List (K4×Hc)):Prop where
 ex:∃o es ep t,h.get? S=some o∧o.ExactSet∧o.data=.set es ep t∧es.toList=ents hZ kb∧TOk t (kb.map λp=>hZ p.1)∧t.led=(!w.params.followText "set-order")∧t.plain=true∧t.tooFull=false∧t.mask<8*kb.length+8
 keys:∀p∈kb,TQ prog w h p.1 p.2
 nd:(kb.map (·.1)).Nodup
structure Got(kx:Nat->K4×Hc)(i:Nat)(kb:List (K4×Hc)):Prop where
 src:∀p∈kb,∃j,j<i/\p=kx j
 all:∀j,j<i->(kx j).1∈kb.map (·.1)
 len:kb.length<=i
variable {R:RI→GP→Prop}{I:Hc}{fp wr:List Hc}{G:Array M0→Array M0→Prop}{n:Nat}{P:Nat→GM→Prop}{St:Nat→GP→Prop}
end
end ST2
namespace ST3
open PySem PySem.W PySem.Calls PyProof.Rows ST
noncomputable abbrev TR:=(Int×Int)×(Int×Int)×(Int×Int)
noncomputable def ltT(a b:TR):Bool:=if a.1=b.1 then (if a.2.1=b.2.1 then ltP a.2.2 b.2.2 else ltP a.2.1 b.2.1) else ltP a.1 b.1
theorem BR(h:ltT a b=true):ltT b a=false:=by
 unfold ltT at *;by_cases c:a.1=b.1
 .rw[if_pos c]at h;rw[if_pos c.symm];by_cases d:a.2.1=b.2.1
  .rw[if_pos d]at h;rw[if_pos d.symm];exact h7 h
  .rw[if_neg d]at h;rw[if_neg (Ne.symm d)];exact h7 h
 .rw[if_neg c]at h;rw[if_neg (Ne.symm c)];exact h7 h
theorem BG(h:a≠b)(k:ltT a b=false):ltT b a=true:=by
 unfold ltT at *;by_cases d:a.1=b.1
 .rw[if_pos d]at k;rw[if_pos d.symm];by_cases c:a.2.1=b.2.1
  .rw[if_pos c]at k;rw[if_pos c.symm];exact ltP_tot (λe=>h (Ii d (Ii c e))) k
  .rw[if_neg c]at k;rw[if_neg (Ne.symm c)];exact ltP_tot c k
 .rw[if_neg d]at k;rw[if_neg (Ne.symm d)];exact ltP_tot d k
theorem ky:ltP a a=false:=asc_irr
theorem D6(h:ltT a b=true)(k:ltT b c=true):ltT a c=true:=by
 unfold ltT at *;by_cases i:a.1=b.1
 .rw[if_pos i]at h;by_cases f:b.1=c.1
  .rw[if_pos f]at k;rw[if_pos (i.trans f)];by_cases g:a.2.1=b.2.1
   .rw[if_pos g]at h;by_cases d:b.2.1=c.2.1
    .rw[if_pos d]at k;rw[if_pos (g.trans d)];exact jz h k
    .rw[if_neg d]at k;rw[if_neg (by rw[g];exact d),g];exact k
   .rw[if_neg g]at h;by_cases d:b.2.1=c.2.1
    .rw[if_neg (by rw[<-d];exact g),<-d];exact h
    .rw[if_neg d]at k;have t:=jz h k;rw[if_neg (λe=>by rw[e,ky]at t;cases t)];exact t
  .rw[if_neg f]at k;rw[if_neg (by rw[i];exact f),i];exact k
 .rw[if_neg i]at h;by_cases f:b.1=c.1
  .rw[if_neg (by rw[<-f];exact i),<-f];exact h
  .rw[if_neg f]at k;have t:=jz h k;rw[if_neg (λe=>by rw[e,ky]at t;cases t)];exact t
section
variable {prog:GX}{w:HF}{A:HM}{E:GM→GP→Prop}{s:GP}
noncomputable abbrev lq(p:Int×Int):List Int:=[p.1,p.2]
noncomputable def TT(prog:GX)(w:HF)(h:Jx)(t:TR)(b:Hc):Prop:=∃o items n d a c,h.get? b=some o∧o.cls=.type "tuple"∧o.data=.seq items n∧items.toList=[.ref d,.ref a,.ref c]∧TK prog w h (lq t.1) d∧TK prog w h (lq t.2.1) a∧TK prog w h (lq t.2.2) c
theorem TT.grow(x:TT prog w h k b)(e:∀b o,o.cls=.type "tuple"→h.get? b=some o→h'.get? b=some o):TT prog w h' k b:=by
 obtain⟨o,c,n,p,i,j,q,f,m,y,l,v,u⟩:=x;have d:∀{k:List Int}{a:Hc},TK prog w h k a->TK prog w h' k a:=λ{k a} t=>by obtain⟨o,c,n,s,g,r⟩:=t;exact⟨o,c,n,e _ _ g s,g,r⟩
 exact⟨o,c,n,p,i,j,e _ _ f q,f,m,y,d l,d v,d u⟩
theorem E8(h:lq p=lq q):p=q:=by
 obtain⟨a,b⟩:=p;obtain⟨c,d⟩:=q;injection h with h1 h2;injection h2 with h2 _;simp only at h1 h2;rw[h1,h2]
theorem pR(a b):decide (lq a=lq b)=decide (a=b):=decide_eq_decide.mpr ⟨E8,λe=>by rw[e]⟩
theorem DM(M:A.units+1<KZ)(C:TT prog w s.heap a x)(u:TT prog w s.heap b y)(h:Q (ltT a b) s):Ht (Hr prog w) A (keyLt' (OZ false) (.ref x) (.ref y)) Q E s:=by
 obtain⟨o,its,n,I,D,F,v,_,t,k,p,l,m⟩:=C;obtain⟨L,c,H,K,G,J,B,_,r,q,g,i,j⟩:=u;refine kat_lt v t B r ?_;rw[k,q];unfold ltT at h;refine kat_cons (Lg (by lia) p g ?_);rw[pR];by_cases d:a.1=b.1
 .rw[decide_eq_true d];rw[if_pos d]at h;refine kat_yes (kat_cons (Lg (by lia) l i ?_))
  rw[pR];by_cases e:a.2.1=b.2.1
  .rw[decide_eq_true e];rw[if_pos e]at h;refine kat_yes (kat_cons (Lg (by lia) m j ?_))
   rw[pR];by_cases f:a.2.2=b.2.2
   .rw[decide_eq_true f];refine kat_yes (kat_nil ?_);rw[f,ky]at h
    have z:decide (its.size<c.size)=false:=by
     rw[<-GQ,<-GQ,k,q];simp
    rw[z];exact h
   .rw[decide_eq_false f];exact kat_no (kat_one _ _ (lt_ptsR (by lia) m j h))
  .rw[decide_eq_false e];rw[if_neg e]at h;exact kat_no (kat_one _ _ (lt_ptsR (by lia) l i h))
 .rw[decide_eq_false d];rw[if_neg d]at h;exact kat_no (kat_one _ _ (lt_ptsR (by lia) p g h))
noncomputable abbrev PT3:=List (TR×Hc)
noncomputable abbrev CG(pb:PT3):List GM:=pb.map λp=>Ik p.2
theorem xk(j:∀p∈pb,TT prog w s.heap p.1 p.2)(C:0<pb.length)(h:Q (OZ false) s):Ht (Hr prog w) A (RW (CG pb).toArray) Q E s:=by
 obtain⟨fs,c,g,d⟩:∃fs,KatTups s.heap (CG pb) fs∧fs.length=pb.length∧∀v∈fs,∃a o,v=Ik a∧s.heap.get? a=some o∧o.cls=.type "tuple":=by
  clear h C
  induction pb with
  |nil=>exact⟨[],.nil,rfl,λv b=>by simp at b⟩
  |cons p r k=>
   obtain⟨fs,c,g,d⟩:=k λq y=>j q (GG _ y);obtain⟨o,its,n,i,D,F,t,B,l,u,x,_⟩:=j p GR;refine⟨.ref i::fs,.cons t B l (by rw[<-HP,u];rfl) c,by simp[g],λv b=>?_⟩;rcases GF.mp b with z |z
   .obtain⟨m,_,_,f,e,_⟩:=x;exact⟨i,m,z,f,e⟩
   .exact d v z
 refine kat_kind (T:=.type "tuple") c (by lia) (λv b=>?_) (by decide) h;obtain⟨a,o,rfl,f,e⟩:=d v b;rw[<-e];exact (Looks.ld f).andThen .now
end
end ST3
namespace L2
open PySem PySem.Spec PyProof.Rows
noncomputable abbrev trU(t:ST3.TR):U:=.tup [pu t.1,pu t.2.1,pu t.2.2]
noncomputable def t0:ST3.TR:=((0,0),(0,0),(0,0))
section
variable {X:Cx}{H0:Hp}{O0:List Hc}{ps:PSt}{e:Expr}{trs:List ST3.TR}{pos p:Pos}
theorem EM(h:aZ [a,b,c] us):∃u v w,us=[u,v,w]/\ba a u/\ba b v/\ba c w:=by
 cases h with
 |cons e r=>
  cases r with
  |cons d r=>
   cases r with
   |cons f r=>cases r;exact⟨_,_,_,rfl,e,d,f⟩
end
noncomputable abbrev KT(H:Hp):List (List Key×V)->List (List Key×Hc×GM)->Prop:=Paired λp q=>p.1=q.1/\H q.2.1=some (.tup (p.1.map kV))/\ba p.2 q.2.2
noncomputable def Gd(K:GE)(c d:Hc):It:=
 ⟨λi H=>∃a b x y,SqL K H c a/\SqL K H d b/\a[i]?=some x/\b[i]?=some y,
  λi H u e=>∃p x y,u=.ref p/\H p=none/\e=upd H p (.tup [x,y])/\(∀a,SqL K H c a->a[i]?=some x)/\(∀b,SqL K H d b->b[i]?=some y),
  λi H=>∃a b,SqL K H c a/\SqL K H d b/\a.length<=i⟩
theorem Bg{P:GX}{w:HF}{K:GE}{es:List Expr}{ctx pos}(z B C F A l1 T:Hc)(D:Q2 z B C F A l1 T):
  tq P w K (.Tuple es ctx pos) (Gd K l1 T) [z,B,C,F,A] z (λi h=>IsZip h z B C .none/\RM h B (.ref F) (.ref A)/\(∃a b,RM h C a b)/\h.IsListIter F l1 i/\h.IsListIter A T i) where
 mem:=by simp
 obj:=λi h g b J=>by
  obtain⟨f,m,⟨a,c,t⟩,r,p⟩:=g
  have L:∀{G l k},h.IsListIter G l k->∃o,h.get? G=some o/\∀v,o.data≠.cell v:=λq=>by
   obtain⟨o,e,_,d⟩:=q;exact⟨o,e,λv z=>by rw[d]at z;cases z⟩
  simp only[GF,G9,or_false]at J;rcases J with e |e |e |e |e <;>subst e
  .exact⟨_,f,λv z=>by cases z⟩
  .exact⟨_,m,λv z=>by cases z⟩
  .exact⟨_,t,λv z=>by cases z⟩
  .exact L r
  .exact L p
 keep:=λi h Y g k=>by
  obtain⟨f,m,⟨a,c,t⟩,r,p⟩:=g;exact⟨k z (by simp) _ f,k B (by simp) _ m,⟨a,c,k C (by simp) _ t⟩,r.at λo e=>k F (by simp) o e,p.at λo e=>k A (by simp) o e⟩
 item:=by
  intro X V hw S hc i SI s σ H E I R g U;subst V hw S;obtain⟨f,m,⟨a,b,t⟩,r,p⟩:=g;obtain⟨xs,ys,x,y,O,Q,e1,e2⟩:=U;obtain⟨n1,W,p1,_⟩:=I.list O;obtain⟨n2,r2,Z,_⟩:=I.list Q;obtain⟨u1,k1,t1⟩:=W.get e1;obtain⟨u2,k2,t2⟩:=r2.get e2;refine O4 D f m t r p p1.isList Z.isList (by simpa using k1) (by simpa using k2) λY a1 a2 a3 a4 a5 a6 M=>?_;refine⟨_,rfl,?_⟩;refine wpAny_letOwnedTupleGo_zip a1 λhN b1 sb=>?_;have nz:=Km (GS f);have tri:=(sb.2 _ nz).trans a5;have fresh:=I.hok.fresh (GK _)
  have nf:s.heap.objs.size ∉ [z,B,C,F,A]:=λJ=>by
   have j:∀{d o},s.heap.get? d=some o->s.heap.objs.size≠d:=λe=>Km (GS e);have L:∀{G l k},s.heap.IsListIter G l k->s.heap.objs.size≠G:=λq=>by obtain⟨o,e,_⟩:=q;exact j e
   simp only[GF,G9,or_false]at J;rcases J with e |e |e |e |e
   .exact j f e
   .exact j m e
   .exact j t e
   .exact L r e
   .exact L p e
  refine⟨.ref s.heap.objs.size,upd H s.heap.objs.size (.tup [x,y]),vz (s:=s) I R (λd o u e=>?_) (GK _) ⟨by show 2<=sizeLine;decide,[u1,u2],.cons t1 (.cons t2 .nil),⟨_,tri,rfl,_,rfl⟩⟩,rfl,
   ⟨_,x,y,rfl,fresh,rfl,λzs q=>by rw[I.list_inj q O];exact e1,λzs q=>by rw[I.list_inj q Q];exact e2⟩,?_,λd u=>?_⟩
  .simp only[GF,G9,or_false,not_or]at u;obtain⟨d1,d2,d3,d4,d5⟩:=u;exact (sb.2 d d1).trans (M d o d1 d3 d4 d5 e)
  .have N:∀d o,d≠z->Y.get? d=some o->hN.get? d=some o:=λd o n e=>(sb.2 d n).trans e;exact⟨b1,N _ _ D.TIz (M _ _ D.TIz D.TITO D.TIi1 D.TIi2 m),⟨_,_,N _ _ D.TOz a2⟩,a3.at λo e=>N _ o D.i1z e,a4.at λo e=>N _ o D.i2z e⟩
  .rw[aS λe=>nf (by rw[<-e];exact u)];exact (R d u).1
 done:=by
  intro X V hw S hc i SI s σ H E I R g U;subst V hw S;obtain⟨f,m,⟨a,b,t⟩,r,p⟩:=g;obtain⟨xs,ys,O,Q,hl⟩:=U;obtain⟨n1,W,p1,_⟩:=I.list O;obtain⟨n2,r2,Z,_⟩:=I.list Q;have e1:=W.length;refine MZ (I.ok.hd hc) D f m t r p p1.isList Z.isList (.inl (by simp;lia)) λY M=>⟨rfl,t8 I R λd o u e=>?_⟩
  exact M d o (by simp_all) (by simp_all) (by simp_all) (by simp_all) e
 self:=λ_ _ _ _ _ g h=>Oq g.1 h
section
variable {X:Cx}{H0:Hp}{O0:List Hc}{E:XK}{ps:PSt}{D:PD}{S8:List Ki}{e f g tg iter:Expr}{es:List Expr}{p pos:Pos}{x y z:U}{xs ys zs us:List U}
noncomputable def io:List U->List U->List U
 |x::xs,y::ys=>.tup [x,y]::io xs ys
 |_,_=>[]
theorem nL:∀{xs ys},xs.length=ys.length->(io xs ys).length=xs.length
 |[],_,_=>by simp[io]
 |_::xs,_::ys,h1=>by simp only[io,Ie]at *;rw[nL (by lia)]
theorem qK:∀{xs ys}{i:Nat}{a b},xs[i]?=some a->ys[i]?=some b->(io xs ys)[i]?=some (.tup [a,b])
 |_::xs,_::ys,0,a,b,h1,h2=>by simp at h1 h2;simp[io,h1,h2]
 |_::xs,_::ys,i+1,a,b,h1,h2=>by rw[K0]at h1 h2;rw[io,K0];exact qK h1 h2
theorem Eh{ctx tpos}(hg:Gl X "zip")(hm:X.mg "zip"=none)(ha:Ev X H0 O0 ps e x)(hx:x=.lst xs∨x=.scr xs)(hb:Ev X H0 O0 ps f y)(hy:y=.lst ys∨y=.scr ys)
  (l12:xs.length=ys.length) (he:GO [e,f] X.env=(false,Kg e X.env)::GO [f] X.env) (hf:GO [f] X.env=(false,Kg f X.env)::GO [] X.env):
  EvZ X H0 O0 ps (.Tuple es ctx tpos) (.Call (.Name "zip" p) [e,f] [] pos) (io xs ys):=by
 rintro SI s σ H Q I ⟨O,R,q⟩;refine Iq (cU I hg hm qb ?_)
 refine callWith_type1 (thn (cp ha (cp hb dZ hf) he pos SI s σ H (λW h=>∃v u,W=[v,u]/\aY H h/\Rp X.K (hid h O) v x/\Rp X.K (hid h O) u y) I
  ⟨O,R,λv h c r1=>⟨O,R.go c,λu t g r2=>⟨v,u,rfl,c.trans g,r1.same (aM g),r2⟩⟩⟩) λus c UC=>?_) he (by rw[hf];rfl)
 obtain⟨W,h,l,rv,v,u,rfl,sm,E,G⟩:=UC;obtain⟨w1,w2,rfl,M,F⟩:=gN rv;obtain⟨a,z,rfl,r,j⟩:=vM E hx;obtain⟨b,vb,rfl,w,m⟩:=vM G hy;cases M;cases F;obtain⟨ia,ra,n,hz1⟩:=l.list (aC.seq r);obtain⟨ib,rb,k,hz2⟩:=l.list (aC.seq w);have l1:=j.len;have l2:=m.len;have al:@LT.lt Nat instLTNat a c.heap.objs.size:=by obtain⟨o,J,_⟩:=n.isList;exact GS J
 have bl:@LT.lt Nat instLTNat b c.heap.objs.size:=by obtain⟨o,J,_⟩:=k.isList;exact GS J
 refine call_zip_2 n.isList k.isList λh' V g2 g3 g4 g5 g7 g8=>?_;have D:Q2 (c.heap.objs.size+4) (c.heap.objs.size+2) (c.heap.objs.size+3) c.heap.objs.size (c.heap.objs.size+1) a b:=by constructor <;>exact FV (by lia)
 refine Oq V ?_;have I2:=l.kept (t':=c.toks) g8;refine⟨c.heap.objs.size+4,_,_,_,h,rfl,I2,Bg _ _ _ _ _ a b D,⟨V,g2,⟨_,_,g3⟩,g4,g5⟩,λd N=>?_,q _ h sm λt g=>?_⟩
 .have T:c.heap.objs.size<=d:=by
   simp only[GF,G9,or_false]at N;rcases N with e |e |e |e |e <;>rw[e] <;>first |exact HQ _ _ |exact GK _
  exact l.fpOk T (l.hok.fresh T)
 .rw[nL l12];refine⟨λi hi=>?_,⟨z,vb,g.seq r,g.seq w,by lia⟩⟩;have h1:i<z.length:=by lia
  have h2:i<vb.length:=by lia
  refine⟨⟨z,vb,z[i],vb[i],g.seq r,g.seq w,GC h1,GC h2⟩,?_⟩;rintro _ H3 ⟨L,A,C,rfl,Y,rfl,e1,e2⟩;have B:aY t (upd t L (.tup [A,C])):=aQ Y _;have U:xs[i]?=some (xs[i]'(by lia)):=GC (by lia);have S:ys[i]?=some (ys[i]'(by lia)):=GC (by lia);refine⟨B,_,qK U S,λZ hO P=>?_⟩
  have all:Rps X.K (hid (upd t L (.tup [A,C])) Z) [A,C] [_,_]:=
   .cons ((j.at_ i _ _ (e1 _ (g.seq r)) U).same (P.trans (aM B))) (.cons ((m.at_ i _ _ (e2 _ (g.seq w)) S).same (P.trans (aM B))) .nil)
  exact .tup (SqT.of (dF a9 λhp=>hO L hp Y)) all.len all.at_
end
theorem o4(h:u=u')(t:Ev X H0 O0 ps e u):Ev X H0 O0 ps e u':=h ▸ t
end L2
namespace L2
open PySem PySem.Spec PySem.W PyProof.Rows
structure Dfn(K:GE)(mg:Str->Option GM)(x:Str)(st:Ki)(ps:List Str) where
 a:Hc
 d:JR
 F:Fun K x x st a d
 b:dy K d ps []
 m:mg x=some (.ref a)
structure DfD(K:GE)(mg:Str->Option GM)(x:Str)(st:Ki)(ps:List Str)(j:Int) where
 a:Hc
 d:JR
 D:Hc
 F:xM K x x st a d D
 b:dy K d ps []
 bd:∃t,dy K d ps [.int j t]
 m:mg x=some (.ref a)
structure Exn(mg:Str->Option GM)(x:Str) where
 c:Hc
 m:mg x=some (.ref c)
abbrev Eb(x q:Str)(c:Ki)(d:List Str):Prop:=∀(kV f h:GM) (g:Option Hc) (a e:GM) (b:List GM),b.length=d.length->MH (fnOf x q (cu c) (bN c) (am c) .none kV f h g a e) ⟨b,[]⟩=pure (d.zip b)
section
variable {K:GE}{h:Jx}{mg:Str→Option GM}{x q:Str}{st:Ki}{ps:List Str}{f C D:Hc}{j:Int}{oc:GM}{od an:Option Hc}{kV dc pm cd ct:GM}{sl:Array (Option GM)}{x1 x2 x3 t:_}
noncomputable def dfn(X:K.In h)(G:h.Ns Jf mg)(b:Eb x x st ps)(a:nsIn K Jf x=some (some (.ref f)))(l:K.lookup f=some ⟨oc,od,.func (fnOf x x (cu st) (bN st) (am st) .none kV dc pm an cd ct),sl⟩)(c:codeIn K cd x=true)(k:keepIn K (.ref f)=true):Dfn K mg x st ps:=⟨f,_,yg l c k,(yg l c k).binds b,mg_of X G a⟩
noncomputable def dfD(X:K.In h)(G:h.Ns Jf mg)(b:K.lookup D=some ⟨.type "tuple",x1,.seq #[.int j t] x2,x3⟩→∀(kV dc pm:GM) (an:Option Hc) (cd ct:GM),dy K (fnOf x x (cu st) (bN st) (am st) (.ref D) kV dc pm an cd ct) ps []∧∃t,dy K (fnOf x x (cu st) (bN st) (am st) (.ref D) kV dc pm an cd ct) ps [.int j t])(a:nsIn K Jf x=some (some (.ref f)))(l:K.lookup f=some ⟨oc,od,.func (fnOf x x (cu st) (bN st) (am st) (.ref D) kV dc pm an cd ct),sl⟩)(c:codeIn K cd x=true)(k:keepIn K (.ref f)=true)(q:K.lookup D=some ⟨.type "tuple",x1,.seq #[.int j t] x2,x3⟩):DfD K mg x st ps j:=⟨f,_,D,BE l c k,(b q kV dc pm an cd ct).1,(b q kV dc pm an cd ct).2,mg_of X G a⟩
noncomputable def exn(X:K.In h)(G:h.Ns Jf mg)(a:nsIn K Jf x=some (some (.ref f))):Exn mg x:=⟨f,mg_of X G a⟩
theorem g_i(X:K.In h)(G:h.Ns Jf mg)(a:nsIn K Jf x=some (some (.int j t))):∃t,mg x=some (.int j t):=⟨t,mg_of X G a⟩
end
end L2
namespace SG
open PySem PySem.W PySem.Calls PyProof.Rows ST
noncomputable abbrev rfs{a:Type}(pb:List (a×Hc)):List GM:=pb.map λp=>Ik p.2
structure Ky(α:Type) where
 lt:α->α->Bool
 tr:∀{a b c:α},lt a b=true->lt b c=true->lt a c=true
 tot:∀{a b:α},a≠b->lt a b=false->lt b a=true
 asy:∀{a b:α},lt a b=true->lt b a=false
 is:GX->HF->Jx->α->Hc->Prop
 kd:MM
 grow:∀{prog:GX}{w:HF}{h h':Jx}{a:α}{b:Hc},is prog w h a b→(∀b o,o.cls=.type "tuple"→h.get? b=some o→h'.get? b=some o)→is prog w h' a b
 ask:∀{prog:GX}{w:HF}{A:HM}{E:GM->GP->Prop}{s:GP}{x y:Hc}{a b:α}{Q:Bool->GP->Prop},A.units+1<KZ->is prog w s.heap a x->is prog w s.heap b y->Q (lt a b) s->Ht (Hr prog w) A (keyLt' kd (.ref x) (.ref y)) Q E s
 kind:∀{prog:GX}{w:HF}{A:HM}{E:GM->GP->Prop}{s:GP}{pb:List (α×Hc)}{Q:MM->GP->Prop},(∀p∈pb,is prog w s.heap p.1 p.2)->0<pb.length->Q kd s->Ht (Hr prog w) A (RW (rfs pb).toArray) Q E s
section
variable {α:Type} [DecidableEq α] (S:Ky α)
noncomputable def ins(x:α):List α->List α
 |[]=>[x]
 |y::r=>if x=y then y::r else if S.lt x y=true then x::y::r else y::ins x r
noncomputable def srt(l:List α):List α:=l.foldr (ins S) []
theorem ins_mem(x z:α):∀l,z∈ins S x l↔z=x\/z∈l
 |[]=>by simp[ins]
 |y::r=>by
  unfold ins;split
  .rename_i h;subst h;simp
  .split
   .simp
   .rw[GF,ins_mem x z r,GF];grind
abbrev Asc(l:List α):Prop:=l.Pairwise (λx y=>S.lt x y=true)
theorem ins_asc(x:α):∀l,Asc S l->Asc S (ins S x l)
 |[],_=>by simp[ins]
 |y::r,h=>by
  unfold ins;split
  .exact h
  .rename_i f
   obtain⟨c,d⟩:=Hl.mp h;split
   .rename_i a
    refine Hl.mpr ⟨λz b=>?_,h⟩;rcases GF.mp b with e |e
    .rw[e];exact a
    .exact S.tr a (c z e)
   .rename_i a
    refine Hl.mpr ⟨λz b=>?_,ins_asc x r d⟩;rcases (ins_mem S x z r).mp b with e |e
    .rw[e];exact S.tot f (by simpa using a)
    .exact c z e
theorem srt_mem(z:α):∀l,z∈srt S l↔z∈l
 |[]=>by simp[srt]
 |y::r=>by
  show z∈ins S y (srt S r)↔_;rw[ins_mem,srt_mem z r,GF]
theorem srt_asc:∀l,Asc S (srt S l)
 |[]=>Lz
 |y::r=>ins_asc S y (srt S r) (srt_asc r)
end
section
variable {α:Type} (S:Ky α) {prog:GX}{w:HF}{A:HM}{E:GM→GP→Prop}{s:GP}
theorem irr(a:α):S.lt a a=false:=by
 cases h:S.lt a a with
 |false=>rfl
 |true=>rw[S.asy h]at h;cases h
theorem asc_one:∀{l m:List α},Asc S l->Asc S m->(∀z,z∈l↔z∈m)->l=m
 |[],[],_,_,_=>rfl
 |[],y::r,_,_,h=>by have:=(h y).mpr GR;simp at this
 |x::l,[],_,_,h=>by have:=(h x).mp GR;simp at this
 |x::l,y::m,hl,hm,h=>by
  obtain⟨d,f⟩:=Hl.mp hl;obtain⟨c,g⟩:=Hl.mp hm
  have e:x=y:=by
   rcases GF.mp ((h x).mp GR) with z |z
   .exact z
   .rcases GF.mp ((h y).mpr GR) with b |b
    .exact b.symm
    .have:=S.asy (c x z);rw[d y b]at this;cases this
  subst e;congr 1;refine asc_one f g λz=>⟨λa=>?_,λa=>?_⟩
  .rcases GF.mp ((h z).mp (GG _ a)) with e |e
   .have:=d z a;rw[e,irr]at this;cases this
   .exact e
  .rcases GF.mp ((h z).mpr (GG _ a)) with e |e
   .have:=c z a;rw[e,irr]at this;cases this
   .exact e
end
end SG
namespace ST3
open PySem PySem.W PySem.Calls PyProof.Rows ST
noncomputable def KT:SG.Ky TR:=⟨ltT,D6,BG,BR,TT,OZ false,λh e=>h.grow e,λa h k q=>DM a h k q,λh k q=>xk h k q⟩
noncomputable abbrev PQ:=(Int×Int)×Int
noncomputable def ltQ(a b:PQ):Bool:=if a.1=b.1 then decide (a.2<b.2) else ltP a.1 b.1
theorem Dl(h:ltQ a b=true)(k:ltQ b c=true):ltQ a c=true:=by
 unfold ltQ at *;by_cases f:a.1=b.1
 .rw[if_pos f]at h;by_cases d:b.1=c.1
  .rw[if_pos d]at k;rw[if_pos (f.trans d)];simp at *;lia
  .rw[if_neg d]at k;rw[if_neg (by rw[f];exact d),f];exact k
 .rw[if_neg f]at h;by_cases d:b.1=c.1
  .rw[if_neg (by rw[<-d];exact f),<-d];exact h
  .rw[if_neg d]at k;have t:=jz h k;rw[if_neg (λe=>by rw[e,ky]at t;cases t)];exact t
theorem BL(h:a≠b)(k:ltQ a b=false):ltQ b a=true:=by
 unfold ltQ at *;by_cases c:a.1=b.1
 .rw[if_pos c]at k;rw[if_pos c.symm];have:a.2≠b.2:=λe=>h (Ii c e)
  simp at *;lia
 .rw[if_neg c]at k;rw[if_neg (Ne.symm c)];exact ltP_tot c k
theorem A1(h:ltQ a b=true):ltQ b a=false:=by
 unfold ltQ at *;by_cases c:a.1=b.1
 .rw[if_pos c]at h;rw[if_pos c.symm];simp at *;lia
 .rw[if_neg c]at h;rw[if_neg (Ne.symm c)];exact h7 h
section
variable {prog:GX}{w:HF}{A:HM}{E:GM→GP→Prop}{s:GP}
def TQ(prog:GX)(w:HF)(h:Jx)(t:PQ)(b:Hc):Prop:=∃o items n a u,h.get? b=some o∧o.cls=.type "tuple"∧o.data=.seq items n∧items.toList=[.ref a,.int t.2 u]∧TK prog w h (lq t.1) a
theorem TQ.grow(x:TQ prog w h k b)(e:∀b o,o.cls=.type "tuple"→h.get? b=some o→h'.get? b=some o):TQ prog w h' k b:=by
 obtain⟨o,c,n,j,u,l,f,i,r,g⟩:=x;have q:∀{k:List Int}{a:Hc},TK prog w h k a->TK prog w h' k a:=λ{k a} t=>by obtain⟨o,c,n,p,d,m⟩:=t;exact⟨o,c,n,e _ _ d p,d,m⟩
 exact⟨o,c,n,j,u,e _ _ f l,f,i,r,q g⟩
theorem Dy(F:A.units+1<KZ)(t:TQ prog w s.heap a x)(m:TQ prog w s.heap b y)(h:Q (ltQ a b) s):Ht (Hr prog w) A (keyLt' (OZ false) (.ref x) (.ref y)) Q E s:=by
 obtain⟨o,its,n,z,u,p,_,l,f,g⟩:=t;obtain⟨D,c,v,B,C,r,_,k,j,e⟩:=m;refine kat_lt p l r k ?_;rw[f,j];unfold ltQ at h;refine kat_cons (Lg (by lia) g e ?_);rw[pR];by_cases d:a.1=b.1
 .rw[decide_eq_true d];rw[if_pos d]at h;refine kat_yes (kat_cons ((MS prog w).eqBool (a:=a.2) (b:=b.2) (IC _ _ _ _) (IC _ _ _ _) ?_));by_cases i:a.2=b.2
  .rw[decide_eq_true i];refine kat_yes (kat_nil ?_);rw[decide_eq_false (by lia)]at h
   have q:decide (its.size<c.size)=false:=by
    rw[<-GQ,<-GQ,f,j];simp
   rw[q];exact h
  .rw[decide_eq_false i];exact kat_no (kat_one _ _ (lt_int h))
 .rw[decide_eq_false d];rw[if_neg d]at h;exact kat_no (kat_one _ _ (lt_ptsR (by lia) g e h))
theorem Aq(j:∀p∈pb,TQ prog w s.heap p.1 p.2)(D:0<pb.length)(h:Q (OZ false) s):Ht (Hr prog w) A (RW (SG.rfs pb).toArray) Q E s:=by
 obtain⟨fs,c,g,d⟩:∃fs,KatTups s.heap (SG.rfs pb) fs∧fs.length=pb.length∧∀v∈fs,∃a o,v=Ik a∧s.heap.get? a=some o∧o.cls=.type "tuple":=by
  clear h D
  induction pb with
  |nil=>exact⟨[],.nil,rfl,λv b=>by simp at b⟩
  |cons p r k=>
   obtain⟨fs,c,g,d⟩:=k λq B=>j q (GG _ B);obtain⟨o,its,n,i,u,t,C,l,x,y⟩:=j p GR;refine⟨.ref i::fs,.cons t C l (by rw[<-HP,x];rfl) c,by simp[g],λv b=>?_⟩;rcases GF.mp b with z |z
   .obtain⟨m,_,_,f,e,_⟩:=y;exact⟨i,m,z,f,e⟩
   .exact d v z
 refine kat_kind (T:=.type "tuple") c (by lia) (λv b=>?_) (by decide) h;obtain⟨a,o,rfl,f,e⟩:=d v b;rw[<-e];exact (Looks.ld f).andThen .now
end
noncomputable def KQ:SG.Ky PQ:=⟨ltQ,Dl,BL,A1,TQ,OZ false,λh e=>h.grow e,λa h k q=>Dy a h k q,λh k q=>Aq h k q⟩
noncomputable def KP:SG.Ky (Int×Int):=⟨ltP,jz,ltP_tot,h7,λa w h p b=>TK a w h (lq p) b,OZ true,λt e=>by obtain⟨o,d,n,f,c,g⟩:=t;exact⟨o,d,n,e _ _ c f,c,g⟩,λi h k q=>Dk h k q,λh k q=>zm h k q⟩
end ST3
namespace L2
open PySem PySem.Spec PyProof.Rows
noncomputable abbrev qU(t:ST3.PQ):U:=.tup [pu t.1,.int t.2]
section
variable {X:Cx}{SI:List (Hc×Obj)}{σ:St}{H:Hp}{s:GP}{z:V}{u:GM}
theorem Gx(I:Inv X SI σ H s)(r:Rp X.K H z (trU a))(e:ba z u):∃b,z=.ref b/\u=.ref b/\ST3.KT.is X.prog X.w s.heap a b:=by
 cases r with
 | @tup b E _ A d c=>
  cases e;refine⟨b,rfl,rfl,?_⟩;obtain⟨q,p,l,_⟩:=I.tuple A;have t:E.length=3:=d;obtain⟨C,k,i,rfl⟩:=len3 t;obtain⟨F,G,J,rfl,f,j,D⟩:=EM p;obtain⟨x,rfl,tx⟩:=jD I (c 0 C _ rfl rfl) f;obtain⟨y,rfl,ty⟩:=jD I (c 1 k _ rfl rfl) j;obtain⟨v,rfl,B⟩:=jD I (c 2 i _ rfl rfl) D;obtain⟨o,h,m,n,g⟩:=l;exact⟨o,_,n,x,y,v,h,m,g,rfl,tx _ _,ty _ _,B _ _⟩
theorem Gy(I:Inv X SI σ H s)(r:Rp X.K H z (qU a))(e:ba z u):∃b,z=.ref b/\u=.ref b/\ST3.KQ.is X.prog X.w s.heap a b:=by
 cases r with
 | @tup b B _ y f c=>
  cases e;refine⟨b,rfl,rfl,?_⟩;obtain⟨q,p,l,_⟩:=I.tuple y;have v:B.length=2:=f;obtain⟨A,k,rfl⟩:=len2 v;obtain⟨C,D,rfl,g,j⟩:=gN p;obtain⟨x,rfl,tx⟩:=jD I (c 0 A _ rfl rfl) g;have d:=c 1 k _ rfl rfl;cases d;obtain⟨t,rfl⟩:=j;obtain⟨o,i,m,n,h⟩:=l;exact⟨o,_,n,x,t,i,m,h,rfl,tx _ _⟩
theorem F9(I:Inv X SI σ H s)(r:Rp X.K H z (pu a))(e:ba z u):∃b,z=.ref b/\u=.ref b/\ST3.KP.is X.prog X.w s.heap a b:=by
 obtain⟨b,rfl,c⟩:=jD I r e;refine⟨b,?_,rfl,c _ _⟩;cases r;cases e;rfl
end
end L2
namespace SG
open PySem PySem.W PySem.Calls PyProof.Rows ST
noncomputable abbrev kyg{a:Type}(p:a×Hc):HN:=(Ik p.2,Ik p.2)
open Classical in
noncomputable def RG {a:Type} (S:Ky a) (pb:List (a×Hc)) (x y:HN):Bool:=decide (∃p∈pb,∃q∈pb,x=kyg p/\y=kyg q/\S.lt p.1 q.1=true)
theorem lu{a:Type}{S:Ky a}{pb:List (a×Hc)}{x y:HN}:RG S pb x y=true↔∃p∈pb,∃q∈pb,x=kyg p/\y=kyg q/\S.lt p.1 q.1=true:=by unfold RG;exact decide_eq_true_iff
theorem t9{a:Type}{p q:a×Hc}(h:kyg p=kyg q):p.2=q.2:=by
 have:=(Prod.mk.inj h).1;injection this
section
variable {α:Type} (S:Ky α) {prog:GX}{w:HF}{A:HM}{E:GM→GP→Prop}{s:GP}
include S
theorem sort_b{a:Hc}{pb:List (α×Hc)}{n:Nat}{P:PySem.Fin→GP→Prop}(N:s.heap.get? a=some (Qd "list" (rfs pb).toArray n))(T3:∀p∈pb,S.is prog w s.heap p.1 p.2)(hu:A.units+1<KZ)(d0:α×Hc)(UG:(pb.map (·.1)).Nodup)(R:pb.length≤sizeLine)(U9:∀{h:Jx}{a b:α}{x:Hc},S.is prog w h a x→S.is prog w h b x→a=b)
  (h:∀Tv:List (α×Hc),Tv.Perm pb->(Tv.map (·.1)).Pairwise (λx y=>S.lt x y=true)->P (.done (.ret .none)) {s with heap:=sortedHeap s.heap a (rfs pb) (rfs Tv).toArray }):
  Ht (Hr prog w) A (Builtin.«list.sort» ⟨[.ref a],[]⟩) P E s:=by
 have I:(rfs pb).length=pb.length:=by simp
 have f:(rfs pb).toArray.size=pb.length:=by simp
 rw[list_sort_plain];have ha:a<s.heap.objs.size:=GS N;refine GB (listItems_at N rfl (GB (Qe N rfl ?_ (by rw[f];exact R) (Ir _))));obtain⟨v,G⟩:∃v,(s.heap.update a (JE λ_=>(#[]:Array GM))).get? a=some (Qd "list" #[] v):=⟨_,get?_update_seq N (λ_=>#[])⟩
 refine GB (Re G rfl (GB (Ry ?_ (by show (rfs pb).length<=_;rw[I];exact R))));refine GB (Qf ?_ (Ir _));refine Iz ?_;generalize hh6:((s.heap.update a (JE λ_=>(#[]:Array GM))).push (Qd "tuple" (rfs pb).toArray 0)).push (Qd "list" #[] 0)=B
 have H:∀b o,b≠a->s.heap.get? b=some o->B.get? b=some o:=λb o hb e=>by
  rw[<-hh6];exact GI _ (GI _ ((HH _ _ (Ne.symm hb)).trans e))
 have m:B.get? a=some (Qd "list" #[] v):=by rw[←hh6];exact GI _ (GI _ G)
 have k:∀p∈pb,S.is prog w B p.1 p.2:=λp c=>by
  refine S.grow (T3 p c) λb o hc e=>H b o (λz=>?_) e;rw[z,N]at e;cases e;exact absurd hc (by show ¬ (J4 "list"=J4 "tuple");decide)
 have J:∀Tv:List (α×Hc),Tv.Perm pb->(Tv.map (·.1)).Pairwise (λx y=>S.lt x y=true)->P (.done (.ret .none)) {s with heap:=B.update a (JE λ_=>(rfs Tv).toArray) }:=λTv t C=>by
  rw[<-hh6];exact h Tv t C
 show Ht (Hr prog w) A _ P E {s with heap:=B };dsimp only;by_cases g:(rfs pb).toArray.size<2
 .rw[if_pos g,if_pos g];refine GB (GH ?_);rw[StateT.run_pure];refine GB (GH ?_);dsimp only
  have L:(HG (SortSt.mk' general' ((rfs pb).toArray.zip (rfs pb).toArray) #[] 7 none)).map (·.2)=(rfs pb).toArray:=by
   show (((rfs pb).toArray.zip (rfs pb).toArray)).map (·.2)=_;apply On.mp
   have M:∀l:List GM,(l.zip l).map (·.2)=l:=λl=>by
    induction l with
    |nil=>rfl
    |cons x r ih=>rw[Ks,G_,ih]
   rw[Oo,QU];exact M _
  rw[L];refine GB (Re m rfl (GB (Qe m rfl ?_ (Ir _) (by rw[f];exact Qx R))));show Ht _ _ (if (v !=v)=true then _ else _) _ _ _;rw[if_neg (by simp)];refine GH (J pb (Nw _) ?_)
  match pb,f,g with
  |[],_,_=>simp
  |[_],_,_=>simp
  |_::_::r,f,g=>rw[f]at g;exact absurd g (by simp)
 .rw[if_neg g,if_neg g];rw[f]at g;have h2':2<=(rfs pb).length:=by rw[I];lia
  refine GB (S.kind (s:={s with heap:=B }) k (by lia) ?_);have one:∀p∈pb,∀q∈pb,kyg p=kyg q->p=q:=λp c q d e=>Ii (U9 (k p c) (by rw[t9 e];exact k q d)) (t9 e)
  have val:∀p∈pb,∀q∈pb,RG S pb (kyg p) (kyg q)=S.lt p.1 q.1:=λp c q d=>by
   cases hl:S.lt p.1 q.1 with
   |true=>exact lu.mpr ⟨p,c,q,d,rfl,rfl,hl⟩
   |false=>
    cases F:RG S pb (kyg p) (kyg q) with
    |false=>rfl
    |true=>
     obtain⟨p',TC,Y,UR,v,e2,z⟩:=lu.mp F;rw[<-one p c p' TC v,<-one q d Y UR e2,hl]at z;cases z
  have K:TS.Asks prog w A E {s with heap:=B } (S.kd) (λx=>∃p∈pb,x=kyg p) (RG S pb):=by
   rintro x y st Q ⟨p,c,rfl⟩ ⟨q,d,rfl⟩ hk hQ;rw[lt'_eq];refine G0 (Ny ?_);rw[hk];rw[val p c q d]at hQ;refine G0 (wpS_lift (Mg (S.ask (s:={s with heap:=B }) hu (k p c) (k q d) ⟨rfl,?_⟩)))
   exact Hf hQ
  have X:TS.Ord (λx=>∃p∈pb,x=kyg p) (RG S pb) (pb.map kyg):=by
   refine⟨λx y z h1 g=>?_,λx hx y hy W F=>?_,?_,λx hx=>?_⟩
   .obtain⟨p,c,q,d,rfl,rfl,z1⟩:=lu.mp h1;obtain⟨Y,UR,r,F,e,rfl,z2⟩:=lu.mp g;rw[<-one q d Y UR e]at z2;exact lu.mpr ⟨p,c,r,F,rfl,rfl,S.tr z1 z2⟩
   .obtain⟨p,c,rfl⟩:=GJ.mp hx;obtain⟨q,d,rfl⟩:=GJ.mp hy;rw[val p c q d]at F;rw[val q d p c];refine S.tot (λe=>W ?_) F
    obtain⟨i,O,rfl⟩:=IF c;obtain⟨j,U,rfl⟩:=IF d;have:i=j:=(Oe (xs:=pb.map (·.1)) (h₀:=by simpa using O) (h₁:=by simpa using U) UG).mp (by simpa using e);subst this;rfl
   .have V:pb.Nodup:=(Hy.mp UG).imp λh e=>h (congrArg _ e);refine Hy.mpr (KM (λc d W e=>W (one _ c _ d e)) V)
   .obtain⟨p,c,rfl⟩:=GJ.mp hx;exact⟨p,c,rfl⟩
  have Z:TS.Stt (S.kd) (pb.map kyg) #[] (SortSt.mk' (S.kd) ((rfs pb).toArray.zip (rfs pb).toArray) #[] 7 none):=by
   refine⟨rfl,rfl,?_,rfl⟩
   have e:(HG (SortSt.mk' (S.kd) ((rfs pb).toArray.zip (rfs pb).toArray) #[] 7 none)).toList=pb.map kyg:=by
    show ((rfs pb).toArray.zip (rfs pb).toArray).toList=_;rw[QU];show (pb.map _).zip (pb.map _)=_;rw[List.zip_map']
   rw[e]
  refine GB (KJ (TS.sruns K X (Q:=λ_ T=>M5 T=none/\∃Tv:List (α×Hc),Tv.Perm pb/\(Tv.map (·.1)).Pairwise (λx y=>S.lt x y=true)/\(HG T).map (·.2)=(rfs Tv).toArray) Z λpd T S' up=>?_) ?_ λ_ _ e=>e)
  .refine⟨S'.failed,?_⟩;obtain⟨Tv,t,C⟩:=FQ S'.perm pb rfl;refine⟨Tv,t,?_,?_⟩
   .refine Hy.mpr (G6.mpr λi j O U Tf=>?_);have lp:=t.length_eq;have u:=up i j Tf (by rw[GD];lia);rw[Nt,Nt,TS.gt_eq (by rw[<-C,GD];exact O),TS.gt_eq (by rw[<-C,GD];exact U)]at u
    simp only[<-C,List.getElem_map]at u;rw[val _ (t.mem_iff.mp (HV O)) _ (t.mem_iff.mp (HV U))]at u;exact u
   .apply On.mp;rw[Oo,<-C,Ho];rfl
  .rintro ⟨⟨⟩,T⟩ s' ⟨rfl,hf,Tv,t,C,D⟩;dsimp only at hf D |-;rw[D];have Uc:(rfs Tv).toArray.size=pb.length:=by simp[t.length_eq]
   refine GB (Re m rfl (GB (Qe m rfl ?_ (Ir _) (by rw[Uc];exact Qx R))));rw[hf];show Ht _ _ (if (v !=v)=true then _ else _) _ _ _;rw[if_neg (by simp)];exact GH (J _ t C)
theorem call_b{l:Hc}{pb:List (α×Hc)}{Q:GM->GP->Prop}(r:s.heap.IsList l (rfs pb).toArray)(z:∀p∈pb,S.is prog w s.heap p.1 p.2)(H:A.units+5<KZ)(q:α×Hc)(G:(pb.map (·.1)).Nodup)(n:pb.length<1000)(C:∀{h:Jx}{a b:α}{x:Hc},S.is prog w h a x->S.is prog w h b x->a=b)
  (h:∀(d i:Jx) (u:Nat) (Tv:List (α×Hc)) (e:Nat),Tv.Perm pb→(Tv.map (·.1)).Pairwise (λx y=>S.lt x y=true)→(∀c o,s.heap.get? c=some o→d.get? c=some o)→(∀c o,d.get? c=some o→i.get? c=some o)→i.get? d.objs.size=some (Qd "list" (rfs Tv).toArray e)→Q (.ref d.objs.size) {s with heap:=i,toks:=u }):
  Ht (Hr prog w) A (call (.builtin "sorted") [.ref l]) Q E s:=by
 have f:(rfs pb).length=pb.length:=by simp
 refine Calls.call_function_entry kind_sorted plain_sorted entry_sorted (args_sorted1 _) ?_;unfold Builtin.«sorted»;refine GB (m:=checkCount "sorted" 1 1 _) (GH ?_);refine GB (collect_list r ?_ (by rw[f,JT];lia));refine GB (Qf ?_ (by rw[f,JT];lia));generalize hg:(s.heap.push (Qd "list" #[] 0)).update s.heap.objs.size (JE (·++(rfs pb).toArray))=d
 have keep:∀c o,s.heap.get? c=some o->d.get? c=some o:=λc o e=>by
  rw[<-hg,HH _ _ (Km (GS e))];exact GI _ e
 have g:(d.push {cls:=.type "list",data:=.seq (rfs pb).toArray }).get? d.objs.size=some (Qd "list" (rfs pb).toArray 0):=GZ _ rfl
 have D:∀p∈pb,S.is prog w (d.push {cls:=.type "list",data:=.seq (rfs pb).toArray }) p.1 p.2:=λp v=>by
  exact S.grow (z p v) λb o _ e=>GI _ (keep _ _ e)
 refine GB (Iz (Jd RA ⟨_,g,rfl⟩ Rf ?_ (RB _)));refine sort_b S (s:={s with heap:=d.push {cls:=.type "list",data:=.seq (rfs pb).toArray } }) g D (by show A.units+1+1+1<KZ;lia) q G (by rw[JT];lia) C λTv F B=>⟨_,rfl,GH ⟨_,rfl,?_⟩⟩
 obtain⟨e,t⟩:=sortedHeap_at (out:=(rfs Tv).toArray) g;refine h d _ s.toks Tv e F B keep (λc o k=>?_) t;have j:=GS k;rw[RC (Hn j) (by rw[Jr];exact JG j)];exact GI _ k
end
end SG
namespace ST3
open PySem PySem.W PySem.Calls PyProof.Rows ST
theorem KP_det{prog:GX}{w:HF}{h:Jx}{a b:Int×Int}{x:Hc}(p:KP.is prog w h a x)(q:KP.is prog w h b x):a=b:=congrArg M6 (TK.det (p:=(a,x)) (q:=(b,x)) p q rfl)
theorem KT_det{prog:GX}{w:HF}{h:Jx}{a b:TR}{x:Hc}(p:KT.is prog w h a x)(q:KT.is prog w h b x):a=b:=by
 obtain⟨o,u,n,y,C,E,l,_,j,t,s,m,r⟩:=p;obtain⟨B,g,v,D,A,z,e,_,d,c,f,i,k⟩:=q;rw[l]at e;cases e;rw[j]at d;cases d;rw[t]at c;simp only[Nb,Rg,and_true]at c;obtain⟨rfl,rfl,rfl⟩:=c;exact Ii (KP_det s f) (Ii (KP_det m i) (KP_det r k))
end ST3
namespace L2
open PySem PySem.Spec PyProof.Rows
section
variable {X:Cx}{H0:Hp}{O0:List Hc}{ps:PSt}{e:Expr}{pos p:Pos}
theorem lY{d:Type}[DecidableEq d](S:SG.Ky d)(m:d→U)(f:d){trs:List d}(T5:∀{W:List (Hc×Obj)}{Z:St}{H:Hp}{s:GP}{z:V}{u:GM}{a:d},Inv X W Z H s→Rp X.K H z (m a)→ba z u→∃b,z=.ref b∧u=.ref b∧S.is X.prog X.w s.heap a b)(U9:∀{h:Jx}{a b:d}{x:Hc},S.is X.prog X.w h a x→S.is X.prog X.w h b x→a=b)(hg:Gl X "sorted")(hm:X.mg "sorted"=none)(hu:X.A.units+10<KZ)(ha:Ev X H0 O0 ps e (.lst (trs.map m)))(hl:trs.length<1000∧trs.Nodup)
  (he:autoParam (GO [e] X.env=(false,Kg e X.env)::GO [] X.env) w4):EvN X H0 O0 ps (.Call (.Name "sorted" p) [e] [] pos) ((SG.srt S trs).map m):=by
 obtain⟨hl,hn⟩:=hl;rintro W s Z H Q I ⟨O,R,q⟩;refine Iq (cU I hg hm boot_sorted ?_);refine callWith_builtin1 (e:=e) (rest:=[]) (thn (cp ha dZ he pos W s Z H (λvs g=>∃v,vs=[v]/\aY H g/\Rp X.K (hid g O) v (.lst (trs.map m))) I ⟨O,R,λv g L r1=>⟨v,rfl,L,r1⟩⟩) λus L hx=>?_) he rfl;obtain⟨vs,g,I1,rv,v,rfl,sm,rp⟩:=hx;obtain⟨u,rfl,ru⟩:=dR rv;cases rp with
 | @lst a ws _ hq hwl hwi=>
  cases ru;obtain⟨its,UI,pl,t⟩:=I1.list (SqL.of (aC _ _ hq));have hlp:ws.length=trs.length:=by rw[hwl,GD]
  have hil:its.length=trs.length:=by rw[<-UI.length,hlp]
  have G:∀i,i<trs.length->∃b,its[i]?=some (.ref b)/\Rp X.K (hid g O) (.ref b) (m (trs.getD i f))/\S.is X.prog X.w L.heap (trs.getD i f) b:=λi N=>by
   have hw:ws[i]?=some ws[i]:=GC (by lia);have hp:(trs.map m)[i]?=some (m (trs.getD i f)):=by rw[GN,GC N];simp[N]
   have r:=hwi i _ _ hw hp;obtain⟨u',c,B⟩:=UI.get hw;obtain⟨b,ez,rfl,tb⟩:=T5 I1 (r.same aC) B;rw[ez]at r;exact⟨b,c,r,tb⟩
  let E:Nat->Hc:=λi=>match its[i]? with |some (.ref b)=>b |_=>0
  have T:∀i,i<trs.length->its[i]?=some (.ref (E i))/\Rp X.K (hid g O) (.ref (E i)) (m (trs.getD i f))/\S.is X.prog X.w L.heap (trs.getD i f) (E i):=λi N=>by
   obtain⟨b,c,B,e3⟩:=G i N;have:E i=b:=by show (match its[i]? with |some (.ref b)=>b |_=>0)=b;rw[c]
   rw[this];exact⟨c,B,e3⟩
  generalize E=C at T;clear E;generalize Vj:((HI trs.length).map λi=>((trs.getD i f,C i):d×Hc))=pb
  have J:its=SG.rfs pb:=by
   apply J9;intro i;rw[<-Vj];unfold SG.rfs;rcases IU i trs.length with z |z
   .rw[(T i z).1];simp[z]
   .rw[Hu (by lia),Hu (by simpa using z)]
  have o:pb.map (·.1)=trs:=by
   rw[<-Vj,Ho];apply J9;intro i;rcases IU i trs.length with z |z
   .simp[z]
   .rw[Hu (by simpa using z),Hu z]
  have k:∀z∈pb,∃j,j<trs.length/\z=(trs.getD j f,C j):=λz t=>by
   rw[<-Vj]at t;obtain⟨j,M,rfl⟩:=GJ.mp t;exact⟨j,Hq.mp M,rfl⟩
  have hbl:pb.length=trs.length:=by rw[<-o,GD]
  rw[J]at pl;refine SG.call_b S (pb:=pb) pl.isList (λz t=>?_) (by show X.A.units+5<KZ;lia) (f,0) (by rw[o];exact hn) (by lia) U9 λY h4 D F ep pm so k1 k2 hD=>?_
  .obtain⟨j,M,rfl⟩:=k z t;exact (T j M).2.2
  .have I3:Inv X W Z g {L with heap:=Y,toks:=D }:=I1.kept (t':=D) k1;have src:∀z∈F,∃j,j<trs.length/\z=(trs.getD j f,C j):=λz t=>k z (pm.mem_iff.mp t)
   have n:F.map (·.1)=SG.srt S trs:=by
    refine SG.asc_one S so (SG.srt_asc S trs) λz=>?_;rw[SG.srt_mem,(pm.map (·.1)).mem_iff,o]
   have P:g Y.objs.size=none:=I3.hok.fresh (GK _);refine⟨.ref Y.objs.size,upd g Y.objs.size (.lst (F.map λz=>V.ref z.2)),?_,rfl,?_⟩
   .refine I3.laid (t':=D) k2 (GK _) ⟨?_,(SG.rfs F),ep,?_,hD⟩
    .rw[GD,pm.length_eq,hbl,JT];lia
    .have all:∀l:List (d×Hc),aZ (l.map λz=>V.ref z.2) (SG.rfs l):=λl=>by
      induction l with
      |nil=>exact .nil
      |cons z r ih=>exact .cons rfl ih
     exact all F
   .refine q _ _ _ (sm.trans (aQ P _)) (sm.free P) a9 ⟨?_,λi z x c B=>?_⟩
    .rw[GD,<-n,GD,GD]
    .rw[<-n,Ho,GN]at B;rw[GN]at c;cases hpi:F[i]? with
     |none=>rw[hpi]at c;cases c
     |some y=>
      rw[hpi]at c B;cases c;cases B;obtain⟨j,M,rfl⟩:=src y (Hb hpi);exact (T j M).2.1.same (bM (aQ P _) P)
end
end L2
namespace ST
open PySem PySem.W PyProof.Rows PySem.Calls
section
variable {prog:GX}{w:HF}{A:HM}{E:GM→GP→Prop}{s:GP}
theorem call_sorted_setG{S:Hc}{c:List (List Int×Hc)}{Q:GM->GP->Prop}(hh:A.handled=none)(hu:A.units+5<KZ)(P:SP prog w s.heap S c)(h64:c.length<1000)(h2:∀p∈c,p.1.length=2)
  (h:∀(v d:Jx) (B:Nat) (I:PB) (e:Nat),NL I (ptsOf c)→(I.map (·.1)).Pairwise (λx y=>ltP x y=true)→(∀b o,s.heap.get? b=some o→v.get? b=some o)→(∀b o,v.get? b=some o→d.get? b=some o)→d.get? v.objs.size=some (Qd "list" (refs I).toArray e)→Q (.ref v.objs.size) {s with heap:=d,toks:=B }):
  Ht (Hr prog w) A (call (.builtin "sorted") [.ref S]) Q E s:=by
 obtain⟨⟨o,n,u,t,ho,G,hd,N,T,hl,hp,_,_⟩,hk,UG⟩:=P;have V:n.size=c.length:=by rw[<-GQ,N];simp[ents]
 have O:SO prog w o n u t (c.map λp=>hsh prog w p.1):=⟨G,hd,T,by rw[GD,V],hl,hp⟩
 have two:∀p∈c,p.1=[p.1.getD 0 0,p.1.getD 1 0]:=λp K=>by
  have:=h2 p K
  match Y:p.1,this with
  |[x,y],_=>rfl
 refine call_function_entry kind_sorted plain_sorted entry_sorted (args_sorted1 _) ?_;unfold Builtin.«sorted»;refine GB (m:=checkCount "sorted" 1 1 _) (GH ?_);refine GB (kdu_collect (A:=A.in1) (B5 O) hh ho (by rw[V,JT];lia) λd B f keep X=>?_)
 have Ug:f.toList=cQ w S n u:=by
  apply J9;intro i;rcases IU i f.size with z |z
  .rw[HP,Iu z];exact (X.2 i _ (Iu z)).symm
  .rw[Hu (by simpa using z),Hu];rw[(fJ w S n u).length_eq,GD,GQ,<-X.1];exact z
 obtain⟨j,l,ek⟩:=AA (λ(p:List Int×Hc)=>Ik p.2) (fJ w S n u) c (by rw[N];unfold ents;rw[Ho];rfl)
 have W:f.toList=refs (ptsOf j):=by
  rw[Ug,ek];unfold refs ptsOf;rw[Ho];rfl
 have Uy:(ptsOf j).length=c.length:=by unfold ptsOf;rw[GD,l.length_eq]
 have g:f.toList.length=c.length:=by rw[W];simp[Uy]
 refine GB (Qf ?_ (by rw[g,JT];lia))
 have D:(d.push {cls:=.type "list",data:=.seq f.toList.toArray }).get? d.objs.size=some (Qd "list" (refs (ptsOf j)).toArray 0):=by
  rw[<-W];exact GZ _ rfl
 have J:∀p∈ptsOf j,TK prog w (d.push {cls:=.type "list",data:=.seq f.toList.toArray }) [p.1.1,p.1.2] p.2:=λp K=>by
  obtain⟨q,Y,rfl⟩:=GJ.mp K;have U:=l.mem_iff.mp Y;obtain⟨oq,its,k,H,r⟩:=hk q U;have e2:=two q U;refine⟨oq,its,k,GI _ (keep _ _ H),?_⟩;rw[<-e2];exact r
 have C:((ptsOf j).map (·.1)).Nodup:=by
  have n1:(j.map (·.1)).Nodup:=((l.map (·.1)).nodup_iff).mpr UG;unfold ptsOf;rw[Ho];refine Hy.mpr ((Hy.mp n1).imp_of_mem λ{a b} ha hb Ub=>?_);intro z;have M:=two a (l.mem_iff.mp ha);have eb:=two b (l.mem_iff.mp hb);have F:(a.1.getD 0 0,a.1.getD 1 0)=(b.1.getD 0 0,b.1.getD 1 0):=z;rw[N6]at F;rw[F.1,F.2]at M;exact Ub (M.trans eb.symm)
 refine GB (Iz (Jd RA ⟨_,D,rfl⟩ Rf ?_ (RB _)));refine SG.sort_b ST3.KP (s:={s with heap:=d.push {cls:=.type "list",data:=.seq f.toList.toArray },toks:=B }) D J (by show A.units+1+1+1<KZ;lia) ((0,0),0) C (by rw[JT];lia) (λp q=>ST3.KP_det p q) λZ pp so=>⟨_,rfl,GH ⟨_,rfl,?_⟩⟩
 obtain⟨e,eD⟩:=sortedHeap_at (out:=(refs Z).toArray) D;refine h d _ B Z e (pp.trans ?_) so keep (λb x R=>?_) eD
 .unfold ptsOf;exact l.map _
 .have L:=GS R;rw[RC (Hn L) (by rw[Jr];exact JG L)];exact GI _ R
end
end ST
namespace L2
open PySem PySem.Spec PyProof.Rows
section
variable {X:Cx}{H0:Hp}{O0:List Hc}{ps:PSt}{e:Expr}{pts:List P2}{pos S6 p p':Pos}
theorem gm(hc:X.calm=true)(hu:X.A.units+10<KZ)(hg:Gl X "sorted")(hm:X.mg "sorted"=none)(hgs:Gl X "set")(U:X.mg "set"=none)(ha:Ev X H0 O0 ps e (lp pts))(hl:pts.length<1000)
  (he:autoParam (GO [e] X.env=(false,Kg e X.env)::GO [] X.env) w4):EvN X H0 O0 ps (.Call (.Name "sorted" p) [.Call (.Name "set" p') [e] [] S6] [] pos) ((ST.srt pts).map pu):=by
 rintro SI s σ H Q I ⟨O,R,q⟩;have hh:X.A.handled=none:=I.ok.hd hc;refine Iq (cU I hg hm boot_sorted ?_);refine callWith_builtin1 (e:=.Call (.Name "set" p') [e] [] S6) (rest:=[]) ?_ rfl rfl;show Ht _ _ (Sk ((false,Kg (.Call (.Name "set" p') [e] [] S6) X.env)::JZ pos (GO [] X.env))) _ _ s;refine Le ?_;refine Iq (cU I hgs U xy ?_);refine callWith_type1 (thn (cp ha dZ he S6 SI s σ H (λvs h=>∃v,vs=[v]/\aY H h/\Rp X.K (hid h O) v (lp pts)) I ⟨O,R,λv h E W=>⟨v,rfl,E,W⟩⟩) λus E hx=>?_) he rfl;obtain⟨vs,h,Z,rv,v,rfl,sm,rp⟩:=hx;obtain⟨u,rfl,ru⟩:=dR rv;cases rp with
 | @lst a S _ hq hwl hwi=>
  cases ru;obtain⟨its,UI,pl,k⟩:=Z.list (SqL.of (aC _ _ hq));have hlp:S.length=pts.length:=by rw[hwl,GD]
  have hil:its.length=pts.length:=by rw[<-UI.length,hlp]
  have F:∀i,i<pts.length->∃b,its[i]?=some (.ref b)/\Rp X.K (hid h O) (.ref b) (pu (pts.getD i (0,0)))/\ST.TK X.prog X.w E.heap [(pts.getD i (0,0)).1,(pts.getD i (0,0)).2] b:=λi t=>by
   have hw:S[i]?=some S[i]:=GC (by lia);have hp:(pts.map pu)[i]?=some (pu (pts.getD i (0,0))):=by rw[GN,GC t];simp[t]
   have r:=hwi i _ _ hw hp;obtain⟨u',C,G⟩:=UI.get hw;generalize S[i]=z at *;cases r with
   | @tup b zs _ hs UQ g=>
    cases G;refine⟨b,C,Rp.tup hs UQ g,?_⟩;obtain⟨jts,rj,ht,_⟩:=Z.tuple (by exact aC.tup hs);have z0:zs.length=2:=UQ
    match zs,z0,g,rj with
    |[z1,z2],_,g,rj=>
     have q1:=g 0 z1 _ rfl rfl;have q2:=g 1 z2 _ rfl rfl;cases q1;cases q2;obtain⟨u1,u2,rfl,W,r2⟩:=gN rj;obtain⟨t1,rfl⟩:=W;obtain⟨t2,rfl⟩:=r2;obtain⟨o,ho,UP,n,Vs⟩:=ht;exact⟨o,_,n,ho,UP,Vs,.cons (IC _ _ _ _) (.cons (IC _ _ _ _) .nil)⟩
  obtain⟨M,Y⟩:=EL F;have Tq:its.toArray.size=pts.length:=by simp[hil]
  refine ST.call_set_pts (λi=>([(pts.getD i (0,0)).1,(pts.getD i (0,0)).2],M i)) hh (by show X.A.units+1+1+1<KZ;lia) pl.isList (λi z ez=>?_) (λi t=>?_) (by rw[Tq];lia) λh2 tk kb sp d keep=>?_
  .have t:i<pts.length:=by have:=aH (show its[i]?=some z by simpa using ez);lia
   have:=(Y i t).1;rw[show its.toArray[i]?=its[i]? by simp,this]at ez
   cases ez;rfl
  .exact (Y i (by rw[Tq]at t;exact t)).2.2
  .rw[Tq]at d;have I2:Inv X SI σ h {E with heap:=h2,toks:=tk }:=Z.kept (t':=tk) keep
   refine Lx ?_;have hkl:kb.length<1000:=by have:=d.len;lia
   refine ST.call_sorted_setG (s:={E with heap:=h2,toks:=tk }) hh (by show X.A.units+5<KZ;lia) sp hkl (λz k=>by obtain⟨j,_,rfl⟩:=d.src z k;rfl) λT h4 B D ep pm so k1 k2 hD=>?_;have I3:Inv X SI σ h {E with heap:=T,toks:=B }:=I2.kept (t':=B) k1
   have N:∀z∈D,∃j,j<pts.length/\z=(pts.getD j (0,0),M j):=λz k=>by
    obtain⟨y,J,rfl⟩:=GJ.mp (pm.mem_iff.mp k);obtain⟨j,m,rfl⟩:=d.src y J;exact⟨j,m,rfl⟩
   have c:D.map (·.1)=ST.srt pts:=by
    refine ST.asc_one so (ST.srt_asc pts) λz=>?_;rw[ST.srt_mem];constructor
    .intro k;obtain⟨y,J,rfl⟩:=GJ.mp k;obtain⟨j,m,rfl⟩:=N y J;simp[m]
    .intro k;obtain⟨j,m⟩:=IE.mp k;have hjl:=aH m;have hk:=d.all j hjl;obtain⟨y,J,ey⟩:=GJ.mp hk;have U1:((y.1.getD 0 0,y.1.getD 1 0),y.2)∈ST.ptsOf kb:=GJ.mpr ⟨y,J,rfl⟩;have L:=pm.mem_iff.mpr U1;refine GJ.mpr ⟨_,L,?_⟩;rw[ey];have:pts.getD j (0,0)=z:=by rw[G7,m];rfl
     show ((pts.getD j (0,0)).1,(pts.getD j (0,0)).2)=z;rw[this]
   have P:h T.objs.size=none:=I3.hok.fresh (GK _);refine⟨.ref T.objs.size,upd h T.objs.size (.lst (D.map λz=>V.ref z.2)),?_,rfl,?_⟩
   .refine I3.laid (t':=B) k2 (GK _) ⟨?_,(ST.refs D),ep,?_,hD⟩
    .rw[GD,<-GD (f:=(·.1)),c,JT];have:=ST.srt_len pts;lia
    .have all:∀l:ST.PB,aZ (l.map λz=>V.ref z.2) (ST.refs l):=λl=>by
      induction l with
      |nil=>exact .nil
      |cons z r ih=>exact .cons rfl ih
     exact all D
   .refine q _ _ _ (sm.trans (aQ P _)) (sm.free P) a9 ⟨?_,λi z x C G=>?_⟩
    .rw[GD,<-c,GD,GD]
    .rw[<-c,Ho,GN]at G;rw[GN]at C;cases hpi:D[i]? with
     |none=>rw[hpi]at C;cases C
     |some y=>
      rw[hpi]at C G;cases C;cases G;obtain⟨j,m,rfl⟩:=N y (Hb hpi);exact (Y j m).2.1.same (bM (aQ P _) P)
theorem oU{n:Nat}(h:n<64):n<1000:=GT h (by decide)
theorem Dj(l):SG.srt ST3.KP l=ST.srt l:=ST.asc_one (SG.srt_asc ST3.KP l) (ST.srt_asc l) λz=>by rw[SG.srt_mem,ST.srt_mem]
theorem zW(c:Gl X "sorted")(g:X.mg "sorted"=none)(f:X.A.units+10<KZ)(d:Ev X H0 O0 ps e (lp pts))(h:pts.length<1000∧pts.Nodup)
  (he:autoParam (GO [e] X.env=(false,Kg e X.env)::GO [] X.env) w4):EvN X H0 O0 ps (.Call (.Name "sorted" p) [e] [] pos) ((ST.srt pts).map pu):=by
 rw[<-Dj];exact lY ST3.KP pu (0,0) (trs:=pts) F9 (λa b=>ST3.KP_det a b) c g f d h he
end
end L2
namespace L2
open PySem PySem.Spec PySem.W PyProof.Rows
abbrev OkD(P:GX)(w:HF)(b:Jx){K:GE}{e:Str->Option GM}{x:Str}{g:Ki}{c:List Str}(D:Dfn K e x g c)(n:Nat)(f:List U->Out->Prop):Prop:=c_ P w K e b (CXF P w) n D.a D.d c (spU K f)
structure Z0 where
 cdv:GM
 A:HM
 outer:List Env
 s:GP
 H:Hp
 E:XK
 O:List Hc
section
variable {X:Cx}{H0:Hp}{O0:List Hc}{ps:PSt}{e:Expr}{es:List Expr}{pos p:Pos}{u x y:U}{xs us:List U}{n m i:Nat}{st:Ki}{pn N:List Str}{SY:List U→Out→Prop}{sd:Hc→List (Str×U)→List U→Out→Prop}{nm q:Str}{P:GX}{w:HF}{K:GE}{mg:Str→Option GM}{base:Jx}{C a d:Hc}{S9 kvs':List (Str×U)}{b:Bool}
theorem a_{D:Dfn X.K X.mg nm st pn}(F:c_ X.prog X.w X.K X.mg X.base (CXF X.prog X.w) n D.a D.d pn (spU X.K SY))(g:cZ m X.A)(f:EvA X H0 O0 ps (e::es) us)(h:SY us (.val u))(i:autoParam (n<=m) v0)(c:autoParam (Gl X nm) w4)
  (TY:autoParam ((nm==("__debug__":Str))=false) v0) (he:autoParam (GO (e::es) X.env=(false,Kg e X.env)::GO es X.env) w4) (Td:autoParam ((JZ pos (GO es X.env)).any (·.1)=false) w4):
  Ev X H0 O0 ps (.Call (.Name nm p) (e::es) [] pos) u:=D4 (F.mono i) g c D.m D.F.kp D.b u_ f h TY he Td
theorem cT{D:Dfn X.K X.mg nm st pn}(F:c_ X.prog X.w X.K X.mg X.base (CXF X.prog X.w) n D.a D.d pn (spU X.K SY))(g:cZ m X.A)(f:EvA X H0 O0 ps (e::es) us)(h:SY us (.new xs))(i:autoParam (n<=m) v0)(c:autoParam (Gl X nm) w4)
  (TY:autoParam ((nm==("__debug__":Str))=false) v0) (he:autoParam (GO (e::es) X.env=(false,Kg e X.env)::GO es X.env) w4) (Td:autoParam ((JZ pos (GO es X.env)).any (·.1)=false) w4):
  EvN X H0 O0 ps (.Call (.Name nm p) (e::es) [] pos) xs:=DJ (F.mono i) g c D.m D.F.kp D.b u_ f h TY he Td
theorem uo(a:cZ n X.A)(b:okU 9 x=true:=by walk_at"ok")(c:okU 9 y=true:=by walk_at"ok"):OpS X (Iw .Eq) x y (.bl (eqW x y)):=F1 (ig a) b c
theorem Fb(a:cZ n X.A)(b:okU 9 x=true:=by walk_at"ok")(c:okU 9 y=true:=by walk_at"ok"):OpS X (Iw .NotEq) x y (.bl (!eqW x y)):=Gg (ig a) b c
theorem av(i)(a:X.N.Nodup)(d:Ev X H0 O0 ps e u)(h:D.nx (ps.set i (some (.val u))))(c:autoParam (X.N[i]?=some z) w4)(f:Loc X.env.scope z:=by exact Or.inl rfl)(hs:autoParam (Kl e (some (.Name z S6)) pos.line X.env=pure false) w4)(b:autoParam (X.fn z=true\/X.env.scope.names.lookup z=some .local) v3):
  W1 X H0 O0 E (.Assign [.Name z S6] e pos) D ps:=u7 a c f d h hs b
theorem okD{D:Dfn K mg nm st pn}(S:ay N pn (am st))(d:∀us o,SY us o->us.length=pn.length)
  (hb:∀(Z:Z0) us o,cZ m (Z.A.deeper (MN nm (am st) Z.s.heap.objs.size D.a Z.cdv))->SY us o->
   Ws (eS (CXF P w) P w K mg base N nm (am st) D.a Z.cdv Z.A Z.outer Z.s Z.H Z.E).nox Z.H Z.O Z.E (bN st) ⟨λ_=>o=.val .non,λf=>f=o,λ_=>False,λ_=>False⟩ (fX N us)):OkD P w base D (m+1) SY:=
 uT D.F S d λc A b s H E O us o e h=>Ws.nox (hb ⟨c,A,b,s,H,E,O⟩ us o e h)
end
end L2
namespace ST3
open PySem PySem.W PySem.Calls PyProof.Rows ST
theorem KQ_det{prog:GX}{w:HF}{h:Jx}{a b:PQ}{x:Hc}(p:KQ.is prog w h a x)(q:KQ.is prog w h b x):a=b:=by
 obtain⟨o,r,n,t,u,k,_,j,m,l⟩:=p;obtain⟨y,i,s,z,v,f,_,d,c,g⟩:=q;rw[k]at f;cases f;rw[j]at d;cases d;rw[m]at c;simp only[Nb,Rg,Value.int.injEq,and_true]at c;obtain⟨rfl,e,_⟩:=c;exact Ii (KP_det l g) e
end ST3
namespace L2
open PySem PySem.Spec PyProof.Rows
section
variable {X:Cx}{H0:Hp}{O0:List Hc}{E:XK}{ps:PSt}{D:PD}{a b tg iter:Expr}{S8:List Ki}{pos:Pos}{C:Hc}{bs:List Bool}
theorem Ey(a:Xv X H0 O0 E ps iter C)(h:D.rt (.exc C))(c:autoParam (∀x,IB iter X.env x=pure x) q0):W1 X H0 O0 E (.For tg iter S8 [] pos) D ps:=by
 intro d s e H i I ⟨L,O,R⟩;refine wpAny_For (KJ (a d s e H (λ_ _=>False) I ⟨O,R,λb s=>L.rt _ h b (R.same.trans s)⟩) (λv g z=>?_) λ_ _ z=>z) c;obtain⟨_,_,_,_,f⟩:=z;exact f.elim
theorem jx{K:GE}{H:Hp}:∀{bs:List Bool}{ws:List V}{its:List GM},aZ ws its->Rps K H ws (bs.map U.bl)->its=bs.map Lw
 |[],ws,its,b,a=>by
  have:=a.nil_inv;subst this;cases b;rfl
 |n::ns,ws,its,b,a=>by
  obtain⟨v,e,rfl,g,d⟩:=a.cons_inv;cases b with
  |cons f c=>
   cases g;cases f;rw[jx c d];rfl
def isT:GM->Bool
 | .bool b=>b
 |_=>false
theorem x5{A:HM}{s:GP}{y:GM}(h:y∈(bs.map Lw).toArray):SeqAt.EqAt A s y (.bool true) (isT y):=by
 obtain⟨b,_,rfl⟩:=GJ.mp (show y∈bs.map Lw by simpa using h);have:=SeqAt.EqAt.bool_bool (A:=A) (s:=s) b true
 rwa [show (b==true)=isT (.bool b) by cases b <;>rfl]at this
theorem nI:∀bs:List Bool,(bs.map Lw).countP isT=bs.count true
 |[]=>rfl
 |b::bs=>by rw[G_,List.countP_cons,List.count_cons,nI bs];cases b <;>rfl
theorem vU:MtR X "list.count" (λx d H Q=>∃(c:Hc) (a:List V) (bs:List Bool),x=.ref c∧d=[.bl true]∧SqL X.K H c a∧Rps X.K H a (bs.map U.bl)∧Q (.int ((bs.count true:Nat):Int)) H):=by
 intro A s E H x d v D Q I o j h;obtain⟨c,a,bs,rfl,rfl,t,p,q⟩:=h;obtain⟨u,rfl,ru⟩:=dR j;cases o;cases ru;obtain⟨its,g,i,C⟩:=I.list t;have e:=jx g p;subst e;obtain⟨⟨z,m,B,r⟩,n,f,w,b,k⟩:=i;cases w;cases k;exact M8 N8 ⟨_,f,rfl⟩ PySem.F.entry_list_count (PySem.F.args_list_count_2 _ _) (SeqAt.list_countAt c _ n m r (.bool true) isT) ⟨f,λy l=>x5 l,⟨.int ((bs.count true:Nat):Int),H,I.tok _,⟨_,by rw[List.toList_toArray,nI]⟩,q⟩⟩
theorem vT:MtR X "list.index" (λx p H Q=>∃(c:Hc) (d:List V) (bs:List Bool) (j:Nat),x=.ref c∧p=[.bl true]∧SqL X.K H c d∧Rps X.K H d (bs.map U.bl)∧bs[j]?=some true∧(∀i,i<j→bs[i]?=some false)∧Q (.int (j:Int)) H):=by
 intro P s W H x p v T Q I G A h;obtain⟨c,d,bs,j,rfl,rfl,M,J,t,z,q⟩:=h;obtain⟨u,rfl,ru⟩:=dR A;cases G;cases ru;obtain⟨its,o,w,S⟩:=I.list M;have E:=o.length;have e:=jx o J;subst e;rw[GD]at E;have l:=aH t
 have at_:∀(m:Nat) (b:Bool) (f:m<(bs.map Lw).toArray.size),bs[m]?=some b->isT (bs.map Lw).toArray[m]=b:=λm b f e=>by
  have:=GV.mp e;simp[this.2,isT]
 have a:(j:Int)<2 ^ 63-1:=by
  have k:sizeLine<=2 ^ 62:=by decide
  have:j<=2 ^ 62:=by lia
  lia
 obtain⟨⟨O,D,R,L⟩,n,r,N,g,B⟩:=w;cases N;cases B;exact M8 N9 ⟨_,r,rfl⟩ PySem.F.entry_list_index (PySem.F.args_list_index_2 _ _) (SeqAt.list_indexAt c _ n D L (.bool true) isT j (by simpa using l) a (at_ j true _ t) λm f h=>at_ m false f (z m h)) ⟨r,λy C=>x5 C,⟨.int (j:Int),H,I.tok _,⟨_,rfl⟩,q⟩⟩
theorem kT{g d:Pos}(k:Ev X H0 O0 ps a (.lst (bs.map U.bl)))(n:Ev X H0 O0 ps b (.bl true))
  (Tg:autoParam (Ly a "count" X.env (Kg a X.env)=Kg a X.env) w4)
  (Uk:autoParam (((JZ d (GO [b] X.env)).all (λx=>!x.1) && (Q1 d (N1 [] X.env)).all (λx=>x.1.isSome) && decide ([b].length+([]:List N2).length+(if ([]:List N2).isEmpty then 0 else 1)<30))=true) w4)
  (Th:autoParam ((g.endLine==d.line)=true) w4) (UZ:autoParam (GO [b] X.env=(false,Kg b X.env)::GO [] X.env) w4) (Tp:autoParam ((JZ d (GO [] X.env)).any (·.1)=false) w4):
  Ev X H0 O0 ps (.Call (.Attribute a "count" g) [b] [] d) (.int ((bs.count true:Nat):Int)):=
 PE.mono (u8 JY N8 PySem.F.type_list_count vU k (cp n dZ UZ) Tg Uk Th UZ Tp) λs H Q ⟨O,R,q⟩=>⟨O,R,λv r f l=>by
  cases l with
  | @lst c i _ h j o=>
   refine⟨.inl ⟨rfl,_,SqL.of (aC _ _ h)⟩,O,R.go f,λw m e p=>?_⟩;cases p;exact⟨c,i,bs,rfl,rfl,SqL.of (aC _ _ (aM e _ _ h)),(Rps.same (aM e) ⟨j,o⟩).same aC,q _ m (f.trans e) (.int _)⟩⟩
theorem kZ{j:Nat}{g d:Pos}(n:Ev X H0 O0 ps a (.lst (bs.map U.bl)))(r:Ev X H0 O0 ps b (.bl true))(u:bs[j]?=some true)(k:∀i,i<j->bs[i]?=some false)
  (Tg:autoParam (Ly a "index" X.env (Kg a X.env)=Kg a X.env) w4)
  (Uk:autoParam (((JZ d (GO [b] X.env)).all (λx=>!x.1) && (Q1 d (N1 [] X.env)).all (λx=>x.1.isSome) && decide ([b].length+([]:List N2).length+(if ([]:List N2).isEmpty then 0 else 1)<30))=true) w4)
  (Th:autoParam ((g.endLine==d.line)=true) w4) (UZ:autoParam (GO [b] X.env=(false,Kg b X.env)::GO [] X.env) w4) (Tp:autoParam ((JZ d (GO [] X.env)).any (·.1)=false) w4):
  Ev X H0 O0 ps (.Call (.Attribute a "index" g) [b] [] d) (.int (j:Int)):=
 PE.mono (u8 JY N9 PySem.F.type_list_index vT n (cp r dZ UZ) Tg Uk Th UZ Tp) λz H Q ⟨O,R,q⟩=>⟨O,R,λv y f o=>by
  cases o with
  | @lst c l _ h m s=>
   refine⟨.inl ⟨rfl,_,SqL.of (aC _ _ h)⟩,O,R.go f,λw p e t=>?_⟩;cases t;exact⟨c,l,bs,j,rfl,rfl,SqL.of (aC _ _ (aM e _ _ h)),(Rps.same (aM e) ⟨m,s⟩).same aC,u,k,q _ p (f.trans e) (.int _)⟩⟩
end
end L2
local macro_rules | `(tactic|walk_at"sz")=>`(tactic|first |with_reducible assumption | ((with_reducible apply L2.Sz.sub') <;>walk_at"sz") | ((with_reducible apply L2.Sz.add') <;>walk_at"sz") | ((with_reducible apply L2.Sz.mul) <;>walk_at"sz") | ((with_reducible apply L2.Sz.neg) <;>walk_at"sz") | ((with_reducible apply L2.Sz.ediv) <;>walk_at"sz") | ((with_reducible apply L2.Sz.abs) <;>walk_at"sz") |exact L2.Sz.lit (m:=8) (by decide) |exact L2.Sz.emod (m:=250) (by decide) (by decide) |exact L2.Sz.lit (m:=250) (by decide))
local macro_rules | `(tactic|walk_at"mul")=>`(tactic|exact L2.Sz.ok (by walk_at"sz") (by walk_at"sz") (by decide))
local macro_rules | `(tactic|walk_at"div")=>`(tactic|first |exact⟨by decide,L2.Sz.mono (m:=250) (by decide) (by decide)⟩ |exact⟨by lia,L2.Sz.mono (by walk_at"sz") (by decide)⟩)
local macro_rules | `(tactic|walk_at"mod")=>`(tactic|first |decide |lia)
local macro_rules | `(tactic|walk_at"szb")=>`(tactic|exact L2.Sz.mono (by walk_at"sz") (by decide))
local macro_rules | `(tactic|walk_at"kit")=>`(tactic|first |exact L2.kit_int_int _ |exact L2.kit_int_bool _ |exact L2.kit_tuple_tuple _ |exact L2.kit_list_list _ |exact L2.kit_bool_int _ |exact L2.kit_list_tuple _ |rfl)
local macro_rules | `(tactic|walk_at"ok")=>`(tactic|first |rfl |decide)
local macro_rules | `(tactic|walk_at"sub")=>`(tactic|first |exact trivial | (refine⟨rfl,?_⟩;walk_at"sub") | (with_reducible apply L2.SubP.skip;walk_at"sub"))
local macro_rules | `(tactic|walk_at"len")=>`(tactic|first |decide | (simp only[List.length_append,List.length_cons,List.length_nil,List.length_map];decide))
local macro_rules | `(tactic|walk_at"ln")=>`(tactic| (intro us o h;(repeat (obtain⟨_,h⟩:=h));subst_vars;rfl))
namespace My
open PySem PySem.Spec PyProof.Rows L2
noncomputable def top(i:Nat):Ki:=PySem.Challenge.pw_stakefield_k37_told_refused.main.body.getD i (.Pass ⟨0,0,0,0⟩)
noncomputable abbrev kY:Ki:=top 15
noncomputable abbrev Ab:Ki:=top 16
noncomputable abbrev p9:Ki:=top 17
noncomputable abbrev yj:Ki:=top 19
noncomputable abbrev jO:Ki:=top 20
noncomputable abbrev j7:Ki:=top 21
noncomputable abbrev qi:Ki:=top 22
noncomputable abbrev ve:Ki:=top 23
noncomputable abbrev lP:Ki:=top 24
noncomputable abbrev vt:Ki:=top 25
noncomputable abbrev uB:Ki:=top 26
noncomputable abbrev yC:Ki:=top 28
noncomputable abbrev iU:Ki:=top 29
noncomputable abbrev uq:Ki:=top 30
noncomputable abbrev uO:Ki:=top 31
noncomputable abbrev gF:Ki:=top 32
noncomputable abbrev o9:Ki:=top 33
noncomputable abbrev fG:Ki:=top 34
noncomputable abbrev xF:Ki:=top 35
noncomputable abbrev fu:Ki:=top 36
noncomputable abbrev rO:Ki:=top 38
noncomputable abbrev lH:Ki:=top 40
noncomputable abbrev jW:Ki:=top 41
noncomputable abbrev ff:Ki:=top 42
noncomputable abbrev lI:Ki:=top 45
noncomputable abbrev hG:Ki:=top 46
noncomputable abbrev qx:Ki:=top 47
noncomputable abbrev nO:Ki:=top 48
noncomputable abbrev qg:Ki:=top 49
noncomputable abbrev n4:Ki:=top 51
noncomputable abbrev t5:Ki:=top 52
noncomputable abbrev dh:Ki:=top 53
noncomputable abbrev zq:Ki:=top 54
noncomputable abbrev jY:Ki:=top 56
noncomputable abbrev g9:Ki:=top 57
noncomputable abbrev jV:Ki:=top 58
noncomputable abbrev j4:Ki:=top 59
noncomputable abbrev g6:Ki:=top 60
noncomputable abbrev nP:Ki:=top 61
noncomputable abbrev l5:Ki:=top 62
noncomputable abbrev iu:Ki:=top 63
noncomputable abbrev i8:Ki:=top 64
noncomputable abbrev gR:Ki:=top 65
noncomputable abbrev gl:Ki:=top 66
noncomputable abbrev iN:Ki:=top 67
noncomputable abbrev iS:Ki:=top 68
noncomputable abbrev j8:Ki:=top 69
noncomputable abbrev cG:Ki:=top 70
noncomputable abbrev jm:Ki:=top 71
noncomputable abbrev xg:Ki:=top 72
theorem qq:ay ["thing"] ["thing"] (am kY):=by walk_at"sC"
theorem Bn:ay ["number"] ["number"] (am Ab):=by walk_at"sC"
theorem bQ:ay ["a","b","high","high_times","low","low_times","fits","rest","rest_times","s"] ["a","b"] (am p9):=by walk_at"sC"
theorem AZ:ay ["move"] ["move"] (am yj):=by walk_at"sC"
theorem kU:ay ["thing","number"] ["thing"] (am jO):=by walk_at"sC"
theorem oJ:ay ["thing"] ["thing"] (am j7):=by walk_at"sC"
theorem wS:ay ["P","move"] ["P","move"] (am qi):=by walk_at"sC"
theorem qu:ay ["P","move","place"] ["P","move"] (am ve):=by walk_at"sC"
theorem cY:ay ["move","side","a","b","c","d"] ["move"] (am lP):=by walk_at"sC"
theorem xW:ay ["P","Q"] ["P","Q"] (am vt):=by walk_at"sC"
theorem e9:ay ["P","Q","far","u","v","parts","s","t"] ["P","Q"] (am uB):=by walk_at"sC"
theorem AX:ay ["P","Q","R"] ["P","Q","R"] (am yC):=by walk_at"sC"
theorem fC:ay ["row","kept","P"] ["row"] (am iU):=by walk_at"sC"
theorem gB:ay ["points","row","there","back"] ["points"] (am uq):=by walk_at"sC"
theorem ye:ay ["land"] ["land"] (am uO):=by walk_at"sC"
theorem j9:ay ["P","Q","R"] ["P","Q","R"] (am gF):=by walk_at"sC"
theorem lD:ay ["land","P","A","B"] ["land","P"] (am o9):=by walk_at"sC"
theorem e8:ay ["land","A","B"] ["land"] (am fG):=by walk_at"sC"
theorem sO:ay ["land","A","B"] ["land"] (am xF):=by walk_at"sC"
theorem gW:ay ["land","move","P"] ["land","move"] (am fu):=by walk_at"sC"
theorem vD:ay ["land","k","P"] ["land","k"] (am rO):=by walk_at"sC"
theorem pV:ay ["land","k"] ["land","k"] (am lH):=by walk_at"sC"
theorem o6:ay ["land"] ["land"] (am jW):=by walk_at"sC"
theorem qr:ay ["land","k","many"] ["land","k"] (am ff):=by walk_at"sC"
theorem cy:ay ["land","y","begins","ends","A","B","rise","run"] ["land","y"] (am lI):=by walk_at"sC"
theorem cj:ay ["land","move","levelled","back","found","y","ends","x","P"] ["land"] (am hG):=by walk_at"sC"
theorem wT:ay ["land"] ["land"] (am qx):=by walk_at"sC"
theorem gd:ay ["row","hand","kept","cut","P"] ["row","hand"] (am nO):=by walk_at"sC"
theorem jP:ay ["land","row"] ["land"] (am qg):=by walk_at"sC"
theorem f6:ay ["piece","corners"] ["piece"] (am n4):=by walk_at"sC"
theorem zS:ay ["k","P","Q","R"] ["k","P","Q","R"] (am t5):=by walk_at"sC"
theorem bJ:ay ["piece","k","P","corners","across","pairs","corner","side","pair"] ["piece","k","P"] (am dh):=by walk_at"sC"
theorem pi:ay ["land","k","P","piece"] ["land","k","P"] (am zq):=by walk_at"sC"
theorem pK:ay ["script","k"] ["script","k"] (am jY):=by walk_at"sC"
theorem cR:ay ["one","other"] ["one","other"] (am g9):=by walk_at"sC"
theorem pI:ay ["a","b","p"] ["a","b","p"] (am jV):=by walk_at"sC"
theorem gs:ay ["points","way","p"] ["points"] (am j4):=by walk_at"sC"
theorem d6:ay ["points","some"] ["points"] (am g6):=by walk_at"sC"
theorem kS:ay ["land","p","k"] ["land","p"] (am nP):=by walk_at"sC"
theorem ci:ay ["land","twice","edge","k","a","b"] ["land"] (am l5):=by walk_at"sC"
theorem bw:ay ["script","cell","many","far","wide","points","k"] ["script"] (am iu):=by walk_at"sC"
theorem mU:ay ["cell"] ["cell"] (am i8):=by walk_at"sC"
theorem aD:ay ["land","k","point","kinds","plain","e"] ["land","k","point"] (am gR):=by walk_at"sC"
theorem dU:ay ["land","k","point","x","y"] ["land","k","point"] (am gl):=by walk_at"sC"
theorem mS:ay ["thing"] ["thing"] (am iN):=by walk_at"sC"
theorem im:ay ["found","land","pair"] ["found","land"] (am iS):=by walk_at"sC"
theorem jp:ay ["spots","k"] ["spots"] (am j8):=by walk_at"sC"
theorem be:ay ["found","land","k","point","spot","times_v","many","x","y"] ["found","land","k","point"] (am cG):=by walk_at"sC"
theorem bO:ay ["script","land","k","one","cell","other","many","x","y"] ["script","land","k"] (am jm):=by walk_at"sC"
theorem c7:ay ["script","slant","aside","land","x","y","k","point","due","handed"] ["script"] (am xg):=by walk_at"sC"
set_option genInjectivity false in
set_option genSizeOf false in
set_option genSizeOfSpec false in
structure Txt(w:HF)(K:GE)(mg:Str->Option GM) where
 abE:Dfn K mg "is_whole" kY ["thing"]
 aca:Dfn K mg "sign" Ab ["number"]
 abV:Dfn K mg "shares" p9 ["a","b"]
 acb:Dfn K mg "hand" yj ["move"]
 abO:Dfn K mg "is_move" jO ["thing"]
 abv:Dfn K mg "need_move" j7 ["thing"]
 abW:Dfn K mg "turned" qi ["P","move"]
 ab3:Dfn K mg "moved" ve ["P","move"]
 abF:Dfn K mg "way_back" lP ["move"]
 ab4:Dfn K mg "steps" vt ["P","Q"]
 ab5:Dfn K mg "level" uB ["P","Q"]
 acd:Dfn K mg "turn" yC ["P","Q","R"]
 abo:Dfn K mg "left_bends" iU ["row"]
 ab6:Dfn K mg "field" uq ["points"]
 ab7:Dfn K mg "sides" uO ["land"]
 abe:Dfn K mg "lies_between" gF ["P","Q","R"]
 ab8:Dfn K mg "where" o9 ["land","P"]
 abk:Dfn K mg "double_area" fG ["land"]
 acf:Dfn K mg "rim" xF ["land"]
 abl:Dfn K mg "field_moved" fu ["land","move"]
 ace:Dfn K mg "fold" rO ["land","k"]
 abG:Dfn K mg "multiple" lH ["land","k"]
 abw:Dfn K mg "points_in" jW ["land"]
 aak:DfD K mg "count" ff ["land","k"] 1
 abH:Dfn K mg "row_ends" lI ["land","y"]
 abP:Dfn K mg "by_rows" hG ["land"]
 aaD:Dfn K mg "stakes" qx ["land"]
 abQ:Dfn K mg "cut_off" nO ["row","hand"]
 aaE:Dfn K mg "pieces" qg ["land"]
 abR:Dfn K mg "widened" n4 ["piece"]
 ab9:Dfn K mg "times" t5 ["k","P","Q","R"]
 abf:Dfn K mg "put_together" dh ["piece","k","P"]
 aas:Dfn K mg "told" zq ["land","k","P"]
 abx:Dfn K mg "_law_cell" jY ["script","k"]
 abg:Dfn K mg "_law_divisor" g9 ["one","other"]
 aby:Dfn K mg "_law_side" jV ["a","b","p"]
 abz:Dfn K mg "_law_half" j4 ["points"]
 abh:Dfn K mg "_law_corners" g6 ["points"]
 abS:Dfn K mg "_law_in" nP ["land","p"]
 abI:Dfn K mg "_law_all" l5 ["land"]
 abm:Dfn K mg "_law_points" iu ["script"]
 abp:Dfn K mg "_law_times" i8 ["cell"]
 abi:Dfn K mg "_law_refusal" gR ["land","k","point"]
 abJ:Dfn K mg "_law_due" gl ["land","k","point"]
 abq:Dfn K mg "_law_whole" iN ["thing"]
 abr:Dfn K mg "_law_kinds" iS ["found","land"]
 abA:Dfn K mg "_law_near" j8 ["spots"]
 abt:Dfn K mg "_law_comes" cG ["found","land","k","point"]
 abu:Dfn K mg "_law_point" jm ["script","land","k"]
 abX:Dfn K mg "law" xg ["script"]
 abj:Exn mg "Flat"
 aah:Exn mg "NoField"
 aai:Exn mg "NoHeart"
 aaF:Exn mg "NoMove"
 aaG:Exn mg "NoName"
 aab:Exn mg "NoNumber"
 abK:N3 K aab.c [.type "ValueError",.type "Exception",.type "BaseException",.type "object"] "ValueError.__new__"=true
 aa9:Exn mg "NoRow"
 aaH:Exn mg "NoText"
 aaj:Exn mg "NoWedge"
 aac:Exn mg "NotThere"
 abL:N3 K aac.c [.type "ValueError",.type "Exception",.type "BaseException",.type "object"] "ValueError.__new__"=true
 aaf:Exn mg "StakeError"
 aag:Exn mg "TooGreat"
 aad:Exn mg "TooMany"
 abT:N3 K aad.c [.type "ValueError",.type "Exception",.type "BaseException",.type "object"] "ValueError.__new__"=true
 aaw:mg "ValueError"=none
 abB:mg "abs"=none
 acg:mg "all"=none
 ab2:mg "bool"=none
 abY:mg "int"=none
 aaa:mg "isinstance"=none
 aae:mg "len"=none
 aat:mg "list"=none
 abZ:mg "max"=none
 ab0:mg "min"=none
 aa_:mg "range"=none
 abM:mg "reversed"=none
 ab1:mg "set"=none
 aal:mg "sorted"=none
 abU:mg "sum"=none
 abn:mg "tuple"=none
 ab_:mg "zip"=none
 aam:M3 K aaf.c (.type "BaseException")=some true
 aba:GW K (.ref aab.c) (.ref abj.c)=some false
 aaI:GW K (.ref aab.c) (.ref aah.c)=some false
 aaJ:GW K (.ref aab.c) (.ref aai.c)=some false
 aaT:GW K (.ref aab.c) (.ref aaF.c)=some false
 aaU:GW K (.ref aab.c) (.ref aaG.c)=some false
 aax:GW K (.ref aab.c) (.ref aab.c)=some true
 aa3:GW K (.ref aab.c) (.ref aa9.c)=some false
 aaV:GW K (.ref aab.c) (.ref aaH.c)=some false
 aaK:GW K (.ref aab.c) (.ref aaj.c)=some false
 aay:GW K (.ref aab.c) (.ref aac.c)=some false
 aaz:GW K (.ref aab.c) (.ref aag.c)=some false
 aaL:GW K (.ref aab.c) (.ref aad.c)=some false
 aan:GW K (.ref aab.c) (.type "ValueError")=some true
 abb:GW K (.ref aac.c) (.ref abj.c)=some false
 aaM:GW K (.ref aac.c) (.ref aah.c)=some false
 aaN:GW K (.ref aac.c) (.ref aai.c)=some false
 aaW:GW K (.ref aac.c) (.ref aaF.c)=some false
 aaX:GW K (.ref aac.c) (.ref aaG.c)=some false
 aaA:GW K (.ref aac.c) (.ref aab.c)=some false
 aa4:GW K (.ref aac.c) (.ref aa9.c)=some false
 aaY:GW K (.ref aac.c) (.ref aaH.c)=some false
 aaO:GW K (.ref aac.c) (.ref aaj.c)=some false
 aaB:GW K (.ref aac.c) (.ref aac.c)=some true
 aaC:GW K (.ref aac.c) (.ref aag.c)=some false
 aaP:GW K (.ref aac.c) (.ref aad.c)=some false
 aao:GW K (.ref aac.c) (.type "ValueError")=some true
 abd:GW K (.ref aad.c) (.ref abj.c)=some false
 aaZ:GW K (.ref aad.c) (.ref aah.c)=some false
 aa0:GW K (.ref aad.c) (.ref aai.c)=some false
 aa5:GW K (.ref aad.c) (.ref aaF.c)=some false
 aa6:GW K (.ref aad.c) (.ref aaG.c)=some false
 aaQ:GW K (.ref aad.c) (.ref aab.c)=some false
 abc:GW K (.ref aad.c) (.ref aa9.c)=some false
 aa7:GW K (.ref aad.c) (.ref aaH.c)=some false
 aa1:GW K (.ref aad.c) (.ref aaj.c)=some false
 aaR:GW K (.ref aad.c) (.ref aac.c)=some false
 aaS:GW K (.ref aad.c) (.ref aag.c)=some false
 aa2:GW K (.ref aad.c) (.ref aad.c)=some true
 aau:GW K (.ref aad.c) (.type "ValueError")=some true
 aap:M3 K aab.c (.ref aaf.c)=some true
 aaq:M3 K aac.c (.ref aaf.c)=some true
 aav:M3 K aad.c (.ref aaf.c)=some true
 aar:PySem.W.typeIn K (.ref aaf.c)=some (.type "type")
 abC:PySem.W.XcOk K aab.c
 abD:PySem.W.XcOk K aac.c
 abN:PySem.W.XcOk K aad.c
 aa8:∃t,mg "MOST_STAKES"=some (.int 100 t)
section
variable {P:GX}{w:HF}{K:GE}{mg:Str→Option GM}{base:Jx} (T:Txt w K mg)
noncomputable def sgn(n:Int):Int:=if 0<n then 1 else if n<0 then -1 else 0
noncomputable def cw(b:Int):Int:=if b<0 then -b else b
theorem dM(b):cw b=(b.natAbs:Int):=by unfold cw;split <;>lia
theorem iV(h:b≠0):0<cw b:=by unfold cw;split <;>lia
theorem dP(d b):d ∣ cw b↔d ∣ b:=by
 unfold cw;split
 .exact N_
 .exact Iff.rfl
theorem xG(d b):cw b ∣ d↔b ∣ d:=by
 unfold cw;split
 .exact Int.neg_dvd
 .exact Iff.rfl
structure jT(a b high ht low lt:Int):Prop where
 hp:0<high
 lo0:0<=low
 lolt:low<high
 dv:∀d,(d ∣ high/\d ∣ low)↔(d ∣ a/\d ∣ b)
 ch:b ∣ ht*a-high
 cl:b ∣ lt*a-low
 bd:ht.natAbs*low.natAbs+lt.natAbs*high.natAbs<=b.natAbs
 hi:high.natAbs<=b.natAbs
theorem qD(h:b≠0):jT a b (cw b) 0 (a%cw b) 1:=by
 have g:=iV h;refine⟨g,KO _ (by lia),JS _ g,λd=>?_,?_,?_,?_,by rw[dM];simp⟩
 .rw[dP];constructor
  .rintro ⟨f,c⟩;refine⟨?_,f⟩;have e:=Kt a (cw b);rw[<-e];exact Ls c (HS ((dP d b).mpr f) (Ka _ _))
  .rintro ⟨f,c⟩;refine⟨c,?_⟩;have e:a%cw b=a-cw b*(a/cw b):=by have:=Kt a (cw b);lia
   rw[e];exact Nh f (HS ((dP d b).mpr c) (Ka _ _))
 .rw[Jn,Int.zero_sub,N_];exact (dP b b).mpr (Nu b)
 .have e:1*a-a%cw b=cw b*(a/cw b):=by have:=Kt a (cw b);lia
  rw[e];exact HS ((dP b b).mpr (Nu b)) (Ka _ _)
 .rw[dM];simp
theorem u9(I:jT a b high ht low lt)(h:low≠0):jT a b low lt (high-high/low*low) (ht-high/low*lt)/\high-high/low*low<low:=by
 obtain⟨x,g,n,t,u,k,l,w⟩:=I;have i:0<low:=by lia
 have e:=Kt high low;have m:=KO high h;have j:=JS high i;have q:0<=high/low:=OR (by lia) (by lia);have o:high-high/low*low=high%low:=by rw[J3];lia
 rw[o];refine⟨⟨i,m,j,λd=>?_,k,?_,?_,by lia⟩,j⟩
 .rw[<-t d];constructor
  .rintro ⟨f,c⟩;refine⟨?_,f⟩;rw[<-e];exact Ls c (HS f (Ka _ _))
  .rintro ⟨f,c⟩;refine⟨c,?_⟩;rw[show high%low=high-low*(high/low) by lia];exact Nh f (HS c (Ka _ _))
 .have s:(ht-high/low*lt) *a-high%low=(ht*a-high)-(high/low) *(lt*a-low):=by grind
  rw[s];exact Nh u (HS k (HX _ _))
 .have r:(ht-high/low*lt).natAbs<=ht.natAbs+(high/low).natAbs*lt.natAbs:=by
   have:=Int.natAbs_sub_le ht (high/low*lt);rw[MK]at this;exact this
  have p:high.natAbs=(high%low).natAbs+low.natAbs*(high/low).natAbs:=by
   have:(high.natAbs:Int)=((high%low).natAbs+low.natAbs*(high/low).natAbs):=by
    push_cast
    rw[LM m,LM q,LM (by lia:0<=high),LM g];lia
   lia
  have v:(ht-high/low*lt).natAbs*low.natAbs<=(ht.natAbs+(high/low).natAbs*lt.natAbs) *low.natAbs:=Pp _ r;rw[p]at l;refine HB ?_ l;generalize (ht-high/low*lt).natAbs=A at *;generalize ht.natAbs=B at *;generalize lt.natAbs=C at *;generalize low.natAbs=D at *;generalize (high/low).natAbs=E at *;generalize (high%low).natAbs=F at *;grind
structure dD(a b g s t:Int):Prop where
 g0:0<=g
 eq:s*a+t*b=g
 da:g ∣ a
 db:g ∣ b
 z:b=0->t=0/\s=sgn a/\g=cw a
 nz:b≠0->0<g/\0<=s/\s<cw b/g
theorem nV(a):dD a 0 (cw a) (sgn a) 0:=by
 refine⟨by unfold cw;split <;>lia,?_,(xG a a).mpr (Nu a),Sb _,λ_=>⟨rfl,rfl,rfl⟩,λh=>absurd rfl h⟩;unfold sgn cw;split
 .split <;>lia
 .split
  .lia
  .lia
theorem Ay(j:b≠0)(I:jT a b high ht 0 lt):dD a b high (ht%(cw b/high)) ((high-ht%(cw b/high) *a).fdiv b):=by
 obtain⟨s,p,o,t,u,y,z,x⟩:=I;obtain⟨r,m⟩:=(t high).mp ⟨Nu _,Sb _⟩;obtain⟨f,rfl⟩:=r;have g:=(dP _ _).mpr m;obtain⟨d,l⟩:=g;have q:=iV j;have n:cw b/high=d:=by rw[l,Jo _ (by lia)]
 have k:0<d:=by
  have:0<high*d:=by lia
  exact ID this (by lia)
 rw[n];have w:=Kt ht d
 have i:b ∣ high-ht%d*(high*f):=by
  have e:high-ht%d*(high*f)=-(ht*(high*f)-high)+cw b*(f*(ht/d)):=by
   rw[l,show ht%d=ht-d*(ht/d) by lia];grind
  rw[e];refine Ls (N_.mpr u) (HS ((dP b b).mpr (Nu b)) (Ka _ _))
 refine⟨by lia,?_,Ka _ _,m,λh=>absurd h j,λ_=>⟨s,KO _ (by lia),?_⟩⟩
 .obtain⟨c,v⟩:=i;rw[v,Int.mul_fdiv_cancel_left _ j,J3 c b];lia
 .rw[n];exact JS _ k
theorem FU(I:jT a b high ht low lt):lt.natAbs<=b.natAbs:=by
 have c:1<=high.natAbs:=by have:=I.hp;lia
 have d:lt.natAbs*1<=lt.natAbs*high.natAbs:=PV _ c;have:=I.bd;lia
theorem yL(h:dD a b g s t)(h':dD a b g' s' t'):g=g'/\s=s'/\t=t':=by
 have r:g ∣ g':=by rw[<-h'.eq];exact Ls (HS h.da (HX _ _)) (HS h.db (HX _ _))
 have B:g' ∣ g:=by rw[<-h.eq];exact Ls (HS h'.da (HX _ _)) (HS h'.db (HX _ _))
 have x:=QV h.g0 h'.g0 r B;subst x;by_cases e:b=0
 .obtain⟨F,D,_⟩:=h.z e;obtain⟨A,y,_⟩:=h'.z e;exact⟨rfl,by lia,by lia⟩
 .obtain⟨p,E,C⟩:=h.nz e;obtain⟨_,n,m⟩:=h'.nz e;obtain⟨f,l⟩:=h.da;obtain⟨j,k⟩:=(dP g b).mpr h.db;obtain⟨c,d⟩:=h.db;have G:cw b/g=j:=by rw[k,Jo _ (by lia)]
  have v:=h.eq;have w:=h'.eq
  have A:s*f+t*c=1:=by
   have:g*(s*f+t*c)=g*1:=by rw[l,d]at v;grind
   exact H_ (by lia) this
  have y:s'*f+t'*c=1:=by
   have:g*(s'*f+t'*c)=g*1:=by rw[l,d]at w;grind
   exact H_ (by lia) this
  have q:c ∣ s-s':=by
   refine⟨s*(t'-t)+t*(s-s'),?_⟩;grind
  have o:j ∣ s-s':=by
   have:j.natAbs=c.natAbs:=by
    have i:(cw b).natAbs=b.natAbs:=by rw[dM];simp
    rw[k,d]at i;rw[MK,MK]at i;exact Nat.eq_of_mul_eq_mul_left (by lia) i
   exact MQ.mp (by rw[this];exact MQ.mpr q)
  have u:s=s':=by
   have:s-s'=0:=Int.eq_zero_of_dvd_of_natAbs_lt_natAbs o (by lia);lia
  subst u;refine⟨rfl,rfl,?_⟩;have:b*t=b*t':=by grind
  exact H_ e this
theorem CJ(j:b≠0):∀n high e low lt,low.toNat<=n->jT a b high e low lt->∃c f d,jT a b c f 0 d
 |0,high,e,low,lt,i,I=>by
  have:low=0:=by have:=I.lo0;lia
  subst this;exact⟨_,_,_,I⟩
 |n+1,high,e,low,lt,i,I=>by
  by_cases h:low=0
  .subst h;exact⟨_,_,_,I⟩
  .obtain⟨k,g⟩:=u9 I h;exact CJ j n _ _ _ _ (by have:=I.lo0;lia) k
theorem iP(a b):∃g s t,dD a b g s t:=by
 by_cases c:b=0
 .subst c;exact⟨_,_,_,nV a⟩
 .obtain⟨h,d,lt,I⟩:=CJ c _ _ _ _ _ (GK _) (qD c);exact⟨_,_,_,Ay c I⟩
theorem jc(G:dD a b g s t)(k:Sz m a)(f:Sz m b):Sz (m+8) g/\Sz (m+8) s/\Sz (2*m+8) t:=by
 by_cases c:b=0
 .subst c;obtain⟨l,i,d⟩:=G.z rfl;rw[l,i,d];have j:Sz 8 (sgn a):=by unfold Sz sgn;split;decide;split <;>decide
  exact⟨(Sz.abs k).mono (by lia),j.mono (by lia),Sz.mono (m:=8) (by decide) (by lia)⟩
 .obtain⟨n,o,j⟩:=G.nz c;have l:cw b/g<=cw b:=Oi _ (by have:=iV c;lia);have i:=dM b
  have sg:Sz m g:=by
   refine f.natle ?_;exact Nat.le_of_dvd (by lia) (MQ.mpr G.db)
  have h:Sz m s:=f.natle (by lia);refine⟨sg.mono (by lia),h.mono (by lia),?_⟩;have e:t*b=g-s*a:=by have:=G.eq;lia
  have q:Sz (2*m+1) (t*b):=by
   rw[e];have:Sz (m+m) (s*a):=h.mul k;have d:=(sg.mono (show m<=m+m by lia)).sub this;exact d.mono (by lia)
  refine (Sz.mono (m:=2*m+1) ?_ (by lia));unfold Sz at *;rw[MK]at q;have:1<=b.natAbs:=by lia
  exact IK (Nat.le_mul_of_pos_right _ this) q
def v9:List U->Out->Prop:=λa o=>∃n:Int,a=[.int n]/\o=.val (.int (sgn n))
theorem uc:OkD P w base T.aca 1 (v9):=by
 refine okD Bn (by walk_at"ln") ?_;rintro _ _ _ d ⟨n,rfl,rfl⟩;refine af (mY (aw eo (aa 0 rfl) ag) (λb=>?_) (λc=>(aA ?_)))
 .refine af (aR ag ?_);exact vIO (by unfold sgn;rw[if_pos (dTb b)])
 .refine af (mY (aw d8 (aa 0 rfl) ag) (λb=>?_) (λc=>(aA ?_)))
  .refine af (aR (bT ag) ?_);exact vIO (by unfold sgn;rw[if_neg (dFb c),if_pos (dTb b)])
  .rename_i a
   refine af (aR ag ?_);exact vIO (by unfold sgn;rw[if_neg (dFb c),if_neg (dFb a)])
def rd:List U->Out->Prop:=λc o=>∃a b g s t:Int,c=[.int a,.int b]/\Sz 4000 a/\Sz 4000 b/\dD a b g s t/\o=.val (.tup [.int g,.int s,.int t])
theorem qH(G:dD a b g s t)(c:dD a b g' s' t'):Out.val (.tup [.int g,.int s,.int t])=Out.val (.tup [.int g',.int s',.int t']):=by
 obtain⟨rfl,rfl,rfl⟩:=yL G c;rfl
theorem n5:OkD P w base T.abV 2 (rd):=by
 refine okD bQ (by walk_at"ln") ?_;rintro _ _ _ x ⟨a,b,g,s,t,rfl,p,e,G,rfl⟩;refine af (mY (aw aW (aa 1 rfl) ag) (λz=>?_) (λu=>(aA ?_)))
 .have d:=dTb z;subst d;refine af (aR (aL (aj (aq lv rfl T.abB PyProof.Rows.boot_abs (ae (aa 0 rfl) ak ai)) (aj (a_ (uc T) x (ae (aa 0 rfl) ak ai) ⟨_,rfl,rfl⟩) (aj ag aF aO) aB) aB)) ?_);exact qH (nV a) G
 .have d:=dFb u;have f:=iV d;refine af (av 2 bQ.nd (aq lv rfl T.abB PyProof.Rows.boot_abs (ae (aa 1 rfl) ak ai)) ?_);refine af (av 3 bQ.nd ag ?_);refine af (av 4 bQ.nd (bC (aa 0 rfl) (aa 2 rfl) f) ?_);refine af (av 5 bQ.nd ag ?_);refine af (gH (λm:Int×Int×Int×Int=>[some (.val (.int a)),some (.val (.int b)),some (.val (.int m.1)),some (.val (.int m.2.1)),some (.val (.int m.2.2.1)),some (.val (.int m.2.2.2)),none,none,none,none]) (λn m=>n=m.2.2.1.toNat/\jT a b m.1 m.2.1 m.2.2.1 m.2.2.2) PassesOwn.never ?h0 ?hs)
  case h0=>exact⟨_,(_,_,_,_),⟨rfl,qD d⟩,rfl,rfl,rfl,rfl,rfl,rfl,trivial⟩
  case hs=>
   rintro m ⟨c,y,low,lt⟩ ⟨rfl,I⟩;dsimp only at I |-;have B:=I.lo0;have L:=I.lolt;have k:=e.natle I.hi;have J:Sz 4000 low:=k.natle (by lia);have slt:=e.natle (FU I);refine⟨_,(aw j3 (aa 4 rfl) ag),λh=>?_,λh M C=>?_⟩
   .have i:=nTb h;obtain⟨r,l⟩:=u9 I i;have o:(c-c/low*low).toNat<low.toNat:=by clear h;lia
    refine af (av 6 bQ.nd (cO (aa 2 rfl) (aa 4 rfl) (by walk_at"div")) ?_);refine af (av 7 bQ.nd (bj (aa 2 rfl) (aJ (aa 6 rfl) (aa 4 rfl) (by walk_at"mul"))) ?_);refine af (av 8 bQ.nd (bj (aa 3 rfl) (aJ (aa 6 rfl) (aa 5 rfl) (by walk_at"mul"))) ?_);refine af (av 2 bQ.nd (aa 4 rfl) ?_);refine af (av 3 bQ.nd (aa 5 rfl) ?_);refine af (av 4 bQ.nd (aa 7 rfl) ?_);refine af (av 5 bQ.nd (aa 8 rfl) (aA ?_));exact⟨_,(_,_,_,_),o,⟨rfl,r⟩,rfl,rfl,rfl,rfl,rfl,rfl,trivial⟩
   .have i:=nFb h;subst i;refine cX ?_ C;have j:=Ay d I;obtain⟨D,H,E⟩:=j.nz d;have q:0<cw b/c:=by lia
    have v:=I.hp
    have A:Sz 4000 (y%(cw b/c)):=by
     refine e.natle ?_;have K:cw b/c<=cw b:=Oi _ (by lia);have F:=dM b;lia
    refine af (av 9 bQ.nd (bC (aa 3 rfl) (cO (aq lv rfl T.abB PyProof.Rows.boot_abs (ae (aa 1 rfl) ak ai)) (aa 2 rfl) ⟨v,k.mono (by decide)⟩) q) ?_);refine af (aR (aL (aj (aa 2 rfl) (aj (aa 9 rfl) (aj (Et (bj (aa 2 rfl) (aJ (aa 9 rfl) (aa 0 rfl) (Sz.ok A p (by decide)))) (aa 1 rfl) ⟨d,e.mono (by decide)⟩) aF aN) ai) ai)) ?_);exact qH j G
noncomputable abbrev mv(a b c d e f:Int):U:=.tup [.int a,.int b,.int c,.int d,.int e,.int f]
structure Mv(a b c d e f:Int):Prop where
 u:a*d-b*c=1\/a*d-b*c=-1
 a:Sz 30000 a
 b:Sz 30000 b
 c:Sz 30000 c
 d:Sz 30000 d
 e:Sz 30000 e
 f:Sz 30000 f
def tR:List U->Out->Prop:=λa o=>∃n:Int,a=[.int n]/\o=.val (.bl true)
theorem qB:OkD P w base T.abE 1 (tR):=by
 refine okD qq (by walk_at"ln") ?_;rintro _ _ _ b ⟨n,rfl,rfl⟩;refine af (aR (nY (aq (dS (by intro _ h;cases h) (by walk_at"kit")) rfl T.aaa GU (ae (aa 0 rfl) (ae (lw rfl T.abY RX) ak ai) ai)) (λa=>(oj (Ck (aq (dS (by intro _ h;cases h) (by walk_at"kit")) rfl T.aaa GU (ae (aa 0 rfl) (ae (lw rfl T.ab2 boot_bool) ak ai) ai)))))) ?_);exact rfl
def vR:List U->Out->Prop:=λg o=>∃a b c d e f,g=[mv a b c d e f]/\Sz 30000 a/\Sz 30000 b/\Sz 30000 c/\Sz 30000 d/\o=.val (.int (a*d-b*c))
theorem vp:OkD P w base T.acb 1 (vR):=by
 refine okD AZ (by walk_at"ln") ?_;rintro _ _ _ i ⟨a,b,c,d,e,f,rfl,j,g,h,k,rfl⟩;refine af (aR (bj (aJ (ax (aa 0 rfl) ag rfl rfl) (ax (aa 0 rfl) ag rfl rfl) (by walk_at"mul")) (aJ (ax (aa 0 rfl) ag rfl rfl) (ax (aa 0 rfl) ag rfl rfl) (by walk_at"mul"))) ?_);exact rfl
def ox:List U->Out->Prop:=λg o=>∃a b c d e f,g=[mv a b c d e f]/\Mv a b c d e f/\o=.val (.bl true)
theorem sS:OkD P w base T.abO 2 (ox):=by
 refine okD kU (by walk_at"ln") ?_;rintro _ _ _ j ⟨a,b,c,d,e,f,rfl,M,rfl⟩;refine af (aU (Tw.t (kh (dj (c9 (aq (dS (by intro _ h;cases h) rfl) rfl T.aaa GU (ae (aa 0 rfl) (ae (lw rfl T.abn Qy) ak ai) ai)))) (λp=>(ju (aw j3 (aq (bu rfl) rfl T.aae G3 (ae (aa 0 rfl) ak ai)) ag))))) rfl (aA ?_));refine af (aU (dj (c9 (aq (EW rfl (bs:=[true,true,true,true,true,true])) rfl T.acg boot_all (ae (EvN.ev (cE  rfl (blk (am jO) ["thing","number"] [1] rfl rfl rfl rfl (by decide+kernel)) (EvI.z (ER (aa 0 rfl))) (λ_ _ _ _=>aT (i:=1) kU.nd rfl (Or.inl rfl)) (fS (by decide)) ?clen ?csz (λ_ _=>trivial) ?celt)) ak cH)))) rfl (aA ?_))
 case clen=>rfl
 case csz=>show 6<=sizeLine;decide
 case celt=>
  intro C o m l i x y hx g
  have k:∃n:Int,x=.int n/\y=.bl true:=by
   match i,hx,g with
   |0,hx,g=>cases hx;cases g;exact⟨a,rfl,rfl⟩
   |1,hx,g=>cases hx;cases g;exact⟨b,rfl,rfl⟩
   |2,hx,g=>cases hx;cases g;exact⟨c,rfl,rfl⟩
   |3,hx,g=>cases hx;cases g;exact⟨d,rfl,rfl⟩
   |4,hx,g=>cases hx;cases g;exact⟨e,rfl,rfl⟩
   |5,hx,g=>cases hx;cases g;exact⟨f,rfl,rfl⟩
   |i+6,hx,g=>cases hx
  obtain⟨n,rfl,rfl⟩:=k;exact (a_ (qB T) j (ae (aa 1 rfl) ak ai) ⟨n,rfl,rfl⟩)
 refine af (aR (dw (Gu rfl rfl rfl) (a_ (vp T) j (ae (aa 0 rfl) ak ai) ⟨a,b,c,d,e,f,rfl,M.a,M.b,M.c,M.d,rfl⟩) (aL (aj ag (aj (bT ag) aF jA) aO))) ?_);refine vB ?_;rcases M.u with h |h <;>rw[h] <;>rfl
def wg:List U->Out->Prop:=λg o=>∃a b c d e f,g=[mv a b c d e f]/\Mv a b c d e f/\o=.val .non
theorem iW:OkD P w base T.abv 3 (wg):=by
 refine okD oJ (by walk_at"ln") ?_;rintro _ _ _ g ⟨a,b,c,d,e,f,rfl,M,rfl⟩;refine af (aU (dj (c9 (a_ (sS T) g (ae (aa 0 rfl) ak ai) ⟨a,b,c,d,e,f,rfl,M,rfl⟩))) rfl (aA (aA ?_)));exact rfl
def qE:List U->Out->Prop:=λg o=>∃x y a b c d e f,g=[pt x y,mv a b c d e f]/\(Sz 30000 x/\Sz 30000 y/\Sz 30000 a/\Sz 30000 b/\Sz 30000 c/\Sz 30000 d)/\o=.val (pt (a*x+b*y) (c*x+d*y))
theorem wn:OkD P w base T.abW 1 (qE):=by
 refine okD wS (by walk_at"ln") ?_;rintro _ _ _ j ⟨x,y,a,b,c,d,e,f,rfl,⟨k,g,l,h,i,m⟩,rfl⟩;refine af (aR (aL (aj (bH (aJ (ax (aa 1 rfl) ag rfl rfl) (ax (aa 0 rfl) ag rfl rfl) (by walk_at"mul")) (aJ (ax (aa 1 rfl) ag rfl rfl) (ax (aa 0 rfl) ag rfl rfl) (by walk_at"mul"))) (aj (bH (aJ (ax (aa 1 rfl) ag rfl rfl) (ax (aa 0 rfl) ag rfl rfl) (by walk_at"mul")) (aJ (ax (aa 1 rfl) ag rfl rfl) (ax (aa 0 rfl) ag rfl rfl) (by walk_at"mul"))) aF aN) aN)) ?_);exact rfl
def tV:List U->Out->Prop:=λg o=>∃x y a b c d e f,g=[pt x y,mv a b c d e f]/\Mv a b c d e f/\Sz 30000 x/\Sz 30000 y/\o=.val (pt (a*x+b*y+e) (c*x+d*y+f))
theorem jo:OkD P w base T.ab3 4 (tV):=by
 refine okD qu (by walk_at"ln") ?_;rintro _ _ _ g ⟨x,y,a,b,c,d,e,f,rfl,M,i,h,rfl⟩;refine af (yn (a_ (iW T) g (ae (aa 1 rfl) ak ai) ⟨a,b,c,d,e,f,rfl,M,rfl⟩) ?_);refine af (av 2 qu.nd (a_ (wn T) g (ae (aa 0 rfl) (ae (aa 1 rfl) ak ai) ai) ⟨x,y,a,b,c,d,e,f,rfl,⟨i,h,M.a,M.b,M.c,M.d⟩,rfl⟩) ?_);refine af (aR (aL (aj (bH (ax (aa 2 rfl) ag rfl rfl) (ax (aa 1 rfl) ag rfl rfl)) (aj (bH (ax (aa 2 rfl) ag rfl rfl) (ax (aa 1 rfl) ag rfl rfl)) aF aN) aN)) ?_);exact rfl
noncomputable def BS(a b c d e f:Int):U:=
 mv ((a*d-b*c) *d) (-(a*d-b*c) *b) (-(a*d-b*c) *c) ((a*d-b*c) *a) (-((a*d-b*c) *d*e+-(a*d-b*c) *b*f)) (-(-(a*d-b*c) *c*e+(a*d-b*c) *a*f))
def v6:List U->Out->Prop:=λg o=>∃a b c d e f,g=[mv a b c d e f]/\Mv a b c d e f/\o=.val (BS a b c d e f)
theorem gC:OkD P w base T.abF 4 (v6):=by
 refine okD cY (by walk_at"ln") ?_;rintro _ _ _ i ⟨a,b,c,d,e,f,rfl,M,rfl⟩;obtain⟨m,j,g,h,k,n,l⟩:=M;have M:Mv a b c d e f:=⟨m,j,g,h,k,n,l⟩;refine af (yn (a_ (iW T) i (ae (aa 0 rfl) ak ai) ⟨a,b,c,d,e,f,rfl,M,rfl⟩) ?_);refine af (av 1 cY.nd (a_ (vp T) i (ae (aa 0 rfl) ak ai) ⟨a,b,c,d,e,f,rfl,j,g,h,k,rfl⟩) ?_);refine af (av 2 cY.nd (aJ (aa 1 rfl) (ax (aa 0 rfl) ag rfl rfl) (by walk_at"mul")) ?_);refine af (av 3 cY.nd (aJ (bT (aa 1 rfl)) (ax (aa 0 rfl) ag rfl rfl) (by walk_at"mul")) ?_);refine af (av 4 cY.nd (aJ (bT (aa 1 rfl)) (ax (aa 0 rfl) ag rfl rfl) (by walk_at"mul")) ?_);refine af (av 5 cY.nd (aJ (aa 1 rfl) (ax (aa 0 rfl) ag rfl rfl) (by walk_at"mul")) ?_);refine af (aR (aL (aj (aa 2 rfl) (aj (aa 3 rfl) (aj (aa 4 rfl) (aj (aa 5 rfl) (aj (bT (bH (aJ (aa 2 rfl) (ax (aa 0 rfl) ag rfl rfl) (by walk_at"mul")) (aJ (aa 3 rfl) (ax (aa 0 rfl) ag rfl rfl) (by walk_at"mul")))) (aj (bT (bH (aJ (aa 4 rfl) (ax (aa 0 rfl) ag rfl rfl) (by walk_at"mul")) (aJ (aa 5 rfl) (ax (aa 0 rfl) ag rfl rfl) (by walk_at"mul")))) aF jA) jA) ai) ai) ai) ai)) ?_);exact rfl
theorem wW(G:dD a b g s t):g=((Kz a b:Nat):Int):=by
 have c:=Pc G.da G.db
 have d:((Kz a b):Int) ∣ g:=by
  rw[<-G.eq];exact Ls (HS (LS ..) (HX _ _)) (HS (LG ..) (HX _ _))
 exact QV G.g0 (Int.natCast_nonneg _) c d
theorem k9(a b):∃s t,dD a b ((Kz a b:Nat):Int) s t:=by
 obtain⟨g,s,t,G⟩:=iP a b;have e:=wW G;subst e;exact⟨s,t,G⟩
theorem wq(G:dD a b g s t)(p:0<g)(c:dD (a/g) (b/g) g' s' t'):g'=1:=by
 obtain⟨i,j⟩:=G.da;obtain⟨f,k⟩:=G.db;have l:a/g=i:=by rw[j,Jo _ (by lia)]
 have m:b/g=f:=by rw[k,Jo _ (by lia)]
 rw[l,m]at c;have e:=G.eq
 have n:s*i+t*f=1:=by
  have:g*(s*i+t*f)=g*1:=by rw[j,k]at e;grind
  exact H_ (by lia) this
 have d:g' ∣ 1:=by rw[<-n];exact Ls (HS c.da (HX _ _)) (HS c.db (HX _ _))
 have:=Int.le_of_dvd (by decide) d;have o:=c.g0;rcases HU o with h |h
 .lia
 .rw[<-h]at d;exact absurd (QJ.mp d) (by decide)
theorem wm(G:dD (x1-x0) (y1-y0) g s t)(h:g=0):x0=x1/\y0=y1:=by
 subst h;have a:=QJ.mp G.da;have b:=QJ.mp G.db;lia
structure yw(x0 y0 x1 y1:Int):Prop where
 s0:Sz 3000 x0
 t0:Sz 3000 y0
 s1:Sz 3000 x1
 t1:Sz 3000 y1
def tm:List U->Out->Prop:=λe o=>∃c d a b g s t:Int,e=[pt c d,pt a b]/\yw c d a b/\dD (a-c) (b-d) g s t/\o=.val (.int g)
theorem lW:OkD P w base T.ab4 3 (tm):=by
 refine okD xW (by walk_at"ln") ?_;rintro _ _ _ a ⟨h,i,b,d,g,s,t,rfl,⟨c,t0,e,f⟩,G,rfl⟩;refine af (aR (ax (a_ (n5 T) a (ae (bj (ax (aa 1 rfl) ag rfl rfl) (ax (aa 0 rfl) ag rfl rfl)) (ae (bj (ax (aa 1 rfl) ag rfl rfl) (ax (aa 0 rfl) ag rfl rfl)) ak aN) aN) ⟨_,_,g,s,t,rfl,by walk_at"szb",by walk_at"szb",G,rfl⟩) ag rfl rfl) ?_);exact rfl
def tT:List U->Out->Prop:=λh o=>∃c d e f g a b s t:Int,h=[pt c d,pt e f]/\yw c d e f/\dD (e-c) (f-d) g a b/\g≠0/\dD ((e-c)/g) ((f-d)/g) 1 s t/\
  o=.val (mv s t (-((f-d)/g)) ((e-c)/g) (-s*c-t*d) ((f-d)/g*c-(e-c)/g*d))
theorem mj:OkD P w base T.ab5 4 (tT):=by
 refine okD e9 (by walk_at"ln") ?_;rintro _ _ _ i ⟨c,e,d,f,g,a,b,s,t,rfl,two,G,p,m,rfl⟩;have gp:0<g:=by have:=G.g0;lia
 obtain⟨o,t0,n,q⟩:=two;have two:yw c e d f:=⟨o,t0,n,q⟩;have k:Sz 3001 (d-c):=by walk_at"szb"
 have j:Sz 3001 (f-e):=by walk_at"szb"
 obtain⟨sg,_,_⟩:=jc G k j;have l:Sz 3001 ((d-c)/g):=k.ediv;have h:Sz 3001 ((f-e)/g):=j.ediv;obtain⟨_,u,r⟩:=jc m l h;refine af (av 2 e9.nd (a_ (lW T) i (ae (aa 0 rfl) (ae (aa 1 rfl) ak ai) ai) ⟨c,e,d,f,g,a,b,rfl,two,G,rfl⟩) ?_);refine af (aU (aw aW (aa 2 rfl) ag) (decide_eq_false p) (aA ?_));refine af (av 3 e9.nd (cO (bj (ax (aa 1 rfl) ag rfl rfl) (ax (aa 0 rfl) ag rfl rfl)) (aa 2 rfl) ⟨gp,sg.mono (by decide)⟩) ?_);refine af (av 4 e9.nd (cO (bj (ax (aa 1 rfl) ag rfl rfl) (ax (aa 0 rfl) ag rfl rfl)) (aa 2 rfl) ⟨gp,sg.mono (by decide)⟩) ?_);refine af (av 5 e9.nd (a_ (n5 T) i (ae (aa 3 rfl) (ae (aa 4 rfl) ak ai) ai) ⟨_,_,1,s,t,rfl,l.mono (by decide),h.mono (by decide),m,rfl⟩) ?_);refine af (av 6 e9.nd (ax (aa 5 rfl) ag rfl rfl) ?_);refine af (av 7 e9.nd (ax (aa 5 rfl) ag rfl rfl) ?_);refine af (aR (aL (aj (aa 6 rfl) (aj (aa 7 rfl) (aj (bT (aa 4 rfl)) (aj (aa 3 rfl) (aj (bj (aJ (bT (aa 6 rfl)) (ax (aa 0 rfl) ag rfl rfl) (by walk_at"mul")) (aJ (aa 7 rfl) (ax (aa 0 rfl) ag rfl rfl) (by walk_at"mul"))) (aj (bj (aJ (aa 4 rfl) (ax (aa 0 rfl) ag rfl rfl) (by walk_at"mul")) (aJ (aa 3 rfl) (ax (aa 0 rfl) ag rfl rfl) (by walk_at"mul"))) aF aN) aN) ai) jA) ai) ai)) ?_);exact rfl
abbrev Pt:=Int×Int
def plt(p q:Pt):Prop:=p.1<q.1\/(p.1=q.1/\p.2<q.2)
noncomputable def ah(a b p:Pt):Int:=(b.1-a.1) *(p.2-a.2)-(b.2-a.2) *(p.1-a.1)
theorem bA(d:plt a b)(e:plt b c):plt a c:=by unfold plt at *;lia
theorem aI(a):¬ plt a a:=by unfold plt;lia
theorem f_(a b):plt a b\/a=b\/plt b a:=by
 unfold plt;by_cases c:a.1=b.1
 .by_cases d:a.2=b.2
  .exact .inr (.inl (Ii c d))
  .lia
 .lia
def bY(x y:Int):Prop:=0<x\/(x=0/\0<y)
theorem aG(h:plt a b):bY (b.1-a.1) (b.2-a.2):=by unfold plt bY at *;lia
theorem dQ(i:bY u1 u2)(k:bY v1 v2)(m:bY w1 w2)(h:0<=u1*v2-u2*v1)(d:0<=v1*w2-v2*w1):0<=u1*w2-u2*w1:=by
 unfold bY at *;by_cases b:v1=0
 .subst b;have g:0<v2:=by lia
  have a:w1=0:=by
   by_cases f:0<w1
   .have:=HR g f;lia
   .lia
  subst a;have:=Hh (show 0<=u1 by lia) (show 0<=w2 by lia);simp;lia
 .have c:0<v1:=by lia
  have e:v1*(u1*w2-u2*w1)=u1*(v1*w2-v2*w1)+w1*(u1*v2-u2*v1):=by grind
  have j:=Hh (show 0<=u1 by lia) d;have l:=Hh (show 0<=w1 by lia) h;have:0<=v1*(u1*w2-u2*w1):=by lia
  exact JP this c
theorem eT(i:bY u1 u2)(o:bY v1 v2)(q:bY w1 w2)(g:0<u1*v2-u2*v1)(j:0<=v1*w2-v2*w1):0<u1*w2-u2*w1:=by
 unfold bY at *;by_cases d:v1=0
 .subst d;have m:0<v2:=by lia
  have a:w1=0:=by
   by_cases k:0<w1
   .have:=HR m k;lia
   .lia
  subst a;have c:0<w2:=by lia
  have b:0<u1:=by
   rcases i with h |⟨h,_⟩
   .exact h
   .subst h;simp at g
  have:=HR b c;simp;lia
 .have f:0<v1:=by lia
  have e:v1*(u1*w2-u2*w1)=u1*(v1*w2-v2*w1)+w1*(u1*v2-u2*v1):=by grind
  have n:=Hh (show 0<=u1 by lia) j;by_cases a:w1=0
  .subst a;have c:0<w2:=by lia
   have b:0<u1:=by
    rcases i with h |⟨h,l⟩
    .exact h
    .subst h;have:=HR l f;simp at g;lia
   have:=HR b c;simp;lia
  .have p:=HR (show 0<w1 by lia) g;have:0<v1*(u1*w2-u2*w1):=by lia
   exact ID this (by lia)
noncomputable def jK:List Pt->Prop
 |b::a::r=>plt a b/\jK (a::r)
 |_=>True
noncomputable def jS:List Pt->Prop
 |c::b::a::r=>0<ah a b c/\jS (b::a::r)
 |_=>True
noncomputable def ij(c:List Pt):List Pt->Prop
 |b::a::r=>(∀q∈c,0<=ah a b q)/\ij c (a::r)
 |_=>True
theorem jS.tail:∀{b}{a},jS (b::a)->jS a
 |_,[],_=>trivial
 |_,[_],_=>trivial
 |_,_::_::_,h=>h.2
theorem jK.tail:∀{b}{a},jK (b::a)->jK a
 |_,[],_=>trivial
 |_,_::_,h=>h.2
theorem ij.tail:∀{b}{a},ij done (b::a)->ij done a
 |_,[],_=>trivial
 |_,_::_,h=>h.2
noncomputable def bg(P:Pt):List Pt->List Pt
 |b::a::r=>if ah a b P<=0 then bg P (a::r) else b::a::r
 |st=>st
noncomputable def ao(a:List Pt):List Pt:=a.foldl (λb P=>P::bg P b) []
structure Kept(done st:List Pt):Prop where
 ne:st≠[]
 desc:jK st
 turns:jS st
 cover:ij done st
 sub:∀p∈st,p∈done
structure wc(done st:List Pt)(P:Pt):Prop extends Kept done st where
 pend:∀h r,st=h::r->∀q∈done,plt h q->0<=ah h P q
theorem wC{P b a:Pt}(j:∀q∈done,plt q P)(D:wc done (b::a::r) P)(h:ah a b P<=0):wc done (a::r) P:=by
 refine⟨⟨by simp,D.desc.tail,D.turns.tail,D.cover.tail,λp l=>D.sub p (GG _ l)⟩,?_⟩;intro m n e q c g;cases e;have d:=D.desc.1;have i:=D.cover.1 q c;have k:=j b (D.sub b GR);rcases f_ q b with z |z |z
 .have l1:=aG g;have l2:=aG d;have f:=aG (bA d k);have:=dQ f l2 l1 (by unfold ah at h;grind) (by unfold ah at i;grind);unfold ah;grind
 .subst z;unfold ah at *;grind
 .have p:=D.pend b _ rfl q c z;unfold ah at *;grind
theorem rK{P:Pt}(d:∀q∈done,plt q P):∀c,wc done c P->wc done (bg P c) P/\(∀b a r,bg P c=b::a::r->0<ah a b P)/\(c.getLast?=(bg P c).getLast?)
 |[],D=>absurd rfl D.ne
 |[b],D=>⟨D,λ_ _ _ e=>by simp[bg]at e,rfl⟩
 |b::a::r,D=>by
  by_cases h:ah a b P<=0
  .rw[bg,if_pos h];obtain⟨g,f,i⟩:=rK d (a::r) (wC d D h);exact⟨g,f,by rw[<-i];simp⟩
  .rw[bg,if_neg h];refine⟨D,λj l k e=>?_,rfl⟩;cases e;lia
theorem wv{d j:List Pt}{P:Pt}(C:∀q∈d,plt q P)(D:wc d j P)(o:∀b a r,j=b::a::r->0<ah a b P)(m:∀x,j=[x]->∀q∈d,q=x\/plt x q):Kept (d++[P]) (P::j):=by
 have F:∀b r,jK (b::r)->jS (b::r)->ij d (b::r)->plt b P->(∀a f,r=a::f->0<=ah a b P)->ij (d++[P]) (b::r):=by
  intro b r
  induction r generalizing b with
  |nil=>intro _ _ _ _ _;trivial
  |cons a r B=>
   intro l k A v u;refine⟨λq s=>?_,?_⟩
   .rcases Hi.mp s with z |z
    .exact A.1 q z
    .rw[GL.mp z];exact u a r rfl
   .refine B a l.tail k.tail A.tail (bA l.1 v) (λc f e=>?_);subst e;have t:=k.1;have g:=u a _ rfl;have l1:=aG l.2.1;have l2:=aG l.1;have n:=aG (bA l.1 v);have:=dQ l1 l2 n (by unfold ah at t;grind) (by unfold ah at g;grind);unfold ah;grind
 obtain⟨h,r,e⟩:∃h r,j=h::r:=by
  cases TU:j with
  |nil=>exact absurd TU D.ne
  |cons h r=>exact⟨h,r,rfl⟩
 subst e;have i:=C h (D.sub h GR);refine⟨by simp,⟨i,D.desc⟩,?_,⟨λq s=>?_,?_⟩,λp E=>?_⟩
 .cases r with
  |nil=>trivial
  |cons a f=>exact⟨o h a f rfl,D.turns⟩
 .rcases Hi.mp s with z |z
  .rcases f_ q h with y |y |y
   .cases r with
    |nil=>
     rcases m h rfl q z with w |w
     .subst w;exact absurd y (aI _)
     .exact absurd (bA y w) (aI _)
    |cons a f=>
     have t:=o h a f rfl;have c:=D.cover.1 q z;have l1:=aG D.desc.1;have l2:=aG y;have n:=aG i;have:=dQ l2 l1 n (by unfold ah at c;grind) (by unfold ah at t;grind);unfold ah;grind
   .subst y;unfold ah;grind
   .exact D.pend h r rfl q z y
  .rw[GL.mp z];unfold ah;grind
 .exact F h r D.desc D.turns D.cover i (λa f e=>Jp (o h a f (by rw[e])))
 .rcases GF.mp E with z |z
  .subst z;exact Ha _ GR
  .exact Hm _ (D.sub p z)
theorem lJ(row)(P):ao (row++[P])=P::bg P (ao row):=by
 unfold ao;rw[Qz];rfl
theorem mw{row:List Pt}(hs:row.Pairwise plt):∀n,0<n->n<=row.length->Kept (row.take n) (ao (row.take n))/\(ao (row.take n)).getLast?=row.head?/\(ao (row.take n)).head?=row[n-1]?
 |0,h,_=>absurd h (by decide)
 |1,_,h=>by
  cases row with
  |nil=>simp at h
  |cons a r=>
   simp only[Nf,PF];exact⟨⟨by simp[ao],trivial,trivial,trivial,λp w=>by simpa [ao,bg] using w⟩,rfl,rfl⟩
 |n+2,_,h=>by
  obtain⟨K,l,d⟩:=mw hs (n+1) (by lia) (by lia);have f:n+1<row.length:=by lia
  have v:row.take (n+2)=row.take (n+1)++[row[n+1]]:=by rw[KC f]
  have m:∀q∈row.take (n+1),plt q row[n+1]:=λq b=>by
   obtain⟨i,o,e⟩:=LP.mp b;subst e;exact G6.mp hs i (n+1) (by lia) f (by lia)
  have D:wc (row.take (n+1)) (ao (row.take (n+1))) row[n+1]:=⟨K,λB r e q b g=>by
   exfalso
   rw[e]at d;simp only[Rh,Qg]at d;have s:n<row.length:=by lia
   rw[GC s]at d;have j:=HK d;obtain⟨i,o,k⟩:=LP.mp b;subst k;rw[j]at g;rcases IU i n with z |z
   .exact aI _ (bA g (G6.mp hs i n (by lia) s z))
   .have:i=n:=by lia
    subst this;exact aI _ g⟩
  obtain⟨A,y,c⟩:=rK m _ D;rw[v,lJ];refine⟨wv m A y (λx e q b=>?_),?_,?_⟩
  .rw[e,l]at c;obtain⟨i,o,k⟩:=LP.mp b;have u:0<row.length:=by lia
   have t:row[0]=x:=by
    rw[Ld,GC u]at c;exact HK c
   subst k;rcases Ml i with z |z
   .subst z;exact .inl t
   .right;rw[<-t];exact G6.mp hs 0 i u (by lia) z
  .rw[List.getLast?_cons,<-c,l];cases row with
   |nil=>simp at f
   |cons a r=>rfl
  .simp only[Rh,Qg];rw[show n+2-1=n+1 by lia,GC f]
theorem cD(hs:row.Pairwise plt)(h:row≠[]):Kept row (ao row)/\(ao row).getLast?=row.head?/\(ao row).head?=row.getLast?:=by
 have d:=Hx.mpr h;obtain⟨b,a,c⟩:=mw hs row.length d (GK _);rw[Kj]at b a c;exact⟨b,a,by rw[c,Ja]⟩
theorem j_(g:bY u1 u2)(k:bY v1 v2)(m:bY w1 w2)(f:0<=u1*v2-u2*v1)(d:0<v1*w2-v2*w1):0<u1*w2-u2*w1:=by
 unfold bY at *;by_cases b:v1=0
 .subst b;have:=Hh (show 0<=v2 by lia) (show 0<=w1 by lia);simp at d;lia
 .have a:0<v1:=by lia
  have c:0<u1:=by
   rcases g with h |⟨h,i⟩
   .exact h
   .subst h;have:=HR i a;simp at f;lia
  have e:v1*(u1*w2-u2*w1)=u1*(v1*w2-v2*w1)+w1*(u1*v2-u2*v1):=by grind
  have j:=HR c d;have l:=Hh (show 0<=w1 by lia) f;have q:0<v1*(u1*w2-u2*w1):=by lia
  exact ID q a
def low(c:List Pt)(p:Pt):Prop:=∀a∈c,∀b∈c,plt a p->plt p b->0<ah a p b
theorem CA:∀a n,jK (n::a)->jS (n::a)->ij row (n::a)->p∈a->(∀l,(n::a).getLast?=some l->plt l p)->
  ∃b q,0<ah q p b/\plt q p/\plt p b/\(∀x∈row,0<=ah p b x)/\(∀x∈row,0<=ah q p x)
 |[],n,_,_,_,c,_=>by simp at c
 |h::r,n,D,T,C,c,hl=>by
  by_cases e:h=p
  .subst e;cases r with
   |nil=>exact absurd (hl h (by simp)) (aI h)
   |cons q f=>exact⟨n,q,T.1,D.2.1,D.1,C.1,C.2.1⟩
  .have TC:p∈r:=by
    rcases GF.mp c with z |z
    .exact absurd z.symm e
    .exact z
   exact CA r h D.tail T.tail C.tail TC (λl d=>hl l (by rw[Jv];exact d))
theorem oY(hs:row.Pairwise plt)(C:p∈ao row):low row p:=by
 intro a k b H c e;have L:row≠[]:=λz=>by rw[z]at k;simp at k
 obtain⟨K,w,D⟩:=cD hs L
 have N:∀x∈row,∀m,row.head?=some m->x=m\/plt m x:=λx h m d=>by
  cases row with
  |nil=>simp at h
  |cons y r=>
   cases d;rcases GF.mp h with z |z
   .exact .inl z
   .exact .inr ((Hl.mp hs).1 x z)
 have O:∀x∈row,∀m,row.getLast?=some m->x=m\/plt x m:=λx h m d=>by
  obtain⟨i,g⟩:=IE.mp h;have j:=(GV.mp g).1;rw[Ja]at d;have o:=(GV.mp d).1;rcases Hk (show i<=row.length-1 by lia) with z |z
  .right
   have B:=G6.mp hs i (row.length-1) j o z;rw[(GV.mp g).2,(GV.mp d).2]at B;exact B
  .left;rw[z,d]at g;exact (HK g).symm
 cases TU:ao row with
 |nil=>exact absurd TU K.ne
 |cons n v=>
  rw[TU]at K w D C;have I:row.getLast?=some n:=by rw[<-D];rfl
  have s:p∈v:=by
   rcases GF.mp C with z |z
   .rcases O b H n I with y |y
    .rw[y,<-z]at e;exact absurd e (aI p)
    .rw[z]at e;exact absurd (bA e y) (aI n)
   .exact z
  obtain⟨f,q,t,u,E,R,P⟩:=CA v n K.desc K.turns K.cover s (λl A=>by
   rw[w]at A;rcases N a k l A with y |y
   .rw[<-y];exact c
   .exact bA y c)
  unfold ah at *;have M:0<=(p.1-a.1) *(p.2-q.2)-(p.2-a.2) *(p.1-q.1):=by grind
  have J:0<(p.1-q.1) *(f.2-p.2)-(p.2-q.2) *(f.1-p.1):=by grind
  have G:0<=(f.1-p.1) *(b.2-p.2)-(f.2-p.2) *(b.1-p.1):=by grind
  have F:=eT (aG u) (aG E) (aG e) J G;have Q:=j_ (aG c) (aG u) (aG e) M F;grind
theorem yk:∀c h,jK (h::c)->ij row (h::c)->p∈row->p ∉ h::c->plt p h->(∀l,(h::c).getLast?=some l->plt l p)->∃a∈h::c,∃b∈h::c,plt a p/\plt p b/\0<=ah a b p
 |[],h,_,_,_,_,d,e=>absurd (bA d (e h (by simp))) (aI p)
 |a::r,h,D,C,hr,TF,d,e=>by
  rcases f_ p a with z |z |z
  .obtain⟨x,i,y,f,k⟩:=yk r a D.tail C.tail hr (λw=>TF (GG _ w)) z (λl g=>e l (by rw[Jv];exact g));exact⟨x,GG _ i,y,GG _ f,k⟩
  .exact absurd (by rw[z];simp) TF
  .exact⟨a,by simp,h,by simp,z,d,C.1 p hr⟩
theorem gap(hs:row.Pairwise plt)(c:p∈row)(d:p ∉ ao row):∃a∈ao row,∃b∈ao row,plt a p/\plt p b/\ah a p b<=0:=by
 have x:row≠[]:=λz=>by rw[z]at c;simp at c
 obtain⟨K,k,o⟩:=cD hs x;cases TU:ao row with
 |nil=>exact absurd TU K.ne
 |cons n s=>
  rw[TU]at K k o d;have f:row.getLast?=some n:=by rw[<-o];rfl
  have q:plt p n:=by
   obtain⟨i,e⟩:=IE.mp c;have g:=(GV.mp e).1;rw[Ja]at f;have j:=(GV.mp f).1;rcases Hk (show i<=row.length-1 by omega) with z |z
   .have m:=G6.mp hs i (row.length-1) g j z;rw[(GV.mp e).2,(GV.mp f).2]at m;exact m
   .rw[z,f]at e;exact absurd (by rw[<-HK e];simp) d
  obtain⟨a,t,b,u,A,w,B⟩:=yk s n K.desc K.cover c d q (λl h=>by
   have v:=h;rw[k]at h;cases row with
   |nil=>simp at c
   |cons y r=>
    cases h;rcases GF.mp c with z |z
    .exact absurd (by rw[z];exact KI v) d
    .exact (Hl.mp hs).1 p z)
  refine⟨a,t,b,u,A,w,?_⟩;unfold ah at *;grind
theorem wk(hs:row.Pairwise plt)(k:TZ.Pairwise plt)(i:∀p∈TZ,p∈row)(e:∀p∈ao row,p∈TZ)(sub:∀r q,q∈ao r->q∈r)(p):p∈ao TZ↔p∈ao row:=by
 constructor
 .intro c;refine HY λg=>?_;obtain⟨a,d,b,j,h,f,l⟩:=gap hs (i p (sub _ _ c)) g;have:=oY k c a (e a d) b (e b j) h f;lia
 .intro c;refine HY λg=>?_;obtain⟨a,d,b,j,h,f,l⟩:=gap k (e p c) g;have:=oY hs c a (i a (sub _ _ d)) b (i b (sub _ _ j)) h f;lia
abbrev Szp(m:Nat)(p:P2):Prop:=Sz m p.1/\Sz m p.2
theorem uy(b)(r):atI ((b::r).reverse.map pu) (-1)=some (pu b):=by
 have h:ixN ((b::r).reverse.map pu).length (-1)=some r.length:=by
  unfold ixN;simp;lia
 unfold atI;rw[h];simp
theorem um(b a)(r):atI ((b::a::r).reverse.map pu) (-2)=some (pu a):=by
 have h:ixN ((b::a::r).reverse.map pu).length (-2)=some r.length:=by
  unfold ixN;simp;lia
 unfold atI;rw[h];simp
theorem kH(P):∀c,(bg P c).length<=c.length
 |[]=>GK _
 |[_]=>GK _
 |b::a::r=>by
  unfold bg;split
  .have:=kH P (a::r);simp only[Ie]at *;lia
  .exact GK _
theorem uI(P):∀c q,q∈bg P c->q∈c
 |[],_,h=>h
 |[_],_,h=>h
 |b::a::r,q,h=>by
  unfold bg at h;split at h
  .exact GG _ (uI P (a::r) q h)
  .exact h
theorem gf{a:List P2}{P:P2}(h:a[i]?=some P):ao (a.take (i+1))=P::bg P (ao (a.take i)):=by
 rw[Ku,h];exact lJ _ _
theorem h8(a:List P2):∀i,(ao (a.take i)).length<=i
 |0=>by simp[ao]
 |i+1=>by
  have ih:=h8 a i;cases h:a[i]? with
  |none=>rw[Ku,h];simp;lia
  |some P=>
   rw[gf h];have:=kH P (ao (a.take i));simp only[Ie];lia
theorem fR(a:List P2):∀i q,q∈ao (a.take i)->q∈a
 |0,q,h=>by simp[ao]at h
 |i+1,q,h=>by
  cases hi:a[i]? with
  |none=>rw[Ku,hi]at h;exact fR a i q (by simpa using h)
  |some P=>
   rw[gf hi]at h;rcases GF.mp h with e |e
   .rw[e];exact Hb hi
   .exact fR a i q (uI P _ q e)
theorem zC(n):decide (sgn n<1)=decide (n<=0):=by
 have h:sgn n<1↔n<=0:=by
  unfold sgn;split
  .lia
  .split <;>lia
 exact decide_eq_decide.mpr h
theorem gZ(l:List P2):iF (l.map pu) none (some (-1))=l.dropLast.map pu:=by
 unfold iF HT.sIx;rw[NV,List.dropLast_eq_take];simp
 try lia
noncomputable def au(pts:List P2):List P2:=if (ST.srt pts).length=1 then ST.srt pts else (ao (ST.srt pts)).reverse.dropLast++(ao (ST.srt pts).reverse).reverse.dropLast
theorem d7(a b):plt a b↔ST.ltP a b=true:=by unfold plt ST.ltP;simp
theorem je:ST.Asc l↔l.Pairwise plt:=⟨λh=>h.imp λ{a b} k=>(d7 a b).mpr k,λh=>h.imp λ{a b} k=>(d7 a b).mp k⟩
theorem nN:∀{st},jK st->st.Pairwise (λx y=>plt y x)
 |[],_=>Lz
 |[_],_=>by simp
 |b::a::r,h=>by
  have ih:=nN h.2;refine Hl.mpr ⟨λx c=>?_,ih⟩;rcases GF.mp c with z |z
  .rw[z];exact h.1
  .exact bA ((Hl.mp ih).1 x z) h.1
theorem b7(row)(q)(h:q∈ao row):q∈row:=by
 have:=fR row row.length q;rw[Kj]at this;exact this h
theorem eN(hs:row.Pairwise plt):ST.Asc (ao row).reverse:=by
 by_cases a:row=[]
 .subst a;exact Lz
 .exact je.mpr (JO.mpr (nN (cD hs a).1.desc))
theorem qG(hs:row.Pairwise plt)(a:TZ.Pairwise plt)(c:∀p∈TZ,p∈row)(b:∀p∈ao row,p∈TZ):ao TZ=ao row:=by
 have e:=ST.asc_one (eN a) (eN hs) λz=>by
  rw[GY,GY];exact wk hs a c b b7 z
 exact List.reverse_inj.mp e
noncomputable def ng(p:Pt):Pt:=(-p.1,-p.2)
theorem ir(p):ng (ng p)=p:=by unfold ng;simp
theorem Ec(l:List Pt):(l.map ng).map ng=l:=by
 rw[Ho,show ng ∘ ng=id from funext ir,Sv]
theorem mm(a b c):ah (ng a) (ng b) (ng c)=ah a b c:=by unfold ah ng;grind
theorem lx(h:plt a b):plt (ng b) (ng a):=by unfold plt ng at *;simp;lia
theorem yB(P):∀c,bg (ng P) (c.map ng)=(bg P c).map ng
 |[]=>rfl
 |[_]=>rfl
 |b::a::r=>by
  show bg (ng P) (ng b::ng a::r.map ng)=_;unfold bg;rw[mm];split
  .exact yB P (a::r)
  .rfl
theorem gY:∀b,ao (b.map ng)=(ao b).map ng:=λb=>by
 have c:∀(l:List Pt) a,(l.map ng).foldl (λa P=>P::bg P a) (a.map ng)=(l.foldl (λa P=>P::bg P a) a).map ng:=by
  intro l
  induction l with
  |nil=>intro a;rfl
  |cons p r d=>
   intro a;rw[G_,I_,I_,yB];exact d (p::bg p a)
 exact c b []
theorem dg{row:List Pt}(hs:row.Pairwise plt):(row.reverse.map ng).Pairwise plt:=by
 rw[Hy,JO];exact hs.imp λ{a b} h=>lx h
theorem b_(a:List Pt):ao a.reverse=(ao (a.reverse.map ng)).map ng:=by rw[gY,Ec]
theorem pM{row TZ:List Pt}(hs:row.Pairwise plt)(e:TZ.Pairwise plt)(d:∀p∈TZ,p∈row)(c:∀p∈ao row.reverse,p∈TZ):ao TZ.reverse=ao row.reverse:=by
 rw[b_ row,b_ TZ];congr 1;refine qG (dg hs) (dg e) (λp a=>?_) (λp a=>?_)
 .obtain⟨q,b,rfl⟩:=GJ.mp a;exact GJ.mpr ⟨q,GY.mpr (d q (GY.mp b)),rfl⟩
 .rw[gY]at a;obtain⟨q,b,rfl⟩:=GJ.mp a;exact GJ.mpr ⟨q,GY.mpr (c q b),rfl⟩
theorem ends(hs:row.Pairwise plt)(A:2<=row.length):∃a b h f,ao row=b::h/\ao row.reverse=a::f/\a∈h/\b∈f/\(∀p∈row,p=a\/plt a p)/\(∀p∈row,p=b\/plt p b)/\a∈row/\b∈row:=by
 have C:row≠[]:=λz=>by rw[z]at A;simp at A
 obtain⟨K,c,g⟩:=cD hs C;have e:row.reverse.map ng≠[]:=by simpa using C
 obtain⟨D,n,s⟩:=cD (dg hs) e;have o:row.head?=some row[0]:=by rw[Ld];exact GC (by lia)
 have t:row.getLast?=some row[row.length-1]:=by rw[Ja];exact GC (by lia)
 have j:=G6.mp hs 0 (row.length-1) (by lia) (by lia) (by lia)
 have w:∀p∈row,p=row[0]\/plt row[0] p:=λp q=>by
  obtain⟨i,l,rfl⟩:=Pq.mp q;rcases Ml i with z |z
  .left;subst z;rfl
  .right;exact G6.mp hs 0 i (by lia) l z
 have u:∀p∈row,p=row[row.length-1]\/plt p row[row.length-1]:=λp q=>by
  obtain⟨i,l,rfl⟩:=Pq.mp q;rcases Hk (show i<=row.length-1 by lia) with z |z
  .right;exact G6.mp hs i (row.length-1) l (by lia) z
  .left;subst z;rfl
 have B:row[0]≠row[row.length-1]:=λz=>by rw[z]at j;exact aI _ j
 generalize row[0]=a at *;generalize row[row.length-1]=b at *;have m:=List.mem_of_head? o;have v:=KI t;rw[o]at c;rw[t]at g
 have d:(ao row.reverse).getLast?=some b:=by
  rw[b_,MF,n,NA,Qh,t];simp[ir]
 have k:(ao row.reverse).head?=some a:=by
  rw[b_,NA,s,MF,MR,o];simp[ir]
 cases hb:ao row with
 |nil=>rw[hb]at g;cases g
 |cons x h=>
  rw[hb]at g c;cases g;cases hbR:ao row.reverse with
  |nil=>rw[hbR]at k;cases k
  |cons y f=>
   rw[hbR]at k d;cases k;refine⟨_,_,h,f,rfl,rfl,?_,?_,w,u,m,v⟩
   .cases h with
    |nil=>simp at c;exact absurd c.symm B
    |cons z r=>rw[Jv]at c;exact KI c
   .cases f with
    |nil=>simp at d;exact absurd d B
    |cons z r=>rw[Jv]at d;exact KI d
theorem Ar(a:List Pt):a.reverse.dropLast=a.tail.reverse:=by
 cases a with
 |nil=>rfl
 |cons h t=>simp
theorem hJ{l:List Pt}:l.reverse.Nodup↔l.Nodup:=by
 unfold List.Nodup;rw[JO];exact⟨λh=>h.imp λk=>Ne.symm k,λh=>h.imp λk=>Ne.symm k⟩
theorem eJ:∀{l m:List Pt},l.Nodup->(∀x∈l,x∈m)->l.length<=m.length
 |[],_,_,_=>Ir _
 |x::l,m,h,hs=>by
  obtain⟨f,c⟩:=I0.mp h;have b:=hs x GR;have d:=eJ (m:=m.erase x) c λy a=>(Pr (λe=>f (by rw[<-e];exact a))).mpr (hs y (GG _ a));rw[NW b]at d;have:=Iy b;simp only[Ie];lia
theorem eE(pts):(ST.srt pts).Pairwise plt:=je.mp (ST.srt_asc pts)
theorem gX(h:2<=(ST.srt pts).length):au pts=(ao (ST.srt pts)).tail.reverse++(ao (ST.srt pts).reverse).tail.reverse:=by
 unfold au;rw[if_neg (by lia),Ar,Ar]
theorem fg(h:pts≠[]):au pts≠[]:=by
 have b:ST.srt pts≠[]:=λz=>by
  obtain⟨p,r,rfl⟩:=Nn h;have:=(ST.srt_mem p (p::r)).mpr GR;rw[z]at this;simp at this
 by_cases f:(ST.srt pts).length=1
 .unfold au;rw[if_pos f];exact b
 .have a:2<=(ST.srt pts).length:=by have:=Hx.mpr b;lia
  obtain⟨j,l,e,k,d,g,c,i,_⟩:=ends (eE pts) a;rw[gX a,d,g];intro z;have:e.reverse=[]:=(List.append_eq_nil_iff.mp z).1;rw[List.reverse_eq_nil_iff.mp this]at c;simp at c
theorem ck(pts):(au pts).Nodup:=by
 have g:∀{l:List Pt},l.Pairwise plt->l.Nodup:=λh=>h.imp λ{a b} k e=>by rw[e]at k;exact aI b k
 by_cases r:2<=(ST.srt pts).length
 .have c:=eE pts;obtain⟨d,f,E,B,j,m,M,N,H,i,n,w⟩:=ends c r;have D:(f::E).Nodup:=by rw[<-j];exact hJ.mp (g (je.mp (eN c)))
  have y:(d::B).Nodup:=by
   rw[<-m,b_];have:=hJ.mp (g (je.mp (eN (dg c))));refine Hy.mpr (this.imp λ{a b} K e=>K ?_);rw[<-ir a,e,ir]
  obtain⟨z,L⟩:=I0.mp D;obtain⟨J,F⟩:=I0.mp y;rw[gX r,j,m,KA,KA,JJ];refine⟨hJ.mpr L,hJ.mpr F,λp G q I=>?_⟩;rintro rfl;have t:=GY.mp G;have o:=GY.mp I;have s:p∈ao (ST.srt pts):=by rw[j];exact GG _ t
  have x:p∈ao (ST.srt pts).reverse:=by rw[m];exact GG _ o
  have v:=b7 _ _ s;have l1:=(H p v).resolve_left λe=>J (by rw[<-e];exact o);have l2:=(i p v).resolve_left λe=>z (by rw[<-e];exact t);have A:=oY c s d n f w l1 l2;have C:ng p∈ao ((ST.srt pts).reverse.map ng):=by rw[gY];exact GJ.mpr ⟨p,x,rfl⟩
  have u:=oY (dg c) C (ng f) (GJ.mpr ⟨f,GY.mpr w,rfl⟩) (ng d) (GJ.mpr ⟨d,GY.mpr n,rfl⟩) (lx l2) (lx l1);rw[mm]at u;unfold ah at A u;grind
 .unfold au;split
  .exact g (eE pts)
  .have e:ST.srt pts=[]:=Js.mp (by lia);rw[e];exact RD
theorem bK(pts):∀p∈au pts,p∈pts:=λp a=>by
 unfold au at a;split at a
 .exact (ST.srt_mem p pts).mp a
 .rcases Hi.mp a with h |h
  .exact (ST.srt_mem p pts).mp (b7 _ _ (GY.mp (Pu _ h)))
  .exact (ST.srt_mem p pts).mp (GY.mp (b7 _ _ (GY.mp (Pu _ h))))
theorem ks(pts):(au pts).length<=pts.length:=eJ (ck pts) (bK pts)
theorem fO(pts):au (au pts)=au pts:=by
 by_cases m:2<=(ST.srt pts).length
 .have k:=eE pts;obtain⟨g,h,D,C,c,f,j,o,E,w,B,F⟩:=ends k m;have i:=gX m
  have a:∀p∈ao (ST.srt pts),p∈au pts:=λp b=>by
   rw[i,c,f,KA,KA];rw[c]at b;rcases GF.mp b with z |z
   .rw[z];exact Ha _ (GY.mpr o)
   .exact Hm _ (GY.mpr z)
  have d:∀p∈ao (ST.srt pts).reverse,p∈au pts:=λp b=>by
   rw[i,c,f,KA,KA];rw[f]at b;rcases GF.mp b with z |z
   .rw[z];exact Hm _ (GY.mpr j)
   .exact Ha _ (GY.mpr z)
  have q:=eE (au pts);have sub:∀p∈ST.srt (au pts),p∈ST.srt pts:=λp b=>(ST.srt_mem p pts).mpr (bK pts p ((ST.srt_mem p _).mp b));have t:=qG k q sub λp b=>(ST.srt_mem p _).mpr (a p b);have s:=pM k q sub λp b=>(ST.srt_mem p _).mpr (d p b)
  have len:2<=(ST.srt (au pts)).length:=by
   have u:=(ST.srt_mem _ _).mpr (a g (by rw[c];exact GG _ j));have r:=(ST.srt_mem _ _).mpr (a h (by rw[c];exact GR))
   have v:g≠h:=λz=>by
    have n:=ck pts;rw[i,c,f,KA,KA,JJ]at n;exact n.2.2 g (GY.mpr j) h (GY.mpr o) z
   have:=eJ (l:=[g,h]) (by simp[v]) (λx A=>by
    rcases GF.mp A with z |z
    .rw[z];exact u
    .rw[GL.mp z];exact r)
   exact this
  rw[gX len,t,s,<-i]
 .have e:au pts=ST.srt pts:=by
   unfold au;split
   .rfl
   .have e:ST.srt pts=[]:=Js.mp (by lia);rw[e];rfl
  rw[e];have y:=ST.asc_srt (ST.srt_asc pts);unfold au;rw[y];split
  .rfl
  .have e:ST.srt pts=[]:=Js.mp (by lia);rw[e];rfl
def vF:List U->Out->Prop:=λa o=>∃P Q R:P2,a=[pu P,pu Q,pu R]/\Szp 5000 P/\Szp 5000 Q/\Szp 5000 R/\o=.val (.int (sgn (ah P Q R)))
theorem kI:OkD P w base T.acd 2 (vF):=by
 refine okD AX (by walk_at"ln") ?_;rintro _ _ _ a ⟨P,Q,R,rfl,⟨d,g⟩,⟨f,b⟩,⟨e,c⟩,rfl⟩;refine af (aR (a_ (uc T) a (ae (bj (aJ (bj (ax (aa 1 rfl) ag rfl rfl) (ax (aa 0 rfl) ag rfl rfl)) (bj (ax (aa 2 rfl) ag rfl rfl) (ax (aa 0 rfl) ag rfl rfl)) (by walk_at"mul")) (aJ (bj (ax (aa 1 rfl) ag rfl rfl) (ax (aa 0 rfl) ag rfl rfl)) (bj (ax (aa 2 rfl) ag rfl rfl) (ax (aa 0 rfl) ag rfl rfl)) (by walk_at"mul"))) ak aN) ⟨_,rfl,rfl⟩) ?_);exact rfl
def lQ:List U->Out->Prop:=λb o=>∃a:List P2,b=[lp a]/\(∀p∈a,Szp 5000 p)/\a.length<=900/\o=.new ((ao a).reverse.map pu)
theorem iq:OkD P w base T.abo 3 (lQ):=by
 refine okD fC (by walk_at"ln") ?_;rintro _ _ _ hr ⟨row,rfl,sz,hl,rfl⟩;refine af (fP (i:=1) fC.nd rfl (Or.inl rfl) (bI aF) ?_);refine af (d_ (λst:List P2=>[some (.val (lp row)),some (.own (st.reverse.map pu)),none]) (λi st=>st=ao (row.take i)) rfl PassesOwn.never (bZ (aa 0 rfl) (.inl rfl)) ?h0 ?hs ?hd)
 case h0=>exact⟨[],rfl,rfl,rfl,trivial⟩
 case hs=>
  rintro H0 i x _ hx rfl;obtain⟨P,hP,mP,rfl⟩:=zR hx;have hi:=aH hP;have sP:=sz P mP;refine⟨_,(eW (i:=2) fC.nd rfl (Or.inl rfl)),?_⟩;have len0:=h8 row i;refine jL (λps=>SubP [some (.val (lp row)),some (.own ((bg P (ao (row.take i))).reverse.map pu)),some (.val (pu P))] ps) (gH (λs2:List P2=>[some (.val (lp row)),some (.own (s2.reverse.map pu)),some (.val (pu P))]) (λm s2=>m=s2.length/\bg P s2=bg P (ao (row.take i))/\(∀p∈s2,p∈row)/\s2.length<=i) PassesOwn.never ?h0 ?hs) ?hj
  case h0=>exact⟨_,_,⟨rfl,rfl,λq hq=>fR row i q hq,len0⟩,rfl,rfl,rfl,trivial⟩
  case hs=>
   rintro m s2 ⟨rfl,e2,sub,len2⟩
   match s2,e2,sub,len2 with
   |[],e2,sub,len2=>
    refine⟨false,?_,λh=>(nomatch h),λh ps S7=>e2 ▸ S7⟩;exact (Tw.t (gD (aw eo (cC 1 rfl rfl T.aae) ag) rfl))
   |[b],e2,sub,len2=>
    refine⟨false,?_,λh=>(nomatch h),λh ps S7=>e2 ▸ S7⟩;exact (Tw.t (gD (aw eo (cC 1 rfl rfl T.aae) ag) rfl))
   |b::a::r,e2,sub,len2=>
    have sa:=sz a (sub a (by simp));have sb:=sz b (sub b (by simp));have e1:decide (1<((((b::a::r).reverse.map pu).length:Nat):Int))=true:=decide_eq_true (by simp;lia);refine⟨decide (1<((((b::a::r).reverse.map pu).length:Nat):Int)) && decide (sgn (ah a b P)<1),?_,λh=>?_,λh ps S7=>?_⟩
    .exact (Tw.t (lh (aw eo (cC 1 rfl rfl T.aae) ag) (λhz=>(jH (aw d8 (a_ (kI T) hr (ae (fh 1 rfl (bT ag) (um b a r)) (ae (fh 1 rfl (bT ag) (uy b (a::r))) (ae (aa 2 rfl) ak ai) aK) aK) ⟨a,b,P,rfl,sa,sb,sP,rfl⟩) ag)))))
    .rw[e1,LD,zC]at h;have hd:=dTb h;refine af (z_ 1 rfl (by simp) (aA ?_))
     refine⟨_,a::r,?_,⟨rfl,?_,λq hq=>sub q (GG _ hq),?_⟩,rfl,?_,rfl,trivial⟩
     .simp
     .rw[←e2];conv=>rhs;unfold bg
      rw[if_pos hd]
     .simp only[Ie]at *;lia
     .exact congrArg (λl=>some (Sl.own l)) (by simp)
    .rw[e1,LD,zC]at h;have hd:=dFb h
     have e3:bg P (b::a::r)=b::a::r:=by conv=>lhs;unfold bg
                                        rw[if_neg hd]
     rw[<-e2,e3];exact S7
  case hj=>
   intro ps S7;refine cX ?_ S7;have e4:=gf hP;have len3:=kH P (ao (row.take i));refine af (cN 1 rfl (aa 2 rfl) (by rw[GD,HL];exact aE (by lia)) (aA ?_));refine⟨_,rfl,rfl,?_,trivial⟩;exact congrArg (λl=>some (Sl.own l)) (by rw[e4];simp)
 case hd=>
  rintro st ps TU S7;refine cX ?_ S7;refine af (gh 1 rfl ?_);rw[TU];simp
theorem xB(h:∀p∈pts,Szp m p):∀p∈ST.srt pts,Szp m p:=λp a=>h p ((ST.srt_mem p pts).mp a)
theorem jh(row):(ao row).length<=row.length:=by
 have:=h8 row row.length
 rwa [Kj]at this
def tG:List U->Out->Prop:=λb o=>∃a:List P2,b=[lp a]/\(∀p∈a,Szp 5000 p)/\a.length<64/\a≠[]/\o=.new ((au a).map pu)
theorem lN:OkD P w base T.ab6 4 (tG):=by
 refine okD gB (by walk_at"ln") ?_;rintro _ _ _ d ⟨a,rfl,sz,h,k,rfl⟩;have e:((a.map pu).length:Int)=(a.length:Int):=by rw[GD]
 have f:=Hx.mpr k;refine af (aU (aw aW (aq (bu rfl) rfl T.aae G3 (ae (aa 0 rfl) ak ai)) ag) (by rw[e];exact decide_eq_false (by lia)) (aA ?_));have n:=ST.srt_len a;have c:(((ST.srt a).map pu).length:Int)=((ST.srt a).length:Int):=by rw[GD]
 have b:=xB sz;by_cases g:(ST.srt a).length=1
 .refine af (fP (i:=1) gB.nd rfl (Or.inl rfl) (gm rfl (ig d) rfl T.aal rfl T.ab1 (aa 0 rfl) (oU h) ai) ?_);refine af (bR (aw aW (cC 1 rfl rfl T.aae) ag) (by rw[c];exact decide_eq_true (by lia)) ?_);refine af (gh 1 rfl ?_);unfold au;rw[if_pos g]
 .refine af (av 1 gB.nd (EvN.ev (gm rfl (ig d) rfl T.aal rfl T.ab1 (aa 0 rfl) (oU h) ai)) ?_);refine af (aU (aw aW (aq (bu rfl) rfl T.aae G3 (ae (aa 1 rfl) ak ai)) ag) (by rw[c];exact decide_eq_false (by lia)) (aA ?_));have m:=jh (ST.srt a);have l:=jh (ST.srt a).reverse;rw[HL]at l;refine af (av 2 gB.nd (EvN.ev (cT (iq T) d (ae (aa 1 rfl) ak ai) ⟨ST.srt a,rfl,b,by lia,rfl⟩)) ?_)
  refine af (av 3 gB.nd (EvN.ev (cT (iq T) d (ae (EvN.ev (Fl (aa 1 rfl) (bT ag) (.inl rfl))) ak aK) ⟨(ST.srt a).reverse,by rw[lp,Jy],λp j=>b p (GY.mp j),by rw[HL];lia,rfl⟩)) ?_);refine af (cx (fN (EvN.ev (eF (aa 2 rfl) f7 (fZ (bT ag)) (.inl rfl))) (EvN.ev (eF (aa 3 rfl) f7 (fZ (bT ag)) (.inl rfl))) (by rw[gZ,gZ,GD,GD,Jw,Jw,HL,HL];exact Hd (aE (by lia)))) ?_);unfold au;rw[if_neg g,gZ,gZ,<-Hz]
noncomputable def ap(a b c d e f:Int)(p:P2):P2:=(a*p.1+b*p.2+e,c*p.1+d*p.2+f)
theorem Cw(n:Sz 500 a)(i:Sz 500 b)(k:Sz 500 c)(t:Sz 500 d)(r:Sz 500 e)(q:Sz 500 f)(u:m<=3000)(s:Szp m p):Szp (m+510) (ap a b c d e f p):=by
 have g:∀{x y z:Int},Sz 500 x->Sz 500 y->Sz 500 z->Sz (m+510) (x*p.1+y*p.2+z):=λl h sz=>by
  have o:=L2.Sz.add' (L2.Sz.mul l s.1) (L2.Sz.mul h s.2);have j:=L2.Sz.add' o sz;exact j.mono (by lia)
 exact⟨g n i r,g k t q⟩
def Bd:List U->Out->Prop:=λh o=>∃(g:List P2) (a b c d e f:Int),h=[lp g,mv a b c d e f]/\Mv a b c d e f/\(∀p∈g,Szp 3000 p)/\(∀p∈g,Szp 5000 (ap a b c d e f p))/\g≠[]/\g.length<64/\o=.new ((au (g.map (ap a b c d e f))).map pu)
theorem l8:OkD P w base T.abl 5 (Bd):=by
 refine okD gW (by walk_at"ln") ?_;rintro _ _ _ k ⟨g,a,b,c,d,e,f,rfl,M,sz,o,s,m,rfl⟩;refine af (cx (cT (lN T) k (ae (EvN.ev (cE (ys:=(g.map λp=>pu (ap a b c d e f p))) rfl (blk (am fu) ["land","move","P"] [2] rfl rfl rfl rfl (by decide+kernel)) (EvI.z (bZ (aa 0 rfl) (.inl rfl))) (λ_ _ _ _=>aT (i:=2) gW.nd rfl (Or.inl rfl)) (fS (by decide)) ?clen ?csz (λ_ _=>trivial) ?celt)) ak cH) ⟨g.map (ap a b c d e f),by rw[lp,Ho];rfl,λp l=>by obtain⟨q,r,rfl⟩:=GJ.mp l;exact o q r,by rw[GD];exact m,by simpa using s,rfl⟩) ?_)
 case clen=>simp
 case csz=>rw[GD];exact Hd (aE (by lia))
 case celt=>
  intro C A u v j x y t n;obtain⟨p,l,h,rfl,rfl⟩:=di t n;exact (a_ (jo T) k (ae (aa 2 rfl) (ae (aa 1 rfl) ak ai) ai) ⟨p.1,p.2,a,b,c,d,e,f,rfl,M,(sz p h).1.mono (by decide),(sz p h).2.mono (by decide),rfl⟩)
 exact rfl
theorem mt(h:ST.srt l=ST.srt m):au l=au m:=by unfold au;rw[h]
theorem jG(h:∀z,z∈l↔z∈m):ST.srt l=ST.srt m:=ST.asc_one (ST.srt_asc l) (ST.srt_asc m) λz=>by rw[ST.srt_mem,ST.srt_mem];exact h z
theorem cW(h:¬ 2<=(ST.srt pts).length):au pts=ST.srt pts:=by
 unfold au;split
 .rfl
 .have e:ST.srt pts=[]:=Js.mp (by lia);rw[e];rfl
section
variable {f:Pt→Pt}
theorem AU(d:∀a b,plt a b->plt (f a) (f b))(l):ST.srt (l.map f)=(ST.srt l).map f:=by
 refine ST.asc_one (ST.srt_asc _) (je.mpr (Hy.mpr ((eE l).imp λ{a b} h=>d a b h))) λz=>?_;rw[ST.srt_mem,GJ,GJ];exact⟨λ⟨x,c,e⟩=>⟨x,(ST.srt_mem x l).mpr c,e⟩,λ⟨x,c,e⟩=>⟨x,(ST.srt_mem x l).mp c,e⟩⟩
theorem u5(d:∀a b c,ah (f a) (f b) (f c)<=0↔ah a b c<=0)(P):∀e,bg (f P) (e.map f)=(bg P e).map f
 |[]=>rfl
 |[_]=>rfl
 |b::a::r=>by
  show bg (f P) (f b::f a::r.map f)=_;unfold bg;by_cases h:ah a b P<=0
  .rw[if_pos h,if_pos ((d a b P).mpr h)];exact u5 d P (a::r)
  .rw[if_neg h,if_neg λz=>h ((d a b P).mp z)];rfl
theorem nG(h:∀a b c,ah (f a) (f b) (f c)<=0↔ah a b c<=0)(row):ao (row.map f)=(ao row).map f:=by
 have e:∀(l:List Pt) d,(l.map f).foldl (λd P=>P::bg P d) (d.map f)=(l.foldl (λd P=>P::bg P d) d).map f:=by
  intro l
  induction l with
  |nil=>intro d;rfl
  |cons p r g=>
   intro d;rw[G_,I_,I_,u5 h];exact g (p::bg p d)
 exact e row []
theorem fQ(e:∀a b,plt a b->plt (f a) (f b))(d:∀a b c,ah (f a) (f b) (f c)<=0↔ah a b c<=0)(l):au (l.map f)=(au l).map f:=by
 unfold au;rw[AU e,GD,<-Jy,nG d,nG d];split
 .rfl
 .rw[Hz,NV,NV,Jy,Jy]
end
noncomputable def scl(k:Int)(p:Pt):Pt:=(k*p.1,k*p.2)
theorem gi(c:0<k)(a b)(h:plt a b):plt (scl k a) (scl k b):=by
 unfold plt scl at *;rcases h with h |⟨d,e⟩
 .exact .inl (LI h c)
 .exact .inr ⟨by rw[d],LI e c⟩
theorem kB(d:0<k)(a b c):ah (scl k a) (scl k b) (scl k c)<=0↔ah a b c<=0:=by
 have e:ah (scl k a) (scl k b) (scl k c)=(k*k) *ah a b c:=by unfold ah scl;grind
 have f:=HR d d;rw[e];constructor
 .intro h;refine HY λz=>?_;have:=HR f (show 0<ah a b c by lia);lia
 .intro h;have:=Hh (show 0<=k*k by lia) (show 0<=- ah a b c by lia);rw[Oa]at this;lia
theorem uF(p):scl 1 p=p:=by unfold scl;simp
noncomputable def jM:List Int->Int
 |[]=>0
 |a::l=>l.foldl min a
theorem ik:∀l (a:Int),l.foldl min a∈a::l
 |[],a=>by simp
 |b::l,a=>by
  have:=ik l (min a b);rw[I_];rcases GF.mp this with e |e
  .rw[e];rcases Pd a b with h |h
   .rw[Pe h];simp
   .rw[Int.min_eq_right h];simp
  .exact GG _ (GG _ e)
theorem iZ:∀l (a:Int),∀x∈a::l,l.foldl min a<=x
 |[],a,x,h=>by simp at h;rw[h];exact MG _
 |b::l,a,x,h=>by
  have ih:=iZ l (min a b);rw[I_];have c:=ih (min a b) GR;rcases GF.mp h with rfl |h
  .lia
  .rcases GF.mp h with rfl |h
   .lia
   .exact ih x (GG _ h)
theorem bV(h:l≠[]):jM l∈l/\∀a∈l,jM l<=a:=by
 cases l with
 |nil=>exact absurd rfl h
 |cons a l=>exact⟨ik l a,iZ l a⟩
theorem zk(h:a<=b):sgn a<=sgn b:=by
 unfold sgn;split <;>split <;>(try split) <;>(try split) <;>lia
theorem BN(h:l≠[]):sgn (jM l)∈l.map sgn/\∀a∈l.map sgn,sgn (jM l)<=a:=by
 obtain⟨e,d⟩:=bV h;refine⟨HD e,λa c=>?_⟩;obtain⟨b,f,rfl⟩:=GJ.mp c;exact zk (d b f)
noncomputable abbrev gp(l:List P2)(i:Nat):P2:=l.getD i (0,0)
noncomputable def nxt(l:List P2)(i:Nat):P2:=gp l ((i+1)%l.length)
noncomputable def sdl(l:List P2):List (P2×P2):=(HI l.length).map λi=>(gp l i,nxt l i)
noncomputable abbrev pq(s:P2×P2):U:=.tup [pu s.1,pu s.2]
theorem eB(h:i<l.length):l[i]?=some (gp l i):=by simp[gp,h]
theorem bU(h:i<l.length):gp l i∈l:=Hb (eB h)
theorem rH(l):iF l (some 1) none=l.drop 1:=by
 unfold iF HT.sIx;cases l with
 |nil=>simp
 |cons a l=>simp
theorem ud(l):iF l none (some 1)=l.take 1:=by
 unfold iF HT.sIx;cases l with
 |nil=>simp
 |cons a l=>simp
theorem xP(l):L_ (λa b=>U.tup [a,b]) (l.map pu) (iF (l.map pu) (some 1) none++iF (l.map pu) none (some 1))=(sdl l).map pq:=by
 rw[rH,ud];apply J9;intro i;unfold sdl;by_cases c:i<l.length
 .have f:(l.map pu)[i]?=some (pu (gp l i)):=by rw[GN,eB c];rfl
  have g:((l.map pu).drop 1++(l.map pu).take 1)[i]?=some (pu (nxt l i)):=by
   unfold nxt;by_cases d:i+1<l.length
   .rw[Hg (by simp;lia),Ko,OP,HW d,GN,eB d];rfl
   .have e:i+1=l.length:=by lia
    rw[Hj (by simp;lia),e,Pf];rw[show i-((l.map pu).drop 1).length=0 by simp;lia,Jl (by lia),GN,eB (by lia)];rfl
  rw[MU.mpr ⟨_,_,f,g,rfl⟩,Ho,GN,JF c];rfl
 .rw[Hu (by simp;lia),Hu (by simp;lia)]
theorem fi(l):(sdl l).length=l.length:=by simp[sdl]
theorem cP(h:s∈sdl l):s.1∈l/\s.2∈l:=by
 obtain⟨i,a,rfl⟩:=GJ.mp h;have b:=Hq.mp a;exact⟨bU b,bU (JH _ (by lia))⟩
def sK:List U->Out->Prop:=λa o=>∃l:List P2,a=[lp l]/\l.length<=900/\o=.new ((sdl l).map pq)
theorem gM:OkD P w base T.ab7 1 (sK):=by
 refine okD ye (by walk_at"ln") ?_;rintro _ _ _ b ⟨l,rfl,c,rfl⟩;have a:(iF (l.map pu) (some 1) none++iF (l.map pu) none (some 1)).length=l.length:=by rw[rH,ud];simp;lia
 refine af (cx (nU rfl rfl T.aat rfl T.ab_ (aa 0 rfl) (.inl rfl) (EvN.ev (fN (EvN.ev (eF (aa 0 rfl) (fZ ag) f7 (.inl rfl))) (EvN.ev (eF (aa 0 rfl) f7 (fZ ag) (.inl rfl))) (by rw[<-He,a];exact Hd (aE (by lia))))) (.inl rfl) ai aN) ?_);rw[xP]
noncomputable def btw(P Q R:P2):Bool:=decide (ah P Q R=0) && (ST.leP P R && ST.leP R Q)
noncomputable def jN(l:List P2)(p:P2):List Int:=(sdl l).map λs=>ah s.1 s.2 p
noncomputable def whr(l:List P2)(p:P2):Int:=if l.length<3 then (if btw (gp l 0) (gp l (l.length-1)) p=true then 0 else -1) else sgn (jM (jN l p))
theorem Fk(h:0<l.length):atI (l.map pu) 0=some (pu (gp l 0)):=zn rfl (by rw[GN,eB h];rfl)
theorem uh(h:0<l.length):atI (l.map pu) (-1)=some (pu (gp l (l.length-1))):=by
 have e:ixN (l.map pu).length (-1)=some (l.length-1):=by
  unfold ixN;simp;lia
 unfold atI;rw[e];show (l.map pu)[l.length-1]?=_;rw[GN,eB (by lia)];rfl
noncomputable def gst(s:P2×P2):Int:=((Kz (s.2.1-s.1.1) (s.2.2-s.1.2):Nat):Int)
noncomputable def crs(s:P2×P2):Int:=s.1.1*s.2.2-s.1.2*s.2.1
noncomputable def area(l:List P2):Int:=((sdl l).map crs).sum
noncomputable def iK(l:List P2):Int:=((sdl l).map gst).sum
noncomputable def pin(l:List P2):Int:=if l.length<3 then 0 else (area l-iK l+2)/2
theorem kM(h:s.1≠s.2):0<gst s:=by
 unfold gst
 have:Kz (s.2.1-s.1.1) (s.2.2-s.1.2)≠0:=λe=>by
  have:=Int.gcd_eq_zero_iff.mp e;exact h (Ii (by lia) (by lia))
 lia
noncomputable def ev(p:P2):Int:=if p.1%2=0/\p.2%2=0 then 1 else 0
theorem pF(l):(sdl l).map (·.1)=l:=by
 apply J9;intro i;unfold sdl;rw[Ho];by_cases a:i<l.length
 .rw[GN,JF a,eB a];rfl
 .rw[Hu (by simp;lia),Hu (by lia)]
theorem t6(l):(sdl l).map (·.2)=l.drop 1++l.take 1:=by
 apply J9;intro i;unfold sdl;rw[Ho];by_cases b:i<l.length
 .rw[GN,JF b];show some (nxt l i)=_;unfold nxt;by_cases a:i+1<l.length
  .rw[Hg (by simp;lia),Ko,show 1+i=i+1 by lia,HW a,eB a]
  .have e:i+1=l.length:=by lia
   rw[Hj (by simp;lia),e,Pf];rw[show i-(l.drop 1).length=0 by simp;lia,Jl (by lia),eB (by lia)]
 .rw[Hu (by simp;lia),Hu (by simp;lia)]
theorem qP{b:Type}(f g:b->Int):∀l:List b,(l.map λs=>f s-g s).sum=(l.map f).sum-(l.map g).sum
 |[]=>rfl
 |a::l=>by simp only[G_,Je,qP f g l];lia
theorem qF{b:Type}(f g:b->Int):∀l:List b,(l.map λs=>f s+g s).sum=(l.map f).sum+(l.map g).sum
 |[]=>rfl
 |a::l=>by simp only[G_,Je,qF f g l];lia
theorem EC(b:l.Nodup)(j:2<=l.length):∀s∈sdl l,s.1≠s.2:=λs f e=>by
 obtain⟨i,g,rfl⟩:=GJ.mp f;have a:=Hq.mp g;have h:(i+1)%l.length<l.length:=JH _ (by lia);have d:gp l i=gp l ((i+1)%l.length):=e;have:l[i]?=l[(i+1)%l.length]?:=by rw[eB a,eB h,d]
 have:=(LH a b).mp this;by_cases c:i+1<l.length
 .rw[HW c]at this;lia
 .have e:i+1=l.length:=by lia
  rw[e,Pf]at this;lia
theorem tf{l:List P2}(h:m<=n)(k:∀p∈l,Szp m p):∀p∈l,Szp n p:=λp a=>⟨(k p a).1.mono h,(k p a).2.mono h⟩
def wE:List U->Out->Prop:=λa o=>∃l:List P2,a=[lp l]/\l.length<=900/\(∀p∈l,Szp 2500 p)/\o=.val (.int (area l))
theorem lU:OkD P w base T.abk 2 (wE):=by
 refine okD e8 (by walk_at"ln") ?_;rintro _ _ _ g ⟨l,rfl,e,sz,rfl⟩;refine af (aR (aq (my rfl ) rfl T.abU Q3 (ae (EvN.ev (cE (ys:=(((sdl l).map crs).map U.int)) rfl (blk (am fG) ["land","A","B"] [1,2] rfl rfl rfl rfl (by decide+kernel)) (EvI.z (bZ (EvN.ev (cT (gM T) g (ae (aa 0 rfl) ak ai) ⟨l,rfl,e,rfl⟩)) (.inl rfl))) (λ_ _ _ _=>dX rfl (aV (aT (i:=1) e8.nd rfl (Or.inl rfl)) (aV (aT (i:=2) e8.nd rfl (Or.inl rfl)) cF))) (df (js:=[1,2]) (by decide)) ?clen ?csz ?dom ?celt)) ak cH)) ?_)
 case clen=>simp
 case csz=>simp only[fi,GD];exact Hd (aE (by lia))
 case dom=>
  intro x a;obtain⟨s,_,rfl⟩:=GJ.mp a;exact⟨_,rfl,rfl⟩
 case celt=>
  intro C m k h j x y a c;rw[Ho]at c;obtain⟨s,q,f,rfl,rfl⟩:=di a c;obtain⟨b,d⟩:=cP f;have r:=(sz _ b).1;have p:=(sz _ b).2;have n:=(sz _ d).1;have o:=(sz _ d).2;exact (bj (aJ (ax (aa 1 rfl) ag rfl rfl) (ax (aa 2 rfl) ag rfl rfl) (by walk_at"mul")) (aJ (ax (aa 1 rfl) ag rfl rfl) (ax (aa 2 rfl) ag rfl rfl) (by walk_at"mul")))
 exact rfl
theorem rh:∀{c},ij done c->∀k {a b},c[k]?=some b->c[k+1]?=some a->∀q∈done,0<=ah a b q
 |[],_,k,_,_,h,_=>by simp at h
 |[_],_,k,_,_,_,h=>by simp at h
 |x::y::r,C,0,a,b,h1,h2=>by
  simp at h1 h2;subst h1;subst h2;exact C.1
 |x::y::r,C,k+1,a,b,h1,h2=>rh C.2 k (by simpa using h1) (by simpa using h2)
theorem qa:∀{d},jS d->∀k {a b c},d[k]?=some c->d[k+1]?=some b->d[k+2]?=some a->0<ah a b c
 |[],_,k,_,_,_,h,_,_=>by simp at h
 |[_],_,k,_,_,_,_,h,_=>by simp at h
 |[_,_],_,k,_,_,_,_,_,h=>by simp at h
 |x::y::z::r,C,0,a,b,c,h1,h2,h3=>by
  simp at h1 h2 h3;subst h1;subst h2;subst h3;exact C.1
 |x::y::z::r,C,k+1,a,b,c,h1,h2,h3=>qa C.2 k (by simpa using h1) (by simpa using h2) (by simpa using h3)
theorem zH{c:List Pt}(e:c.reverse[i]?=some a)(d:c.reverse[i+1]?=some b):∃k,c[k]?=some b/\c[k+1]?=some a:=by
 have l2:i+1<c.length:=by have:=(GV.mp d).1;simpa using this
 rw[IQ (by lia)]at e
 rw[IQ l2]at d;exact⟨c.length-1-(i+1),d,by rw[<-e];congr 1;lia⟩
theorem wx{d:List Pt}(g:d.reverse[i]?=some a)(f:d.reverse[i+1]?=some b)(e:d.reverse[i+2]?=some c):∃k,d[k]?=some c/\d[k+1]?=some b/\d[k+2]?=some a:=by
 have h:i+2<d.length:=by have:=(GV.mp e).1;simpa using this
 rw[IQ (by lia)]at g
 rw[IQ (by lia)]at f
 rw[IQ h]at e;exact⟨d.length-1-(i+2),e,by rw[<-f];congr 1;lia,by rw[<-g];congr 1;lia⟩
theorem gQ(hs:row.Pairwise plt)(h:row≠[])(e:(ao row).reverse[i]?=some a)(c:(ao row).reverse[i+1]?=some b):∀q∈row,0<=ah a b q:=by
 obtain⟨k,d,f⟩:=zH e c;exact rh (cD hs h).1.cover k d f
theorem iC(hs:row.Pairwise plt)(h:row≠[])(g:(ao row).reverse[i]?=some a)(d:(ao row).reverse[i+1]?=some b)(l:(ao row).reverse[i+2]?=some c):0<ah a b c:=by
 obtain⟨k,f,j,e⟩:=wx g d l;exact qa (cD hs h).1.turns k f j e
theorem gg{b:List Pt}{i:Nat}(c:(ao b.reverse).reverse[i]?=some a):(ao (b.reverse.map ng)).reverse[i]?=some (ng a):=by
 rw[b_,<-Jy,GN]at c;cases e:(ao (b.reverse.map ng)).reverse[i]? with
 |none=>rw[e]at c;cases c
 |some z=>rw[e]at c;cases c;rw[ir]
theorem lL{row:List Pt}(hs:row.Pairwise plt)(h:row≠[]){i:Nat}{a b:Pt}(d:(ao row.reverse).reverse[i]?=some a)(c:(ao row.reverse).reverse[i+1]?=some b):∀q∈row,0<=ah a b q:=λq e=>by
 have:=gQ (dg hs) (by simpa using h) (gg d) (gg c) (ng q) (HD (GY.mpr e))
 rwa [mm]at this
theorem n9(hs:row.Pairwise plt)(h:row≠[])(e:(ao row.reverse).reverse[i]?=some a)(d:(ao row.reverse).reverse[i+1]?=some b)(f:(ao row.reverse).reverse[i+2]?=some c):0<ah a b c:=by
 have:=iC (dg hs) (by simpa using h) (gg e) (gg d) (gg f)
 rwa [mm]at this
theorem AC(b:bY u1 u2)(a:bY v1 v2)(i:u1*v2-u2*v1=0)(h:u1*w2-u2*w1<=0)(g:0<=v1*w2-v2*w1):u1*w2-u2*w1=0/\v1*w2-v2*w1=0:=by
 have m:v1*(u1*w2-u2*w1)=u1*(v1*w2-v2*w1):=by grind
 have n:v2*(u1*w2-u2*w1)=u2*(v1*w2-v2*w1):=by grind
 have d:∀{s t A B:Int},0<s->0<t->s*A=t*B->A<=0->0<=B->A=0/\B=0:=λ{s t A B} q p e j k=>by
  have u:s*A<=0:=Ia (by lia) j;have r:0<=t*B:=Hh (by lia) k;have o:s*A=0:=by lia
  have l:t*B=0:=by lia
  refine⟨(HA.mp o).resolve_left (by lia),(HA.mp l).resolve_left (by lia)⟩
 rcases b with b |⟨b,c⟩
 .rcases a with a |⟨a,f⟩
  .exact d a b m h g
  .rw[a]at i;have:=HR b f;lia
 .rcases a with a |⟨a,f⟩
  .rw[b]at i;have:=HR c a;lia
  .exact d f c n h g
theorem v8(b:plt a m)(e:plt c m)(h:ah a m c=0)(f:0<=ah a m q)(d:0<=ah m c q):ah a m q=0/\ah m c q=0:=by
 have k:=AC (w1:=m.1-q.1) (w2:=m.2-q.2) (aG b) (aG e) (by unfold ah at h;grind) (by unfold ah at f;grind) (by unfold ah at d;grind);unfold ah;exact⟨by grind,by grind⟩
theorem AH(a b c):ah a b c=ah b c a:=by unfold ah;grind
theorem FL(hs:row.Pairwise plt)(f:row≠[])(r:(ao row).reverse[i]?=some a)(o:(ao row).reverse[i+1]?=some m)(x:(ao row).length=i+2)
  (h3:(ao row.reverse).reverse[0]?=some m) (h4:(ao row.reverse).reverse[1]?=some c) (ha:plt a m) (hc:plt c m) (Vw:2<(ao row).length\/2<(ao row.reverse).length):0<ah a m c:=by
 have g:∀{j}{p},(ao row).reverse[j]?=some p->p∈row:=λh=>b7 row _ (GY.mp (Hb h));have d:∀{j}{p},(ao row.reverse).reverse[j]?=some p->p∈row:=λh=>GY.mp (b7 _ _ (GY.mp (Hb h)));have l:=gQ hs f r o;have w:=lL hs f h3 h4;have u:=l c (d h4);rcases HU u with z |z
 .exact z
 .exfalso
  have n:∀q∈row,ah a m q=0/\ah m c q=0:=λq s=>v8 ha hc z.symm (l q s) (w q s);rcases Vw with b |b
  .have v:0<i:=by lia
   have k:i-1<(ao row).reverse.length:=by simp;lia
   have e:=GC k;have t:=iC hs f e (by rw[Qc v];exact r) (by rw[show i-1+2=i+1 by lia];exact o);rw[AH,(n _ (g e)).1]at t;lia
  .have k:2<(ao row.reverse).reverse.length:=by simpa using b
   have e:=GC k;have t:=n9 hs f h3 h4 e;rw[(n _ (d e)).2]at t;lia
structure C7(row T B:List Pt)(mn mx:Pt):Prop where
 t0:T[0]?=some mn
 t1:T[T.length-1]?=some mx
 b0:B[0]?=some mx
 b1:B[B.length-1]?=some mn
 lt:2<=T.length
 lb:2<=B.length
 least:∀p∈row,p=mn\/plt mn p
 most:∀p∈row,p=mx\/plt p mx
theorem Cn{l:List Pt}:l.reverse[0]?=l.getLast?:=by rw[List.getLast?_eq_head?_reverse,Ld]
theorem Cu{l:List Pt}:l.reverse[l.reverse.length-1]?=l.head?:=by rw[<-Ja,MR]
theorem Ft(hs:row.Pairwise plt)(e:2<=row.length):∃b c,C7 row (ao row).reverse (ao row.reverse).reverse b c:=by
 have n:row≠[]:=λz=>by rw[z]at e;simp at e
 obtain⟨b,c,u,t,m,i,q,r,least,a,_,_⟩:=ends hs e;obtain⟨K,p,g⟩:=cD hs n;obtain⟨s,f,h⟩:=cD (dg hs) (by simpa using n);have l1:2<=(ao row).length:=by rw[m];have:=Iy q;simp;lia
 have l2:2<=(ao row.reverse).length:=by rw[i];have:=Iy r;simp;lia
 have k:row.head?=some row[0]:=by rw[Ld];exact GC (by lia)
 have d:row.getLast?=some row[row.length-1]:=by rw[Ja];exact GC (by lia)
 have o:row[0]=b:=by
  have l:=h;rw[MF,MR,k]at l;have:(ao row.reverse).head?=some row[0]:=by rw[b_,NA,l];simp[ir]
  rw[i]at this;exact (HK this).symm
 have j:row[row.length-1]=c:=by
  rw[d,m]at g;exact (HK g).symm
 refine⟨b,c,?_,?_,?_,?_,by simpa using l1,by simpa using l2,least,a⟩
 .rw[Cn,p,k,o]
 .rw[Cu,g,d,j]
 .rw[Cn,b_,MF,f,NA,Qh,d,j];simp[ir]
 .rw[Cu,i];rfl
section
variable {row T B:List Pt}{mn mx:Pt}
theorem iO(W:C7 row T B mn mx)(c:k<=T.length-1):(T.dropLast++B.dropLast)[k%(T.dropLast++B.dropLast).length]?=T[k]?:=by
 have b:=W.lb;have a:(T.dropLast++B.dropLast).length=T.length-1+(B.length-1):=by simp
 rw[a,HW (by lia)];by_cases h:k<T.length-1
 .rw[Hg (by simpa using h),Lc,if_pos h]
 .obtain rfl:k=T.length-1:=by lia
  rw[Hj (by simp),Jw,QI,Lc,if_pos (by lia),W.b0,W.t1]
theorem AI(W:C7 row T B mn mx)(b:T.length-1<=k)(c:k<=T.length-1+(B.length-1)):(T.dropLast++B.dropLast)[k%(T.dropLast++B.dropLast).length]?=B[k-(T.length-1)]?:=by
 have a:(T.dropLast++B.dropLast).length=T.length-1+(B.length-1):=by simp
 by_cases h:k<T.length-1+(B.length-1)
 .rw[a,HW h,Hj (by simpa using b),Jw,Lc,if_pos (by lia)]
 .obtain rfl:k=T.length-1+(B.length-1):=by lia
  have:=iO W (k:=0) (by lia);rw[Se]at this;rw[a,Pf,this,W.t0,show T.length-1+(B.length-1)-(T.length-1)=B.length-1 by lia,W.b1]
end
theorem t4{l:List Pt}(h:i<l.length):∃a,l[i]?=some a:=⟨_,GC h⟩
theorem mE(R:2<=(ST.srt pts).length)(F:i<(au pts).length):∃a b,(au pts)[i]?=some a/\(au pts)[(i+1)%(au pts).length]?=some b/\(∀p∈pts,0<=ah a b p)/\(2<(au pts).length->∃c,(au pts)[(i+2)%(au pts).length]?=some c/\0<ah a b c):=by
 have r:=eE pts;have D:ST.srt pts≠[]:=λz=>by rw[z]at R;simp at R
 obtain⟨mn,mx,W⟩:=Ft r R;have Vb:∀p∈pts,p∈ST.srt pts:=λp G=>(ST.srt_mem p pts).mpr G
 have hc:au pts=(ao (ST.srt pts)).reverse.dropLast++(ao (ST.srt pts).reverse).reverse.dropLast:=by
  unfold au;rw[if_neg (by omega)]
 have tc:∀{j:Nat}{a b:Pt},(ao (ST.srt pts)).reverse[j]?=some a->(ao (ST.srt pts)).reverse[j+1]?=some b->∀q∈ST.srt pts,0<=ah a b q:=λh y=>gQ r D h y;have tt:∀{j:Nat}{a b c:Pt},(ao (ST.srt pts)).reverse[j]?=some a->(ao (ST.srt pts)).reverse[j+1]?=some b->(ao (ST.srt pts)).reverse[j+2]?=some c->0<ah a b c:=λh y w=>iC r D h y w;have bc:∀{j:Nat}{a b:Pt},(ao (ST.srt pts).reverse).reverse[j]?=some a->(ao (ST.srt pts).reverse).reverse[j+1]?=some b->∀q∈ST.srt pts,0<=ah a b q:=λh y=>lL r D h y;have bt:∀{j:Nat}{a b c:Pt},(ao (ST.srt pts).reverse).reverse[j]?=some a->(ao (ST.srt pts).reverse).reverse[j+1]?=some b->(ao (ST.srt pts).reverse).reverse[j+2]?=some c->0<ah a b c:=λh y w=>n9 r D h y w;have Vy:∀{j:Nat}{p:Pt},(ao (ST.srt pts)).reverse[j]?=some p->p∈ST.srt pts:=λh=>b7 _ _ (GY.mp (Hb h));have s:∀{j:Nat}{p:Pt},(ao (ST.srt pts).reverse).reverse[j]?=some p->p∈ST.srt pts:=λh=>GY.mp (b7 _ _ (GY.mp (Hb h)));have Q:(ao (ST.srt pts)).reverse.Nodup:=(eN r).imp λ{a b} h e=>by subst e;exact aI _ ((d7 _ _).mpr h)
 have ndB:(ao (ST.srt pts).reverse).reverse.Nodup:=by
  rw[b_,<-Jy];have ndR:(ao ((ST.srt pts).reverse.map ng)).reverse.Nodup:=(eN (dg r)).imp λ{a b} h e=>by subst e;exact aI _ ((d7 _ _).mpr h)
  exact Kb _ (λa b (h:a≠b) e=>h (by have:=congrArg ng e;rwa [ir,ir]at this)) ndR
 have m1:∀{j:Nat}{a m c:Pt},(ao (ST.srt pts)).reverse[j]?=some a->(ao (ST.srt pts)).reverse[j+1]?=some m->(ao (ST.srt pts)).length=j+2->(ao (ST.srt pts).reverse).reverse[0]?=some m->(ao (ST.srt pts).reverse).reverse[1]?=some c->plt a m->plt c m->2<(ao (ST.srt pts)).length\/2<(ao (ST.srt pts).reverse).length->0<ah a m c:=λo A C V a5 U S Y=>FL r D o A C V a5 U S Y
 have m2:∀{j:Nat}{a m c:Pt},(ao (ST.srt pts).reverse).reverse[j]?=some a->(ao (ST.srt pts).reverse).reverse[j+1]?=some m->(ao (ST.srt pts).reverse).length=j+2->(ao (ST.srt pts)).reverse[0]?=some m->(ao (ST.srt pts)).reverse[1]?=some c->plt m a->plt m c->2<(ao (ST.srt pts)).length\/2<(ao (ST.srt pts).reverse).length->0<ah a m c:=λ{j a m c} o A C V a5 U S Y=>by
  have er:((ST.srt pts).reverse.map ng).reverse=(ST.srt pts).map ng:=by rw[<-Jy,LJ]
  have fw:∀{k:Nat}{p:Pt},(ao (ST.srt pts)).reverse[k]?=some p->(ao ((ST.srt pts).reverse.map ng).reverse).reverse[k]?=some (ng p):=λ{k p} h=>by
   rw[er,gY,<-Jy,GN,h];rfl
  have lb:(ao ((ST.srt pts).reverse.map ng)).length=(ao (ST.srt pts).reverse).length:=by rw[b_,GD]
  have lt:(ao ((ST.srt pts).reverse.map ng).reverse).length=(ao (ST.srt pts)).length:=by rw[er,gY,GD]
  have:=FL (dg r) (by simpa using D) (gg o) (gg A) (by rw[lb];exact C) (fw V) (fw a5) (lx U) (lx S) (by rw[lb,lt];exact Y.symm)
  rwa [mm]at this
 rw[hc]at F |-;have X:(ao (ST.srt pts)).reverse.length=(ao (ST.srt pts)).length:=HL;have Z:(ao (ST.srt pts).reverse).reverse.length=(ao (ST.srt pts).reverse).length:=HL;generalize (ao (ST.srt pts)).reverse=T at *;generalize (ao (ST.srt pts).reverse).reverse=B at *;have h1:=W.lt;have h3:=W.lb;obtain⟨t,l⟩:∃t,T.length=t+1:=⟨T.length-1,by omega⟩
 obtain⟨u,v⟩:∃u,B.length=u+1:=⟨B.length-1,by omega⟩
 have t1:0<t:=by rw[l]at h1;exact QA (OF h1)
 have u1:0<u:=by rw[v]at h3;exact QA (OF h3)
 have M:(T.dropLast++B.dropLast).length=t+u:=by simp[l,v]
 have O:∀{k:Nat},k<=t->(T.dropLast++B.dropLast)[k%(T.dropLast++B.dropLast).length]?=T[k]?:=λh=>iO W (by rw[l];exact h)
 have L:∀{k:Nat},k<=u->(T.dropLast++B.dropLast)[(t+k)%(T.dropLast++B.dropLast).length]?=B[k]?:=λ{k} h=>by
  rw[AI W (by rw[l];exact HQ t k) (by rw[l,v];exact LV h t),l];exact congrArg (λz=>B[z]?) (Mp ..)
 have N:∀{k:Nat},k<=t->∃a,T[k]?=some a:=λh=>t4 (by rw[l];exact QB h);have K:∀{k:Nat},k<=u->∃a,B[k]?=some a:=λh=>t4 (by rw[v];exact QB h)
 have n:2<(T.dropLast++B.dropLast).length->2<T.length\/2<B.length:=λh=>by
  rw[M]at h;rw[l,v];clear M l v h1 h3 F X Z;omega
 rw[X,Z]at n;have own:(T.dropLast++B.dropLast)[i]?=(T.dropLast++B.dropLast)[i%(T.dropLast++B.dropLast).length]?:=by rw[HW F]
 rw[own];have wt:=W.t1;have wb:=W.b1;rw[l]at wt;rw[v]at wb;have I:∀{j k:Nat}{p q:Pt},T[j]?=some p->T[k]?=some q->j≠k->p≠q:=λ{j k p q} o A C e=>C ((LH (aH o) Q).mp (by rw[o,A,e]))
 have H:∀{j k:Nat}{p q:Pt},B[j]?=some p->B[k]?=some q->j≠k->p≠q:=λ{j k p q} o A C e=>C ((LH (aH o) ndB).mp (by rw[o,A,e]));rw[M]at F;by_cases E:i<t
 .obtain⟨a,f⟩:=N (Hd E);obtain⟨b,g⟩:=N E;refine⟨a,b,(O (Hd E)).trans f,(O E).trans g,λp G=>tc f g p (Vb p G),λP=>?_⟩;by_cases x:i+2<=t
  .obtain⟨c,d⟩:=N x;exact⟨c,(O x).trans d,tt f g d⟩
  .have e:i+1=t:=Lq E (Ib (QW x));obtain⟨c,d⟩:=K u1;cases e;cases HK (g.symm.trans wt);exact⟨c,(L u1).trans d,m1 f g (X.symm.trans l) W.b0 d ((W.most a (Vy f)).resolve_left (I f g (Hn (Il i)))) ((W.most c (s d)).resolve_left (H d W.b0 Ri)) (n P)⟩
 .obtain⟨j,rfl⟩:=Nat.exists_eq_add_of_le (JU E);have J:j<u:=Nat.lt_of_add_lt_add_left F;obtain⟨a,f⟩:=K (Hd J);obtain⟨b,g⟩:=K J;refine⟨a,b,(L (Hd J)).trans f,(L J).trans g,λp G=>bc f g p (Vb p G),λP=>?_⟩;by_cases x:j+2<=u
  .obtain⟨c,d⟩:=K x;exact⟨c,(L x).trans d,bt f g d⟩
  .have e:j+1=u:=Lq J (Ib (QW x));obtain⟨c,d⟩:=N t1;cases e;cases HK (g.symm.trans wb);refine⟨c,?_,m2 f g (Z.symm.trans v) W.t0 d ((W.least a (s f)).resolve_left (H f g (Hn (Il j)))) ((W.least c (Vy d)).resolve_left (I d W.t0 Ri)) (n P)⟩;have:=O t1;rw[M]at this |-;rw[show t+j+2=1+(t+(j+1)) from OP (t+(j+1)) 1,QC]
   exact this.trans d
noncomputable def cd(n q:Int):Int:=-(-n/q)
noncomputable def unc:List Int->Int×Int
 |[]=>(1,0)
 |b::l=>(b*(unc l).1-(unc l).2,(unc l).1)
structure Lvl(a b:Pt)(g u v s t:Int):Prop where
 g0:0<g
 e1:b.1-a.1=g*u
 e2:b.2-a.2=g*v
 st:s*u+t*v=1
noncomputable def tx(a c:Pt)(s t:Int):Int:=s*(c.1-a.1)+t*(c.2-a.2)
def ty(a c:Pt)(u v:Int):Int:=u*(c.2-a.2)-v*(c.1-a.1)
noncomputable def bk(a:Pt)(u v s t x y:Int):Pt:=(u*x-t*y+a.1,v*x+s*y+a.2)
theorem Lvl.area(L:Lvl a b g u v s t)(c):ah a b c=g*ty a c u v:=by
 have:=L.e1;have:=L.e2;unfold ah ty;grind
theorem Lvl.back(L:Lvl a b g u v s t)(c):c.1=u*tx a c s t-t*ty a c u v+a.1/\c.2=v*tx a c s t+s*ty a c u v+a.2:=by
 have:=L.st;unfold tx ty;constructor <;>grind
noncomputable def wth(a b:Int)(p:Pt):Int:=a*p.1+b*p.2
theorem Dh(q:b<=0)(f:plt u p)(i:plt p v)(h:ah u p v<=0):wth a b p<=wth a b u\/wth a b p<=wth a b v:=by
 rcases Ig (wth a b u) (wth a b p) with g |g
 .rcases Ig (wth a b v) (wth a b p) with c |c
  .exfalso
   have e:(v.1-p.1) *(wth a b p-wth a b u)+(p.1-u.1) *(wth a b p-wth a b v)=-((-b) *(-(ah u p v))):=by unfold wth ah;grind
   have l:0<=(-b) *(-(ah u p v)):=Hh (by lia) (by lia);have m:0<=p.1-u.1:=by unfold plt at f;lia
   have k:0<=v.1-p.1:=by unfold plt at i;lia
   have r:0<=(v.1-p.1) *(wth a b p-wth a b u):=Hh k (by lia);rcases Ig 0 (p.1-u.1) with d |d
   .have:=HR d (show 0<wth a b p-wth a b v by lia);lia
   .have j:u.1=p.1:=by lia
    have o:u.2<p.2:=by unfold plt at f;lia
    have:0<=(-b) *(p.2-u.2):=Hh (by lia) (by lia);have n:wth a b p-wth a b u=-((-b) *(p.2-u.2)):=by unfold wth;rw[j];grind
    lia
  .exact .inr c
 .exact .inl g
theorem uV(hs:row.Pairwise plt)(l:b<=0)(j:p∈row):∃c∈ao row,wth a b p<=wth a b c:=by
 by_cases h:p∈ao row
 .exact⟨p,h,MG _⟩
 .obtain⟨u,f,v,i,k,g,d⟩:=gap hs j h;rcases Dh l k g d with e |e
  .exact⟨u,f,e⟩
  .exact⟨v,i,e⟩
theorem DH(a b)(p):wth (-a) (-b) (ng p)=wth a b p:=by unfold wth ng;grind
theorem Bb(a b)(p):wth a b (ng p)=wth (-a) (-b) p:=by unfold wth ng;grind
theorem xE{row:List Pt}(hs:row.Pairwise plt)(f:0<=b)(d:p∈row):∃c∈ao row.reverse,wth a b p<=wth a b c:=by
 obtain⟨c,e,k⟩:=uV (dg hs) (b:=-b) (by lia) (GJ.mpr ⟨p,GY.mpr d,rfl⟩);refine⟨ng c,by rw[b_];exact GJ.mpr ⟨c,e,rfl⟩,?_⟩;rw[DH]at k;rw[Bb];exact k
theorem qO(a b)(o:p∈pts):∃c∈au pts,wth a b p<=wth a b c:=by
 have f:=(ST.srt_mem p pts).mpr o;by_cases g:2<=(ST.srt pts).length
 .have i:=eE pts;obtain⟨s,t,r,q,j,l,m,n,_⟩:=ends i g;have e:=gX g;rw[j,l]at e;rcases Pd b 0 with h |h
  .obtain⟨c,d,k⟩:=uV i h f;refine⟨c,?_,k⟩;rw[e];rw[j]at d;rcases GF.mp d with rfl |d
   .exact Ha _ (GY.mpr n)
   .exact Hm _ (GY.mpr d)
  .obtain⟨c,d,k⟩:=xE i h f;refine⟨c,?_,k⟩;rw[e];rw[l]at d;rcases GF.mp d with rfl |d
   .exact Hm _ (GY.mpr m)
   .exact Ha _ (GY.mpr d)
 .exact⟨p,by rw[cW g];exact f,MG _⟩
noncomputable def hiL:List Int->Int
 |[]=>0
 |a::l=>l.foldl max a
theorem fF:∀l (a:Int),l.foldl max a∈a::l
 |[],a=>by simp
 |b::l,a=>by
  have:=fF l (max a b);rw[I_];rcases GF.mp this with e |e
  .rw[e];rcases Pd a b with h |h
   .rw[Ou h];simp
   .rw[Int.max_eq_left h];simp
  .exact GG _ (GG _ e)
theorem gr:∀l (a:Int),∀x∈a::l,x<=l.foldl max a
 |[],a,x,h=>by simp at h;rw[h];exact MG _
 |b::l,a,x,h=>by
  have ih:=gr l (max a b);rw[I_];have c:=ih (max a b) GR;rcases GF.mp h with rfl |h
  .lia
  .rcases GF.mp h with rfl |h
   .lia
   .exact ih x (GG _ h)
noncomputable def hiW(a b:Int)(l:List Pt):Int:=hiL (l.map (wth a b))
theorem tS(a b)(h:l≠[]):(∃p∈l,wth a b p=hiW a b l)/\∀p∈l,wth a b p<=hiW a b l:=by
 cases l with
 |nil=>exact absurd rfl h
 |cons q l=>
  refine⟨?_,λp c=>?_⟩
  .have:=fF (l.map (wth a b)) (wth a b q);rw[<-G_]at this;obtain⟨p,c,e⟩:=GJ.mp this;exact⟨p,c,e⟩
  .exact gr (l.map (wth a b)) (wth a b q) _ (by rw[<-G_];exact HD c)
theorem nX(a:3<=(au l).length):2<=(ST.srt l).length:=by
 rcases IU (ST.srt l).length 2 with h |h
 .rw[cW (by lia)]at a;lia
 .exact h
theorem vw(h:i<l.length):(gp l i,gp l ((i+1)%l.length))∈sdl l:=GJ.mpr ⟨i,Hq.mpr h,rfl⟩
theorem j5(h:l[i]?=some a):gp l i=a:=by simp[gp,h]
theorem yV:((i+1)%n+1)%n=(i+2)%n:=by rw[OU]
theorem dN(g:3<=(au l).length)(hs:s∈sdl (au l)):∀q∈l,0<=ah s.1 s.2 q:=by
 obtain⟨i,e,rfl⟩:=GJ.mp hs;obtain⟨a,b,d,f,c,_⟩:=mE (nX g) (Hq.mp e);show ∀q∈l,0<=ah (gp (au l) i) (gp (au l) ((i+1)%(au l).length)) q;rw[j5 d,j5 f];exact c
theorem kK(p:3<=(au l).length)(hs:(A,B)∈sdl (au l)):∃C,(B,C)∈sdl (au l)/\0<ah A B C:=by
 obtain⟨i,m,e⟩:=GJ.mp hs;have o:=Hq.mp m;obtain⟨a,b,k,g,_,n⟩:=mE (nX p) o;obtain⟨c,h,d⟩:=n (by lia);have j:A=a:=by rw[<-j5 k];exact (congrArg M6 e).symm
 have f:B=b:=by rw[<-j5 g];exact (congrArg Pm e).symm
 refine⟨c,?_,by rw[j,f];exact d⟩;have:=vw (i:=(i+1)%(au l).length) (JH _ (by lia));rw[yV,j5 g,j5 h]at this;rw[f];exact this
theorem EX(h:A∈l):∃B,(A,B)∈sdl l:=by
 obtain⟨i,a⟩:=IE.mp h;have b:=(GV.mp a).1;have:=vw b;rw[j5 a]at this;exact⟨_,this⟩
theorem y6(h:A∈l):∃Z,(Z,A)∈sdl l:=by
 obtain⟨i,a⟩:=IE.mp h;have c:=(GV.mp a).1;have b:(i+l.length-1)%l.length<l.length:=JH _ (by lia);have:=vw b
 have e:((i+l.length-1)%l.length+1)%l.length=i:=by
  rw[OU,show i+l.length-1+1=i+l.length by lia,QC,HW c]
 rw[e,j5 a]at this;exact⟨_,this⟩
theorem Ea(d:l.Nodup)(k:(A,B)∈sdl l)(f:(A,C)∈sdl l):B=C:=by
 obtain⟨i,h,e⟩:=GJ.mp k;obtain⟨j,m,a⟩:=GJ.mp f;have b:=Hq.mp h;have c:=Hq.mp m;have g:gp l i=gp l j:=(congrArg M6 e).trans (congrArg M6 a).symm;have:i=j:=(LH b d).mp (by rw[eB b,eB c,g]);subst this;exact (congrArg Pm e).symm.trans (congrArg Pm a)
theorem DR{a b v1 v2 w1 w2:Int}(g:0<a*v2-b*v1)(d:a*w2-b*w1=0)(c:v1*w2-v2*w1=0):w1=0/\w2=0:=by
 have e:(a*v2-b*v1) *w1=0:=by
  have:(a*v2-b*v1) *w1=v1*(a*w2-b*w1)-a*(v1*w2-v2*w1):=by grind
  rw[this,d,c];simp
 have f:(a*v2-b*v1) *w2=0:=by
  have:(a*v2-b*v1) *w2=v2*(a*w2-b*w1)-b*(v1*w2-v2*w1):=by grind
  rw[this,d,c];simp
 refine⟨?_,?_⟩
 .rcases HA.mp e with h |h
  .lia
  .exact h
 .rcases HA.mp f with h |h
  .lia
  .exact h
def wF(l:List P2)(p:P2):Prop:=p∈l/\∃a b:Int,∀q∈l,q≠p->wth a b q<wth a b p
theorem gV(h:wF l p):p∈au l:=by
 obtain⟨g,a,b,k⟩:=h;obtain⟨c,f,e⟩:=qO a b g;by_cases d:c=p
 .rw[<-d];exact f
 .have:=k c (bK _ c f) d;lia
theorem fo(b:3<=(au l).length)(f:p∈au l):wF l p:=by
 obtain⟨Z,c⟩:=y6 f;obtain⟨B,k,a⟩:=kK b c;refine⟨bK _ p f,B.2-Z.2,Z.1-B.1,λq g m=>?_⟩;have i:=dN b c q g;have d:=dN b k q g;dsimp only at i d;have e:wth (B.2-Z.2) (Z.1-B.1) q-wth (B.2-Z.2) (Z.1-B.1) p=-(ah Z p q+ah p B q):=by unfold wth ah;grind
 rcases HU (Int.add_nonneg i d) with h |h
 .lia
 .exfalso
  have n:ah Z p q=0:=by lia
  have j:ah p B q=0:=by lia
  have:=DR (w1:=q.1-p.1) (w2:=q.2-p.2) (by rw[<-(show ah Z p B=(p.1-Z.1) *(B.2-p.2)-(p.2-Z.2) *(B.1-p.1) by unfold ah;grind)];exact a) (by rw[<-n];unfold ah;grind) (by rw[<-j];unfold ah;grind);exact m (Ii (by lia) (by lia))
theorem DK{a b v1 v2 w1 w2:Int}(h:a*w2-b*w1=0):(a*v2-b*v1) *w1=(w1*v2-w2*v1) *a/\(a*v2-b*v1) *w2=(w1*v2-w2*v1) *b:=by
 constructor
 .have:(a*v2-b*v1) *w1-(w1*v2-w2*v1) *a=v1*(a*w2-b*w1):=by grind
  rw[h]at this;simp at this;lia
 .have:(a*v2-b*v1) *w2-(w1*v2-w2*v1) *b=v2*(a*w2-b*w1):=by grind
  rw[h]at this;simp at this;lia
theorem iL(i:3<=(au l).length):(A,B)∈sdl (au l)↔A∈au l/\B∈au l/\A≠B/\∀q∈au l,0<=ah A B q:=by
 constructor
 .intro h;exact⟨(cP h).1,(cP h).2,EC (ck l) (by omega) _ h,λq Y=>dN i h q (bK _ q Y)⟩
 .rintro ⟨u,I,J,v⟩;obtain⟨C,m⟩:=EX u;obtain⟨Z,H⟩:=y6 u;by_cases g:B=C
  .rw[g];exact m
  .exfalso
   obtain⟨D,x,X⟩:=kK i m;obtain⟨c,w,O⟩:=kK i H;have:c=C:=Ea (ck l) w m;subst this;have t:=(cP m).2;have U:=(cP x).2;have r:=bK _ B I;have k1:=dN i m B r;have k2:=v c t;have G:=dN i H B r;have F:=dN i x B r;dsimp only at k1 G F t U
   have z:(c.1-A.1) *(B.2-A.2)-(c.2-A.2) *(B.1-A.1)=0:=by
    have n:ah A c B=(c.1-A.1) *(B.2-A.2)-(c.2-A.2) *(B.1-A.1):=rfl;have e2:ah A B c=-((c.1-A.1) *(B.2-A.2)-(c.2-A.2) *(B.1-A.1)):=by unfold ah;grind
    omega
   obtain⟨k,j⟩:=DK (v1:=Z.1-A.1) (v2:=Z.2-A.2) z
   have f:0<(c.1-A.1) *(Z.2-A.2)-(c.2-A.2) *(Z.1-A.1):=by
    rw[<-(show ah Z A c=(c.1-A.1) *(Z.2-A.2)-(c.2-A.2) *(Z.1-A.1) by unfold ah;grind)];exact O
   have L:0<=(B.1-A.1) *(Z.2-A.2)-(B.2-A.2) *(Z.1-A.1):=by
    rw[<-(show ah Z A B=(B.1-A.1) *(Z.2-A.2)-(B.2-A.2) *(Z.1-A.1) by unfold ah;grind)];exact G
   generalize (c.1-A.1) *(Z.2-A.2)-(c.2-A.2) *(Z.1-A.1)=d at *;generalize (B.1-A.1) *(Z.2-A.2)-(B.2-A.2) *(Z.1-A.1)=s at *
   have Q:s≠0:=λe=>by
    rw[e,Jn]at k j;have p:=(HA.mp k).resolve_left (Jz f);have o:=(HA.mp j).resolve_left (Jz f);exact J (Ii (IS p) (IS o)).symm
   have N:s≠d:=λe=>by
    rw[e]at k j;have p:=H_ (Jz f) k;have o:=H_ (Jz f) j;exact g (Ii ((QX _).mp p) ((QX _).mp o))
   have M:s<=d:=by
    have e:d*ah c D B=(d-s) *ah A c D:=by
     have n:d*ah c D B=(D.1-c.1) *(d*(B.2-A.2)-d*(c.2-A.2))-(D.2-c.2) *(d*(B.1-A.1)-d*(c.1-A.1)):=by unfold ah;grind
     rw[n,k,j];unfold ah;grind
    have:0<=(d-s) *ah A c D:=by rw[<-e];exact Hh (Jp f) F
    rw[J3]at this;exact Pv (Int.le_of_mul_le_mul_left (by rw[IJ];exact this) X)
   obtain⟨_,a,b,top⟩:=fo i I;have W:=top A (bK _ A u) J;have T:=top c (bK _ c t) (λe=>g e.symm)
   have y:d*(wth a b B-wth a b A)=s*(wth a b c-wth a b A):=by
    have n:d*(wth a b B-wth a b A)=a*(d*(B.1-A.1))+b*(d*(B.2-A.2)):=by unfold wth;grind
    rw[n,k,j];unfold wth;grind
   have P:0<s:=(HU L).resolve_right (Ne.symm Q);have V:0<s*(wth a b c-wth a b A):=by rw[<-y];exact HR f (Jq W)
   have S:0<wth a b c-wth a b A:=ID V P;have R:0<(d-s) *(wth a b c-wth a b A):=HR (Jq ((HU M).resolve_right N)) S
   have K:d*(wth a b B-wth a b c)=-((d-s) *(wth a b c-wth a b A)):=by
    have:d*(wth a b B-wth a b c)=d*(wth a b B-wth a b A)-d*(wth a b c-wth a b A):=by grind
    rw[this,y];grind
   have E:0<d*(wth a b B-wth a b c):=HR f (Jq T);rw[K]at E;exact absurd (Int.lt_of_lt_of_le E (Int.neg_nonpos_of_nonneg (Jp R))) (M7 _)
structure Lin(f:P2->P2)(d:Int):Prop where
 one:d=1\/d=-1
 ex:∃a b c e:Int,a*e-b*c=d/\∀p,f p=(a*p.1+b*p.2,c*p.1+e*p.2)
theorem Lin.det(L:Lin f d)(A B q):ah (f A) (f B) (f q)=d*ah A B q:=by
 obtain⟨a,b,c,e,h,k⟩:=L.ex;rw[k,k,k,<-h];unfold ah;grind
theorem vn(L:Lin f d)(A B):crs (f A,f B)=d*crs (A,B):=by
 obtain⟨a,b,c,e,h,k⟩:=L.ex;rw[k,k,<-h];unfold crs;grind
theorem oA(L:Lin f d)(x y):∃g i,∀p,wth g i (f p)=wth x y p:=by
 obtain⟨a,b,c,e,h,k⟩:=L.ex;refine⟨d*(x*e-y*c),d*(y*a-x*b),λp=>?_⟩;rw[k];have j:d*d=1:=by rcases L.one with z |z <;>rw[z] <;>rfl
 have:wth (d*(x*e-y*c)) (d*(y*a-x*b)) (a*p.1+b*p.2,c*p.1+e*p.2)=d*(a*e-b*c) *wth x y p:=by unfold wth;grind
 rw[this,h,j,Jj]
theorem Lin.inj(L:Lin f d)(e:f p=f q):p=q:=by
 obtain⟨x,y,h⟩:=oA L 1 0;obtain⟨g,i,a⟩:=oA L 0 1;have c:wth 1 0 p=wth 1 0 q:=by rw[<-h,<-h,e]
 have b:wth 0 1 p=wth 0 1 q:=by rw[<-a,<-a,e]
 unfold wth at c b;exact Ii (by lia) (by lia)
theorem t7(L:Lin f d)(h:wF l p):wF (l.map f) (f p):=by
 obtain⟨g,a,b,k⟩:=h;obtain⟨x,y,e⟩:=oA L a b;refine⟨HD g,x,y,λq j i=>?_⟩;obtain⟨r,c,rfl⟩:=GJ.mp j;rw[e,e];exact k r c λz=>i (by rw[z])
theorem zB(L:Lin f d)(j:p∈l)(h:wF (l.map f) (f p)):wF l p:=by
 obtain⟨_,a,b,k⟩:=h;obtain⟨u,v,w,z,_,c⟩:=L.ex;refine⟨j,a*u+b*w,a*v+b*z,λq i g=>?_⟩;have e:∀r,wth (a*u+b*w) (a*v+b*z) r=wth a b (f r):=λr=>by rw[c];unfold wth;grind
 rw[e,e];exact k (f q) (HD i) λz=>g (L.inj z)
theorem fK(L:Lin f d)(j:3<=(au l).length):3<=(au (l.map f)).length:=by
 have g:((au l).map f).Nodup:=Kb _ (λa b (h:a≠b) e=>h (L.inj e)) (ck l)
 have:=eJ g λx i=>by
  obtain⟨p,c,rfl⟩:=GJ.mp i;exact gV (t7 L (fo j c))
 rw[GD]at this;lia
theorem dJ(L:Lin f d)(b:3<=(au l).length)(x):x∈au (l.map f)↔∃p∈au l,f p=x:=by
 constructor
 .intro h;obtain⟨p,a,rfl⟩:=GJ.mp (bK _ x h);exact⟨p,gV (zB L a (fo (fK L b) h)),rfl⟩
 .rintro ⟨p,a,rfl⟩;exact gV (t7 L (fo b a))
noncomputable def sdf(f:P2->P2)(d:Int)(s:P2×P2):P2×P2:=if d=1 then (f s.1,f s.2) else (f s.2,f s.1)
theorem tL(L:Lin f d)(a:3<=(au l).length)(t):t∈sdl (au (l.map f))↔∃s∈sdl (au l),sdf f d s=t:=by
 have c:=fK L a;have n:∀A B q,ah B A q=-ah A B q:=λA B q=>by unfold ah;grind
 constructor
 .intro h;obtain⟨x,y⟩:=t;obtain⟨v,o,j,g⟩:=(iL c).mp h;obtain⟨A,k,rfl⟩:=(dJ L a x).mp v;obtain⟨B,m,rfl⟩:=(dJ L a y).mp o
  have i:∀q∈au l,0<=d*ah A B q:=λq b=>by
   have:=g (f q) ((dJ L a _).mpr ⟨q,b,rfl⟩)
   rwa [L.det]at this
  rcases L.one with z |z
  .refine⟨(A,B),(iL a).mpr ⟨k,m,λe=>j (by rw[e]),λq b=>?_⟩,by unfold sdf;rw[if_pos z]⟩;have:=i q b;rw[z]at this;lia
  .refine⟨(B,A),(iL a).mpr ⟨m,k,λe=>j (by rw[e]),λq b=>?_⟩,by unfold sdf;rw[if_neg (by lia)]⟩;have:=i q b;rw[n];rw[z]at this;lia
 .rintro ⟨⟨A,B⟩,u,rfl⟩;obtain⟨k,m,j,g⟩:=(iL a).mp u
  have i:∀q∈au (l.map f),0<=d*ah (f A) (f B) q:=λq b=>by
   obtain⟨p,r,rfl⟩:=(dJ L a q).mp b;have:=g p r;rw[L.det,<-RY,show d*d=1 by rcases L.one with z |z <;>rw[z] <;>rfl];lia
  unfold sdf;rcases L.one with z |z
  .rw[if_pos z];refine (iL c).mpr ⟨(dJ L a _).mpr ⟨A,k,rfl⟩,(dJ L a _).mpr ⟨B,m,rfl⟩,λe=>j (L.inj e),λq b=>?_⟩;have:=i q b;dsimp only;rw[z]at this;lia
  .rw[if_neg (by lia)];refine (iL c).mpr ⟨(dJ L a _).mpr ⟨B,m,rfl⟩,(dJ L a _).mpr ⟨A,k,rfl⟩,λe=>j (L.inj e.symm),λq b=>?_⟩;have:=i q b;dsimp only;rw[n];rw[z]at this;lia
theorem Aw(c:l.Nodup):(sdl l).Nodup:=by
 have h:((sdl l).map (·.1)).Nodup:=by rw[pF];exact c
 exact (Hy.mp h).imp λ{a b} k e=>k (by rw[e])
theorem Ca(L:Lin f d)(e:sdf f d s=sdf f d t):s=t:=by
 unfold sdf at e;split at e
 .exact Ii (L.inj (congrArg M6 e)) (L.inj (congrArg Pm e))
 .exact Ii (L.inj (congrArg Pm e)) (L.inj (congrArg M6 e))
theorem ui(L:Lin f d)(c:3<=(au l).length):NL (sdl (au (l.map f))) ((sdl (au l)).map (sdf f d)):=by
 refine (JA (Aw (ck _)) ?_).mpr λt=>?_
 .exact Kb _ (λa b (h:a≠b) e=>h (Ca L e)) (Aw (ck l))
 .rw[tL L c,GJ]
noncomputable def ub(s:P2×P2):Int:=(s.2.1-s.1.1)/gst s
noncomputable def vb(s:P2×P2):Int:=(s.2.2-s.1.2)/gst s
noncomputable def onS(s:P2×P2)(k:Int):P2:=(s.1.1+k*ub s,s.1.2+k*vb s)
theorem j6(s):s.2.1-s.1.1=gst s*ub s:=by
 unfold ub;have h:gst s ∣ s.2.1-s.1.1:=LS ..;rw[LN h]
theorem jR(s):s.2.2-s.1.2=gst s*vb s:=by
 unfold vb;have h:gst s ∣ s.2.2-s.1.2:=LG ..;rw[LN h]
theorem DD(h:s.1≠s.2):∃b a,Lvl s.1 s.2 (gst s) (ub s) (vb s) b a:=by
 have c:=kM h;obtain⟨b,a,G⟩:=k9 (s.2.1-s.1.1) (s.2.2-s.1.2);have d:=G.eq;refine⟨b,a,c,j6 s,jR s,?_⟩
 have e:gst s*(b*ub s+a*vb s)=gst s*1:=by
  rw[LU];have:gst s*(b*ub s+a*vb s)=b*(gst s*ub s)+a*(gst s*vb s):=by grind
  rw[this,<-j6,<-jR];exact d
 exact H_ (by lia) e
theorem BW(h:s.1≠s.2)(c:ah s.1 s.2 p=0):∃k,p=onS s k:=by
 obtain⟨b,a,L⟩:=DD h
 have z:ty s.1 p (ub s) (vb s)=0:=by
  rw[L.area]at c;exact (HA.mp c).resolve_left (by have:=L.g0;lia)
 obtain⟨d,e⟩:=L.back p;refine⟨tx s.1 p b a,Ii ?_ ?_⟩
 .show p.1=s.1.1+tx s.1 p b a*ub s;grind
 .show p.2=s.1.2+tx s.1 p b a*vb s;grind
theorem Dr(s)(k)(X Y):gst s*ah X Y (onS s k)=(gst s-k) *ah X Y s.1+k*ah X Y s.2:=by
 have c:=j6 s;have d:=jR s;have b:s.2.1=s.1.1+gst s*ub s:=by lia
 have a:s.2.2=s.1.2+gst s*vb s:=by lia
 unfold onS ah;rw[b,a];grind
theorem fB{a b:Int}(c:0<a)(h:0<=a*b):0<=b:=by
 rcases Ig b 0 with z |z
 .have:=HR c (show 0 < -b by lia);have e:a* -b=-(a*b):=by grind
  lia
 .exact z
theorem xD{a b x y c d:Int}(e:a=c-x)(f:b=d-y):(x<c\/(x=c/\y<=d))↔(0<a\/(a=0/\0<=b)):=by
 subst e;subst f;exact or_congr Int.sub_pos.symm (and_congr ⟨λh=>by rw[h,Pg],λh=>(IS h).symm⟩ RE.symm)
theorem i6(h:ST.ltP A B=true):(ah A B p=0/\ST.leP A p=true/\ST.leP p B=true)↔∃k,0<=k/\k<=gst (A,B)/\p=onS (A,B) k:=by
 have l:(A,B).1≠(A,B).2:=λe=>by
  dsimp only at e;subst e;unfold ST.ltP at h;simp at h
 have f:=kM l;have c:=j6 (A,B);have j:=jR (A,B);dsimp only at c j;unfold ST.ltP at h;have h:=of_decide_eq_true h
 have i:0<ub (A,B)\/(ub (A,B)=0/\0<vb (A,B)):=by
  rcases h with z |⟨z,w⟩
  .exact .inl (ID (by rw[<-c];exact Jq z) f)
  .rw[z,Pg]at c;exact .inr ⟨(HA.mp c.symm).resolve_left (Jz f),ID (by rw[<-j];exact Jq w) f⟩
 have sg:∀k:Int,(ST.leP A (onS (A,B) k)=true↔0<=k)/\(ST.leP (onS (A,B) k) B=true↔k<=gst (A,B)):=λk=>by
  have r:∀m:Int,(0<m*ub (A,B)\/(m*ub (A,B)=0/\0<=m*vb (A,B)))↔0<=m:=λm=>by
   rcases i with u |⟨u,v⟩
   .constructor
    .rintro (z |⟨z,_⟩)
     .exact Jp (Int.pos_of_mul_pos_left z u)
     .exact Lu ((HA.mp z).resolve_right (Jz u)).symm
    .intro g;rcases HU g with z |z
     .left;exact HR z u
     .right;rw[<-z];simp
   .rw[u,IJ];constructor
    .rintro (z |⟨_,z⟩)
     .exact absurd z (M7 _)
     .rw[J3]at z;exact fB v z
    .intro g;exact .inr ⟨rfl,Hh g (Jp v)⟩
  have q:(gst (A,B)-k) *ub (A,B)=B.1-(A.1+k*ub (A,B)):=by rw[Rj,<-c,Sw]
  have s:(gst (A,B)-k) *vb (A,B)=B.2-(A.2+k*vb (A,B)):=by rw[Rj,<-j,Sw]
  unfold ST.leP onS;rw[decide_eq_true_eq,decide_eq_true_eq];exact⟨(xD (by dsimp only;rw[Sf,Qi]) (by dsimp only;rw[Sf,Qi])).trans (r k),((xD q s).trans (r _)).trans RE⟩
 constructor
 .rintro ⟨d,a,b⟩;obtain⟨k,rfl⟩:=BW l d;exact⟨k,(sg k).1.mp a,(sg k).2.mp b,rfl⟩
 .rintro ⟨k,n,t,rfl⟩;refine⟨?_,(sg k).1.mpr n,(sg k).2.mpr t⟩;have m:=Dr (A,B) k A B;have x:ah A B A=0:=by unfold ah;grind
  have o:ah A B B=0:=by unfold ah;grind
  dsimp only at m;rw[x,o,IJ,IJ,Sg]at m;exact (HA.mp m).resolve_left (Jz f)
theorem AQ(h:a*e-b*c=1\/a*e-b*c=-1):Kz (a*x+b*y) (c*x+e*y)=Kz x y:=by
 apply Nat.dvd_antisymm
 .have f:((Kz (a*x+b*y) (c*x+e*y)):Int) ∣ a*x+b*y:=LS ..;have d:((Kz (a*x+b*y) (c*x+e*y)):Int) ∣ c*x+e*y:=LG ..;generalize Kz (a*x+b*y) (c*x+e*y)=g at *
  have l:(g:Int) ∣ (a*e-b*c) *x:=by
   have:(a*e-b*c) *x=e*(a*x+b*y)-b*(c*x+e*y):=by grind
   rw[this];exact Nh (HS f (HX ..)) (HS d (HX ..))
  have j:(g:Int) ∣ (a*e-b*c) *y:=by
   have:(a*e-b*c) *y=a*(c*x+e*y)-c*(a*x+b*y):=by grind
   rw[this];exact Nh (HS d (HX ..)) (HS f (HX ..))
  have i:∀z,(g:Int) ∣ (a*e-b*c) *z->(g:Int) ∣ z:=λz k=>by
   rcases h with w |w <;>rw[w]at k
   .rwa [Jj]at k
   .rw[Int.neg_one_mul]at k;exact N_.mp k
  exact RZ.mp (Pc (i x l) (i y j))
 .have f:((Kz x y):Int) ∣ x:=LS ..;have d:((Kz x y):Int) ∣ y:=LG ..;exact RZ.mp (Pc (Ls (HS f (HX ..)) (HS d (HX ..))) (Ls (HS f (HX ..)) (HS d (HX ..))))
theorem fI(A B):gst (B,A)=gst (A,B):=by
 unfold gst;rw[show A.1-B.1=-(B.1-A.1) by lia,show A.2-B.2=-(B.2-A.2) by lia,Int.gcd_neg,Int.neg_gcd]
theorem uM(L:Lin f d)(s):gst (sdf f d s)=gst s:=by
 obtain⟨A,B⟩:=s
 have g:gst (f A,f B)=gst (A,B):=by
  obtain⟨a,b,c,e,h,k⟩:=L.ex;unfold gst;rw[k,k];rw[show a*B.1+b*B.2-(a*A.1+b*A.2)=a*(B.1-A.1)+b*(B.2-A.2) by grind,show c*B.1+e*B.2-(c*A.1+e*A.2)=c*(B.1-A.1)+e*(B.2-A.2) by grind];rw[AQ (by rw[h];exact L.one)]
 unfold sdf;split
 .exact g
 .exact (fI _ _).trans g
theorem Bc(L:Lin f d)(s):crs (sdf f d s)=crs s:=by
 unfold sdf;rcases L.one with z |z
 .rw[if_pos z,vn L];rw[z];exact Jj _
 .rw[if_neg (by lia),vn L,z];unfold crs;grind
theorem rq{l m:List Int}(h:NL l m):l.sum=m.sum:=by
 induction h with
 |nil=>rfl
 |cons _ _ b=>rw[Je,Je,b]
 |swap=>simp only[Je];lia
 |trans _ _ c a=>exact c.trans a
theorem By(L:Lin f d)(a:3<=(au l).length):iK (au (l.map f))=iK (au l):=by
 unfold iK;rw[rq ((ui L a).map gst),Ho];exact congrArg SD (Kf λs _=>uM L s)
theorem w_(L:Lin f d)(a:3<=(au l).length):area (au (l.map f))=area (au l):=by
 unfold area;rw[rq ((ui L a).map crs),Ho];exact congrArg SD (Kf λs _=>Bc L s)
theorem uU(l):sdl l=List.zip l (l.drop 1++l.take 1):=by
 have c:=pF l;have a:=t6 l
 have:sdl l=List.zip ((sdl l).map (·.1)) ((sdl l).map (·.2)):=by
  generalize sdl l=s
  induction s with
  |nil=>rfl
  |cons x r b=>simp only[G_,Ks];rw[<-b]
 rw[c,a]at this;exact this
theorem eQ{i:Nat}(e:k=(i:Int))(h:i<l.length):atI (l.map pu) k=some (pu (gp l i)):=zn e (by rw[GN,eB h];rfl)
theorem Szp.mono(h:Szp m p)(a:m<=n):Szp n p:=⟨h.1.mono a,h.2.mono a⟩
theorem A0(Z P B q)(a b):ah Z P B*(wth a b q-wth a b P)=-(ah P B q*(wth a b P-wth a b Z))-ah Z P q*(wth a b P-wth a b B):=by unfold ah wth;grind
theorem vy(f:3<=(au l).length)(a b):∃Z P B,(Z,P)∈sdl (au l)/\(P,B)∈sdl (au l)/\0<ah Z P B/\wth a b P=hiW a b (au l)/\wth a b Z<=wth a b P/\wth a b B<=wth a b P:=by
 obtain⟨⟨P,h,e⟩,k⟩:=tS a b (l:=au l) (λz=>by rw[z]at f;simp at f);obtain⟨Z,c⟩:=y6 h;obtain⟨B,g,d⟩:=kK f c;refine⟨Z,P,B,c,g,d,e,?_,?_⟩
 .rw[e];exact k Z (cP c).1
 .rw[e];exact k B (cP g).2
theorem FD(i:3<=(au l).length)(a b)(d:∀s∈sdl (au l),0<=ah s.1 s.2 q):wth a b q<=hiW a b (au l):=by
 obtain⟨Z,P,B,f,g,c,e,n,j⟩:=vy i a b;rw[<-e];have o:0<=ah P B q*(wth a b P-wth a b Z):=Hh (d _ g) (by lia);have m:0<=ah Z P q*(wth a b P-wth a b B):=Hh (d _ f) (by lia);have k:=A0 Z P B q a b;rcases Ig (wth a b P) (wth a b q) with h |h
 .have:=HR c (show 0<wth a b q-wth a b P by lia);lia
 .exact h
def inn(l:List P2)(p:P2):Prop:=∀s∈sdl l,0<ah s.1 s.2 p
noncomputable def kc(l:List P2):Int:=if l.length<3 then gst (gp l 0,gp l (l.length-1))+1 else iK l
noncomputable def qA(a:Int)(n:Nat):List Int:=(HI n).map λ(i:Nat)=>a+(i:Int)
noncomputable def BY(x:Int)(n:Nat)(y:Int)(m:Nat):List P2:=((qA x n).map λa=>(qA y m).map λb=>(a,b)).flatten
theorem fH:x∈qA a n↔a<=x/\x<a+n:=by
 unfold qA;rw[GJ];constructor
 .rintro ⟨i,b,rfl⟩;have:=Hq.mp b;lia
 .rintro ⟨d,c⟩;exact⟨(x-a).toNat,Hq.mpr (by lia),by lia⟩
theorem o0(a)(n):(qA a n).Nodup:=by
 exact Kb _ (λi j (h:i≠j) e=>h (by lia)) QO
theorem xL:p∈BY x n y m↔(x<=p.1/\p.1<x+n)/\y<=p.2/\p.2<y+m:=by
 unfold BY;rw[QY];constructor
 .rintro ⟨q,g,e⟩;obtain⟨a,c,rfl⟩:=GJ.mp g;obtain⟨b,h,rfl⟩:=GJ.mp e;exact⟨fH.mp c,fH.mp h⟩
 .rintro ⟨f,d⟩;exact⟨_,GJ.mpr ⟨p.1,fH.mpr f,rfl⟩,GJ.mpr ⟨p.2,fH.mpr d,rfl⟩⟩
theorem B7(x)(n)(y)(m):(BY x n y m).Nodup:=by
 refine List.pairwise_flatten.mpr ⟨λq c=>?_,?_⟩
 .obtain⟨a,_,rfl⟩:=GJ.mp c;exact Kb _ (λi j (h:i≠j) e=>h (congrArg Pm e)) (o0 y m)
 .refine Hy.mpr ((o0 x n).imp λ{a b} h p d q c e=>?_);obtain⟨_,_,rfl⟩:=GJ.mp d;obtain⟨_,_,rfl⟩:=GJ.mp c;exact h (congrArg M6 e)
noncomputable def loX(l:List P2):Int:=jM (l.map (·.1))
noncomputable def hiX(l:List P2):Int:=hiL (l.map (·.1))
noncomputable def loY(l:List P2):Int:=jM (l.map (·.2))
noncomputable def hiY(l:List P2):Int:=hiL (l.map (·.2))
theorem cV(h:l≠[]):hiL l∈l/\∀a∈l,a<=hiL l:=by
 cases l with
 |nil=>exact absurd rfl h
 |cons a l=>exact⟨fF l a,gr l a⟩
noncomputable def bxN(l:List P2):Nat:=(hiX l+1-loX l).toNat
noncomputable def byN(l:List P2):Nat:=(hiY l+1-loY l).toNat
noncomputable def box(l:List P2):List P2:=BY (loX l) (bxN l) (loY l) (byN l)
theorem Fj(a b x:Int):a<=x/\x<a+((b+1-a).toNat:Int)↔a<=x/\x<=b:=by omega
theorem dI(a:l≠[]):p∈box l↔(loX l<=p.1/\p.1<=hiX l)/\loY l<=p.2/\p.2<=hiY l:=by
 unfold box bxN byN;rw[xL,Fj,Fj]
theorem sH{A B:List P2}(a:A.Nodup)(b:B.Nodup)(h:∀p,p∈A↔p∈B):A.length=B.length:=((JA a b).mpr h).length_eq
theorem At(f:3<=(au l).length)(h:∀s∈sdl (au l),0<=ah s.1 s.2 p):p∈box (au l):=by
 have d:au l≠[]:=λz=>by rw[z]at f;simp at f
 have c:∀a b,∃q∈au l,wth a b p<=wth a b q:=λa b=>by
  obtain⟨⟨q,w,e⟩,_⟩:=tS a b d;exact⟨q,w,by rw[e];exact FD f a b h⟩
 have i:(au l).map (·.1)≠[]:=by simpa using d
 have g:(au l).map (·.2)≠[]:=by simpa using d
 obtain⟨n,o,y⟩:=c 1 0;obtain⟨j,v,x⟩:=c (-1) 0;obtain⟨k,A,r⟩:=c 0 1;obtain⟨t,u,m⟩:=c 0 (-1);have D:=(cV i).2 n.1 (HD o);have B:=(bV i).2 j.1 (HD v);have C:=(cV g).2 k.2 (HD A);have E:=(bV g).2 t.2 (HD u);unfold wth at y x r m;rw[dI d];unfold loX hiX loY hiY;lia
theorem AY(A):box [A]=[A]:=by
 have h:∀p,p∈box [A]↔p∈[A]:=λp=>by
  rw[dI (by simp),GL];unfold loX hiX loY hiY jM hiL;simp only[G_,KY,List.foldl_nil];constructor
  .intro h;exact Ii (by lia) (by lia)
  .rintro rfl;lia
 have a:=(JA (B7 _ _ _ _) (by simp:[A].Nodup)).mpr h;exact List.perm_singleton.mp a
theorem CP{w v x y:Int}(b:0<w)(a:0<=v)(e:w*y=v*x)(d:0<=x)(c:0<=w-x):0<=y/\0<=v-y:=
 ⟨fB b (by rw[e];exact Hh a d),fB b (by rw[Sx,e,J3 w v,<-Sx];exact Hh a c)⟩
theorem E7{b a g d j c:Int}(l:b<g)(e:(g-b) *(c-a)=(d-a) *(j-b))(k:b<=j)(m:j<=g):(a<=c/\c<=d)\/(d<=c/\c<=a):=by
 have f:=Pw k;have i:0<=g-b-(j-b):=by omega
 have w:=Jq l;rcases Pd a d with h |h
 .have:=CP w (Pw h) e f i;clear e f i w k m l;omega
 .have:=CP (v:=-(d-a)) (y:=-(c-a)) w (by omega) (by rw[Oa,Int.neg_mul,e]) f i;clear e f i w k m l;omega
theorem vh{c f g l b j:Int}(m:c<g\/(c=g/\f<l))(d:(g-c) *(j-f)=(l-f) *(b-c)):((c<=b/\b<=g)/\min f l<=j/\j<=max f l)↔(c<b\/(c=b/\f<=j))/\(b<g\/(b=g/\j<=l)):=by
 rcases m with w |⟨rfl,w⟩
 .constructor
  .rintro ⟨⟨h,a⟩,-⟩;refine⟨(HU h).imp id λe=>⟨e,?_⟩,(HU a).imp id λe=>⟨e,?_⟩⟩
   .rw[<-e,Pg,IJ]at d;exact Lu (IS ((HA.mp d).resolve_left (Jz (Jq w)))).symm
   .rw[e,J3]at d;exact Pv (by have:=Int.eq_of_mul_eq_mul_right (Jz (Jq w)) d;clear d;omega)
  .rintro ⟨h,a⟩;have h:=h.elim Jp λh=>Lu h.1;have a:=a.elim Jp λh=>Lu h.1;refine⟨⟨h,a⟩,?_⟩;rcases E7 w d h a with ⟨k,i⟩ |⟨k,i⟩
   .exact⟨JQ (Int.min_le_left ..) k,JQ i (Int.le_max_right ..)⟩
   .exact⟨JQ (Int.min_le_right ..) k,JQ i (Int.le_max_left ..)⟩
 .rw[Pe (Jp w),Ou (Jp w)];clear d;constructor
  .rintro ⟨⟨h,a⟩,k,i⟩;exact⟨.inr ⟨Ph h a,k⟩,.inr ⟨Ph a h,i⟩⟩
  .rintro ⟨h |h,a |a⟩
   .exact absurd (Int.lt_trans h a) (M7 _)
   .exact absurd h (a.1 ▸ M7 _)
   .exact absurd a (h.1 ▸ M7 _)
   .exact⟨⟨Lu h.1,Lu a.1⟩,h.2,a.2⟩
theorem Bs(h:ST.ltP A B=true):(p∈box [A,B]/\ah A B p=0)↔∃k,0<=k/\k<=gst (A,B)/\p=onS (A,B) k:=by
 rw[<-i6 h,dI (by simp)];have lt:=of_decide_eq_true h;have a:loX [A,B]=A.1:=Pe (lt.elim Jp λh=>Lu h.1);have c:hiX [A,B]=B.1:=Ou (lt.elim Jp λh=>Lu h.1);rw[a,c,show loY [A,B]=min A.2 B.2 from rfl,show hiY [A,B]=max A.2 B.2 from rfl];unfold ST.leP;rw[decide_eq_true_eq,decide_eq_true_eq];constructor
 .exact λ⟨b,d⟩=>⟨d,(vh lt (IS d)).mp b⟩
 .exact λ⟨d,b⟩=>⟨(vh lt (IS d)).mpr b,d⟩
theorem tY(A B):sdl [A,B]=[(A,B),(B,A)]:=by
 unfold sdl nxt;simp[KU]
theorem wp(h:au [A,B]=[A,B]):ST.ltP A B=true:=by
 have i:[A,B].Nodup:=by rw[<-h];exact ck _
 have g:A≠B:=by simpa using i
 have d:=ST.srt_asc [A,B];have f:=λz=>ST.srt_mem z [A,B]
 match e:ST.srt [A,B],d,f with
 |[],_,f=>have:=(f A).mpr (by simp);simp at this
 |[X],_,f=>
  have a:=(f A).mpr (by simp);have b:=(f B).mpr (by simp);rw[GL]at a b;exact absurd (a.trans b.symm) g
 |X::Y::[],d,_=>
  have c:au [A,B]=[X,Y]:=by unfold au;rw[e];simp[ao,bg]
  rw[h]at c;injection c with c1 c2
  injection c2 with c2 _;subst c1 c2;exact (Hl.mp d).1 _ (by simp)
 |X::Y::Z::r,_,_=>
  have:=ST.srt_len [A,B];rw[e]at this;simp at this
noncomputable def dY(l:List P2):Int:=pin l+kc l
noncomputable def TP:List P2->Prop
 |[]=>True
 |a::v=>(v.Pairwise λx y=>0<ah a x y)/\TP v
theorem iR(f)(l):sdl (l.map f)=(sdl l).map λs=>(f s.1,f s.2):=by
 rw[uU,uU,<-RV,<-RU,<-Hz];generalize l.drop 1++l.take 1=m
 induction l generalizing m with
 |nil=>rfl
 |cons a l c=>
  cases m with
  |nil=>simp
  |cons b m=>simp only[G_,Ks];rw[c]
theorem nA(d:l≠[]):au (l.map (scl 0))=[(0,0)]:=by
 have c:l.map (scl 0)≠[]:=by simpa using d
 have b:∀q∈l.map (scl 0),q=(0,0):=λq f=>by
  obtain⟨p,_,rfl⟩:=GJ.mp f;unfold scl;simp
 have:ST.srt (l.map (scl 0))=ST.srt [(0,0)]:=jG λz=>by
  rw[GL];constructor
  .exact b z
  .rintro rfl;obtain⟨a,r,e⟩:=Nn c;rw[e];have:=b a (by rw[e];simp);rw[this];simp
 rw[mt this];rfl
theorem zT(a b):crs (a,b)+crs (b,a)=0:=by unfold crs;grind
theorem ot(h:ST.ltP a b=true):au [a,b]=[a,b]:=by
 have e:ST.srt [a,b]=[a,b]:=ST.asc_srt (by simp[ST.Asc,h]);unfold au;rw[e];simp[ao,bg]
theorem uS(l m:List Int):(l++m).sum=l.sum+m.sum:=by
 induction l with
 |nil=>simp
 |cons a l b=>rw[Ov,Je,b,Je];lia
noncomputable def b9(l:List P2)(p:P2):Bool:=if l.length=1 then decide (p=gp l 0) else if l.length=2 then (decide (ah (gp l 0) (gp l 1) p=0) && (ST.leP (gp l 0) p && ST.leP p (gp l 1))) else (sdl l).all λs=>decide (0<=ah s.1 s.2 p)
theorem dG(a:3<=l.length)(p):b9 l p=true↔∀s∈sdl l,0<=ah s.1 s.2 p:=by
 unfold b9;rw[if_neg (by lia),if_neg (by lia),K_];simp only[decide_eq_true_eq]
theorem dC(A B p):b9 [A,B] p=true↔ah A B p=0/\ST.leP A p=true/\ST.leP p B=true:=by
 unfold b9;rw[if_neg (by simp),if_pos (by simp),Ic,Ic,decide_eq_true_eq];rfl
theorem fD(A p):b9 [A] p=true↔p=A:=by
 unfold b9;rw[if_pos (by simp),decide_eq_true_eq];rfl
theorem FI(h:ST.ltP A B=true):A.1<B.1\/(A.1=B.1/\A.2<B.2):=by
 exact of_decide_eq_true h
theorem y8(h:ST.ltP A B=true):loX [A,B]=A.1/\hiX [A,B]=B.1/\loY [A,B]=min A.2 B.2/\hiY [A,B]=max A.2 B.2:=by
 have:=FI h;exact⟨(by show min A.1 B.1=A.1;lia),(by show max A.1 B.1=B.1;lia),rfl,rfl⟩
theorem Bk(h:ST.ltP A B=true)(a:b9 [A,B] p=true):p∈box [A,B]:=by
 have:=(dC A B p).mp a;exact ((Bs h).mpr ((i6 h).mp this)).1
structure Fld(l:List P2):Prop where
 ne:l≠[]
 cr:au l=l
theorem Fld.cases(F:Fld l):(∃A,l=[A])\/(∃A B,l=[A,B]/\ST.ltP A B=true)\/3<=(au l).length:=by
 match l,F with
 |[],F=>exact absurd rfl F.ne
 |[A],_=>exact .inl ⟨A,rfl⟩
 |[A,B],F=>exact .inr (.inl ⟨A,B,rfl,wp F.cr⟩)
 |A::B::C::r,F=>exact .inr (.inr (by rw[F.cr];simp))
theorem Fld.in_box(F:Fld l)(h:b9 l p=true):p∈box l:=by
 rcases F.cases with ⟨A,rfl⟩ |⟨A,B,rfl,lt⟩ |a
 .rw[(fD A p).mp h,AY];simp
 .exact Bk lt h
 .rw[<-F.cr]at h |-;exact At a ((dG a p).mp h)
noncomputable def shf(s a b:Int)(p:P2):P2:=(p.1+a,p.2+s*p.1+b)
theorem Bf(s a b)(p q)(h:plt p q):plt (shf s a b p) (shf s a b q):=by
 unfold plt shf at *;rcases h with h |⟨h,k⟩
 .left;lia
 .right;rw[h];lia
theorem oG(s a b)(p q r):ah (shf s a b p) (shf s a b q) (shf s a b r)=ah p q r:=by unfold ah shf;grind
theorem BU(e:shf s a b p=shf s a b q):p=q:=by
 have c:p.1+a=q.1+a:=congrArg M6 e;have d:p.2+s*p.1+b=q.2+s*q.1+b:=congrArg Pm e;have c:p.1=q.1:=by lia
 rw[c]at d;exact Ii c (by lia)
theorem kN(s a b)(l):au (l.map (shf s a b))=(au l).map (shf s a b):=fQ (Bf s a b) (λp q r=>by rw[oG]) l
theorem uZ(s a b)(p q):ST.leP (shf s a b p) (shf s a b q)=ST.leP p q:=by
 unfold ST.leP shf;rw[Li,decide_eq_true_eq,decide_eq_true_eq];constructor
 .rintro (h |⟨h,k⟩)
  .left;lia
  .right
   have:p.1=q.1:=by lia
   rw[this]at k;lia
 .rintro (h |⟨h,k⟩)
  .left;lia
  .right;rw[h];lia
theorem rL{l:List P2}(h:i<l.length):gp (l.map f) i=f (gp l i):=by simp[gp,h]
theorem DI(s a b)(l)(g:l≠[])(p):b9 (l.map (shf s a b)) (shf s a b p)=b9 l p:=by
 have f:=Hx.mpr g;unfold b9;rw[GD];by_cases d:l.length=1
 .rw[if_pos d,if_pos d,rL f];exact decide_eq_decide.mpr ⟨BU,λe=>by rw[e]⟩
 .rw[if_neg d,if_neg d];by_cases c:l.length=2
  .rw[if_pos c,if_pos c,rL f,rL (show 1<l.length by lia),oG,uZ,uZ]
  .rw[if_neg c,if_neg c,iR,R9];congr 1
   funext t
   show decide (0<=ah (shf s a b t.1) (shf s a b t.2) (shf s a b p))=_;rw[oG]
theorem v5(r:pts≠[]):∃g d,(au pts)[0]?=some g/\g∈pts/\d∈pts/\(∀q∈pts,ST.ltP q g=false)/\(∀q∈pts,ST.ltP d q=false)/\(¬ 2<(au pts).length->(au pts)[(au pts).length-1]?=some d):=by
 have j:∀{a b},(a=b\/plt a b)->ST.ltP b a=false:=λ{a b} h=>by
  rw[ST.ltP_no];rcases h with rfl |h
  .lia
  .unfold plt at h;lia
 by_cases l:2<=(ST.srt pts).length
 .have p:=eE pts;obtain⟨g,d,W⟩:=Ft p l
  have n:au pts=(ao (ST.srt pts)).reverse.dropLast++(ao (ST.srt pts).reverse).reverse.dropLast:=by
   unfold au;rw[if_neg (by lia)]
  have o:=b7 _ _ (GY.mp (Hb W.t0));have f:=b7 _ _ (GY.mp (Hb W.t1));refine⟨g,d,?_,(ST.srt_mem _ _).mp o,(ST.srt_mem _ _).mp f,λq c=>j ((W.least q ((ST.srt_mem _ _).mpr c)).imp (λe=>e.symm) id),λq c=>j (W.most q ((ST.srt_mem _ _).mpr c)),λh=>?_⟩
  .have:=iO W (k:=0) (by lia);rw[Se]at this;rw[n,this];exact W.t0
  .rw[n]at h |-;have m:=W.lt;have t:=W.lb;have s:((ao (ST.srt pts)).reverse.dropLast++(ao (ST.srt pts).reverse).reverse.dropLast).length=(ao (ST.srt pts)).reverse.length-1+((ao (ST.srt pts).reverse).reverse.length-1):=by simp
   have:=iO W (GK _);rw[W.t1,HW (by lia)]at this
   rw[<-this];congr 1;lia
 .have m:(ST.srt pts).length=1:=by
   obtain⟨x,i⟩:=NB pts r;have:=Iy ((ST.srt_mem x pts).mpr i);lia
  obtain⟨x,i⟩:=JC.mp m;have all:∀q∈pts,q=x:=λq c=>by have:=(ST.srt_mem q pts).mpr c;rw[i]at this;simpa using this
  have d:x∈pts:=(ST.srt_mem _ _).mp (by rw[i];simp);rw[cW l,i];exact⟨x,x,rfl,d,d,λq c=>j (.inl (all q c).symm),λq c=>j (.inl (all q c)),λ_=>rfl⟩
theorem o3(L:Lin f d)(A B):gst (f A,f B)=gst (A,B):=by
 have:=uM L (A,B);unfold sdf at this;split at this
 .exact this
 .rw[<-fI];exact this
theorem yi(L:Lin f d)(h:A≠B)(k):onS (f A,f B) k=f (onS (A,B) k):=by
 have o:0<gst (A,B):=kM h;have j:=j6 (A,B);have l:=jR (A,B);have i:=o3 L A B;obtain⟨a,b,c,e,_,g⟩:=L.ex
 have m:ub (f A,f B)=a*ub (A,B)+b*vb (A,B):=by
  unfold ub;rw[i];rw[g,g]
  rw[show a*B.1+b*B.2-(a*A.1+b*A.2)=gst (A,B) *(a*ub (A,B)+b*vb (A,B)) by
   have:a*B.1+b*B.2-(a*A.1+b*A.2)=a*(B.1-A.1)+b*(B.2-A.2):=by grind
   rw[this,j,l];grind]
  rw[Jo _ (by omega)];rfl
 have n:vb (f A,f B)=c*ub (A,B)+e*vb (A,B):=by
  unfold vb;rw[i];rw[g,g]
  rw[show c*B.1+e*B.2-(c*A.1+e*A.2)=gst (A,B) *(c*ub (A,B)+e*vb (A,B)) by
   have:c*B.1+e*B.2-(c*A.1+e*A.2)=c*(B.1-A.1)+e*(B.2-A.2):=by grind
   rw[this,j,l];grind]
  rw[Jo _ (by omega)];rfl
 unfold onS;rw[m,n];rw[g,g];exact Ii (by dsimp only;grind) (by dsimp only;grind)
theorem Br(h:A≠B)(k):onS (B,A) k=onS (A,B) (gst (A,B)-k):=by
 have e:=j6 (A,B);have f:=jR (A,B);have b:=j6 (B,A);have c:=jR (B,A);have d:0<gst (A,B):=kM h;rw[fI]at b c;dsimp only at *;have u:ub (B,A)=-ub (A,B):=H_ (a:=gst (A,B)) (by lia) (by rw[Oa];lia)
 have v:vb (B,A)=-vb (A,B):=H_ (a:=gst (A,B)) (by lia) (by rw[Oa];lia);unfold onS;rw[u,v];exact Ii (by dsimp only;grind) (by dsimp only;grind)
def qo(A B p:P2):Prop:=∃k:Int,0<=k/\k<=gst (A,B)/\p=onS (A,B) k
theorem yG(h:A≠B)(p):qo B A p↔qo A B p:=by
 have a:∀{A B},A≠B->qo B A p->qo A B p:=λ{A B} h ⟨k,c,b,e⟩=>by
  rw[fI]at b;exact⟨gst (A,B)-k,by lia,by lia,by rw[e,Br h]⟩
 exact⟨a h,a h.symm⟩
theorem Ba(L:Lin f d)(h:A≠B)(p):qo (f A) (f B) (f p)↔qo A B p:=by
 unfold qo;rw[o3 L];constructor
 .rintro ⟨k,b,a,e⟩;exact⟨k,b,a,L.inj (by rw[e,yi L h])⟩
 .rintro ⟨k,b,a,e⟩;exact⟨k,b,a,by rw[e,yi L h]⟩
theorem r9(h:ST.ltP A B=true)(p):b9 [A,B] p=true↔qo A B p:=by rw[dC,i6 h];rfl
theorem iy(h:A≠B):(ST.ltP A B=true/\au [A,B]=[A,B])\/(ST.ltP B A=true/\au [A,B]=[B,A]):=by
 by_cases a:ST.ltP A B=true
 .exact .inl ⟨a,ot a⟩
 .have b:=ST.ltP_tot h (by simpa using a);refine .inr ⟨b,?_⟩;rw[mt (jG (m:=[B,A]) λz=>by simp[or_comm]),ot b]
theorem C_(L:Lin f d)(F:Fld l)(p):b9 (au (l.map f)) (f p)=b9 l p:=by
 rw[Li];rcases F.cases with ⟨A,rfl⟩ |⟨A,B,rfl,lt⟩ |c
 .have e:au ([A].map f)=[f A]:=rfl;rw[e,fD,fD];exact⟨λh=>L.inj h,λh=>by rw[h]⟩
 .have i:A≠B:=λe=>by rw[e,ST.asc_irr]at lt;cases lt
  have a:f A≠f B:=λe=>i (L.inj e);rw[r9 lt,<-Ba L i];show b9 (au [f A,f B]) (f p)=true↔_;rcases iy a with ⟨h,e⟩ |⟨h,e⟩
  .rw[e,r9 h]
  .rw[e,r9 h,yG a]
 .have j:=fK L c;have g:3<=l.length:=by rw[<-F.cr];exact c
  rw[dG j,dG g];constructor
  .intro h s b;have:=h _ ((tL L c _).mpr ⟨s,by rw[F.cr];exact b,rfl⟩);unfold sdf at this;rcases L.one with e |e
   .rw[if_pos e]at this;rw[L.det,e,Jj]at this;exact this
   .rw[if_neg (by lia)]at this
    rw[L.det,e]at this;have m:ah s.2 s.1 p=-ah s.1 s.2 p:=by unfold ah;grind
    lia
  .intro h t n;obtain⟨s,b,rfl⟩:=(tL L c t).mp n;have k:=h s (by rw[F.cr]at b;exact b);unfold sdf;rcases L.one with e |e
   .rw[if_pos e];rw[L.det,e,Jj];exact k
   .rw[if_neg (by lia)];rw[L.det,e];have m:ah s.2 s.1 p=-ah s.1 s.2 p:=by unfold ah;grind
    lia
theorem rZ(h:a*d-b*c=1\/a*d-b*c=-1):Lin (λp:P2=>(a*p.1+b*p.2,c*p.1+d*p.2)) (a*d-b*c):=⟨h,a,b,c,d,rfl,λ_=>rfl⟩
theorem lf(a b c d e f)(l:List P2):l.map (ap a b c d e f)=(l.map λp:P2=>(a*p.1+b*p.2,c*p.1+d*p.2)).map (shf 0 e f):=by
 rw[Ho];refine Kf λp _=>?_;unfold ap shf;exact Ii rfl (by dsimp only[Function.comp];lia)
theorem Ct(e f)(h:a*d-b*c=1\/a*d-b*c=-1)(F:Fld l)(p):b9 (au (l.map (ap a b c d e f))) (ap a b c d e f p)=b9 l p:=by
 rw[lf,kN]
 have g:ap a b c d e f p=shf 0 e f (a*p.1+b*p.2,c*p.1+d*p.2):=by
  unfold ap shf;exact Ii rfl (by dsimp only;lia)
 rw[g,DI _ _ _ _ (fg (by simpa using F.ne))];exact C_ (rZ h) F p
theorem yJ(e f)(F:Fld l):Fld (au (l.map (ap a b c d e f))):=⟨fg (by simpa using F.ne),fO _⟩
theorem Df(h:a*d-b*c=1\/a*d-b*c=-1)(q):∃p,ap a b c d e f p=q:=by
 rcases h with h |h
 .refine⟨(d*(q.1-e)-b*(q.2-f),a*(q.2-f)-c*(q.1-e)),?_⟩;unfold ap;refine Ii ?_ ?_
  .dsimp only;have:a*(d*(q.1-e)-b*(q.2-f))+b*(a*(q.2-f)-c*(q.1-e))=(a*d-b*c) *(q.1-e):=by grind
   rw[this,h];lia
  .dsimp only;have:c*(d*(q.1-e)-b*(q.2-f))+d*(a*(q.2-f)-c*(q.1-e))=(a*d-b*c) *(q.2-f):=by grind
   rw[this,h];lia
 .refine⟨(-(d*(q.1-e)-b*(q.2-f)),-(a*(q.2-f)-c*(q.1-e))),?_⟩;unfold ap;refine Ii ?_ ?_
  .dsimp only;have:a* -(d*(q.1-e)-b*(q.2-f))+b* -(a*(q.2-f)-c*(q.1-e))=-((a*d-b*c) *(q.1-e)):=by grind
   rw[this,h];lia
  .dsimp only;have:c* -(d*(q.1-e)-b*(q.2-f))+d* -(a*(q.2-f)-c*(q.1-e))=-((a*d-b*c) *(q.2-f)):=by grind
   rw[this,h];lia
noncomputable def kW(s:P2×P2)(y:Int):Int:=(s.2.1-s.1.1) *(y-s.1.2)
noncomputable def xq(y:Int)(s:P2×P2):Int:=s.1.1+kW s y/(s.2.2-s.1.2)
noncomputable def ze(y:Int)(s:P2×P2):Int:=s.1.1-kW s y / -(s.2.2-s.1.2)
noncomputable def dm(l:List P2)(a:List (P2×P2))(y:Int):List Int:=hiX l::(a.filter λs=>decide (0<s.2.2-s.1.2)).map (xq y)
noncomputable def dt(l:List P2)(a:List (P2×P2))(y:Int):List Int:=loX l::(a.filter λs=>decide (s.2.2-s.1.2<0)).map (ze y)
noncomputable def nq(l:List P2)(y:Int):Int:=jM (dm l (sdl l) y)
noncomputable def gA(l:List P2)(y:Int):Int:=hiL (dt l (sdl l) y)
theorem kw(s)(x y):ah s.1 s.2 (x,y)=kW s y-(s.2.2-s.1.2) *(x-s.1.1):=by unfold ah kW;grind
theorem t_(h:0<s.2.2-s.1.2):0<=ah s.1 s.2 (x,y)↔x<=xq y s:=by
 rw[kw];unfold xq;have k:x-s.1.1<=kW s y/(s.2.2-s.1.2)↔(x-s.1.1) *(s.2.2-s.1.2)<=kW s y:=OG h;rw[J3]at k;omega
theorem uL(h:s.2.2-s.1.2<0):0<=ah s.1 s.2 (x,y)↔ze y s<=x:=by
 rw[kw];unfold ze;have k:s.1.1-x<=kW s y / -(s.2.2-s.1.2)↔(s.1.1-x) * -(s.2.2-s.1.2)<=kW s y:=OG (by lia);have e:(s.1.1-x) * -(s.2.2-s.1.2)=(s.2.2-s.1.2) *(x-s.1.1):=by grind
 lia
theorem uJ:x<=jM (dm l ss y)↔x<=hiX l/\∀s∈ss,0<s.2.2-s.1.2->x<=xq y s:=by
 have ok:=bV (l:=dm l ss y) (by unfold dm;simp);constructor
 .intro h;refine⟨JQ h (ok.2 _ (by unfold dm;simp)),λs a b=>JQ h (ok.2 _ ?_)⟩;exact GG _ (HD (Im.mpr ⟨a,decide_eq_true b⟩))
 .rintro ⟨d,c⟩;have m:=ok.1;unfold dm at m;rcases GF.mp m with e |e
  .unfold dm;rw[e];exact d
  .obtain⟨s,a,f⟩:=GJ.mp e;obtain⟨a,b⟩:=Im.mp a;unfold dm;rw[<-f];exact c s a (of_decide_eq_true b)
theorem uD:hiL (dt l ss y)<=x↔loX l<=x/\∀s∈ss,s.2.2-s.1.2<0->ze y s<=x:=by
 have ok:=cV (l:=dt l ss y) (by unfold dt;simp);constructor
 .intro h;refine⟨JQ (ok.2 _ (by unfold dt;simp)) h,λs a b=>JQ (ok.2 _ ?_) h⟩;exact GG _ (HD (Im.mpr ⟨a,decide_eq_true b⟩))
 .rintro ⟨d,c⟩;have m:=ok.1;unfold dt at m;rcases GF.mp m with e |e
  .unfold dt;rw[e];exact d
  .obtain⟨s,a,f⟩:=GJ.mp e;obtain⟨a,b⟩:=Im.mp a;unfold dt;rw[<-f];exact c s a (of_decide_eq_true b)
theorem Ai(a:l≠[]):∃q∈l,q.2=loY l:=by
 obtain⟨q,b,e⟩:=GJ.mp (bV (by simpa using a)).1;exact⟨q,b,e⟩
theorem xj(a:l≠[]):∃q∈l,q.2=hiY l:=by
 obtain⟨q,b,e⟩:=GJ.mp (cV (by simpa using a)).1;exact⟨q,b,e⟩
theorem yS(F:Fld l)(i:3<=l.length)(B:loY l<=y)(C:y<=hiY l):b9 l (x,y)=true↔gA l y<=x/\x<=nq l y:=by
 have m:=F.cr;have o:3<=(au l).length:=by rw[m];exact i
 unfold gA nq;rw[uJ,uD];constructor
 .intro h;have d:=(dG i _).mp h;have b:=(dI F.ne).mp (F.in_box h);exact⟨⟨b.1.1,λs a g=>(uL g).mp (d s a)⟩,b.1.2,λs a g=>(t_ g).mp (d s a)⟩
 .rintro ⟨⟨_,p⟩,_,n⟩;refine (dG i _).mpr λs a=>?_;rcases Ig 0 (s.2.2-s.1.2) with z |z
  .exact (t_ z).mpr (n s a z)
  .rcases Ig (s.2.2-s.1.2) 0 with w |w
   .exact (uL w).mpr (p s a w)
   .have j:s.2.2-s.1.2=0:=by lia
    have f:∀q∈l,0<=(s.2.1-s.1.1) *(q.2-s.1.2):=λq e=>by
     have k:=dN o (by rw[m];exact a) q e;have:=kw s q.1 q.2;rw[j,Jn,Pi]at this;rw[<-show kW s q.2=(s.2.1-s.1.1) *(q.2-s.1.2) from rfl,<-this]
     exact k
    rw[kw,j,Jn,Pi];show 0<=(s.2.1-s.1.1) *(y-s.1.2);rcases Ig 0 (s.2.1-s.1.1) with u |u
    .obtain⟨q,e,r⟩:=Ai F.ne;have k:=JP (f q e) u;exact Hh (by lia) (by lia)
    .rcases Ig (s.2.1-s.1.1) 0 with v |v
     .obtain⟨q,e,r⟩:=xj F.ne;have c:=f q e;have t:(s.2.1-s.1.1) *(q.2-s.1.2)=(-(s.2.1-s.1.1)) *(s.1.2-q.2):=by grind
      rw[t]at c;have k:=JP c (by lia)
      have A:(s.2.1-s.1.1) *(y-s.1.2)=(-(s.2.1-s.1.1)) *(s.1.2-y):=by grind
      rw[A];exact Hh (by lia) (by lia)
     .rw[show s.2.1-s.1.1=0 by lia,Jn];exact MG _
theorem bD:ST.leP a b=true↔a.1<b.1\/(a.1=b.1/\a.2<=b.2):=by unfold ST.leP;exact decide_eq_true_iff
theorem zD(e:ST.ltP A B=true)(h:A.2=B.2)(f:y=A.2):b9 [A,B] (x,y)=true↔gA [A,B] y<=x/\x<=nq [A,B] y:=by
 obtain⟨g,i,_,_⟩:=y8 e;unfold gA nq;rw[uJ,uD,dC,tY,g,i];constructor
 .rintro ⟨_,d,c⟩;rw[bD]at d c;refine⟨⟨by lia,λs a b=>?_⟩,by lia,λs a b=>?_⟩
  .simp at a;rcases a with rfl |rfl <;>dsimp only at b <;>lia
  .simp at a;rcases a with rfl |rfl <;>dsimp only at b <;>lia
 .rintro ⟨⟨d,_⟩,c,_⟩;rw[bD,bD];refine⟨?_,by lia,by lia⟩;unfold ah;rw[f,<-h];grind
noncomputable def lC(l:List P2)(y:Int):List P2:=(qA (gA l y) (nq l y+1-gA l y).toNat).map λx=>(x,y)
noncomputable def eZ(l:List P2)(n:Nat):List P2:=((HI n).map λy:Nat=>lC l (0+(y:Int))).flatten
theorem fL:p∈lC l y↔p.2=y/\gA l y<=p.1/\p.1<=nq l y:=by
 unfold lC;rw[GJ];constructor
 .rintro ⟨x,b,rfl⟩;have:=fH.mp b;exact⟨rfl,by omega,by omega⟩
 .rintro ⟨e,a,c⟩;exact⟨p.1,fH.mpr ⟨a,by omega⟩,by rw[<-e]⟩
theorem eH:p∈eZ l n↔(0<=p.2/\p.2<n)/\gA l p.2<=p.1/\p.1<=nq l p.2:=by
 unfold eZ;rw[QY];constructor
 .rintro ⟨r,d,f⟩;obtain⟨y,c,rfl⟩:=GJ.mp d;have:=Hq.mp c;obtain⟨e,b,a⟩:=fL.mp f;rw[<-e]at b a;exact⟨by lia,b,a⟩
 .rintro ⟨g,b,a⟩;exact⟨_,GJ.mpr ⟨p.2.toNat,Hq.mpr (by lia),rfl⟩,fL.mpr ⟨by lia,by rw[show 0+(p.2.toNat:Int)=p.2 by lia];exact⟨b,a⟩⟩⟩
theorem uK(l)(y):(lC l y).Nodup:=Kb _ (λa b h e=>h (congrArg M6 e)) (o0 _ _)
theorem mG(l)(n):eZ l (n+1)=eZ l n++lC l (0+(n:Int)):=by
 unfold eZ;rw[KU,Hz,List.flatten_append];simp
theorem lR(l):∀n,(eZ l n).Nodup
 |0=>by unfold eZ;simp
 |n+1=>by
  rw[mG];refine JJ.mpr ⟨lR l n,uK l _,λa c b f e=>?_⟩;have h1:=eH.mp c;have d:=(fL.mp f).1;rw[<-e]at d;lia
structure Lev(l:List P2):Prop where
 F:Fld l
 y0:loY l=0
 two:l.length=2->hiY l=0
 ne1:2<=l.length
theorem kQ(L:Lev l)(p):p∈eZ l (hiY l+1).toNat↔b9 l p=true:=by
 obtain⟨q,f,k⟩:=Ai L.F.ne
 have m:0<=hiY l:=by
  have:=(cV (l:=l.map (·.2)) (by simpa using L.F.ne)).2 q.2 (HD f);have e:=L.y0;unfold hiY;lia
 rw[eH]
 have a:0<=p.2->p.2<=hiY l->(b9 l (p.1,p.2)=true↔gA l p.2<=p.1/\p.1<=nq l p.2):=λd c=>by
  rcases L.F.cases with ⟨A,rfl⟩ |⟨A,B,e,lt⟩ |g
  .have:=L.ne1;simp at this
  .subst e;obtain⟨_,_,j,i⟩:=y8 lt;have t:=L.two rfl;have n:=L.y0;exact zD lt (by lia) (by lia)
  .exact yS L.F (by rw[<-L.F.cr];exact g) (by rw[L.y0];exact d) c
 constructor
 .rintro ⟨d,c⟩;exact (a d.1 (by lia)).mpr c
 .intro h;have b:=(dI L.F.ne).mp (L.F.in_box h);rw[L.y0]at b;exact⟨by lia,(a b.2.1 b.2.2).mp h⟩
structure LvP(a b:P2)(g u v s t:Int):Prop where
 gp:0<g
 hu:g*u=b.1-a.1
 hv:g*v=b.2-a.2
 st:s*u+t*v=1
noncomputable abbrev lvF(a:P2)(u v s t:Int):P2->P2:=ap s t (-v) u (-s*a.1-t*a.2) (v*a.1-u*a.2)
noncomputable abbrev bkF(a:P2)(u v s t:Int):P2->P2:=ap u (-t) v s a.1 a.2
theorem ug(L:LvP a b g u v s t)(p):bkF a u v s t (lvF a u v s t p)=p/\lvF a u v s t (bkF a u v s t p)=p:=by
 have h:=L.st;unfold bkF lvF ap;refine⟨Ii ?_ ?_,Ii ?_ ?_⟩ <;>dsimp only
 .have:u*(s*p.1+t*p.2+(-s*a.1-t*a.2))+-t*(-v*p.1+u*p.2+(v*a.1-u*a.2))+a.1=(s*u+t*v) *p.1-(s*u+t*v) *a.1+a.1:=by grind
  rw[this,h];lia
 .have:v*(s*p.1+t*p.2+(-s*a.1-t*a.2))+s*(-v*p.1+u*p.2+(v*a.1-u*a.2))+a.2=(s*u+t*v) *p.2-(s*u+t*v) *a.2+a.2:=by grind
  rw[this,h];lia
 .have:s*(u*p.1+-t*p.2+a.1)+t*(v*p.1+s*p.2+a.2)+(-s*a.1-t*a.2)=(s*u+t*v) *p.1:=by grind
  rw[this,h];lia
 .have:-v*(u*p.1+-t*p.2+a.1)+u*(v*p.1+s*p.2+a.2)+(v*a.1-u*a.2)=(s*u+t*v) *p.2:=by grind
  rw[this,h];lia
theorem Ej(L:LvP a b g u v s t)(q):g*(lvF a u v s t q).2=ah a b q:=by
 unfold lvF ap ah;rw[<-L.hu,<-L.hv];grind
theorem zK(F:Fld l)(w:2<=l.length)(L:LvP (gp l 0) (gp l 1) g u v s t):Lev (au (l.map (lvF (gp l 0) u v s t))):=by
 have H:s*u-t* -v=1:=by have:=L.st;grind
 have C:=yJ (a:=s) (b:=t) (c:=-v) (d:=u) (-s*(gp l 0).1-t*(gp l 0).2) (v*(gp l 0).1-u*(gp l 0).2) F;have I:=L.gp;have m:lvF (gp l 0) u v s t (gp l 0)=(0,0):=by unfold lvF ap;refine Ii ?_ ?_ <;>dsimp only <;>grind
 have M:∀q∈l,0<=(lvF (gp l 0) u v s t q).2:=λq r=>by
  have e:=Ej L q
  have k:0<=ah (gp l 0) (gp l 1) q:=by
   rcases F.cases with ⟨A,rfl⟩ |⟨A,B,rfl,lt⟩ |h
   .simp at w
   .simp at r;rcases r with rfl |rfl
    .show 0<=ah q B q;unfold ah;grind
    .show 0<=ah A q q;unfold ah;grind
   .have R:3<=l.length:=by rw[<-F.cr];exact h
    have D:=vw (l:=l) (i:=0) (by lia);rw[show (0+1)%l.length=1 from HW (by lia)]at D
    exact dN h (by rw[F.cr];exact D) q r
  rw[<-e]at k;exact JP k I
 have E:gp l 0∈l:=bU (by lia)
 have Q:∀q∈au (l.map (lvF (gp l 0) u v s t)),0<=q.2:=λq r=>by
  obtain⟨p,K,rfl⟩:=GJ.mp (bK _ q r);exact M p K
 have len3:3<=l.length->3<=(au (l.map (lvF (gp l 0) u v s t))).length:=λh=>by
  rw[lf,kN,GD];exact fK (rZ (.inl H)) (by rw[F.cr];exact h)
 have two:∀A B,l=[A,B]->ST.ltP A B=true->au (l.map (lvF (gp l 0) u v s t))=[(0,0),(g,0)]:=λA B e lt=>by
  subst e
  have x:lvF A u v s t B=(g,0):=by
   have O:=L.hu;have N:=L.hv;have J:=L.st;have o:g*u=B.1-A.1:=O;have n:g*v=B.2-A.2:=N;unfold lvF ap;refine Ii ?_ ?_ <;>dsimp only
   .have:s*B.1+t*B.2+(-s*A.1-t*A.2)=s*(B.1-A.1)+t*(B.2-A.2):=by grind
    rw[this,<-o,<-n];have:s*(g*u)+t*(g*v)=g*(s*u+t*v):=by grind
    rw[this,J,LU]
   .have:-v*B.1+u*B.2+(v*A.1-u*A.2)=u*(B.2-A.2)-v*(B.1-A.1):=by grind
    rw[this,<-o,<-n];grind
  have j:lvF A u v s t A=(0,0):=m;show au [lvF A u v s t A,lvF A u v s t B]=_;rw[j,x];rcases iy (A:=(0,0)) (B:=(g,0)) (λe=>by have:=congrArg M6 e;dsimp only at this;lia) with ⟨_,e⟩ |⟨z,_⟩
  .exact e
  .have:=FI z;dsimp only at this;lia
 refine⟨C,?_,λe=>?_,?_⟩
 .obtain⟨c,P,k⟩:=qO 0 (-1) (HD (f:=lvF (gp l 0) u v s t) E);rw[m]at k;unfold wth at k;have ok:=bV (l:=(au (l.map (lvF (gp l 0) u v s t))).map (·.2)) (by simpa using C.ne)
  have le:=ok.2 c.2 (HD P);obtain⟨d,G,S⟩:=GJ.mp ok.1;have:=Q d G;unfold loY;lia
 .rcases F.cases with ⟨A,rfl⟩ |⟨A,B,y,lt⟩ |h
  .simp at w
  .rw[two A B y lt];rfl
  .have:=len3 (by rw[<-F.cr];exact h);lia
 .rcases F.cases with ⟨A,rfl⟩ |⟨A,B,y,lt⟩ |h
  .simp at w
  .rw[two A B y lt];exact GK _
  .have:=len3 (by rw[<-F.cr];exact h);lia
noncomputable def Ak(l:List P2)(u v s t:Int):List P2:=(eZ (au (l.map (lvF (gp l 0) u v s t))) (hiY (au (l.map (lvF (gp l 0) u v s t)))+1).toNat).map (bkF (gp l 0) u v s t)
theorem uw(F:Fld l)(b:2<=l.length)(L:LvP (gp l 0) (gp l 1) g u v s t)(p):p∈Ak l u v s t↔b9 l p=true:=by
 have d:s*u-t* -v=1:=by have:=L.st;grind
 have a:=λq=>Ct (-s*(gp l 0).1-t*(gp l 0).2) (v*(gp l 0).1-u*(gp l 0).2) (.inl d) F q;have V:=zK F b L;unfold Ak;rw[GJ];constructor
 .rintro ⟨q,c,rfl⟩;have k:=(kQ V q).mp c;rw[<-(ug L q).2]at k;rw[<-a];exact k
 .intro h;exact⟨lvF (gp l 0) u v s t p,(kQ V _).mpr (by rw[a];exact h),(ug L p).1⟩
theorem yx(L:LvP (gp l 0) (gp l 1) g u v s t):(Ak l u v s t).Nodup:=
 Kb _ (λa b h e=>h (by rw[<-(ug L a).2,<-(ug L b).2,e])) (lR _ _)
noncomputable def aX(l:List P2):List P2:=ST.srt ((box l).filter λp=>b9 l p)
theorem bo(F:Fld l)(p):p∈aX l↔b9 l p=true:=by
 unfold aX;rw[ST.srt_mem,Im];exact⟨λh=>h.2,λh=>⟨F.in_box h,h⟩⟩
theorem oB(F:Fld l)(h:∀p,p∈R↔b9 l p=true):ST.srt R=aX l:=by
 refine jG λp=>?_;rw[h,Im];exact⟨λk=>⟨F.in_box k,k⟩,λk=>k.2⟩
def zd:List U->Out->Prop:=λa o=>∃l:List P2,a=[lp l]/\0<l.length/\l.length<=900/\(∀p∈l,Szp 2500 p)/\o=.val (.int (kc l))
theorem Av:OkD P w base T.acf 4 (zd):=by
 refine okD sO (by walk_at"ln") ?_;rintro _ _ _ c ⟨l,rfl,b,p,sz,rfl⟩;have f:((l.map pu).length:Int)=(l.length:Int):=by rw[GD]
 unfold kc;by_cases o:l.length<3
 .rw[if_pos o];refine af (bR (aw d8 (aq (bu rfl) rfl T.aae G3 (ae (aa 0 rfl) ak ai)) ag) (by rw[f];exact decide_eq_true (by lia)) ?_);have m:=sz _ (bU b);have n:=sz _ (bU (l:=l) (i:=l.length-1) (by lia));obtain⟨d,a,G⟩:=k9 ((gp l (l.length-1)).1-(gp l 0).1) ((gp l (l.length-1)).2-(gp l 0).2);refine af (aR (bH (a_ (lW T) c (ae (ax (aa 0 rfl) ag rfl (Fk b)) (ae (ax (aa 0 rfl) (bT ag) rfl (uh b)) ak aK) aK) ⟨_,_,_,_,_,d,a,rfl,⟨m.1.mono (by decide),m.2.mono (by decide),n.1.mono (by decide),n.2.mono (by decide)⟩,G,rfl⟩) ag) ?_);exact rfl
 .rw[if_neg o];refine af (aU (aw d8 (aq (bu rfl) rfl T.aae G3 (ae (aa 0 rfl) ak ai)) ag) (by rw[f];exact decide_eq_false (by lia)) (aA ?_));refine af (aR (aq (my rfl ) rfl T.abU Q3 (ae (EvN.ev (cE (ys:=(((sdl l).map gst).map U.int)) rfl (blk (am xF) ["land","A","B"] [1,2] rfl rfl rfl rfl (by decide+kernel)) (EvI.z (bZ (EvN.ev (cT (gM T) c (ae (aa 0 rfl) ak ai) ⟨l,rfl,p,rfl⟩)) (.inl rfl))) (λ_ _ _ _=>dX rfl (aV (aT (i:=1) sO.nd rfl (Or.inl rfl)) (aV (aT (i:=2) sO.nd rfl (Or.inl rfl)) cF))) (df (js:=[1,2]) (by decide)) ?clen ?csz ?dom ?celt)) ak cH)) ?_)
  case clen=>simp
  case csz=>simp only[fi,GD];exact Hd (aE (by lia))
  case dom=>
   intro x e;obtain⟨s,_,rfl⟩:=GJ.mp e;exact⟨_,rfl,rfl⟩
  case celt=>
   intro C u t r j x y e h;rw[Ho]at h;obtain⟨s,v,q,rfl,rfl⟩:=di e h;obtain⟨g,k⟩:=cP q;obtain⟨d,a,G⟩:=k9 (s.2.1-s.1.1) (s.2.2-s.1.2);exact (a_ (lW T) c (ae (aa 1 rfl) (ae (aa 2 rfl) ak ai) ai) ⟨_,_,_,_,_,d,a,rfl,⟨(sz _ g).1.mono (by decide),(sz _ g).2.mono (by decide),(sz _ k).1.mono (by decide),(sz _ k).2.mono (by decide)⟩,G,rfl⟩)
  exact rfl
theorem o7(a:Sz n k)(s:Szp m p):Szp (n+m) (scl k p):=⟨L2.Sz.mul a s.1,L2.Sz.mul a s.2⟩
def v7:List U->Out->Prop:=λb o=>∃(a:List P2) (k:Int),b=[lp a,.int k]/\Sz 1000 k/\(∀p∈a,Szp 3000 p)/\a≠[]/\a.length<64/\o=.new ((au (a.map (scl k))).map pu)
theorem kJ:OkD P w base T.ace 5 (v7):=by
 refine okD vD (by walk_at"ln") ?_;rintro _ _ _ f ⟨a,k,rfl,h,sz,l,d,rfl⟩;refine af (cx (cT (lN T) f (ae (EvN.ev (cE (ys:=(a.map λp=>pu (scl k p))) rfl (blk (am rO) ["land","k","P"] [2] rfl rfl rfl rfl (by decide+kernel)) (EvI.z (bZ (aa 0 rfl) (.inl rfl))) (λ_ _ _ _=>aT (i:=2) vD.nd rfl (Or.inl rfl)) (fS (by decide)) ?clen ?csz (λ_ _=>trivial) ?celt)) ak cH) ⟨a.map (scl k),by rw[lp,Ho];rfl,λp c=>by obtain⟨q,g,rfl⟩:=GJ.mp c;have z:=o7 h (sz q g);exact⟨z.1.mono (by decide),z.2.mono (by decide)⟩,by rw[GD];exact d,by simpa using l,rfl⟩) ?_)
 case clen=>simp
 case csz=>rw[GD];exact Hd (aE (by lia))
 case celt=>
  intro C t s r j x y m e;obtain⟨p,c,b,rfl,rfl⟩:=di m e;have o:=(sz p b).1;have n:=(sz p b).2;exact (aL (aj (aJ (aa 1 rfl) (ax (aa 2 rfl) ag rfl rfl) (by walk_at"mul")) (aj (aJ (aa 1 rfl) (ax (aa 2 rfl) ag rfl rfl) (by walk_at"mul")) aF aN) aN))
 exact rfl
def wA:List U->Out->Prop:=λb o=>∃(a:List P2) (k:Int),b=[lp a,.int k]/\0<=k/\Sz 1000 k/\(∀p∈a,Szp 3000 p)/\a≠[]/\a.length<64/\o=.new ((au (a.map (scl k))).map pu)
theorem p_:OkD P w base T.abG 6 (wA):=by
 refine okD pV (by walk_at"ln") ?_;rintro _ _ _ c ⟨a,k,rfl,f,b,sz,d,e,rfl⟩;refine af (aU (aw d8 (aa 1 rfl) ag) (decide_eq_false (by lia)) (aA ?_));refine af (cx (cT (kJ T) c (ae (aa 0 rfl) (ae (aa 1 rfl) ak ai) ai) ⟨a,k,rfl,b,sz,d,e,rfl⟩) ?_);exact rfl
def yI:List U->Out->Prop:=λa o=>∃l:List P2,a=[lp l]/\l.length<=900/\(∀p∈l,Szp 2500 p)/\o=.val (.int (pin l))
theorem pQ:OkD P w base T.abw 5 (yI):=by
 refine okD o6 (by walk_at"ln") ?_;rintro _ _ _ b ⟨l,rfl,d,sz,rfl⟩;have c:((l.map pu).length)=l.length:=by rw[GD]
 by_cases a:l.length<3
 .refine af (bR (aw d8 (aq (bu rfl) rfl T.aae G3 (ae (aa 0 rfl) ak ai)) ag) (by rw[c];exact decide_eq_true (by lia)) ?_);refine af (aR ag ?_);exact vIO (by unfold pin;rw[if_pos a])
 .refine af (aU (aw d8 (aq (bu rfl) rfl T.aae G3 (ae (aa 0 rfl) ak ai)) ag) (by rw[c];exact decide_eq_false (by lia)) (aA ?_));have e:kc l=iK l:=by unfold kc;rw[if_neg a]
  refine af (aR (cO (bH (bj (a_ (lU T) b (ae (aa 0 rfl) ak ai) ⟨l,rfl,d,sz,rfl⟩) (a_ (Av T) b (ae (aa 0 rfl) ak ai) ⟨l,rfl,by lia,d,sz,rfl⟩)) ag) ag (by walk_at"div")) ?_);exact vIO (by unfold pin;rw[if_neg a,e])
theorem zZ{pts:List P2}(a:Sz 1000 k)(d:∀p∈pts,Szp 1500 p):∀p∈au (pts.map (scl k)),Szp 2500 p:=λp b=>by
 obtain⟨q,c,rfl⟩:=GJ.mp (bK _ p b);exact o7 a (d q c)
def mK:List U->Out->Prop:=λb o=>∃(a:List P2) (k:Int),b=[lp a,.int k]/\0<=k/\Sz 1000 k/\(∀p∈a,Szp 1500 p)/\a≠[]/\a.length<64/\o=.val (.int (dY (au (a.map (scl k)))))
theorem qZ  :c_ P w K mg base (CXF P w) 7 T.aak.a T.aak.d ["land","k"] (spU K (mK)):=by
 refine C8 T.aak.F qr (λm o h=>?_) (λn A f s H E O m o e h=>?_)
 .obtain⟨b,k,rfl,j,c,sz,g,i,rfl⟩:=h;rfl
 obtain⟨b,k,rfl,j,c,sz,g,i,rfl⟩:=h;refine Ws.nox ?_;have l:(au (b.map (scl k))).length<=900:=HB (ks _) (by rw[GD];lia);have p:0<(au (b.map (scl k))).length:=Hx.mpr (fg (by simpa using g));refine af (av 2 qr.nd (EvN.ev (cT (p_ T) e (ae (aa 0 rfl) (ae (aa 1 rfl) ak ai) ai) ⟨b,k,rfl,j,c,tf (by decide) sz,g,i,rfl⟩)) ?_);refine af (aR (bH (a_ (pQ T) e (ae (aa 2 rfl) ak ai) ⟨_,rfl,l,zZ c sz,rfl⟩) (a_ (Av T) e (ae (aa 2 rfl) ak ai) ⟨_,rfl,p,l,zZ c sz,rfl⟩)) ?_);exact rfl
theorem tD(l)(L)(s)(y):dm l (L++[s]) y=dm l L y++(if 0<s.2.2-s.1.2 then [xq y s] else []):=by
 unfold dm;rw[Qj,Hz];by_cases h:0<s.2.2-s.1.2
 .rw[if_pos h,Ob (by simpa using h)];rfl
 .rw[if_neg h,Oc (by simpa using h)];rfl
theorem sD(l)(L)(s)(y):dt l (L++[s]) y=dt l L y++(if s.2.2-s.1.2<0 then [ze y s] else []):=by
 unfold dt;rw[Qj,Hz];by_cases h:s.2.2-s.1.2<0
 .rw[if_pos h,Ob (by simpa using h)];rfl
 .rw[if_neg h,Oc (by simpa using h)];rfl
theorem y4(l)(y)(L):(dm l L y).length<=L.length+1/\(dt l L y).length<=L.length+1:=by
 unfold dm dt;simp only[Ie,GD];exact⟨Os (Lv _ _),Os (Lv _ _)⟩
def rW:List U->Out->Prop:=λa o=>∃(l:List P2) (y:Int),a=[lp l,.int y]/\l≠[]/\l.length<=900/\(∀q∈l,Szp 1000 q)/\Sz 1001 y/\o=.val (.tup [.int (gA l y),.int (nq l y)])
theorem p7:OkD P w base T.abH 2 (rW):=by
 refine okD cy (by walk_at"ln") ?_;rintro _ _ _ k ⟨l,y,rfl,A,E,sz,Q,rfl⟩;obtain⟨B,D,_,r,v,o,m,_⟩:=v5 A;have C:l.map (·.1)≠[]:=by simpa using A
 have I:B.1=loX l:=by
  have ok:=bV C;obtain⟨q,d,e⟩:=GJ.mp ok.1;have a:=ok.2 B.1 (HD (f:=λp:P2=>p.1) r);have b:=o q d;rw[ST.ltP_no]at b;unfold loX;lia
 have K:D.1=hiX l:=by
  have ok:=cV C;obtain⟨q,d,e⟩:=GJ.mp ok.1;have a:=ok.2 D.1 (HD (f:=λp:P2=>p.1) v);have b:=m q d;rw[ST.ltP_no]at b;unfold hiX;lia
 refine af (fP (i:=2) cy.nd rfl (Or.inl rfl) (bI (aj (ax (aq (Ew rfl (ig k) r o) rfl T.ab0 R3 (ae (aa 0 rfl) ak ai)) ag rfl rfl) aF aK)) ?_);refine af (fP (i:=3) cy.nd rfl (Or.inl rfl) (bI (aj (ax (aq (Da rfl (ig k) v m) rfl T.abZ R5 (ae (aa 0 rfl) ak ai)) ag rfl rfl) aF aK)) ?_);rw[I,K];refine af (d_ (λi:Nat=>[some (.val (lp l)),some (.val (.int y)),some (.own ((dt l ((sdl l).take i) y).map U.int)),some (.own ((dm l ((sdl l).take i) y).map U.int)),none,none,none,none]) (λi j=>i=j) rfl PassesOwn.never (bZ (EvN.ev (cT (gM T) k (ae (aa 0 rfl) ak ai) ⟨l,rfl,E,rfl⟩)) (.inl rfl)) ?h0 ?hs ?hd)
 case h0=>exact⟨0,rfl,rfl,rfl,rfl,rfl,trivial⟩
 case hs=>
  rintro X i x _ h rfl
  have d:∃s,(sdl l)[i]?=some s/\x=pq s:=by
   rw[GN]at h;cases e:(sdl l)[i]? with
   |none=>rw[e]at h;cases h
   |some s=>rw[e]at h;cases h;exact⟨s,rfl,rfl⟩
  obtain⟨s,hs,rfl⟩:=d;obtain⟨u,t⟩:=cP (Hb hs);have F:i<(sdl l).length:=aH hs;rw[fi]at F;have W:=(sz _ u).1;have H:=(sz _ u).2;have O:=(sz _ t).1;have G:=(sz _ t).2;have J:(sdl l).take (i+1)=(sdl l).take i++[s]:=by rw[Ku,hs];rfl
  have g:=tD l ((sdl l).take i) s y;have c:=sD l ((sdl l).take i) s y;rw[<-J]at g c;obtain⟨N,R⟩:=y4 l y ((sdl l).take i);have S:((sdl l).take i).length<=i:=by simp;lia
  refine⟨_,(Ci [4,5] rfl (aV (aT (i:=4) cy.nd rfl (Or.inl rfl)) (aV (aT (i:=5) cy.nd rfl (Or.inl rfl)) cF)) rfl),?_⟩;refine af (av 6 cy.nd (bj (ax (aa 5 rfl) ag rfl rfl) (ax (aa 4 rfl) ag rfl rfl)) ?_);refine af (av 7 cy.nd (aJ (bj (ax (aa 5 rfl) ag rfl rfl) (ax (aa 4 rfl) ag rfl rfl)) (bj (aa 1 rfl) (ax (aa 4 rfl) ag rfl rfl)) (by walk_at"mul")) ?_);rw[show (s.2.1-s.1.1) *(y-s.1.2)=kW s y from rfl];have z:Sz 1001 (s.2.2-s.1.2):=(L2.Sz.sub' G H).mono (by decide);have L:Sz 1001 (-(s.2.2-s.1.2)):=z.natle (by lia);show Ws _ _ _ _ _ _ [some (.val (lp l)),some (.val (.int y)),some (.own ((dt l ((sdl l).take i) y).map U.int)),some (.own ((dm l ((sdl l).take i) y).map U.int)),some (.val (pu s.1)),some (.val (pu s.2)),some (.val (.int (s.2.2-s.1.2))),some (.val (.int (kW s y)))];by_cases p:0<s.2.2-s.1.2
  .rw[if_pos p]at g;rw[if_neg (by lia),II]at c
   refine af (bR (aw eo (aa 6 rfl) ag) (decide_eq_true p) ?_);refine af (cN 3 rfl (bH (ax (aa 4 rfl) ag rfl rfl) (cO (aa 7 rfl) (aa 6 rfl) ⟨p,z.mono (by decide)⟩)) (by rw[GD];exact aE (by lia)) (aA ?_));refine af (aU (aw d8 (aa 6 rfl) ag) (decide_eq_false (by lia)) (aA (aA ?_)));refine⟨i+1,rfl,rfl,rfl,?_,?_,trivial⟩
   .exact congrArg (λl=>some (Sl.own l)) (by rw[c])
   .exact congrArg (λl=>some (Sl.own l)) (by rw[g,Hz];rfl)
  .rw[if_neg p,II]at g;refine af (aU (aw eo (aa 6 rfl) ag) (decide_eq_false p) (aA ?_));by_cases n:s.2.2-s.1.2<0
   .rw[if_pos n]at c;refine af (bR (aw d8 (aa 6 rfl) ag) (decide_eq_true n) ?_);refine af (cN 2 rfl (bj (ax (aa 4 rfl) ag rfl rfl) (cO (aa 7 rfl) (bT (aa 6 rfl)) ⟨by lia,L.mono (by decide)⟩)) (by rw[GD];exact aE (by lia)) (aA (aA ?_)))
    refine⟨i+1,rfl,rfl,rfl,?_,?_,trivial⟩
    .exact congrArg (λl=>some (Sl.own l)) (by rw[c,Hz];rfl)
    .exact congrArg (λl=>some (Sl.own l)) (by rw[g])
   .rw[if_neg n,II]at c;refine af (aU (aw d8 (aa 6 rfl) ag) (decide_eq_false n) (aA (aA ?_)));refine⟨i+1,rfl,rfl,rfl,?_,?_,trivial⟩
    .exact congrArg (λl=>some (Sl.own l)) (by rw[c])
    .exact congrArg (λl=>some (Sl.own l)) (by rw[g])
 case hd=>
  rintro q V d M;refine cX ?_ M;have e:q=(sdl l).length:=by rw[<-d,GD]
  subst e;rw[Kj];refine sZ 2 rfl (sZ 3 rfl ?_);show Ws _ _ _ _ _ _ [some (.val (lp l)),some (.val (.int y)),some (.val (.lst ((dt l (sdl l) y).map U.int))),some (.val (.lst ((dm l (sdl l) y).map U.int))),none,none,none,none];refine af (aR (aL (aj (aq (zh rfl (cV (l:=dt l (sdl l) y) (by unfold dt;simp))) rfl T.abZ R5 (ae (aa 2 rfl) ak ai)) (aj (aq (x9 rfl (bV (l:=dm l (sdl l) y) (by unfold dm;simp))) rfl T.ab0 R3 (ae (aa 3 rfl) ak ai)) aF aB) aB)) ?_);exact rfl
theorem Fa(j:a=a')(h:b=b')(l:c=c')(k:d=d')(i:e=e')(g:f=f'):mv a b c d e f=mv a' b' c' d' e' f':=by rw[j,h,l,k,i,g]
theorem D0(h:a≠b):∃g c d s t,dD (b.1-a.1) (b.2-a.2) g c d/\g≠0/\dD ((b.1-a.1)/g) ((b.2-a.2)/g) 1 s t/\LvP a b g ((b.1-a.1)/g) ((b.2-a.2)/g) s t:=by
 obtain⟨g,c,d,G⟩:=iP (b.1-a.1) (b.2-a.2)
 have j:g≠0:=λe=>h (by
  obtain⟨k,i⟩:=wm G e;exact Ii k i)
 have gp:0<g:=by have:=G.g0;lia
 obtain⟨l,s,t,f⟩:=iP ((b.1-a.1)/g) ((b.2-a.2)/g);have:=wq G gp f;subst this;exact⟨g,c,d,s,t,G,j,f,gp,LN G.da,LN G.db,f.eq⟩
theorem uR{a:P2}(h:s*u+t*v=1):BS s t (-v) u (-s*a.1-t*a.2) (v*a.1-u*a.2)=mv u (-t) v s a.1 a.2:=by
 have k:s*u-t* -v=1:=by grind
 unfold BS;rw[k];refine Fa (by lia) (by lia) (by lia) (by lia) ?_ ?_
 .have:-(1*u*(-s*a.1-t*a.2)+-1*t*(v*a.1-u*a.2))=(s*u+t*v) *a.1:=by grind
  rw[this,h,Jj]
 .have:-(-1* -v*(-s*a.1-t*a.2)+1*s*(v*a.1-u*a.2))=(s*u+t*v) *a.2:=by grind
  rw[this,h,Jj]
theorem Be(F:Fld l)(b:2<=l.length):gp l 0≠gp l 1:=λe=>by
 have a:l.Nodup:=by rw[<-F.cr];exact ck l
 have:l[0]?=l[1]?:=by rw[eB (by lia),eB (by lia),e]
 have:=(LH (by lia) a).mp this;lia
theorem BP{n y:Nat}(h:y<n):(lC l (0+(y:Int))).length<=(eZ l n).length:=eJ (uK _ _) λp a=>by
 have k:=fL.mp a;refine eH.mpr ⟨by lia,?_⟩;rw[k.1];exact k.2
theorem Aj(h:y<=n):(eZ l y).length<=(eZ l n).length:=eJ (lR _ _) λp a=>by
 have k:=eH.mp a;exact eH.mpr ⟨by omega,k.2⟩
def pZ:List U->Out->Prop:=λa o=>∃l:List P2,a=[lp l]/\Fld l/\2<=l.length/\l.length<64/\(∀p∈l,Szp 150 p)/\(aX l).length<=210/\o=.new ((aX l).map pu)
theorem xw(F:Fld l)(c:2<=l.length)(L:LvP (gp l 0) (gp l 1) g u v s t):(Ak l u v s t).length=(aX l).length:=sH (yx L) ((ST.srt_asc _).imp λ{a b} h e=>by subst e;rw[ST.asc_irr]at h;cases h) λp=>by rw[uw F c L,bo F]
theorem rQ:OkD P w base T.abP 6 (pZ):=by
 refine okD cj (by walk_at"ln") ?_;rintro _ _ _ o ⟨l,rfl,F,A,hl,sz,hc,rfl⟩;obtain⟨g,s1,t1,s,t,G,gn,G1,L⟩:=D0 (Be F A);have a:=sz _ (bU (l:=l) (i:=0) (by lia));have D:=sz _ (bU (l:=l) (i:=1) (by lia));have zx:Sz 151 ((gp l 1).1-(gp l 0).1):=(L2.Sz.sub' D.1 a.1).mono (by decide);have zy:Sz 151 ((gp l 1).2-(gp l 0).2):=(L2.Sz.sub' D.2 a.2).mono (by decide);have two:yw (gp l 0).1 (gp l 0).2 (gp l 1).1 (gp l 1).2:=⟨a.1.mono (by decide),a.2.mono (by decide),D.1.mono (by decide),D.2.mono (by decide)⟩
 have J:Sz 151 (((gp l 1).1-(gp l 0).1)/g):=zx.ediv;have E:Sz 151 (((gp l 1).2-(gp l 0).2)/g):=zy.ediv;obtain⟨_,ss,K⟩:=jc G1 J E;refine af (av 1 cj.nd (a_ (mj T) o (ae (ax (aa 0 rfl) ag rfl (eQ (i:=0) (by decide) (by lia))) (ae (ax (aa 0 rfl) ag rfl (eQ (i:=1) (by decide) (by lia))) ak aK) aK) ⟨_,_,_,_,g,s1,t1,s,t,rfl,two,G,gn,G1,rfl⟩) ?_);have V:=zK F A L;have SQ:=xw F A L;have X:=uw F A L;have UG:=yx L;generalize hu:((gp l 1).1-(gp l 0).1)/g=u at *;generalize hv:((gp l 1).2-(gp l 0).2)/g=v at *;have hd:s*u-t* -v=1:=by have:=L.st;grind
 have I:Sz 500 s:=ss.mono (by decide);have W:Sz 500 t:=K.mono (by decide);have Q:Sz 500 (-v):=(E.natle (by lia):Sz 151 (-v)).mono (by decide);have H:Sz 500 u:=J.mono (by decide);have ns:Sz 310 (-s):=(ss.natle (by lia):Sz _ (-s)).mono (by decide);have R:Sz 500 (-s*(gp l 0).1-t*(gp l 0).2):=(L2.Sz.sub' (L2.Sz.mul ns a.1) (L2.Sz.mul (K.mono (n:=310) (by decide)) a.2)).mono (by decide);have O:Sz 500 (v*(gp l 0).1-u*(gp l 0).2):=(L2.Sz.sub' (L2.Sz.mul E a.1) (L2.Sz.mul J a.2)).mono (by decide);have c:500<=30000:=by decide
 have M:Mv s t (-v) u (-s*(gp l 0).1-t*(gp l 0).2) (v*(gp l 0).1-u*(gp l 0).2):=⟨.inl hd,I.mono c,W.mono c,Q.mono c,H.mono c,R.mono c,O.mono c⟩;refine af (av 2 cj.nd (EvN.ev (cT (l8 T) o (ae (aa 0 rfl) (ae (aa 1 rfl) ak ai) ai) ⟨l,_,_,_,_,_,_,rfl,M,tf (by decide) sz,λp d=>by have z:=Cw I W Q H R O (by decide) (sz p d);exact⟨z.1.mono (by decide),z.2.mono (by decide)⟩,F.ne,hl,rfl⟩)) ?_)
 have B:∀p∈au (l.map (lvF (gp l 0) u v s t)),Szp 1000 p:=λp d=>by
  obtain⟨q,b,rfl⟩:=GJ.mp (bK _ p d);have z:=Cw I W Q H R O (by decide) (sz q b);exact⟨z.1.mono (by decide),z.2.mono (by decide)⟩
 have ml:(au (l.map (lvF (gp l 0) u v s t))).length<=900:=HB (ks _) (by rw[GD];lia);refine af (u7 (i:=3) cj.nd rfl (Or.inr rfl) (a_ (gC T) o (ae (aa 1 rfl) ak ai) ⟨_,_,_,_,_,_,rfl,M,rfl⟩) ?_);rw[uR L.st];unfold Ak at SQ X UG;rw[GD]at SQ;have N:∀p:P2,pu (bkF (gp l 0) u v s t p)=pt (u*p.1+-t*p.2+(gp l 0).1) (v*p.1+s*p.2+(gp l 0).2):=λp=>rfl
 have nt:Sz 30000 (-t):=(K.natle (by lia):Sz _ (-t)).mono (by decide);have MB:Mv u (-t) v s (gp l 0).1 (gp l 0).2:=⟨.inl (by have:=L.st;grind),H.mono c,nt,E.mono (by decide),I.mono c,a.1.mono (by decide),a.2.mono (by decide)⟩
 have h:=V.F.ne;have hY:=cV (l:=(au (l.map (lvF (gp l 0) u v s t))).map (·.2)) (by simpa using h)
 have zY:Sz 1000 (hiY (au (l.map (lvF (gp l 0) u v s t)))):=by
  obtain⟨q,b,e⟩:=xj h;rw[<-e];exact (B q b).2
 show Ws _ _ _ _ _ _ [some (.val (lp l)),some (.val (mv s t (-v) u (-s*(gp l 0).1-t*(gp l 0).2) (v*(gp l 0).1-u*(gp l 0).2))),some (.val (lp (au (l.map (lvF (gp l 0) u v s t))))),some (.val (mv u (-t) v s (gp l 0).1 (gp l 0).2)),none,none,none,none,none];generalize hM:au (l.map (lvF (gp l 0) u v s t))=m at *;refine af (fP (i:=4) cj.nd rfl (Or.inl rfl) (bI aF) ?_);refine af (d_ (λi:Nat=>[some (.val (lp l)),some (.val (mv s t (-v) u (-s*(gp l 0).1-t*(gp l 0).2) (v*(gp l 0).1-u*(gp l 0).2))),some (.val (lp m)),some (.val (mv u (-t) v s (gp l 0).1 (gp l 0).2)),some (.own (((eZ m i).map (bkF (gp l 0) u v s t)).map pu)),none,none,none,none]) (λi j=>i=j) rfl PassesOwn.never (vZ rfl T.aa_ (ae (bH (aq (zh rfl hY) rfl T.abZ R5 (ae (EvN.ev (cE (ys:=((m.map (·.2)).map U.int)) rfl (blk (am hG) ["land","move","levelled","back","found","y","ends","x","P"] [8] rfl rfl rfl rfl (by decide+kernel)) (EvI.z (bZ (aa 2 rfl) (.inl rfl))) (λ_ _ _ _=>aT (i:=8) cj.nd rfl (Or.inl rfl)) (fS (by decide)) ?clen ?csz (λ_ _=>trivial) ?celt)) ak cH)) ag) ak aN)) ?h0 ?hs ?hd)
 case clen=>simp
 case csz=>rw[GD];exact Hd (aE (by lia))
 case celt=>
  intro C s' H' fp j x y r f;rw[Ho]at f;obtain⟨p,d,mp,rfl,rfl⟩:=di r f;exact (ax (aa 8 rfl) ag rfl rfl)
 case h0=>exact⟨0,rfl,rfl,rfl,rfl,rfl,rfl,trivial⟩
 case hs=>
  rintro H0 i x _ r rfl;obtain⟨hi,rfl⟩:=e7 r
  have S0:i<(hiY m+1).toNat:=by
   have:hiL (m.map (·.2))=hiY m:=rfl;rw[this]at hi;lia
  have rf:=BP (l:=m) S0;have rg:=Aj (l:=m) (Hd S0)
  have iz:Sz 1001 (0+(i:Int)):=by
   have one:Sz 1000 (1:Int):=Sz.mono (m:=8) (by decide) (by decide);exact Sz.le (by lia) (L2.Sz.add' zY one)
  have rl:(lC m (0+(i:Int))).length=(nq m (0+(i:Int))+1-gA m (0+(i:Int))).toNat:=by unfold lC qA;simp
  refine⟨_,(eW (i:=5) cj.nd rfl (Or.inr rfl)),?_⟩;refine af (av 6 cj.nd (a_ (p7 T) o (ae (aa 2 rfl) (ae (aa 5 rfl) ak ai) ai) ⟨m,_,rfl,h,ml,B,iz,rfl⟩) ?_);refine af (zM 4 rfl (EvN.ev (cE (ys:=(((lC m (0+(i:Int))).map (bkF (gp l 0) u v s t)).map pu)) rfl (blk (am hG) ["land","move","levelled","back","found","y","ends","x","P"] [7] rfl rfl rfl rfl (by decide+kernel)) (EvI.z (wL rfl T.aa_ (ae (ax (aa 6 rfl) ag rfl rfl) (ae (bH (ax (aa 6 rfl) ag rfl rfl) ag) ak aN) aK))) (λ_ _ _ _=>aT (i:=7) cj.nd rfl (Or.inl rfl)) (fS (by decide)) ?clen ?csz (λ_ _=>trivial) ?celt)) (by simp only[GD];exact Hd (aE (by lia))) (aA ?_))
  case clen=>rw[cS,GD,GD,rl]
  case csz=>rw[cS];exact Hd (aE (by lia))
  case celt=>
   intro C s' H' fp j x y r f;obtain⟨hj,rfl⟩:=e7 r
   have ey:y=pu (bkF (gp l 0) u v s t (gA m (0+(i:Int))+(j:Int),0+(i:Int))):=by
    unfold lC qA at f;rw[Ho,Ho,Ho,GN,JF hj]at f;cases f;rfl
   have d:(gA m (0+(i:Int))+(j:Int),0+(i:Int))∈lC m (0+(i:Int)):=fL.mpr ⟨rfl,by dsimp only;lia,by dsimp only;lia⟩
   have b:(gA m (0+(i:Int))+(j:Int),0+(i:Int))∈eZ m (hiY m+1).toNat:=by
    have k:=fL.mp d;exact eH.mpr ⟨by dsimp only;lia,k.2⟩
   have Z:=(dI h).mp (V.F.in_box ((kQ V _).mp b))
   have zX:Sz 30000 (gA m (0+(i:Int))+(j:Int)):=by
    obtain⟨Y,m1,e1⟩:=GJ.mp (bV (l:=m.map (·.1)) (by simpa using h)).1;obtain⟨q2,m2,e2⟩:=GJ.mp (cV (l:=m.map (·.1)) (by simpa using h)).1;have y1:=(B Y m1).1;have y2:=(B q2 m2).1;have b1:Y.1<=gA m (0+(i:Int))+(j:Int):=by have:=Z.1.1;unfold loX at this;rw[<-e1]at this;exact this
    have b2:gA m (0+(i:Int))+(j:Int)<=q2.1:=by have:=Z.1.2;unfold hiX at this;rw[<-e2]at this;exact this
    rcases Ig (gA m (0+(i:Int))+(j:Int)) 0 with z |z
    .exact (y1.natle (by lia):Sz 1000 _).mono (by decide)
    .exact (y2.natle (by lia):Sz 1000 _).mono (by decide)
   rw[ey,N];exact (a_ (jo T) o (ae (aL (aj (aa 7 rfl) (aj (aa 5 rfl) aF ai) ai)) (ae (aa 3 rfl) ak ai) bL) ⟨_,_,_,_,_,_,_,_,rfl,MB,zX,iz.mono (by decide),rfl⟩)
  refine⟨i+1,rfl,rfl,rfl,rfl,rfl,?_,trivial⟩;exact congrArg (λl=>some (Sl.own l)) (by rw[mG,Hz,Hz])
 case hd=>
  rintro q ps b S7;refine cX ?_ S7;rw[cS]at b;have e:q=(hiY m+1).toNat:=by rw[<-b];show (hiY m+1-0).toNat=_;lia
  subst e;refine sZ 4 rfl ?_;have fs:=oB F X;have S:((eZ m (hiY m+1).toNat).map (bkF (gp l 0) u v s t)).length<1000:=by rw[GD];lia
  refine af (cx (zW rfl T.aal (ig o) (aa 4 rfl) ⟨S,UG⟩ ai) ?_);rw[fs]
def qL(C:Hc):List U->Out->Prop:=λa o=>∃l:List P2,a=[lp l]/\Fld l/\l.length<64/\(∀p∈l,Szp 150 p)/\((dY l<=100/\(aX l).length<=210/\o=.new ((aX l).map pu))\/(100<dY l/\o=.exc C))
theorem nK  :c_ P w K mg base (CXF P w) 8 T.aaD.a T.aaD.d ["land"] (spU K (qL T.aad.c)):=by
 refine uT T.aaD.F wT (by rintro k o ⟨_,rfl,_⟩;rfl) (λq A e s H E O k o b h=>?_);obtain⟨l,rfl,F,g,sz,h⟩:=h;have f:((l.map pu).length:Int)=(l.length:Int):=by rw[GD]
 have one:au (l.map (scl 1))=l:=by rw[show scl 1=id from funext uF,Sv];exact F.cr
 have i:mK [lp l,.int 1] (.val (.int (dY l))):=⟨l,1,rfl,by decide,Sz.mono (m:=8) (by decide) (by decide),tf (by decide) sz,F.ne,g,by rw[one]⟩
 have t:0<l.length:=Hx.mpr F.ne;rcases h with ⟨r,n,rfl⟩ |⟨r,rfl⟩
 .refine af (aU (aw eo (ul ((qZ T).mono (by decide)) b rfl T.aak.m T.aak.F.kp T.aak.bd u_ (ae (aa 0 rfl) ak ai) i) (Cj rfl T.aa8)) (decide_eq_false (by lia)) (aA ?_));refine Ws.nox ?_;by_cases j:l.length=1
  .refine af (bR (aw aW (aq (bu rfl) rfl T.aae G3 (ae (aa 0 rfl) ak ai)) ag) (by rw[f];exact decide_eq_true (by lia)) ?_);refine af (cx (fm (gK rfl) rfl T.aat LO (ae (aa 0 rfl) ak ai)) ?_);obtain⟨A,rfl⟩:=JC.mp j
   have:aX [A]=[A]:=by
    rw[<-oB (R:=[A]) F λp=>by rw[fD];simp];exact cW (pts:=[A]) (by have:=ST.srt_len [A];simp at this;lia) ▸ F.cr
   rw[this]
  .refine af (aU (aw aW (aq (bu rfl) rfl T.aae G3 (ae (aa 0 rfl) ak ai)) ag) (by rw[f];exact decide_eq_false (by lia)) (aA ?_));refine af (cx (cT (rQ T) b (ae (aa 0 rfl) ak ai) ⟨l,rfl,F,by lia,g,sz,n,rfl⟩) ?_);exact rfl
 .refine af (bR (aw eo (ul ((qZ T).mono (by decide)) b rfl T.aak.m T.aak.F.kp T.aak.bd u_ (ae (aa 0 rfl) ak ai) i) (Cj rfl T.aa8)) (decide_eq_true (by lia)) ?_);refine af (pE T.abT rfl T.aad.m wX ?_);exact rfl
theorem i_(p q:P2):ah p q p=0/\ah p q q=0:=by unfold ah;constructor <;>grind
theorem vv(A B C p:P2):ah A B p+ah B C p+ah C A p=ah A B C:=by unfold ah;grind
theorem F7{d r:Int}(h:r<d):0<=d-1-r:=by omega
theorem Fo{d r w:Int}(h:1+w+r=d):w=d-1-r:=by omega
theorem FR{g y w:Int}(h:0+w+y=g*y):w=(g-1) *y:=by rw[Rj,Jj];omega
theorem ua(k:0<ah A B C)(h:∀p,0<=ah A B p->0<=ah B C p->0<=ah C A p->p=A\/p=B\/p=C):ah A B C=1:=by
 refine HY λU=>?_;obtain⟨g,s,t,G⟩:=iP (B.1-A.1) (B.2-A.2);obtain⟨u,o⟩:=G.da;obtain⟨v,l⟩:=G.db;have E:=G.eq;have K:=G.g0
 have F:g≠0:=λe=>by
  rw[e,Jn]at o l;have:ah A B C=0:=by unfold ah;rw[o,l,Jn,Jn];rfl
  exact Jz k this
 have gp:0<g:=(HU K).resolve_right (Ne.symm F)
 have I:∀p:P2,0<=ah A B p->0<=ah B C p->0<=ah C A p->p≠A->p≠B->p≠C->False:=λp R Q W a b c=>by
  rcases h p R Q W with e |e |e
  .exact a e
  .exact b e
  .exact c e
 have i:s*u+t*v=1:=by
  have:g*(s*u+t*v)=g*1:=by rw[LU];rw[o,l]at E;rw[<-E];grind
  exact H_ F this
 have z:ah A B C=g*(u*(C.2-A.2)-v*(C.1-A.1)):=by unfold ah;rw[o,l];grind
 by_cases H:g=1
 .subst H;have J:ah A B C=u*(C.2-A.2)-v*(C.1-A.1):=by rw[z,Jj]
  generalize hd:ah A B C=d at *;obtain⟨x,n⟩:∃x,x=s*(C.1-A.1)+t*(C.2-A.2):=⟨_,rfl⟩
  have S:C.1-A.1=x*u-d*t:=by
   have:x*u-d*t=(s*u+t*v) *(C.1-A.1):=by rw[n,J];grind
   rw[this,i,Jj]
  have M:C.2-A.2=x*v+d*s:=by
   have:x*v+d*s=(s*u+t*v) *(C.2-A.2):=by rw[n,J];grind
   rw[this,i,Jj]
  have N:=KO (-x) (Jz k);have L:=JS (-x) k;have X:=Int.mul_ediv_add_emod (-x) d;generalize -x/d=m at *;generalize -x%d=r at *;have O:r=-x-d*m:=by omega
  have V:B.1=A.1+u:=by omega
  have P:B.2=A.2+v:=by omega
  have f:ah A B (A.1-m*u-t,A.2-m*v+s)=1:=by
   unfold ah;dsimp only;rw[V,P,<-i];grind
  have j:ah C A (A.1-m*u-t,A.2-m*v+s)=r:=by
   have:ah C A (A.1-m*u-t,A.2-m*v+s)=(-m*u-t) *(C.2-A.2)-(-m*v+s) *(C.1-A.1):=by unfold ah;dsimp only;grind
   rw[this,S,M,O];have:(-m*u-t) *(x*v+d*s)-(-m*v+s) *(x*u-d*t)=(s*u+t*v) *(-x-d*m):=by grind
   rw[this,i,Jj]
  have w:ah B C (A.1-m*u-t,A.2-m*v+s)=d-1-r:=by
   have:=vv A B C (A.1-m*u-t,A.2-m*v+s);rw[f,j,hd]at this;exact Fo this
  refine I (A.1-m*u-t,A.2-m*v+s) (by rw[f];decide) (by rw[w];exact F7 L) (by rw[j];exact N) (λe=>?_) (λe=>?_) (λe=>?_)
  .rw[e,(i_ A B).1]at f;cases f
  .rw[e,(i_ A B).2]at f;cases f
  .rw[e,hd]at f;exact U f
 .have f:ah A B (A.1+u,A.2+v)=0:=by unfold ah;dsimp only;rw[o,l];grind
  generalize hy:u*(C.2-A.2)-v*(C.1-A.1)=y at *;have D:0<y:=by rw[z]at k;exact ID k gp
  have j:ah C A (A.1+u,A.2+v)=y:=by unfold ah;dsimp only;rw[<-hy];grind
  have w:ah B C (A.1+u,A.2+v)=(g-1) *y:=by
   have:=vv A B C (A.1+u,A.2+v);rw[f,j,z]at this;exact FR this
  have T:0<g-1:=Jq ((HU gp).resolve_right λe=>H e.symm);have q:=HR T D;refine I (A.1+u,A.2+v) (by rw[f];decide) (by rw[w];exact Jp q) (by rw[j];exact Jp D) (λe=>?_) (λe=>?_) (λe=>?_)
  .rw[e,(i_ C A).2]at j;exact Sh D j
  .rw[e,(i_ B C).1]at w;exact Sh q w
  .rw[e]at f;exact Jz k f
noncomputable def cg(s:Int)(P:P2):List P2->List P2
 |b::a::r=>if 0<s*ah a b P then cg s P (a::r) else b::a::r
 |st=>st
noncomputable def fq(s:Int)(P:P2):List P2->List (P2×P2×P2)
 |b::a::r=>if 0<s*ah a b P then (a,b,P)::fq s P (a::r) else []
 |_=>[]
noncomputable def wN(s:Int)(c:List P2):List P2->Prop
 |b::a::r=>(∀q∈c,s*ah a b q<=0/\(s*ah a b q=0->plt a q->plt q b->False))/\wN s c (a::r)
 |_=>True
theorem CF(hs:s=1\/s=-1)(a:bY u1 u2)(b:bY v1 v2)(c:bY w1 w2)(f:s*(u1*v2-u2*v1)<=0)(d:s*(v1*w2-v2*w1)<=0):s*(u1*w2-u2*w1)<=0:=by
 rcases hs with e |e <;>subst e
 .have:=dQ c b a (by grind) (by grind);grind
 .have:=dQ a b c (by lia) (by lia);lia
theorem FO(hs:s=1\/s=-1)(a:bY u1 u2)(b:bY p1 p2)(c:bY w1 w2)(f:0<s*(u1*p2-u2*p1))(d:s*(u1*w2-u2*w1)<0):s*(p1*w2-p2*w1)<0:=by
 rcases hs with e |e <;>subst e
 .have:=eT c a b (by grind) (by lia);grind
 .have:=eT b a c (by grind) (by lia);lia
structure KW(s:Int)(done st:List P2):Prop where
 ne:st≠[]
 desc:jK st
 cov:wN s done st
 sub:∀p∈st,p∈done
 bot:∀z,st.getLast?=some z->∀q∈done,¬ plt q z
structure DW(s:Int)(done st:List P2)(P:P2):Prop extends KW s done st where
 pend:∀h r,st=h::r->∀q∈done,plt h q->s*ah h P q<0
theorem oW(hs:s=1\/s=-1){P b a:P2}(j:∀q∈done,plt q P)(D:DW s done (b::a::r) P)(h:0<s*ah a b P):DW s done (a::r) P:=by
 refine⟨⟨by simp,D.desc.tail,D.cov.2,λp n=>D.sub p (GG _ n),λz m=>D.bot z (by rw[Jv];exact m)⟩,?_⟩;intro o t e q d c;cases e;have g:=D.desc.1;obtain⟨l,i⟩:=D.cov.1 q d;have k:=j b (D.sub b GR);rcases f_ q b with z |z |z
 .have f:s*ah a b q<0:=by
   rcases HU l with y |y
   .exact y
   .exact (i y c z).elim
  have:=FO hs (aG g) (aG (bA g k)) (aG c) (by unfold ah at h;exact h) (by unfold ah at f;exact f);unfold ah;exact this
 .subst z;have:ah a P q=- ah a q P:=by unfold ah;grind
  rw[this,Oa];lia
 .have p:=D.pend b _ rfl q d z;have:ah a P q=ah a b q-ah a b P+ah b P q:=by unfold ah;grind
  rw[this];have e:s*(ah a b q-ah a b P+ah b P q)=s*ah a b q-s*ah a b P+s*ah b P q:=by grind
  lia
theorem xT(hs:s=1\/s=-1){P:P2}(d:∀q∈done,plt q P):∀c,DW s done c P->DW s done (cg s P c) P/\(∀b a r,cg s P c=b::a::r->s*ah a b P<=0)
 |[],D=>absurd rfl D.ne
 |[b],D=>⟨D,λ_ _ _ e=>by simp[cg]at e⟩
 |b::a::r,D=>by
  by_cases h:0<s*ah a b P
  .rw[cg,if_pos h];exact xT hs d (a::r) (oW hs d D h)
  .rw[cg,if_neg h];refine⟨D,λf g i e=>?_⟩;cases e;lia
theorem rE(hs:s=1\/s=-1){P:P2}(i:∀q∈done,plt q P):∀{g},jK g->wN s done g->(∀p∈g,p∈done)->(∀b a r,g=b::a::r->s*ah a b P<=0)->wN s (done++[P]) g
 |[],_,_,_,_=>trivial
 |[_],_,_,_,_=>trivial
 |b::a::r,d,c,sub,h=>by
  have h0:=h b a r rfl;have j:=sub b GR;refine⟨λq o=>?_,rE hs i d.tail c.2 (λp n=>sub p (GG _ n)) λw f u e=>?_⟩
  .rcases Hi.mp o with k |k
   .exact c.1 q k
   .rw[GL.mp k];refine⟨h0,λ_ _ v=>?_⟩;have:=i b j;unfold plt at *;lia
  .cases e;have t:=d.tail.1;have l:=(c.2.1 b j).1;have m:=i b j
   have:=CF hs (aG t) (aG d.1) (aG m) (by
    have:ah f a b=(a.1-f.1) *(b.2-a.2)-(a.2-f.2) *(b.1-a.1):=by unfold ah;grind
    rw[<-this];exact l) (by
    have:ah a b P=(b.1-a.1) *(P.2-b.2)-(b.2-a.2) *(P.1-b.1):=by unfold ah;grind
    rw[<-this];exact h0)
   have e:s*ah f a P=s*ah f a b+s*((a.1-f.1) *(P.2-b.2)-(a.2-f.2) *(P.1-b.1)):=by unfold ah;grind
   lia
theorem C0(hs:s=1\/s=-1){c g:List P2}{P:P2}(f:∀q∈c,plt q P)(K:KW s c g)(A:∀h r,g=h::r->∀q∈c,¬ plt h q):KW s (c++[P]) (P::cg s P g):=by
 obtain⟨D,l⟩:=xT hs f g ⟨K,λh r e q d B=>absurd B (A h r e q d)⟩;generalize cg s P g=t at *;have n:¬ plt P P:=by unfold plt;lia
 have m:=l;have u:=rE hs f D.desc D.cov D.sub m
 match t,D,m,u with
 |[],D,_,_=>exact absurd rfl D.ne
 |[b],D,m,u=>
  have i:=D.sub b GR;refine⟨by simp,⟨f b i,trivial⟩,⟨λq d=>?_,trivial⟩,λp w=>?_,λz o q d=>?_⟩
  .rcases Hi.mp d with k |k
   .rcases f_ q b with y |y |y
    .exact absurd y (D.bot b rfl q k)
    .subst y;exact⟨by unfold ah;grind,λ_ v _=>by unfold plt at v;lia⟩
    .have:=D.pend b _ rfl q k y;exact⟨by lia,λe _ _=>by lia⟩
   .rw[GL.mp k];exact⟨by unfold ah;grind,λ_ _ x=>n x⟩
  .rcases GF.mp w with k |k
   .rw[k];simp
   .exact Hm _ (D.sub p k)
  .have E:z=b:=by simpa using o.symm
   subst E;rcases Hi.mp d with k |k
   .exact D.bot z rfl q k
   .rw[GL.mp k];have:=f z i;unfold plt at *;lia
 |b::a::r,D,m,u=>
  have i:=D.sub b GR;have G:=m b a r rfl;refine⟨by simp,⟨f b i,D.desc⟩,⟨λq d=>?_,u⟩,λp w=>?_,λz o q d=>?_⟩
  .rcases Hi.mp d with k |k
   .rcases f_ q b with y |y |y
    .have C:=(D.cov.1 q k).1;have F:=f b i
     have:=CF hs (aG y) (aG D.desc.1) (aG F) (by
      have:(b.1-q.1) *(b.2-a.2)-(b.2-q.2) *(b.1-a.1)=ah a b q:=by unfold ah;grind
      rw[this];exact C) (by
      have:ah a b P=(b.1-a.1) *(P.2-b.2)-(b.2-a.2) *(P.1-b.1):=by unfold ah;grind
      rw[<-this];exact G)
     have e:ah b P q=(b.1-q.1) *(P.2-b.2)-(b.2-q.2) *(P.1-b.1):=by unfold ah;grind
     rw[e];exact⟨this,λ_ v _=>by unfold plt at *;lia⟩
    .subst y;exact⟨by unfold ah;grind,λ_ v _=>by unfold plt at v;lia⟩
    .have:=D.pend b _ rfl q k y;exact⟨by lia,λe _ _=>by lia⟩
   .rw[GL.mp k];exact⟨by unfold ah;grind,λ_ _ x=>n x⟩
  .rcases GF.mp w with k |k
   .rw[k];simp
   .exact Hm _ (D.sub p k)
  .have j:(b::a::r).getLast?=some z:=by rw[Jv]at o;exact o
   rcases Hi.mp d with k |k
   .exact D.bot z j q k
   .rw[GL.mp k];have:=f z (D.sub z (KI j));unfold plt at *;lia
noncomputable abbrev Tri:=P2×P2×P2
noncomputable def lM(t:Tri):Int:=ah t.1 t.2.1 t.2.2
noncomputable def wst(s:Int)(z:List P2×List Tri)(P:P2):List P2×List Tri:=(P::cg s P z.1,z.2++fq s P z.1)
noncomputable def bv(s:Int)(a:List P2):List P2×List Tri:=a.foldl (wst s) ([],[])
theorem cL(s)(row)(P):bv s (row++[P])=wst s (bv s row) P:=by unfold bv;rw[Qz];rfl
theorem jq{Q:List P2->Prop}(e:Q [])(d:∀l P,Q l->Q (l++[P])):∀l,Q l:=λl=>by
 have b:∀m:List P2,Q m.reverse:=λm=>by
  induction m with
  |nil=>exact e
  |cons a m c=>rw[NM];exact d _ _ c
 have:=b l.reverse
 rwa [LJ]at this
theorem eY{P:P2}(h:(l++[P]).Pairwise plt):l.Pairwise plt/\∀q∈l,plt q P:=by
 rw[Ih]at h;exact⟨h.1,λq a=>h.2.2 q a P (by simp)⟩
theorem oN(s)(row)(P):(bv s (row++[P])).1.head?=some P:=by rw[cL];rfl
theorem pW(hs:s=1\/s=-1):∀row,row.Pairwise plt->row≠[]->KW s row (bv s row).1:=by
 refine jq (λ_ h=>absurd rfl h) λl P f g _=>?_;obtain⟨c,i⟩:=eY g;rw[cL];by_cases a:l=[]
 .subst a;show KW s [P] [P];refine⟨by simp,trivial,trivial,λp o=>by simpa using o,λz j q b=>?_⟩;have n:q=P:=by simpa using b
  have t:P=z:=by simpa using j
  rw[n,<-t];unfold plt;lia
 .have K:=f c a;refine C0 hs i K λh r e q b=>?_;have:l=l.dropLast++[l.getLast a]:=(Lh a).symm;have d:=oN s l.dropLast (l.getLast a);rw[<-this,e]at d;have m:h=l.getLast a:=by simpa using d
  rw[m];rw[this]at c b;rcases Hi.mp b with k |k
  .have:=(eY c).2 q k;unfold plt at *;lia
  .rw[GL.mp k];unfold plt;lia
structure TOk(s:Int)(row:List P2)(t:Tri):Prop where
 ma:t.1∈row
 mb:t.2.1∈row
 mP:t.2.2∈row
 ab:plt t.1 t.2.1
 bP:plt t.2.1 t.2.2
 d:0<s*lM t
 cov:∀q∈row,plt q t.2.2->s*ah t.1 t.2.1 q<=0/\(s*ah t.1 t.2.1 q=0->plt t.1 q->plt q t.2.1->False)
theorem Cq(hs:s=1\/s=-1){P:P2}(d:∀q∈done,plt q P):∀g,DW s done g P->∀t∈fq s P g,TOk s (done++[P]) t
 |[],_,t,h=>by cases h
 |[_],_,t,h=>by cases h
 |b::a::r,D,t,h=>by
  rw[fq]at h;split at h
  .rename_i k
   rcases GF.mp h with e |e
   .subst e;have ma:=D.sub a (by simp);have i:=D.sub b (by simp);refine⟨Hm _ ma,Hm _ i,by simp,D.desc.1,d b i,k,λq j f=>?_⟩;rcases Hi.mp j with y |y
    .exact D.cov.1 q y
    .rw[GL.mp y]at f;have c:plt P P:=f;unfold plt at c;lia
   .exact Cq hs d (a::r) (oW hs d D k) t e
  .cases h
theorem yK{P:P2}(b:∀q∈row,plt q P)(h:TOk s row t):TOk s (row++[P]) t:=by
 refine⟨Hm _ h.ma,Hm _ h.mb,Hm _ h.mP,h.ab,h.bP,h.d,λq c a=>?_⟩;rcases Hi.mp c with y |y
 .exact h.cov q y a
 .rw[GL.mp y]at a;have:=b _ h.mP;unfold plt at *;lia
theorem fc(hs:s=1\/s=-1):∀row,row.Pairwise plt->∀t∈(bv s row).2,TOk s row t:=by
 refine jq (λ_ t h=>by cases h) λl P m n t g=>?_;obtain⟨b,f⟩:=eY n;rw[cL]at g;rcases Hi.mp g with k |k
 .exact yK f (m b t k)
 .by_cases a:l=[]
  .subst a;cases k
  .refine Cq hs f _ ⟨pW hs l b a,λh r e q j c=>?_⟩ t k;have i:=(Lh a).symm;have d:=oN s l.dropLast (l.getLast a);rw[<-i,e]at d;have o:h=l.getLast a:=by simpa using d
   rw[o]at c;rw[i]at b j
   exfalso
   rcases Hi.mp j with k |k
   .have:=(eY b).2 q k;unfold plt at *;omega
   .rw[GL.mp k]at c;unfold plt at c;omega
theorem lK{a b:P2}(h:bY (b.1-a.1) (b.2-a.2)):plt a b:=by
 unfold bY at h;unfold plt;omega
theorem yX{b d v1 v2 m n:Int}(i:bY b d)(e:bY v1 v2)(f:0<=m)(g:0<=n):(m*b+n*v1=0/\m*d+n*v2=0)\/bY (m*b+n*v1) (m*d+n*v2):=by
 have one:∀{c a k:Int},bY c a->0<=k->(k*c=0/\k*a=0)\/bY (k*c) (k*a):=λ{c a k} h j=>by
  rcases HU j with z |z
  .right
   rcases h with h |⟨o,l⟩
   .exact .inl (HR z h)
   .exact .inr ⟨by rw[o,IJ],HR z l⟩
  .rw[<-z,Jn,Jn];exact .inl ⟨rfl,rfl⟩
 have p:=one i f;have q:=one e g;generalize m*b=t at *;generalize m*d=r at *;generalize n*v1=u at *;generalize n*v2=s at *;unfold bY at p q |-;clear i e f g one;omega
theorem jQ(hs:s=1\/s=-1)(h:TOk s row t)(N:p∈row)(K:0<=s*ah t.1 t.2.1 p)(A:0<=s*ah t.2.1 t.2.2 p)(F:0<=s*ah t.2.2 t.1 p):p=t.1\/p=t.2.1\/p=t.2.2:=by
 obtain⟨a,b,P⟩:=t;have w:=h.ab;have E:=h.bP;have d:=h.d;have G:=h.cov p N;dsimp only at *;unfold lM at d;dsimp only at d;have I:s*ah a b p+s*ah b P p+s*ah P a p=s*ah a b P:=by unfold ah;grind
 have f:s*ah a b P*(P.1-p.1)=s*ah b P p*(P.1-a.1)+s*ah P a p*(P.1-b.1):=by unfold ah;grind
 have j:s*ah a b P*(P.2-p.2)=s*ah b P p*(P.2-a.2)+s*ah P a p*(P.2-b.2):=by unfold ah;grind
 have l:s*ah a b P*(p.1-a.1)=s*ah P a p*(b.1-a.1)+s*ah a b p*(P.1-a.1):=by unfold ah;grind
 have i:s*ah a b P*(p.2-a.2)=s*ah P a p*(b.2-a.2)+s*ah a b p*(P.2-a.2):=by unfold ah;grind
 have o:s*ah a b P*(b.1-p.1)=s*ah b P p*(b.1-a.1)-s*ah a b p*(P.1-b.1):=by unfold ah;grind
 have g:s*ah a b P*(b.2-p.2)=s*ah b P p*(b.2-a.2)-s*ah a b p*(P.2-b.2):=by unfold ah;grind
 generalize s*ah a b P=D at *;generalize s*ah b P p=α at *;generalize s*ah P a p=β at *;generalize s*ah a b p=γ at *;have L:=bA w E;have zero:∀{x:Int},D*x=0->x=0:=λe=>(HA.mp e).resolve_left (Jz d);have c:∀{x:Int},0<D*x->0<x:=λe=>ID e d;have lp:∀{x y:Int},bY (D*x) (D*y)->bY x y:=λh=>h.imp c λh=>⟨zero h.1,c h.2⟩
 have same:∀{x y:P2},D*(x.1-y.1)=0->D*(x.2-y.2)=0->x=y:=λh H=>Ii (IS (zero h)) (IS (zero H));by_cases q:p=P
 .exact .inr (.inr q)
 have ltP:plt p P:=by
  have k:=yX (aG L) (aG E) A F;rw[<-f,<-j]at k;rcases k with ⟨u,v⟩ |k
  .exact absurd (same u v).symm q
  .exact lK (lp k)
 obtain⟨M,J⟩:=G ltP;have z:γ=0:=Ph M K;rw[z]at l i o g;simp only[Jn,Sg,Pi]at l i o g;by_cases B:β=0
 .rw[B,Jn]at l i;exact .inl (same l i)
 by_cases C:α=0
 .rw[C,Jn]at o g;exact .inr (.inl (same o g).symm)
 have n:∀{m f j:Int},0<=m->m≠0->D*f=m*(b.1-a.1)->D*j=m*(b.2-a.2)->bY f j:=λ{m f j} r O u v=>by
  have r:=(HU r).resolve_right (Ne.symm O);apply lp;rw[u,v];exact (aG w).imp (HR r) λh=>⟨by rw[h.1,IJ],HR r h.2⟩
 exact (J z (lK (n F B l i)) (lK (n A C o g))).elim
theorem BF (hs:s=1∨s=-1) (m:row.Pairwise plt) (conv:∀a b c p,a∈row→b∈row→c∈row→0<ah a b c→0≤ah a b p→0≤ah b c p→0≤ah c a p→p∈row):∀t∈(bv s row).2,lM t=s:=λt o=>by
 have K:=fc hs row m t o;have d:=K.d;rcases hs with e |e <;>subst e
 .have f:0<ah t.1 t.2.1 t.2.2:=by unfold lM at d;lia
  refine ua f λp h g i=>?_
  exact jQ (.inl rfl) K (conv _ _ _ p K.ma K.mb K.mP f h g i) (by lia) (by lia) (by lia)
 .have n:ah t.2.1 t.1 t.2.2=- lM t:=by unfold lM ah;grind
  have f:0<ah t.2.1 t.1 t.2.2:=by rw[n];lia
  have:=ua f λp h g i=>by
   have j:=conv _ _ _ p K.mb K.ma K.mP f h g i
   have l:ah t.1 t.2.1 p=- ah t.2.1 t.1 p:=by unfold ah;grind
   have r:ah t.2.1 t.2.2 p=- ah t.2.2 t.2.1 p:=by unfold ah;grind
   have q:ah t.2.2 t.1 p=- ah t.1 t.2.2 p:=by unfold ah;grind
   rcases jQ (.inr rfl) K j (by rw[l];lia) (by rw[r];lia) (by rw[q];lia) with k |k |k
   .exact .inr (.inl k)
   .exact .inl k
   .exact .inr (.inr k)
  lia
theorem oX(s)(P):∀c,(fq s P c).map (λt=>t.2.1)++cg s P c=c
 |[]=>rfl
 |[_]=>rfl
 |b::a::r=>by
  by_cases h:0<s*ah a b P
  .rw[cg,fq,if_pos h,if_pos h,G_,Ov,oX s P (a::r)]
  .rw[cg,fq,if_neg h,if_neg h];rfl
theorem pN(s):∀a,NL ((bv s a).2.map (λt=>t.2.1)++(bv s a).1) a:=by
 refine jq (Nw _) λl P b=>?_;rw[cL];show NL (((bv s l).2++fq s P (bv s l).1).map (λt=>t.2.1)++(P::cg s P (bv s l).1)) (l++[P]);have e:=oX s P (bv s l).1;rw[Hz,G8]
 have k:NL ((fq s P (bv s l).1).map (λt=>t.2.1)++(P::cg s P (bv s l).1)) ((bv s l).1++[P]):=by
  refine Om.trans ?_;rw[e];exact (Nl P _).symm
 refine (JN _ k).trans ?_;rw[<-G8];exact b.append_right [P]
theorem As(s)(h:row.Nodup):((bv s row).2.map (λt=>t.2.1)).Nodup:=by
 have:=(pN s row).nodup_iff.mpr h;exact (JJ.mp this).1
theorem B6(f:row.Pairwise plt)(c:row.Nodup):((bv 1 row).2++(bv (-1) row).2).Nodup:=by
 refine JJ.mpr ⟨?_,?_,λt h u g e=>?_⟩
 .exact (Hy.mp (As 1 c)).imp λ{a b} k e=>k (by rw[e])
 .exact (Hy.mp (As (-1) c)).imp λ{a b} k e=>k (by rw[e])
 .subst e;have i:=(fc (.inl rfl) row f t h).d;have j:=(fc (.inr rfl) row f t g).d;lia
theorem Ac(s n)(hs:s=1\/s=-1):decide (sgn n=s)=decide (0<s*n):=by
 refine decide_eq_decide.mpr ?_;unfold sgn;rcases hs with rfl |rfl <;>(repeat' split) <;>lia
noncomputable def b8(t:Tri):ST3.TR:=if 0<ah t.1 t.2.1 t.2.2 then (t.1,t.2.1,t.2.2) else (t.1,t.2.2,t.2.1)
theorem k7(g:plt a b)(f:plt b c)(h:ah a b c≠0):au [a,b,c]=[(b8 (a,b,c)).1,(b8 (a,b,c)).2.1,(b8 (a,b,c)).2.2]:=by
 have e:=bA g f
 have j:ST.srt [a,b,c]=[a,b,c]:=ST.asc_srt (by
  refine .cons (λx d=>?_) (.cons (λx d=>?_) (.cons (λx d=>by simp at d) .nil))
  .simp at d;rcases d with rfl |rfl
   .exact (d7 _ _).mp g
   .exact (d7 _ _).mp e
  .simp at d;rw[d];exact (d7 _ _).mp f)
 have i:ah c b a=-ah a b c:=by unfold ah;grind
 unfold au;rw[j];unfold b8;by_cases k:0<ah a b c
 .simp[ao,bg,i,k,show ¬ ah a b c<=0 by lia,show -ah a b c<=0 by lia]
 .simp[ao,bg,i,k,show ah a b c<=0 by lia,show ¬ -ah a b c<=0 by lia]
theorem ph(s)(row):(bv s row).2.length+(bv s row).1.length=row.length:=by
 have:=(pN s row).length_eq;rw[He,GD]at this;exact this
theorem B1(s)(row):∀q∈(bv s row).1,q∈row:=λq a=>(pN s row).mem_iff.mp (Ha _ a)
def yy:List U->Out->Prop:=λa o=>∃(row:List P2) (s:Int),a=[lp row,.int s]/\(s=1\/s=-1)/\row.Pairwise plt/\(∀p∈row,Szp 2500 p)/\row.length<=210/\o=.new ((bv s row).2.map λt=>trU (b8 t))
theorem mH:OkD P w base T.abQ 5 (yy):=by
 refine okD gd (by walk_at"ln") ?_;rintro _ _ _ hr ⟨row,s,rfl,hs,Vk,sz,hl,rfl⟩;refine af (fP (i:=2) gd.nd rfl (Or.inl rfl) (bI aF) ?_);refine af (fP (i:=3) gd.nd rfl (Or.inl rfl) (bI aF) ?_);refine af (d_ (λz:List P2×List Tri=>[some (.val (lp row)),some (.val (.int s)),some (.own (z.1.reverse.map pu)),some (.own (z.2.map λt=>trU (b8 t))),none]) (λi z=>z=bv s (row.take i)) rfl PassesOwn.never (bZ (aa 0 rfl) (.inl rfl)) ?h0 ?hs ?hd)
 case h0=>exact⟨([],[]),rfl,rfl,rfl,rfl,rfl,trivial⟩
 case hs=>
  rintro H0 i x _ hx rfl;obtain⟨P,hP,mP,rfl⟩:=zR hx;have hi:=aH hP;have sP:=sz P mP;refine⟨_,(eW (i:=4) gd.nd rfl (Or.inl rfl)),?_⟩;have tk:row.take (i+1)=row.take i++[P]:=by rw[Ku,hP];rfl
  have hp:(row.take i++[P]).Pairwise plt:=by rw[<-tk];exact Vk.sublist (NF _ _)
  obtain⟨hp1,hp2⟩:=eY hp;have lz:=ph s (row.take i);rw[K8]at lz
  have sub:∀q∈(bv s (row.take i)).1,q∈row/\plt q P:=λq hq=>by
   have:=B1 s _ q hq;exact⟨LK this,hp2 q this⟩
  have hdesc:jK (bv s (row.take i)).1:=by
   by_cases h0:row.take i=[]
   .rw[h0];exact trivial
   .exact (pW hs _ hp1 h0).desc
  have suc:bv s (row.take (i+1))=wst s (bv s (row.take i)) P:=by rw[tk,cL]
  generalize bv s (row.take i)=z at *;refine jL (λps=>SubP [some (.val (lp row)),some (.val (.int s)),some (.own ((cg s P z.1).reverse.map pu)),some (.own ((z.2++fq s P z.1).map λt=>trU (b8 t))),some (.val (pu P))] ps) (gH (λy:List P2×List Tri=>[some (.val (lp row)),some (.val (.int s)),some (.own (y.1.reverse.map pu)),some (.own (y.2.map λt=>trU (b8 t))),some (.val (pu P))]) (λn y=>n=y.1.length/\cg s P y.1=cg s P z.1/\y.2++fq s P y.1=z.2++fq s P z.1/\(∀q∈y.1,q∈row/\plt q P)/\jK y.1/\y.2.length+y.1.length<=i) PassesOwn.never ?h0 ?hs) ?hj
  case h0=>exact⟨_,z,⟨rfl,rfl,rfl,sub,hdesc,by lia⟩,rfl,rfl,rfl,rfl,rfl,trivial⟩
  case hs=>
   rintro m ⟨y1,y2⟩ ⟨rfl,e1,e2,sb,ds,le⟩;dsimp only at e1 e2 sb ds le |-
   match y1,e1,e2,sb,ds,le with
   |[],e1,e2,sb,ds,le=>
    refine⟨false,?_,λh=>(nomatch h),λh ps S7=>?_⟩
    .exact (Tw.t (gD (aw eo (cC 2 rfl rfl T.aae) ag) rfl))
    .rw[<-e1,<-e2];simpa [cg,fq] using S7
   |[b],e1,e2,sb,ds,le=>
    refine⟨false,?_,λh=>(nomatch h),λh ps S7=>?_⟩
    .exact (Tw.t (gD (aw eo (cC 2 rfl rfl T.aae) ag) rfl))
    .rw[<-e1,<-e2];simpa [cg,fq] using S7
   |b::a::r,e1,e2,sb,ds,le=>
    have sa:=sz a (sb a (by simp)).1;have sbb:=sz b (sb b (by simp)).1;have pbP:=(sb b (by simp)).2;have pab:=ds.1;have l1:decide (1<((((b::a::r).reverse.map pu).length:Nat):Int))=true:=decide_eq_true (by simp;lia);have up:∀{p},Szp 2500 p->Szp 5000 p:=λh=>⟨h.1.mono (by decide),h.2.mono (by decide)⟩
    refine⟨decide (1<((((b::a::r).reverse.map pu).length:Nat):Int)) && decide (sgn (ah a b P)=s),?_,λh=>?_,λh ps S7=>?_⟩
    .exact (Tw.t (lh (aw eo (cC 2 rfl rfl T.aae) ag) (λhz=>(jH (aw aW (a_ (kI T) hr (ae (fh 2 rfl (bT ag) (um b a r)) (ae (fh 2 rfl (bT ag) (uy b (a::r))) (ae (aa 4 rfl) ak ai) aK) aK) ⟨a,b,P,rfl,up sa,up sbb,up sP,rfl⟩) (aa 1 rfl))))))
    .rw[l1,LD,Ac s _ hs]at h;have hd:=dTb h;have hd0:ah a b P≠0:=λz=>by rw[z]at hd;simp at hd
     have ct:=k7 pab pbP hd0
     refine af (cN 3 rfl (pG (AN (.inl rfl)) rfl T.abn Qy (ae (EvN.ev (cT (lN T) hr (ae (EvN.ev (bI (aj (fh 2 rfl (bT ag) (um b a r)) (aj (fh 2 rfl (bT ag) (uy b (a::r))) (aj (aa 4 rfl) aF ai) aK) aK))) ak Ee) ⟨[a,b,P],rfl,λp hp=>by
      simp only[GF,G9,or_false]at hp;rcases hp with rfl |rfl |rfl
      .exact up sa
      .exact up sbb
      .exact up sP,by simp,by simp,by rw[ct]⟩)) ak aB)) (by rw[GD];exact aE (by simp at le;lia)) ?_)
     refine af (z_ 2 rfl (by simp) (aA ?_));refine⟨_,(a::r,y2++[(a,b,P)]),?_,⟨rfl,?_,?_,λq hq=>sb q (GG _ hq),ds.2,?_⟩,rfl,rfl,?_,?_,rfl,trivial⟩
     .simp
     .rw[←e1];conv=>rhs;unfold cg
      rw[if_pos hd]
     .rw[←e2];conv=>rhs;unfold fq
      rw[if_pos hd];simp
     .simp at le |-;lia
     .exact congrArg (λl=>some (Sl.own l)) (by simp)
     .exact congrArg (λl=>some (Sl.own l)) (by simp)
    .rw[l1,LD,Ac s _ hs]at h;have hd:=dFb h
     have k1:cg s P (b::a::r)=b::a::r:=by conv=>lhs;unfold cg
                                          rw[if_neg hd]
     have k2:fq s P (b::a::r)=[]:=by conv=>lhs;unfold fq
                                     rw[if_neg hd]
     rw[<-e1,<-e2,k1,k2,II];exact S7
  case hj=>
   intro ps S7;refine cX ?_ S7
   have kl:(cg s P z.1).length<=z.1.length:=by
    have:∀st,(cg s P st).length<=st.length:=λst=>by
     have:=congrArg M9 (oX s P st);rw[He]at this;lia
    exact this _
   refine af (cN 2 rfl (aa 4 rfl) (by rw[GD,HL];exact aE (by lia)) (aA ?_));refine⟨_,rfl,rfl,rfl,?_,?_,trivial⟩
   .exact congrArg (λl=>some (Sl.own l)) (by rw[suc];simp[wst])
   .exact congrArg (λl=>some (Sl.own l)) (by rw[suc];rfl)
 case hd=>
  rintro q ps hq S7;refine cX ?_ S7;rw[GD]at hq;subst hq;rw[Kj];refine af (gh 3 rfl ?_);exact rfl
noncomputable def dk(k:Int)(Q R x:P2):Int:=k*(Q.1*R.2-Q.2*R.1)+x.1*(Q.2-R.2)-x.2*(Q.1-R.1)
theorem iH(a b c):ah a b a=0/\ah a b b=0/\ah b c a=ah a b c/\ah c a b=ah a b c:=by
 unfold ah;refine⟨?_,?_,?_,?_⟩ <;>grind
theorem jy(c:Sz n a)(d:Sz n b)(f:a<=x)(e:x<=b):Sz n x:=by
 rcases Ig x 0 with z |z
 .exact c.natle (by lia)
 .exact d.natle (by lia)
theorem ov(c:l≠[])(h:∀p∈l,Szp 150 p):loX l<=hiX l/\loY l<=hiY l/\Sz 150 (loX l)/\Sz 150 (hiX l)/\Sz 150 (loY l)/\Sz 150 (hiY l):=by
 have b:l.map (·.1)≠[]:=by simpa using c
 have a:l.map (·.2)≠[]:=by simpa using c
 obtain⟨f,g,n⟩:=GJ.mp (bV b).1;obtain⟨d,m,o⟩:=GJ.mp (cV b).1;obtain⟨e,r,q⟩:=GJ.mp (bV a).1;obtain⟨i,k,j⟩:=GJ.mp (cV a).1;have l1:=(bV b).2 _ (cV b).1;have l2:=(bV a).2 _ (cV a).1;refine⟨l1,l2,?_,?_,?_,?_⟩
 .unfold loX;rw[<-n];exact (h f g).1
 .unfold hiX;rw[<-o];exact (h d m).1
 .unfold loY;rw[<-q];exact (h e r).2
 .unfold hiY;rw[<-j];exact (h i k).2
theorem wH(F:Fld l)(u:3<=l.length):∀a b c p,a∈aX l->b∈aX l->c∈aX l->0<ah a b c->0<=ah a b p->0<=ah b c p->0<=ah c a p->p∈aX l:=λa b c p i n t h m j g=>by
 have d:∀q,q∈aX l↔∀s∈sdl l,0<=ah s.1 s.2 q:=λq=>by rw[bo F,dG u]
 rw[d]at *;intro s f;have k:=i s f;have r:=n s f;have o:=t s f;have y:ah a b c*ah s.1 s.2 p=ah s.1 s.2 a*ah b c p+ah s.1 s.2 b*ah c a p+ah s.1 s.2 c*ah a b p:=by unfold ah;grind
 have x:=Hh k j;have v:=Hh r g;have w:=Hh o m;rcases Ig (ah s.1 s.2 p) 0 with z |z
 .exfalso
  have:=HR h (show 0 < -ah s.1 s.2 p by lia);have e:ah a b c* -ah s.1 s.2 p=-(ah a b c*ah s.1 s.2 p):=by grind
  lia
 .exact z
theorem cf(l):(aX l).Pairwise plt:=(ST.srt_asc _).imp λ{a b} h=>(d7 a b).mpr h
noncomputable def tK(l:List P2):List Tri:=(bv 1 (aX l)).2++(bv (-1) (aX l)).2
noncomputable def pcs(l:List P2):List ST3.TR:=(tK l).map b8
theorem DF(l):(pcs l).Nodup:=by
 have f:=cf l;have m:(aX l).Nodup:=f.imp λ{a b} h e=>by subst e;exact aI a h
 unfold pcs;refine Hy.mpr ((B6 f m).imp_of_mem λ{x y} o j k e=>k ?_)
 have d:∀t,t∈tK l->plt t.1 t.2.1/\plt t.2.1 t.2.2:=λt n=>by
  rcases Hi.mp n with h |h
  .have:=fc (.inl rfl) _ f t h;exact⟨this.ab,this.bP⟩
  .have:=fc (.inr rfl) _ f t h;exact⟨this.ab,this.bP⟩
 obtain⟨p,i⟩:=d x o;obtain⟨s,g⟩:=d y j;obtain⟨a,b,c⟩:=x;obtain⟨r,u,q⟩:=y;unfold b8 at e;dsimp only at *;split at e <;>split at e <;>simp only[N6]at e
 .obtain⟨rfl,rfl,rfl⟩:=e;rfl
 .obtain⟨rfl,rfl,rfl⟩:=e;exact absurd (bA i g) (aI _)
 .obtain⟨rfl,rfl,rfl⟩:=e;exact absurd (bA i g) (aI _)
 .obtain⟨rfl,rfl,rfl⟩:=e;rfl
theorem A9(l):(tK l).length<=2*(aX l).length:=by
 unfold tK;have a:=ph 1 (aX l);have b:=ph (-1) (aX l);rw[He];lia
noncomputable def dE:List P2->List (List P2)
 |a::b::r=>[a,b]::dE (b::r)
 |_=>[]
noncomputable def c6(l:List P2):List (List P2):=if l.length=1 then [[gp l 0]] else if l.length=2 then dE (aX l) else (SG.srt ST3.KT (pcs l)).map λt=>[t.1,t.2.1,t.2.2]
noncomputable abbrev plU(q:List P2):U:=.tup (q.map pu)
theorem n8:∀r,L_ (λa b=>U.tup [a,b]) (r.map pu) ((r.map pu).drop 1)=(dE r).map plU
 |[]=>rfl
 |[_]=>rfl
 |a::b::r=>by
  have ih:=n8 (b::r);simp only[G_,List.drop_succ_cons,List.drop_zero,List.zipWith_cons_cons,dE]at ih |-;rw[ih];rfl
theorem iQ(F:Fld [A]):aX [A]=[A]:=by
 rw[<-oB (R:=[A]) F λp=>by rw[fD];simp];exact cW (pts:=[A]) (by have:=ST.srt_len [A];simp at this;lia) ▸ F.cr
structure gU(l:List P2):Prop where
 F:Fld l
 l64:l.length<64
 sz:∀p∈l,Szp 150 p
 cnt:dY l<=100
 np:(aX l).length<=210
def xh(C:Hc):List U->Out->Prop:=λa o=>∃l:List P2,a=[lp l]/\((gU l/\o=.new ((c6 l).map plU))\/(Fld l/\l.length<64/\(∀p∈l,Szp 150 p)/\100<dY l/\o=.exc C))
theorem jv  :c_ P w K mg base (CXF P w) 9 T.aaE.a T.aaE.d ["land"] (spU K (xh T.aad.c)):=by
 refine uT T.aaE.F jP (by rintro C o ⟨_,rfl,_⟩;rfl) (λG A k s H E O C o e h=>?_);obtain⟨l,rfl,h⟩:=h;rcases h with ⟨⟨F,g,sz,r,fl⟩,rfl⟩ |⟨F,g,sz,r,rfl⟩
 rotate_left
 .refine af (DZ (i:=1) jP.nd rfl (Or.inl rfl) (zI ((nK T).mono (by decide)) e rfl T.aaD.m T.aaD.F.kp T.aaD.b tW (ae (aa 0 rfl) ak ai) ⟨l,rfl,F,g,sz,.inr ⟨r,rfl⟩⟩) ?_);exact rfl
 refine Ws.nox ?_;have f:((l.map pu).length:Int)=(l.length:Int):=by rw[GD]
 have I:0<l.length:=Hx.mpr F.ne;refine af (av 1 jP.nd (EvN.ev (cT (nK T) e (ae (aa 0 rfl) ak ai) ⟨l,rfl,F,g,sz,.inl ⟨r,fl,rfl⟩⟩)) ?_);by_cases j:l.length=1
 .obtain⟨A,rfl⟩:=JC.mp j;rw[iQ F];refine af (bR (aw aW (aq (bu rfl) rfl T.aae G3 (ae (aa 0 rfl) ak ai)) ag) rfl ?_);refine af (cx (bI (aj (aL (aj (ax (aa 1 rfl) ag rfl rfl) aF aK)) aF bL)) ?_);exact rfl
 refine af (aU (aw aW (aq (bu rfl) rfl T.aae G3 (ae (aa 0 rfl) ak ai)) ag) (by rw[f];exact decide_eq_false (by lia)) (aA ?_));by_cases u:l.length=2
 .refine af (bR (aw aW (aq (bu rfl) rfl T.aae G3 (ae (aa 0 rfl) ak ai)) ag) (by rw[f];exact decide_eq_true (by lia)) ?_);refine af (cx (nU rfl rfl T.aat rfl T.ab_ (aa 1 rfl) (.inl rfl) (EvN.ev (eF (aa 1 rfl) (fZ ag) f7 (.inl rfl))) (.inl rfl) ai aK) ?_);rw[rH,n8];unfold c6;rw[if_neg j,if_pos u]
 refine af (aU (aw aW (aq (bu rfl) rfl T.aae G3 (ae (aa 0 rfl) ak ai)) ag) (by rw[f];exact decide_eq_false (by lia)) (aA ?_));have v:=A9 l
 have fz:∀p∈aX l,Szp 2500 p:=λp D=>by
  have q:=(dI F.ne).mp (F.in_box ((bo F p).mp D));obtain⟨_,_,y,x,z,B⟩:=ov F.ne sz;exact⟨(jy y x q.1.1 q.1.2).mono (by decide),(jy z B q.2.1 q.2.2).mono (by decide)⟩
 have n:U.lst (((bv 1 (aX l)).2.map λt=>trU (b8 t))++((bv (-1) (aX l)).2.map λt=>trU (b8 t)))=U.lst ((pcs l).map trU):=by
  unfold pcs tK;rw[Ho,Hz];rfl
 refine af (cx (lY ST3.KT trU t0 (trs:=pcs l) Gx (λa b=>ST3.KT_det a b) rfl T.aal (ig e) (o4 n (EvN.ev (fN (EvN.ev (cT (mH T) e (ae (aa 1 rfl) (ae ag ak aO) ai) ⟨aX l,1,rfl,.inl rfl,cf l,fz,by lia,rfl⟩)) (EvN.ev (cT (mH T) e (ae (aa 1 rfl) (ae (bT ag) ak jA) ai) ⟨aX l,-1,rfl,.inr rfl,cf l,fz,by lia,rfl⟩)) (by rw[GD,GD];exact Hd (aE (by unfold tK at v;rw[He]at v;lia)))))) ⟨by unfold pcs;rw[GD];lia,DF l⟩ aN) ?_);unfold c6;rw[if_neg j,if_neg u,Ho];exact rfl
def oR:List U->Out->Prop:=λa o=>∃P Q R:P2,a=[pu P,pu Q,pu R]/\Szp 5000 P/\Szp 5000 Q/\Szp 5000 R/\o=.val (.bl (btw P Q R))
theorem xY(n):decide (sgn n=0)=decide (n=0):=decide_eq_decide.mpr (by unfold sgn;split <;>(try split) <;>lia)
theorem kq:OkD P w base T.abe 3 (oR):=by
 refine okD j9 (by walk_at"ln") ?_;rintro _ _ _ a ⟨P,Q,R,rfl,p,q,r,rfl⟩;refine af (aR (nY (dw aW (a_ (kI T) a (ae (aa 0 rfl) (ae (aa 1 rfl) (ae (aa 2 rfl) ak ai) ai) ai) ⟨P,Q,R,rfl,p,q,r,rfl⟩) ag) (λb=>(oj (Bt (qC (ig a)) (qC (ig a)) (aa 0 rfl) (aa 2 rfl) (aa 1 rfl))))) ?_);rw[xY];rfl
def rM:List U->Out->Prop:=λa o=>∃(l:List P2) (p:P2),a=[lp l,pu p]/\0<l.length/\l.length<=900/\(∀q∈l,Szp 5000 q)/\Szp 5000 p/\o=.val (.int (whr l p))
theorem lV:OkD P w base T.ab8 4 (rM):=by
 refine okD lD (by walk_at"ln") ?_;rintro _ _ _ c ⟨l,p,rfl,a,m,sz,h,rfl⟩;have f:((l.map pu).length:Int)=(l.length:Int):=by rw[GD]
 have r:=sz _ (bU a);have t:=sz _ (bU (l:=l) (i:=l.length-1) (by lia));by_cases k:l.length<3
 .refine af (bR (aw d8 (aq (bu rfl) rfl T.aae G3 (ae (aa 0 rfl) ak ai)) ag) (by rw[f];exact decide_eq_true (by lia)) ?_);refine af (aR (Fp (c9 (a_ (kq T) c (ae (ax (aa 0 rfl) ag rfl (Fk a)) (ae (ax (aa 0 rfl) (bT ag) rfl (uh a)) (ae (aa 1 rfl) ak ai) aK) aK) ⟨_,_,_,rfl,r,t,h,rfl⟩)) ag (bT ag)) ?_);unfold whr;rw[if_pos k];by_cases b:btw (gp l 0) (gp l (l.length-1)) p=true
  .rw[if_pos b,if_pos b]
  .rw[if_neg b,if_neg b]
 .refine af (aU (aw d8 (aq (bu rfl) rfl T.aae G3 (ae (aa 0 rfl) ak ai)) ag) (by rw[f];exact decide_eq_false (by lia)) (aA ?_));refine af (aR (aq (x9 rfl (BN (l:=jN l p) (by intro e;have:=congrArg M9 e;simp[jN,fi]at this;rw[this]at a;simp at a))) rfl T.ab0 R3 (ae (EvN.ev (cE (ys:=((jN l p).map sgn |>.map U.int)) rfl (blk (am o9) ["land","P","A","B"] [2,3] rfl rfl rfl rfl (by decide+kernel)) (EvI.z (bZ (EvN.ev (cT (gM T) c (ae (aa 0 rfl) ak ai) ⟨l,rfl,m,rfl⟩)) (.inl rfl))) (λ_ _ _ _=>dX rfl (aV (aT (i:=2) lD.nd rfl (Or.inl rfl)) (aV (aT (i:=3) lD.nd rfl (Or.inl rfl)) cF))) (df (js:=[2,3]) (by decide)) ?clen ?csz ?dom ?celt)) ak cH)) ?_)
  case clen=>simp[jN]
  case csz=>simp only[jN,fi,GD];exact Hd (aE (by lia))
  case dom=>
   intro x d;obtain⟨s,_,rfl⟩:=GJ.mp d;exact⟨_,rfl,rfl⟩
  case celt=>
   intro C A v u j x y d g;rw[jN,Ho,Ho]at g;obtain⟨s,B,n,rfl,rfl⟩:=di d g;obtain⟨o,q⟩:=cP n;exact (a_ (kI T) c (ae (aa 2 rfl) (ae (aa 3 rfl) (ae (aa 1 rfl) ak ai) ai) ai) ⟨s.1,s.2,p,rfl,sz _ o,sz _ q,h,rfl⟩)
  unfold whr;rw[if_neg k]
inductive Wd:List P2->List P2->Prop
 |one (a:P2) (s t:Int):dD ((a.1+1)-a.1) (a.2-a.2) 1 s t->Wd [a] [a,(a.1+1,a.2),(a.1-t,a.2+s)]
 |two (a b:P2) (s t:Int):dD (b.1-a.1) (b.2-a.2) 1 s t->Wd [a,b] [a,b,(a.1-t,a.2+s)]
 |three (a b c:P2):Wd [a,b,c] [a,b,c]
structure Lv1(a b:P2)(s t:Int):Prop where
 two:yw a.1 a.2 b.1 b.2
 G:dD (b.1-a.1) (b.2-a.2) 1 s t
 G1:dD ((b.1-a.1)/1) ((b.2-a.2)/1) 1 s t
 M:Mv s t (-((b.2-a.2)/1)) ((b.1-a.1)/1) (-s*a.1-t*a.2) ((b.2-a.2)/1*a.1-(b.1-a.1)/1*a.2)
 B:Mv ((b.1-a.1)/1) (-t) ((b.2-a.2)/1) s a.1 a.2
 e:BS s t (-((b.2-a.2)/1)) ((b.1-a.1)/1) (-s*a.1-t*a.2) ((b.2-a.2)/1*a.1-(b.1-a.1)/1*a.2)=mv ((b.1-a.1)/1) (-t) ((b.2-a.2)/1) s a.1 a.2
theorem lv1(c:Szp 2501 a)(e:Szp 2501 b)(G:dD (b.1-a.1) (b.2-a.2) 1 s t):Lv1 a b s t:=by
 have f:Sz 2502 ((b.1-a.1)/1):=by rw[Pj];exact (L2.Sz.sub' e.1 c.1).mono (by decide)
 have d:Sz 2502 ((b.2-a.2)/1):=by rw[Pj];exact (L2.Sz.sub' e.2 c.2).mono (by decide)
 have g:dD ((b.1-a.1)/1) ((b.2-a.2)/1) 1 s t:=by rw[Pj,Pj];exact G
 obtain⟨_,i,h⟩:=jc g f d;have j:=g.eq;have k:Sz _ (-s):=i.natle (by lia);have l:Sz _ (-t):=h.natle (by lia);have m:Sz 2502 (-((b.2-a.2)/1)):=d.natle (by lia);refine⟨⟨c.1.mono (by decide),c.2.mono (by decide),e.1.mono (by decide),e.2.mono (by decide)⟩,G,g,⟨.inl (by grind),i.mono (by decide),h.mono (by decide),m.mono (by decide),f.mono (by decide),(L2.Sz.sub' (L2.Sz.mul k c.1) (L2.Sz.mul h c.2)).mono (by decide),(L2.Sz.sub' (L2.Sz.mul d c.1) (L2.Sz.mul f c.2)).mono (by decide)⟩,⟨.inl (by grind),f.mono (by decide),l.mono (by decide),d.mono (by decide),i.mono (by decide),c.1.mono (by decide),c.2.mono (by decide)⟩,uR j⟩
theorem qz{a b:P2}(s t):pt ((b.1-a.1)/1*0+-t*1+a.1) ((b.2-a.2)/1*0+s*1+a.2)=pu (a.1-t,a.2+s):=by
 have d:(b.1-a.1)/1*0+-t*1+a.1=a.1-t:=by rw[IJ];lia
 have c:(b.2-a.2)/1*0+s*1+a.2=a.2+s:=by rw[IJ];lia
 rw[d,c]
def BZ:List U->Out->Prop:=λa o=>∃q c:List P2,a=[plU q]/\Wd q c/\(∀p∈q,Szp 2500 p)/\o=.new (c.map pu)
theorem tH:OkD P w base T.abR 5 (BZ):=by
 refine okD f6 (by walk_at"ln") ?_;rintro _ _ _ d ⟨q,c,rfl,W,sz,rfl⟩;have f:Sz 30000 1:=Sz.mono (m:=8) (by decide) (by decide);have h:Sz 30000 0:=Sz.mono (m:=8) (by decide) (by decide);cases W with
 |one a s t G=>
  have g:=sz a (by simp);have j:Szp 2501 (a.1+1,a.2):=⟨(L2.Sz.add' g.1 (Sz.mono (m:=8) (n:=2500) (by decide) (by decide))).mono (by decide),g.2.mono (by decide)⟩
  have L:=lv1 (g.mono (by decide)) j G;refine af (fP (i:=1) f6.nd rfl (Or.inl rfl) (fm (gK rfl) rfl T.aat LO (ae (aa 0 rfl) ak ai)) ?_);refine af (bR (aw aW (cC 1 rfl rfl T.aae) ag) rfl ?_);refine af (cN 1 rfl (aL (aj (bH (ax (fh 1 rfl ag rfl) ag rfl rfl) ag) (aj (ax (fh 1 rfl ag rfl) ag rfl rfl) aF aK) aN)) (aE (by simp)) (aA ?_));refine af (bR (aw aW (cC 1 rfl rfl T.aae) ag) rfl ?_);refine af (cN 1 rfl (a_ (jo T) d (ae (aL (aj ag (aj ag aF aO) aO)) (ae (a_ (gC T) d (ae (a_ (mj T) d (ae (fh 1 rfl ag rfl) (ae (fh 1 rfl ag rfl) ak aK) aK) ⟨a.1,a.2,a.1+1,a.2,1,s,t,s,t,rfl,L.two,L.G,by decide,L.G1,rfl⟩) ak aB) ⟨_,_,_,_,_,_,rfl,L.M,rfl⟩) ak aB) bL) ⟨0,1,_,_,_,_,_,_,by rw[L.e],L.B,h,f,rfl⟩) (aE (by simp)) (aA ?_));refine af (gh 1 rfl ?_);rw[qz];exact rfl
 |two a b s t G=>
  have g:=sz a (by simp);have j:=sz b (by simp);have L:=lv1 (g.mono (by decide)) (j.mono (by decide)) G;refine af (fP (i:=1) f6.nd rfl (Or.inl rfl) (fm (gK rfl) rfl T.aat LO (ae (aa 0 rfl) ak ai)) ?_);refine af (aU (aw aW (cC 1 rfl rfl T.aae) ag) rfl (aA ?_));refine af (bR (aw aW (cC 1 rfl rfl T.aae) ag) rfl ?_);refine af (cN 1 rfl (a_ (jo T) d (ae (aL (aj ag (aj ag aF aO) aO)) (ae (a_ (gC T) d (ae (a_ (mj T) d (ae (fh 1 rfl ag rfl) (ae (fh 1 rfl ag rfl) ak aK) aK) ⟨a.1,a.2,b.1,b.2,1,s,t,s,t,rfl,L.two,L.G,by decide,L.G1,rfl⟩) ak aB) ⟨_,_,_,_,_,_,rfl,L.M,rfl⟩) ak aB) bL) ⟨0,1,_,_,_,_,_,_,by rw[L.e],L.B,h,f,rfl⟩) (aE (by simp)) (aA ?_));refine af (gh 1 rfl ?_);rw[qz];exact rfl
 |three a b c=>
  refine af (fP (i:=1) f6.nd rfl (Or.inl rfl) (fm (gK rfl) rfl T.aat LO (ae (aa 0 rfl) ak ai)) ?_);refine af (aU (aw aW (cC 1 rfl rfl T.aae) ag) rfl (aA ?_));refine af (aU (aw aW (cC 1 rfl rfl T.aae) ag) rfl (aA ?_));refine af (gh 1 rfl ?_);exact rfl
def rY:List U->Out->Prop:=λa o=>∃(k:Int) (x Q R:P2),a=[.int k,pu x,pu Q,pu R]/\Sz 1000 k/\Szp 5000 x/\Szp 5000 Q/\Szp 5000 R/\o=.val (.int (dk k Q R x))
theorem lc:OkD P w base T.ab9 1 (rY):=by
 refine okD zS (by walk_at"ln") ?_;rintro _ _ _ e ⟨k,x,Q,R,rfl,b,⟨d,c⟩,⟨h,a⟩,⟨g,f⟩,rfl⟩;refine af (aR (bj (bH (aJ (aa 0 rfl) (bj (aJ (ax (aa 2 rfl) ag rfl rfl) (ax (aa 3 rfl) ag rfl rfl) (by walk_at"mul")) (aJ (ax (aa 2 rfl) ag rfl rfl) (ax (aa 3 rfl) ag rfl rfl) (by walk_at"mul"))) (by walk_at"mul")) (aJ (ax (aa 1 rfl) ag rfl rfl) (bj (ax (aa 2 rfl) ag rfl rfl) (ax (aa 3 rfl) ag rfl rfl)) (by walk_at"mul"))) (aJ (ax (aa 1 rfl) ag rfl rfl) (bj (ax (aa 2 rfl) ag rfl rfl) (ax (aa 3 rfl) ag rfl rfl)) (by walk_at"mul"))) ?_);exact rfl
noncomputable def wts:List P2->Int->P2->List (P2×Int)
 |[a,b,c],k,x=>[(a,dk k b c x),(b,dk k c a x),(c,dk k a b x)]
 |_,_,_=>[]
noncomputable def eV(c:List P2)(k:Int)(x:P2):List ST3.PQ:=SG.srt ST3.KQ ((wts c k x).filter λz=>decide (0<z.2))
def yA:List U->Out->Prop:=λa o=>∃(q c:List P2) (k:Int) (x:P2),a=[plU q,.int k,pu x]/\Wd q c/\(∀p∈q,Szp 2500 p)/\(∀p∈c,Szp 5000 p)/\c.Nodup/\Sz 1000 k/\Szp 5000 x/\o=.new ((eV c k x).map qU)
theorem ql(W:Wd q c):∃a b d,c=[a,b,d]:=by cases W <;>exact⟨_,_,_,rfl⟩
noncomputable def wy(l:List (P2×Int)):List (Option U):=l.map λz=>if 0<z.2 then some (qU z) else none
theorem AW(l):(wy l).filterMap id=(l.filter λz=>decide (0<z.2)).map qU:=by
 induction l with
 |nil=>rfl
 |cons p l a=>
  unfold wy at *;rw[G_,Oj];by_cases h:0<p.2
  .rw[if_pos h,if_pos (by simpa using h),G_,<-a];rfl
  .rw[if_neg h,if_neg (by simpa using h)];exact a
theorem F4(b d a):(sdl [b,d,a]).map pq=[pq (b,d),pq (d,a),pq (a,b)]:=by
 unfold sdl nxt;simp[KU,gp]
theorem kg:OkD P w base T.abf 6 (yA):=by
 refine okD bJ (by walk_at"ln") ?_;rintro _ _ _ g ⟨q,c,k,x,rfl,W,G,s,nd,t,r,rfl⟩;obtain⟨a,b,d,rfl⟩:=ql W;have u:=s a (by simp);have E:=s b (by simp);have v:=s d (by simp);refine af (av 3 bJ.nd (EvN.ev (cT (tH T) g (ae (aa 0 rfl) ak ai) ⟨q,_,rfl,W,G,rfl⟩)) ?_);have F:iF (([a,b,d]:List P2).map pu) (some 1) none++iF (([a,b,d]:List P2).map pu) none (some 1)=([b,d,a]:List P2).map pu:=by rw[rH,ud];rfl
 refine af (av 4 bJ.nd (EvN.ev (cT (gM T) g (ae (o4 (congrArg U.lst F) (EvN.ev (fN (EvN.ev (eF (aa 3 rfl) (fZ ag) f7 (.inl rfl))) (EvN.ev (eF (aa 3 rfl) f7 (fZ ag) (.inl rfl))) (by rw[rH,ud];exact Hd (aE (by simp)))))) ak aN) ⟨[b,d,a],rfl,by simp,rfl⟩)) ?_);rw[F4];show Ws _ _ _ _ _ _ [some (.val (plU q)),some (.val (.int k)),some (.val (pu x)),some (.val (lp [a,b,d])),some (.val (.lst [pq (b,d),pq (d,a),pq (a,b)])),none,none,none,none];refine af (tE (ys:=(wts [a,b,d] k x).map qU) (j:=5) false rfl bJ.nd rfl (Or.inl rfl) (blk (am dh) ["piece","k","P","corners","across","pairs","corner","side","pair"] [6,7] rfl rfl rfl rfl (by decide+kernel)) (Eh rfl T.ab_ (aa 3 rfl) (.inl rfl) (aa 4 rfl) (.inl rfl) rfl ai ai) (λ_ _ _ _=>dX rfl (aV (aT (i:=6) bJ.nd rfl (Or.inl rfl)) (aV (aT (i:=7) bJ.nd rfl (Or.inl rfl)) cF))) (df (js:=[6,7]) (by decide)) ?clen ?csz ?dom ?celt ?_)
 case clen=>rfl
 case csz=>exact Hd (aE (by simp[io]))
 case dom=>
  intro z hz;simp only[io,G_,KY,GF,G9,or_false]at hz;rcases hz with rfl |rfl |rfl <;>exact⟨_,rfl,rfl⟩
 case celt=>
  intro C D A B j z y hz f
  match j,hz,f with
  |0,hz,f=>
   cases hz;cases f;exact (aL (aj (aa 6 rfl) (aj (a_ (lc T) g (ae (aa 1 rfl) (ae (aa 2 rfl) (ae (ax (aa 7 rfl) ag rfl rfl) (ae (ax (aa 7 rfl) ag rfl rfl) ak aK) aK) ai) ai) ⟨k,x,b,d,rfl,t,r,E,v,rfl⟩) aF aB) ai))
  |1,hz,f=>
   cases hz;cases f;exact (aL (aj (aa 6 rfl) (aj (a_ (lc T) g (ae (aa 1 rfl) (ae (aa 2 rfl) (ae (ax (aa 7 rfl) ag rfl rfl) (ae (ax (aa 7 rfl) ag rfl rfl) ak aK) aK) ai) ai) ⟨k,x,d,a,rfl,t,r,v,u,rfl⟩) aF aB) ai))
  |2,hz,f=>
   cases hz;cases f;exact (aL (aj (aa 6 rfl) (aj (a_ (lc T) g (ae (aa 1 rfl) (ae (aa 2 rfl) (ae (ax (aa 7 rfl) ag rfl rfl) (ae (ax (aa 7 rfl) ag rfl rfl) ak aK) aK) ai) ai) ⟨k,x,a,b,rfl,t,r,u,E,rfl⟩) aF aB) ai))
  |j+3,hz,f=>simp[wts]at f
 have H:((wts [a,b,d] k x).map (·.1)).Nodup:=nd;have I:(wts [a,b,d] k x).length=3:=rfl;show Ws _ _ _ _ _ _ [some (.val (plU q)),some (.val (.int k)),some (.val (pu x)),some (.val (lp [a,b,d])),some (.val (.lst [pq (b,d),pq (d,a),pq (a,b)])),some (.val (.lst ((wts [a,b,d] k x).map qU))),none,none,none];unfold eV;generalize wts [a,b,d] k x=p at *;refine af (cx (lY ST3.KQ qU ((0,0),0) (trs:=p.filter λz=>decide (0<z.2)) Gy (λa b=>ST3.KQ_det a b) rfl T.aal (ig g) (o4 (congrArg U.lst (AW p)) (EvN.ev (pP (wy p) rfl (blk (am dh) ["piece","k","P","corners","across","pairs","corner","side","pair"] [8] rfl rfl rfl rfl (by decide+kernel)) (EvI.z (bZ (aa 5 rfl) (.inl rfl))) (λ_ _ _ _=>aT (i:=8) bJ.nd rfl (Or.inl rfl)) (fS (by decide)) ?clen ?csz (λ_ _=>trivial) ?ctest ?celt))) ⟨IK (Lv _ _) (by lia),?nd⟩ cH) ?_)
 case clen=>unfold wy;simp
 case csz=>rw[GD];exact Hd (aE (by lia))
 case ctest=>
  intro C D A B j z o hz n;rw[GN]at hz;obtain⟨e,l,rfl⟩:=IZ.mp hz;unfold wy at n;rw[GN,l]at n;cases n
  have m:(if 0<e.2 then some (qU e) else none).isSome=decide (e.2 >0):=by
   by_cases h:0<e.2
   .rw[if_pos h,decide_eq_true h];rfl
   .rw[if_neg h,decide_eq_false h];rfl
  rw[m];exact (aw eo (ax (aa 8 rfl) ag rfl rfl) ag)
 case celt=>
  intro C D A B j z y hz f;rw[GN]at hz;obtain⟨e,l,rfl⟩:=IZ.mp hz;unfold wy at f;rw[GN,l]at f;by_cases h:0<e.2
  .rw[Rk,if_pos h]at f;cases f;exact (aa 8 rfl)
  .rw[Rk,if_neg h]at f;cases f
 case nd=>exact ((Hy.mp H).imp λ{a b} h e=>h (by rw[e])).sublist PX
 exact rfl
noncomputable def inK(k:Int)(r:List P2)(x:P2):Bool:=decide (-1<whr (au (r.map (scl k))) x)
def eM(C1 C2 C3:Hc):List U->Out->Prop:=λa o=>∃(l:List P2) (k:Int) (x:P2),a=[lp l,.int k,pu x]/\Sz 1000 k/\Szp 5000 x/\
 ((k<0/\o=.exc C1)\/(0<=k/\Fld l/\l.length<64/\(∀p∈l,Szp 150 p)/\100<dY l/\o=.exc C2)\/(0<=k/\gU l/\(∀r∈c6 l,inK k r x=false)/\o=.exc C3)\/
  (0<=k/\gU l/\∃u q v c,c6 l=u++q::v/\(∀r∈u,inK k r x=false)/\inK k q x=true/\Wd q c/\(∀p∈c,Szp 5000 p)/\c.Nodup/\o=.new ((eV c k x).map qU)))
theorem mh:∀{r}{q},q∈dE r->∃a b,q=[a,b]/\a∈r/\b∈r
 |[],q,h=>by cases h
 |[_],q,h=>by cases h
 |a::b::r,q,h=>by
  rcases GF.mp h with e |e
  .exact⟨a,b,e,by simp,by simp⟩
  .obtain⟨c,d,g,i,f⟩:=mh e;exact⟨c,d,g,GG _ i,GG _ f⟩
theorem xA(h:t∈pcs l):t.1∈aX l/\t.2.1∈aX l/\t.2.2∈aX l:=by
 obtain⟨r,f,rfl⟩:=GJ.mp h;have d:=cf l
 have a:∀t,t∈tK l->t.1∈aX l/\t.2.1∈aX l/\t.2.2∈aX l:=λt g=>by
  rcases Hi.mp g with h |h
  .have:=fc (.inl rfl) _ d t h;exact⟨this.ma,this.mb,this.mP⟩
  .have:=fc (.inr rfl) _ d t h;exact⟨this.ma,this.mb,this.mP⟩
 obtain⟨e,c,b⟩:=a r f;unfold b8;split
 .exact⟨e,c,b⟩
 .exact⟨e,b,c⟩
theorem h_(F:Fld l)(h:q∈c6 l):q≠[]/\q.length<=3/\∀p∈q,p∈aX l:=by
 have m:0<l.length:=Hx.mpr F.ne;unfold c6 at h;split at h
 .rename_i j
  obtain⟨A,rfl⟩:=JC.mp j;rw[GL.mp h,iQ F];simp
 .split at h
  .obtain⟨a,b,rfl,e,k⟩:=mh h;refine⟨by simp,by simp,λp c=>?_⟩;simp at c;rcases c with rfl |rfl
   .exact e
   .exact k
  .obtain⟨t,i,rfl⟩:=GJ.mp h;obtain⟨g,f,d⟩:=xA ((SG.srt_mem _ _ _).mp i);refine⟨by simp,by simp,λp c=>?_⟩;simp at c;rcases c with rfl |rfl |rfl
   .exact g
   .exact f
   .exact d
theorem gU.fz(O:gU l):∀p∈aX l,Szp 2500 p:=λp c=>by
 have q:=(dI O.F.ne).mp (O.F.in_box ((bo O.F p).mp c));obtain⟨_,_,b,a,d,e⟩:=ov O.F.ne O.sz;exact⟨(jy b a q.1.1 q.1.2).mono (by decide),(jy d e q.2.1 q.2.2).mono (by decide)⟩
theorem ic  :c_ P w K mg base (CXF P w) 10 T.aas.a T.aas.d ["land","k","P"] (spU K (eM T.aab.c T.aad.c T.aac.c)):=by
 refine uT T.aas.F pi (by rintro us o ⟨_,_,_,rfl,_⟩;rfl) (λcdv A R s H E O us o f h=>?_);obtain⟨l,k,x,rfl,I,L,h⟩:=h;rcases h with ⟨U,rfl⟩ |⟨U,F,Z,sz,hc,rfl⟩ |h
 .refine af (bR (aw d8 (aa 1 rfl) ag) (decide_eq_true (by lia)) ?_);refine af (pE T.abK rfl T.aab.m wX ?_);exact rfl
 .refine af (aU (aw d8 (aa 1 rfl) ag) (decide_eq_false (by lia)) (aA ?_));refine af (Ey (zI ((jv T).mono (by decide)) f rfl T.aaE.m T.aaE.F.kp T.aaE.b tW (ae (aa 0 rfl) ak ai) ⟨l,rfl,.inr ⟨F,Z,sz,hc,rfl⟩⟩) ?_);exact rfl
 have U:0<=k:=h.elim (λz=>z.1) λz=>z.1;have O:gU l:=h.elim (λz=>z.2.1) λz=>z.2.1;have fz:=O.fz
 have S:∀r∈c6 l,r≠[]/\r.length<=3/\∀p∈r,Szp 2500 p:=λr f=>by
  obtain⟨B,N,t⟩:=h_ O.F f;exact⟨B,N,λp g=>fz p (t p g)⟩
 have V:∀r∈c6 l,au (r.map (scl k))≠[]/\(au (r.map (scl k))).length<=3/\∀p∈au (r.map (scl k)),Szp 5000 p:=λr f=>by
  obtain⟨B,N,t⟩:=S r f;have Q:=ks (r.map (scl k));rw[GD]at Q;refine⟨fg (by simpa using B),by lia,λp g=>?_⟩
  obtain⟨z,hz,rfl⟩:=GJ.mp (bK _ p g);exact (o7 I (t z hz)).mono (by decide)
 refine af (aU (aw d8 (aa 1 rfl) ag) (decide_eq_false (by lia)) (aA ?_));have j:∀r,decide (whr (au (r.map (scl k))) x >-1)=inK k r x:=λr=>rfl;rcases h with ⟨_,_,no,rfl⟩ |⟨_,_,u,q,v,c,g,hu,hq,W,sc,nd,rfl⟩
 .refine af (d_ (λ_:Unit=>[some (.val (lp l)),some (.val (.int k)),some (.val (pu x)),none]) (λ_ _=>True) rfl PassesOwn.leaving (bZ (EvN.ev (cT (jv T) f (ae (aa 0 rfl) ak ai) ⟨l,rfl,.inl ⟨O,rfl⟩⟩)) (.inl rfl)) ?h0 ?hs ?hd)
  case h0=>exact⟨(),trivial,rfl,rfl,rfl,trivial⟩
  case hs=>
   rintro H0 i y _ G _;rw[GN]at G;obtain⟨r,C,rfl⟩:=IZ.mp G;have D:=Hb C;obtain⟨B,N,t⟩:=S r D;obtain⟨J,Q,M⟩:=V r D;refine⟨_,(eW (i:=3) pi.nd rfl (Or.inl rfl)),?_⟩;refine af (aU (aw eo (a_ (lV T) f (ae (EvN.ev (cT (kJ T) f (ae (EvN.ev (fm (gK rfl) rfl T.aat LO (ae (aa 3 rfl) ak ai))) (ae (aa 1 rfl) ak ai) aB) ⟨r,k,rfl,I,λp g=>(t p g).mono (by decide),B,by lia,rfl⟩)) (ae (aa 2 rfl) ak ai) aB) ⟨_,x,rfl,Hx.mpr J,by lia,M,L,rfl⟩) (bT ag)) (by rw[j];exact no r D) (aA (aA ?_)))
   exact⟨(),trivial,rfl,rfl,rfl,trivial⟩
  case hd=>
   rintro n ps _ Y;refine cX ?_ Y;refine af (pE T.abL rfl T.aac.m wX ?_);exact rfl
 .refine af (d_ (λ_:Unit=>[some (.val (lp l)),some (.val (.int k)),some (.val (pu x)),none]) (λi _=>i<=u.length) rfl PassesOwn.leaving (bZ (EvN.ev (cT (jv T) f (ae (aa 0 rfl) ak ai) ⟨l,rfl,.inl ⟨O,rfl⟩⟩)) (.inl rfl)) ?h0 ?hs ?hd)
  case h0=>exact⟨(),Ir _,rfl,rfl,rfl,trivial⟩
  case hs=>
   rintro H0 i y _ G hi;rw[GN]at G;obtain⟨r,C,rfl⟩:=IZ.mp G;have D:=Hb C;obtain⟨B,N,t⟩:=S r D;obtain⟨J,Q,M⟩:=V r D;refine⟨_,(eW (i:=3) pi.nd rfl (Or.inl rfl)),?_⟩;rw[g]at C;by_cases e:i<u.length
   .rw[Hg e]at C;have:=hu r (Hb C);refine af (aU (aw eo (a_ (lV T) f (ae (EvN.ev (cT (kJ T) f (ae (EvN.ev (fm (gK rfl) rfl T.aat LO (ae (aa 3 rfl) ak ai))) (ae (aa 1 rfl) ak ai) aB) ⟨r,k,rfl,I,λp g=>(t p g).mono (by decide),B,by lia,rfl⟩)) (ae (aa 2 rfl) ak ai) aB) ⟨_,x,rfl,Hx.mpr J,by lia,M,L,rfl⟩) (bT ag)) (by rw[j];exact this) (aA (aA ?_)))
    exact⟨(),e,rfl,rfl,rfl,trivial⟩
   .have ei:i=u.length:=by lia
    subst ei;rw[Hj (GK _),QI]at C;cases C;refine af (bR (aw eo (a_ (lV T) f (ae (EvN.ev (cT (kJ T) f (ae (EvN.ev (fm (gK rfl) rfl T.aat LO (ae (aa 3 rfl) ak ai))) (ae (aa 1 rfl) ak ai) aB) ⟨q,k,rfl,I,λp g=>(t p g).mono (by decide),B,by lia,rfl⟩)) (ae (aa 2 rfl) ak ai) aB) ⟨_,x,rfl,Hx.mpr J,by lia,M,L,rfl⟩) (bT ag)) (by rw[j];exact hq) ?_)
    refine af (cx (cT (kg T) f (ae (aa 3 rfl) (ae (aa 1 rfl) (ae (aa 2 rfl) ak ai) ai) ai) ⟨q,c,k,x,rfl,W,t,sc,nd,I,L,rfl⟩) ?_);exact rfl
  case hd=>
   rintro n ps X Y
   exfalso
   rw[GD,g]at X;simp at X;lia
noncomputable def cel(ns:List Int)(k:Int):Int:=if k<(ns.length:Int) then ns.getD k.toNat 0 else 7*k*k+3*k+1
theorem fW(h:∀m∈ns,Sz 1048576 m)(a:0<=k)(c:k<1000):Sz 1048576 (cel ns k):=by
 unfold cel;split
 .exact Bi h _
 .refine Sz.mono (m:=100) ?_ (by decide)
  have:7*k*k<=7*1000*1000:=by
   have:k*k<=1000*1000:=Int.mul_le_mul (by lia) (by lia) a (by lia);rw[RY];lia
  have b:0<=7*k*k:=Hh (by lia) a;unfold Sz;lia
def vX:List U->Out->Prop:=λb o=>∃(a:List Int) (k:Int),b=[.scr (a.map U.int),.int k]/\a.length<=63/\0<=k/\k<1000/\o=.val (.int (cel a k))
theorem bG:OkD P w base T.abx 1 (vX):=by
 refine okD pK (by walk_at"ln") ?_;rintro _ _ _ h ⟨b,k,rfl,j,f,i,rfl⟩;have g:Sz 64 k:=by unfold Sz;lia
 have c:((b.map U.int).length)=b.length:=by rw[GD]
 refine af (mY (aw d8 (aa 1 rfl) (aq (bu rfl) rfl T.aae G3 (ae (aa 0 rfl) ak ai))) (λd=>?_) (λe=>(aA ?_)))
 .rw[c]at d;have a:=dTb d;refine af (aR (ax (aa 0 rfl) (aa 1 rfl) rfl (zU f a)) ?_);exact vIO (by unfold cel;rw[if_pos a])
 .rw[c]at e;have a:=dFb e;refine af (aR (bH (bH (aJ (aJ ag (aa 1 rfl) (by walk_at"mul")) (aa 1 rfl) (by walk_at"mul")) (aJ ag (aa 1 rfl) (by walk_at"mul"))) ag) ?_)
  exact vIO (by unfold cel;rw[if_neg a])
def yN:List U->Out->Prop:=λc o=>∃a b:Int,c=[.int a,.int b]/\o=.val (.int (Kz a b))
theorem ya(a):(if a<0 then -a else a)=(a.natAbs:Int):=by split <;>lia
theorem gw:OkD P w base T.abg 1 (yN):=by
 refine okD cR (by walk_at"ln") ?_;rintro _ _ _ g ⟨a,b,rfl,rfl⟩;refine af (av 0 cR.nd (aq lv rfl T.abB PyProof.Rows.boot_abs (ae (aa 0 rfl) ak ai)) ?_);refine af (av 1 cR.nd (aq lv rfl T.abB PyProof.Rows.boot_abs (ae (aa 1 rfl) ak ai)) ?_);rw[ya,ya];refine af (gH (λq:Nat×Nat=>[some (.val (.int q.1)),some (.val (.int q.2))]) (λm q=>m=q.2/\Nat.gcd q.1 q.2=Kz a b) PassesOwn.never ?h0 ?hs)
 case h0=>exact⟨_,(a.natAbs,b.natAbs),⟨rfl,rfl⟩,rfl,rfl,trivial⟩
 case hs=>
  rintro m ⟨x,y⟩ ⟨f,c⟩;refine⟨decide (0<(y:Int)),(aw eo (aa 1 rfl) ag),λh=>?_,λh k e=>?_⟩
  .have d:=dTb h;refine af (EN (i:=0) (j:=1) rfl cR.nd rfl rfl (by decide) rfl rfl (ae (aa 1 rfl) (ae (bC (aa 0 rfl) (aa 1 rfl) (by walk_at"mod")) ak aN) ai) rfl (aA ?_));refine⟨x%y,(y,x%y),by rw[f];exact JH _ (by lia),⟨rfl,?_⟩,?_,?_,trivial⟩
   .rw[<-c,Si y,<-Nat.gcd_rec,Si]
   .rfl
   .exact congrArg (λz=>some (Sl.val (.int z))) (by simp)
  .have d:y=0:=by have:=dFb h;lia
   refine cX ?_ e;refine af (aR (aa 0 rfl) ?_);subst d;exact vIO (by rw[<-c];simp)
def wR:List U->Out->Prop:=λa o=>∃P Q R:P2,a=[pu P,pu Q,pu R]/\Szp 5000 P/\Szp 5000 Q/\Szp 5000 R/\o=.val (.int (ah P Q R))
theorem eC:OkD P w base T.aby 1 (wR):=by
 refine okD pI (by walk_at"ln") ?_;rintro _ _ _ c ⟨P,Q,R,rfl,⟨d,g⟩,⟨f,a⟩,⟨e,b⟩,rfl⟩;refine af (aR (bj (aJ (bj (ax (aa 1 rfl) ag rfl rfl) (ax (aa 0 rfl) ag rfl rfl)) (bj (ax (aa 2 rfl) ag rfl rfl) (ax (aa 0 rfl) ag rfl rfl)) (by walk_at"mul")) (aJ (bj (ax (aa 1 rfl) ag rfl rfl) (ax (aa 0 rfl) ag rfl rfl)) (bj (ax (aa 2 rfl) ag rfl rfl) (ax (aa 0 rfl) ag rfl rfl)) (by walk_at"mul"))) ?_);exact rfl
theorem jr:OkD P w base T.abz 2 (lQ):=by
 refine okD gs (by walk_at"ln") ?_;rintro _ _ _ hr ⟨row,rfl,sz,hl,rfl⟩;refine af (fP (i:=1) gs.nd rfl (Or.inl rfl) (bI aF) ?_);refine af (d_ (λst:List P2=>[some (.val (lp row)),some (.own (st.reverse.map pu)),none]) (λi st=>st=ao (row.take i)) rfl PassesOwn.never (bZ (aa 0 rfl) (.inl rfl)) ?h0 ?hs ?hd)
 case h0=>exact⟨[],rfl,rfl,rfl,trivial⟩
 case hs=>
  rintro H0 i x _ hx rfl;obtain⟨P,hP,mP,rfl⟩:=zR hx;have hi:=aH hP;have sP:=sz P mP;refine⟨_,(eW (i:=2) gs.nd rfl (Or.inl rfl)),?_⟩;have len0:=h8 row i;refine jL (λps=>SubP [some (.val (lp row)),some (.own ((bg P (ao (row.take i))).reverse.map pu)),some (.val (pu P))] ps) (gH (λs2:List P2=>[some (.val (lp row)),some (.own (s2.reverse.map pu)),some (.val (pu P))]) (λm s2=>m=s2.length/\bg P s2=bg P (ao (row.take i))/\(∀p∈s2,p∈row)/\s2.length<=i) PassesOwn.never ?h0 ?hs) ?hj
  case h0=>exact⟨_,_,⟨rfl,rfl,λq hq=>fR row i q hq,len0⟩,rfl,rfl,rfl,trivial⟩
  case hs=>
   rintro m s2 ⟨rfl,e2,sub,len2⟩
   match s2,e2,sub,len2 with
   |[],e2,sub,len2=>
    refine⟨false,?_,λh=>(nomatch h),λh ps S7=>e2 ▸ S7⟩;exact (Tw.t (gD (aw eo (cC 1 rfl rfl T.aae) ag) rfl))
   |[b],e2,sub,len2=>
    refine⟨false,?_,λh=>(nomatch h),λh ps S7=>e2 ▸ S7⟩;exact (Tw.t (gD (aw eo (cC 1 rfl rfl T.aae) ag) rfl))
   |b::a::r,e2,sub,len2=>
    have sa:=sz a (sub a (by simp));have sb:=sz b (sub b (by simp));have e1:decide (1<((((b::a::r).reverse.map pu).length:Nat):Int))=true:=decide_eq_true (by simp;lia);refine⟨decide (1<((((b::a::r).reverse.map pu).length:Nat):Int)) && decide (ah a b P<=0),?_,λh=>?_,λh ps S7=>?_⟩
    .exact (Tw.t (lh (aw eo (cC 1 rfl rfl T.aae) ag) (λhz=>(jH (aw F3 (a_ (eC T) hr (ae (fh 1 rfl (bT ag) (um b a r)) (ae (fh 1 rfl (bT ag) (uy b (a::r))) (ae (aa 2 rfl) ak ai) aK) aK) ⟨a,b,P,rfl,sa,sb,sP,rfl⟩) ag)))))
    .rw[e1,LD]at h;have hd:=dTb h;refine af (z_ 1 rfl (by simp) (aA ?_))
     refine⟨_,a::r,?_,⟨rfl,?_,λq hq=>sub q (GG _ hq),?_⟩,rfl,?_,rfl,trivial⟩
     .simp
     .rw[←e2];conv=>rhs;unfold bg
      rw[if_pos hd]
     .simp only[Ie]at *;lia
     .exact congrArg (λl=>some (Sl.own l)) (by simp)
    .rw[e1,LD]at h;have hd:=dFb h
     have e3:bg P (b::a::r)=b::a::r:=by conv=>lhs;unfold bg
                                        rw[if_neg hd]
     rw[<-e2,e3];exact S7
  case hj=>
   intro ps S7;refine cX ?_ S7;have e4:=gf hP;have len3:=kH P (ao (row.take i));refine af (cN 1 rfl (aa 2 rfl) (by rw[GD,HL];exact aE (by lia)) (aA ?_));refine⟨_,rfl,rfl,?_,trivial⟩;exact congrArg (λl=>some (Sl.own l)) (by rw[e4];simp)
 case hd=>
  rintro st ps TU S7;refine cX ?_ S7;refine af (gh 1 rfl ?_);rw[TU];simp
def pH:List U->Out->Prop:=λb o=>∃a:List P2,b=[lp a]/\(∀p∈a,Szp 5000 p)/\a.length<64/\o=.new ((au a).map pu)
theorem kX(h:(ST.srt pts).length=2):au pts=ST.srt pts:=by
 obtain⟨a,b,e⟩:=L2.len2 h;unfold au;rw[e];simp[ao,bg]
theorem kj:OkD P w base T.abh 3 (pH):=by
 refine okD d6 (by walk_at"ln") ?_;rintro _ _ _ d ⟨a,rfl,sz,e,rfl⟩;have l:=ST.srt_len a;have c:(((ST.srt a).map pu).length:Int)=((ST.srt a).length:Int):=by rw[GD]
 have b:=xB sz;by_cases m:(ST.srt a).length<3
 .refine af (fP (i:=1) d6.nd rfl (Or.inl rfl) (gm rfl (ig d) rfl T.aal rfl T.ab1 (aa 0 rfl) (oU e) ai) ?_);refine af (bR (aw d8 (cC 1 rfl rfl T.aae) ag) (by rw[c];exact decide_eq_true (by lia)) ?_);refine af (gh 1 rfl ?_)
  have j:au a=ST.srt a:=by
   by_cases f:(ST.srt a).length=2
   .exact kX f
   .exact cW (by lia)
  rw[j]
 .refine af (av 1 d6.nd (EvN.ev (gm rfl (ig d) rfl T.aal rfl T.ab1 (aa 0 rfl) (oU e) ai)) ?_);refine af (aU (aw d8 (aq (bu rfl) rfl T.aae G3 (ae (aa 1 rfl) ak ai)) ag) (by rw[c];exact decide_eq_false (by lia)) (aA ?_));have k:=jh (ST.srt a);have h:=jh (ST.srt a).reverse;rw[HL]at h;refine af (cx (fN (EvN.ev (eF (EvN.ev (cT (jr T) d (ae (aa 1 rfl) ak ai) ⟨ST.srt a,rfl,b,by lia,rfl⟩)) f7 (fZ (bT ag)) (.inl rfl))) (EvN.ev (eF (EvN.ev (cT (jr T) d (ae (EvN.ev (vN rfl rfl T.aat rfl T.abM (aa 1 rfl) ai)) ak aB) ⟨(ST.srt a).reverse,by rw[lp,Jy],λp g=>b p (GY.mp g),by rw[HL];lia,rfl⟩)) f7 (fZ (bT ag)) (.inl rfl))) (by rw[gZ,gZ,GD,GD,Jw,Jw,HL,HL];exact Hd (aE (by lia)))) ?_)
  unfold au;rw[if_neg (by lia),gZ,gZ,<-Hz]
theorem Ah{j:Nat}(h:j<l.length):atI (l.map pu) ((0+(j:Int)+1)%((l.map pu).length:Int))=some (pu (nxt l j)):=by
 have e:(0+j+1)%((l.map pu).length)=(((j+1)%l.length:Nat):Int):=by
  rw[GD,Int.zero_add];simp
 rw[e];exact eQ rfl (JH _ (by lia))
theorem mL{l:List P2}{i:Nat}(h:i<l.length):(sdl l).take (i+1)=(sdl l).take i++[(gp l i,nxt l i)]:=by
 rw[Ku];congr 1;unfold sdl;rw[GN,JF h];rfl
def uC:List U->Out->Prop:=λa o=>∃(l:List P2) (p:P2),a=[lp l,pu p]/\l≠[]/\l.length<=900/\(∀q∈l,Szp 5000 q)/\Szp 5000 p/\o=.val (.bl (b9 l p))
theorem iM:OkD P w base T.abS 2 (uC):=by
 refine okD kS (by walk_at"ln") ?_;rintro _ _ _ c ⟨l,p,rfl,u,v,sz,j,rfl⟩;have a:((l.map pu).length:Int)=(l.length:Int):=by rw[GD]
 have h0:0<l.length:=Hx.mpr u;by_cases e:l.length=1
 .refine af (bR (aw aW (aq (bu rfl) rfl T.aae G3 (ae (aa 0 rfl) ak ai)) ag) (by rw[a];exact decide_eq_true (by lia)) ?_);refine af (aR (dw (uo c rfl rfl) (aa 1 rfl) (ax (aa 0 rfl) ag rfl (eQ (i:=0) rfl h0))) ?_);exact vB (by rw[tF];unfold b9;rw[if_pos e])
 .refine af (aU (aw aW (aq (bu rfl) rfl T.aae G3 (ae (aa 0 rfl) ak ai)) ag) (by rw[a];exact decide_eq_false (by lia)) (aA ?_));by_cases m:l.length=2
  .refine af (bR (aw aW (aq (bu rfl) rfl T.aae G3 (ae (aa 0 rfl) ak ai)) ag) (by rw[a];exact decide_eq_true (by lia)) ?_);have b:1<l.length:=by lia
   refine af (aR (nY (dw aW (a_ (eC T) c (ae (ax (aa 0 rfl) ag rfl (eQ (i:=0) rfl h0)) (ae (ax (aa 0 rfl) ag rfl (eQ (i:=1) rfl b)) (ae (aa 1 rfl) ak ai) aK) aK) ⟨_,_,_,rfl,sz _ (bU h0),sz _ (bU b),j,rfl⟩) ag) (λg=>(nY (dw (qC (ig c)) (ax (aa 0 rfl) ag rfl (eQ (i:=0) rfl h0)) (aa 1 rfl)) (λg=>(oj (dw (qC (ig c)) (aa 1 rfl) (ax (aa 0 rfl) ag rfl (eQ (i:=1) rfl b)))))))) ?_);exact vB (by unfold b9;rw[if_neg e,if_pos m])
  .refine af (aU (aw aW (aq (bu rfl) rfl T.aae G3 (ae (aa 0 rfl) ak ai)) ag) (by rw[a];exact decide_eq_false (by lia)) (aA ?_));have n:b9 l p=(sdl l).all λs=>decide (0<=ah s.1 s.2 p):=by unfold b9;rw[if_neg e,if_neg m]
   refine af (d_ (λ_:Unit=>[some (.val (lp l)),some (.val (pu p)),none]) (λi _=>∀s∈(sdl l).take i,0<=ah s.1 s.2 p) rfl PassesOwn.never (k8 rfl T.aa_ (ae (aq (bu rfl) rfl T.aae G3 (ae (aa 0 rfl) ak ai)) ak aB) (by rw[a];lia) (by rw[a];lia)) ?h0 ?hs ?hd)
   case h0=>exact⟨(),by simp,rfl,rfl,trivial⟩
   case hs=>
    rintro A i x _ r f;obtain⟨y,rfl⟩:=e7 r;have d:i<l.length:=by lia
    have g:(i+1)%l.length<l.length:=JH _ (by lia);refine⟨_,(eW (i:=2) kS.nd rfl (Or.inl rfl)),?_⟩;refine af (mY (aw d8 (a_ (eC T) c (ae (ax (aa 0 rfl) (aa 2 rfl) rfl (eQ (i:=i) (by lia) d)) (ae (ax (aa 0 rfl) (bC (bH (aa 2 rfl) ag) (aq (bu rfl) rfl T.aae G3 (ae (aa 0 rfl) ak ai)) (by rw[a];lia)) rfl (Ah d)) (ae (aa 1 rfl) ak ai) aK) aK) ⟨_,_,_,rfl,sz _ (bU d),sz _ (bU g),j,rfl⟩) ag) (λq=>?_) (λo=>(aA (aA ?_))))
    .refine af (aR m_ ?_);refine vB ?_;rw[n];refine (LA.mpr λk=>?_).symm;have:=of_decide_eq_true (K_.mp k (gp l i,nxt l i) (GJ.mpr ⟨i,Hq.mpr d,rfl⟩));have h:=dTb q;dsimp only at this;lia
    .refine⟨(),λs hs=>?_,rfl,rfl,trivial⟩;rw[mL d]at hs;rcases Hi.mp hs with k |k
     .exact f s k
     .rw[GL.mp k];have h:=dFb o;show 0<=ah (gp l i) (nxt l i) p;lia
   case hd=>
    rintro _ z f t;refine cX ?_ t;refine af (aR m_ ?_);refine vB ?_;rw[n];refine (K_.mpr λs hs=>decide_eq_true (f s ?_)).symm;rw[cS,JB]
    .exact hs
    .rw[fi];lia
noncomputable def vY(l:List P2):Int:=if l.length=1 then 1 else (area l+iK l)/2+1
theorem AB{l:List P2}(F:Fld l):vY l=dY l:=by
 unfold vY dY;rcases F.cases with ⟨A,rfl⟩ |⟨A,B,rfl,lt⟩ |a
 .rw[if_pos (by simp)];unfold pin kc;rw[if_pos (by simp),if_pos (by simp)];show (1:Int)=0+(gst (A,A)+1);unfold gst;simp
 .rw[if_neg (by simp)];unfold pin kc;rw[if_pos (by simp),if_pos (by simp)];unfold area iK;rw[tY];show (crs (A,B)+(crs (B,A)+0)+(gst (A,B)+(gst (B,A)+0)))/2+1=0+(gst (A,B)+1);have:=zT A B;have:gst (B,A)=gst (A,B):=fI A B;lia
 .have b:3<=l.length:=by rw[<-F.cr];exact a
  unfold pin kc;rw[if_neg (by lia),if_neg (by lia),if_neg (by lia)];lia
noncomputable def twA(l:List P2)(i:Nat):Int:=(((sdl l).take i).map crs).sum
noncomputable def edA(l:List P2)(i:Nat):Int:=(((sdl l).take i).map gst).sum
theorem x4{l:List P2}{i:Nat}(h:i<l.length):twA l (i+1)=twA l i+crs (gp l i,nxt l i):=by
 unfold twA;rw[mL h,Hz,uS];simp
theorem yD{l:List P2}{i:Nat}(h:i<l.length):edA l (i+1)=edA l i+gst (gp l i,nxt l i):=by
 unfold edA;rw[mL h,Hz,uS];simp
theorem uu(l:List P2):twA l l.length=area l/\edA l l.length=iK l:=by
 unfold twA edA area iK;rw[JB (by rw[fi];exact GK _)];exact⟨rfl,rfl⟩
def rJ:List U->Out->Prop:=λa o=>∃(l:List P2),a=[lp l]/\l≠[]/\l.length<=900/\(∀q∈l,Szp 5000 q)/\o=.val (.int (vY l))
theorem jZ:OkD P w base T.abI 2 (rJ):=by
 refine okD ci (by walk_at"ln") ?_;rintro _ _ _ e ⟨l,rfl,h,m,sz,rfl⟩;have b:((l.map pu).length:Int)=(l.length:Int):=by rw[GD]
 have h0:0<l.length:=Hx.mpr h;unfold vY;by_cases c:l.length=1
 .refine af (bR (aw aW (aq (bu rfl) rfl T.aae G3 (ae (aa 0 rfl) ak ai)) ag) (by rw[b];exact decide_eq_true (by lia)) ?_);refine af (aR ag ?_);rw[if_pos c]
 .refine af (aU (aw aW (aq (bu rfl) rfl T.aae G3 (ae (aa 0 rfl) ak ai)) ag) (by rw[b];exact decide_eq_false (by lia)) (aA ?_));refine af (av 1 ci.nd ag ?_);refine af (av 2 ci.nd ag ?_);refine af (d_ (λi:Nat=>[some (.val (lp l)),some (.val (.int (twA l i))),some (.val (.int (edA l i))),none,none,none]) (λi j=>i=j) rfl PassesOwn.never (k8 rfl T.aa_ (ae (aq (bu rfl) rfl T.aae G3 (ae (aa 0 rfl) ak ai)) ak aB) (by rw[b];lia) (by rw[b];lia)) ?h0 ?hs ?hd)
  case h0=>exact⟨0,rfl,rfl,rfl,rfl,trivial⟩
  case hs=>
   rintro u i x _ k rfl;obtain⟨n,rfl⟩:=e7 k;have a:i<l.length:=by lia
   have d:(i+1)%l.length<l.length:=JH _ (by lia);have t:=(sz _ (bU a)).1;have r:=(sz _ (bU a)).2;have o:Sz 5000 (nxt l i).1:=(sz _ (bU d)).1;have p:Sz 5000 (nxt l i).2:=(sz _ (bU d)).2;refine⟨_,(eW (i:=3) ci.nd rfl (Or.inl rfl)),?_⟩;refine af (av 4 ci.nd (ax (aa 0 rfl) (aa 3 rfl) rfl (eQ (i:=i) (by lia) a)) ?_);refine af (av 5 ci.nd (ax (aa 0 rfl) (bC (bH (aa 3 rfl) ag) (aq (bu rfl) rfl T.aae G3 (ae (aa 0 rfl) ak ai)) (by rw[b];lia)) rfl (Ah a)) ?_);refine af (av 1 ci.nd (bj (bH (aa 1 rfl) (aJ (ax (aa 4 rfl) ag rfl rfl) (ax (aa 5 rfl) ag rfl rfl) (by walk_at"mul"))) (aJ (ax (aa 4 rfl) ag rfl rfl) (ax (aa 5 rfl) ag rfl rfl) (by walk_at"mul"))) ?_);refine af (av 2 ci.nd (bH (aa 2 rfl) (a_ (gw T) e (ae (bj (ax (aa 5 rfl) ag rfl rfl) (ax (aa 4 rfl) ag rfl rfl)) (ae (bj (ax (aa 5 rfl) ag rfl rfl) (ax (aa 4 rfl) ag rfl rfl)) ak aN) aN) ⟨_,_,rfl,rfl⟩)) (aA ?_));refine⟨i+1,rfl,rfl,?_,?_,trivial⟩
   .exact congrArg (λz=>some (Sl.val (.int z))) (by rw[x4 a];unfold crs;dsimp only;lia)
   .exact congrArg (λz=>some (Sl.val (.int z))) (by rw[yD a];rfl)
  case hd=>
   rintro q s f g;refine cX ?_ g;rw[cS]at f;have:q=l.length:=by lia
   subst this;rw[(uu l).1,(uu l).2];refine af (aR (bH (cO (bH (aa 1 rfl) (aa 2 rfl)) ag (by walk_at"div")) ag) ?_);rw[if_neg c]
noncomputable def mny(c:Int):Int:=if c/135%2=1 then 100+c*48271%10 ^ (30:Int).toNat else 97+c/9%5
noncomputable def wid(c:Int):Int:=if c/36%2=1 then 99+c*48271%10 ^ (30:Int).toNat else 97+c/9%4
noncomputable def far(c:Int):P2:=if c/9%4=0 then (11,7) else if c/9%4=1 then (9,9) else if c/9%4=2 then (100,0) else (10,9)
theorem Ef(c:Int):atI ([pu (11,7),pu (9,9),pu (100,0),pu (10,9)]:List U) (c/9%4)=some (pu (far c)):=by
 have h:c/9%4=0\/c/9%4=1\/c/9%4=2\/c/9%4=3:=by lia
 unfold far;rcases h with h |h |h |h <;>rw[h] <;>rfl
noncomputable def nW(ns:List Int):Nat:=gG 6 ((max 9 (min ns.length 60):Nat):Int) 2
noncomputable def wdI(ns:List Int)(i:Nat):P2:=(cel ns (6+(i:Int) *2)%5,cel ns (6+(i:Int) *2+1)%5)
noncomputable def ptL(ns:List Int):List P2:=if cel ns 5%9=1 then [(0,0),(mny (cel ns 5) *(cel ns 5/45%3-1),mny (cel ns 5))] else if cel ns 5%9=4 then [(0,0),((far (cel ns 5)).1,0),(0,(far (cel ns 5)).2),far (cel ns 5)] else if cel ns 5%9=7 then [(0,0),(wid (cel ns 5),0),(-1,1)] else (HI (nW ns)).map (wdI ns)
theorem rX(a:0<m)(h:Sz k m)(z):0<=z%m/\Sz k (z%m):=by
 have b:=KO z (show m≠0 by lia);have c:=JS z a;refine⟨b,?_⟩;unfold Sz at *;lia
theorem m30(z:Int):0<=z%10 ^ (30:Int).toNat/\Sz 100 (z%10 ^ (30:Int).toNat):=rX (by decide+kernel) (by decide+kernel) z
theorem xf(c:Int):97<=mny c/\Sz 101 (mny c):=by
 unfold mny;split
 .have h:=m30 (c*48271);exact⟨by lia,(L2.Sz.add' (show Sz 100 (100:Int) from Sz.mono (m:=8) (by decide) (by decide)) h.2).mono (by decide)⟩
 .exact⟨by lia,Sz.mono (m:=8) (by unfold Sz;lia) (by decide)⟩
theorem zN(c:Int):97<=wid c/\Sz 101 (wid c):=by
 unfold wid;split
 .have h:=m30 (c*48271);exact⟨by lia,(L2.Sz.add' (show Sz 100 (99:Int) from Sz.mono (m:=8) (by decide) (by decide)) h.2).mono (by decide)⟩
 .exact⟨by lia,Sz.mono (m:=8) (by unfold Sz;lia) (by decide)⟩
theorem xx(ns:List Int):1<=nW ns/\nW ns<=27:=by unfold nW gG;split <;>lia
theorem Fy(ns:List Int):(if (if (60:Int)<((ns.map U.int).length:Int) then (60:Int) else ((ns.map U.int).length:Int)) >9 then (if (60:Int)<((ns.map U.int).length:Int) then (60:Int) else ((ns.map U.int).length:Int)) else 9)=((max 9 (min ns.length 60):Nat):Int):=by
 rw[GD];split <;>split <;>lia
def zQ:List U->Out->Prop:=λb o=>∃a:List Int,b=[.scr (a.map U.int)]/\a.length<=63/\(∀m∈a,Sz 1048576 m)/\o=.new ((ptL a).map pu)
theorem l7:OkD P w base T.abm 2 (zQ):=by
 refine okD bw (by walk_at"ln") ?_;rintro _ _ _ s ⟨a,rfl,o,v,rfl⟩;have m:=Fy a;have E:=xx a;have K:=fW v (k:=5) (by decide) (by decide);refine af (av 1 bw.nd (a_ (bG T) s (ae (aa 0 rfl) (ae ag ak aO) ai) ⟨a,_,rfl,o,by decide,by decide,rfl⟩) ?_);by_cases b:cel a 5%9=1
 .refine af (bR (aw aW (bC (aa 1 rfl) ag (by walk_at"mod")) ag) (decide_eq_true b) ?_);have e:ptL a=[(0,0),(mny (cel a 5) *(cel a 5/45%3-1),mny (cel a 5))]:=by unfold ptL;rw[if_pos b]
  rw[e];have G:=(xf (cel a 5)).2;generalize cel a 5=c at *;refine af (av 2 bw.nd (bH ag (bC (cO (aa 1 rfl) ag (by walk_at"div")) ag (by walk_at"mod"))) ?_);refine jL (λd=>SubP [some (.val (.scr (a.map U.int))),some (.val (.int c)),some (.val (.int (mny c))),none,none,none,none] d) (mY (aw aW (bC (cO (aa 1 rfl) ag (by walk_at"div")) ag (by walk_at"mod")) ag) (λy=>?_) (λp=>(aA ?_))) ?hj
  .refine af (av 2 bw.nd (bH ag (bC (aJ (aa 1 rfl) ag (by walk_at"mul")) (ut ag ag ⟨by decide,by decide,by decide⟩) (by decide+kernel))) (aA ?_));refine⟨rfl,rfl,?_,trivial⟩;exact congrArg (λz=>some (Sl.val (.int z))) (by unfold mny;rw[if_pos (dTb y)])
  .refine⟨rfl,rfl,?_,trivial⟩;exact congrArg (λz=>some (Sl.val (.int z))) (by unfold mny;rw[if_neg (dFb p)])
  case hj=>
   intro d h;refine cX ?_ h;have H:Sz 8 (c/45%3-1):=by unfold Sz;lia
   refine af ?_;generalize hE:(Expr.List _ _)=E0;refine cx (xs:=[pu (0,0),pu (mny c*(c/45%3-1),mny c)]) ?_ rfl;subst hE;refine EvM.ev ?_;refine EA ?_ (show 2<=sizeLine by decide);refine aj (aL (aj ag (aj ag aF aO) aO)) ?_ bL;exact aj (aL (aj (aJ (aa 2 rfl) (bj (bC (cO (aa 1 rfl) ag (by walk_at"div")) ag (by walk_at"mod")) ag) (by walk_at"mul")) (aj (aa 2 rfl) aF ai) aN)) aF bL
 refine af (aU (aw aW (bC (aa 1 rfl) ag (by walk_at"mod")) ag) (decide_eq_false b) (aA ?_));by_cases f:cel a 5%9=4
 .refine af (bR (aw aW (bC (aa 1 rfl) ag (by walk_at"mod")) ag) (decide_eq_true f) ?_);have e:ptL a=[(0,0),((far (cel a 5)).1,0),(0,(far (cel a 5)).2),far (cel a 5)]:=by unfold ptL;rw[if_neg b,if_pos f]
  rw[e];refine af ?_;generalize hE:(Expr.Subscript _ _ _)=E0;refine av 3 (u:=pu (far (cel a 5))) bw.nd ?_ ?_ rfl (Or.inl rfl) (by subst hE;rfl) (.inl rfl)
  .subst hE;refine ax (EvD.ev (dsp (us:=[pu (11,7),pu (9,9),pu (100,0),pu (10,9)]) ?_ (show 4≤sizeLine by decide))) (bC (cO (aa 1 rfl) ag (by walk_at"div")) ag (by walk_at"mod")) rfl (Ef _);refine aj (aL (aj ag (aj ag aF aO) aO)) ?_ bL;refine aj (aL (aj ag (aj ag aF aO) aO)) ?_ bL;refine aj (aL (aj ag (aj ag aF aO) aO)) ?_ bL;exact aj (aL (aj ag (aj ag aF aO) aO)) aF bL
  clear hE;show Ws _ _ _ _ _ _ [some (.val (.scr (a.map U.int))),some (.val (.int (cel a 5))),none,some (.val (pu (far (cel a 5)))),none,none,none];generalize far (cel a 5)=t;refine af ?_;generalize hE:(Expr.List _ _)=E0;refine cx (xs:=[pu (0,0),pu (t.1,0),pu (0,t.2),pu t]) ?_ rfl;subst hE;refine EvM.ev ?_;refine EA ?_ (show 4<=sizeLine by decide);refine aj (aL (aj ag (aj ag aF aO) aO)) ?_ bL;refine aj (aL (aj (ax (aa 3 rfl) ag rfl rfl) (aj ag aF aO) aK)) ?_ bL;refine aj (aL (aj ag (aj (ax (aa 3 rfl) ag rfl rfl) aF aK) aO)) ?_ bL;exact aj (aa 3 rfl) aF ai
 refine af (aU (aw aW (bC (aa 1 rfl) ag (by walk_at"mod")) ag) (decide_eq_false f) (aA ?_));by_cases n:cel a 5%9=7
 .refine af (bR (aw aW (bC (aa 1 rfl) ag (by walk_at"mod")) ag) (decide_eq_true n) ?_);have e:ptL a=[(0,0),(wid (cel a 5),0),(-1,1)]:=by unfold ptL;rw[if_neg b,if_neg f,if_pos n]
  rw[e];generalize cel a 5=c at *;refine af (av 4 bw.nd (bH ag (bC (cO (aa 1 rfl) ag (by walk_at"div")) ag (by walk_at"mod"))) ?_);refine jL (λd=>SubP [some (.val (.scr (a.map U.int))),some (.val (.int c)),none,none,some (.val (.int (wid c))),none,none] d) (mY (aw aW (bC (cO (aa 1 rfl) ag (by walk_at"div")) ag (by walk_at"mod")) ag) (λy=>?_) (λp=>(aA ?_))) ?hj
  .refine af (av 4 bw.nd (bH ag (bC (aJ (aa 1 rfl) ag (by walk_at"mul")) (ut ag ag ⟨by decide,by decide,by decide⟩) (by decide+kernel))) (aA ?_));refine⟨rfl,rfl,?_,trivial⟩;exact congrArg (λz=>some (Sl.val (.int z))) (by unfold wid;rw[if_pos (dTb y)])
  .refine⟨rfl,rfl,?_,trivial⟩;exact congrArg (λz=>some (Sl.val (.int z))) (by unfold wid;rw[if_neg (dFb p)])
  case hj=>
   intro d h;refine cX ?_ h;refine af ?_;generalize hE:(Expr.List _ _)=E0;refine cx (xs:=[pu (0,0),pu (wid c,0),pu (-1,1)]) ?_ rfl;subst hE;refine EvM.ev ?_;refine EA ?_ (show 3<=sizeLine by decide);refine aj (aL (aj ag (aj ag aF aO) aO)) ?_ bL;refine aj (aL (aj (aa 4 rfl) (aj ag aF aO) ai)) ?_ bL;exact aj (aL (aj (bT ag) (aj ag aF aO) jA)) aF bL
 refine af (aU (aw aW (bC (aa 1 rfl) ag (by walk_at"mod")) ag) (decide_eq_false n) (aA ?_));have e:ptL a=(HI (nW a)).map (wdI a):=by unfold ptL;rw[if_neg b,if_neg f,if_neg n]
 rw[e];refine af (fP (i:=5) bw.nd rfl (Or.inl rfl) (bI aF) ?_);refine af (d_ (λi:Nat=>[some (.val (.scr (a.map U.int))),some (.val (.int (cel a 5))),none,none,none,some (.own (((HI i).map (wdI a)).map pu)),none]) (λi j=>i=j) rfl PassesOwn.never (z8 rfl T.aa_ (ae ag (ae (aq (E3 rfl) rfl T.abZ R5 (ae ag (ae (aq (EF rfl) rfl T.ab0 R3 (ae (aq (bu rfl) rfl T.aae G3 (ae (aa 0 rfl) ak ai)) (ae ag ak aO) aB)) ak aB) aO)) (ae ag ak aO) aB) aO) ⟨by decide,by decide,by rw[m];lia,by rw[m];lia,by decide,by decide⟩) ?h0 ?hs ?hd)
 case h0=>exact⟨0,rfl,rfl,rfl,rfl,trivial⟩
 case hs=>
  rintro L i x _ B rfl;rw[m]at B;obtain⟨D,rfl⟩:=ro B;have J:i<27:=GT D E.2;refine⟨_,(eW (i:=6) bw.nd rfl (Or.inl rfl)),?_⟩;have F:=fW v (k:=6+(i:Int) *2) (by lia) (by lia)
  have I:=fW v (k:=6+(i:Int) *2+1) (by lia) (by lia)
  have r:((HI i).map (wdI a)).map pu++[pu (wdI a i)]=((HI (i+1)).map (wdI a)).map pu:=by
   rw[KU,Hz,Hz];rfl
  have g:(((HI i).map (wdI a)).map pu).length<=1000:=by simp;lia
  refine af (cN 5 rfl (aL (aj (bC (a_ (bG T) s (ae (aa 0 rfl) (ae (aa 6 rfl) ak ai) ai) ⟨a,_,rfl,o,by lia,by lia,rfl⟩) ag (by walk_at"mod")) (aj (bC (a_ (bG T) s (ae (aa 0 rfl) (ae (bH (aa 6 rfl) ag) ak aN) ai) ⟨a,_,rfl,o,by lia,by lia,rfl⟩) ag (by walk_at"mod")) aF aN) aN)) (aE g) (aA ?_));refine⟨i+1,rfl,rfl,rfl,?_,trivial⟩;exact congrArg (λl=>some (Sl.own l)) r
 case hd=>
  rintro q d A h;refine cX ?_ h;rw[gE,m]at A;have C:q=nW a:=A.symm;subst C;refine af (gh 5 rfl ?_);exact rfl
noncomputable def tmV(c:Int):Int:=if c%8=1 then 0 else if c%8=2 then c/8*48271%10 ^ (60:Int).toNat else c/8%8-3
theorem Ek(c:Int):-3<=tmV c/\Sz 200 (tmV c):=by
 unfold tmV;split
 .exact⟨by decide,by decide+kernel⟩
 .split
  .have h:=rX (k:=200) (m:=10 ^ (60:Int).toNat) (by decide+kernel) (by decide+kernel) (c/8*48271);exact⟨by lia,h.2⟩
  .exact⟨by lia,Sz.mono (m:=8) (by unfold Sz;lia) (by decide)⟩
def oO:List U->Out->Prop:=λa o=>∃c:Int,a=[.int c]/\Sz 1048576 c/\o=.val (.int (tmV c))
theorem mT:OkD P w base T.abp 1 (oO):=by
 refine okD mU (by walk_at"ln") ?_;rintro _ _ _ e ⟨c,rfl,d,rfl⟩;unfold tmV;by_cases b:c%8=1
 .refine af (bR (aw aW (bC (aa 0 rfl) ag (by walk_at"mod")) ag) (decide_eq_true b) ?_);refine af (aR ag ?_);rw[if_pos b]
 refine af (aU (aw aW (bC (aa 0 rfl) ag (by walk_at"mod")) ag) (decide_eq_false b) (aA ?_));rw[if_neg b];by_cases a:c%8=2
 .refine af (bR (aw aW (bC (aa 0 rfl) ag (by walk_at"mod")) ag) (decide_eq_true a) ?_);refine af (aR (bC (aJ (cO (aa 0 rfl) ag (by walk_at"div")) ag (by walk_at"mul")) (ut ag ag ⟨by decide,by decide,by decide⟩) (by decide+kernel)) ?_);rw[if_pos a]
 refine af (aU (aw aW (bC (aa 0 rfl) ag (by walk_at"mod")) ag) (decide_eq_false a) (aA ?_));rw[if_neg a];refine af (aR (bj (bC (cO (aa 0 rfl) ag (by walk_at"div")) ag (by walk_at"mod")) ag) ?_);exact rfl
structure BC(l:List P2):Prop where
 len:l.length<=3
 asc:l.Pairwise plt
 two:∀a b,l=[a,b]->Kz (b.1-a.1) (b.2-a.2)=1
 three:∀a b c,l=[a,b,c]->ah a b c=1\/ah a b c=-1
theorem Fq(h:plt a b):ST.leP b a=false:=by
 unfold plt at h;unfold ST.leP;simp;lia
def wz:List U->Out->Prop:=λa o=>∃l:List P2,a=[lp l]/\BC l/\(∀p∈l,Szp 2500 p)/\o=.val (.bl true)
theorem oy:OkD P w base T.abA 2 (wz):=by
 refine okD jp (by walk_at"ln") ?_;rintro _ _ _ h ⟨l,rfl,⟨n,g,k,j⟩,sz,rfl⟩;have f:((l.map pu).length:Int)=(l.length:Int):=by rw[GD]
 refine af (d_ (λ_:Unit=>[some (.val (lp l)),none]) (λ_ _=>True) rfl PassesOwn.never (k8 rfl T.aa_ (ae (bj (aq (bu rfl) rfl T.aae G3 (ae (aa 0 rfl) ak ai)) ag) ak aN) (by rw[f];lia) (by rw[f];lia)) ?h0 ?hs ?hd)
 case h0=>exact⟨(),trivial,rfl,trivial⟩
 case hs=>
  rintro z i x _ u _;obtain⟨q,rfl⟩:=e7 u;have m:i+1<l.length:=by rw[f]at q;lia
  refine⟨_,(eW (i:=1) jp.nd rfl (Or.inl rfl)),?_⟩
  have lt:plt (gp l i) (gp l (i+1)):=by
   have:=G6.mp g i (i+1) (by lia) m (by lia);simpa [gp,m,show i<l.length by lia] using this
  refine af (aU (aw (qC (ig h)) (ax (aa 0 rfl) (bH (aa 1 rfl) ag) rfl (eQ (i:=i+1) (by lia) m)) (ax (aa 0 rfl) (aa 1 rfl) rfl (eQ (i:=i) (by lia) (by lia)))) (Fq lt) (aA (aA ?_)));exact⟨(),trivial,rfl,trivial⟩
 case hd=>
  rintro _ y _ t;refine cX ?_ t
  match l,n,k,j,sz,f with
  |[],_,_,_,_,_=>
   refine af (aU (aw aW (aq (bu rfl) rfl T.aae G3 (ae (aa 0 rfl) ak ai)) ag) rfl (aA ?_));refine af (aR (Cs (dw d8 (aq (bu rfl) rfl T.aae G3 (ae (aa 0 rfl) ak ai)) ag) rfl) ?_);exact rfl
  |[a],_,_,_,_,_=>
   refine af (aU (aw aW (aq (bu rfl) rfl T.aae G3 (ae (aa 0 rfl) ak ai)) ag) rfl (aA ?_));refine af (aR (Cs (dw d8 (aq (bu rfl) rfl T.aae G3 (ae (aa 0 rfl) ak ai)) ag) rfl) ?_);exact rfl
  |[a,b],_,k,_,sz,_=>
   have o:=sz a (by simp);have p:=sz b (by simp);refine af (bR (aw aW (aq (bu rfl) rfl T.aae G3 (ae (aa 0 rfl) ak ai)) ag) rfl ?_);refine af (aR (dw aW (a_ (gw T) h (ae (bj (ax (ax (aa 0 rfl) ag rfl rfl) ag rfl rfl) (ax (ax (aa 0 rfl) ag rfl rfl) ag rfl rfl)) (ae (bj (ax (ax (aa 0 rfl) ag rfl rfl) ag rfl rfl) (ax (ax (aa 0 rfl) ag rfl rfl) ag rfl rfl)) ak aN) aN) ⟨b.1-a.1,b.2-a.2,rfl,rfl⟩) ag) ?_);exact vB (by rw[k a b rfl];rfl)
  |[a,b,c],_,_,j,sz,_=>
   have o:=sz a (by simp);have p:=sz b (by simp);have s:=sz c (by simp);refine af (aU (aw aW (aq (bu rfl) rfl T.aae G3 (ae (aa 0 rfl) ak ai)) ag) rfl (aA ?_));refine af (aR (EK (dw d8 (aq (bu rfl) rfl T.aae G3 (ae (aa 0 rfl) ak ai)) ag) (λv=>(oj (dw aW (aq lv rfl T.abB PyProof.Rows.boot_abs (ae (a_ (eC T) h (ae (ax (aa 0 rfl) ag rfl rfl) (ae (ax (aa 0 rfl) ag rfl rfl) (ae (ax (aa 0 rfl) ag rfl rfl) ak aK) aK) aK) ⟨a,b,c,rfl,o.mono (by decide),p.mono (by decide),s.mono (by decide),rfl⟩) ak aB)) ag)))) ?_);refine vB ?_;rcases j a b c rfl with e |e <;>rw[e] <;>rfl
  |a::b::c::d::r,n,_,_,_,_=>simp at n
noncomputable def sN(z:List ST3.PQ):Int:=(z.map (·.2)).sum
noncomputable def sX(z:List ST3.PQ):Int:=(z.map λe=>e.1.1*e.2).sum
noncomputable def sY(z:List ST3.PQ):Int:=(z.map λe=>e.1.2*e.2).sum
structure FA(z:List ST3.PQ):Prop where
 len:z.length<=60
 sz:∀e∈z,Szp 300 e.1/\Sz 300 e.2
theorem ue{z:List ST3.PQ}(a:x∈z.map qU):∃e,x=qU e:=by
 obtain⟨e,_,rfl⟩:=GJ.mp a;exact⟨e,rfl⟩
def AL:List U->Out->Prop:=λa o=>∃n:Int,a=[.int n]/\o=.val (.bl true)
theorem fE:OkD P w base T.abq 1 (AL):=by
 refine okD mS (by walk_at"ln") ?_;rintro _ _ _ b ⟨n,rfl,rfl⟩;refine af (aR (nY (aq (dS (by intro _ h;cases h) (by walk_at"kit")) rfl T.aaa GU (ae (aa 0 rfl) (ae (lw rfl T.abY RX) ak ai) ai)) (λa=>(oj (Ck (aq (dS (by intro _ h;cases h) (by walk_at"kit")) rfl T.aaa GU (ae (aa 0 rfl) (ae (lw rfl T.ab2 boot_bool) ak ai) ai)))))) ?_);exact rfl
def iG:List U->Out->Prop:=λa o=>∃(z:List ST3.PQ) (l:List P2),a=[.lst (z.map qU),lp l]/\l≠[]/\l.length<=64/\(∀p∈l,Szp 150 p)/\z.length<=3/\(∀e∈z,1<=e.2/\Szp 150 e.1/\b9 l e.1=true)/\o=.val (.bl true)
theorem mR:OkD P w base T.abr 3 (iG):=by
 refine okD im (by walk_at"ln") ?_;rintro _ _ _ b ⟨z,l,rfl,k,v,g,r,j,rfl⟩;have f:((z.map qU).length:Int)=(z.length:Int):=by rw[GD]
 refine af (aU (Tw.t (kh (dj (c9 (aq (dS (by intro _ h;cases h) (L2.kit_list_list _)) rfl T.aaa GU (ae (aa 0 rfl) (ae (lw rfl T.aat LO) ak ai) ai)))) (λa=>(ju (aw eo (aq (bu rfl) rfl T.aae G3 (ae (aa 0 rfl) ak ai)) ag))))) (show (!true ||decide (((z.map qU).length:Int) >3))=false by rw[f,decide_eq_false (by lia)];rfl) (aA ?_));refine af (d_ (λ_:Unit=>[some (.val (.lst (z.map qU))),some (.val (lp l)),none]) (λ_ _=>True) rfl PassesOwn.never (bZ (aa 0 rfl) (.inl rfl)) ?h0 ?hs ?hd)
 case h0=>exact⟨(),trivial,rfl,rfl,trivial⟩
 case hs=>
  rintro x i y _ c _;rw[GN]at c;obtain⟨e,d,rfl⟩:=IZ.mp c;obtain⟨u,n,o⟩:=j e (Hb d);refine⟨_,(eW (i:=2) im.nd rfl (Or.inl rfl)),?_⟩;refine af (aU (Tw.t (kh (dj (c9 (aq (dS (by intro _ h;cases h) (by walk_at"kit")) rfl T.aaa GU (ae (aa 2 rfl) (ae (lw rfl T.abn Qy) ak ai) ai)))) (λa=>(kh (aw j3 (aq (bu rfl) rfl T.aae G3 (ae (aa 2 rfl) ak ai)) ag) (λa=>(kh (dj (c9 (a_ (fE T) b (ae (ax (aa 2 rfl) ag rfl rfl) ak aK) ⟨_,rfl,rfl⟩))) (λa=>(ju (aw d8 (ax (aa 2 rfl) ag rfl rfl) ag))))))))) (show (!true || (!decide ((2:Int)=2) || (!true ||decide (e.2<1))))=false by rw[decide_eq_false (show ¬ e.2<1 by lia)];rfl) (aA ?_))
  refine af (aU (Tw.t (kh (dj (c9 (aq (dS (by intro _ h;cases h) (by walk_at"kit")) rfl T.aaa GU (ae (ax (aa 2 rfl) ag rfl rfl) (ae (lw rfl T.abn Qy) ak ai) aK)))) (λa=>(ju (aw j3 (aq (bu rfl) rfl T.aae G3 (ae (ax (aa 2 rfl) ag rfl rfl) ak aK)) ag))))) (show (!true || !decide ((2:Int)=2))=false by rfl) (aA ?_));refine af (aU (Tw.t (kh (dj (c9 (a_ (fE T) b (ae (ax (ax (aa 2 rfl) ag rfl rfl) ag rfl rfl) ak aK) ⟨_,rfl,rfl⟩))) (λa=>(kh (dj (c9 (a_ (fE T) b (ae (ax (ax (aa 2 rfl) ag rfl rfl) ag rfl rfl) ak aK) ⟨_,rfl,rfl⟩))) (λa=>(ju (dj (c9 (a_ (iM T) b (ae (aa 1 rfl) (ae (ax (aa 2 rfl) ag rfl rfl) ak aK) ai) ⟨l,e.1,rfl,k,by lia,λp m=>(g p m).mono (by decide),n.mono (by decide),rfl⟩))))))))) (by rw[o];rfl) (aA (aA ?_)));exact⟨(),trivial,rfl,rfl,trivial⟩
 case hd=>
  rintro _ s _ q;refine cX ?_ q;refine af (aR m_ ?_);exact rfl
def lO:List U->Out->Prop:=λa o=>∃(z:List ST3.PQ) (l:List P2),a=[.lst (z.map qU),lp l,.int (sN z),pu (sX z,sY z)]/\FA z/\iG [.lst (z.map qU),lp l] (.val (.bl true))/\BC (z.map (·.1))/\o=.val (.bl true)
theorem nj:OkD P w base T.abt 4 (lO):=by
 refine okD be (by walk_at"ln") ?_;rintro _ _ _ k ⟨z,l,rfl,⟨u,f⟩,q,nr,rfl⟩;refine af (aU (Tw.t (kh (dj (c9 (a_ (mR T) k (ae (aa 0 rfl) (ae (aa 1 rfl) ak ai) ai) q))) (λr=>(ju (dj (c9 (a_ (oy T) k (ae (EvN.ev (cE (ys:=((z.map (·.1)).map pu)) rfl (blk (am cG) ["found","land","k","point","spot","times_v","many","x","y"] [4,5] rfl rfl rfl rfl (by decide+kernel)) (EvI.z (bZ (aa 0 rfl) (.inl rfl))) (λ_ _ _ _=>dX rfl (aV (aT (i:=4) be.nd rfl (Or.inl rfl)) (aV (aT (i:=5) be.nd rfl (Or.inl rfl)) cF))) (df (js:=[4,5]) (by decide)) ?clen ?csz ?dom ?celt)) ak cH) ⟨z.map (·.1),rfl,nr,λp s=>by obtain⟨e,d,rfl⟩:=GJ.mp s;exact (f e d).1.mono (by decide),rfl⟩))))))) rfl (aA ?_))
 case clen=>simp
 case csz=>rw[GD];exact Hd (aE (by lia))
 case dom=>intro x a;obtain⟨e,rfl⟩:=ue a;exact⟨_,rfl,rfl⟩
 case celt=>
  rw[Ho];intro C m h g j w y a b;obtain⟨e,d,c,rfl,rfl⟩:=di a b;exact (aa 4 rfl)
 refine af (av 6 be.nd (aq (my rfl (ns:=z.map λe=>e.2)) rfl T.abU Q3 (ae (EvN.ev (cE (ys:=((z.map λe=>e.2).map U.int)) rfl (blk (am cG) ["found","land","k","point","spot","times_v","many","x","y"] [4,5] rfl rfl rfl rfl (by decide+kernel)) (EvI.z (bZ (aa 0 rfl) (.inl rfl))) (λ_ _ _ _=>dX rfl (aV (aT (i:=4) be.nd rfl (Or.inl rfl)) (aV (aT (i:=5) be.nd rfl (Or.inl rfl)) cF))) (df (js:=[4,5]) (by decide)) ?clen ?csz ?dom ?celt)) ak cH)) ?_)
 case clen=>simp
 case csz=>rw[GD];exact Hd (aE (by lia))
 case dom=>intro x a;obtain⟨e,rfl⟩:=ue a;exact⟨_,rfl,rfl⟩
 case celt=>
  intro C m h g j x y a b;rw[Ho]at b;obtain⟨e,d,c,rfl,rfl⟩:=di a b;exact (aa 5 rfl)
 refine af (av 7 be.nd (aq (my rfl (ns:=z.map λe=>e.1.1*e.2)) rfl T.abU Q3 (ae (EvN.ev (cE (ys:=((z.map λe=>e.1.1*e.2).map U.int)) rfl (blk (am cG) ["found","land","k","point","spot","times_v","many","x","y"] [4,5] rfl rfl rfl rfl (by decide+kernel)) (EvI.z (bZ (aa 0 rfl) (.inl rfl))) (λ_ _ _ _=>dX rfl (aV (aT (i:=4) be.nd rfl (Or.inl rfl)) (aV (aT (i:=5) be.nd rfl (Or.inl rfl)) cF))) (df (js:=[4,5]) (by decide)) ?clen ?csz ?dom ?celt)) ak cH)) ?_)
 case clen=>simp
 case csz=>rw[GD];exact Hd (aE (by lia))
 case dom=>intro x a;obtain⟨e,rfl⟩:=ue a;exact⟨_,rfl,rfl⟩
 case celt=>
  intro C m h g j x y a b;rw[Ho]at b;obtain⟨e,d,c,rfl,rfl⟩:=di a b;have o:=(f e c).1.1;have n:=(f e c).2;exact (aJ (ax (aa 4 rfl) ag rfl rfl) (aa 5 rfl) (by walk_at"mul"))
 refine af (av 8 be.nd (aq (my rfl (ns:=z.map λe=>e.1.2*e.2)) rfl T.abU Q3 (ae (EvN.ev (cE (ys:=((z.map λe=>e.1.2*e.2).map U.int)) rfl (blk (am cG) ["found","land","k","point","spot","times_v","many","x","y"] [4,5] rfl rfl rfl rfl (by decide+kernel)) (EvI.z (bZ (aa 0 rfl) (.inl rfl))) (λ_ _ _ _=>dX rfl (aV (aT (i:=4) be.nd rfl (Or.inl rfl)) (aV (aT (i:=5) be.nd rfl (Or.inl rfl)) cF))) (df (js:=[4,5]) (by decide)) ?clen ?csz ?dom ?celt)) ak cH)) ?_)
 case clen=>simp
 case csz=>rw[GD];exact Hd (aE (by lia))
 case dom=>intro x a;obtain⟨e,rfl⟩:=ue a;exact⟨_,rfl,rfl⟩
 case celt=>
  intro C m h g j x y a b;rw[Ho]at b;obtain⟨e,d,c,rfl,rfl⟩:=di a b;have o:=(f e c).1.2;have n:=(f e c).2;exact (aJ (ax (aa 4 rfl) ag rfl rfl) (aa 5 rfl) (by walk_at"mul"))
 refine af (aR (nY (dw aW (aa 6 rfl) (aa 2 rfl)) (λr=>(oj (dw (uo k rfl rfl) (aL (aj (aa 7 rfl) (aj (aa 8 rfl) aF ai) ai)) (aa 3 rfl))))) ?_);refine vB ?_;show (decide (sN z=sN z) && eqW (pu (sX z,sY z)) (pu (sX z,sY z)))=true;rw[tF];simp
theorem we{l m:List Int}(h:l.Perm m):l.sum=m.sum:=by
 induction h with
 |nil=>rfl
 |cons x _ b=>rw[Je,Je,b]
 |swap x y l=>simp only[Je];lia
 |trans _ _ c a=>exact c.trans a
theorem yH(h:l.Nodup):(SG.srt ST3.KQ l).Perm l:=by
 refine (JA ?_ h).mpr λz=>SG.srt_mem _ z l;exact (SG.srt_asc ST3.KQ l).imp λ{a b} h e=>by subst e;rw[SG.irr]at h;cases h
theorem x_(k)(a b d x):dk k b d x+dk k d a x+dk k a b x=k*ah a b d:=by unfold dk ah;grind
theorem EV(k)(a b d x):a.1*dk k b d x+b.1*dk k d a x+d.1*dk k a b x=x.1*ah a b d/\a.2*dk k b d x+b.2*dk k d a x+d.2*dk k a b x=x.2*ah a b d:=by
 unfold dk ah;constructor <;>grind
theorem uH{a:Type}(f:a->Int)(g:a->Int)(h:∀e,g e=0->f e=0):∀l:List a,(∀e∈l,0<=g e)->((l.filter λe=>decide (0<g e)).map f).sum=(l.map f).sum
 |[],_=>rfl
 |e::l,hl=>by
  have ih:=uH f g h l λz b=>hl z (GG _ b);have c:=hl e GR;rw[Oj,G_,Je];by_cases k:0<g e
  .rw[if_pos (by simpa using k),G_,Je,ih]
  .rw[if_neg (by simpa using k),ih,h e (by lia)];lia
theorem BM(h:u1*v2-u2*v1=1\/u1*v2-u2*v1=-1):Kz u1 u2=1:=by
 have a:((Kz u1 u2):Int) ∣ u1:=LS ..;have b:((Kz u1 u2):Int) ∣ u2:=LG ..
 have:((Kz u1 u2):Int) ∣ 1:=by
  have e:=Nh (Od (c:=v2) a) (Od (c:=v1) b);rcases h with h |h
  .rwa [h]at e
  .rw[h]at e;exact (N_).mp e
 have:=Int.eq_one_of_dvd_one (by lia) this;lia
theorem i7(a b d:P2):ah b a d=-ah a b d/\ah a d b=-ah a b d:=by unfold ah;constructor <;>grind
theorem qh(h:ah a b d=1)(c:[p,q,r].Nodup)(hs:∀z∈[p,q,r],z∈[a,b,d]):ah p q r=1\/ah p q r=-1:=by
 have n:ah b a d=-1:=by rw[(i7 a b d).1,h]
 have k:ah a d b=-1:=by rw[(i7 a b d).2,h]
 have m:ah b d a=1:=by rw[(i7 b a d).2,n];rfl
 have s:ah d a b=1:=by rw[(i7 a d b).1,k];rfl
 have o:ah d b a=-1:=by rw[(i7 b d a).1,m]
 have f:=hs p (by simp);have g:=hs q (by simp);have e:=hs r (by simp);simp only[GF,G9,or_false]at f g e;simp only[I0,GF,G9,or_false,not_or,RD,and_true,not_false_iff]at c;obtain⟨⟨j,i⟩,l⟩:=c;clear hs;rcases f with rfl |rfl |rfl <;>rcases g with rfl |rfl |rfl <;>first |exact absurd rfl j | (rcases e with rfl |rfl |rfl <;>first |exact absurd rfl i |exact absurd rfl l |exact .inl (by assumption) |exact .inr (by assumption))
theorem xX(hd:ah a b d=1)(hn:p≠q)(hp:p∈[a,b,d])(hq:q∈[a,b,d]):Kz (q.1-p.1) (q.2-p.2)=1:=by
 simp only[GF,G9,or_false]at hp hq;have key:∀r,(ah p q r=1\/ah p q r=-1)->Kz (q.1-p.1) (q.2-p.2)=1:=λr h=>BM (by unfold ah at h;exact h)
 have nd:[a,b,d].Nodup:=by
  have z1:a≠b:=fun e=>by subst e;have:ah a a d=0:=by unfold ah;grind
                         lia
  have z2:a≠d:=fun e=>by subst e;have:ah a b a=0:=by unfold ah;grind
                         lia
  have z3:b≠d:=fun e=>by subst e;have:ah a b b=0:=by unfold ah;grind
                         lia
  simp[z1,z2,z3]
 have third:∃r∈[a,b,d],r≠p/\r≠q:=by
  simp only[I0,GF,G9,or_false,not_or]at nd;obtain⟨⟨n1,n2⟩,n3,_⟩:=nd;rcases hp with rfl |rfl |rfl <;>rcases hq with rfl |rfl |rfl
  .exact absurd rfl hn
  .exact⟨d,by simp,Ne.symm n2,Ne.symm n3⟩
  .exact⟨b,by simp,Ne.symm n1,n3⟩
  .exact⟨d,by simp,Ne.symm n3,Ne.symm n2⟩
  .exact absurd rfl hn
  .exact⟨a,by simp,n1,n2⟩
  .exact⟨b,by simp,n3,Ne.symm n1⟩
  .exact⟨a,by simp,n2,n1⟩
  .exact absurd rfl hn
 obtain⟨r,mr,r1,r2⟩:=third;refine key r (qh hd (by simp[hn,Ne.symm r1,Ne.symm r2]) λz hz=>?_);simp only[GF,G9,or_false]at hz |-;rcases hz with rfl |rfl |rfl
 .exact hp
 .exact hq
 .simpa using mr
structure Fw(c:List P2)(k:Int)(x:P2)(z:List ST3.PQ):Prop where
 n:sN z=k
 x1:sX z=x.1
 y1:sY z=x.2
 len:z.length<=3
 pos:∀e∈z,1<=e.2
 mem:∀e,e∈z↔e∈wts c k x/\0<e.2
 near:BC (z.map (·.1))
theorem ja(hd:ah a b d=1)(w1:0<=dk k b d x)(w2:0<=dk k d a x)(w3:0<=dk k a b x):Fw [a,b,d] k x (eV [a,b,d] k x):=by
 have z1:a≠b:=fun e=>by subst e;have:ah a a d=0:=by unfold ah;grind
                        lia
 have z2:a≠d:=fun e=>by subst e;have:ah a b a=0:=by unfold ah;grind
                        lia
 have z3:b≠d:=fun e=>by subst e;have:ah a b b=0:=by unfold ah;grind
                        lia
 have hw:wts [a,b,d] k x=[(a,dk k b d x),(b,dk k d a x),(d,dk k a b x)]:=rfl;have ndw:(wts [a,b,d] k x).Nodup:=by rw[hw];simp[z1,z2,z3]
 have nn:∀e∈wts [a,b,d] k x,0<=e.2:=λe he=>by
  rw[hw]at he;simp only[GF,G9,or_false]at he;rcases he with rfl |rfl |rfl
  .exact w1
  .exact w2
  .exact w3
 have ndf:=ndw.sublist (PX (p:=λz:P2×Int=>decide (0<z.2)));have pm:=yH ndf
 have mem:∀e,e∈eV [a,b,d] k x↔e∈wts [a,b,d] k x/\0<e.2:=λe=>by
  unfold eV;rw[pm.mem_iff,Im];simp
 have sm:∀f:P2×Int->Int,(∀e,e.2=0->f e=0)->((eV [a,b,d] k x).map f).sum=f (a,dk k b d x)+f (b,dk k d a x)+f (d,dk k a b x):=λf hf=>by
  unfold eV;rw[we (pm.map f)];have:=uH f (λe=>e.2) hf (wts [a,b,d] k x) nn;rw[this,hw];simp;lia
 have s0:=x_ k a b d x;obtain⟨s1,s2⟩:=EV k a b d x;rw[hd]at s0 s1 s2;have asc:=SG.srt_asc ST3.KQ ((wts [a,b,d] k x).filter λz=>decide (0<z.2))
 have sub:∀p∈(eV [a,b,d] k x).map (·.1),p∈[a,b,d]:=λp hp=>by
  obtain⟨e,he,rfl⟩:=GJ.mp hp;have:=((mem e).mp he).1;rw[hw]at this;simp only[GF,G9,or_false]at this |-;rcases this with rfl |rfl |rfl <;>simp
 have one:∀e∈wts [a,b,d] k x,∀e'∈wts [a,b,d] k x,e.1=e'.1->e=e':=λe he e' he' h=>by
  rw[hw]at he he';simp only[GF,G9,or_false]at he he';rcases he with rfl |rfl |rfl <;>rcases he' with rfl |rfl |rfl <;>first |rfl |exact absurd h z1 |exact absurd h z2 |exact absurd h z3 |exact absurd h (Ne.symm z1) |exact absurd h (Ne.symm z2) |exact absurd h (Ne.symm z3)
 have pl:((eV [a,b,d] k x).map (·.1)).Pairwise plt:=by
  refine Hy.mpr (KM (λ{e e'} he he' h=>?_) asc);have m1:=((mem e).mp he).1;have m2:=((mem e').mp he').1;have h':ST3.ltQ e e'=true:=h;unfold ST3.ltQ at h';by_cases q:e.1=e'.1
  .have:=one e m1 e' m2 q;subst this;simp at h'
  .rw[if_neg q]at h';exact (d7 _ _).mpr h'
 have len:(eV [a,b,d] k x).length<=3:=by
  unfold eV;rw[pm.length_eq];exact HB (Lv _ _) (by rw[hw];simp)
 refine⟨?_,?_,?_,len,λe he=>by have:=((mem e).mp he).2;lia,mem,⟨by rw[GD];exact len,pl,λp q e=>?_,λp q r e=>?_⟩⟩
 .unfold sN;rw[sm (λe=>e.2) λe h=>h];lia
 .unfold sX;rw[sm (λe=>e.1.1*e.2) λe h=>by rw[h];simp];dsimp only;lia
 .unfold sY;rw[sm (λe=>e.1.2*e.2) λe h=>by rw[h];simp];dsimp only;lia
 .rw[e]at pl sub;have ne:p≠q:=λz=>by subst z;exact aI p ((Hl.mp pl).1 p (by simp))
  exact xX hd ne (sub p (by simp)) (sub q (by simp))
 .rw[e]at pl sub;refine qh hd ?_ sub;exact pl.imp λ{a b} h e=>by subst e;exact aI a h
noncomputable def CX(s k:Int)(x:P2):List P2->Prop
 |b::a::r=>s*dk k a b x<=0/\CX s k x (a::r)
 |_=>True
def Beh(l:List P2)(P x:P2)(k:Int)(u v:P2):Prop:=u∈l/\v∈l/\plt u v/\∃D a b e:Int,0<D/\0<=a/\0<=b/\e<0/\∀c d:P2,D*dk k c d x=e*ah c d P+a*ah c d u+b*ah c d v
theorem fan(hs:s=1\/s=-1){P x:P2}(j:∀q∈l,plt q P):∀f,DW s l f P->∀b r,f=b::r->0<=s*dk k b P x->CX s k x (P::cg s P f)->
  (∃t∈fq s P f,0<=s*dk k t.1 t.2.1 x/\0<=s*dk k t.2.1 t.2.2 x/\0<=s*dk k t.2.2 t.1 x)\/(∃u v,Beh l P x k u v/\0<s*ah u v P)\/(cg s P f=f/\s*dk k b P x<=0)
 |[],D,b,r,e,_,_=>by cases e
 |[c],D,b,r,e,h,g=>by
  cases e;exact .inr (.inr ⟨rfl,g.1⟩)
 |b::a::r',D,c,r,e,h,g=>by
  cases e;by_cases h0:0<s*ah a b P
  .have nx:=oW hs j D h0;have i:∀c d:P2,s*ah a b P*dk k c d x=s*dk k a b x*ah c d P+s*dk k b P x*ah c d a+s*dk k P a x*ah c d b:=λc d=>by unfold dk ah;grind
   have p:s*dk k P a x=-(s*dk k a P x):=by unfold dk;grind
   rw[cg,if_pos h0]at g;rw[cg,fq,if_pos h0,if_pos h0];by_cases o:s*dk k a P x<=0
   .by_cases m:0<=s*dk k a b x
    .exact .inl ⟨(a,b,P),by simp,m,h,by dsimp only;omega⟩
    .exact .inr (.inl ⟨a,b,⟨D.sub a (by simp),D.sub b (by simp),D.desc.1,_,_,_,_,h0,h,(show 0<=s*dk k P a x by omega),(show s*dk k a b x<0 by omega),i⟩,h0⟩)
   .rcases fan hs j (a::r') nx a r' rfl (by omega) g with ⟨t,n,z⟩ |z |⟨_,z⟩
    .exact .inl ⟨t,GG _ n,z⟩
    .exact .inr (.inl z)
    .omega
  .rw[cg,if_neg h0]at g |-;exact .inr (.inr ⟨rfl,g.1⟩)
theorem uG{P x u v:P2}(B:Beh l P x k u v):∀c,wN s l c->CX s k x (cg s P c)->CX s k x c
 |[],_,_=>trivial
 |[_],_,_=>trivial
 |b::a::r,C,h=>by
  by_cases h0:0<s*ah a b P
  .rw[cg,if_pos h0]at h;refine⟨?_,uG B (a::r) C.2 h⟩;obtain⟨t,mv,_,D,j,f,q,d,m,o,i,n⟩:=B;have p:=(C.1 u t).1;have g:=(C.1 v mv).1
   have e:D*(s*dk k a b x)=q*(s*ah a b P)+j*(s*ah a b u)+f*(s*ah a b v):=by
    grind
   have A:=Ia m p;have w:=Ia o g;have y:=Jb i h0;rcases Ig 0 (s*dk k a b x) with z |z
   .have:=HR d z;lia
   .exact z
  .rw[cg,if_neg h0]at h;exact h
theorem pT(h:plt a b)(h':plt a' b')(d:ah a b a'=0)(g:ah a b b'=0):∃p q,0<p/\0<q/\∀k x,p*dk k a' b' x=q*dk k a b x:=by
 have l1:=aG h;have l2:=aG h';have c:(b.1-a.1) *(b'.2-a'.2)=(b.2-a.2) *(b'.1-a'.1):=by unfold ah at d g;grind
 have i:(b.1-a.1) *(a'.2-a.2)=(b.2-a.2) *(a'.1-a.1):=by unfold ah at d;grind
 unfold bY at l1 l2;rcases l1 with z |⟨z,e⟩
 .have w:0<b'.1-a'.1:=by
   rcases l2 with y |⟨y,f⟩
   .exact y
   .rw[y,IJ]at c;have:=HR z f;lia
  refine⟨b.1-a.1,b'.1-a'.1,z,w,λk x=>?_⟩;unfold dk;grind
 .have y:b'.1-a'.1=0:=by
   rw[z,Jn]at c;rcases HA.mp c.symm with y |y
   .lia
   .exact y
  have w:0<b'.2-a'.2:=by lia
  refine⟨b.2-a.2,b'.2-a'.2,e,w,λk x=>?_⟩;unfold dk;grind
theorem eX(a b q):dk 1 a b q=ah a b q:=by unfold dk ah;grind
theorem BT:∀row,row.Pairwise plt->(∀s,s=1\/s=-1->CX s k x (bv s row).1)->
  (∃s t,(s=1\/s=-1)/\t∈(bv s row).2/\0<=s*dk k t.1 t.2.1 x/\0<=s*dk k t.2.1 t.2.2 x/\0<=s*dk k t.2.2 t.1 x)\/∃b P,plt b P/\(∀q∈row,ah b P q=0):=by
 refine jq (λ_ _=>.inr ⟨(0,0),(1,0),by unfold plt;simp,λq g=>by cases g⟩) λl P ih hr hx=>?_;obtain⟨H,T⟩:=eY hr;by_cases m:l=[]
 .subst m;refine .inr ⟨P,(P.1+1,P.2),.inl (by dsimp only;lia),λq g=>?_⟩;have:q=P:=by simpa using g
  subst this;unfold ah;grind
 have X:l=l.dropLast++[l.getLast m]:=(Lh m).symm;have mb:l.getLast m∈l:=List.getLast_mem m;have VT:=T _ mb;generalize l.getLast m=d at *
 have G:∀s,(bv s l).1.head?=some d:=λs=>by
  have:=oN s l.dropLast d
  rwa [<-X]at this
 have top:∀q∈l,¬ plt d q:=λq g=>by
  rw[X]at H g;rcases Hi.mp g with z |z
  .have:=(eY H).2 q z;unfold plt at *;lia
  .rw[GL.mp z];unfold plt;lia
 have R:∀s,s=1\/s=-1->KW s l (bv s l).1:=λs a=>pW a l H m
 have DS:∀s,s=1\/s=-1->DW s l (bv s l).1 P:=λs a=>⟨R s a,λh r e q g SW=>by
  have:=G s;rw[e]at this;cases this;exact absurd SW (top q g)⟩
 have C:∀s,s=1\/s=-1->CX s k x (P::cg s P (bv s l).1):=λs a=>by
  have:=hx s a;rw[cL]at this;exact this
 have F:∀s,s=1\/s=-1->0<=s*dk k d P x->(∃t∈fq s P (bv s l).1,0<=s*dk k t.1 t.2.1 x/\0<=s*dk k t.2.1 t.2.2 x/\0<=s*dk k t.2.2 t.1 x)\/(∃u v,Beh l P x k u v/\0<s*ah u v P)\/(cg s P (bv s l).1=(bv s l).1/\s*dk k d P x<=0):=λs a h=>by
  have i:=G s;cases e:(bv s l).1 with
  |nil=>rw[e]at i;cases i
  |cons c r=>
   rw[e]at i;cases i;have D:=DS s a;have c:=C s a;rw[e]at D c;exact fan a T (d::r) D d r rfl h c
 have o:∀s,s=1\/s=-1->(∃t∈fq s P (bv s l).1,0<=s*dk k t.1 t.2.1 x/\0<=s*dk k t.2.1 t.2.2 x/\0<=s*dk k t.2.2 t.1 x)->∃s t,(s=1\/s=-1)/\t∈(bv s (l++[P])).2/\0<=s*dk k t.1 t.2.1 x/\0<=s*dk k t.2.1 t.2.2 x/\0<=s*dk k t.2.2 t.1 x:=λs a ⟨t,M,z⟩=>⟨s,t,a,by
  rw[cL];exact Ha _ M,z⟩
 have j:∀s,s=1\/s=-1->(∃u v,Beh l P x k u v/\0<s*ah u v P)->∃s t,(s=1\/s=-1)/\t∈(bv s (l++[P])).2/\0<=s*dk k t.1 t.2.1 x/\0<=s*dk k t.2.1 t.2.2 x/\0<=s*dk k t.2.2 t.1 x:=λs a z9=>by
  obtain⟨u,v,B,hD⟩:=z9
  have E:∀s,s=1\/s=-1->CX s k x (bv s l).1:=λs a=>uG B _ (R s a).cov (by
   have:=C s a;cases e:cg s P (bv s l).1 with
   |nil=>trivial
   |cons c r=>rw[e]at this;exact this.2)
  rcases ih H E with ⟨s',t,UL,M,z⟩ |⟨b,c,A,I⟩
  .exact⟨s',t,UL,by rw[cL];exact Hm _ M,z⟩
  .exfalso
   obtain⟨N,mv,n,D,α,β,γ,hD0,ha,hb,hg,Q⟩:=B;have V:-s=1\/-s=-1:=by lia
   have p:=R (-s) V;have J:=E (-s) V;have h02:=G (-s)
   match e:(bv (-s) l).1,h02,p,J with
   |[],h02,_,_=>cases h02
   |[z],h02,p,_=>
    cases h02;rcases f_ u d with z |z |z
    .exact p.bot d rfl u N z
    .rw[z]at n;exact top v mv n
    .exact top u N z
   |z::a'::r,h02,p,J=>
    cases h02;have S:=p.sub a' (by simp);obtain⟨p1,U,L,VP,L1⟩:=pT A n (I u N) (I v mv);obtain⟨W,q2,hp2,Vr,L2⟩:=pT A p.desc.1 (I a' S) (I d mb);have c2:=J.1;have Y:=Q u v;rw[(iH u v P).1,(iH u v P).2.1]at Y
    have e1:D*(s*dk k u v x)=γ*(s*ah u v P):=by
     have:=congrArg (λz=>s*z) Y;grind
    have n1:=Jb hg hD
    have n2:s*dk k u v x<0:=by
     rcases Ig (s*dk k u v x) 0 with z |z
     .exact z
     .have:=Hh (show 0<=D by lia) z;lia
    have Z:U*(s*dk k b c x)=p1*(s*dk k u v x):=by have:=congrArg (λz=>s*z) (L1 k x);grind
    have f2:q2*(s*dk k b c x)=-(W*(-s*dk k a' d x)):=by have:=congrArg (λz=>s*z) (L2 k x);grind
    have m1:s*dk k b c x<0:=by
     rcases Ig (s*dk k b c x) 0 with z |z
     .exact z
     .have g1:=Hh (show 0<=U by lia) z;have g2:=KB L n2;lia
    have g1:=KB Vr m1;have g2:=Ia (show 0<=W by lia) c2;lia
 have Vx:cg 1 P (bv 1 l).1=(bv 1 l).1->cg (-1) P (bv (-1) l).1=(bv (-1) l).1->∃b c,plt b c/\∀q∈l++[P],ah b c q=0:=λZ f2=>by
  refine⟨d,P,VT,λq g=>?_⟩
  have le:∀s,s=1\/s=-1->cg s P (bv s l).1=(bv s l).1->s*ah d P q<=0:=λs a f=>by
   have K:=pW a (l++[P]) hr (by simp);rw[cL]at K;have O:KW s (l++[P]) (P::cg s P (bv s l).1):=K;rw[f]at O;have i:=G s;cases e:(bv s l).1 with
   |nil=>rw[e]at i;cases i
   |cons c r=>
    rw[e]at i O;cases i;exact (O.cov.1 q g).1
  have a1:=le 1 (.inl rfl) Z;have a2:=le (-1) (.inr rfl) f2;lia
 have go:∀s,s=1\/s=-1->0<=s*dk k d P x->(∃s t,(s=1\/s=-1)/\t∈(bv s (l++[P])).2/\0<=s*dk k t.1 t.2.1 x/\0<=s*dk k t.2.1 t.2.2 x/\0<=s*dk k t.2.2 t.1 x)\/(cg s P (bv s l).1=(bv s l).1/\s*dk k d P x<=0):=λs a h=>by
  rcases F s a h with z |z |z
  .exact .inl (o s a z)
  .exact .inl (j s a z)
  .exact .inr z
 rcases Ig (dk k d P x) 0 with z |z
 .rcases go (-1) (.inr rfl) (by lia) with y |⟨_,y⟩
  .exact .inl y
  .lia
 .rcases go 1 (.inl rfl) (by lia) with y |⟨y1,y⟩
  .exact .inl y
  .rcases go (-1) (.inr rfl) (by lia) with w |⟨w1,_⟩
   .exact .inl w
   .exact .inr (Vx y1 w1)
theorem mM{d:Type}{p:d->Bool}:∀{L},(∃x∈L,p x=true)->∃u q v,L=u++q::v/\(∀r∈u,p r=false)/\p q=true
 |[],⟨x,c,_⟩=>by cases c
 |a::L,⟨x,c,h⟩=>by
  cases ha:p a with
  |true=>exact⟨[],a,L,rfl,(λr b=>by cases b),ha⟩
  |false=>
   have UC:x∈L:=by
    rcases GF.mp c with e |e
    .subst e;rw[ha]at h;cases h
    .exact e
   obtain⟨u,q,v,e,g,f⟩:=mM ⟨x,UC,h⟩;refine⟨a::u,q,v,by rw[e];rfl,λr b=>?_,f⟩;rcases GF.mp b with e |e
   .rw[e];exact ha
   .exact g r e
theorem Bz(h:plt b c)(e:ah b c p=0)(g:ah b c q=0)(d:ah b c r=0):ah p q r=0:=by
 have l:=aG h
 have f:(c.1-b.1) *ah p q r=0/\(c.2-b.2) *ah p q r=0:=by
  unfold ah at *;constructor <;>grind
 rcases l with z |⟨z,a⟩
 .exact (HA.mp f.1).resolve_left (by lia)
 .exact (HA.mp f.2).resolve_left (by lia)
structure Dt(l:List P2)(t:ST3.TR):Prop where
 d:ah t.1 t.2.1 t.2.2=1
 c:au [t.1,t.2.1,t.2.2]=[t.1,t.2.1,t.2.2]
 m1:t.1∈aX l
 m2:t.2.1∈aX l
 m3:t.2.2∈aX l
theorem zL(F:Fld l)(q:3<=l.length)(hs:s=1\/s=-1)(e:t∈(bv s (aX l)).2):TOk s (aX l) t/\s*lM t=1/\b8 t∈pcs l/\Dt l (b8 t)/\
  ∀k x,(0<=s*dk k t.1 t.2.1 x/\0<=s*dk k t.2.1 t.2.2 x/\0<=s*dk k t.2.2 t.1 x)↔(0<=dk k (b8 t).1 (b8 t).2.1 x/\0<=dk k (b8 t).2.1 (b8 t).2.2 x/\0<=dk k (b8 t).2.2 (b8 t).1 x):=by
 have i:=cf l;have T:=fc hs _ i t e;have r:=BF hs i (wH F q) t e;have d:s*lM t=1:=by rcases hs with rfl |rfl <;>lia
 have g:b8 t∈pcs l:=by
  refine GJ.mpr ⟨t,?_,rfl⟩;rcases hs with rfl |rfl
  .exact Hm _ e
  .exact Ha _ e
 obtain⟨p,n,m⟩:=xA g;have j:=k7 T.ab T.bP (λz=>by unfold lM at d;rw[z]at d;simp at d)
 have o:au [(b8 t).1,(b8 t).2.1,(b8 t).2.2]=[(b8 t).1,(b8 t).2.1,(b8 t).2.2]:=by
  have:=fO [t.1,t.2.1,t.2.2];rw[j]at this;exact this
 have f:∀k a b x,dk k a b x=-dk k b a x:=λk a b x=>by unfold dk;grind
 refine⟨T,d,g,⟨?_,o,p,n,m⟩,λk x=>?_⟩
 .unfold b8;unfold lM at d;split
  .rename_i h
   dsimp only;rcases hs with rfl |rfl <;>lia
  .rename_i h
   have:ah t.1 t.2.2 t.2.1=-ah t.1 t.2.1 t.2.2:=by unfold ah;grind
   rcases hs with rfl |rfl <;>dsimp only <;>lia
 .unfold b8;unfold lM at d;have u:=f k t.1 t.2.1 x;have v:=f k t.2.1 t.2.2 x;have w:=f k t.2.2 t.1 x;split
  .rename_i h
   have:s=1:=by rcases hs with rfl |rfl <;>lia
   subst this;dsimp only;constructor <;>intro ⟨a,b,c⟩ <;>refine⟨?_,?_,?_⟩ <;>lia
  .rename_i h
   have:s=-1:=by rcases hs with rfl |rfl <;>lia
   subst this;dsimp only;constructor <;>intro ⟨a,b,c⟩ <;>refine⟨?_,?_,?_⟩ <;>lia
theorem w8(F:Fld l)(i:3<=l.length){T:ST3.TR}(h:T∈pcs l):Dt l T/\∀p∈aX l,0<=ah T.1 T.2.1 p->0<=ah T.2.1 T.2.2 p->0<=ah T.2.2 T.1 p->p=T.1\/p=T.2.1\/p=T.2.2:=by
 obtain⟨t,b,rfl⟩:=GJ.mp h
 have a:∀s,s=1\/s=-1->t∈(bv s (aX l)).2->Dt l (b8 t)/\∀p∈aX l,0<=ah (b8 t).1 (b8 t).2.1 p->0<=ah (b8 t).2.1 (b8 t).2.2 p->0<=ah (b8 t).2.2 (b8 t).1 p->p=(b8 t).1\/p=(b8 t).2.1\/p=(b8 t).2.2:=λs c b=>by
  obtain⟨T,k,_,R,f⟩:=zL F i c b;refine⟨R,λp g d j e=>?_⟩;have:=(f 1 p).mpr (by rw[eX,eX,eX];exact⟨d,j,e⟩);rw[eX,eX,eX]at this;have v:=jQ c T g this.1 this.2.1 this.2.2;unfold b8;split <;>dsimp only <;>grind
 rcases Hi.mp b with z |z
 .exact a 1 (.inl rfl) z
 .exact a (-1) (.inr rfl) z
theorem kC{T:ST3.TR}(d:0<k)(o:au [T.1,T.2.1,T.2.2]=[T.1,T.2.1,T.2.2]):inK k [T.1,T.2.1,T.2.2] x=true↔0<=dk k T.1 T.2.1 x/\0<=dk k T.2.1 T.2.2 x/\0<=dk k T.2.2 T.1 x:=by
 have e:au ([T.1,T.2.1,T.2.2].map (scl k))=[scl k T.1,scl k T.2.1,scl k T.2.2]:=by rw[fQ (gi d) (kB d),o];rfl
 have j:∀a b:P2,ah (scl k a) (scl k b) x=k*dk k a b x:=λa b=>by unfold scl ah dk;grind
 have i:jN [scl k T.1,scl k T.2.1,scl k T.2.2] x=[k*dk k T.1 T.2.1 x,k*dk k T.2.1 T.2.2 x,k*dk k T.2.2 T.1 x]:=by
  unfold jN sdl nxt;simp[KU,gp,j]
 unfold inK;rw[e];unfold whr;rw[if_neg (by simp),i,decide_eq_true_iff];have ok:=bV (l:=[k*dk k T.1 T.2.1 x,k*dk k T.2.1 T.2.2 x,k*dk k T.2.2 T.1 x]) (by simp);have sg:∀n:Int,-1<sgn n↔0<=n:=λn=>by unfold sgn;split <;>(try split) <;>lia
 rw[sg]
 have c:∀{y:Int},0<=k*y↔0<=y:=λ{y}=>⟨λh=>by
  rcases Ig y 0 with z |z
  .have:=KB d z;lia
  .exact z,λh=>Hh (by lia) h⟩
 constructor
 .intro h;refine⟨c.mp (JQ h (ok.2 _ (by simp))),c.mp (JQ h (ok.2 _ (by simp))),c.mp (JQ h (ok.2 _ (by simp)))⟩
 .rintro ⟨g,f,p⟩;have m:=ok.1;generalize jM [k*dk k T.1 T.2.1 x,k*dk k T.2.1 T.2.2 x,k*dk k T.2.2 T.1 x]=w at *;simp only[GF,G9,or_false]at m;rcases m with rfl |rfl |rfl
  .exact c.mpr g
  .exact c.mpr f
  .exact c.mpr p
structure rT(q:List P2)(k:Int)(x:P2)(c:List P2):Prop where
 W:Wd q c
 sz:∀p∈c,Szp 5000 p
 nd:c.Nodup
 T:Fw c k x (eV c k x)
 mem:∀e∈eV c k x,e.1∈q
theorem oQ(h:ah a b d=1):[a,b,d].Nodup:=by
 have z1:a≠b:=fun e=>by subst e;have:ah a a d=0:=by unfold ah;grind
                        lia
 have z2:a≠d:=fun e=>by subst e;have:ah a b a=0:=by unfold ah;grind
                        lia
 have z3:b≠d:=fun e=>by subst e;have:ah a b b=0:=by unfold ah;grind
                        lia
 simp[z1,z2,z3]
theorem EY(O:gU l)(o:3<=l.length)(j:0<k)(h:q∈c6 l)(m:inK k q x=true):rT q k x q:=by
 have e:c6 l=(SG.srt ST3.KT (pcs l)).map λt=>[t.1,t.2.1,t.2.2]:=by unfold c6;rw[if_neg (by lia),if_neg (by lia)]
 rw[e]at h;obtain⟨T,n,rfl⟩:=GJ.mp h;obtain⟨R,_⟩:=w8 O.F o ((SG.srt_mem _ _ _).mp n);obtain⟨b,a,f⟩:=(kC j R.c).mp m;have fz:=O.fz;refine⟨.three _ _ _,λp g=>?_,oQ R.d,ja R.d a f b,λe i=>?_⟩
 .simp only[GF,G9,or_false]at g;rcases g with rfl |rfl |rfl
  .exact (fz _ R.m1).mono (by decide)
  .exact (fz _ R.m2).mono (by decide)
  .exact (fz _ R.m3).mono (by decide)
 .have:=(((ja R.d a f b).mem e).mp i).1;simp only[wts,GF,G9,or_false]at this |-;rcases this with rfl |rfl |rfl <;>simp
theorem gU.f150(O:gU l):∀p∈aX l,Szp 150 p:=λp c=>by
 have q:=(dI O.F.ne).mp (O.F.in_box ((bo O.F p).mp c));obtain⟨_,_,b,a,d,e⟩:=ov O.F.ne O.sz;exact⟨jy b a q.1.1 q.1.2,jy d e q.2.1 q.2.2⟩
theorem DU(A):au [A]=[A]:=by
 exact ST.asc_srt (Mr _ _)
theorem ou:inK k [A] x=true↔x=scl k A:=by
 unfold inK;rw[G_,KY,DU];unfold whr;rw[if_pos (by simp),decide_eq_true_iff];show -1<(if btw (scl k A) (scl k A) x=true then 0 else -1)↔_;unfold btw;rw[show ah (scl k A) (scl k A) x=0 by unfold ah;grind];by_cases h:x=scl k A
 .subst h;rw[if_pos (by unfold ST.leP;simp)];simp
 .rw[if_neg]
  .simp[h]
  .intro z;simp at z;rw[bD,bD]at z;exact h (Ii (by lia) (by lia))
theorem DO(A:P2):dD (A.1+1-A.1) (A.2-A.2) 1 1 0:=by
 have a:A.1+1-A.1=1:=by lia
 have b:A.2-A.2=0:=by lia
 rw[a,b];exact⟨by decide,by decide,by decide,by decide,λ_=>⟨rfl,by decide,by decide⟩,λh=>absurd rfl h⟩
theorem FG(O:gU [A])(l:0<k)(q:inK k [A] x=true):rT [A] k x [A,(A.1+1,A.2),(A.1-0,A.2+1)]/\eV [A,(A.1+1,A.2),(A.1-0,A.2+1)] k x=[(A,k)]:=by
 have c:=ou.mp q;have d:ah A (A.1+1,A.2) (A.1-0,A.2+1)=1:=by unfold ah;dsimp only;grind
 have i:dk k (A.1+1,A.2) (A.1-0,A.2+1) x=k:=by rw[c];unfold dk scl;dsimp only;grind
 have g:dk k (A.1-0,A.2+1) A x=0:=by rw[c];unfold dk scl;dsimp only;grind
 have r:dk k A (A.1+1,A.2) x=0:=by rw[c];unfold dk scl;dsimp only;grind
 have T:=ja (k:=k) (x:=x) d (by lia) (by lia) (by lia);have b:=O.sz A (by simp);have o:Sz 150 1:=Sz.mono (m:=8) (by decide) (by decide)
 have m:∀e,e∈eV [A,(A.1+1,A.2),(A.1-0,A.2+1)] k x↔e=(A,k):=λe=>by
  rw[T.mem];simp only[wts,GF,G9,or_false];rw[i,g,r];obtain⟨a,n⟩:=e;simp only[N6];constructor
  .rintro ⟨⟨rfl,rfl⟩ |⟨_,rfl⟩ |⟨_,rfl⟩,h⟩
   .exact⟨rfl,rfl⟩
   .lia
   .lia
  .rintro ⟨rfl,rfl⟩;exact⟨.inl ⟨rfl,rfl⟩,l⟩
 refine⟨⟨.one A 1 0 (DO A),λp f=>?_,oQ d,T,λe j=>?_⟩,?_⟩
 .simp only[GF,G9,or_false]at f;rcases f with rfl |rfl |rfl
  .exact b.mono (by decide)
  .exact⟨(L2.Sz.add' b.1 o).mono (by decide),b.2.mono (by decide)⟩
  .exact⟨by rw[Pi];exact b.1.mono (by decide),(L2.Sz.add' b.2 o).mono (by decide)⟩
 .rw[(m e).mp j];simp
 .exact SG.asc_one ST3.KQ (SG.srt_asc ST3.KQ _) (Mr _ _) λz=>by rw[GL];exact m z
theorem eK:∀{r}{q},r.Pairwise plt->q∈dE r->∃a b,q=[a,b]/\a∈r/\b∈r/\plt a b/\∀c∈r,plt a c->plt c b->False
 |[],q,_,h=>by cases h
 |[_],q,_,h=>by cases h
 |a::b::r,q,hs,h=>by
  obtain⟨g,f⟩:=Hl.mp hs;rcases GF.mp h with e |e
  .refine⟨a,b,e,by simp,by simp,g b (by simp),λc n l1 l2=>?_⟩;rcases GF.mp n with e |e
   .subst e;exact aI _ l1
   .rcases GF.mp e with e |e
    .subst e;exact aI _ l2
    .exact aI _ (bA l2 ((Hl.mp f).1 c e))
  .obtain⟨c,d,l,i,m,k,o⟩:=eK f e;refine⟨c,d,l,GG _ i,GG _ m,k,λy j l1 l2=>?_⟩;rcases GF.mp j with z |z
   .subst z;exact aI _ (bA l1 (g c i))
   .exact o y z l1 l2
theorem Ed(h:plt a b):au [a,b]=[a,b]:=by
 have e:ST.srt [a,b]=[a,b]:=ST.asc_srt (by simp[(d7 a b).mp h]);rw[kX (by rw[e];rfl),e]
theorem fj(d:0<k)(h:plt a b):inK k [a,b] x=true↔dk k a b x=0/\ST.leP (scl k a) x=true/\ST.leP x (scl k b)=true:=by
 unfold inK;rw[G_,G_,KY,Ed (gi d _ _ h)];unfold whr;rw[if_pos (by simp),decide_eq_true_iff];show -1<(if btw (scl k a) (scl k b) x=true then 0 else -1)↔_;have f:ah (scl k a) (scl k b) x=k*dk k a b x:=by unfold scl ah dk;grind
 have z:decide (ah (scl k a) (scl k b) x=0)=decide (dk k a b x=0):=decide_eq_decide.mpr (by
  rw[f];exact⟨λe=>(HA.mp e).resolve_left (by lia),λe=>by rw[e];simp⟩)
 unfold btw;rw[z];by_cases c:dk k a b x=0/\ST.leP (scl k a) x=true/\ST.leP x (scl k b)=true
 .rw[if_pos (by simp[c.1,c.2.1,c.2.2])];simp[c]
 .rw[if_neg (by simpa using c)];simp only[c];simp
theorem FK{a b c:P2}(h:ST.leP a b=true)(k:plt b c):ST.leP a c=true:=by
 rw[bD]at *;unfold plt at k;lia
theorem E_{a b c:P2}(k:plt a b)(h:ST.leP b c=true):ST.leP a c=true:=by
 rw[bD]at *;unfold plt at k;lia
theorem xS{a x:P2}(h:ST.leP a x=true)(n:a≠x):plt a x:=by
 rw[bD]at h;have:¬ (a.1=x.1/\a.2=x.2):=λz=>n (Ii z.1 z.2)
 unfold plt;lia
theorem yW(F:Fld [A,B])(C:a∈aX [A,B])(w:b∈aX [A,B])(D:plt a b)(x:∀c∈aX [A,B],plt a c->plt c b->False):∃s t,dD (b.1-a.1) (b.2-a.2) 1 s t:=by
 obtain⟨g,s,t,G⟩:=iP (b.1-a.1) (b.2-a.2);have l:=aG D;have i:=G.g0;obtain⟨u,h⟩:=G.da;obtain⟨v,f⟩:=G.db
 have gp:0<g:=by
  rcases Ig 0 g with z |z
  .exact z
  .have:g=0:=by lia
   subst this;unfold bY at l;simp at h f;lia
 have d:bY u v:=by
  unfold bY at l |-;rw[h,f]at l;rcases l with z |⟨z,k⟩
  .left
   rcases Ig 0 u with y |y
   .exact y
   .have:=Ia i y;lia
  .right
   refine⟨(HA.mp z).resolve_left (by lia),?_⟩;rcases Ig 0 v with y |y
   .exact y
   .have:=Ia i y;lia
 by_cases r:g=1
 .subst r;exact⟨s,t,G⟩
 .exfalso
  have n:=(dC A B a).mp ((bo F a).mp C);have o:=(dC A B b).mp ((bo F b).mp w);have p:plt a (a.1+u,a.2+v):=by unfold bY at d;unfold plt;dsimp only;lia
  have j:plt (a.1+u,a.2+v) b:=by
   have m:bY ((g-1) *u) ((g-1) *v):=by
    unfold bY at d |-;rcases d with z |⟨z,k⟩
    .left;exact HR (by lia) z
    .right;rw[z];exact⟨by simp,HR (by lia) k⟩
   unfold bY at m;unfold plt;dsimp only;have E:(g-1) *u=b.1-a.1-u:=by rw[h];grind
   have H:(g-1) *v=b.2-a.2-v:=by rw[f];grind
   lia
  refine x (a.1+u,a.2+v) ((bo F _).mpr ((dC A B _).mpr ⟨?_,?_,?_⟩)) p j
  .have e:g*ah A B (a.1+u,a.2+v)=ah A B b+(g-1) *ah A B a:=by unfold ah;dsimp only;grind
   have q:g*ah A B (a.1+u,a.2+v)=0:=by rw[e,n.1,o.1];simp
   exact (HA.mp q).resolve_left (by lia)
  .exact FK n.2.1 p
  .exact E_ j o.2.2
theorem E6(O:gU [A,B])(J:0<k)(N:q∈dE (aX [A,B]))(L:inK k q x=true):∃c,rT q k x c:=by
 obtain⟨a,b,rfl,u,o,j,Q⟩:=eK (cf _) N;obtain⟨s,t,G⟩:=yW O.F u o j Q;obtain⟨I,l1,l2⟩:=(fj J j).mp L;have S:=G.eq;have f:ah a b (a.1-t,a.2+s)=1:=by unfold ah;dsimp only;grind
 have K:=x_ k a b (a.1-t,a.2+s) x;obtain⟨C,w⟩:=EV k a b (a.1-t,a.2+s) x;rw[f,I]at K C w;have l:=aG j
 have v:0<=dk k (a.1-t,a.2+s) a x:=by
  rw[bD]at l1;unfold scl at l1;dsimp only at l1;generalize dk k (a.1-t,a.2+s) a x=β at *;generalize dk k b (a.1-t,a.2+s) x=α at *;have g:x.1-k*a.1=β*(b.1-a.1):=by grind
  have R:x.2-k*a.2=β*(b.2-a.2):=by grind
  rcases Ig β 0 with z |z
  .exfalso
   unfold bY at l;rcases l with y |⟨y,i⟩
   .have:=Jb z y;omega
   .rw[y,IJ]at g;have:=Jb z i;omega
  .exact z
 have D:0<=dk k b (a.1-t,a.2+s) x:=by
  rw[bD]at l2;unfold scl at l2;dsimp only at l2;generalize dk k (a.1-t,a.2+s) a x=β at *;generalize dk k b (a.1-t,a.2+s) x=α at *;have g:k*b.1-x.1=α*(b.1-a.1):=by grind
  have R:k*b.2-x.2=α*(b.2-a.2):=by grind
  rcases Ig α 0 with z |z
  .exfalso
   unfold bY at l;rcases l with y |⟨y,i⟩
   .have:=Jb z y;omega
   .rw[y,IJ]at g;have:=Jb z i;omega
  .exact z
 have T:=ja f D v (by omega);have d:=O.f150 a u;have h:=O.f150 b o;obtain⟨_,P,E⟩:=jc G (L2.Sz.sub' h.1 d.1) (L2.Sz.sub' h.2 d.2);refine⟨_,.two a b s t G,λp r=>?_,oQ f,T,λe H=>?_⟩
 .simp only[GF,G9,or_false]at r;rcases r with rfl |rfl |rfl
  .exact d.mono (by decide)
  .exact h.mono (by decide)
  .exact⟨(L2.Sz.sub' (d.1.mono (n:=400) (by decide)) (E.mono (n:=400) (by decide))).mono (by decide),(L2.Sz.add' (d.2.mono (n:=400) (by decide)) (P.mono (n:=400) (by decide))).mono (by decide)⟩
 .obtain⟨m,M⟩:=(T.mem e).mp H;simp only[wts,GF,G9,or_false]at m |-;rcases m with rfl |rfl |rfl
  .simp
  .simp
  .dsimp only at M;omega
theorem mf(F:Fld [A,B]):plt A B:=by
 have b:=F.cr;have a:=ST.srt_asc [A,B]
 have e:ST.srt [A,B]=[A,B]:=by
  by_cases h:(ST.srt [A,B]).length=2
  .rw[<-kX h];exact b
  .have l:=ST.srt_len [A,B];simp at l;rw[cW (by lia)]at b
   exact b
 rw[e]at a;exact (d7 A B).mpr ((Hl.mp a).1 B (by simp))
noncomputable def wf(A B:P2)(p:P2):Int:=if A.1<B.1 then p.1 else p.2
theorem gv(h:plt A B)(a:ah A B p=0)(b:dk k A B x=0):(ST.leP (scl k p) x=true↔k*wf A B p<=wf A B x)/\(ST.leP x (scl k p)=true↔wf A B x<=k*wf A B p):=by
 rw[bD,bD];unfold wf scl;by_cases z:A.1<B.1
 .rw[if_pos z,if_pos z];have e:(B.1-A.1) *(x.2-k*p.2)=(B.2-A.2) *(x.1-k*p.1):=by unfold ah at a;unfold dk at b;grind
  have s:x.1=k*p.1->x.2=k*p.2:=λq=>by
   rw[q,Pg,IJ]at e;have:=(HA.mp e).resolve_left (by lia)
   lia
  refine⟨⟨λh=>by lia,λh=>?_⟩,⟨λh=>by lia,λh=>?_⟩⟩
  .rcases HU h with y |y
   .exact .inl y
   .exact .inr ⟨y,by have:=s y.symm;lia⟩
  .rcases HU h with y |y
   .exact .inl y
   .exact .inr ⟨y,by have:=s y;lia⟩
 .rw[if_neg z,if_neg z];unfold plt at h
  have c:p.1=A.1:=by
   have:(B.2-A.2) *(p.1-A.1)=0:=by unfold ah at a;grind
   have:=(HA.mp this).resolve_left (by lia);lia
  have d:x.1=k*A.1:=by
   have:(B.2-A.2) *(x.1-k*A.1)=0:=by unfold dk at b;grind
   have:=(HA.mp this).resolve_left (by lia);lia
  rw[c,d];refine⟨⟨λh=>?_,λh=>.inr ⟨rfl,h⟩⟩,⟨λh=>?_,λh=>.inr ⟨rfl,h⟩⟩⟩ <;>lia
theorem nv{f:P2->Int}(d:0<k):∀{r}{a},(a::r).Pairwise (λp q=>f p<f q)->r≠[]->k*f a<=y->(∃c∈a::r,y<=k*f c)->∃p q,[p,q]∈dE (a::r)/\k*f p<=y/\y<=k*f q
 |[],a,_,h,_,_=>absurd rfl h
 |b::r,a,hs,_,h1,⟨c,hc,h2⟩=>by
  obtain⟨n,l⟩:=Hl.mp hs;by_cases g:y<=k*f b
  .exact⟨a,b,by simp[dE],h1,g⟩
  .have j:=n b (by simp);have t:=LI j d
   have i:c∈b::r:=by
    rcases GF.mp hc with e |e
    .subst e;lia
    .exact e
   have s:r≠[]:=λe=>by
    subst e;have:=GL.mp i;subst this;exact g h2
   obtain⟨p,q,m,o,u⟩:=nv d (r:=r) (a:=b) l s (by lia) ⟨c,i,h2⟩;exact⟨p,q,by simp only[dE];exact GG _ m,o,u⟩
theorem rS(F:Fld [A,B]):(∀p∈aX [A,B],ah A B p=0/\wf A B A<=wf A B p/\wf A B p<=wf A B B)/\A∈aX [A,B]/\B∈aX [A,B]/\(aX [A,B]).Pairwise (λp q=>wf A B p<wf A B q):=by
 have h:=mf F;have g:ah A B A=0:=by unfold ah;grind
 have f:ah A B B=0:=by unfold ah;grind
 have one:∀p:P2,scl 1 p=p:=uF;have a:∀p:P2,ah A B p=0->dk 1 A B p=0:=λp b=>by rw[eX];exact b
 have n:A∈aX [A,B]:=(bo F A).mpr ((dC A B A).mpr ⟨g,by rw[bD];lia,by rw[bD];unfold plt at h;lia⟩);have k:B∈aX [A,B]:=(bo F B).mpr ((dC A B B).mpr ⟨f,by rw[bD];unfold plt at h;lia,by rw[bD];lia⟩);have all:∀p∈aX [A,B],ah A B p=0/\ST.leP A p=true/\ST.leP p B=true:=λp b=>(dC A B p).mp ((bo F p).mp b);refine⟨λp b=>?_,n,k,(cf [A,B]).imp_of_mem λ{p q} b m l=>?_⟩
 .obtain⟨e,l1,l2⟩:=all p b;have d:=(gv h g (a p e)).1;have c:=(gv h f (a p e)).2;rw[one,Jj]at d c;exact⟨e,d.mp l1,c.mp l2⟩
 .obtain⟨i,_,_⟩:=all p b;obtain⟨j,_,_⟩:=all q m;have d:=(gv h i (a q j)).1;have c:=(gv h i (a q j)).2;rw[one,Jj]at d c
  have o:¬ wf A B q<=wf A B p:=λz=>by
   have:=c.mpr z;rw[bD]at this;unfold plt at l;lia
  lia
theorem Dz{l:List P2}(F:Fld l){p:P2}(h:b9 l p=true)(a b:Int):∃q∈l,wth a b p<=wth a b q:=by
 rcases F.cases with ⟨A,rfl⟩ |⟨A,B,rfl,lt⟩ |i
 .rw[(fD A p).mp h];exact⟨A,by simp,MG _⟩
 .obtain⟨k,j,o,rfl⟩:=(i6 lt).mp ((dC A B p).mp h);have g:wth a b (onS (A,B) k)=wth a b A+k*(a*ub (A,B)+b*vb (A,B)):=by unfold wth onS;grind
  have m:wth a b B=wth a b A+gst (A,B) *(a*ub (A,B)+b*vb (A,B)):=by
   have f:=j6 (A,B);have d:=jR (A,B);dsimp only at f d;have:gst (A,B) *(a*ub (A,B)+b*vb (A,B))=a*(gst (A,B) *ub (A,B))+b*(gst (A,B) *vb (A,B)):=by grind
   rw[this,<-f,<-d];unfold wth;grind
  rcases Ig (a*ub (A,B)+b*vb (A,B)) 0 with z |z
  .refine⟨A,by simp,?_⟩;rw[g];have:=Hh j (show 0<=-(a*ub (A,B)+b*vb (A,B)) by lia);have r:k* -(a*ub (A,B)+b*vb (A,B))=-(k*(a*ub (A,B)+b*vb (A,B))):=by grind
   lia
  .refine⟨B,by simp,?_⟩;rw[g,m];have:=Int.mul_le_mul_of_nonneg_right o z;lia
 .have c:=F.cr;have w:=FD i a b (q:=p) (by rw[c];exact (dG (by rw[<-c];exact i) p).mp h);rw[c]at w;obtain⟨⟨q,n,e⟩,_⟩:=tS a b F.ne;exact⟨q,n,by lia⟩
theorem A_{l:List P2}(k:l≠[])(p:P2):decide (-1<whr l p)=b9 l p:=by
 have i:0<l.length:=Hx.mpr k;rw[Li,decide_eq_true_iff];by_cases m:l.length<3
 .rcases (show l.length=1\/l.length=2 by lia) with e |e
  .obtain⟨a,rfl⟩:=JC.mp e;rw[fD]
   have c:btw a a p=true↔p=a:=by
    unfold btw;simp only[Ic,decide_eq_true_eq,bD];constructor
    .rintro ⟨_,g,f⟩;exact Ii (by lia) (by lia)
    .rintro rfl;exact⟨by unfold ah;grind,by lia,by lia⟩
   show -1<(if btw a a p=true then (0:Int) else -1)↔_;rw[<-c];by_cases h:btw a a p=true
   .rw[if_pos h];exact⟨λ_=>h,λ_=>by decide⟩
   .rw[if_neg h];exact⟨λz=>absurd z (by decide),λz=>absurd z h⟩
  .obtain⟨a,b,rfl⟩:=L2.len2 e;rw[dC]
   have c:btw a b p=true↔ah a b p=0/\ST.leP a p=true/\ST.leP p b=true:=by
    unfold btw;simp only[Ic,decide_eq_true_eq]
   show -1<(if btw a b p=true then (0:Int) else -1)↔_;rw[<-c];by_cases h:btw a b p=true
   .rw[if_pos h];exact⟨λ_=>h,λ_=>by decide⟩
   .rw[if_neg h];exact⟨λz=>absurd z (by decide),λz=>absurd z h⟩
 .unfold whr;rw[if_neg m,dG (by lia)];have j:jN l p≠[]:=λe=>by have:=congrArg M9 e;simp[jN,fi]at this;rw[this]at i;simp at i
  obtain⟨g,f⟩:=bV j
  have sg:-1<sgn (jM (jN l p))↔0<=jM (jN l p):=by
   unfold sgn;split <;>(try split) <;>lia
  rw[sg];constructor
  .intro z s d;have:=f _ (GJ.mpr ⟨s,d,rfl⟩);lia
  .intro z;obtain⟨s,d,e⟩:=GJ.mp g;have:=z s d;lia
theorem mI{k:Int}{r:List P2}(a:r≠[])(x:P2):inK k r x=b9 (au (r.map (scl k))) x:=A_ (fg (by simpa using a)) x
theorem pf{k:Int}{r:List P2}{x:P2}(c:r≠[])(h:inK k r x=true)(a b:P2)(s:Int):∃p∈r,s*dk k a b x<=k*(s*ah a b p):=by
 rw[mI c]at h;obtain⟨q,e,w⟩:=Dz ⟨fg (by simpa using c),fO _⟩ h (s*(a.2-b.2)) (-(s*(a.1-b.1)))
 obtain⟨p,d,rfl⟩:=GJ.mp (bK _ q e);refine⟨p,d,?_⟩;have f:s*dk k a b x=s*(k*(a.1*b.2-a.2*b.1))+wth (s*(a.2-b.2)) (-(s*(a.1-b.1))) x:=by unfold dk wth;grind
 have g:k*(s*ah a b p)=s*(k*(a.1*b.2-a.2*b.1))+wth (s*(a.2-b.2)) (-(s*(a.1-b.1))) (scl k p):=by unfold ah wth scl;grind
 lia
theorem hV{l:List P2}(F:Fld l){p:P2}(a:p∈l):p∈aX l:=(bo F p).mpr (by
 have b:=F.cr
 match l,F,b,a with
 |[],_,_,a=>cases a
 |[A],_,_,a=>rw[fD];exact GL.mp a
 |[A,B],F,_,a=>
  obtain⟨_,f,e,_⟩:=rS F;simp only[GF,G9,or_false]at a;rcases a with rfl |rfl
  .exact (bo F _).mp f
  .exact (bo F _).mp e
 |A::B::C::r,F,b,a=>
  have c:3<=(A::B::C::r).length:=by simp
  rw[dG c];intro s d;exact ((iL (by rw[b];exact c)).mp (by rw[b];exact d)).2.2.2 p (by rw[b];exact a))
theorem Cg{s k:Int}{l:List P2}{x:P2}(F:Fld l)(c:0<=k)(h:inK k l x=true):∀d:List P2,wN s (aX l) d->CX s k x d
 |[],_=>trivial
 |[_],_=>trivial
 |b::a::r,C=>by
  refine⟨?_,Cg F c h (a::r) C.2⟩;obtain⟨p,e,w⟩:=pf F.ne h a b s;have:=Ia c (C.1 p (hV F e)).1;lia
theorem EQ{l:List P2}(F:Fld l)(n:3<=l.length){k:Int}{x:P2}(r:0<k)(h:inK k l x=true):∃T∈pcs l,inK k [T.1,T.2.1,T.2.2] x=true:=by
 have d:=cf l;have m:=F.cr;obtain⟨Z,P,B,v,z,q,_⟩:=vy (l:=l) (by rw[m];exact n) 0 1;have a:=cP v;have j:=cP z;rw[m]at a j;have sub:∀p∈l,p∈aX l:=λp d=>hV F d
 have u:aX l≠[]:=λe=>by have:=sub Z a.1;rw[e]at this;cases this
 rcases BT (k:=k) (x:=x) (aX l) d λs i=>Cg F (by lia) h _ (pW i _ d u).cov with ⟨s,t,i,A,w⟩ |⟨b,c,f,g⟩
 .obtain⟨_,_,o,R,y⟩:=zL F n i A;exact⟨_,o,(kC r R.c).mpr ((y _ _).mp w)⟩
 .have:=Bz f (g Z (sub Z a.1)) (g P (sub P a.2)) (g B (sub B j.2));lia
theorem FC{A B:P2}(F:Fld [A,B]){k:Int}{x:P2}(j:0<k)(E:inK k [A,B] x=true):∃q∈dE (aX [A,B]),inK k q x=true:=by
 obtain⟨d,c,f,i⟩:=rS F;have h:=mf F;obtain⟨g,l1,l2⟩:=(fj j h).mp E;have D:=(gv h (d A c).1 g).1.mp l1;have z:=(gv h (d B f).1 g).2.mp l2;have l:=cf [A,B];generalize hr:aX [A,B]=r at *
 match r,d,c,f,i,l with
 |[],_,c,_,_,_=>cases c
 |[a],_,c,f,_,_=>
  rw[GL.mp c,GL.mp f]at h;exact absurd h (aI _)
 |a::b::r,d,c,f,i,l=>
  have v:wf A B a<=wf A B A:=by
   rcases GF.mp c with e |e
   .rw[e];exact MG _
   .exact Jp ((Hl.mp i).1 A e)
  have s:=La v (show 0<=k by lia);obtain⟨p,q,m,y,G⟩:=nv j i (by simp) (JQ s D) ⟨B,f,z⟩;obtain⟨J,I,e,t,C,lt,_⟩:=eK l m;injection e with e1 e2;injection e2 with e2 _;subst e1;subst e2;have n:=(d p t).1;have o:=(d q C).1;refine⟨[p,q],m,(fj j lt).mpr ⟨?_,((gv h n g).1).mpr y,((gv h o g).2).mpr G⟩⟩;obtain⟨u,w,K,H,L⟩:=pT h lt n o;have:=L k x;rw[g,IJ]at this;exact (HA.mp this).resolve_left (by lia)
theorem CD{l:List P2}(O:gU l){k:Int}{x:P2}(f:0<k)(d:inK k l x=true):∃u q v c,c6 l=u++q::v/\(∀r∈u,inK k r x=false)/\inK k q x=true/\rT q k x c:=by
 have b:(∃q∈c6 l,inK k q x=true)->(∀q∈c6 l,inK k q x=true->∃c,rT q k x c)->∃u q v c,c6 l=u++q::v/\(∀r∈u,inK k r x=false)/\inK k q x=true/\rT q k x c:=λj i=>by
  obtain⟨u,q,v,e,n,y⟩:=mM j;obtain⟨c,D⟩:=i q (by rw[e];simp) y;exact⟨u,q,v,c,e,n,y,D⟩
 match l,O,d with
 |[],O,_=>exact absurd rfl O.F.ne
 |[A],O,d=>
  refine b ⟨[A],by show [A]∈[[A]];simp,d⟩ λq g a=>?_;rw[GL.mp (show q∈[[A]] from g)]at a |-
  exact⟨_,(FG O f a).1⟩
 |[A,B],O,d=>exact b (FC O.F f d) λq g a=>E6 O f g a
 |A::B::C::r,O,d=>
  have h:3<=(A::B::C::r).length:=by simp
  refine b ?_ λq g a=>⟨q,EY O h f g a⟩
  obtain⟨T,m,a⟩:=EQ O.F h f d;refine⟨_,?_,a⟩;unfold c6;rw[if_neg (by simp),if_neg (by simp)];exact GJ.mpr ⟨T,(SG.srt_mem _ _ _).mpr m,rfl⟩
theorem FF{l:List P2}(F:Fld l){k:Int}{x:P2}(i:0<k){q:List P2}(f:q∈c6 l)(h:inK k q x=true):inK k l x=true:=by
 obtain⟨m,_,n⟩:=h_ F f
 match l,F,f,n with
 |[],F,_,_=>exact absurd rfl F.ne
 |[A],F,f,_=>rw[GL.mp (show q∈[[A]] from f)]at h;exact h
 |[A,B],F,f,_=>
  obtain⟨c,I,v,_⟩:=rS F;have lt:=mf F;obtain⟨a,b,rfl,o,j,G,_⟩:=eK (cf _) (show q∈dE (aX [A,B]) from f)
  have g:dk k A B x=0:=by
   obtain⟨p,d,w⟩:=pf m h A B 1;obtain⟨E,K,u⟩:=pf m h A B (-1)
   have z:∀p∈[a,b],ah A B p=0:=λp d=>by
    simp only[GF,G9,or_false]at d;rcases d with rfl |rfl
    .exact (c _ o).1
    .exact (c _ j).1
   rw[z p d]at w;rw[z E K]at u;lia
  obtain⟨_,l1,l2⟩:=(fj i G).mp h;have M:=(gv lt (c a o).1 g).1.mp l1;have L:=(gv lt (c b j).1 g).2.mp l2;have P:=La (c a o).2.1 (show 0<=k by lia);have O:=La (c b j).2.2 (show 0<=k by lia);exact (fj i lt).mpr ⟨g,((gv lt (c A I).1 g).1).mpr (by lia),((gv lt (c B v).1 g).2).mpr (by lia)⟩
 |A::B::C::r,F,_,n=>
  have J:3<=(A::B::C::r).length:=by simp
  rw[mI F.ne,fQ (gi i) (kB i),F.cr,dG (by simp),iR];intro s H;obtain⟨t,y,rfl⟩:=GJ.mp H;obtain⟨p,d,w⟩:=pf m h t.1 t.2 (-1);have:=(dG J p).mp ((bo F p).mp (n p d)) t y;have N:=Hh (show 0<=k by lia) this;have e:k*(-1*ah t.1 t.2 p)=-(k*ah t.1 t.2 p):=by grind
  have D:ah (scl k t.1) (scl k t.2) x=k*dk k t.1 t.2 x:=by unfold scl ah dk;grind
  show 0<=ah (scl k t.1) (scl k t.2) x;rw[D];exact Hh (by lia) (by lia)
theorem gL(k:Int)(a b x:P2):dk k a b (scl k x)=k*ah a b x:=by unfold dk scl ah;grind
theorem yQ{a b d x:P2}{k:Int}(w:0<k)(c:ah a b d=1)(v:x=a\/x=b\/x=d):eV [a,b,d] k (scl k x)=[(x,k)]:=by
 obtain⟨s,l,i,r⟩:=iH a b d;obtain⟨j,h,_,_⟩:=iH b d a;obtain⟨o,q,_,_⟩:=iH d a b
 have f:0<=ah b d x/\0<=ah d a x/\0<=ah a b x:=by
  rcases v with rfl |rfl |rfl
  .rw[i,q,s];lia
  .rw[j,r,l];lia
  .rw[h,o];lia
 have g:0<=k:=by lia
 have T:=ja (k:=k) (x:=scl k x) c (by rw[gL];exact Hh g f.1) (by rw[gL];exact Hh g f.2.1) (by rw[gL];exact Hh g f.2.2)
 have t:wts [a,b,d] k (scl k x)=[(a,k*ah b d x),(b,k*ah d a x),(d,k*ah a b x)]:=by
  show [(a,dk k b d (scl k x)),(b,dk k d a (scl k x)),(d,dk k a b (scl k x))]=_;rw[gL,gL,gL]
 have m:∀e:P2×Int,e∈eV [a,b,d] k (scl k x)↔e=(x,k):=λe=>by
  rw[T.mem,t];simp only[GF,G9,or_false];obtain⟨y,n⟩:=e;have p:=oQ c;simp only[I0,GF,G9,or_false,not_or]at p;obtain⟨⟨B,u⟩,A,_⟩:=p;rcases v with rfl |rfl |rfl
  .rw[i,s,q,c];simp only[LU,IJ];grind
  .rw[j,r,l,c];simp only[LU,IJ];grind
  .rw[h,o,c];simp only[LU,IJ];grind
 exact SG.asc_one ST3.KQ (SG.srt_asc ST3.KQ _) (Mr _ _) λz=>by rw[GL];exact m z
theorem mJ{k z:Int}(a:0<k)(h:0<=k*z):0<=z:=HY λn=>by
 have:=KB a (show z<0 by lia);lia
theorem uz{k:Int}(b:0<k){a x:P2}(h:ST.leP (scl k a) (scl k x)=true):ST.leP a x=true:=HY λn=>by
 rw[bD]at h n;have:=gi b x a (by unfold plt;lia)
 unfold plt at this;lia
theorem EI{k:Int}(b:0<k){a x:P2}(h:ST.leP a x=true):ST.leP (scl k a) (scl k x)=true:=by
 rw[bD]at h;by_cases e:a=x
 .rw[e,bD];lia
 .have:=gi b a x (by unfold plt;have:¬ (a.1=x.1/\a.2=x.2):=λz=>e (Ii z.1 z.2);lia);rw[bD];unfold plt at this;lia
theorem AV{l:List P2}(F:Fld l){k:Int}(b:0<k){x:P2}(a:x∈aX l):inK k l (scl k x)=true:=by
 rw[bo F]at a
 match l,F,a with
 |[],F,_=>exact absurd rfl F.ne
 |[A],F,a=>rw[ou,(fD _ _).mp a]
 |[A,B],F,a=>
  obtain⟨d,l1,l2⟩:=(dC _ _ _).mp a;exact (fj b (mf F)).mpr ⟨by rw[gL,d];simp,EI b l1,EI b l2⟩
 |A::B::C::r,F,a=>
  have g:3<=(A::B::C::r).length:=by simp
  rw[mI F.ne,fQ (gi b) (kB b),F.cr,dG (by simp),iR];intro s c;obtain⟨t,e,rfl⟩:=GJ.mp c;have:=(dG g x).mp a t e;have f:ah (scl k t.1) (scl k t.2) (scl k x)=k*(k*ah t.1 t.2 x):=by unfold scl ah;grind
  show 0<=ah (scl k t.1) (scl k t.2) (scl k x);rw[f];exact Hh (by lia) (Hh (by lia) this)
theorem pO{l:List P2}(O:gU l){k:Int}(f:0<k){x:P2}(g:x∈aX l):∃u q v c,c6 l=u++q::v/\(∀r∈u,inK k r (scl k x)=false)/\inK k q (scl k x)=true/\rT q k (scl k x) c/\eV c k (scl k x)=[(x,k)]:=by
 obtain⟨u,q,v,c,n,H,i,D⟩:=CD O f (AV O.F f g);have h:q∈c6 l:=by rw[n];simp
 refine⟨u,q,v,c,n,H,i,D,?_⟩
 match l,O,g,h with
 |[],O,_,_=>exact absurd rfl O.F.ne
 |[A],O,g,h=>
  rw[GL.mp (show q∈[[A]] from h)]at i D
  have W:=D.W;rw[iQ O.F]at g;cases W with
  |one _ s t G=>
   have I:=G.eq;refine yQ f ?_ (.inl (GL.mp g));unfold ah;dsimp only;grind
 |[A,B],O,g,h=>
  obtain⟨a,b,rfl,N,M,L,K⟩:=eK (cf _) (show q∈dE (aX [A,B]) from h);obtain⟨_,l1,l2⟩:=(fj f L).mp i;have l1:=uz f l1;have l2:=uz f l2;have W:=D.W;cases W with
  |two _ _ s t G=>
   have I:=G.eq;have y:ah a b (a.1-t,a.2+s)=1:=by unfold ah;dsimp only;grind
   refine yQ f y ?_;by_cases p:x=a
   .exact .inl p
   .by_cases w:x=b
    .exact .inr (.inl w)
    .exact (K x g (xS l1 (Ne.symm p)) (xS l2 w)).elim
 |A::B::C::r,O,g,h=>
  have z:3<=(A::B::C::r).length:=by simp
  have W:=D.W;have e:c6 (A::B::C::r)=(SG.srt ST3.KT (pcs (A::B::C::r))).map λt=>[t.1,t.2.1,t.2.2]:=by unfold c6;rw[if_neg (by simp),if_neg (by simp)]
  rw[e]at h;obtain⟨T,J,rfl⟩:=GJ.mp h;cases W;obtain⟨R,E⟩:=w8 O.F z ((SG.srt_mem _ _ _).mp J);obtain⟨m,j,o⟩:=(kC f R.c).mp i;rw[gL]at m j o;exact yQ f R.d (E x g (mJ f m) (mJ f j) (mJ f o))
theorem kr{c:Type}[DecidableEq c]:∀{l m:List c},l.Nodup->(∀x∈l,x∈m)->l.length<=m.length
 |[],m,_,_=>Ir _
 |a::l,m,h,s=>by
  obtain⟨i,g⟩:=I0.mp h;have d:=s a (by simp);have e:=kr g λx f=>(Pr (b:=a) (λz=>i (by rw[<-z];exact f))).mpr (s x (GG _ f));rw[NW d]at e;have:=Iy d;rw[Ie];lia
theorem o8{b:Type}(f g)(k:Int):∀l:List b,(l.map λs=>k*(f s-g s)).sum=k*((l.map f).sum-(l.map g).sum)
 |[]=>by simp
 |a::l=>by
  simp only[G_,Je,o8 f g k l];grind
theorem nJ(w:P2->Int)(l):((sdl l).map λs=>w s.2).sum=((sdl l).map λs=>w s.1).sum:=by
 have e1:((sdl l).map λs=>w s.2)=(l.drop 1++l.take 1).map w:=by rw[<-t6,Ho];rfl
 have e2:((sdl l).map fun s=>w s.1)=(l.take 1++l.drop 1).map w:=by rw[Hv];conv=>rhs;rw[←pF l]
                                                                   rw[Ho];rfl
 rw[e1,e2,Hz,Hz,Rl,Rl];lia
theorem xQ(e f)(l):area (l.map (shf 0 e f))=area l:=by
 unfold area;rw[iR,Ho]
 have h:∀s,(crs ∘ λs:P2×P2=>(shf 0 e f s.1,shf 0 e f s.2)) s=(crs s+e*(s.2.2-s.1.2))-f*(s.2.1-s.1.1):=λs=>by
  simp only[Function.comp,crs,shf];grind
 rw[Kf (λs _=>h s),qP,qF,o8 (λs:P2×P2=>s.2.2) (λs:P2×P2=>s.1.2),o8 (λs:P2×P2=>s.2.1) (λs:P2×P2=>s.1.1),nJ (λp=>p.2),nJ (λp=>p.1)];simp
theorem pL(e f)(a b):gst (shf 0 e f a,shf 0 e f b)=gst (a,b):=by
 unfold gst shf;dsimp only;congr 2 <;>lia
theorem B8(e f)(l):iK (l.map (shf 0 e f))=iK l:=by
 unfold iK;rw[iR,Ho];exact congrArg SD (Kf λs _=>pL e f s.1 s.2)
theorem DA(e f)(h:a*d-b*c=1\/a*d-b*c=-1)(F:Fld l):dY (au (l.map (ap a b c d e f)))=dY l:=by
 have g:=rZ h;rw[lf,kN];rcases F.cases with ⟨A,rfl⟩ |⟨A,B,rfl,lt⟩ |j
 .have:∀x,au [x]=[x]:=λx=>by simp[au,ST.srt,ST.ins]
  simp only[G_,KY,this];simp[dY,pin,kc,gp,gst]
 .have o:A≠B:=λz=>by subst z;rw[ST.asc_irr]at lt;cases lt
  have i:∀x y,dY [x,y]=gst (x,y)+1:=λx y=>by simp[dY,pin,kc,gp]
  have k:=o3 g A B;simp only[G_,KY]at k |-;rcases iy (λz=>o (g.inj z)) with ⟨_,z⟩ |⟨_,z⟩
  .rw[z];simp only[G_,KY];rw[i,i,pL,k]
  .rw[z];simp only[G_,KY];rw[i,i,pL,fI,k]
 .have l1:=fK g j;have p:=F.cr;have n:=w_ g j;have m:=By g j;rw[p]at j n m;unfold dY pin kc;rw[GD,if_neg (by lia),if_neg (by lia),if_neg (by lia),if_neg (by lia),xQ,B8,n,m]
noncomputable def slt(ns:List Int):Int:=cel ns 3%5-2
noncomputable def asd(ns:List Int):Int:=cel ns 4*982451653%10 ^ (40:Int).toNat
noncomputable def mvp(ns:List Int)(p:P2):P2:=(p.1+asd ns,p.2+slt ns*p.1-asd ns)
theorem BX(ns)(a b c):ah (mvp ns a) (mvp ns b) (mvp ns c)=ah a b c:=by unfold mvp ah;dsimp only;grind
theorem A8(ns:List Int){a b:P2}(h:plt a b):plt (mvp ns a) (mvp ns b):=by
 unfold plt mvp at *;dsimp only;rcases h with h |⟨c,d⟩
 .left;lia
 .right;rw[c];lia
theorem qe(ns:List Int)(l:List P2):au (l.map (mvp ns))=(au l).map (mvp ns):=fQ (f:=mvp ns) (λ_ _ h=>A8 ns h) (λa b c=>by rw[BX]) l
theorem xH(ns)(p):mvp ns p=ap 1 0 (slt ns) 1 (asd ns) (-asd ns) p:=by
 unfold mvp ap;exact Ii (by dsimp only;grind) (by dsimp only;grind)
theorem xV(ns:List Int):0<=asd ns/\Sz 133 (asd ns):=rX (by decide+kernel) (by decide+kernel) _
theorem Aa(ns):Sz 8 (slt ns):=by unfold slt Sz;lia
theorem Al(ns:List Int){p:P2}(h:Szp 110 p):Szp 150 (mvp ns p):=by
 have a:=(xV ns).2;have s:=Aa ns;exact⟨(L2.Sz.add' (h.1.mono (n:=133) (by decide)) a).mono (by decide),(L2.Sz.sub' ((L2.Sz.add' (h.2.mono (n:=118) (by decide)) (L2.Sz.mul s h.1)).mono (n:=133) (by decide)) a).mono (by decide)⟩
theorem oC(l:List P2):(aX l).Nodup:=(cf _).imp λ{x y} h e=>by subst e;exact aI _ h
theorem Ff(ns:List Int){a:List P2}(b:Fld a):Fld (a.map (mvp ns))/\dY (a.map (mvp ns))=dY a/\(aX (a.map (mvp ns))).length<=(aX a).length:=by
 have d:(1:Int) *1-0*slt ns=1\/(1:Int) *1-0*slt ns=-1:=.inl (by lia)
 have el:a.map (mvp ns)=au (a.map (ap 1 0 (slt ns) 1 (asd ns) (-asd ns))):=by
  rw[<-Kf λp _=>xH ns p,qe,b.cr]
 have F:Fld (a.map (mvp ns)):=by rw[el];exact yJ _ _ b
 refine⟨F,by rw[el];exact DA _ _ d b,?_⟩;rw[<-GD (f:=mvp ns) (as:=aX a)];refine kr (oC _) λp c=>?_;rw[bo F]at c;obtain⟨q,rfl⟩:=Df (e:=asd ns) (f:=-asd ns) d p;rw[el,Ct _ _ d b]at c;exact GJ.mpr ⟨q,(bo b q).mpr c,xH ns q⟩
theorem sU{c:List P2}(d:Fld c){w h:Nat}(f a:Int)(g:∀p∈c,(f<=p.1/\p.1<f+w)/\a<=p.2/\p.2<a+h):(aX c).length<=w*h:=by
 have e:((HI (w*h)).map λk=>((f+((k%w:Nat):Int),a+((k/w:Nat):Int)):P2)).length=w*h:=by simp
 rw[<-e];refine kr (oC _) λp v=>?_;have b:=(dI d.ne).mp (d.in_box ((bo d p).mp v));have l:c.map (·.1)≠[]:=by simpa using d.ne
 have i:c.map (·.2)≠[]:=by simpa using d.ne
 obtain⟨o,q,E⟩:=GJ.mp (bV l).1;obtain⟨m,u,F⟩:=GJ.mp (cV l).1;obtain⟨n,x,G⟩:=GJ.mp (bV i).1;obtain⟨r,s,B⟩:=GJ.mp (cV i).1;have A:=g o q;have y:=g m u;have C:=g n x;have D:=g r s;unfold loX hiX loY hiY at b;have t:0<w:=by lia
 have j:(p.1-f).toNat<w:=by lia
 have z:(p.2-a).toNat<h:=by lia
 refine GJ.mpr ⟨(p.1-f).toNat+w*(p.2-a).toNat,Hq.mpr ?_,Ii ?_ ?_⟩
 .have:=PV w (show (p.2-a).toNat+1<=h by lia);rw[Nat.mul_add,Nat.mul_one]at this;lia
 .dsimp only;rw[Nv,HW j];lia
 .dsimp only;rw[Nat.add_mul_div_left _ _ t,QN j];lia
theorem EB{A B:P2}(F:Fld [A,B]):((aX [A,B]).length:Int)<=dY [A,B]:=by
 have f:dY [A,B]=gst (A,B)+1:=by simp[dY,pin,kc,gp]
 have c:0<=gst (A,B):=by unfold gst;lia
 have lt:ST.ltP A B=true:=(d7 A B).mp (mf F)
 have:(aX [A,B]).length<=(gst (A,B)+1).toNat:=by
  have e:((HI (gst (A,B)+1).toNat).map λk=>onS (A,B) ((k:Nat):Int)).length=(gst (A,B)+1).toNat:=by simp
  rw[<-e];refine kr (oC _) λp a=>?_;obtain⟨k,b,d,rfl⟩:=(i6 lt).mp ((dC A B p).mp ((bo F p).mp a));exact GJ.mpr ⟨k.toNat,Hq.mpr (by lia),by rw[Int.toNat_of_nonneg b]⟩
 lia
theorem zw{w:Int}(h:0<w):dY (au [(0,0),(w,0),(-1,1)])=w+2:=by
 have g:plt (-1,1) (0,0):=by unfold plt;lia
 have b:plt (0,0) (w,0):=by unfold plt;lia
 have a:ah (-1,1) (0,0) (w,0)=w:=by unfold ah;lia
 have e:au [(0,0),(w,0),(-1,1)]=au [(-1,1),(0,0),(w,0)]:=by
  have:ST.srt [((0,0):P2),(w,0),(-1,1)]=ST.srt [(-1,1),(0,0),(w,0)]:=ST.asc_one (ST.srt_asc _) (ST.srt_asc _) λz=>by
   rw[ST.srt_mem,ST.srt_mem];simp only[GF,G9,or_false];constructor <;>(rintro (h |h |h) <;>simp[h])
  unfold au;rw[this]
 rw[e];have F:Fld (au [((-1,1):P2),(0,0),(w,0)]):=⟨fg (by simp),fO _⟩
 rw[<-AB F,k7 g b (by rw[a];lia)];have t:b8 (((-1,1),(0,0),(w,0)):P2×P2×P2)=((-1,1),(0,0),(w,0)):=by unfold b8;rw[if_pos (by rw[a];exact h)]
 rw[t]
 have c:gst ((w,0),(-1,1))=1:=by
  unfold gst;have:Kz (-1-w) (1-0)=1:=by simp
  dsimp only;rw[this];rfl
 have i:gst ((0,0),(w,0))=w:=by unfold gst;simp;lia
 have d:area [((-1,1):P2),(0,0),(w,0)]=w:=by simp[area,sdl,crs,gp,nxt,KU]
 have j:iK [((-1,1):P2),(0,0),(w,0)]=w+2:=by
  have f:gst (((-1,1):P2),(0,0))=1:=by decide
  simp[iK,sdl,gp,nxt,KU,c,i,f];lia
 unfold vY;rw[if_neg (by simp),d,j];lia
structure K37(l:List P2):Prop where
 F:Fld l
 l64:l.length<64
 sz:∀p∈l,Szp 150 p
 np:dY l<=100->(aX l).length<=210
theorem Ao(ns:List Int):ptL ns≠[]/\(ptL ns).length<=27/\∀p∈ptL ns,Szp 110 p:=by
 have j:=xx ns;have a:∀{n:Int},-128<n->n<128->Sz 110 n:=λ{n} k h=>Sz.mono (m:=8) (by unfold Sz;lia) (by decide);unfold ptL;generalize cel ns 5=c at *;have d:=xf c;have f:=zN c;split
 .refine⟨by simp,by simp,λp b=>?_⟩;simp only[GF,G9,or_false]at b;rcases b with rfl |rfl
  .exact⟨a (by decide) (by decide),a (by decide) (by decide)⟩
  .have:Sz 8 (c/45%3-1):=by unfold Sz;lia
   exact⟨(L2.Sz.mul d.2 this).mono (by decide),d.2.mono (by decide)⟩
 .split
  .refine⟨by simp,by simp,λp b=>?_⟩;have g:(0<=(far c).1/\(far c).1<=100)/\0<=(far c).2/\(far c).2<=100:=by unfold far;(repeat' split) <;>decide
   simp only[GF,G9,or_false]at b;rcases b with rfl |rfl |rfl |rfl <;>exact⟨a (by (try dsimp only);lia) (by (try dsimp only);lia),a (by (try dsimp only);lia) (by (try dsimp only);lia)⟩
  .split
   .refine⟨by simp,by simp,λp b=>?_⟩;simp only[GF,G9,or_false]at b;rcases b with rfl |rfl |rfl
    .exact⟨a (by decide) (by decide),a (by decide) (by decide)⟩
    .exact⟨f.2.mono (by decide),a (by dsimp only;lia) (by dsimp only;lia)⟩
    .exact⟨a (by decide) (by decide),a (by decide) (by decide)⟩
   .refine⟨λe=>by have:=congrArg M9 e;simp at this;lia,by simp;lia,λp b=>?_⟩;obtain⟨i,_,rfl⟩:=GJ.mp b;unfold wdI;exact⟨a (by dsimp only;lia) (by dsimp only;lia),a (by dsimp only;lia) (by dsimp only;lia)⟩
theorem En(ns:List Int):K37 (au ((ptL ns).map (mvp ns))):=by
 obtain⟨bn,bl,o⟩:=Ao ns;rw[qe];have F0:Fld (au (ptL ns)):=⟨fg bn,fO _⟩;have g:=ks (ptL ns);obtain⟨F,s,r⟩:=Ff ns F0;refine⟨F,by rw[GD];lia,λp b=>?_,λc=>?_⟩
 .obtain⟨q,t,rfl⟩:=GJ.mp b;exact Al ns (o q (bK _ q t))
 refine HB r ?_;rw[s]at c;have sub:=bK (ptL ns);have v:=xx ns;by_cases d:cel ns 5%9=1
 .have a:ptL ns=[(0,0),(mny (cel ns 5) *(cel ns 5/45%3-1),mny (cel ns 5))]:=by unfold ptL;rw[if_pos d]
  rw[a]at g F0 c |-;generalize hl:au [((0,0):P2),(mny (cel ns 5) *(cel ns 5/45%3-1),mny (cel ns 5))]=n at *
  match n,F0,g,c with
  |[],F0,_,_=>exact absurd rfl F0.ne
  |[A],F0,_,_=>rw[iQ F0];simp
  |[A,B],F0,_,c=>have:=EB F0;lia
  |_::_::_::_,_,g,_=>simp at g
 by_cases j:cel ns 5%9=4
 .have a:ptL ns=[(0,0),((far (cel ns 5)).1,0),(0,(far (cel ns 5)).2),far (cel ns 5)]:=by unfold ptL;rw[if_neg d,if_pos j]
  rw[a]at F0 sub |-
  have go:∀{w h:Nat},(far (cel ns 5)).1=(w:Int)->(far (cel ns 5)).2=(h:Int)->(w+1) *(h+1)<=210->(aX (au [(0,0),((far (cel ns 5)).1,0),(0,(far (cel ns 5)).2),far (cel ns 5)])).length<=210:=λ{w h} x y le=>HB (sU F0 (w:=w+1) (h:=h+1) 0 0 λp b=>by
   have:=sub p b;simp only[GF,G9,or_false]at this;rcases this with rfl |rfl |rfl |rfl <;>((try dsimp only);lia)) le
  by_cases e:cel ns 5/9%4=0
  .have f:far (cel ns 5)=(11,7):=by unfold far;rw[if_pos e]
   exact go (w:=11) (h:=7) (by rw[f];rfl) (by rw[f];rfl) (by decide)
  by_cases k:cel ns 5/9%4=1
  .have f:far (cel ns 5)=(9,9):=by unfold far;rw[if_neg e,if_pos k]
   exact go (w:=9) (h:=9) (by rw[f];rfl) (by rw[f];rfl) (by decide)
  by_cases l:cel ns 5/9%4=2
  .have f:far (cel ns 5)=(100,0):=by unfold far;rw[if_neg e,if_neg k,if_pos l]
   exact go (w:=100) (h:=0) (by rw[f];rfl) (by rw[f];rfl) (by decide)
  have f:far (cel ns 5)=(10,9):=by unfold far;rw[if_neg e,if_neg k,if_neg l]
  exact go (w:=10) (h:=9) (by rw[f];rfl) (by rw[f];rfl) (by decide)
 by_cases m:cel ns 5%9=7
 .have a:ptL ns=[(0,0),(wid (cel ns 5),0),(-1,1)]:=by unfold ptL;rw[if_neg d,if_neg j,if_pos m]
  rw[a]at F0 sub c |-;have u:=(zN (cel ns 5)).1;rw[zw (by lia)]at c
  refine HB (sU F0 (w:=105) (h:=2) (-1) 0 λp b=>?_) (by decide);have:=sub p b;simp only[GF,G9,or_false]at this;rcases this with rfl |rfl |rfl <;>(dsimp only;lia)
 have a:ptL ns=(HI (nW ns)).map (wdI ns):=by unfold ptL;rw[if_neg d,if_neg j,if_neg m]
 rw[a]at F0 sub |-;refine HB (sU F0 (w:=5) (h:=5) 0 0 λp b=>?_) (by decide)
 obtain⟨i,_,rfl⟩:=GJ.mp (sub p b);unfold wdI;dsimp only;lia
theorem xI(h:b=a\/plt a b):ST.leP a b=true:=by
 unfold ST.leP;rcases h with h |h
 .subst h;simp
 .unfold plt at h;simp;lia
theorem vx(p):scl 1 p=p:=Ii (Jj _) (Jj _)
theorem CQ(O:gU l)(f:q∈c6 l):∃x∈q,inK 1 q x=true:=by
 match l,O,f with
 |[],O,_=>exact absurd rfl O.F.ne
 |[A],O,f=>
  have e:c6 [A]=[[A]]:=rfl;rw[GL.mp f];exact⟨A,by simp,ou.mpr (vx A).symm⟩
 |[A,B],O,f=>
  obtain⟨a,b,rfl,p,m,h,_⟩:=eK (cf _) f;refine⟨a,by simp,(fj (by decide) h).mpr ⟨?_,?_,?_⟩⟩
  .rw[eX];exact (iH a b a).1
  .rw[vx];exact xI (.inl rfl)
  .rw[vx];exact xI (.inr h)
 |A::B::C::r,O,f=>
  have i:3<=(A::B::C::r).length:=by simp
  have e:c6 (A::B::C::r)=(SG.srt ST3.KT (pcs (A::B::C::r))).map λt=>[t.1,t.2.1,t.2.2]:=by unfold c6;rw[if_neg (by simp),if_neg (by simp)]
  obtain⟨t,g,rfl⟩:=GJ.mp f;obtain⟨R,_⟩:=w8 O.F i ((SG.srt_mem _ _ _).mp g);refine⟨t.1,by simp,(kC (by decide) R.c).mpr ?_⟩;obtain⟨k,u,o,n⟩:=iH t.1 t.2.1 t.2.2;have j:=R.d;have s:ah t.2.2 t.1 t.1=0:=by unfold ah;grind
  rw[eX,eX,eX];refine⟨by lia,by lia,by lia⟩
theorem zF{C1 C2 C3:Hc}{l:List P2}(O:gU l):eM C1 C2 C3 [lp l,.int 0,pu (0,0)] (.new (([]:List ST3.PQ).map qU)):=by
 obtain⟨p,s⟩:=NB _ O.F.ne;obtain⟨B,E,C,_,i,_⟩:=pO O (k:=1) (by decide) (hV O.F s)
 obtain⟨q,r,e⟩:∃q r,c6 l=q::r:=by
  cases h:c6 l with
  |nil=>rw[h]at i;simp at i
  |cons q r=>exact⟨q,r,rfl⟩
 have g:q∈c6 l:=by rw[e];simp
 obtain⟨x,A,o⟩:=CQ O g;obtain⟨u,j,v,c,f,n,_,D,_⟩:=pO O (k:=1) (by decide) ((h_ O.F g).2.2 x A);rw[vx]at n
 have:u=[]/\j=q:=by
  cases u with
  |nil=>rw[e,OQ]at f;exact⟨rfl,(K7 f).1.symm⟩
  |cons y u=>
   rw[e,Ov]at f;have:=n y (by simp)
   rw[<-(K7 f).1,o]at this;cases this
 obtain⟨rfl,rfl⟩:=this;have t:=(h_ O.F g).1
 have w:eV c 0 (0,0)=[]:=by
  obtain⟨a,b,d,rfl⟩:=ql D.W;have z:∀u v:P2,dk 0 u v (0,0)=0:=λu v=>by unfold dk;dsimp only;grind
  have e:wts [a,b,d] 0 (0,0)=[(a,0),(b,0),(d,0)]:=by show [(a,dk 0 b d (0,0)),(b,dk 0 d a (0,0)),(d,dk 0 a b (0,0))]=_;rw[z,z,z]
  unfold eV;rw[e];rfl
 refine⟨l,0,(0,0),rfl,Sz.mono (m:=8) (by decide) (by decide),⟨Sz.mono (m:=8) (by decide) (by decide),Sz.mono (m:=8) (by decide) (by decide)⟩,.inr (.inr (.inr ⟨by decide,O,[],j,v,c,f,by simp,?_,D.W,D.sz,D.nd,by rw[w]⟩))⟩;unfold inK;rw[nA t]
 decide
theorem Fm{r:List P2}(a:r≠[])(x:P2):inK 0 r x=b9 [(0,0)] x:=by rw[mI a,nA a]
noncomputable def ii(l:List P2)(k:Int):List P2:=if k=0 then [(0,0)] else l.map (scl k)
noncomputable def mX(l:List P2)(k:Int)(x:P2):U:=if k<0 then .int 0 else if 100<dY l then .int 1 else if b9 (ii l k) x=true then .non else .int 2
noncomputable def clN(C1 C2 C3:Hc):Nat->Hc
 |0=>C1
 |1=>C2
 |_=>C3
structure Gr(l:List P2)(k:Int)(x:P2)(tl:List ST3.PQ):Prop where
 pr:FA tl
 n:sN tl=k
 x1:sX tl=x.1
 y1:sY tl=x.2
 len:tl.length<=3
 pos:∀e∈tl,1<=e.2
 inn:∀e∈tl,Szp 150 e.1/\b9 l e.1=true
 near:BC (tl.map (·.1))
theorem yO:∀{z:List ST3.PQ},(∀e∈z,1<=e.2)->0<=sN z/\∀e∈z,e.2<=sN z
 |[],_=>⟨by unfold sN;simp,λe a=>by cases a⟩
 |y::z,h=>by
  obtain⟨f,b⟩:=yO (z:=z) λe a=>h e (GG _ a);have d:=h y GR;have c:sN (y::z)=y.2+sN z:=by unfold sN;simp
  rw[c];refine⟨by lia,λe a=>?_⟩;rcases GF.mp a with rfl |k
  .lia
  .have:=b e k;lia
theorem An{C1 C2 C3:Hc}{l:List P2}(K:K37 l){k:Int}{x:P2}(C:Sz 300 k)(H:Szp 1000 x):
  (∃j:Nat,j<3/\mX l k x=.int (j:Int)/\eM C1 C2 C3 [lp l,.int k,pu x] (.exc (clN C1 C2 C3 j)))\/(mX l k x=.non/\0<=k/\gU l/\∃y,eM C1 C2 C3 [lp l,.int k,pu x] (.new (y.map qU))/\Gr l k x y/\(k=0->y=[])):=by
 have o:=C.mono (n:=1000) (by decide);have p:=H.mono (n:=5000) (by decide);have F:=K.F;by_cases t:k<0
 .exact .inl ⟨0,by decide,by unfold mX;rw[if_pos t];rfl,l,k,x,rfl,o,p,.inl ⟨t,rfl⟩⟩
 by_cases m:100<dY l
 .exact .inl ⟨1,by decide,by unfold mX;rw[if_neg t,if_pos m];rfl,l,k,x,rfl,o,p,.inr (.inl ⟨by lia,F,K.l64,K.sz,m,rfl⟩)⟩
 have O:gU l:=⟨F,K.l64,K.sz,by lia,K.np (by lia)⟩
 have I:mX l k x=if b9 (ii l k) x=true then .non else .int 2:=by unfold mX;rw[if_neg t,if_neg m]
 rw[I];by_cases B:k=0
 .subst B;have e:ii l 0=[(0,0)]:=rfl;rw[e];by_cases g:b9 [(0,0)] x=true
  .rw[if_pos g];have:=(fD _ _).mp g;subst this;refine .inr ⟨rfl,by decide,O,[],zF O,⟨⟨by simp,λe d=>(by cases d)⟩,rfl,rfl,rfl,by simp,λe d=>(by cases d),λe d=>(by cases d),⟨by simp,.nil,λa b h=>(by cases h),λa b c h=>(by cases h)⟩⟩,λ_=>rfl⟩
  .rw[if_neg g];exact .inl ⟨2,by decide,rfl,l,0,x,rfl,o,p,.inr (.inr (.inl ⟨by decide,O,λr A=>by rw[Fm (h_ F A).1];exact LA.mpr g,rfl⟩))⟩
 have s:0<k:=by lia
 have e:b9 (ii l k) x=inK k l x:=by
  unfold ii;rw[if_neg B,mI F.ne,fQ (gi s) (kB s),F.cr]
 rw[e];by_cases g:inK k l x=true
 .rw[if_pos g];obtain⟨u,q,v,c,m,G,J,D⟩:=CD O s g;have w:=h_ F (show q∈c6 l by rw[m];simp);have i:∀e∈eV c k x,e.1∈aX l:=λe d=>w.2.2 _ (D.mem e d);have f:=D.T;refine .inr ⟨rfl,by lia,O,eV c k x,⟨l,k,x,rfl,o,p,.inr (.inr (.inr ⟨by lia,O,u,q,v,c,m,G,J,D.W,D.sz,D.nd,rfl⟩))⟩,⟨⟨by have:=f.len;lia,λe d=>⟨(O.f150 _ (i e d)).mono (by decide),?_⟩⟩,f.n,f.x1,f.y1,f.len,f.pos,λe d=>⟨O.f150 _ (i e d),(bo F _).mp (i e d)⟩,f.near⟩,λz=>absurd z B⟩;have E:=(yO f.pos).2 e d;have L:=f.pos e d;rw[f.n]at E;unfold Sz at C |-;lia
 .rw[if_neg g];exact .inl ⟨2,by decide,rfl,l,k,x,rfl,o,p,.inr (.inr (.inl ⟨by lia,O,λr A=>LA.mpr λz=>g (FF F s A z),rfl⟩))⟩
noncomputable def knd(j:Nat):List Bool:=(HI 12).map λi=>decide (i=j)
theorem dW:IL "ValueError"=some (.type "ValueError"):=by decide+kernel
def AO(C1 C2 C3:Hc):List U->Out->Prop:=λa o=>∃(l:List P2) (k:Int) (x:P2) (j:Nat),a=[lp l,.int k,pu x]/\j<3/\eM C1 C2 C3 a (.exc (clN C1 C2 C3 j))/\o=.val (.int (j:Int))
theorem gu:OkD P w base T.abi 11 (AO T.aab.c T.aad.c T.aac.c):=by
 refine okD aD (by rintro g o ⟨_,_,_,_,rfl,_⟩;rfl) ?_;intro _ _ _ a h;obtain⟨l,k,x,j,rfl,d,h,rfl⟩:=h;refine af (av 3 aD.nd Cm ?_);refine af (av 4 aD.nd m_ ?_)
 match j,d,h with
 |0,_,h=>
  refine af (jF rfl rfl ((ic T).mono (by decide)) a rfl T.aas.m T.aas.F.kp T.aas.b (ae (aa 0 rfl) (ae (aa 1 rfl) (ae (aa 2 rfl) ak ai) ai) ai) rfl T.aaf.m T.aar T.aam aD.nd (i:=5) rfl rfl h T.aap (T.abC) (λf=>?_));refine af (av 4 aD.nd (aq (jI T.aan) rfl T.aaa GU (ae (aa 5 rfl) (ae (lw rfl T.aaw dW) ak ai) ai)) ?_);refine af (av 3 aD.nd (EvN.ev (bI (aj (bF T.aax rfl T.aaa GU (aa 5 rfl) rfl T.aab.m) (aj (bF T.aaL rfl T.aaa GU (aa 5 rfl) rfl T.aad.m) (aj (bF T.aay rfl T.aaa GU (aa 5 rfl) rfl T.aac.m) (aj (bF T.aba rfl T.aaa GU (aa 5 rfl) rfl T.abj.m) aF aB) aB) aB) aB))) ?_);refine af (av 3 aD.nd (EvN.ev (fN (aa 3 rfl) (EvN.ev (bI (aj (bF T.aaI rfl T.aaa GU (aa 5 rfl) rfl T.aah.m) (aj (bF T.aaT rfl T.aaa GU (aa 5 rfl) rfl T.aaF.m) (aj (bF T.aaK rfl T.aaa GU (aa 5 rfl) rfl T.aaj.m) (aj (bF T.aaJ rfl T.aaa GU (aa 5 rfl) rfl T.aai.m) aF aB) aB) aB) aB))) (by walk_at"len"))) ?_);refine af (av 3 aD.nd (EvN.ev (fN (aa 3 rfl) (EvN.ev (bI (aj (bF T.aaV rfl T.aaa GU (aa 5 rfl) rfl T.aaH.m) (aj (bF T.aaU rfl T.aaa GU (aa 5 rfl) rfl T.aaG.m) (aj (bF T.aa3 rfl T.aaa GU (aa 5 rfl) rfl T.aa9.m) (aj (bF T.aaz rfl T.aaa GU (aa 5 rfl) rfl T.aag.m) aF aB) aB) aB) aB))) (by walk_at"len"))) (aA ?_));show Ws _ _ _ _ _ _ [some (.val (lp l)),some (.val (.int k)),some (.val (pu x)),some (.val (.lst ((knd 0).map U.bl))),some (.val (.bl true)),none];refine af (aU (Tw.t (kh (dj (c9 (aa 4 rfl))) (λe=>(ju (aw j3 (kT (aa 3 rfl) m_) ag))))) rfl (aA ?_));refine af (aR (kZ (bs:=knd 0) (j:=0) (aa 3 rfl) m_ rfl (λi h=>by lia)) ?_);exact rfl
 |1,_,h=>
  refine af (jF rfl rfl ((ic T).mono (by decide)) a rfl T.aas.m T.aas.F.kp T.aas.b (ae (aa 0 rfl) (ae (aa 1 rfl) (ae (aa 2 rfl) ak ai) ai) ai) rfl T.aaf.m T.aar T.aam aD.nd (i:=5) rfl rfl h T.aav (T.abN) (λf=>?_));refine af (av 4 aD.nd (aq (jI T.aau) rfl T.aaa GU (ae (aa 5 rfl) (ae (lw rfl T.aaw dW) ak ai) ai)) ?_);refine af (av 3 aD.nd (EvN.ev (bI (aj (bF T.aaQ rfl T.aaa GU (aa 5 rfl) rfl T.aab.m) (aj (bF T.aa2 rfl T.aaa GU (aa 5 rfl) rfl T.aad.m) (aj (bF T.aaR rfl T.aaa GU (aa 5 rfl) rfl T.aac.m) (aj (bF T.abd rfl T.aaa GU (aa 5 rfl) rfl T.abj.m) aF aB) aB) aB) aB))) ?_);refine af (av 3 aD.nd (EvN.ev (fN (aa 3 rfl) (EvN.ev (bI (aj (bF T.aaZ rfl T.aaa GU (aa 5 rfl) rfl T.aah.m) (aj (bF T.aa5 rfl T.aaa GU (aa 5 rfl) rfl T.aaF.m) (aj (bF T.aa1 rfl T.aaa GU (aa 5 rfl) rfl T.aaj.m) (aj (bF T.aa0 rfl T.aaa GU (aa 5 rfl) rfl T.aai.m) aF aB) aB) aB) aB))) (by walk_at"len"))) ?_);refine af (av 3 aD.nd (EvN.ev (fN (aa 3 rfl) (EvN.ev (bI (aj (bF T.aa7 rfl T.aaa GU (aa 5 rfl) rfl T.aaH.m) (aj (bF T.aa6 rfl T.aaa GU (aa 5 rfl) rfl T.aaG.m) (aj (bF T.abc rfl T.aaa GU (aa 5 rfl) rfl T.aa9.m) (aj (bF T.aaS rfl T.aaa GU (aa 5 rfl) rfl T.aag.m) aF aB) aB) aB) aB))) (by walk_at"len"))) (aA ?_));show Ws _ _ _ _ _ _ [some (.val (lp l)),some (.val (.int k)),some (.val (pu x)),some (.val (.lst ((knd 1).map U.bl))),some (.val (.bl true)),none];refine af (aU (Tw.t (kh (dj (c9 (aa 4 rfl))) (λe=>(ju (aw j3 (kT (aa 3 rfl) m_) ag))))) rfl (aA ?_));refine af (aR (kZ (bs:=knd 1) (j:=1) (aa 3 rfl) m_ rfl (λi h=>by obtain rfl:i=0:=(by lia);rfl)) ?_);exact rfl
 |2,_,h=>
  refine af (jF rfl rfl ((ic T).mono (by decide)) a rfl T.aas.m T.aas.F.kp T.aas.b (ae (aa 0 rfl) (ae (aa 1 rfl) (ae (aa 2 rfl) ak ai) ai) ai) rfl T.aaf.m T.aar T.aam aD.nd (i:=5) rfl rfl h T.aaq (T.abD) (λf=>?_));refine af (av 4 aD.nd (aq (jI T.aao) rfl T.aaa GU (ae (aa 5 rfl) (ae (lw rfl T.aaw dW) ak ai) ai)) ?_);refine af (av 3 aD.nd (EvN.ev (bI (aj (bF T.aaA rfl T.aaa GU (aa 5 rfl) rfl T.aab.m) (aj (bF T.aaP rfl T.aaa GU (aa 5 rfl) rfl T.aad.m) (aj (bF T.aaB rfl T.aaa GU (aa 5 rfl) rfl T.aac.m) (aj (bF T.abb rfl T.aaa GU (aa 5 rfl) rfl T.abj.m) aF aB) aB) aB) aB))) ?_);refine af (av 3 aD.nd (EvN.ev (fN (aa 3 rfl) (EvN.ev (bI (aj (bF T.aaM rfl T.aaa GU (aa 5 rfl) rfl T.aah.m) (aj (bF T.aaW rfl T.aaa GU (aa 5 rfl) rfl T.aaF.m) (aj (bF T.aaO rfl T.aaa GU (aa 5 rfl) rfl T.aaj.m) (aj (bF T.aaN rfl T.aaa GU (aa 5 rfl) rfl T.aai.m) aF aB) aB) aB) aB))) (by walk_at"len"))) ?_);refine af (av 3 aD.nd (EvN.ev (fN (aa 3 rfl) (EvN.ev (bI (aj (bF T.aaY rfl T.aaa GU (aa 5 rfl) rfl T.aaH.m) (aj (bF T.aaX rfl T.aaa GU (aa 5 rfl) rfl T.aaG.m) (aj (bF T.aa4 rfl T.aaa GU (aa 5 rfl) rfl T.aa9.m) (aj (bF T.aaC rfl T.aaa GU (aa 5 rfl) rfl T.aag.m) aF aB) aB) aB) aB))) (by walk_at"len"))) (aA ?_));show Ws _ _ _ _ _ _ [some (.val (lp l)),some (.val (.int k)),some (.val (pu x)),some (.val (.lst ((knd 2).map U.bl))),some (.val (.bl true)),none];refine af (aU (Tw.t (kh (dj (c9 (aa 4 rfl))) (λe=>(ju (aw j3 (kT (aa 3 rfl) m_) ag))))) rfl (aA ?_));refine af (aR (kZ (bs:=knd 2) (j:=2) (aa 3 rfl) m_ rfl (λi h=>by rcases (show i=0\/i=1 by lia) with rfl |rfl <;>rfl)) ?_);exact rfl
 |j+3,d,_=>exact absurd d (by lia)
noncomputable def lZ(l:List P2)(k:Int):List (Option U):=l.map λp=>if 0<k then some (pu (p.1*k,p.2*k)) else none
theorem Bv(l:List P2){k:Int}(h:0<=k)(x:P2):HJ (if decide (k=0)=true then (1:Int) else 0).toNat (pu (0,0))++(lZ l k).filterMap id=(ii l k).map pu:=by
 unfold ii lZ;by_cases z:k=0
 .subst z;rw[if_pos rfl]
  have:∀l:List P2,(l.map λp=>if (0:Int)<0 then some (pu (p.1*0,p.2*0)) else none).filterMap id=[]:=λl=>by
   induction l with
   |nil=>rfl
   |cons a l b=>rw[G_];exact b
  rw[this];rfl
 .rw[if_neg z,decide_eq_false z];have c:0<k:=by lia
  show []++_=_;rw[OQ]
  induction l with
  |nil=>rfl
  |cons a l b=>
   rw[G_,G_,G_,if_pos c,<-b];show pu (a.1*k,a.2*k)::_=pu (scl k a)::_;unfold scl;rw[J3 a.1,J3 a.2]
def zV:List U->Out->Prop:=λa o=>∃(l:List P2) (k:Int) (x:P2),a=[lp l,.int k,pu x]/\Fld l/\l.length<64/\(∀p∈l,Szp 150 p)/\Sz 300 k/\Szp 1000 x/\o=.val (mX l k x)
theorem jU:OkD P w base T.abJ 3 (zV):=by
 refine okD dU (by walk_at"ln") ?_;rintro _ _ _ r ⟨l,k,x,rfl,F,J,sz,Q,K,rfl⟩;have A:=AB F;have B:rJ [lp l] (.val (.int (vY l))):=⟨l,rfl,F.ne,by lia,λp c=>(sz p c).mono (by decide),rfl⟩
 unfold mX;by_cases f:k<0
 .refine af (bR (aw d8 (aa 1 rfl) ag) (decide_eq_true f) ?_);refine af (aR ag ?_);rw[if_pos f]
 refine af (aU (aw d8 (aa 1 rfl) ag) (decide_eq_false f) (aA ?_));rw[if_neg f];by_cases h:100<dY l
 .refine af (bR (aw eo (a_ (jZ T) r (ae (aa 0 rfl) ak ai) B) ag) (by rw[A];exact decide_eq_true (by lia)) ?_);refine af (aR ag ?_);rw[if_pos h]
 refine af (aU (aw eo (a_ (jZ T) r (ae (aa 0 rfl) ak ai) B) ag) (by rw[A];exact decide_eq_false (by lia)) (aA ?_));rw[if_neg h];have H:=Bv l (show 0<=k by lia) x;have I:ii l k≠[]:=by unfold ii;split;(· simp);(· simpa using F.ne)
 have S:(ii l k).length<=64:=by unfold ii;split <;>simp;lia
 have G:∀p∈ii l k,Szp 5000 p:=λp c=>by
  unfold ii at c;split at c
  .rw[GL.mp c];exact⟨Sz.mono (m:=8) (by decide) (by decide),Sz.mono (m:=8) (by decide) (by decide)⟩
  .obtain⟨q,O,rfl⟩:=GJ.mp c;exact (o7 Q (sz q O)).mono (by decide)
 have D:uC [.lst (HJ (if decide (k=0)=true then (1:Int) else 0).toNat (pu (0,0))++(lZ l k).filterMap id),pu x] (.val (.bl (b9 (ii l k) x))):=⟨ii l k,x,by rw[H],I,by lia,G,K.mono (by decide),rfl⟩
 have fl:((lZ l k).filterMap id).length<=64:=by
  refine HB (List.length_filterMap_le _ _) ?_;unfold lZ;rw[GD];lia
 have b:∀{j:Nat}{y:U}{o:Option U},(l.map pu)[j]?=some y->(lZ l k)[j]?=some o->∃p∈l,y=pu p/\o=if 0<k then some (pu (p.1*k,p.2*k)) else none:=λ{j y o} f h=>by
  unfold lZ at h;rw[GN]at f h;obtain⟨p,c,L⟩:=IZ.mp f;obtain⟨V,E,N⟩:=IZ.mp h;rw[c]at E;cases E;exact⟨p,Hb c,L.symm,N.symm⟩
 by_cases s:b9 (ii l k) x=true
 .refine af (aU (dj (c9 (a_ (iM T) r (ae (EvN.ev (fN (EvN.ev (xO (EvN.ev (bI (aj (aL (aj ag (aj ag aF aO) aO)) aF bL))) (pG xK rfl T.abY RX (ae (dw aW (aa 1 rfl) ag) ak yr)) (by split <;>decide) (by split <;>decide) (by split <;>decide))) (EvN.ev (pP (lZ l k) rfl (blk (am gl) ["land","k","point","x","y"] [3,4] rfl rfl rfl rfl (by decide+kernel)) (EvI.z (bZ (aa 0 rfl) (.inl rfl))) (λ_ _ _ _=>dX rfl (aV (aT (i:=3) dU.nd rfl (Or.inl rfl)) (aV (aT (i:=4) dU.nd rfl (Or.inl rfl)) cF))) (df (js:=[3,4]) (by decide)) ?clen ?csz ?dom ?ctest ?celt)) (by rw[Jm];exact Hd (aE (by split <;>lia))))) (ae (aa 2 rfl) ak ai) aN) D))) (by rw[s];rfl) (aA ?_))
  case clen=>unfold lZ;simp
  case csz=>rw[GD];exact Hd (aE (by lia))
  case dom=>intro y a;obtain⟨p,_,rfl⟩:=GJ.mp a;exact⟨_,rfl,rfl⟩
  case ctest=>
   intro C v u t j y o a g;obtain⟨p,d,rfl,rfl⟩:=b a g;rw[show (if 0<k then some (pu (p.1*k,p.2*k)) else none).isSome=decide (k >0) by by_cases z:0<k <;>simp[z]];exact (aw eo (aa 1 rfl) ag)
  case celt=>
   intro C v u t j y z a g;obtain⟨p,d,rfl,e⟩:=b a g;by_cases n:0<k
   .rw[if_pos n]at e;cases e;have R:=(sz p d).1;have M:=(sz p d).2;exact (aL (aj (aJ (aa 3 rfl) (aa 1 rfl) (by walk_at"mul")) (aj (aJ (aa 4 rfl) (aa 1 rfl) (by walk_at"mul")) aF aN) aN))
   .rw[if_neg n]at e;cases e
  refine af (aR Cm ?_);rw[if_pos s]
 .refine af (bR (dj (c9 (a_ (iM T) r (ae (EvN.ev (fN (EvN.ev (xO (EvN.ev (bI (aj (aL (aj ag (aj ag aF aO) aO)) aF bL))) (pG xK rfl T.abY RX (ae (dw aW (aa 1 rfl) ag) ak yr)) (by split <;>decide) (by split <;>decide) (by split <;>decide))) (EvN.ev (pP (lZ l k) rfl (blk (am gl) ["land","k","point","x","y"] [3,4] rfl rfl rfl rfl (by decide+kernel)) (EvI.z (bZ (aa 0 rfl) (.inl rfl))) (λ_ _ _ _=>dX rfl (aV (aT (i:=3) dU.nd rfl (Or.inl rfl)) (aV (aT (i:=4) dU.nd rfl (Or.inl rfl)) cF))) (df (js:=[3,4]) (by decide)) ?clen ?csz ?dom ?ctest ?celt)) (by rw[Jm];exact Hd (aE (by split <;>lia))))) (ae (aa 2 rfl) ak ai) aN) D))) (by rw[LA.mpr s];rfl) ?_)
  case clen=>unfold lZ;simp
  case csz=>rw[GD];exact Hd (aE (by lia))
  case dom=>intro y a;obtain⟨p,_,rfl⟩:=GJ.mp a;exact⟨_,rfl,rfl⟩
  case ctest=>
   intro C v u t j y o a g;obtain⟨p,d,rfl,rfl⟩:=b a g;rw[show (if 0<k then some (pu (p.1*k,p.2*k)) else none).isSome=decide (k >0) by by_cases z:0<k <;>simp[z]];exact (aw eo (aa 1 rfl) ag)
  case celt=>
   intro C v u t j y z a g;obtain⟨p,d,rfl,e⟩:=b a g;by_cases n:0<k
   .rw[if_pos n]at e;cases e;have R:=(sz p d).1;have M:=(sz p d).2;exact (aL (aj (aJ (aa 3 rfl) (aa 1 rfl) (by walk_at"mul")) (aj (aJ (aa 4 rfl) (aa 1 rfl) (by walk_at"mul")) aF aN) aN))
   .rw[if_neg n]at e;cases e
  refine af (aR ag ?_);rw[if_neg s]
noncomputable def pmV(ns:List Int)(k:Int):Int:=if (decide (k >0) && decide (cel ns 2/54%2=1))=true then cel ns 1/7%(k+1) else k
noncomputable def pp1(ns:List Int)(l:List P2):P2:=gp l (cel ns 1%(l.length:Int)).toNat
noncomputable def pp2(ns:List Int)(l:List P2):P2:=gp l (cel ns 2/108%(l.length:Int)).toNat
noncomputable def pxy(ns:List Int)(l:List P2)(k:Int):P2:=(pmV ns k*(pp1 ns l).1+(k-pmV ns k) *(pp2 ns l).1,pmV ns k*(pp1 ns l).2+(k-pmV ns k) *(pp2 ns l).2)
noncomputable def ptV(ns:List Int)(l:List P2)(k:Int):P2:=if cel ns 2%6=0 then pxy ns l k else ((pxy ns l k).1+cel ns 2/6%3-1,(pxy ns l k).2+cel ns 2/18%3-1)
theorem yM(ns:List Int){k:Int}(a:Sz 200 k):Sz 200 (pmV ns k):=by
 unfold pmV;split
 .rename_i h
  simp only[Ic,decide_eq_true_eq]at h;have c:=KO (cel ns 1/7) (show k+1≠0 by lia);have b:=JS (cel ns 1/7) (show 0<k+1 by lia);unfold Sz at *;lia
 .exact a
theorem qJ{l:List P2}(d:0<l.length)(c:Int):(c%(l.length:Int)).toNat<l.length/\c%(l.length:Int)=(((c%(l.length:Int)).toNat:Nat):Int):=by
 have b:=KO c (show (l.length:Int)≠0 by lia);have a:=JS c (show 0<(l.length:Int) by lia);lia
theorem zO(ns:List Int){l:List P2}{k:Int}(f:0<l.length)(e:∀p∈l,Szp 150 p)(c:Sz 200 k):Szp 400 (pxy ns l k):=by
 have m:=yM ns c;have a:=e _ (bU (qJ f (cel ns 1)).1);have b:=e _ (bU (qJ f (cel ns 2/108)).1);have d:=L2.Sz.sub' c m;exact⟨(L2.Sz.add' ((L2.Sz.mul m a.1).mono (n:=351) (by decide)) ((L2.Sz.mul d b.1).mono (n:=351) (by decide))).mono (by decide),(L2.Sz.add' ((L2.Sz.mul m a.2).mono (n:=351) (by decide)) ((L2.Sz.mul d b.2).mono (n:=351) (by decide))).mono (by decide)⟩
theorem CW(ns:List Int){l:List P2}{k:Int}(c:0<l.length)(d:∀p∈l,Szp 150 p)(b:Sz 200 k):Szp 1000 (ptV ns l k):=by
 have p:=zO ns c d b;unfold ptV;have a:∀n:Int,Sz 400 (n%3):=λn=>Sz.mono (m:=8) (by unfold Sz;lia) (by decide);have o:Sz 401 (1:Int):=Sz.mono (m:=8) (by decide) (by decide);split
 .exact p.mono (by decide)
 .exact⟨(L2.Sz.sub' ((L2.Sz.add' p.1 (a _)).mono (n:=401) (by decide)) o).mono (by decide),(L2.Sz.sub' ((L2.Sz.add' p.2 (a _)).mono (n:=401) (by decide)) o).mono (by decide)⟩
def Bm:List U->Out->Prop:=λb o=>∃(a:List Int) (l:List P2) (k:Int),b=[.scr (a.map U.int),lp l,.int k]/\a.length<=63/\(∀m∈a,Sz 1048576 m)/\l≠[]/\l.length<64/\(∀p∈l,Szp 150 p)/\Sz 200 k/\o=.val (pu (ptV a l k))
theorem mV:OkD P w base T.abu 2 (Bm):=by
 refine okD bO (by walk_at"ln") ?_;rintro _ _ _ f ⟨a,l,k,rfl,d,n,A,v,sz,p,rfl⟩;have b:((l.map pu).length:Int)=(l.length:Int):=by rw[GD]
 have h:0<l.length:=Hx.mpr A;have G:=fW n (k:=1) (by decide) (by decide);have E:=fW n (k:=2) (by decide) (by decide);have e:=qJ h (cel a 1);have g:=qJ h (cel a 2/108);have J:=yM a p;have j:=sz _ (bU e.1);have q:=sz _ (bU g.1);have B:=j.1;have x:=j.2;have s:=q.1;have u:=q.2;refine af (av 3 bO.nd (ax (aa 1 rfl) (bC (a_ (bG T) f (ae (aa 0 rfl) (ae ag ak aO) ai) ⟨a,_,rfl,d,by decide,by decide,rfl⟩) (aq (bu rfl) rfl T.aae G3 (ae (aa 1 rfl) ak ai)) (by rw[b];lia)) rfl (eQ (by rw[b];exact e.2) e.1)) ?_);refine af (av 4 bO.nd (a_ (bG T) f (ae (aa 0 rfl) (ae ag ak aO) ai) ⟨a,_,rfl,d,by decide,by decide,rfl⟩) ?_);refine af (av 5 bO.nd (ax (aa 1 rfl) (bC (cO (aa 4 rfl) ag (by walk_at"div")) (aq (bu rfl) rfl T.aae G3 (ae (aa 1 rfl) ak ai)) (by rw[b];lia)) rfl (eQ (by rw[b];exact g.2) g.1)) ?_);refine af (av 6 bO.nd (aa 2 rfl) ?_);show Ws _ _ _ _ _ _ [some (.val (.scr (a.map U.int))),some (.val (lp l)),some (.val (.int k)),some (.val (pu (pp1 a l))),some (.val (.int (cel a 2))),some (.val (pu (pp2 a l))),some (.val (.int k)),none,none];refine jL (λm=>SubP [some (.val (.scr (a.map U.int))),some (.val (lp l)),some (.val (.int k)),some (.val (pu (pp1 a l))),some (.val (.int (cel a 2))),some (.val (pu (pp2 a l))),some (.val (.int (pmV a k))),none,none] m) (mY (Tw.t (lh (aw eo (aa 2 rfl) ag) (λL=>(jH (aw aW (bC (cO (aa 4 rfl) ag (by walk_at"div")) ag (by walk_at"mod")) ag))))) (λo=>?_) (λr=>(aA ?_))) ?hj
 .have H:0<k:=by
   have:=o;simp only[Ic,decide_eq_true_eq]at this;lia
  refine af (av 6 bO.nd (bC (cO (a_ (bG T) f (ae (aa 0 rfl) (ae ag ak aO) ai) ⟨a,_,rfl,d,by decide,by decide,rfl⟩) ag (by walk_at"div")) (bH (aa 2 rfl) ag) (by lia)) (aA ?_));refine⟨rfl,rfl,rfl,rfl,rfl,rfl,?_,trivial⟩;exact congrArg (λz=>some (Sl.val (.int z))) (by unfold pmV;rw[if_pos o])
 .refine⟨rfl,rfl,rfl,rfl,rfl,rfl,?_,trivial⟩;exact congrArg (λz=>some (Sl.val (.int z))) (by unfold pmV;rw[if_neg (by rw[r];decide)])
 case hj=>
  intro m y;refine cX ?_ y;have i:=zO a h sz p;have D:Sz 150 (pp1 a l).1:=B;have C:Sz 150 (pp1 a l).2:=x;have I:Sz 150 (pp2 a l).1:=s;have K:Sz 150 (pp2 a l).2:=u;refine af (av 7 bO.nd (bH (aJ (aa 6 rfl) (ax (aa 3 rfl) ag rfl rfl) (by walk_at"mul")) (aJ (bj (aa 2 rfl) (aa 6 rfl)) (ax (aa 5 rfl) ag rfl rfl) (by walk_at"mul"))) ?_);refine af (av 8 bO.nd (bH (aJ (aa 6 rfl) (ax (aa 3 rfl) ag rfl rfl) (by walk_at"mul")) (aJ (bj (aa 2 rfl) (aa 6 rfl)) (ax (aa 5 rfl) ag rfl rfl) (by walk_at"mul"))) ?_);show Ws _ _ _ _ _ _ [some (.val (.scr (a.map U.int))),some (.val (lp l)),some (.val (.int k)),some (.val (pu (pp1 a l))),some (.val (.int (cel a 2))),some (.val (pu (pp2 a l))),some (.val (.int (pmV a k))),some (.val (.int (pxy a l k).1)),some (.val (.int (pxy a l k).2))];have M:=i.1;have F:=i.2;unfold ptV;by_cases c:cel a 2%6=0
  .refine af (bR (aw aW (bC (aa 4 rfl) ag (by walk_at"mod")) ag) (decide_eq_true c) ?_);refine af (aR (aL (aj (aa 7 rfl) (aj (aa 8 rfl) aF ai) ai)) ?_);rw[if_pos c]
  .refine af (aU (aw aW (bC (aa 4 rfl) ag (by walk_at"mod")) ag) (decide_eq_false c) (aA ?_));refine af (aR (aL (aj (bj (bH (aa 7 rfl) (bC (cO (aa 4 rfl) ag (by walk_at"div")) ag (by walk_at"mod"))) ag) (aj (bj (bH (aa 8 rfl) (bC (cO (aa 4 rfl) ag (by walk_at"div")) ag (by walk_at"mod"))) ag) aF aN) aN)) ?_);rw[if_neg c]
theorem kE{X:Cx}{g:Hp}{f:List Hc}{a:PSt}{c:Expr}{b d:Bool}(e:b=d)(h:Tt X g f a c b):Tt X g f a c d:=e ▸ h
theorem wZ(p:P2)(k:Int):okU 9 (.lst [qU (p,k)])=true:=rfl
theorem Dq:OkD P w base T.abX 12 (jj):=by
 refine okD c7 (by walk_at"ln") ?_;rintro _ _ _ d ⟨a,rfl,r,o,rfl⟩;have c0:=fW o (k:=0) (by decide) (by decide);have c1:=fW o (k:=1) (by decide) (by decide);have c3:=fW o (k:=3) (by decide) (by decide);have c4:=fW o (k:=4) (by decide) (by decide);have az:=(xV a).2;have ss:=Aa a;obtain⟨bn,bl,H⟩:=Ao a;refine af (u7 (i:=1) c7.nd rfl (Or.inr rfl) (bj (bC (a_ (bG T) d (ae (aa 0 rfl) (ae ag ak aO) ai) ⟨a,_,rfl,r,by decide,by decide,rfl⟩) ag (by walk_at"mod")) ag) ?_);refine af (u7 (i:=2) c7.nd rfl (Or.inr rfl) (bC (aJ (a_ (bG T) d (ae (aa 0 rfl) (ae ag ak aO) ai) ⟨a,_,rfl,r,by decide,by decide,rfl⟩) ag (by walk_at"mul")) (ut ag ag ⟨by decide,by decide,by decide⟩) (by decide+kernel)) ?_);show Ws _ _ _ _ _ _ [some (.val (.scr (a.map U.int))),some (.val (.int (slt a))),some (.val (.int (asd a))),none,none,none,none,none,none,none]
 refine af (av 3 c7.nd (EvN.ev (cT (kj T) d (ae (EvN.ev (cE (ys:=(((ptL a).map (mvp a)).map pu)) rfl (blk (am xg) ["script","slant","aside","land","x","y","k","point","due","handed"] [4,5] rfl rfl rfl rfl (by decide+kernel)) (EvI.z (bZ (EvN.ev (cT (l7 T) d (ae (aa 0 rfl) ak ai) ⟨a,rfl,r,o,rfl⟩)) (.inl rfl))) (λ_ _ _ _=>dX rfl (aV (aT (i:=4) c7.nd rfl (Or.inl rfl)) (aV (aT (i:=5) c7.nd rfl (Or.inl rfl)) cF))) (df (js:=[4,5]) (by decide)) ?clen ?csz ?dom ?celt)) ak cH) ⟨(ptL a).map (mvp a),rfl,λp hp=>by
  obtain⟨q,hq,rfl⟩:=GJ.mp hp;exact (Al a (H q hq)).mono (by decide),by rw[GD];lia,rfl⟩)) ?_)
 case clen=>simp
 case csz=>rw[GD];exact Hd (aE (by lia))
 case dom=>intro y Q;obtain⟨p,_,rfl⟩:=GJ.mp Q;exact⟨_,rfl,rfl⟩
 case celt=>
  rw[Ho];intro C s' H' fp j y z Q s;obtain⟨p,_,mp,rfl,rfl⟩:=di Q s;have z1:=(H p mp).1;have z2:=(H p mp).2;exact (aL (aj (bH (aa 4 rfl) (aa 2 rfl)) (aj (bj (bH (aa 5 rfl) (aJ (aa 1 rfl) (aa 4 rfl) (by walk_at"mul"))) (aa 2 rfl)) aF aN) aN))
 have K:=En a;generalize au ((ptL a).map (mvp a))=l at *;have F:=K.F;have N:=F.ne;have V:0<l.length:=Hx.mpr N;have X:((l.map pu).length:Int)=(l.length:Int):=by rw[GD]
 have h:=K.l64;have M:=qJ V (cel a 1);have S:=(Ek (cel a 0)).2;have I:Sz 300 (tmV (cel a 0)):=S.mono (by decide);refine af (av 6 c7.nd (a_ (mT T) d (ae (a_ (bG T) d (ae (aa 0 rfl) (ae ag ak aO) ai) ⟨a,_,rfl,r,by decide,by decide,rfl⟩) ak aB) ⟨_,rfl,c0,rfl⟩) ?_);generalize hk:tmV (cel a 0)=k at *;refine af (FS (ax (aa 3 rfl) (bC (a_ (bG T) d (ae (aa 0 rfl) (ae ag ak aO) ai) ⟨a,_,rfl,r,by decide,by decide,rfl⟩) (aq (bu rfl) rfl T.aae G3 (ae (aa 3 rfl) ak ai)) (by rw[X];lia)) rfl (eQ (by rw[X];exact M.2) M.1)) (Ci [4,5] rfl (aV (aT (i:=4) c7.nd rfl (Or.inl rfl)) (aV (aT (i:=5) c7.nd rfl (Or.inl rfl)) cF)) rfl) ?_);have mA:=bU M.1;generalize gp l (cel a 1%(l.length:Int)).toNat=A at *;have zA:=K.sz A mA;have a1:=zA.1;have a2:=zA.2;have xz:=CW a V K.sz S;refine af (av 7 c7.nd (a_ (mV T) d (ae (aa 0 rfl) (ae (aa 3 rfl) (ae (aa 6 rfl) ak ai) ai) ai) ⟨a,l,k,rfl,r,o,N,h,K.sz,S,rfl⟩) ?_);generalize ptV a l k=x at *;refine af (av 8 c7.nd (a_ (jU T) d (ae (aa 3 rfl) (ae (aa 6 rfl) (ae (aa 7 rfl) ak ai) ai) ai) ⟨l,k,x,rfl,F,h,K.sz,I,xz,rfl⟩) ?_);refine af (av 9 c7.nd (EvN.ev (fm (gK rfl) rfl T.aat LO (ae (aa 3 rfl) ak ai))) ?_);show Ws _ _ _ _ _ _ [some (.val (.scr (a.map U.int))),some (.val (.int (slt a))),some (.val (.int (asd a))),some (.val (lp l)),some (.val (.int A.1)),some (.val (.int A.2)),some (.val (.int k)),some (.val (pu x)),some (.val (mX l k x)),some (.val (lp l))];have E:Sz 300 (if k<0 then -k else k):=by split;(· unfold Sz at *;lia);(· exact I)
 have J:Szp 1000 (A.1*(if k<0 then -k else k),A.2*(if k<0 then -k else k)):=⟨(L2.Sz.mul a1 E).mono (by decide),(L2.Sz.mul a2 E).mono (by decide)⟩
 have Z:=An (C1:=T.aab.c) (C2:=T.aad.c) (C3:=T.aac.c) K I xz;have d2:=An (C1:=T.aab.c) (C2:=T.aad.c) (C3:=T.aac.c) K E J;refine af (aU (k:=false) ?t1 rfl (aA ?_))
 case t1=>
  rcases Z with ⟨j,G,f,m⟩ |⟨f,_⟩
  .rw[f];exact kE (by simp[Ax]) (Tw.t (lh (o5 (aa 8 rfl) (jJ _)) (λs=>(jH (aw j3 (a_ (gu T) d (ae (aa 9 rfl) (ae (aa 6 rfl) (ae (aa 7 rfl) ak ai) ai) ai) ⟨l,k,x,j,rfl,G,m,rfl⟩) (aa 8 rfl))))))
  .rw[f];exact kE (by rfl) (Tw.t (gD (o5 (aa 8 rfl) (jJ _)) rfl))
 refine af (aU (k:=false) ?t2 rfl (aA ?_))
 case t2=>
  rcases Z with ⟨j,G,f,m⟩ |⟨f,k0,O,B,m,g,_⟩
  .rw[f];exact kE (by rfl) (Tw.t (gD (Ce (aa 8 rfl) (jJ _)) rfl))
  .rw[f];have ki:iG [.lst (B.map qU),lp l] (.val (.bl true)):=⟨B,l,rfl,N,by lia,K.sz,g.len,λe he=>⟨g.pos e he,g.inn e he⟩,rfl⟩
   have cm:lO [.lst (B.map qU),lp l,.int k,pu x] (.val (.bl true)):=⟨B,l,by rw[g.n,g.x1,g.y1],g.pr,ki,g.near,rfl⟩
   exact kE (by rfl) (Tw.t (lh (Ce (aa 8 rfl) (jJ _)) (λs=>(jH (dj (c9 (a_ (nj T) d (ae (EvN.ev (cT (ic T) d (ae (aa 9 rfl) (ae (aa 6 rfl) (ae (aa 7 rfl) ak ai) ai) ai) m)) (ae (aa 3 rfl) (ae (aa 6 rfl) (ae (aa 7 rfl) ak ai) ai) ai) aB) cm)))))))
 refine af (aU (aw (Fb d (CO _) (CO _)) (aa 9 rfl) (aa 3 rfl)) (by rw[Do];simp) (aA ?_));refine af (av 6 c7.nd (aq lv rfl T.abB PyProof.Rows.boot_abs (ae (aa 6 rfl) ak ai)) ?_);generalize hk2:(if k<0 then -k else k)=b at *
 have L:0<=b:=by rw[<-hk2];split <;>lia
 refine af (av 8 c7.nd (a_ (jU T) d (ae (aa 3 rfl) (ae (aa 6 rfl) (ae (aL (aj (aJ (aa 4 rfl) (aa 6 rfl) (by walk_at"mul")) (aj (aJ (aa 5 rfl) (aa 6 rfl) (by walk_at"mul")) aF aN) aN)) ak bL) ai) ai) ⟨l,b,(A.1*b,A.2*b),rfl,F,h,K.sz,E,J,rfl⟩) ?_);show Ws _ _ _ _ _ _ [some (.val (.scr (a.map U.int))),some (.val (.int (slt a))),some (.val (.int (asd a))),some (.val (lp l)),some (.val (.int A.1)),some (.val (.int A.2)),some (.val (.int b)),some (.val (pu x)),some (.val (mX l b (A.1*b,A.2*b))),some (.val (lp l))];rcases d2 with ⟨j,G,f,m⟩ |⟨f,_,O,B,m,g,tz0⟩
 .rw[f];refine af (bR (o5 (aa 8 rfl) (jJ _)) rfl ?_);refine af (aR (dw aW (a_ (gu T) d (ae (aa 9 rfl) (ae (aa 6 rfl) (ae (aL (aj (aJ (aa 4 rfl) (aa 6 rfl) (by walk_at"mul")) (aj (aJ (aa 5 rfl) (aa 6 rfl) (by walk_at"mul")) aF aN) aN)) ak bL) ai) ai) ⟨l,b,(A.1*b,A.2*b),j,rfl,G,m,rfl⟩) (aa 8 rfl)) ?_);exact vB (by simp)
 .rw[f];refine af (aU (o5 (aa 8 rfl) (jJ _)) rfl (aA ?_));by_cases s:b=0
  .subst s;refine af (bR (aw aW (aa 6 rfl) ag) rfl ?_);refine af (aR (dw (uo d rfl rfl) (EvN.ev (cT (ic T) d (ae (aa 9 rfl) (ae (aa 6 rfl) (ae (aL (aj ag (aj ag aF aO) aO)) ak bL) ai) ai) (zF O))) (EvN.ev (bI aF))) ?_);exact rfl
  .refine af (aU (aw aW (aa 6 rfl) ag) (decide_eq_false s) (aA ?_));have kp:0<b:=by lia
   obtain⟨u,q,v,c,h1,Y,h3,D,e⟩:=pO O kp (hV F mA);have es:scl b A=(A.1*b,A.2*b):=by unfold scl;rw[J3,J3 A.2]
   rw[es]at Y h3 D e;have R:eM T.aab.c T.aad.c T.aac.c [lp l,.int b,pu (A.1*b,A.2*b)] (.new ([((A,b):ST3.PQ)].map qU)):=⟨l,b,(A.1*b,A.2*b),rfl,E.mono (by decide),J.mono (by decide),.inr (.inr (.inr ⟨L,O,u,q,v,c,h1,Y,h3,D.W,D.sz,D.nd,by rw[e]⟩))⟩
   refine af (aR (dw (uo d (wZ A b) (wZ A b)) (EvN.ev (cT (ic T) d (ae (aa 9 rfl) (ae (aa 6 rfl) (ae (aL (aj (aJ (aa 4 rfl) (aa 6 rfl) (by walk_at"mul")) (aj (aJ (aa 5 rfl) (aa 6 rfl) (by walk_at"mul")) aF aN) aN)) ak bL) ai) ai) R)) (EvN.ev (bI (aj (aL (aj (aL (aj (aa 4 rfl) (aj (aa 5 rfl) aF ai) ai)) (aj (aa 6 rfl) aF ai) bL)) aF bL)))) ?_);exact vB (qM 9 (.lst [qU (A,b)]) (wZ A b))
end
theorem ar1{c:JR}{a:List Str}{us:List GM}(h:us.length=1)(q:∀b,MH c ⟨[b],[]⟩=pure (a.zip [b])):MH c ⟨us,[]⟩=pure (a.zip us):=by obtain⟨_,rfl⟩:=L2.len1 h;exact q _
theorem ar2{d:JR}{a:List Str}{us:List GM}(h:us.length=2)(q:∀b c,MH d ⟨[b,c],[]⟩=pure (a.zip [b,c])):MH d ⟨us,[]⟩=pure (a.zip us):=by obtain⟨_,_,rfl⟩:=L2.len2 h;exact q _ _
theorem ar3{e:JR}{b:List Str}{us:List GM}(h:us.length=3)(q:∀c d a,MH e ⟨[c,d,a],[]⟩=pure (b.zip [c,d,a])):MH e ⟨us,[]⟩=pure (b.zip us):=by obtain⟨_,_,_,rfl⟩:=L2.len3 h;exact q _ _ _
theorem ar4{g:JR}{d:List Str}{us:List GM}(h:us.length=4)(q:∀e f b c,MH g ⟨[e,f,b,c],[]⟩=pure (d.zip [e,f,b,c])):MH g ⟨us,[]⟩=pure (d.zip us):=by
 cases us with
 |nil=>cases h
 |cons a t=>
  obtain⟨_,_,_,rfl⟩:=L2.len3 (QH h);exact q _ _ _ _
theorem bd_count{K:GE}{D:Hc}{i j k t:_}(q:K.lookup D=some ⟨.type "tuple",i,.seq #[.int 1 t] j,k⟩)(c e h:GM)(g:Option Hc)(f d:GM):dy K (J0 "count" "count" (cu ff) (bN ff) (am ff) (.ref D) c e h g f d) ["land","k"] []∧∃t,dy K (J0 "count" "count" (cu ff) (bN ff) (am ff) (.ref D) c e h g f d) ["land","k"] [.int 1 t]:=
 ⟨λs b X a=>by obtain⟨_,_,rfl⟩:=L2.len2 (show b.length=2 by simpa using a);exact BindsTo.of_defaults rfl (X _ _ q) rfl rfl rfl,t,λs b X a=>by obtain⟨_,rfl⟩:=L2.len1 (show b.length=1 by simpa using a);exact BindsTo.of_defaults rfl (X _ _ q) rfl rfl rfl⟩
noncomputable abbrev spLaw(K:GE):Sp:=spU K jj
theorem law_start(K:GE)(H:Hp)(a:Hc)(ns:List Int)(d:ns.length<=63)(c:∀m∈ns,Sz 1048576 m)(_:BB H)(b:SqL K H a (ns.map V.int)):spLaw K [.ref a] H (λv _=>v=.bl true) λ_ _ _=>False:=wo d c b
theorem law_ok{P:GX}{w:HF}{K:GE}{a:Str→Option GM}{c:Hc}(b:a "law"=some (.ref c))(T:Txt w K a):
  ∃e:JR,(∀(s:GP) (u:GM),RQ s e ⟨[u],[]⟩ [("script",u)])∧∀base:Jx,K.In base→base.Ns Jf a→c_ P w K a base CX0 12 c e ["script"] (spLaw K):=by
 cases b.symm.trans T.abX.m;obtain⟨_,_,_,_,_,_,_,_,_,f,_⟩:=T.abX.F.ex;exact⟨T.abX.d,λs v=>by rw[f];exact .of_eq rfl,λbase _ _=>(Dq T).calm yq⟩
end My
namespace PySem.W.Fast
theorem tw7161002588667543058:0=0:=rfl
theorem tw13895164079050318058:0=0:=rfl
theorem tw11635177423938145775:0=0:=rfl
theorem tw682562275702143003:0=0:=rfl
theorem tw14863778162733938649:0=0:=rfl
theorem tw3231041033455147434:0=0:=rfl
theorem tw17812203599159135082:0=0:=rfl
theorem tw15420468698630225695:0=0:=rfl
theorem tw17775909069023486472:0=0:=rfl
theorem tw11822956172814085549:0=0:=rfl
theorem tw191345728706046175:0=0:=rfl
theorem tw15211088554440668277:0=0:=rfl
theorem tw524277303090411015:0=0:=rfl
theorem tw1481921113194709997:0=0:=rfl
theorem tw17312361112156414429:0=0:=rfl
theorem tw16607949659328700684:0=0:=rfl
theorem tw7311486810248608933:0=0:=rfl
theorem tw16019885866192944197:0=0:=rfl
theorem tw11304573172491718876:0=0:=rfl
theorem tw1636331879295627542:0=0:=rfl
theorem tw3774708974547636025:0=0:=rfl
theorem tw3016008421398980574:0=0:=rfl
theorem tw8424813639850427113:0=0:=rfl
theorem tw16093110239821625028:0=0:=rfl
theorem tw8145812529995126395:0=0:=rfl
theorem tw12336003269673658687:0=0:=rfl
theorem tw5566414300410157242:0=0:=rfl
theorem tw10837544416403264690:0=0:=rfl
theorem tw1909943488694775752:0=0:=rfl
theorem tw34961178136231214:0=0:=rfl
theorem tw9686407814763695095:0=0:=rfl
theorem tw11632018255168931271:0=0:=rfl
theorem tw16703656472428097178:0=0:=rfl
theorem tw1383127465219602742:0=0:=rfl
theorem tw10558686259517938354:0=0:=rfl
theorem tw7124627215870647673:0=0:=rfl
theorem tw329346049178385351:0=0:=rfl
theorem tw167976494868206943:0=0:=rfl
theorem tw7409300589161026068:0=0:=rfl
theorem tw14494878639334147993:0=0:=rfl
theorem tw9666613086469276196:0=0:=rfl
theorem tw12951851654413823240:0=0:=rfl
theorem tw11640669699599789386:0=0:=rfl
theorem tw5783119883465029682:0=0:=rfl
theorem tw1827540772054899081:0=0:=rfl
theorem tw3450235465924955471:0=0:=rfl
theorem tw2969385831547394613:0=0:=rfl
theorem tw1980367111375897674:0=0:=rfl
theorem tw6172893574415779729:0=0:=rfl
theorem tw10012176604065287884:0=0:=rfl
theorem tw4967003910737371802:0=0:=rfl
theorem tw12579544724911727021:0=0:=rfl
theorem tw10074653795697356196:0=0:=rfl
theorem tw10045128734915395363:0=0:=rfl
theorem tw2840372710508289463:0=0:=rfl
theorem tw13053715865034442747:0=0:=rfl
theorem tw9440672606840686447:0=0:=rfl
theorem tw11852302479776870136:0=0:=rfl
theorem tw9430295195449176741:0=0:=rfl
theorem tw8563288164557928238:0=0:=rfl
theorem tw15440864548316857681:0=0:=rfl
theorem tw14829935982417317239:0=0:=rfl
theorem tw406078546790898542:0=0:=rfl
theorem tw7169969968285298159:0=0:=rfl
theorem tw17832393105633260825:0=0:=rfl
theorem tw5717506339447410915:0=0:=rfl
theorem tw10571375025515560435:0=0:=rfl
theorem tw8783126804122108688:0=0:=rfl
theorem tw16298075642959943586:0=0:=rfl
theorem tw13049736550128247942:0=0:=rfl
theorem tw8721959988470379066:0=0:=rfl
theorem tw9668130372409579196:0=0:=rfl
theorem tw6966938898339975732:0=0:=rfl
theorem tw17060690796645803309:0=0:=rfl
theorem tw13025143000161703112:0=0:=rfl
theorem tw15760094978603279309:0=0:=rfl
theorem tw2341326201868529549:0=0:=rfl
theorem tw15740030354952263571:0=0:=rfl
theorem tw11343501069192811058:0=0:=rfl
theorem tw10212492062720401825:0=0:=rfl
theorem tw12662766554019236475:0=0:=rfl
theorem tw14502281007430937711:0=0:=rfl
theorem tw3611438949152272765:0=0:=rfl
theorem tw103258483998859954:0=0:=rfl
theorem tw13397921525244364650:0=0:=rfl
theorem tw3068709887568421932:0=0:=rfl
theorem tw12915444708359258462:0=0:=rfl
theorem tw3391774658774562696:0=0:=rfl
theorem tw16545660935135083731:0=0:=rfl
theorem tw6533252953459723394:0=0:=rfl
theorem tw7838384609249841397:0=0:=rfl
theorem tw12898550250485199887:0=0:=rfl
theorem tw8069113976253368930:0=0:=rfl
theorem tw6070148809366788824:0=0:=rfl
theorem tw9222334839804938996:0=0:=rfl
theorem tw3948582863858567567:0=0:=rfl
theorem tw10184034659088027866:0=0:=rfl
theorem tw5474891172176570954:0=0:=rfl
theorem tw7244649566811190746:0=0:=rfl
theorem tw12693709502279615528:0=0:=rfl
theorem tw750602937470308468:0=0:=rfl
theorem tw2207775337675332113:0=0:=rfl
theorem tw9772886223232012850:0=0:=rfl
theorem tw17128323964349808789:0=0:=rfl
theorem tw14337981280737471861:0=0:=rfl
theorem tw16183364961918160205:0=0:=rfl
theorem tw16547401980060022384:0=0:=rfl
theorem tw3980023694510381468:0=0:=rfl
theorem tw2947584976801472115:0=0:=rfl
theorem tw910601382638729887:0=0:=rfl
theorem tw17861554889131731686:0=0:=rfl
theorem tw7780818143216950101:0=0:=rfl
theorem tw13038077513616922073:0=0:=rfl
theorem tw13414368854485304524:0=0:=rfl
theorem tw10869819625283220093:0=0:=rfl
theorem tw8722401816272173965:0=0:=rfl
theorem tw6132436647259918664:0=0:=rfl
theorem tw4612255314075079357:0=0:=rfl
theorem tw1212736310391643289:0=0:=rfl
theorem tw2366116013801147906:0=0:=rfl
theorem tw16218165858921469888:0=0:=rfl
theorem tw1388360185888443148:0=0:=rfl
theorem tw3833518471360365798:0=0:=rfl
theorem tw1579082460839855120:0=0:=rfl
theorem tw7824258500171153105:0=0:=rfl
theorem tw674327090697271465:0=0:=rfl
theorem tw9067938784139798243:0=0:=rfl
theorem tw711261177683937762:0=0:=rfl
theorem tw4760731967174751522:0=0:=rfl
theorem tw12337391699411627358:0=0:=rfl
theorem tw12256130558191450980:0=0:=rfl
theorem tw18087201706637066324:0=0:=rfl
theorem tw45099141009225863:0=0:=rfl
theorem tw674019749662065527:0=0:=rfl
theorem tw1857232579658131292:0=0:=rfl
theorem tw4288432491282802010:0=0:=rfl
theorem tw1604889906611406715:0=0:=rfl
theorem tw11938789818019695924:0=0:=rfl
theorem tw3149412513172024783:0=0:=rfl
theorem tw9723127159881839710:0=0:=rfl
theorem tw14083276711073441116:0=0:=rfl
theorem tw8316269924731166112:0=0:=rfl
theorem tw840224976657840809:0=0:=rfl
theorem tw6734591228798098764:0=0:=rfl
theorem tw10613898022416030223:0=0:=rfl
theorem tw3845701784697620238:0=0:=rfl
theorem tw534678630905422596:0=0:=rfl
theorem tw12083638541844629729:0=0:=rfl
theorem tw1107575325792780398:0=0:=rfl
theorem tw9746413113550609338:0=0:=rfl
theorem tw10547852625803415987:0=0:=rfl
theorem tw7480415205813076017:0=0:=rfl
theorem tw5579112198583196388:0=0:=rfl
theorem tw6895242714080790312:0=0:=rfl
theorem tw15602164036276474062:0=0:=rfl
theorem tw13018578231259512278:0=0:=rfl
theorem tw5934131529699569986:0=0:=rfl
theorem tw15317384901656215375:0=0:=rfl
theorem tw3071648403696617322:0=0:=rfl
theorem tw10633767588755297706:0=0:=rfl
theorem tw6713161714685908353:0=0:=rfl
theorem tw5876129498452609055:0=0:=rfl
theorem tw1832969389628883834:0=0:=rfl
theorem tw18052742429767759915:0=0:=rfl
theorem tw10708087916887268567:0=0:=rfl
theorem tw9908349306768158240:0=0:=rfl
theorem tw1510003430528382424:0=0:=rfl
theorem tw15966717181902310226:0=0:=rfl
theorem tw6750130751669091929:0=0:=rfl
theorem tw16967273676457900479:0=0:=rfl
theorem tw11789896608989300479:0=0:=rfl
theorem tw8374316401700200019:0=0:=rfl
theorem tw8795467595437148420:0=0:=rfl
theorem tw15538618172354136113:0=0:=rfl
theorem tw8986422321159065256:0=0:=rfl
theorem tw7114644268960180587:0=0:=rfl
theorem tw9010169400313801155:0=0:=rfl
theorem tw3713635183435284025:0=0:=rfl
theorem tw13197118665127419426:0=0:=rfl
theorem tw4545442533498478655:0=0:=rfl
theorem tw9886284784802182068:0=0:=rfl
theorem tw2547020877091109498:0=0:=rfl
theorem tw6371888168346305780:0=0:=rfl
theorem tw5291634000933509062:0=0:=rfl
theorem tw6323513474604917682:0=0:=rfl
theorem tw17059634827439479562:0=0:=rfl
theorem tw4317898475539639570:0=0:=rfl
theorem tw17669463186009504505:0=0:=rfl
theorem tw11320182036803577156:0=0:=rfl
theorem tw17893738961613462240:0=0:=rfl
theorem tw13845588886802054660:0=0:=rfl
theorem tw3718351162567542277:0=0:=rfl
theorem tw10203538382738806021:0=0:=rfl
theorem tw1362194021656061331:0=0:=rfl
theorem tw2779101818945704047:0=0:=rfl
theorem tw10228582325869165027:0=0:=rfl
theorem tw13467772912985497786:0=0:=rfl
theorem tw9044733718480524989:0=0:=rfl
theorem tw2266315173839997053:0=0:=rfl
theorem tw12512983084294672037:0=0:=rfl
theorem tw14482960636388432427:0=0:=rfl
theorem tw16112008719419601396:0=0:=rfl
theorem tw15043227803592459456:0=0:=rfl
theorem tw986294660458341589:0=0:=rfl
theorem tw18229470248604047633:0=0:=rfl
theorem tw4868720642814068988:0=0:=rfl
theorem tw15833981378941525676:0=0:=rfl
theorem tw10759089218891752098:0=0:=rfl
theorem tw8700035774067858350:0=0:=rfl
theorem tw15270495039369622001:0=0:=rfl
theorem tw2784316570451665746:0=0:=rfl
theorem tw5778370881140064775:0=0:=rfl
theorem tw13425022185200262269:0=0:=rfl
theorem tw13809613329363080883:0=0:=rfl
theorem tw14820548239636439412:0=0:=rfl
theorem tw12188154966751091816:0=0:=rfl
theorem tw18409728829282840302:0=0:=rfl
theorem tw17126222103570016240:0=0:=rfl
theorem tw7227423560203442280:0=0:=rfl
theorem tw14655620106778272467:0=0:=rfl
theorem tw320189272742084145:0=0:=rfl
theorem tw17948920607453737062:0=0:=rfl
theorem tw10928898755786016540:0=0:=rfl
theorem tw7001599629661174062:0=0:=rfl
theorem tw3225952599357450623:0=0:=rfl
theorem tw7041736479127303892:0=0:=rfl
theorem tw550151292447452682:0=0:=rfl
theorem tw6973772115036320095:0=0:=rfl
theorem tw13954395452601019032:0=0:=rfl
theorem tw16489018260146716125:0=0:=rfl
theorem tw11399506667129398030:0=0:=rfl
theorem tw11518223408537129993:0=0:=rfl
theorem tw14081913431733612859:0=0:=rfl
theorem tw8660041056204862148:0=0:=rfl
theorem tw819744148198022085:0=0:=rfl
theorem tw12988449404934589945:0=0:=rfl
theorem tw7100273805406100341:0=0:=rfl
theorem tw5872066766062952923:0=0:=rfl
theorem tw5455573343180319647:0=0:=rfl
theorem tw11850278921614965690:0=0:=rfl
theorem tw2612943499539438468:0=0:=rfl
theorem tw16785432801190657656:0=0:=rfl
theorem tw619220218068173919:0=0:=rfl
theorem tw2402223848061372592:0=0:=rfl
theorem tw2603147183454825519:0=0:=rfl
theorem tw1690611790200934669:0=0:=rfl
theorem tw15433677392054358914:0=0:=rfl
theorem tw14768927720859478967:0=0:=rfl
theorem tw6358530129779263888:0=0:=rfl
theorem tw11360980242313264644:0=0:=rfl
theorem tw7134460706686082401:0=0:=rfl
theorem tw1067459657721823215:0=0:=rfl
theorem tw5148994487572058021:0=0:=rfl
theorem tw16195798123244181314:0=0:=rfl
theorem tw3558607031610188821:0=0:=rfl
theorem tw7984035315101999706:0=0:=rfl
theorem tw5258482017137229724:0=0:=rfl
theorem tw10501323842196892169:0=0:=rfl
theorem tw7582791222275852102:0=0:=rfl
theorem tw582276134954688971:0=0:=rfl
theorem tw2890447662346592943:0=0:=rfl
theorem tw14397711505536917342:0=0:=rfl
theorem tw15161570275012644568:0=0:=rfl
theorem tw9934086027032034274:0=0:=rfl
theorem tw16879579765316730344:0=0:=rfl
theorem tw7771253193389926736:0=0:=rfl
theorem tw7737753698694835445:0=0:=rfl
theorem tw15646307410306399144:0=0:=rfl
theorem tw12927487025231637381:0=0:=rfl
theorem tw7624188264250426500:0=0:=rfl
theorem tw16271088029632657844:0=0:=rfl
theorem tw10258585056996055853:0=0:=rfl
theorem tw8456383091377542651:0=0:=rfl
theorem tw3364729139002837426:0=0:=rfl
theorem tw17203150773410130978:0=0:=rfl
theorem tw9470414852285992467:0=0:=rfl
theorem tw8001763159631634158:0=0:=rfl
theorem tw16929430212423882955:0=0:=rfl
theorem tw1362247852204144274:0=0:=rfl
theorem tw9642638493386944441:0=0:=rfl
theorem tw12519184139559433577:0=0:=rfl
theorem tw12390760568537259647:0=0:=rfl
theorem tw6046679923033781031:0=0:=rfl
theorem tw3840379158670523939:0=0:=rfl
theorem tw3559212856407899225:0=0:=rfl
theorem tw10576629938821808100:0=0:=rfl
theorem tw2184223080462225403:0=0:=rfl
theorem tw4033091048735356762:0=0:=rfl
theorem tw16811408035038565172:0=0:=rfl
theorem tw9395696820826257520:0=0:=rfl
theorem tw3011477282931569427:0=0:=rfl
theorem tw16016188799092319964:0=0:=rfl
theorem tw2691077971648167582:0=0:=rfl
theorem tw5133949679024573393:0=0:=rfl
theorem tw3264346656073342205:0=0:=rfl
theorem tw17225870463909128532:0=0:=rfl
theorem tw502905928396813199:0=0:=rfl
theorem tw17828870038117742832:0=0:=rfl
theorem tw6516600836604107297:0=0:=rfl
theorem tw3470074079905181290:0=0:=rfl
theorem tw12964767412317411395:0=0:=rfl
theorem tw14236993098664204914:0=0:=rfl
theorem tw12656363576978430015:0=0:=rfl
theorem tw18388946541089601900:0=0:=rfl
theorem tw17160077933486257734:0=0:=rfl
theorem tw11535462720442695736:0=0:=rfl
theorem tw3005122124202136559:0=0:=rfl
theorem tw17070559565271266614:0=0:=rfl
theorem tw2668704776085861465:0=0:=rfl
theorem tw10390472883691155813:0=0:=rfl
theorem tw7422295882175073448:0=0:=rfl
theorem tw4542352324345754011:0=0:=rfl
theorem tw14398410673508439179:0=0:=rfl
theorem tw3974579550923763253:0=0:=rfl
theorem tw3349321762325076603:0=0:=rfl
theorem tw2378916175241026356:0=0:=rfl
theorem tw2565521506575665340:0=0:=rfl
theorem tw8944874639951400907:0=0:=rfl
theorem tw9324359517157106775:0=0:=rfl
theorem tw9107688630651491125:0=0:=rfl
theorem tw7318186208595204826:0=0:=rfl
theorem tw14195345936322179871:0=0:=rfl
theorem tw12236598919539646967:0=0:=rfl
theorem tw5946436580052075710:0=0:=rfl
theorem tw18040591707916883125:0=0:=rfl
theorem tw8926253653900896774:0=0:=rfl
theorem tw7561907563755648568:0=0:=rfl
theorem tw6725915802020091612:0=0:=rfl
theorem tw2284795752089103012:0=0:=rfl
theorem tw18288943541048624698:0=0:=rfl
theorem tw18222804625818417224:0=0:=rfl
theorem tw13913895153995968099:0=0:=rfl
theorem tw13741855982860672344:0=0:=rfl
theorem tw1246644097161859695:0=0:=rfl
theorem tw11685077758527594818:0=0:=rfl
theorem tw5515533813688640732:0=0:=rfl
theorem tw4248065103630317004:0=0:=rfl
theorem tw3911605639271009818:0=0:=rfl
theorem tw2827063933228693697:0=0:=rfl
theorem tw17025486926367182709:0=0:=rfl
theorem tw1623773275334489330:0=0:=rfl
theorem tw13893108322780216556:0=0:=rfl
theorem tw12641620919105142573:0=0:=rfl
theorem tw5712825461836522495:0=0:=rfl
theorem tw3372167036078797929:0=0:=rfl
theorem tw2933536626469155872:0=0:=rfl
theorem tw18179989420573239257:0=0:=rfl
end PySem.W.Fast
open PySem PySem.W PyProof.Rows L2
set_option maxRecDepth 100000 in
set_option maxHeartbeats 0 in
set_option maxHeartbeats 0 in
theorem PySem.Challenge.cw_stakefield_k37_told_refused_holds : PySem.Challenge.rw_stakefield_k37_told_refused.Holds := by
 w_on;o_law;k_head;(case hw=>w_witness2)
 k_fill
 refine L2.walk_ofB (l:=PySem.Challenge.rw_stakefield_k37_told_refused) (n:=63) (k:=12) (x:="script") (CX:=CX0) (sp:=My.spLaw) rfl (by decide) rfl ⟨rfl,by decide,by decide⟩ (λw h Y=>by first |exact Rr Y |exact PySem.W.km_in_of Y) ?F My.law_start (λ_ _ _ _ z=>z)
 case F=>
  intro w mg fa h KX G hmg
  refine' My.law_ok hmg ⟨L2.dfn KX G (by walk_at"b1") ?_ ?_ ?_ ?_,L2.dfn KX G (by walk_at"b1") ?_ ?_ ?_ ?_,L2.dfn KX G (by walk_at"b2") ?_ ?_ ?_ ?_,L2.dfn KX G (by walk_at"b1") ?_ ?_ ?_ ?_,L2.dfn KX G (by walk_at"b1") ?_ ?_ ?_ ?_,L2.dfn KX G (by walk_at"b1") ?_ ?_ ?_ ?_,L2.dfn KX G (by walk_at"b2") ?_ ?_ ?_ ?_,L2.dfn KX G (by walk_at"b2") ?_ ?_ ?_ ?_,L2.dfn KX G (by walk_at"b1") ?_ ?_ ?_ ?_,L2.dfn KX G (by walk_at"b2") ?_ ?_ ?_ ?_,L2.dfn KX G (by walk_at"b2") ?_ ?_ ?_ ?_,L2.dfn KX G (by walk_at"b3") ?_ ?_ ?_ ?_,L2.dfn KX G (by walk_at"b1") ?_ ?_ ?_ ?_,L2.dfn KX G (by walk_at"b1") ?_ ?_ ?_ ?_,L2.dfn KX G (by walk_at"b1") ?_ ?_ ?_ ?_,L2.dfn KX G (by walk_at"b3") ?_ ?_ ?_ ?_,L2.dfn KX G (by walk_at"b2") ?_ ?_ ?_ ?_,L2.dfn KX G (by walk_at"b1") ?_ ?_ ?_ ?_,L2.dfn KX G (by walk_at"b1") ?_ ?_ ?_ ?_,L2.dfn KX G (by walk_at"b2") ?_ ?_ ?_ ?_,L2.dfn KX G (by walk_at"b2") ?_ ?_ ?_ ?_,L2.dfn KX G (by walk_at"b2") ?_ ?_ ?_ ?_,L2.dfn KX G (by walk_at"b1") ?_ ?_ ?_ ?_,L2.dfD KX G My.bd_count ?_ ?_ ?_ ?_ ?_,L2.dfn KX G (by walk_at"b2") ?_ ?_ ?_ ?_,L2.dfn KX G (by walk_at"b1") ?_ ?_ ?_ ?_,L2.dfn KX G (by walk_at"b1") ?_ ?_ ?_ ?_,L2.dfn KX G (by walk_at"b2") ?_ ?_ ?_ ?_,L2.dfn KX G (by walk_at"b1") ?_ ?_ ?_ ?_,L2.dfn KX G (by walk_at"b1") ?_ ?_ ?_ ?_,L2.dfn KX G (λ_ _ _ _ _ _ _ h=>My.ar4 h λ_ _ _ _=>rfl) ?_ ?_ ?_ ?_,L2.dfn KX G (by walk_at"b3") ?_ ?_ ?_ ?_,L2.dfn KX G (by walk_at"b3") ?_ ?_ ?_ ?_,L2.dfn KX G (by walk_at"b2") ?_ ?_ ?_ ?_,L2.dfn KX G (by walk_at"b2") ?_ ?_ ?_ ?_,L2.dfn KX G (by walk_at"b3") ?_ ?_ ?_ ?_,L2.dfn KX G (by walk_at"b1") ?_ ?_ ?_ ?_,L2.dfn KX G (by walk_at"b1") ?_ ?_ ?_ ?_,L2.dfn KX G (by walk_at"b2") ?_ ?_ ?_ ?_,L2.dfn KX G (by walk_at"b1") ?_ ?_ ?_ ?_,L2.dfn KX G (by walk_at"b1") ?_ ?_ ?_ ?_,L2.dfn KX G (by walk_at"b1") ?_ ?_ ?_ ?_,L2.dfn KX G (by walk_at"b3") ?_ ?_ ?_ ?_,L2.dfn KX G (by walk_at"b3") ?_ ?_ ?_ ?_,L2.dfn KX G (by walk_at"b1") ?_ ?_ ?_ ?_,L2.dfn KX G (by walk_at"b2") ?_ ?_ ?_ ?_,L2.dfn KX G (by walk_at"b1") ?_ ?_ ?_ ?_,L2.dfn KX G (λ_ _ _ _ _ _ _ h=>My.ar4 h λ_ _ _ _=>rfl) ?_ ?_ ?_ ?_,L2.dfn KX G (by walk_at"b3") ?_ ?_ ?_ ?_,L2.dfn KX G (by walk_at"b1") ?_ ?_ ?_ ?_,L2.exn KX G ?_,L2.exn KX G ?_,L2.exn KX G ?_,L2.exn KX G ?_,L2.exn KX G ?_,L2.exn KX G ?_,?_,L2.exn KX G ?_,L2.exn KX G ?_,L2.exn KX G ?_,L2.exn KX G ?_,?_,L2.exn KX G ?_,L2.exn KX G ?_,L2.exn KX G ?_,?_,HE KX G ?_,HE KX G ?_,HE KX G ?_,HE KX G ?_,HE KX G ?_,HE KX G ?_,HE KX G ?_,HE KX G ?_,HE KX G ?_,HE KX G ?_,HE KX G ?_,HE KX G ?_,HE KX G ?_,HE KX G ?_,HE KX G ?_,HE KX G ?_,HE KX G ?_,?_,?_,?_,?_,?_,?_,?_,?_,?_,?_,?_,?_,?_,?_,?_,?_,?_,?_,?_,?_,?_,?_,?_,?_,?_,?_,?_,?_,?_,?_,?_,?_,?_,?_,?_,?_,?_,?_,?_,?_,?_,?_,?_,?_,?_,?_,?_,L2.g_i KX G ?_⟩
  all_goals try first |k_is | (dsimp only[L2.exn];first |k_is |k_exc |kit_is |exact⟨by k_is,by k_is,by k_is,by k_is,by k_is,by k_is,by k_is⟩)
