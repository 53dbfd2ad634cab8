import PyProof.Rows.All
import Wide.All
import OpenK.AllK
import Wide.FinOn
import Lean
import PyProof.EqAt
import PyProof.EqKinds
import PyProof.NeKinds
import PyProof.TupleCall
import KE.KDictSum
import KE.KSortTup
import KE.KRevIter
import KE.KRevSl
import PySem.Challenge.RW_stakefield_k29_whole_faces_tell_counts
open PySem renaming wpAny_bind->Ew,wpAny_pure->Ez,Shared->EE,Value->EG,starEach->EO,Addr->ES,Program->E1,wpAny->E2,boot_len->Fj,model->Fm,World->Fz,wpAny_holding->FB,wpAny_call_entry->FP,Around->FQ,wpAny_newObj_type->FZ,wpAny_Call_Name_kw->F0,wpAny_seqItems->F2,sizeLine_eq->F3,argBest->Gc,wpAny_setState_of->Gf,codeAny_builtin->Gj,plainId_quiet->Gk,foldedSetIterable->Gm,wpAny_forIn_list->Gs,wpAny_specialOf->Gu,wpAny_updateSeq->Gv,wpAny_isInstance->GK,ofAClassStatement->GM,wpAny_callSpecial?_slot->GN,intKind_is->GO,compareOp->GQ,Heap->GS,mainGlobals->GT,cLine->GU,mem_of_lookup->GV,bootBuiltins->GY,wpAny_pyIter_list->GZ,FuncData->G9,wpAny_mono->He,wpAny_truthy_bool->Hf,builtinLookup_eq_fast->Hq,wpAny_tupleItemsOf->Hu,Stmt->HL,GenState->HP,swapsWith->HQ,wpAny_eqBool_tuple->HV,isSubtype_tuple_tuple->HW,wpAny_letGo->Ia,wpAny_tryCatch->Ib,backTo->Ie,wpAny_passesOwn->Ij,wpAny_ite_split->Il,eval->Io,hashByValue->Iu,setSearchFrom->Iw,pyNext->ID,wpAny_typeNameOfWhole_keyiter->IF,codeAny->IK,codeAny_mono->IL,typeLookup_type->IS,wpAny_richCompare_same_room->IU,attributeBase->IY,updateSeq->Jh,wpAny_askSetting->Jm,wpAny_field->Jp,assignEach->Jq,wpAny_rule->Jr,wpAny_typeOf->Jv,rawInt->Jx,behindInMarks->Jy,wpAny_attempt->JA,call_function_tree->JC,wpAny_nextOf_list_item->JI,sliceBounds->JR,searchCouldBeSeen->JS,wpAny_storeSet_of->JT,wpAny_of_eq->JU,wpAny_pyIter_slot->JV,binaryOp->JY,isSubtype_type->J1,wpAny_setField->J2,ZipApart->J3,seqItems?->J7,intKind->Ka,Scope->Kk,NameKind->Kl,sysModules->Ko,putSet_of->Kp,wpAny_setEntries_of->Kq,IsPair->Ks,wpAny_pyIter_tuple->KF,bindArgs->KH,wpAny_pyHash_tuple->KL,Keyword->KY,firstArgMember->K5,isSubtype_stop->K6,PassesOwn->Ld,wpAny_getItem_list_slice->Lg,wpAny_comprehension_free->Li,wpAny_dictEntries->Lr,swapsWithSole->Lx,swappedStores->Ly,wpAny_standAt->Lz,keywordEach->LB,wpAny_newList->LD,richCompare->LH,codeAny_compStart_list->LS,wpAny_execs_nil->L4,letOwnedTupleGo->L5,wpAny_eqIsQuiet_tuple->Ma,wpAny_isSame_ref_self->Mb,setAddHashed->Md,codeAny_of_tree->Me,weight_type_call_type->Mg,wpAny_nextOf_list_end->Mj,wpAny_isOneOf_keyiter->Mp,typeLookup->MC,typeIs_int->MD,compEnvC->ME,isInstance->MG,wpAny_newFunctionEnv->MK,codeAny_call_builtin->MN,codeAny_extend_loopS->MQ,pyIter->MV,wpAny_fieldsOf->MY,wpAny_newTuple->MZ,holding->M0,subscripted->M3,assignInOrder->Na,wpAny_pyIter_range->Nb,evalPart_none->Nd,comprehension->Ng,pickOrder->Nn,spliced->Nw,wpAny_assign_Name->Nx,callerA->NC,richCompare_gives->NJ,Result->NP,check_set_init_1->N0,backToKw->N_,IsRangeIter->Ob,cellsFrom->Oc,relabel->Of,theTreesLotGoes->Og,Fin->Oj,eqIsQuiet->Oq,wpAny_ret_mkInt->Os,wpAny_dictEpoch->Ot,wpAny_bindName->Ox,recursionLimit->OK,setAddHashedIn->OO,wpAny_runValue->OP,entryFor_alias->OQ,callType_codes->OU,builtinsNs->OX,wpAny_Name->OY,assign->OZ,wpAny_call->Pf,call_meets->Pg,closureFor->Ph,setsByText->Pi,bindName->Pj,Operator->Pk,BindsTo->Pl,getItem->Pm,compPost->Pq,setRelay->Pu,newTuple->Pw,Within->PH,DictEntry->PL,Moved->PX,CmpOp->Qa,bindL->Qb,bindC->Qc,storedH->Qh,WalksS->Qm,revObj->Qn,call->Qp
open List renaming length_map->Ex,getElem?_eq_getElem->Ey,mem_cons_of_mem->EB,mem_map->ED,mem_cons_self->EF,mem_cons->EH,getElem?_map->EI,mem_singleton->EJ,getElem?_eq_some_iff->ET,size_toArray->EU,mem_of_getElem?->EV,mem_append_right->EW,mem_append->EX,length_append->EY,mem_reverse->E3,getD_eq_getElem?_getD->E4,mem_range->E5,getElem?_append_left->E6,getElem?_append_right->E7,mem_append_left->E8,length_cons->E9,getElem?_set_ne->Fc,map_cons->Fh,map_append->Fi,map_map->Fn,getElem?_eq_none->Fo,pairwise_cons->Fq,range->Fw,pairwise_iff_getElem->FA,getLast?_cons_cons->FC,length_reverse->FD,mem_filter->FE,dropLast_concat_getLast->FG,length_pos_iff->FJ,mem_map_of_mem->FL,mem_iff_getElem?->FO,pairwise_map->FU,getLast?_eq_getElem?->FY,nodup_append->F1,length_pos_of_mem->F_,perm_ext_iff_of_nodup->Gb,take_length->Gd,nodup_cons->Gh,append_assoc->Gp,length_eq_zero_iff->Gq,head?_eq_getElem?->GB,getElem?_reverse->GG,take_succ->GJ,flatMap_cons->GP,map_congr_left->GW,flatMap_append->GX,getElem?_take_of_lt->G0,zip_cons_cons->Hb,map_reverse->Hd,ext_getElem?->Hj,append_nil->Hn,foldl_cons->Ho,length_filter_le->Ht,getLast?_eq_getLast->Hv,length_take->Hw,getElem?_zipWith_eq_some->Hx,length_dropLast->Hy,Perm->Hz,mem_of_getLast?->HA,getElem?_replicate->HB,count_append->HI,filterMap_cons->HJ,length_replicate->HR,getElem?_drop->HU,pairwise_reverse->HY,count_eq_zero->HZ,tail_cons->Ic,mem_of_mem_take->Ii,foldl_append->Im,getElem?_range->Iq,getElem_of_mem->Ir,filter_cons_of_pos->IB,filter_cons_of_neg->IC,getLast?_eq_some_getLast->IG,mem_flatMap->IH,getElem?_dropLast->IJ,forIn_cons->IM,length_set->IP,length_nil->IQ,getElem?_toArray->IR,getLast?_reverse->IW,length_range->I0,reverse_cons->Ja,getElem?_inj->Jb,reverse_reverse->Je,mem_take_iff_getElem->Ji,getElem_mem->Jk,perm_middle->Jl,cons_append->Jn,not_mem_nil->Jo,length_erase_of_mem->Jw,getElem?_cons_succ->Jz,head?_reverse->JD,range_succ->JE,take_of_length_le->JH,find?_cons_of_pos->JM,find?_cons_of_neg->JN,length_eq_one_iff->JO,getLast?_map->JX,forIn_nil->J4,getElem_inj->Kb,lookup_cons->Kc,all_eq_true->Kd,nodup_range->Ke,mem_erase_of_ne->Kj,all_cons->Km,sum_cons->Kn,reverse_append->Kv,nodup_iff_pairwise_ne->Kx,perm_append_singleton->Kz,exists_cons_of_ne_nil->KB,mem_filterMap->KG,zipWith->KO,filter_append->KU,nodup_nil->K8,getElem?_eq_none_iff->K_,head?_map->La,getElem?_set->Lh,map_dropLast->Ls,filterMap_cons_some->Lu,filterMap_cons_none->Lv,mem_flatten->LM,getLast_mem->LO,any_eq_true->LP,getElem?_set_self->LQ,pairwise_lt_range->LV,drop_eq_nil_of_le->L1,of_mem_zip->L6,length_singleton->L8,filterMap_append->L9,take_append_drop->Mc,Sublist->Mx,perm_append_comm->Mz,mem_iff_getElem->MR,dropLast_subset->MS,getLast?_concat->MU,take_zero->MX,flatten_append->M8,map_take->Nj,map_drop->Nk,map_filterMap->Nl,ne_nil_of_mem->Nu,count_pos_iff->Nv,take_sublist->NA,zip_nil_left->NK,mem_of_head?->NM,flatten_cons->NO,map_nil->NQ,toArray->NS,length_drop->NW,filter_cons->NY,ext_getElem->N1,nil_sublist->N9,zip->Oa,head?_cons->Ou,count_cons->Ov,replicate->OM,any_cons->Pn,all_map->PR,map_id'->P7,length->Qd,map_id->Qj
open PySem.Heap renaming get?_push_of_some->EA,get?_push_size->EM,lt_size->EN,get?_update_other->Fd,get?_update_self->Fp,size_push->Ga,SameBut->HC,get?_none_of_le->Ki,ExtBut->Qg
open PySem.W renaming Frag->EC,mg_none_of->FM,kia_one->Gr,fnOf->Hc,keepIn->H_,kitOne->Jg,cellsFrom_some->JF,codeIn->JZ,methodObj->Lc,kitx_list->Le,instObj->L3,lookIn->MW,kitx_tuple->Nc,kitx_dict->Nz,plainGet->NV,OpenLaw->Oe,findIn->OJ,kIn_of->ON,WalkO->Pp
open Bool renaming false_eq_true->EK,false_ne_true->Ff,not_true->FF,and_eq_true->GI,not_false->Hl,eq_iff_iff->Hm,true_and->Iy,and_false->II,beq_eq_decide_eq->J5,and_eq_true_iff->ML,and_true->Nh,or_eq_true->Oh,and_self->Pr,or_false->Px
open Nat renaming le_refl->EL,ne_of_lt->Fe,lt_or_eq_of_le->Fg,lt_irrefl->Fl,lt_of_lt_of_le->Fu,zero_le->FH,mod_eq_of_lt->FN,le_of_lt->F4,lt_succ_self->F8,le_trans->Gg,le_of_lt_succ->Gn,lt_or_ge->Gy,lt_succ_of_lt->GL,lt_trichotomy->Hg,lt_of_succ_lt->Hk,pow_succ->HD,lt_of_le_of_lt->HS,mod_lt->Ik,pow_le_pow_right->Jd,le_of_not_lt->Jj,ne_of_gt->Js,lt_trans->J6,succ_ne_self->Kg,mod_eq_sub_mod->KJ,eq_zero_or_pos->KM,div_div_eq_div_mul->LU,mod_add_mod->L_,mod_self->Mt,min_eq_left->MA,mul_le_mul_right->MM,add_le_add_left->M_,mod_mod_of_dvd->Ni,add_sub_cancel->Nr,add_mod_right->NN,le_max_right->NX,not_lt_of_gt->N4,succ_le_succ->N8,le_max_left->Od,not_lt_zero->Oi,mul_le_mul->OW,le_of_eq->PM,min_self->PU,add_zero->PV,sub_self->PZ,zero_mod->P3,add_mod->Qf,two_pos->Qi
open Array renaming length_toList->ER,getElem?_toList->Fy,getElem?_eq_getElem->F5,forIn_toList->Gi,getD_eq_getD_getElem?->GE,getD->Hh,getElem?_eq_some_iff->HM,mem_toList_iff->Ig,toList_inj->IE,getElem?_replicate->Ju,toList_map->Kf,size_map->K0,toList_filterMap->LW,getElem?_eq_none->LZ,mem_filter->NZ,toList_zip->N2,toList->PJ
open PySem.Value renaming ref->EZ,none->Fb,int->Fv,bool->FS,type->F7,str->F9,isInt_shape->JP,isInt->P9,float->P_
open Int renaming mul_nonneg->E_,mul_ediv_cancel_left->Fs,mul_eq_zero->Ft,mul_pos->Fx,dvd_trans->FR,dvd_mul_left->FW,eq_of_mul_eq_mul_left->FX,lt_or_le->F6,mul_nonpos_of_nonneg_of_nonpos->Gw,emod_lt_of_pos->GC,zero_mul->GH,lt_or_eq_of_le->GR,toNat_natCast->G5,pos_of_mul_pos_right->G7,emod_nonneg->G_,nonneg_of_mul_nonneg_right->Hs,mul_zero->HE,dvd_mul_right->HH,emod_add_mul_ediv->HX,natAbs_of_nonneg->Ih,gcd->IA,dvd_add->IV,mul_emod->IX,mul_ediv_cancel'->Jf,mul_one->JQ,gcd_dvd_right->JW,natAbs_mul->J0,natAbs_dvd_natAbs->J_,gcd_dvd_left->Kh,le_refl->Kt,one_mul->Ku,mul_lt_mul_of_pos_left->KC,dvd_refl->KS,mul_neg_of_neg_of_pos->Lb,dvd_sub->LJ,gcd_mul_left->LN,le_ediv_iff_mul_le->L0,mul_comm->Mq,dvd_coe_gcd->Mr,le_total->Ms,sub_zero->Mu,le_trans->Mw,dvd_neg->M6,mul_neg->M7,sub_mul->M9,zero_dvd->NT,le_of_lt->NU,dvd_antisymm->N6,ediv_le_self->N7,add_nonneg->OV,ofNat_dvd->Py,dvd_zero->P1,add_zero->P4,sub_emod->P6,add_emod->P8
open Option.some renaming inj->Fk
open Classical renaming byContradiction->FI
open PySem.F renaming called_set->FK,plain_extend_loop->Gx,plain_min_loop->Gz,plain_max_loop->GA,slot_zip_next->G6,plainAttrs_list->Ip,args_zip_next_1->JB,entry_zip_next->JJ,entry_min_loop->JK,entry_max_loop->JL,sub_list_frozenset->KA,entry_extend_loop->K7,args_list_init_2->Lo,slot_list_extend->Lp,type_list_extend->Lq,entry_type_call->LC,typeCall_list_1->LF,entry_list_init->LG,typeCall_set_1->LX,entry_set_init->LY,plain_set_new->Mf,slot_set_iter->Mh,slot_zip_iter->Ml,slot_tuple_lt->Mm,slot_tuple_gt->Mn,slot_dict_get->Mo,sub_list_set->MP,called_list->M5,plain_min->NF,entry_min->NG,plain_max->NH,entry_max->NI,kind_min->N3,kind_max->N5
open PySem.Obj renaming mapSeq->FT,data_mapFields->Ha,putSet->Hi,isFreed_of_fields->J9,cls_mapFields->Ln,mapFields->Np
open PySem.Around renaming under_plainId->FV,under_plain->Nm
open Prod renaming ext->GD,fst->LK,snd->Nt
open PySem.Heap.SameBut renaming update->GF,refl->Lk
open PySem.Calls renaming spliced_cons->G8,spliced_nil->HF,callWith_builtin->JG,Name_function_global->Kw,call_function_entry->K9,evalArgs_plain->MJ
open PyProof.Rows renaming boot_isinstance->Hr,boot_list->IT,listUpdate_at->I_,seqEpoch_at->Kr,assignInOrder_cons->KD,seqObj->KN,AllBare->Lw,subscriptTail->LA,subscriptTail_builtinR->LR,envOfC->L7,listItems_at->Mi,SortKind->MF,boot_tuple->MH,tuples'->M4,assignInOrder_nil->Ny,Subscript_->NB,Keyed->NL,list_sort_plain->Ol,get?_update_seq->Om,entry_list_sort->Oo,slot_list_sort->OR,args_list_sort->OS,sortedHeap_old->OT,boot_range->O1,IntsAre->Po,boot_min->Pz,boot_max->PF,bubble->PY,IsTup->Qo
open List.Pairwise renaming map->HG,nil->IZ,imp_of_mem->Lj,of_map->MT,sublist->P5
open Option renaming map_eq_some_iff->HK,getD_some->HN,isSome_iff_exists->Jt,toList_some->KI,getD_none->LL,map->ND,none->Qe
open ToString renaming toString->Iz
open List.Sublist renaming refl->Jc
open List.Perm renaming append_left->J8,refl->K3
open PySem.Value.type renaming inj->KZ
open MonadExcept renaming tryCatch->LI
open PySem.Heap.IsSliceOf renaming new->Nf
open Prod.mk renaming injEq->Nq
open List.Nodup renaming length_le_of_subset->NR,count->Qq
open List.cons renaming injEq->On
open PySem.EqNone renaming eq_none_none->Oy,eq_none_bool->Oz,eq_bool_none->OA,ne_none_none->OD,ne_none_bool->OE,ne_bool_none->OF,eq_none_int->O4,eq_none_str->O5,eq_int_none->O6,eq_str_none->O8,ne_none_int->O_,ne_none_str->Pa,ne_int_none->Pb,ne_str_none->Pd
open PySem.EqMixed renaming eq_bool_str->OB,eq_str_bool->OC,ne_bool_str->OG,ne_str_bool->OH,eq_int_str->O7,eq_str_int->O9,ne_int_str->Pc,ne_str_int->Pe
open PySem.Shared renaming TypeIs->Pv
open ForIn renaming forIn->PN
open PySem.W.Dflts renaming none->Qk,noKw->Ql
set_option hygiene false
set_option hygiene true
set_option hygiene false
local macro_rules|`(tactic|walk_at"sC")=>`(tactic|exact⟨rfl,rfl,rfl,by decide+kernel,rfl,by decide+kernel,by decide+kernel⟩)
local macro_rules|`(tactic|walk_at"b1")=>`(tactic|exact λ_ _ _ _ _ _ _ h=>My.ar1 h λ_=>rfl)
local macro_rules|`(tactic|walk_at"b2")=>`(tactic|exact λ_ _ _ _ _ _ _ h=>My.ar2 h λ_ _=>rfl)
set_option hygiene true
set_option maxHeartbeats 8000000
set_option Elab.async false
set_option linter.all false
set_option maxRecDepth 100000
namespace L2
open PySem PySem.Spec PyProof.Rows
abbrev Key:=Sum Int Str
def Bk:Key->EG->Bool
 | .inl k,v=>P9 k v
 | .inr x,v=>Value.isStrOf x v
def Ei(w:Fz):Key->Int
 | .inl k=>hashInt k
 | .inr x=>hashStr w x
theorem bH:∀{k:Key}{v:EG},Bk k v=true->(∃i t,k=Sum.inl i/\v=Fv i t)\/(∃x t,k=Sum.inr x/\v=F9 x t)
 | .inl i,v,h=>by
  obtain⟨t,e⟩:=JP (k:=i) (v:=v) h;exact .inl ⟨i,t,rfl,e⟩
 | .inr x,v,h=>by
  obtain⟨t,e⟩:=Value.isStrOf_shape (x:=x) (v:=v) h;exact .inr ⟨x,t,rfl,e⟩
theorem Ci(a b:Int):decide ((Sum.inl a:Key)=Sum.inl b)=(a==b):=by
 by_cases e:a=b
 ·subst e;simp
 ·have h:¬ (Sum.inl a:Key)=Sum.inl b:=λq=>e (Sum.inl.inj q)
  rw[decide_eq_false h];exact (beq_eq_false_iff_ne.mpr e).symm
theorem B3(a b:Str):decide ((Sum.inr a:Key)=Sum.inr b)=decide (a=b):=by
 by_cases e:a=b
 ·subst e;simp
 ·have h:¬ (Sum.inr a:Key)=Sum.inr b:=λq=>e (Sum.inr.inj q)
  rw[decide_eq_false h,decide_eq_false e]
theorem Cp(a:Int)(b:Str):decide ((Sum.inl a:Key)=Sum.inr b)=false:=decide_eq_false (λq=>nomatch q)
theorem BM(a:Str)(b:Int):decide ((Sum.inr a:Key)=Sum.inl b)=false:=decide_eq_false (λq=>nomatch q)
def sQ(prog:E1)(w:Fz):PySem.KeyKind prog w Key where
 is:=Bk
 hash:=Ei w
 inj:=λv a b ha hb=>by
  rcases bH ha with ⟨i,t,rfl,rfl⟩ |⟨x,t,rfl,rfl⟩
  ·rcases bH hb with ⟨j,u,rfl,e⟩ |⟨y,u,rfl,e⟩
   ·injection e with e1 _;rw[e1]
   ·exact nomatch e
  ·rcases bH hb with ⟨j,u,rfl,e⟩ |⟨y,u,rfl,e⟩
   ·exact nomatch e
   ·injection e with e1 _;rw[e1]
 byValue:=λk v h=>by
  rcases bH h with ⟨i,t,rfl,rfl⟩ |⟨x,t,rfl,rfl⟩ <;>rfl
 pyHash:=λhv h=>by
  rcases bH hv with ⟨i,t,rfl,rfl⟩ |⟨x,t,rfl,rfl⟩
  ·exact wpAny_pyHash_int h
  ·exact wpAny_pyHash_str h
 eqBool:=λhu hv h=>by
  rcases bH hu with ⟨i,t,rfl,rfl⟩ |⟨x,t,rfl,rfl⟩
  ·rcases bH hv with ⟨j,u,rfl,rfl⟩ |⟨y,u,rfl,rfl⟩
   ·rw[Ci]at h;exact wpAny_eqBool_int h
   ·rw[Cp]at h;exact SeqAt.EqAt.int_str i t y u _ _ _ _ h
  ·rcases bH hv with ⟨j,u,rfl,rfl⟩ |⟨y,u,rfl,rfl⟩
   ·rw[BM]at h;exact SeqAt.EqAt.str_int x t j u _ _ _ _ h
   ·rw[B3]at h;exact wpAny_eqBool_str h
 «strs»:=λk x t v h=>by
  rcases bH h with ⟨i,u,rfl,e⟩ |⟨y,u,rfl,e⟩
  ·exact nomatch e
  ·injection e with e1 _
   subst e1;cases v <;>rfl
inductive V where
 |non |bl (b:Bool) |int (i:Int) |str (x:Str) |byt (b:Array UInt8) |flt (b:UInt64) |ref (a:ES) |ty (n:String)
 deriving DecidableEq
def aX:V->EG->Prop
 | .non,u=>u=Fb
 | .bl b,u=>u=FS b
 | .int i,u=>∃t,u=Fv i t
 | .str x,u=>∃t,u=F9 x t
 | .byt b,u=>∃t,u=Value.bytes b t
 | .flt b,u=>∃t,u=P_ b t
 | .ref a,u=>u=EZ a
 | .ty n,u=>u=F7 n
abbrev aO:List V->List EG->Prop:=Paired aX
theorem aO.length{xs:List V}{us:List EG}(r:aO xs us):xs.length=us.length:=Paired.length r
theorem aO.get:∀{xs:List V}{us:List EG}{i:Nat}{x:V},aO xs us->xs[i]?=some x->∃u,us[i]?=some u/\aX x u
 |_,_,_,_,.nil,e=>by simp at e
 |_,_,0,_,.cons r _,e=>by simp at e;subst e;exact⟨_,rfl,r⟩
 |_,_,i+1,x,.cons _ t,e=>by
  obtain⟨u,h1,h2⟩:=aO.get (i:=i) (x:=x) t (by simpa using e)
  exact⟨u,by simpa using h1,h2⟩
theorem aO.append:∀{xs ys:List V}{us ws:List EG},aO xs us->aO ys ws->aO (xs++ys) (us++ws)
 |_,_,_,_,.nil,s=>s
 |_,_,_,_,.cons r t,s=>.cons r (aO.append t s)
theorem aO.take:∀{xs:List V}{us:List EG} (n:Nat),aO xs us->aO (xs.take n) (us.take n)
 |_,_,0,_=>.nil
 |_,_,_+1,.nil=>.nil
 |_,_,n+1,.cons r t=>.cons r (aO.take n t)
theorem aO.drop:∀{xs:List V}{us:List EG} (n:Nat),aO xs us->aO (xs.drop n) (us.drop n)
 |_,_,0,r=>r
 |_,_,_+1,.nil=>.nil
 |_,_,n+1,.cons _ t=>aO.drop n t
def CD:Option V->Option EG->Prop
 |some v,some u=>aX v u
 |none,none=>True
 |_,_=>False
def KV{κ:Type}:List (κ×V)->List (κ×EG)->Prop:=Paired λ(p:κ×V) (q:κ×EG)=>p.1=q.1/\aX p.2 q.2
def kV:Key->V
 | .inl i=>.int i
 | .inr x=>.str x
inductive HO where
 /-- a list -/
 |lst (xs:List V)
 /-- a tuple (never changes) -/
 |tup (xs:List V)
 /-- a dict whose keys are ints and texts;one whose keys are tuples of ints and texts (the empty one is both) -/
 |dK (Qt:List (Key×V)) |dT (Qt:List (List Key×V))
 /-- a set of ints:Qs members,Qs size -/
 |set (S:Int->Bool) (n:Nat)
 /-- an instance of the class at C,Qs dict at dx,Qs attributes -/
 |ins (C dx:ES) (fs:List (Str×V))
 /-- the dict of the instance at x -/
 |own (x:ES)
 /-- the dict of an exception -/
 |xd (fs:List (Str×V))
 /-- a bound method,f of x -/
 |met (f x:ES)
 /-- a range object lo,lo+1,.. below hi -/
 |rng (lo hi:Int)
 /-- a thing that is known to the object (the script;a dict while a loop walks it):read,never written while it is so -/
 |frz (o:Obj) (u:HO)
 /-- a code object's table -/
 |tbl (ps:Array EG)
 /-- any other thing,by what is true of Qs one object (a def of one's own:SetO a S n:=HO.ext λh=>..) -/
 |ext (φ:GS->Prop)
abbrev Hp:=ES->Option HO
def upd(H:Hp)(a:ES)(o:HO):Hp:=λb=>if b=a then some o else H b
theorem aJ{H:Hp}{a:ES}{o:HO}:upd H a o a=some o:=by unfold upd;rw[if_pos rfl]
theorem a_{H:Hp}{a b:ES}{o:HO}(h:b≠a):upd H a o b=H b:=by unfold upd;rw[if_neg h]
theorem cM{H:Hp}{a b:ES}{o:HO}(h:H a=some o)(h':H b=none):a≠b:=by
 intro e;subst e;rw[h]at h';cases h'
section
variable (P:E1) (w:Fz)
def bD(H:Hp)(h:GS)(a:ES):HO->Prop
 | .lst xs=>xs.length≤sizeLine∧∃(Qs:List EG) (n:Nat),aO xs Qs∧h.get? a=some {cls:=.type "list",data:=.seq Qs.toArray n }
 | .tup xs=>xs.length<=sizeLine/\∃Qs:List EG,aO xs Qs/\Qo h a Qs.toArray
 | .dK Qt=>Qt.length<=sizeLine/\(a==Ko)=false/\∃vs,KV Qt vs/\h.DictOf (sQ P w) a vs
 | .dT Qt=>Qt.length<=sizeLine/\(a==Ko)=false/\∃xs:List (List Key×ES×EG),
   Paired (λ(p:List Key×V) (q:List Key×ES×EG)=>p.1=q.1/\H q.2.1=some (.tup (p.1.map kV))/\aX p.2 q.2.2) Qt xs/\
   ∃o es ep,h.get? a=some o/\o.ExactDict/\o.data=.dict es ep/\es.toList=xs.map (entryOfKey (tupleKind (sQ P w)))/\(xs.map (·.1)).Nodup
 | .set S n=>h.SetOf (Ka P w) a S n
 | .ins C dx fs=>H dx=some (.own a)/\fs.length<=1000/\dx≠a/\h.get? a=some (L3 C dx)/\
   ∃mA,h.Ns1 dx mA/\(∀f,CD (fs.lookup f) (mA f))/\PH mA (fs.map (·.1))
 | .own _=>∃o,h.get? a=some o
 | .xd fs=>∃mA,h.Ns1 a mA/\∀f,CD (fs.lookup f) (mA f)
 | .rng lo hi=>∃t u v,h.get? a=some {cls:=.type "range",data:=.fields #[.int lo t,.int hi u,.int 1 v] }
 | .frz o u=>h.get? a=some o/\bD H h a u
 | .tbl ps=>h.get? a=some {cls:=.none,data:=.fields ps }
 | .met f x=>h.get? a=some (Lc (.ref f) (.ref x))
 | .ext φ=>φ h/\(∃o,h.get? a=some o)/\∀h1 h2:GS,φ h1->(∀o,h1.get? a=some o->h2.get? a=some o)->φ h2
def HOk(H:Hp)(h:GS):Prop:=∀a o,H a=some o->bD P w H h a o
end
variable {H:Hp}{H':Hp}{h':GS}
section
variable {P:E1}{w:Fz}{h:GS}{a:ES}{o:HO}
theorem bD.lt(x:bD P w H h a o):a<h.objs.size:=by
 cases o with
 |lst xs=>obtain⟨_,_,_,_,e⟩:=x;exact EN e
 |tup xs=>obtain⟨_,_,_,p⟩:=x;exact p.lt
 |dK Qt=>obtain⟨_,_,_,_,o,_,_,e,_⟩:=x;exact EN e
 |dT Qt=>obtain⟨_,_,_,_,o,_,_,e,_⟩:=x;exact EN e
 |set S n=>obtain⟨o,_,_,_,e,_⟩:=x;exact EN e
 |ins C dx fs=>obtain⟨_,_,_,e,_⟩:=x;exact EN e
 |own y=>obtain⟨_,e⟩:=x;exact EN e
 |xd fs=>obtain⟨_,⟨_,_,_,e,_⟩,_⟩:=x;exact EN e
 |rng lo hi=>obtain⟨_,_,_,e⟩:=x;exact EN e
 |frz ob u=>obtain⟨e,_⟩:=x;exact EN e
 |tbl ps=>exact EN (show h.get? a=some _ from x)
 |met f y=>exact EN (show h.get? a=some _ from x)
 |ext φ=>obtain⟨_,⟨_,e⟩,_⟩:=x;exact EN e
theorem Paired.mapP{α β:Type}{F G:α->β->Prop}:∀{l₁:List α}{l₂:List β},Paired F l₁ l₂->(∀a b,F a b->G a b)->Paired G l₁ l₂
 |_,_,.nil,_=>.nil
 |_,_,.cons r t,f=>.cons (f _ _ r) (Paired.mapP t f)
theorem bD.stay(x:bD P w H h a o)(k:∀b u,(b=a\/H b=some (.own a))->h.get? b=some u->h'.get? b=some u)
  (ho:∀b,H b=some (.own a)->H' b=some (.own a)) (ht:∀b xs,H b=some (.tup xs)->H' b=some (.tup xs)):bD P w H' h' a o:=by
 induction o with
 |lst xs=>obtain⟨z,Qs,n,r,e⟩:=x;exact⟨z,Qs,n,r,k _ _ (.inl rfl) e⟩
 |tup xs=>obtain⟨z,Qs,r,ob,e,c⟩:=x;exact⟨z,Qs,r,ob,k _ _ (.inl rfl) e,c⟩
 |dK Qt=>obtain⟨z,y,vs,r,ob,es,ep,e,c⟩:=x;exact⟨z,y,vs,r,ob,es,ep,k _ _ (.inl rfl) e,c⟩
 |dT Qt=>
  obtain⟨z,y,xs,r,ob,es,ep,e,c⟩:=x;exact⟨z,y,xs,Paired.mapP r λp q z=>⟨z.1,ht _ _ z.2.1,z.2.2⟩,ob,es,ep,k _ _ (.inl rfl) e,c⟩
 |set S n=>obtain⟨ob,es,ep,t,e,c⟩:=x;exact⟨ob,es,ep,t,k _ _ (.inl rfl) e,c⟩
 |ins C dx fs=>
  obtain⟨d,z,ne,e,mA,⟨od,es,ep,e2,c⟩,r⟩:=x;exact⟨ho _ d,z,ne,k _ _ (.inl rfl) e,mA,⟨od,es,ep,k _ _ (.inr d) e2,c⟩,r⟩
 |own y=>obtain⟨ob,e⟩:=x;exact⟨ob,k _ _ (.inl rfl) e⟩
 |xd fs=>obtain⟨mA,⟨od,es,ep,e,c⟩,r⟩:=x;exact⟨mA,⟨od,es,ep,k _ _ (.inl rfl) e,c⟩,r⟩
 |rng lo hi=>obtain⟨t,u,v,e⟩:=x;exact⟨t,u,v,k _ _ (.inl rfl) e⟩
 |frz ob u ih=>obtain⟨e,q⟩:=x;exact⟨k _ _ (.inl rfl) e,ih q⟩
 |tbl ps=>
  have e:h.get? a=some {cls:=.none,data:=.fields ps }:=x;show h'.get? a=some {cls:=.none,data:=.fields ps };exact k a _ (.inl rfl) e
 |met f y=>
  have e:h.get? a=some (Lc (.ref f) (.ref y)):=x;show h'.get? a=some (Lc (.ref f) (.ref y));exact k a _ (.inl rfl) e
 |ext φ=>obtain⟨p,⟨o,e⟩,st⟩:=x;exact⟨st _ _ p λo q=>k _ _ (.inl rfl) q,⟨o,k _ _ (.inl rfl) e⟩,st⟩
theorem HOk.lt(x:HOk P w H h)(e:H a=some o):a<h.objs.size:=(x a o e).lt
theorem HOk.fresh(x:HOk P w H h)(e:h.objs.size<=a):H a=none:=by
 cases q:H a with
 |none=>rfl
 |some u=>exact absurd (Fu (x.lt q) e) (Fl _)
theorem HOk.kept(x:HOk P w H h)(k:∀b u,h.get? b=some u->h'.get? b=some u):HOk P w H h':=λa o e=>
 (x a o e).stay (λb u _ q=>k b u q) (λ_ q=>q) λ_ _ q=>q
theorem HOk.laid(x:HOk P w H h)(k:∀b u,h.get? b=some u->h'.get? b=some u)(hp:h.objs.size<=a)(new:bD P w (upd H a o) h' a o):HOk P w (upd H a o) h':=λb u e=>by
 have hn:=x.fresh hp;by_cases hb:b=a
 ·subst hb;rw[aJ]at e;cases e;exact new
 ·rw[a_ hb]at e;exact (x b u e).stay (λc v _ q=>k c v q) (λc q=>by rw[a_ (cM q hn)];exact q) λc xs q=>by rw[a_ (cM q hn)];exact q
end
def Rd(H:Hp)(a:ES)(u:HO):Prop:=H a=some u\/∃o,H a=some (.frz o u)
theorem Rd.ok{P:E1}{w:Fz}{H:Hp}{h:GS}{a:ES}{u:HO}(r:Rd H a u)(x:HOk P w H h):bD P w H h a u:=by
 rcases r with r |⟨o,r⟩
 ·exact x a u r
 ·obtain⟨_,q⟩:=x a _ r;exact q
def Mut:Option HO->Prop
 |some (.lst _)=>True
 |some (.dK _)=>True
 |some (.dT _)=>True
 |some (.set _ _)=>True
 |some (.ins _ _ _)=>True
 |some (.ext _)=>True
 |_=>False
section
variable {P:E1}{w:Fz}{h:GS}{x e:ES}{o':HO}
theorem HOk.write(ok:HOk P w H h)(mu:Mut (H x))(he:e=x\/H e=some (.own x))(k:∀b u,b≠e->h.get? b=some u->h'.get? b=some u)(heo:∃u,h'.get? e=some u)
  (new:bD P w (upd H x o') h' x o'):HOk P w (upd H x o') h':=λb u q=>by
 have nown:∀c y,H c=some (.own y)->c≠x:=λc y r z=>by subst z;rw[r]at mu;exact mu
 have ntup:∀c xs,H c=some (.tup xs)->c≠x:=λc xs r z=>by subst z;rw[r]at mu;exact mu
 by_cases hb:b=x
 ·subst hb;rw[aJ]at q;cases q;exact new
 ·rw[a_ hb]at q;by_cases hbe:b=e
  ·have q':H b=some (.own x):=by
    rcases he with z |z
    ·exact absurd (hbe.trans z) hb
    ·rw[hbe];exact z
   rw[q]at q';cases q';obtain⟨v,hv⟩:=heo;exact⟨v,by rw[hbe];exact hv⟩
  ·refine (ok b u q).stay (λc v hc r=>k c v ?_ r) (λc r=>by rw[a_ (nown c b r)];exact r) λc xs r=>by rw[a_ (ntup c xs r)];exact r
   rcases hc with rfl |hc
   ·exact hbe
   ·rintro rfl;rcases he with z |z
    ·exact nown c b hc z
    ·rw[hc]at z;cases z;exact hb rfl
end
structure Un(fs ex:List ES)(H H':Hp)(h h':GS):Prop where
 keep:∀b o,h.get? b=some o->H b=none->b ∉ fs->b ∉ ex->h'.get? b=some o
 slot:∀b o,h.get? b=some o->H b=none->b∈fs->b ∉ ex->∃sl,h'.get? b=some {o with slots:=sl }
 free:∀b o,h.get? b=some o->H b=none->b ∉ ex->H' b=none
 there:∀b o,h.get? b=some o->b ∉ ex->∃o',h'.get? b=some o'
 tups:∀b xs,H b=some (.tup xs)->H' b=some (.tup xs)
 frzs:∀b o u,H b=some (.frz o u)->H' b=some (.frz o u)
 tbls:∀b ps,H b=some (.tbl ps)->∃more,H' b=some (.tbl (ps++more))
section
variable {fs fs' ex ex':List ES}{H1 H2:Hp}{h h1 h2:GS}{a x e:ES}{o:HO}
theorem Un.any(u:Un fs ex H H1 h h1){b:ES}{ob:Obj}(q:h.get? b=some ob)(n:H b=none)(hx:b ∉ ex):∃sl,h1.get? b=some {ob with slots:=sl }:=by
 by_cases hb:b∈fs
 ·exact u.slot b ob q n hb hx
 ·exact⟨ob.slots,u.keep b ob q n hb hx⟩
theorem Un.kept(k:∀b u,h.get? b=some u->h'.get? b=some u):Un fs ex H H h h':=
 ⟨λb ob q _ _ _=>k b ob q,λb ob q _ _ _=>⟨ob.slots,k b ob q⟩,λ_ _ _ n _=>n,λb ob q _=>⟨ob,k b ob q⟩,λ_ _ q=>q,λ_ _ _ q=>q,λ_ ps q=>⟨#[],by rw[q];simp⟩⟩
theorem Un.refl:Un fs ex H H h h:=Un.kept λ_ _ q=>q
theorem Un.laid(k:∀b u,h.get? b=some u->h'.get? b=some u)(hp:h.objs.size<=a)(hn:H a=none):Un fs ex H (upd H a o) h h' where
 keep:=λb u q _ _ _=>k b u q
 slot:=λb u q _ _ _=>⟨u.slots,k b u q⟩
 free:=λb u q n _=>by rw[a_ (Fe (Fu (EN q) hp))];exact n
 there:=λb u q _=>⟨u,k b u q⟩
 tups:=λb xs q=>by rw[a_ (cM q hn)];exact q
 frzs:=λb u xs q=>by rw[a_ (cM q hn)];exact q
 tbls:=λb ps q=>⟨#[],by rw[a_ (cM q hn),q];simp⟩
theorem Un.write(mu:Mut (H x))(he:e=x\/H e=some (.own x))(k:∀b u,b≠e->h.get? b=some u->h'.get? b=some u)(heo:∃u,h'.get? e=some u):Un fs ex H (upd H x o) h h':=by
 have hx:∀b,H b=none->b≠x:=λb n z=>by subst z;rw[n]at mu;exact mu
 have hb:∀b,H b=none->b≠e:=λb n z=>by
  subst z;rcases he with r |r
  ·exact hx b n r
  ·rw[n]at r;cases r
 have hm:∀b u,H b=some u->¬ Mut (some u)->b≠x:=λb u q nm z=>by subst z;rw[q]at mu;exact nm mu
 refine⟨λb u q n _ _=>k b u (hb b n) q,λb u q n _ _=>⟨u.slots,k b u (hb b n) q⟩,λb u q n _=>by rw[a_ (hx b n)];exact n,λb u q _=>?_,
  λb xs q=>by rw[a_ (hm b _ q λz=>z)];exact q,λb u xs q=>by rw[a_ (hm b _ q λz=>z)];exact q,λb ps q=>⟨#[],by rw[a_ (hm b _ q λz=>z),q];simp⟩⟩
 by_cases hbe:b=e
 ·subst hbe;exact heo
 ·exact⟨u,k b u hbe q⟩
end
def trk(h:GS)(H:Hp):List ES:=(Fw h.objs.size).filter λa=>(H a).isSome
def nC(h:GS)(H:Hp):GS:=PySem.W.hideAll h (trk h H)
theorem vo(h:GS)(H:Hp):(nC h H).objs.size=h.objs.size:=PySem.W.hideAll_size _ _
theorem wU{h:GS}{H:Hp}{b:ES}{o:Obj}(e:h.get? b=some o)(n:H b=none):(nC h H).get? b=some o:=
 PySem.W.hideAll_get _ e λhm=>by
  have q:(H b).isSome=true:=(FE.mp hm).2;rw[n]at q;simp at q
theorem zF{h:GS}{H:Hp}{b:ES}{o:Obj}(e:(nC h H).get? b=some o):h.get? b=some o/\H b=none:=by
 have e':h.get? b=some o:=PySem.W.of_hideAll (trk h H) e;refine⟨e',?_⟩;cases q:H b with
 |none=>rfl
 |some x=>
  have hm:b∈trk h H:=FE.mpr ⟨E5.mpr (EN e'),by simp[q]⟩
  have z:(nC h H).get? b=none:=PySem.W.hideAll_none (trk h H) hm;rw[z]at e;cases e
def zM(g h:GS)(L:ES):List (ES×Obj):=(Fw h.objs.size).filterMap λa=>if a=L\/(g.get? a).isSome=true then none else (h.get? a).map λo=>(a,o)
def rest(g h:GS)(L d:ES):List (ES×Obj):=(zM g h L).filter λp=>decide (p.1≠d)
structure Mod(K:EC)(mg:Str->Option EG)(base:GS):Prop where
 kin:K.In base
 glob:base.Ns GT mg
 blt:∃mb,base.Ns OX mb∧∀x:Str,x≠"__name__"→mb x=GY x
 nolimit:base.NoLimit
structure Cx where
 prog:E1
 w:Fz
 K:EC
 mg:Str->Option EG
 base:GS
 A:FQ
 N:List Str
 s₀:EE
 H₀:Hp
 env:Env
 outer:List Env
 stack:List Env
 ex:List ES
 fn:Str->Bool
 calm:Bool
 pn:List (ES×Obj)
 xe:EG->EE->Prop
def frs(l:List Env):List ES:=l.filterMap (·.frame)
abbrev Cx.fs(X:Cx):List ES:=frs X.outer
def Vis(sc:Kk)(x:Str):Prop:=sc.names.lookup x=some .local\/sc.names.lookup x=some .cell\/sc.names.lookup x=some .free
def Loc(sc:Kk)(x:Str):Prop:=sc.names.lookup x=some .local\/sc.names.lookup x=some .cell
def Et(env:Env)(h:GS)(m:Str->Option EG)(x:Str)(u:EG):Prop:=
 (env.kindOf x=some .local/\m x=some u)\/((env.kindOf x=some .cell\/env.kindOf x=some .free)/\∃c,env.cells.lookup x=some c/\h.IsCell c (some u))
structure Cx.Ok(X:Cx):Prop where
 mod:Mod X.K X.mg X.base
 kind:X.env.scope.kind=.function
 glob:X.env.globals=GT
 blt:X.env.builtins=OX
 above:X.s₀.heap.objs.size<=X.env.locals
 inj:∀x y c,X.env.cells.lookup x=some c->X.env.cells.lookup y=some c->x=y
 has:∀x,(X.env.kindOf x=some .cell\/X.env.kindOf x=some .free)->∃c,X.env.cells.lookup x=some c
 cab:∀x c,X.fn x=true->X.env.cells.lookup x=some c->X.s₀.heap.objs.size<=c
 hd:X.calm=true->X.A.handled=none
 frames:X.A.frames=some X.stack
 stk:X.stack=X.outer\/(X.stack=X.env::X.outer/\X.env.frame=some X.env.locals)
 exf:∀b∈X.ex,b≠X.env.locals/\∀x c,X.env.cells.lookup x=some c->c≠b
 bs:∀b o,X.base.get? b=some o->X.s₀.heap.get? b=some o/\X.H₀ b=none
 bsz:X.base.objs.size<=X.s₀.heap.objs.size
 noex:∀b o,X.base.get? b=some o->b ∉ X.ex
 exfs:∀b∈X.ex,b ∉ X.fs
 funs:X.s₀.heap.FunFrames X.base X.outer
 frf:∀b∈X.fs,X.H₀ b=none
structure Inv(X:Cx)(pins:List (ES×Obj))(σ:List (Option V))(H:Hp)(s:EE):Prop where
 ok:X.Ok
 os:s.os=X.s₀.os
 bare:Lw s.gens
 base:Un X.fs X.ex X.H₀ H X.s₀.heap s.heap
 loc:∃m,s.heap.Ns X.env.locals m/\∀(i:Nat) (x:Str) (v:V),X.N[i]?=some x->σ[i]?=some (some v)->Vis X.env.scope x->∃u,aX v u/\Et X.env s.heap m x u
 cell:∀x c,X.env.cells.lookup x=some c->∃v,s.heap.IsCell c v
 free:H X.env.locals=none
 freeC:∀x c,X.env.cells.lookup x=some c->H c=none
 pin:∀p∈X.pn++pins,s.heap.get? p.1=some p.2/\H p.1=none/\p.1≠X.env.locals/\p.1 ∉ X.fs/\∀v,p.2.data≠.cell v
 hok:HOk X.prog X.w H s.heap
 len:σ.length=X.N.length
variable {pins:List (ES×Obj)}{s:EE}
section
variable {X:Cx}{σ:List (Option V)}
theorem Cx.Ok.nofr(ok:X.Ok){b:ES}{o:Obj}(e:X.base.get? b=some o):b ∉ X.fs:=λhb=>by
 have:=(ok.funs.mem hb).1;rw[e]at this;cases this
theorem Inv.bs(I:Inv X pins σ H s):∀b o,X.base.get? b=some o->s.heap.get? b=some o/\H b=none:=λb o e=>
 ⟨I.base.keep b o (I.ok.bs b o e).1 (I.ok.bs b o e).2 (I.ok.nofr e) (I.ok.noex b o e),I.base.free b o (I.ok.bs b o e).1 (I.ok.bs b o e).2 (I.ok.noex b o e)⟩
theorem Inv.bk(I:Inv X pins σ H s):∀b o,X.base.get? b=some o->s.heap.get? b=some o:=λb o e=>(I.bs b o e).1
theorem Inv.mod(I:Inv X pins σ H s):Mod X.K X.mg X.base:=I.ok.mod
theorem Inv.kIn(I:Inv X pins σ H s):X.K.In s.heap:=I.ok.mod.kin.keeps I.bk
theorem Inv.lt(I:Inv X pins σ H s):X.env.locals<s.heap.objs.size:=let ⟨_,hn,_⟩:=I.loc;hn.lt
theorem Inv.sz(I:Inv X pins σ H s):X.s₀.heap.objs.size<=s.heap.objs.size:=Gg I.ok.above (F4 I.lt)
theorem Inv.nofs(I:Inv X pins σ H s){a:ES}(h:s.heap.objs.size<=a):a ∉ X.fs:=λhb=>by
 obtain⟨_,o,ho,_⟩:=I.ok.funs.mem hb;exact absurd (Fu (EN ho) (Gg I.sz h)) (Fl _)
theorem Inv.cne(I:Inv X pins σ H s):∀x c,X.env.cells.lookup x=some c->c≠X.env.locals:=λx c e z=>by
 obtain⟨v,o,ho,hd⟩:=I.cell x c e;obtain⟨m,⟨o',es,ep,RG,RT,_⟩,_⟩:=I.loc;rw[z,RG]at ho;cases ho;rw[RT]at hd;cases hd
theorem Inv.funs(I:Inv X pins σ H s):s.heap.FunFrames X.base X.outer:=by
 have all:∀(l:List Env),(∀b∈frs l,b∈X.fs)->X.s₀.heap.FunFrames X.base l->s.heap.FunFrames X.base l:=by
  intro l
  induction l with
  |nil=>intro _ _;trivial
  |cons env r ih=>
   intro hs hl;obtain⟨hk,⟨L,o,hf,hn,ho,hd⟩,hr⟩:=hl;have hL:L∈X.fs:=hs L (by unfold frs;rw[HJ,hf];exact EF)
   obtain⟨sl,e⟩:=I.base.slot L o ho (I.ok.frf L hL) hL λz=>I.ok.exfs L z hL
   exact⟨hk,⟨L,_,hf,hn,e,hd⟩,ih (λb hb=>hs b (by unfold frs;rw[HJ,hf];exact EB _ hb)) hr⟩
 exact all X.outer (λ_ hb=>hb) I.ok.funs
theorem Inv.stack(I:Inv X pins σ H s):s.heap.FunFrames X.base X.stack:=by
 rcases I.ok.stk with e |⟨e,hf⟩
 ·rw[e];exact I.funs
 ·rw[e];obtain⟨m,hn,_⟩:=I.loc;refine .cons (by rw[I.ok.kind];decide) hf hn ?_ I.funs
  exact Ki (Gg I.ok.bsz I.ok.above)
theorem Inv.stkSub(I:Inv X pins σ H s):∀b∈frs X.stack,b∈X.env.locals::X.fs:=λb hb=>by
 rcases I.ok.stk with e |⟨e,hf⟩
 ·rw[e]at hb;exact EB _ hb
 ·rw[e]at hb;unfold frs at hb;rw[HJ,hf]at hb;exact hb
theorem Inv.stkFree(I:Inv X pins σ H s):∀b∈frs X.stack,H b=none:=λb hb=>by
 rcases EH.mp (I.stkSub b hb) with e |hb
 ·rw[e];exact I.free
 ·obtain⟨_,o,ho,_⟩:=I.ok.funs.mem hb;exact I.base.free b o ho (I.ok.frf b hb) λz=>I.ok.exfs b z hb
theorem Inv.step{g':Array HP}{t':Nat}{d':Drawn}{ch:List ES}(I:Inv X pins σ H s)
  (Tz:∀b∈ch,(b∈X.ex\/X.s₀.heap.objs.size<=b)/\b≠X.env.locals/\(∀x c,X.env.cells.lookup x=some c->c≠b)/\∀p∈X.pn++pins,p.1≠b)
  (keep:∀b o,b≠X.env.locals->b ∉ X.fs->b ∉ ch->s.heap.get? b=some o->H b=none->h'.get? b=some o)
  (slot:∀b o,b≠X.env.locals->b∈X.fs->b ∉ ch->s.heap.get? b=some o->H b=none->∃sl,h'.get? b=some {o with slots:=sl }) (free:∀b o,b ∉ ch->s.heap.get? b=some o->H b=none->H' b=none)
  (there:∀b o,b ∉ ch->s.heap.get? b=some o->∃o',h'.get? b=some o')
  (tups:∀b xs,H b=some (.tup xs)->H' b=some (.tup xs)) (frzs:∀b o u,H b=some (.frz o u)->H' b=some (.frz o u)) (tbls:∀b ps,H b=some (.tbl ps)->∃more,H' b=some (.tbl (ps++more)))
  (ns:∀m,s.heap.Ns X.env.locals m->h'.Ns X.env.locals m) (hok:HOk X.prog X.w H' h') (hg:Lw g'):
  Inv X pins σ H' {s with heap:=h',gens:=g',drawn:=d',toks:=t' }:=by
 have neL:∀b o,X.s₀.heap.get? b=some o->b≠X.env.locals:=λb o e=>Fe (Fu (EN e) I.ok.above)
 have neC:∀b o,X.s₀.heap.get? b=some o->b ∉ X.ex->b ∉ ch:=λb o e hx hb=>by
  rcases (Tz b hb).1 with z |z
  ·exact hx z
  ·exact absurd (Fu (EN e) z) (Fl _)
 have Ub:∀x c,X.env.cells.lookup x=some c->∀v,s.heap.IsCell c v->h'.IsCell c v:=λx c e v ⟨o,ho,hd⟩=>by
  have nch:c ∉ ch:=λz=>(Tz c z).2.2.1 x c e rfl
  by_cases hc:c∈X.fs
  ·obtain⟨sl,q⟩:=slot c o (I.cne x c e) hc nch ho (I.freeC x c e);exact⟨_,q,hd⟩
  ·exact⟨o,keep c o (I.cne x c e) hc nch ho (I.freeC x c e),hd⟩
 refine⟨I.ok,I.os,hg,⟨λb o e n hb hx=>?_,λb o e n hb hx=>?_,λb o e n hx=>?_,λb o e hx=>?_,λb xs e=>tups b xs (I.base.tups b xs e),λb o xs e=>frzs b o xs (I.base.frzs b o xs e),λb ps e=>?_⟩,?_,λx c e=>?_,?_,λx c e=>?_,λp hp=>?_,hok,I.len⟩
 ·exact keep b o (neL b o e) hb (neC b o e hx) (I.base.keep b o e n hb hx) (I.base.free b o e n hx)
 ·obtain⟨sl,e1⟩:=I.base.slot b o e n hb hx;obtain⟨sl',e2⟩:=slot b _ (neL b o e) hb (neC b o e hx) e1 (I.base.free b o e n hx);exact⟨sl',e2⟩
 ·obtain⟨o',e1⟩:=I.base.there b o e hx;exact free b o' (neC b o e hx) e1 (I.base.free b o e n hx)
 ·obtain⟨o',e1⟩:=I.base.there b o e hx;exact there b o' (neC b o e hx) e1
 ·obtain⟨m1,e1⟩:=I.base.tbls b ps e;obtain⟨m2,e2⟩:=tbls b _ e1;exact⟨m1++m2,by rw[e2,Array.append_assoc]⟩
 ·obtain⟨m,hn,hl⟩:=I.loc;refine⟨m,ns m hn,λi x v e1 e2 e3=>?_⟩
  obtain⟨u,r,l⟩:=hl i x v e1 e2 e3;refine⟨u,r,?_⟩;rcases l with l |⟨k,c,e,z⟩
  ·exact .inl l
  ·exact .inr ⟨k,c,e,Ub x c e _ z⟩
 ·obtain⟨v,z⟩:=I.cell x c e;exact⟨v,Ub x c e v z⟩
 ·obtain⟨m,⟨o,_,_,ho,_⟩,_⟩:=I.loc;exact free _ o (λz=>(Tz _ z).2.1 rfl) ho I.free
 ·obtain⟨v,o,ho,hd⟩:=I.cell x c e;exact free c o (λz=>(Tz c z).2.2.1 x c e rfl) ho (I.freeC x c e)
 ·obtain⟨e,n,ne,nf,d⟩:=I.pin p hp;have nch:p.1 ∉ ch:=λz=>(Tz p.1 z).2.2.2 p hp rfl
  exact⟨keep p.1 p.2 ne nf nch e n,free p.1 p.2 nch e n,ne,nf,d⟩
theorem Inv.un{t':Nat}(I:Inv X pins σ H s)(u:Un X.fs [] H H' s.heap h')(hok:HOk X.prog X.w H' h'):Inv X pins σ H' {s with heap:=h',toks:=t' }:=by
 obtain⟨m,⟨o,es,ep,ho,r⟩,_⟩:=id I.loc;obtain⟨sl,hL⟩:=u.any ho I.free (by simp)
 exact I.step (g':=s.gens) (d':=s.drawn) (ch:=[]) (λ_ z=>nomatch z) (λb o _ hb _ e n=>u.keep b o e n hb (by simp)) (λb o _ hb _ e n=>u.slot b o e n hb (by simp)) (λb o _ e n=>u.free b o e n (by simp)) (λb o _ e=>u.there b o e (by simp)) u.tups u.frzs u.tbls (λm' hm=>by
  obtain⟨o',es',SN,RG,r'⟩:=hm;rw[ho]at RG;cases RG;exact⟨_,es',SN,hL,r'⟩) hok I.bare
theorem Inv.call{g':Array HP}{t':Nat}{d':Drawn}{ch:List ES}(I:Inv X pins σ H s)(u:Un (frs X.stack) ch H H' s.heap h')(hok:HOk X.prog X.w H' h')(hg:Lw g')
  (Tz:∀b∈ch,(b∈X.ex\/X.s₀.heap.objs.size<=b)/\b≠X.env.locals/\(∀x c,X.env.cells.lookup x=some c->c≠b)/\∀p∈X.pn++pins,p.1≠b):
  Inv X pins σ H' {s with heap:=h',gens:=g',drawn:=d',toks:=t' }:=by
 obtain⟨m,⟨o,es,ep,ho,r⟩,_⟩:=id I.loc;obtain⟨sl,hL⟩:=u.any ho I.free λz=>(Tz _ z).2.1 rfl
 exact I.step (ch:=ch) Tz (λb o hL hb hc e n=>u.keep b o e n (λz=>(EH.mp (I.stkSub b z)).elim hL hb) hc) (λb o _ _ hc e n=>u.any e n hc) (λb o hc e n=>u.free b o e n hc) (λb o hc e=>u.there b o e hc) u.tups u.frzs u.tbls (λm' hm=>by
  obtain⟨o',es',SN,RG,r'⟩:=hm;rw[ho]at RG;cases RG;exact⟨_,es',SN,hL,r'⟩) hok hg
theorem Inv.turned{t':Nat}{it:ES}(I:Inv X pins σ H s)(k:∀b o,b≠it->s.heap.get? b=some o->h'.get? b=some o)(hn:H it=none)(hL:it≠X.env.locals)
  (h1:it∈X.ex\/X.s₀.heap.objs.size<=it) (h2:∀x c,X.env.cells.lookup x=some c->c≠it) (h3:∀p∈X.pn++pins,p.1≠it):Inv X pins σ H {s with heap:=h',toks:=t' }:=by
 have nit:∀b u,H b=some u->b≠it:=λb u e z=>by rw[z,hn]at e;cases e
 refine I.step (g':=s.gens) (d':=s.drawn) (ch:=[it]) (λb hb=>?_) (λb o _ _ hc e _=>k b o (λz=>hc (by simp[z])) e) (λb o _ _ hc e _=>⟨o.slots,k b o (λz=>hc (by simp[z])) e⟩) (λ_ _ _ _ n=>n)
  (λb o hc e=>⟨o,k b o (λz=>hc (by simp[z])) e⟩) (λ_ _ e=>e) (λ_ _ _ e=>e) (λb ps e=>⟨#[],by rw[e];simp⟩) (λm hm=>?_) (λb u e=>?_) I.bare
 ·have e:b=it:=by simpa using hb
  subst e;exact⟨h1,hL,h2,h3⟩
 ·obtain⟨o,es,ep,ho,r⟩:=hm;exact⟨o,es,ep,k _ o (Ne.symm hL) ho,r⟩
 ·refine (I.hok b u e).stay (λc v hc q=>k c v ?_ q) (λ_ q=>q) λ_ _ q=>q
  rcases hc with z |z
  ·rw[z];exact nit b u e
  ·exact nit c _ z
theorem Inv.tok(I:Inv X pins σ H s)(t:Nat):Inv X pins σ H {s with toks:=t }:=I.un (h':=s.heap) (t':=t) Un.refl I.hok
theorem Inv.kept{t':Nat}(I:Inv X pins σ H s)(k:∀b u,s.heap.get? b=some u->h'.get? b=some u):Inv X pins σ H {s with heap:=h',toks:=t' }:=I.un (Un.kept k) (I.hok.kept k)
theorem Inv.laid{a:ES}{o:HO}{t':Nat}(I:Inv X pins σ H s)(k:∀b u,s.heap.get? b=some u->h'.get? b=some u)(hp:s.heap.objs.size<=a)(new:bD X.prog X.w (upd H a o) h' a o):
  Inv X pins σ (upd H a o) {s with heap:=h',toks:=t' }:=I.un (Un.laid k hp (I.hok.fresh hp)) (I.hok.laid k hp new)
theorem Inv.write{x e:ES}{o:HO}{t':Nat}(I:Inv X pins σ H s)(mu:Mut (H x))(he:e=x\/H e=some (.own x))(k:∀b u,b≠e->s.heap.get? b=some u->h'.get? b=some u)(heo:∃u,h'.get? e=some u)
  (new:bD X.prog X.w (upd H x o) h' x o):Inv X pins σ (upd H x o) {s with heap:=h',toks:=t' }:=I.un (Un.write mu he k heo) (I.hok.write mu he k heo new)
theorem Inv.weak{QC:List (Option V)}(I:Inv X pins σ H s)(hl:QC.length=σ.length)(w:∀(i:Nat) v,QC[i]?=some (some v)->σ[i]?=some (some v)):Inv X pins QC H s:=
 ⟨I.ok,I.os,I.bare,I.base,let ⟨m,hn,QG⟩:=I.loc;⟨m,hn,λi x v e1 e2 e3=>QG i x v e1 (w i v e2) e3⟩,I.cell,I.free,I.freeC,I.pin,I.hok,hl.trans I.len⟩
theorem Inv.pins_of{Uc:List (ES×Obj)}(I:Inv X pins σ H s)(h:∀p∈Uc,s.heap.get? p.1=some p.2/\H p.1=none/\p.1≠X.env.locals/\p.1 ∉ X.fs/\∀v,p.2.data≠.cell v):Inv X Uc σ H s:=
 ⟨I.ok,I.os,I.bare,I.base,I.loc,I.cell,I.free,I.freeC,λp hp=>(EX.mp hp).elim (λz=>I.pin p (E8 _ z)) (h p),I.hok,I.len⟩
theorem oB{N:List Str}(hN:N.Nodup){i j:Nat}{x:Str}(a:N[i]?=some x)(b:N[j]?=some x):i=j:=by
 obtain⟨h1,e1⟩:=ET.mp a;obtain⟨h2,e2⟩:=ET.mp b;exact (Kb hN).mp (e1.trans e2.symm)
theorem lQ{M:Model}{A:FQ}{E:EG->EE->Prop}{i:Nat}{x:Str}{v:V}{u:EG}{Q:Unit->EE->Prop}(I:Inv X pins σ H s)(hN:X.N.Nodup)(hi:X.N[i]?=some x)(hx:Loc X.env.scope x)(r:aX v u)
  (h:∀s',Inv X pins (σ.set i (some v)) H s'->(∃a,HC a s.heap s'.heap/\(a=X.env.locals\/X.env.cells.lookup x=some a))->Q () s') (hf:X.fn x=true\/X.env.scope.names.lookup x=some .local:=by first |exact .inl rfl |exact .inr rfl |assumption):E2 M A (storeName X.env x u) Q E s:=by
 obtain⟨m,hn,hl⟩:=id I.loc;have hcls:(X.env.scope.kind==.class || (X.env.scope.kind==.module && X.env.locals !=X.env.globals))=false:=by rw[I.ok.kind];rfl
 have hiσ:i<σ.length:=by rw[I.len];exact (ET.mp hi).1
 have cne:=I.cne
 have Sm:∀{a:ES}{h':GS},(∃o,s.heap.get? a=some o/\H a=none)->HC a s.heap h'->HOk X.prog X.w H h':=λ{a h'} ha hs b ob e=>by
  obtain⟨_,_,Ud⟩:=ha;refine (I.hok b ob e).stay (λc w' hc q=>(hs.2 c ?_).trans q) (λ_ q=>q) λ_ _ q=>q
  rintro rfl;rcases hc with rfl |hc
  ·rw[Ud]at e;cases e
  ·rw[Ud]at hc;cases hc
 rcases hx with hk |hk
 ·refine wpAny_storeName_local hk hn (λh' TC hs=>?_) hcls
  obtain⟨oL,_,_,hoL,_⟩:=id hn;refine h _ ⟨I.ok,I.os,I.bare,⟨λb o e n hb hx=>?_,λb o e n hb hx=>?_,I.base.free,λb o e hx=>?_,I.base.tups,I.base.frzs,I.base.tbls⟩,⟨_,TC,λj y v' e1 e2 e3=>?_⟩,λy c e=>?_,I.free,I.freeC,λp hp=>?_,Sm ⟨oL,hoL,I.free⟩ hs,by simpa using I.len⟩ ⟨_,hs,.inl rfl⟩
  ·exact (hs.2 b (Fe (Fu (EN e) I.ok.above))).trans (I.base.keep b o e n hb hx)
  ·obtain⟨sl,e1⟩:=I.base.slot b o e n hb hx;exact⟨sl,(hs.2 b (Fe (Fu (EN e) I.ok.above))).trans e1⟩
  ·obtain⟨o',e1⟩:=I.base.there b o e hx;exact⟨o',(hs.2 b (Fe (Fu (EN e) I.ok.above))).trans e1⟩
  ·by_cases hj:j=i
   ·subst hj;rw[hi]at e1;cases e1;rw[LQ hiσ]at e2;cases e2;exact⟨u,r,.inl ⟨hk,by simp⟩⟩
   ·rw[Fc (Ne.symm hj)]at e2;obtain⟨u',r',q⟩:=hl j y v' e1 e2 e3;refine⟨u',r',?_⟩;rcases q with ⟨k,e⟩ |⟨k,c,e,z⟩
    ·refine .inl ⟨k,?_⟩;have:y≠x:=λe=>hj (oB hN e1 (e ▸ hi))
     simp[this,e]
    ·exact .inr ⟨k,c,e,z.sameBut hs (cne y c e)⟩
  ·obtain⟨w',z⟩:=I.cell y c e;exact⟨w',z.sameBut hs (cne y c e)⟩
  ·obtain⟨e,n,ne,nf,d⟩:=I.pin p hp;exact⟨(hs.2 p.1 ne).trans e,n,ne,nf,d⟩
 ·have hfn:X.fn x=true:=by
   rcases hf with z |z
   ·exact z
   ·rw[z]at hk;cases hk
  obtain⟨c,hc⟩:=I.ok.has x (.inl hk);obtain⟨w',z⟩:=I.cell x c hc;refine wpAny_storeName_cell I.ok.kind hk hc z (λh' Sx hs=>?_)
  obtain⟨oc,Sq,hocd⟩:=id z;refine h {s with heap:=h' } ⟨I.ok,I.os,I.bare,⟨λb o e n hb hx=>?_,λb o e n hb hx=>?_,I.base.free,λb o e hx=>?_,I.base.tups,I.base.frzs,I.base.tbls⟩,⟨m,hn.sameBut hs (Ne.symm (cne x c hc)),λj y v' e1 e2 e3=>?_⟩,λy c' e=>?_,I.free,I.freeC,λp hp=>?_,Sm ⟨oc,Sq,I.freeC x c hc⟩ hs,by simpa using I.len⟩ ⟨c,hs,.inr hc⟩
  ·exact (hs.2 b (Fe (Fu (EN e) (I.ok.cab x c hfn hc)))).trans (I.base.keep b o e n hb hx)
  ·obtain⟨sl,e1⟩:=I.base.slot b o e n hb hx;exact⟨sl,(hs.2 b (Fe (Fu (EN e) (I.ok.cab x c hfn hc)))).trans e1⟩
  ·obtain⟨o',e1⟩:=I.base.there b o e hx;exact⟨o',(hs.2 b (Fe (Fu (EN e) (I.ok.cab x c hfn hc)))).trans e1⟩
  ·by_cases hj:j=i
   ·subst hj;rw[hi]at e1;cases e1;rw[LQ hiσ]at e2;cases e2;exact⟨u,r,.inr ⟨.inl hk,c,hc,Sx⟩⟩
   ·rw[Fc (Ne.symm hj)]at e2;obtain⟨u',r',q⟩:=hl j y v' e1 e2 e3;refine⟨u',r',?_⟩;rcases q with q |⟨k,c',e,z'⟩
    ·exact .inl q
    ·refine .inr ⟨k,c',e,z'.sameBut hs ?_⟩;rintro rfl;exact hj (oB hN e1 (I.ok.inj _ _ _ e hc ▸ hi))
  ·by_cases hcc:c'=c
   ·subst hcc;exact⟨_,Sx⟩
   ·obtain⟨w2,z2⟩:=I.cell y c' e;exact⟨w2,z2.sameBut hs hcc⟩
  ·obtain⟨e,n,ne,nf,d⟩:=I.pin p hp;refine⟨(hs.2 p.1 ?_).trans e,n,ne,nf,d⟩;intro q;rw[q,Sq]at e;have q':oc=p.2:=Fk e;exact d w' (by rw[<-q'];exact hocd)
theorem hU{M:Model}{A:FQ}{E:EG->EE->Prop}{i:Nat}{x:Str}{v:V}{u:EG}{Q:Unit->EE->Prop}(I:Inv X pins σ H s)(hN:X.N.Nodup)(hi:X.N[i]?=some x)(hx:Loc X.env.scope x)(r:aX v u)
  (h:∀s',Inv X pins (σ.set i (some v)) H s'->Q () s') (hf:X.fn x=true\/X.env.scope.names.lookup x=some .local:=by first |exact .inl rfl |exact .inr rfl |assumption):E2 M A (storeName X.env x u) Q E s:=
 lQ I hN hi hx r (λs' I' _=>h s' I') hf
theorem Inv.call'{s':EE}{ch:List ES}(I:Inv X pins σ H s)(ho:s'.os=s.os)(u:Un (frs X.stack) ch H H' s.heap s'.heap)(hok:HOk X.prog X.w H' s'.heap)(hg:Lw s'.gens)
  (Tz:∀b∈ch,(b∈X.ex\/X.s₀.heap.objs.size<=b)/\b≠X.env.locals/\(∀x c,X.env.cells.lookup x=some c->c≠b)/\∀p∈X.pn++pins,p.1≠b):Inv X pins σ H' s':=by
 obtain⟨h',g',d',t',o'⟩:=s';have e:o'=s.os:=ho;subst e;exact I.call (g':=g') (t':=t') (d':=d') u hok hg Tz
end
abbrev XK:=EG->Option ES->Hp->Prop
abbrev St:=List (Option V)
abbrev VK:=V->Hp->Prop
abbrev TE:=St->Hp->VK->Prop
abbrev TT:=St->Hp->(Bool->Hp->Prop)->Prop
abbrev TA:=St->Hp->(List V->Hp->Prop)->Prop
structure ot where
 nx:St->Hp->Prop
 rt:VK
 bk:St->Hp->Prop:=λ_ _=>False
 ct:St->Hp->Prop:=λ_ _=>False
abbrev TS:=ot->St->Hp->Prop
def EP(X:Cx)(pins:List (ES×Obj))(σ:St)(Q:VK)(u:EG)(s':EE):Prop:=∃v H',Inv X pins σ H' s'/\aX v u/\Q v H'
def TP(X:Cx)(pins:List (ES×Obj))(σ:St)(Q:Bool->Hp->Prop)(b:Bool)(s':EE):Prop:=∃H',Inv X pins σ H' s'/\Q b H'
def AP(X:Cx)(pins:List (ES×Obj))(σ:St)(Q:List V->Hp->Prop)(us:List EG)(s':EE):Prop:=∃vs H',Inv X pins σ H' s'/\aO vs us/\Q vs H'
def SP(X:Cx)(pins:List (ES×Obj))(D:ot)(f:Flow)(s':EE):Prop:=
 match f with
 | .next=>∃QC H',Inv X pins QC H' s'/\D.nx QC H'
 | .brk=>∃QC H',Inv X pins QC H' s'/\D.bk QC H'
 | .cont=>∃QC H',Inv X pins QC H' s'/\D.ct QC H'
 | .ret u=>∃v QC H',Inv X pins QC H' s'/\aX v u/\D.rt v H'
def PE(X:Cx)(e:Expr)(t:TE):Prop:=
 ∀(pins:List (ES×Obj)) (s:EE) (σ:St) (H:Hp) (Q:VK),Inv X pins σ H s->t σ H Q->E2 (Fm X.prog X.w) X.A (Io e X.env) (EP X pins σ Q) X.xe s
def PT(X:Cx)(e:Expr)(t:TT):Prop:=
 ∀(pins:List (ES×Obj)) (s:EE) (σ:St) (H:Hp) (Q:Bool->Hp->Prop),Inv X pins σ H s->t σ H Q->E2 (Fm X.prog X.w) X.A (isTrue e X.env (Io e X.env)) (TP X pins σ Q) X.xe s
def PW(X:Cx)(e:Expr)(t:TT):Prop:=
 ∀(Rz:Sem EG) (pins:List (ES×Obj)) (s:EE) (σ:St) (H:Hp) (Q:Bool->Hp->Prop),Inv X pins σ H s->t σ H Q->E2 (Fm X.prog X.w) X.A (isTrue e X.env Rz) (TP X pins σ Q) X.xe s
theorem PW.pt{X:Cx}{e:Expr}{t:TT}(h:PW X e t):PT X e t:=h _
def PA(X:Cx)(es:List Expr)(t:TA):Prop:=
 ∀(pos:Pos) (pins:List (ES×Obj)) (s:EE) (σ:St) (H:Hp) (Q:List V->Hp->Prop),Inv X pins σ H s->t σ H Q->E2 (Fm X.prog X.w) X.A (Nw (Ie pos (EO es X.env))) (AP X pins σ Q) X.xe s
def PS(X:Cx)(st:HL)(t:TS):Prop:=
 ∀(pins:List (ES×Obj)) (s:EE) (σ:St) (H:Hp) (D:ot),Inv X pins σ H s->t D σ H->E2 (Fm X.prog X.w) X.A (exec st X.env) (SP X pins D) X.xe s
def PSs(X:Cx)(st:List HL)(t:TS):Prop:=
 ∀(pins:List (ES×Obj)) (s:EE) (σ:St) (H:Hp) (D:ot),Inv X pins σ H s->t D σ H->E2 (Fm X.prog X.w) X.A (execs st X.env) (SP X pins D) X.xe s
theorem thn{α:Type}{t:Sem α}{Q Q':α->EE->Prop}{M:Model}{A:FQ}{E:EG->EE->Prop}{s:EE}(h:E2 M A t Q E s)(hQ:∀a s,Q a s->Q' a s):E2 M A t Q' E s:=He h hQ λ_ _ x=>x
variable {ta:TE}{tb:TE}{pos:Pos}
section
variable {X:Cx}
def Cz(i:Nat):TE:=λσ H Q=>∃v,σ[i]?=some (some v)/\Q v H
def tC(v:V):TE:=λ_ H Q=>Q v H
theorem e8{i:Nat}{x:Str}{pos:Pos}(hN:X.N[i]?=some x)(hv:Vis X.env.scope x)(hd:(x==("__debug__":Str))=false:=by decide)(Ri:(x==("__classdict__":Str))=false:=by decide):PE X (.Name x pos) (Cz i):=by
 intro pins s σ H Q I h;obtain⟨v,e,h⟩:=h;obtain⟨m,hn,hl⟩:=I.loc;obtain⟨u,r,l⟩:=hl i x v hN e hv;have QN:EP X pins σ Q u s:=⟨v,H,I,r,h⟩;rcases l with ⟨hk,hm⟩ |⟨hk,c,hc,Ue⟩
 ·exact OY (wpAny_loadName_local I.ok.kind hk hn hm QN) hd
 ·rcases hk with hk |hk
  ·exact OY (wpAny_loadName_cell I.ok.kind hk hc Ue QN) hd
  ·exact OY (wpAny_loadName_free I.ok.kind hk hc Ue QN Ri) hd
theorem qw{i j pos}:PE X (.Constant (.int i) j pos) (tC (.int i)):=λ_ _ _ H _ I h=>wpAny_Constant_int ⟨.int i,H,I.tok _,⟨_,rfl⟩,h⟩
theorem DO{b j pos}:PE X (.Constant (.bool b) j pos) (tC (.bl b)):=λ_ _ _ H _ I h=>Constant_bool ⟨.bl b,H,I,rfl,h⟩
def Gl(X:Cx)(x:Str):Prop:=X.env.kindOf x=some .globalImplicit
theorem t9{E:EG->EE->Prop}{pins:List (ES×Obj)}{s:EE}{σ:St}{H:Hp}{x:Str}{u:EG}{pos:Pos}{Q:EG->EE->Prop}(I:Inv X pins σ H s)(hg:Gl X x)(hm:X.mg x=some u)(h:Q u s)
  (hd:(x==("__debug__":Str))=false:=by decide):E2 (Fm X.prog X.w) X.A (Io (.Name x pos) X.env) Q E s:=
 Kw I.ok.kind hg (Calls.loadGlobal_global (by rw[I.ok.glob];exact I.mod.glob.keeps I.bk) hm h) hd
theorem cg{E:EG->EE->Prop}{pins:List (ES×Obj)}{s:EE}{σ:St}{H:Hp}{x:Str}{u:EG}{pos:Pos}{Q:EG->EE->Prop}(I:Inv X pins σ H s)(hg:Gl X x)(hm:X.mg x=none)(hv:GY x=some u)(h:Q u s)
  (hn:x≠"__name__":=by decide) (hd:(x==("__debug__":Str))=false:=by decide):E2 (Fm X.prog X.w) X.A (Io (.Name x pos) X.env) Q E s:=by
 obtain⟨mb,h1,h2⟩:=I.mod.blt;exact Kw I.ok.kind hg (Calls.loadGlobal_builtin (by rw[I.ok.glob];exact I.mod.glob.keeps I.bk) hm (by rw[I.ok.blt];exact h1.keeps I.bk) ((h2 x hn).trans hv) h) hd
theorem As{x:Str}{v:V}{u:EG}{pos:Pos}(hg:Gl X x)(hm:X.mg x=some u)(r:aX v u)(hd:(x==("__debug__":Str))=false:=by decide):PE X (.Name x pos) (tC v):=
 λ_ _ _ H _ I h=>t9 I hg hm ⟨v,H,I,r,h⟩ hd
theorem z8{x:Str}{v:V}{u:EG}{pos:Pos}(hg:Gl X x)(hm:X.mg x=none)(hv:GY x=some u)(r:aX v u)(hn:x≠"__name__":=by decide)(hd:(x==("__debug__":Str))=false:=by decide):PE X (.Name x pos) (tC v):=
 λ_ _ _ H _ I h=>cg I hg hm hv ⟨v,H,I,r,h⟩ hn hd
variable {a b:Expr}
def tB(t:TE):TT:=λσ H Q=>t σ H λx H1=>∃c,x=.bl c/\Q c H1
theorem CW{e:Expr}{t:TE}(h:PE X e t)(he:∀Rz,isTrue e X.env Rz=(do let v <-Rz;standAt e.pos;M0 [v] (truthy v)):=by intro _;rfl):PT X e (tB t):=by
 intro pins s σ H Q I hw;refine isTrue_plain (thn (h pins s σ H _ I hw) λv s1 ⟨x,H1,I1,r1,q1⟩=>?_) (he _)
 obtain⟨d,rfl,q⟩:=q1;cases r1;exact Hf ⟨H1,I1,q⟩
variable {tA tB':TT}{rest:List Expr}
def Es(t u:TT):TT:=λσ H Q=>t σ H λc H1=>if c=true then u σ H1 Q else Q false H1
def tOr(t u:TT):TT:=λσ H Q=>t σ H λc H1=>if c=true then Q true H1 else u σ H1 Q
def DZ(t:TT):TT:=λσ H Q=>t σ H λc H1=>Q (!c) H1
theorem Aa(ha:PT X a tA):PW X (.BoolOp .And [a] pos) tA:=by
 intro wh pins s σ H Q I h;refine isTrue_and (thn (ha pins s σ H Q I h) λc s1 e=>?_)
 cases c with
 |true=>exact isTrue_and_nil e
 |false=>exact e
theorem Cl(ha:PT X a tA):PW X (.BoolOp .Or [a] pos) tA:=by
 intro wh pins s σ H Q I h;refine isTrue_or (thn (ha pins s σ H Q I h) λc s1 e=>?_)
 cases c with
 |false=>exact isTrue_or_nil e
 |true=>exact e
theorem xk(ha:PT X a tA)(hb:PW X (.BoolOp .And (b::rest) pos) tB'):PW X (.BoolOp .And (a::b::rest) pos) (Es tA tB'):=by
 intro wh pins s σ H Q I h;refine isTrue_and (thn (ha pins s σ H _ I h) λc s1 ⟨H1,I1,q1⟩=>?_)
 cases c with
 |true=>exact hb wh pins s1 σ H1 Q I1 q1
 |false=>exact⟨H1,I1,q1⟩
theorem By(ha:PT X a tA)(hb:PW X (.BoolOp .Or (b::rest) pos) tB'):PW X (.BoolOp .Or (a::b::rest) pos) (tOr tA tB'):=by
 intro wh pins s σ H Q I h;refine isTrue_or (thn (ha pins s σ H _ I h) λc s1 ⟨H1,I1,q1⟩=>?_)
 cases c with
 |true=>exact⟨H1,I1,q1⟩
 |false=>exact hb wh pins s1 σ H1 Q I1 q1
theorem C1(ha:PT X a tA):PT X (.UnaryOp .Not a pos) (DZ tA):=by
 intro pins s σ H Q I h;exact isTrue_not (ha pins s σ H (λc H1=>Q (!c) H1) I h)
def DN(ta tb:TE):TE:=λσ H Q=>ta σ H λx H1=>∃c,x=.bl c/\if c=true then tb σ H1 Q else Q (.bl false) H1
def DM(ta:TE):TE:=λσ H Q=>ta σ H λx H1=>∃c,x=.bl c/\Q (.bl (!c)) H1
theorem BF{op}{t:TE}(h:PE X a t):PE X (.BoolOp op [a] pos) t:=λpins s σ H Q I hw=>BoolOp_one (h pins s σ H Q I hw)
theorem xW(ha:PE X a ta)(hb:PE X (.BoolOp .And (b::rest) pos) tb):PE X (.BoolOp .And (a::b::rest) pos) (DN ta tb):=by
 intro pins s σ H Q I h;refine BoolOp_and (thn (ha pins s σ H _ I h) λv s1 ⟨x,H1,I1,r1,q1⟩=>?_)
 obtain⟨c,rfl,q1⟩:=q1;cases r1;refine Hf ?_;cases c with
 |true=>exact hb pins s1 σ H1 Q I1 q1
 |false=>exact⟨.bl false,H1,I1,rfl,q1⟩
theorem Ca(ha:PE X a ta):PE X (.UnaryOp .Not a pos) (DM ta):=by
 intro pins s σ H Q I h;refine UnaryOp_ (thn (ha pins s σ H _ I h) λv s1 ⟨x,H1,I1,r1,q1⟩=>?_)
 obtain⟨c,rfl,q1⟩:=q1;cases r1;exact not_of (Hf ⟨.bl (!c),H1,I1,rfl,q1⟩)
end
def SqL(K:EC)(H:Hp)(a:ES)(xs:List V):Prop:=
 Rd H a (.lst xs)\/
  ∃(o:Obj) (Qs:Array EG) (n:Nat),K.lookup a=some o∧o.cls=.type "list"∧o.dict=none∧o.data=.seq Qs n∧Qs.size≤sizeLine∧aO xs Qs.toList
def SqT(K:EC)(H:Hp)(a:ES)(xs:List V):Prop:=
 Rd H a (.tup xs)\/
  ∃(o:Obj) (Qs:Array EG) (n:Nat),K.lookup a=some o∧o.cls=.type "tuple"∧o.data=.seq Qs n∧Qs.size≤sizeLine∧aO xs Qs.toList
def Eu:EG->Option V
 | .none=>some .non
 | .bool b=>some (.bl b)
 | .int i _=>some (.int i)
 | .str x _=>some (.str x)
 | .bytes b _=>some (.byt b)
 | .float b _=>some (.flt b)
 | .ref a=>some (.ref a)
 | .type n=>some (.ty n)
 |_=>none
theorem aX.abs{x:V}{u:EG}(r:aX x u):Eu u=some x:=by
 cases x with
 |non=>cases r;rfl
 |bl _=>cases r;rfl
 |int _=>obtain⟨t,rfl⟩:=r;rfl
 |str _=>obtain⟨t,rfl⟩:=r;rfl
 |byt _=>obtain⟨t,rfl⟩:=r;rfl
 |flt _=>obtain⟨t,rfl⟩:=r;rfl
 |ref _=>cases r;rfl
 |ty _=>cases r;rfl
theorem aX.inj{x y:V}{u:EG}(r:aX x u)(q:aX y u):x=y:=Fk (r.abs.symm.trans q.abs)
theorem aO.inj:∀{xs ys:List V}{us:List EG},aO xs us->aO ys us->xs=ys
 |_,_,_,.nil,.nil=>rfl
 |_,_,_,.cons r t,.cons r' t'=>by rw[r.inj r',aO.inj t t']
variable {σ:St}
section
variable {X:Cx}{a:ES}{xs ys:List V}
theorem SqL.of{K:EC}(h:H a=some (.lst xs)):SqL K H a xs:=.inl (.inl h)
theorem SqT.of{K:EC}(h:H a=some (.tup xs)):SqT K H a xs:=.inl (.inl h)
theorem Inv.list(I:Inv X pins σ H s)(h:SqL X.K H a xs):∃Qs:List EG,aO xs Qs/\PlainL s.heap a Qs.toArray/\xs.length<=sizeLine:=by
 rcases h with h |⟨o,Qs,n,hk,hc,hd,hs,hz,r⟩
 ·obtain⟨z,Qs,n,r,e⟩:=h.ok I.hok;exact⟨Qs,r,⟨_,n,e,rfl,rfl,rfl⟩,z⟩
 ·refine⟨Qs.toList,r,⟨o,n,I.kIn a o hk,hc,hd,by simpa using hs⟩,?_⟩
  have e:=r.length;simp only[ER]at e;lia
theorem Inv.tuple(I:Inv X pins σ H s)(h:SqT X.K H a xs):∃Qs:List EG,aO xs Qs/\Qo s.heap a Qs.toArray/\xs.length<=sizeLine:=by
 rcases h with h |⟨o,Qs,n,hk,hc,hs,hz,r⟩
 ·obtain⟨z,Qs,r,p⟩:=h.ok I.hok;exact⟨Qs,r,p,z⟩
 ·refine⟨Qs.toList,r,⟨o,I.kIn a o hk,hc,n,by simpa using hs⟩,?_⟩
  have e:=r.length;simp only[ER]at e;lia
theorem Inv.list_inj(I:Inv X pins σ H s)(h:SqL X.K H a xs)(h':SqL X.K H a ys):xs=ys:=by
 obtain⟨Qs,r,⟨o,n,e,_,_,d⟩,_⟩:=I.list h;obtain⟨its',r',⟨o',n',e',_,_,d'⟩,_⟩:=I.list h';rw[e]at e';cases e';rw[d]at d';injection d' with d1 _
 have:Qs=its':=by simpa using congrArg PJ d1
 subst this;exact r.inj r'
theorem Inv.tuple_inj(I:Inv X pins σ H s)(h:SqT X.K H a xs)(h':SqT X.K H a ys):xs=ys:=by
 obtain⟨Qs,r,⟨o,e,_,n,d⟩,_⟩:=I.tuple h;obtain⟨its',r',⟨o',e',_,n',d'⟩,_⟩:=I.tuple h';rw[e]at e';cases e';rw[d]at d';injection d' with d1 _
 have:Qs=its':=by simpa using congrArg PJ d1
 subst this;exact r.inj r'
end
abbrev Cx.wish(X:Cx)(E:EG->EE->Prop):Cx:={X with xe:=E }
abbrev Cx.nox(X:Cx):Cx:=X.wish λ_ _=>False
theorem Cx.Ok.wish{X:Cx}(ok:X.Ok)(E:EG->EE->Prop):(X.wish E).Ok:=
 ⟨ok.mod,ok.kind,ok.glob,ok.blt,ok.above,ok.inj,ok.has,ok.cab,ok.hd,ok.frames,ok.stk,ok.exf,ok.bs,ok.bsz,ok.noex,ok.exfs,ok.funs,ok.frf⟩
theorem Cx.Ok.unwish{X:Cx}{E:EG->EE->Prop}(ok:(X.wish E).Ok):X.Ok:=
 ⟨ok.mod,ok.kind,ok.glob,ok.blt,ok.above,ok.inj,ok.has,ok.cab,ok.hd,ok.frames,ok.stk,ok.exf,ok.bs,ok.bsz,ok.noex,ok.exfs,ok.funs,ok.frf⟩
variable {e:Expr}{E:EG→EE→Prop}
section
variable {X:Cx}
theorem Inv.wish(I:Inv X pins σ H s)(E:EG->EE->Prop):Inv (X.wish E) pins σ H s:=⟨I.ok.wish E,I.os,I.bare,I.base,I.loc,I.cell,I.free,I.freeC,I.pin,I.hok,I.len⟩
theorem Inv.unwish(I:Inv (X.wish E) pins σ H s):Inv X pins σ H s:=⟨I.ok.unwish,I.os,I.bare,I.base,I.loc,I.cell,I.free,I.freeC,I.pin,I.hok,I.len⟩
theorem SP.unwish{D:ot}{f:Flow}{s':EE}(h:SP (X.wish E) pins D f s'):SP X pins D f s':=by
 cases f with
 |next=>obtain⟨QC,H',I,q⟩:=h;exact⟨QC,H',I.unwish,q⟩
 |brk=>obtain⟨QC,H',I,q⟩:=h;exact⟨QC,H',I.unwish,q⟩
 |cont=>obtain⟨QC,H',I,q⟩:=h;exact⟨QC,H',I.unwish,q⟩
 |ret u=>obtain⟨v,QC,H',I,r,q⟩:=h;exact⟨v,QC,H',I.unwish,r,q⟩
theorem PSs.nox{st:List HL}{t:TS}(h:PSs X.nox st t):PSs X st t:=λpins s σ H D I hw=>
 He (h pins s σ H D (I.wish _) hw) (λ_ _ q=>q.unwish) λ_ _ z=>False.elim z
variable {st:HL}{rest:List HL}{t u:TS}{te:TE}
def DJ:TS:=λD σ H=>D.nx σ H
def DU(t u:TS):TS:=λD σ H=>t {D with nx:=u D } σ H
theorem m9:PSs X [] DJ:=λ_ _ σ H _ I h=>L4 ⟨σ,H,I,h⟩
theorem fe(h1:PS X st t)(h2:PSs X rest u):PSs X (st::rest) (DU t u):=by
 intro pins s σ H D I h;refine wpAny_execs_cons (thn (h1 pins s σ H {D with nx:=u D } I h) λf s1 q=>?_)
 cases f with
 |next=>
  obtain⟨QC,H',I',q⟩:=q;exact h2 pins s1 QC H' D I' q
 |ret v=>exact q
 |brk=>exact q
 |cont=>exact q
theorem Inv.quiet{pins:List (ES×Obj)}{σ:St}{H:Hp}{s:EE}(I:Inv X pins σ H s):interactive X.env=false:=by simp[interactive,I.ok.kind]
def DS(te:TE):TS:=λD σ H=>te σ H λ_ H1=>D.nx σ H1
theorem ie(he:PE X e te)(hs:HQ e none pos.line X.env=pure false:=by rfl):PS X (.Expr e pos) (DS te):=by
 intro pins s σ H D I h;exact wpAny_Expr_any (thn (he pins s σ H _ I h) λv s1 ⟨x,H1,I1,r1,q1⟩=>⟨σ,H1,I1,q1⟩) I.quiet hs
def Eo(te:TE):TS:=λD σ H=>te σ H D.rt
theorem qO(he:PE X e te):PS X (.Return (some e) pos) (Eo te):=by
 intro pins s σ H D I h;exact wpAny_Return_some (thn (he pins s σ H _ I h) λv s1 ⟨x,H1,I1,r1,q1⟩=>⟨x,σ,H1,I1,r1,q1⟩)
def DX(c:TT)(t u:TS):TS:=λD σ H=>c σ H λb H1=>if b=true then t D σ H1 else u D σ H1
theorem Bm{c:Expr}{a b:List HL}{tc:TT}(hc:PT X c tc)(ha:PSs X a t)(hb:PSs X b u):PS X (.If c a b pos) (DX tc t u):=by
 intro pins s σ H D I h;refine wpAny_If (thn (hc pins s σ H _ I h) λd s1 ⟨H1,I1,q1⟩=>?_)
 cases d with
 |true=>exact ha pins s1 σ H1 D I1 q1
 |false=>exact hb pins s1 σ H1 D I1 q1
end
abbrev TG:=V->St->Hp->(St->Hp->Prop)->Prop
abbrev TGs:=List V->St->Hp->(St->Hp->Prop)->Prop
def PG(X:Cx)(target:Expr)(t:TG):Prop:=
 ∀(pins:List (ES×Obj)) (s:EE) (σ:St) (H:Hp) (v:V) (u:EG) (Q:St->Hp->Prop),Inv X pins σ H s->aX v u->t v σ H Q->
  E2 (Fm X.prog X.w) X.A (OZ target X.env u) (λ_ s'=>∃QC H',Inv X pins QC H' s'/\Q QC H') X.xe s
def PGs(X:Cx)(ts:List Expr)(t:TGs):Prop:=
 ∀(pins:List (ES×Obj)) (s:EE) (σ:St) (H:Hp) (vs:List V) (us:List EG) (Q:St->Hp->Prop),Inv X pins σ H s->aO vs us->t vs σ H Q->
  E2 (Fm X.prog X.w) X.A (Na ((Jq ts X.env).map (·.2)) us) (λ_ s'=>∃QC H',Inv X pins QC H' s'/\Q QC H') X.xe s
section
variable {X:Cx}
def oV(i:Nat):TG:=λv σ H Q=>Q (σ.set i (some v)) H
theorem bC{i:Nat}{x:Str}(hN:X.N.Nodup)(hi:X.N[i]?=some x)(hx:Loc X.env.scope x)(hf:X.fn x=true\/X.env.scope.names.lookup x=some .local:=by first |exact .inl rfl |exact .inr rfl |assumption):PG X (.Name x pos) (oV i):=by
 intro pins s σ H v u Q I r h;exact Nx (hU I hN hi hx r (λs' I'=>⟨_,H,I',h⟩) hf)
def C_:TGs:=λvs σ H Q=>vs=[]/\Q σ H
def Bh(t:TG)(u:TGs):TGs:=λvs σ H Q=>∃v r,vs=v::r/\t v σ H λQC H'=>u r QC H' Q
theorem jr:PGs X [] C_:=by
 intro pins s σ H vs us Q I r h;obtain⟨e,h⟩:=h;subst e;cases r;exact Ny ⟨σ,H,I,h⟩
theorem dE{e:Expr}{es:List Expr}{t:TG}{u:TGs}(h1:PG X e t)(h2:PGs X es u)
  (hs:(Jq (e::es) X.env).map (·.2)=OZ e X.env::(Jq es X.env).map (·.2):=by rfl):PGs X (e::es) (Bh t u):=by
 intro pins s σ H vs us Q I r h;obtain⟨v,vr,e1,h⟩:=h;subst e1;cases r with
 |cons r rr=>
  rw[hs];refine KD (thn (h1 pins s σ H _ _ _ I r h) λ_ s1 ⟨σ1,H1,I1,q1⟩=>?_)
  exact h2 pins s1 σ1 H1 _ _ Q I1 rr q1
def Dk(K:EC)(n:Nat)(t:TGs):TG:=λv σ H Q=>∃a xs,v=.ref a/\SqT K H a xs/\xs.length=n/\t xs σ H Q
theorem qI{es:List Expr}{k:Nat}{t:TGs}{n:Nat}(hc:X.calm=true)(h:PGs X es t)
  (hn:(Jq es X.env).length=n:=by rfl) (Rj:(Jq es X.env).findIdx? (·.1)=none:=by rfl):PG X (.Tuple es k pos) (Dk X.K n t):=by
 intro pins s σ H v u Q I r hw;obtain⟨a,xs,e1,hq,hl,hw⟩:=hw;subst e1;cases r;obtain⟨Qs,rv,ht,hz⟩:=I.tuple hq;refine assign_Tuple_tuple (I.ok.hd hc) ht (by simp[hn,<-hl,rv.length]) Rj λh' hx=>?_
 have I1:Inv X pins σ H {s with heap:=h' }:=I.kept (t':=s.toks) λb o e=>hx b o (Fe (EN e)) e
 exact h pins _ σ H xs _ Q I1 (by simpa using rv) hw
def CB(te:TE)(g:TG):TS:=λD σ H=>te σ H λx H1=>g x σ H1 D.nx
theorem Cs{tg e:Expr}{te:TE}{g:TG}(he:PE X e te)(hg:PG X tg g)(hs:Lx [tg] e pos.line X.env=pure false:=by rfl)(hw:Ly [tg] e X.env=pure none:=by rfl)
  (h1:(Jq [tg] X.env).map (·.2)=[OZ tg X.env]:=by rfl):PS X (.Assign [tg] e pos) (CB te g):=by
 intro pins s σ H D I h;refine wpAny_Assign_stores (thn (he pins s σ H _ I h) λv s1 ⟨x,H1,I1,r1,q1⟩=>?_) hs hw
 rw[h1];exact thn (hg pins s1 σ H1 x v _ I1 r1 q1) λ_ s2 q=>q
theorem om{i:Nat}{x:Str}{e:Expr}{te:TE}{QF:Pos}(hN:X.N.Nodup)(hi:X.N[i]?=some x)(hx:Loc X.env.scope x)(he:PE X e te)(hs:HQ e (some (.Name x QF)) pos.line X.env=pure false:=by rfl)(hf:X.fn x=true\/X.env.scope.names.lookup x=some .local:=by first |exact .inl rfl |exact .inr rfl |assumption):
  PS X (.Assign [.Name x QF] e pos) (CB te (oV i)):=by
 intro pins s σ H D I h;refine wpAny_Assign_Name (thn (he pins s σ H _ I h) λv s1 ⟨y,H1,I1,r1,q1⟩=>?_) hs
 exact hU I1 hN hi hx r1 (λs2 I2=>⟨_,H1,I2,q1⟩) hf
def Eh(i j:Nat)(ta:TA):TS:=λD σ H=>ta σ H λvs H1=>∃v w,vs=[v,w]/\D.nx ((σ.set i (some v)).set j (some w)) H1
theorem Cq{i j:Nat}{x y:Str}{a b:Expr}{ta:TA}{px py pt:Pos}{kt k2 pt2}(hc:X.calm=true)(hN:X.N.Nodup)(hi:X.N[i]?=some x)(hj:X.N[j]?=some y)(Ry:i≠j)
  (hx:X.env.scope.names.lookup x=some .local) (hy:X.env.scope.names.lookup y=some .local) (ha:PA X [a,b] ta)
  (hw:Ly [.Tuple [.Name x px,.Name y py] kt pt] (.Tuple [a,b] k2 pt2) X.env=pure (some [x,y]))
  (hs:Lx [.Tuple [.Name x px,.Name y py] kt pt] (.Tuple [a,b] k2 pt2) pos.line X.env=pure false:=by rfl):
  PS X (.Assign [.Tuple [.Name x px,.Name y py] kt pt] (.Tuple [a,b] k2 pt2) pos) (Eh i j ta):=by
 intro pins s σ H D I h;rw[exec_Assign_arm];refine Ew (Lz ?_);rw[hs];refine Ew (Ez ?_);rw[if_neg (by decide)]
 refine Ew (Tuple_ (thn (ha _ pins s σ H _ I h) λus s1 ⟨vs,H1,I1,r1,q1⟩=>?_))
 obtain⟨v,w,e1,q1⟩:=q1;subst e1
 obtain⟨u1,u2,rfl,rv,RK⟩:∃u1 u2,us=[u1,u2]/\aX v u1/\aX w u2:=by
  cases r1 with
  |cons p q=>
   cases q with
   |cons p' q'=>
    cases q';exact⟨_,_,rfl,p,p'⟩
 refine FZ ?_ (by show 2<=sizeLine;decide)
 have I2:Inv X pins σ H1 {s1 with heap:=s1.heap.push {cls:=.type "tuple",data:=.seq [u1,u2].toArray } }:=I1.kept (t':=s1.toks) λb o e=>EA _ e
 rw[hw];refine Ew (Ez ?_);show E2 (Fm X.prog X.w) X.A (do rule "assign.swapped-stores";let items ←unpackItems (.ref s1.heap.objs.size) 2 none;Na [λv=>Pj X.env y v,λv=>Pj X.env x v] items.reverse;pure Flow.next) _ _ _
 refine Ew (Jr (Ew (unpackItems_tuple (items:=#[u1,u2]) (I.ok.hd hc) (IsTup.new s1.heap _) λh' SW=>?_)))
 have I3:=I2.kept (h':=h') (t':=s1.toks) λb o e=>SW b o (Fe (EN e)) e
 show E2 _ _ (Na [λv=>Pj X.env y v,λv=>Pj X.env x v] [u2,u1] >>=λ_=>pure Flow.next) _ _ _
 refine Ew (KD (Ox (hU I3 hN hj (.inl hy) RK (λs2 I4=>?_) (.inr hy))))
 refine KD (Ox (hU I4 hN hi (.inl hx) rv (λs3 I5=>Ny (Ez ?_)) (.inr hx)))
 rw[List.set_comm _ _ (Ne.symm Ry)]at I5;exact⟨_,H1,I5,q1⟩
def CU(c:TT)(tb:TS):TS:=λD σ H=>∃W:Nat->St->Hp->Prop,(∃m,W m σ H)/\∀m σ H,W m σ H->
 c σ H λb H1=>if b=true then ∃N:St->Hp->Prop,(∀QC H',N QC H'->∃m',m'<m/\W m' QC H')/\tb {D with nx:=N,ct:=N,bk:=D.nx } σ H1 else D.nx σ H1
theorem w_{c:Expr}{QP:List HL}{tc:TT}{tb:TS}(hp:Ld (Fm X.prog X.w) X.A X.env X.xe)(hc:PT X c tc)(hb:PSs X QP tb):PS X (.While c QP [] pos) (CU tc tb):=by
 intro pins s σ H D I h;obtain⟨W,⟨m0,w0⟩,turn⟩:=h;refine wpAny_While (codeAny_whileLoop (λn s'=>∃QC H',Inv X pins QC H' s'/\W n QC H') ?_ m0 ⟨σ,H,I,w0⟩)
 rintro n s1 ⟨σ1,H1,I1,w1⟩;refine Ij hp (thn (hc pins s1 σ1 H1 _ I1 (turn n σ1 H1 w1)) λb s2 ⟨H2,I2,q2⟩=>?_)
 cases b with
 |true=>
  obtain⟨N,hN,q2⟩:=q2;rw[if_pos rfl];refine Ij hp (thn (hb pins s2 σ1 H2 _ I2 q2) λf s3 q3=>?_)
  cases f with
  |next=>
   obtain⟨SX,H3,I3,n3⟩:=q3;obtain⟨m',hm,w3⟩:=hN SX H3 n3;exact⟨m',hm,SX,H3,I3,w3⟩
  |cont=>
   obtain⟨SX,H3,I3,n3⟩:=q3;obtain⟨m',hm,w3⟩:=hN SX H3 n3;exact⟨m',hm,SX,H3,I3,w3⟩
  |brk=>exact q3
  |ret v=>exact q3
 |false=>
  rw[if_neg Ff];exact L4 ⟨σ1,H2,I2,q2⟩
end
structure It where
 go:Nat->Hp->Prop
 yld:Nat->Hp->V->Hp->Prop
 stop:Nat->Hp->Prop
def ko(X:Cx)(pins:List (ES×Obj))(H:Hp)(b:ES):Prop:=
 H b=none/\b≠X.env.locals/\b ∉ X.fs/\(b∈X.ex\/X.s₀.heap.objs.size<=b)/\(∀x c,X.env.cells.lookup x=some c->c≠b)/\∀p∈X.pn++pins,p.1≠b
theorem Inv.fpOk{X:Cx}{pins:List (ES×Obj)}{σ:St}{H H':Hp}{s:EE}{b:ES}(I:Inv X pins σ H s)(hb:s.heap.objs.size<=b)(hn:H' b=none):ko X pins H' b:=by
 refine⟨hn,Js (Fu I.lt hb),I.nofs hb,.inr (Gg I.sz hb),λx c e z=>?_,λp hp z=>?_⟩
 ·obtain⟨v,q⟩:=I.cell x c e;exact absurd (Fu q.lt (by rw[z];exact hb)) (Fl _)
 ·exact absurd (Fu (EN (I.pin p hp).1) (by rw[z];exact hb)) (Fl _)
structure uF(P:E1)(w:Fz)(K:EC)(tg:Expr)(J:It)(fp:List ES)(it:ES)(tn:Nat->GS->Prop):Prop where
 mem:it∈fp
 obj:∀i h,tn i h->∀b∈fp,∃o,h.get? b=some o/\∀v,o.data≠.cell v
 keep:∀i h h',tn i h->(∀b∈fp,∀o,h.get? b=some o->h'.get? b=some o)->tn i h'
 item:∀(X:Cx),X.prog=P->X.w=w->X.K=K->X.calm=true->∀(i:Nat) (pins:List (ES×Obj)) (s:EE) (σ:St) (H:Hp) (E:EG->EE->Prop),Inv X pins σ H s->(∀b∈fp,ko X pins H b)->tn i s.heap->J.go i H->
  E2 (Fm P w) X.A (ID (.ref it)) (λr s1=>∃u,r=some u/\
   E2 (Fm P w) X.A (L5 tg (.ref it) u) (λ_ s2=>∃x H',Inv X pins σ H' s2/\aX x u/\J.yld i H x H'/\tn (i+1) s2.heap/\∀b∈fp,H' b=none) E s1) E s
 done:∀(X:Cx),X.prog=P->X.w=w->X.K=K->X.calm=true->∀(i:Nat) (pins:List (ES×Obj)) (s:EE) (σ:St) (H:Hp) (E:EG->EE->Prop),Inv X pins σ H s->(∀b∈fp,ko X pins H b)->tn i s.heap->J.stop i H->
  E2 (Fm P w) X.A (ID (.ref it)) (λr s1=>r=none/\Inv X pins σ H s1) E s
 self:∀(A:FQ) (i:Nat) (s:EE) (Q:EG->EE->Prop) (E:EG->EE->Prop),tn i s.heap->Q (.ref it) s->E2 (Fm P w) A (MV (.ref it)) Q E s
abbrev TI:=St->Hp->(It->Hp->Prop)->Prop
def PIE(X:Cx)(pins:List (ES×Obj))(σ:St)(tg:Expr)(R:It->Hp->Prop)(itv:EG)(s2:EE):Prop:=
 ∃(it:ES) (fp:List ES) (tn:Nat->GS->Prop) (J:It) (H':Hp),itv=.ref it/\Inv X pins σ H' s2/\uF X.prog X.w X.K tg J fp it tn/\tn 0 s2.heap/\(∀b∈fp,ko X pins H' b)/\R J H'
def PI(X:Cx)(tg iter:Expr)(wi:TI):Prop:=
 ∀(pins:List (ES×Obj)) (s:EE) (σ:St) (H:Hp) (R:It->Hp->Prop),Inv X pins σ H s->wi σ H R->
  E2 (Fm X.prog X.w) X.A (Io iter X.env) (λv s1=>E2 (Fm X.prog X.w) X.A (MV v) (PIE X pins σ tg R) X.xe s1) X.xe s
theorem oN{M:Model}{A:FQ}{E:EG->EE->Prop}{s:EE}{tg:Expr}{it:ES}{u:EG}{o:Obj}{n:String}{vs:Array EG}{Q:Unit->EE->Prop}(ho:s.heap.get? it=some o)(hc:o.cls=.type n)(hd:o.data=.fields vs)
  (hn:["enumerate","zip","dict_itemiterator","dict_reverseitemiterator","odict_iterator","itertools.zip_longest","itertools.pairwise"].contains n=false) (hQ:Q () s):E2 M A (L5 tg (.ref it) u) Q E s:=by
 unfold L5
 cases tg <;>first
  |exact Ez hQ
  | (cases u <;>first
    |exact Ez hQ
    | (refine Ew (wpAny_load ho ?_)
       rw[hc,hd];show E2 M A (if (["enumerate","zip","dict_itemiterator","dict_reverseitemiterator","odict_iterator","itertools.zip_longest","itertools.pairwise"].contains n && vs[0]?==some (Jx _))=true then _ else _) Q E s
       rw[if_neg (by intro h;rw[hn,Bool.false_and]at h;cases h)]
       exact Ez hQ))
def Itl(K:EC)(a:ES):It:=
 ⟨λi H=>∃xs x,SqL K H a xs/\xs[i]?=some x,λi H x H'=>H'=H/\∀xs,SqL K H a xs->xs[i]?=some x,λi H=>∃xs,SqL K H a xs/\xs.length<=i⟩
def Itt(K:EC)(a:ES):It:=
 ⟨λi H=>∃xs x,SqT K H a xs/\xs[i]?=some x,λi H x H'=>H'=H/\∀xs,SqT K H a xs->xs[i]?=some x,λi H=>∃xs,SqT K H a xs/\xs.length<=i⟩
def Itr(lo:Int)(n:Nat):It:=⟨λi _=>i<n,λi H x H'=>H'=H/\x=.int (lo+i),λi _=>n<=i⟩
theorem u8{P:E1}{w:Fz}{K:EC}{tg:Expr}(a it:ES):uF P w K tg (Itl K a) [it] it (λi h=>h.IsListIter it a i) where
 mem:=by simp
 obj:=λi h st b hb=>by
  have e:b=it:=by simpa using hb
  subst e;obtain⟨o,e,c,d⟩:=st;exact⟨o,e,λv z=>by rw[d]at z;cases z⟩
 keep:=λi h h' st k=>st.at λo e=>k it (by simp) o e
 item:=by
  intro X hP hw hK hc i pins s σ H E I hf st hg;subst hP hw hK;obtain⟨xs,x,hq,hx⟩:=hg;obtain⟨Qs,rv,p,hz⟩:=I.list hq;obtain⟨u,hu,ru⟩:=rv.get hx;obtain⟨f0,f1,f2,f3,f4,f5⟩:=hf it (by simp)
  refine wpAny_pyNext_list_item st p.isList (x:=u) (by simpa using hu) λh' Q6 sb=>?_
  have I1:Inv X pins σ H {s with heap:=h' }:=I.turned (t':=s.toks) (λb o hb e=>(sb.2 b hb).trans e) f0 f1 f3 f4 f5
  obtain⟨o,e,c,d⟩:=id Q6;exact⟨u,rfl,oN (s:={s with heap:=h' }) e c d (by decide) ⟨x,H,I1,ru,⟨rfl,λys hy=>by rw[I.list_inj hy hq];exact hx⟩,Q6,λb hb=>(hf b hb).1⟩⟩
 done:=by
  intro X hP hw hK hc i pins s σ H E I hf st hg;subst hP hw hK;obtain⟨xs,hq,hx⟩:=hg;obtain⟨Qs,rv,p,hz⟩:=I.list hq;obtain⟨f0,f1,f2,f3,f4,f5⟩:=hf it (by simp)
  have hl:=rv.length;exact wpAny_pyNext_list_end (I.ok.hd hc) st p.isList (by simp;lia) λh' eb=>⟨rfl,I.turned (t':=s.toks) (λb o hb e=>eb b o hb e) f0 f1 f3 f4 f5⟩
 self:=λ_ _ _ _ _ st h=>wpAny_pyIter_listiter st h
theorem qF{P:E1}{w:Fz}{K:EC}{tg:Expr}(a it:ES):uF P w K tg (Itt K a) [it] it (λi h=>h.IsTupleIter it a i) where
 mem:=by simp
 obj:=λi h st b hb=>by
  have e:b=it:=by simpa using hb
  subst e;obtain⟨o,e,c,d⟩:=st;exact⟨o,e,λv z=>by rw[d]at z;cases z⟩
 keep:=λi h h' st k=>st.at λo e=>k it (by simp) o e
 item:=by
  intro X hP hw hK hc i pins s σ H E I hf st hg;subst hP hw hK;obtain⟨xs,x,hq,hx⟩:=hg;obtain⟨Qs,rv,p,hz⟩:=I.tuple hq;obtain⟨u,hu,ru⟩:=rv.get hx;obtain⟨f0,f1,f2,f3,f4,f5⟩:=hf it (by simp)
  refine wpAny_pyNext_tuple_item st (show s.heap.IsTuple a Qs.toArray from p) (x:=u) (by simpa using hu) λh' Q6 sb=>?_
  have I1:Inv X pins σ H {s with heap:=h' }:=I.turned (t':=s.toks) (λb o hb e=>(sb.2 b hb).trans e) f0 f1 f3 f4 f5
  obtain⟨o,e,c,d⟩:=id Q6;exact⟨u,rfl,oN (s:={s with heap:=h' }) e c d (by decide) ⟨x,H,I1,ru,⟨rfl,λys hy=>by rw[I.tuple_inj hy hq];exact hx⟩,Q6,λb hb=>(hf b hb).1⟩⟩
 done:=by
  intro X hP hw hK hc i pins s σ H E I hf st hg;subst hP hw hK;obtain⟨xs,hq,hx⟩:=hg;obtain⟨Qs,rv,p,hz⟩:=I.tuple hq;obtain⟨f0,f1,f2,f3,f4,f5⟩:=hf it (by simp)
  have hl:=rv.length;exact wpAny_pyNext_tuple_end (I.ok.hd hc) st (show s.heap.IsTuple a Qs.toArray from p) (by simp;lia) λh' eb=>⟨rfl,I.turned (t':=s.toks) (λb o hb e=>eb b o hb e) f0 f1 f3 f4 f5⟩
 self:=λ_ _ _ _ _ st h=>wpAny_pyIter_tupleiter st h
theorem jG{P:E1}{w:Fz}{K:EC}{tg:Expr}(it:ES)(lo:Int)(n:Nat):uF P w K tg (Itr lo n) [it] it (λi h=>Ob h it (lo+(i:Nat) *1) ((n:Int)-(i:Nat)) 1) where
 mem:=by simp
 obj:=λi h st b hb=>by
  have e:b=it:=by simpa using hb
  subst e
  exact⟨_,st,λv z=>by
   have z':Data.fields _=Data.cell v:=z;cases z'⟩
 keep:=λi h h' st k=>k it (by simp) _ st
 item:=by
  intro X hP hw hK hc i pins s σ H E I hf st hg;subst hP hw hK;obtain⟨f0,f1,f2,f3,f4,f5⟩:=hf it (by simp)
  have W:=Walks.range (prog:=X.prog) (w:=X.w) (I.ok.hd hc) it lo 1 n;refine W.item i s _ _ hg st λv h' tk hv Q6 kk=>?_
  obtain⟨t,rfl⟩:=hv;have I1:Inv X pins σ H {s with heap:=h',toks:=tk }:=I.turned (λb o hb e=>kk b o (by simpa using hb) e) f0 f1 f3 f4 f5
  refine⟨_,rfl,oN (s:={s with heap:=h',toks:=tk }) (n:="range_iterator") Q6 rfl rfl (by decide) ⟨.int (lo+i),H,I1,⟨t,?_⟩,⟨rfl,rfl⟩,Q6,λb hb=>(hf b hb).1⟩⟩
  rw[JQ]
 done:=by
  intro X hP hw hK hc i pins s σ H E I hf st hg;subst hP hw hK;obtain⟨f0,f1,f2,f3,f4,f5⟩:=hf it (by simp)
  exact wpAny_pyNext_range_end (I.ok.hd hc) st (by have:n<=i:=hg;lia) λh' eb=>⟨rfl,I.turned (t':=s.toks) (λb o hb e=>eb b o hb e) f0 f1 f3 f4 f5⟩
 self:=λ_ _ _ _ _ st h=>wpAny_pyIter_rangeiter st h
section
variable {X:Cx}{tg:Expr}
def DC(K:EC)(tl:TE):TI:=λσ H R=>tl σ H λx H1=>∃a,x=.ref a/\(∃xs,SqL K H1 a xs)/\R (Itl K a) H1
def Ea(K:EC)(tl:TE):TI:=λσ H R=>tl σ H λx H1=>∃a,x=.ref a/\(∃xs,SqT K H1 a xs)/\R (Itt K a) H1
theorem zw{l:Expr}{tl:TE}(hl:PE X l tl):PI X tg l (DC X.K tl):=by
 intro pins s σ H R I h;refine thn (hl pins s σ H _ I h) λv s1 ⟨x,H1,I1,r1,q1⟩=>?_
 obtain⟨a,e,⟨xs,hq⟩,q⟩:=q1;subst e;cases r1;obtain⟨Qs,rv,p,hz⟩:=I1.list hq;refine GZ p.isList ?_;refine⟨s1.heap.objs.size,[s1.heap.objs.size],_,_,H1,rfl,I1.kept (t':=s1.toks) λb o e=>EA _ e,u8 a _,⟨_,EM _ rfl,rfl,rfl⟩,λb hb=>?_,q⟩
 have e:b=s1.heap.objs.size:=by simpa using hb
 subst e;exact I1.fpOk (EL _) (I1.hok.fresh (EL _))
theorem CT{l:Expr}{tl:TE}(hl:PE X l tl):PI X tg l (Ea X.K tl):=by
 intro pins s σ H R I h;refine thn (hl pins s σ H _ I h) λv s1 ⟨x,H1,I1,r1,q1⟩=>?_
 obtain⟨a,e,⟨xs,hq⟩,q⟩:=q1;subst e;cases r1;obtain⟨Qs,rv,p,hz⟩:=I1.tuple hq;refine KF (show s1.heap.IsTuple a Qs.toArray from p) ?_
 refine⟨s1.heap.objs.size,[s1.heap.objs.size],_,_,H1,rfl,I1.kept (t':=s1.toks) λb o e=>EA _ e,qF a _,⟨_,EM _ rfl,rfl,rfl⟩,λb hb=>?_,q⟩
 have e:b=s1.heap.objs.size:=by simpa using hb
 subst e;exact I1.fpOk (EL _) (I1.hok.fresh (EL _))
theorem v8{pins:List (ES×Obj)}{σ:St}{H:Hp}{s:EE}{R:It->Hp->Prop}{E:EG->EE->Prop}{lo hi:Int}{t u v:Tok}{tk:Nat}(I:Inv X pins σ H s)(h1:-(2 ^ 62)<=lo)(h2:lo<2 ^ 62)(h3:-(2 ^ 62)<=hi)(h4:hi<2 ^ 62)
  (q:R (Itr lo (hi-lo).toNat) H):E2 (Fm X.prog X.w) X.A (MV (.ref s.heap.objs.size)) (PIE X pins σ tg R) E {s with heap:=s.heap.push {cls:=.type "range",data:=.fields #[.int lo t,.int hi u,.int 1 v] },toks:=tk }:=by
 refine Nb (IsRange.new ..) (small_one h1 h2 h3 h4) ?_;have I1:Inv X pins σ H {s with heap:=s.heap.push {cls:=.type "range",data:=.fields #[.int lo t,.int hi u,.int 1 v] },toks:=tk }:=I.kept λb o e=>EA _ e
 refine⟨(s.heap.push {cls:=.type "range",data:=.fields #[.int lo t,.int hi u,.int 1 v] }).objs.size,[(s.heap.push {cls:=.type "range",data:=.fields #[.int lo t,.int hi u,.int 1 v] }).objs.size],_,_,H,rfl,
  I1.kept (t':=tk) λb o e=>EA _ e,jG _ lo (hi-lo).toNat,?_,λb hb=>?_,q⟩
 ·have e1:lo+((0:Nat):Int) *1=lo:=by simp
  have e2:(((hi-lo).toNat:Nat):Int)-((0:Nat):Int)=Builtin.Range.rangeSize lo hi 1:=by rw[rangeSize_one];split <;>lia
  show Ob _ _ (lo+((0:Nat):Int) *1) ((((hi-lo).toNat:Nat):Int)-((0:Nat):Int)) 1;rw[e1,e2];exact EM _ rfl
 ·have e:b=(s.heap.push {cls:=.type "range",data:=.fields #[.int lo t,.int hi u,.int 1 v] }).objs.size:=by simpa using hb
  subst e;exact I1.fpOk (EL _) (I1.hok.fresh (EL _))
def DB(ta:TA):TI:=λσ H R=>ta σ H λvs H1=>∃j:Int,vs=[.int j]/\-(2 ^ 62)<=j/\j<2 ^ 62/\R (Itr 0 j.toNat) H1
theorem vO{a:Expr}{ta:TA}{p pos:Pos}(hg:Gl X "range")(hm:X.mg "range"=none)(ha:PA X [a] ta)(hs:EO [a] X.env=[(false,Io a X.env)]:=by rfl):PI X tg (.Call (.Name "range" p) [a] [] pos) (DB ta):=by
 intro pins s σ H R I h;refine Call_ (cg I hg hm O1 (PyProof.Rows.callWith_type1 (thn (ha pos pins s σ H _ I h) λus s1 ⟨vs,H1,I1,r1,q1⟩=>?_) hs rfl))
 obtain⟨j,e,q1,q2,q⟩:=q1;subst e;cases r1 with
 |cons r rr=>
  cases rr;obtain⟨t,rfl⟩:=r;exact call_range_1 (v8 I1 (by lia) (by lia) q1 q2 (by simpa using q))
def Ec(wi:TI)(g:TG)(tb:TS):TS:=λD σ H=>wi σ H λJ H1=>∃W:Nat->Nat->St->Hp->Prop,(∃m,W 0 m σ H1)/\∀i m σ H,W i m σ H->
 (J.stop i H/\D.nx σ H)\/(J.go i H/\∃N:St->Hp->Prop,(∀QC H',N QC H'->∃m',m'<m/\W (i+1) m' QC H')/\∀x H',J.yld i H x H'->g x σ H' λσ2 H2=>tb {D with nx:=N,ct:=N,bk:=D.nx } σ2 H2)
def kJ(fp:List ES)(h:GS):List (ES×Obj):=fp.filterMap λb=>(h.get? b).map λo=>(b,o)
theorem di{fp:List ES}{h:GS}{b:ES}{o:Obj}(hb:b∈fp)(e:h.get? b=some o):(b,o)∈kJ fp h:=KG.mpr ⟨b,hb,by rw[e];rfl⟩
theorem uU{fp:List ES}{h:GS}{p:ES×Obj}(hp:p∈kJ fp h):p.1∈fp/\h.get? p.1=some p.2:=by
 obtain⟨b,hb,e⟩:=KG.mp hp;cases q:h.get? b with
 |none=>rw[q]at e;cases e
 |some o=>
  rw[q]at e;have e':(b,o)=p:=Fk e;subst e';exact⟨hb,q⟩
theorem Inv.pinned{pins:List (ES×Obj)}{σ:St}{H:Hp}{s:EE}{fp:List ES}(I:Inv X pins σ H s)(hf:∀b∈fp,ko X pins H b)(ho:∀b∈fp,∃o,s.heap.get? b=some o/\∀v,o.data≠.cell v):Inv X (pins++kJ fp s.heap) σ H s:=
 I.pins_of λp hp=>(EX.mp hp).elim (λz=>I.pin p (EW _ z)) λz=>by
  obtain⟨hb,e⟩:=uU z;obtain⟨f0,f1,f2,_⟩:=hf p.1 hb;obtain⟨o,e',d⟩:=ho p.1 hb;rw[e]at e';cases e';exact⟨e,f0,f1,f2,d⟩
theorem Inv.unpinned{pins pl:List (ES×Obj)}{σ:St}{H:Hp}{s:EE}(I:Inv X (pins++pl) σ H s):Inv X pins σ H s:=I.pins_of λp hp=>I.pin p (EW _ (E8 _ hp))
theorem y6{iter:Expr}{QP:List HL}{wi:TI}{g:TG}{tb:TS}{pos:Pos}(hp:Ld (Fm X.prog X.w) X.A X.env X.xe)(hc:X.calm=true)(hi:PI X tg iter wi)(hg:PG X tg g)(hb:PSs X QP tb)
  (hs:∀x,Gm iter X.env x=pure x:=by intro _;rfl):PS X (.For tg iter QP [] pos) (Ec wi g tb):=by
 intro pins s σ H D I h;refine wpAny_For (thn (hi pins s σ H _ I h) λv s1 h1=>thn h1 λitv s2 h2=>?_) hs
 obtain⟨it,fp,tn,J,H2,e,I2,T,st2,f2,W,⟨m0,w0⟩,turn⟩:=h2;subst e;have stat:∀{H':Hp},(∀b∈fp,H' b=none)->∀b∈fp,ko X pins H' b:=λhn b hb=>⟨hn b hb,(f2 b hb).2⟩
 refine codeAny_forLoop_any (λn s'=>∃i QC H',Inv X pins QC H' s'/\tn i s'.heap/\(∀b∈fp,H' b=none)/\W i n QC H') ?_ m0 ⟨0,σ,H2,I2,st2,λb hb=>(f2 b hb).1,w0⟩
 rintro n s3 ⟨i,SX,H3,I3,st3,fr3,w3⟩;rcases turn i n SX H3 w3 with ⟨stop,qn⟩ |⟨go,N,hN,step⟩
 ·refine Ij hp (thn (T.done X rfl rfl rfl hc i pins s3 SX H3 X.xe I3 (stat fr3) st3 stop) λr s4 ⟨hr,I4⟩=>?_)
  subst hr;exact L4 ⟨SX,H3,I4,qn⟩
 ·refine Ij hp (thn (T.item X rfl rfl rfl hc i pins s3 SX H3 X.xe I3 (stat fr3) st3 go) λr s4 ⟨u,hr,h4⟩=>?_)
  subst hr;refine Ij hp (thn h4 λ_ s5 ⟨x,H5,I5,r5,y5,TM,fr5⟩=>?_)
  have I5':=I5.pinned (stat fr5) (T.obj _ _ TM);refine Ij hp (thn (hg _ s5 SX H5 x u _ I5' r5 (step x H5 y5)) λ_ s6 ⟨σ6,H6,I6,q6⟩=>?_)
  refine Ij hp (thn (hb _ s6 σ6 H6 _ I6 q6) λf s7 q7=>?_)
  have again:∀{SY:St}{H7:Hp},Inv X (pins++kJ fp s5.heap) SY H7 s7->N SY H7->∃m,m<n/\∃i QC H',Inv X pins QC H' s7/\tn i s7.heap/\(∀b∈fp,H' b=none)/\W i m QC H':=λ{SY H7} I7 n7=>by
   obtain⟨m',hm,w7⟩:=hN SY H7 n7;refine⟨m',hm,i+1,SY,H7,I7.unpinned,T.keep _ _ _ TM λb hb o e=>(I7.pin (b,o) (EW _ (EW _ (di hb e)))).1,λb hb=>?_,w7⟩
   obtain⟨o,e,d⟩:=T.obj _ _ TM b hb;exact (I7.pin (b,o) (EW _ (EW _ (di hb e)))).2.1
  cases f with
  |next=>obtain⟨SY,H7,I7,n7⟩:=q7;exact again I7 n7
  |cont=>obtain⟨SY,H7,I7,n7⟩:=q7;exact again I7 n7
  |brk=>obtain⟨SY,H7,I7,q7⟩:=q7;exact⟨SY,H7,I7.unpinned,q7⟩
  |ret v=>obtain⟨x7,SY,H7,I7,r7,q7⟩:=q7;exact⟨x7,SY,H7,I7.unpinned,r7,q7⟩
end
abbrev R2:=V->V->Hp->VK->Prop
def OpR(X:Cx)(f:EG->EG->Sem EG)(r:R2):Prop:=
 ∀(pins:List (ES×Obj)) (s:EE) (σ:St) (H:Hp) (x y:V) (v u:EG) (Q:VK),Inv X pins σ H s->aX x v->aX y u->r x y H Q->
  E2 (Fm X.prog X.w) X.A (f v u) (EP X pins σ Q) X.xe s
def UnR(X:Cx)(f:EG->Sem EG)(r:V->Hp->VK->Prop):Prop:=
 ∀(pins:List (ES×Obj)) (s:EE) (σ:St) (H:Hp) (x:V) (v:EG) (Q:VK),Inv X pins σ H s->aX x v->r x H Q->
  E2 (Fm X.prog X.w) X.A (f v) (EP X pins σ Q) X.xe s
def cR(X:Cx)(f:EG)(r:List V->Hp->VK->Prop):Prop:=
 ∀(pins:List (ES×Obj)) (s:EE) (σ:St) (H:Hp) (xs:List V) (us:List EG) (Q:VK),Inv X pins σ H s->aO xs us->r xs H Q->
  E2 (Fm X.prog X.w) X.A (call f us) (EP X pins σ Q) X.xe s
def tOp(r:R2)(ta tb:TE):TE:=λσ H Q=>ta σ H λx H1=>tb σ H1 λy H2=>r x y H2 Q
def tUn(r:V->Hp->VK->Prop)(ta:TE):TE:=λσ H Q=>ta σ H λx H1=>r x H1 Q
def rI(C:Int->Int->Prop)(g:Int->Int->V):R2:=λx y H Q=>∃i j,x=.int i/\y=.int j/\C i j/\Q (g i j) H
def rI0(g:Int->Int->V):R2:=λx y H Q=>∃i j,x=.int i/\y=.int j/\Q (g i j) H
def rU(g:Int->V):V->Hp->VK->Prop:=λx H Q=>∃i,x=.int i/\Q (g i) H
section
variable {X:Cx}{a b c:Expr}{tc:TE}
theorem B6(ha:PE X a ta)(hb:PE X b tb){pins:List (ES×Obj)}{s:EE}{σ:St}{H:Hp}{R:V->V->Hp->Prop}(I:Inv X pins σ H s)
  (h:ta σ H λx H1=>tb σ H1 λy H2=>R x y H2) {Q:EG->EE->Prop}{f:EG->EG->Sem EG}
  (hf:∀v u s2 x y H2,Inv X pins σ H2 s2->aX x v->aX y u->R x y H2->E2 (Fm X.prog X.w) X.A (f v u) Q X.xe s2):
  E2 (Fm X.prog X.w) X.A (Io a X.env) (λv Qw=>E2 (Fm X.prog X.w) X.A (Io b X.env) (λu Rr=>E2 (Fm X.prog X.w) X.A (f v u) Q X.xe Rr) X.xe Qw) X.xe s:=by
 refine thn (ha pins s σ H _ I h) λv s1 ⟨x,H1,I1,r1,q1⟩=>?_
 refine thn (hb pins s1 σ H1 _ I1 q1) λu s2 ⟨y,H2,I2,r2,q2⟩=>?_
 exact hf v u s2 x y H2 I2 r1 r2 q2
theorem tZ{op:Pk}{r:R2}(ho:OpR X (JY op) r)(ha:PE X a ta)(hb:PE X b tb):PE X (.BinOp a op b pos) (tOp r ta tb):=by
 intro pins s σ H Q I h;exact wpAny_BinOp (B6 ha hb I h λv u s2 x y H2 I2 rx ry q=>ho pins s2 σ H2 x y v u Q I2 rx ry q)
theorem Du{op:UnaryOp}{r:V->Hp->VK->Prop}(ho:UnR X (unaryOp op) r)(ha:PE X a ta):PE X (.UnaryOp op a pos) (tUn r ta):=by
 intro pins s σ H Q I h;exact UnaryOp_ (thn (ha pins s σ H _ I h) λv s1 ⟨x,H1,I1,r1,q1⟩=>ho pins s1 σ H1 x v Q I1 r1 q1)
theorem opI{f:EG->EG->Sem EG}{C:Int->Int->Prop}{g:Int->Int->Int}
  (rule:∀(i j:Int) (t u:Tok) (s:EE) (Q:EG->EE->Prop) (E:EG->EE->Prop),C i j->Q (.int (g i j) s.toks) {s with toks:=s.toks+1 }->E2 (Fm X.prog X.w) X.A (f (.int i t) (.int j u)) Q E s):
  OpR X f (rI C λi j=>.int (g i j)):=by
 intro pins s σ H x y v u Q I rx ry h;obtain⟨i,j,rfl,rfl,hc,q⟩:=h;obtain⟨t,rfl⟩:=rx;obtain⟨t',rfl⟩:=ry;exact rule i j t t' s _ _ hc ⟨.int (g i j),H,I.tok _,⟨_,rfl⟩,q⟩
theorem Dg{f:EG->EG->Sem EG}{g:Int->Int->Int}
  (rule:∀(i j:Int) (t u:Tok) (s:EE) (Q:EG->EE->Prop) (E:EG->EE->Prop),Q (.int (g i j) s.toks) {s with toks:=s.toks+1 }->E2 (Fm X.prog X.w) X.A (f (.int i t) (.int j u)) Q E s):
  OpR X f (rI0 λi j=>.int (g i j)):=by
 intro pins s σ H x y v u Q I rx ry h;obtain⟨i,j,rfl,rfl,q⟩:=h;obtain⟨t,rfl⟩:=rx;obtain⟨t',rfl⟩:=ry;exact rule i j t t' s _ _ ⟨.int (g i j),H,I.tok _,⟨_,rfl⟩,q⟩
theorem B0{f:EG->EG->Sem EG}{g:Int->Int->Bool}
  (rule:∀(i j:Int) (t u:Tok) (s:EE) (Q:EG->EE->Prop) (E:EG->EE->Prop),Q (.bool (g i j)) s->E2 (Fm X.prog X.w) X.A (f (.int i t) (.int j u)) Q E s):
  OpR X f (rI0 λi j=>.bl (g i j)):=by
 intro pins s σ H x y v u Q I rx ry h;obtain⟨i,j,rfl,rfl,q⟩:=h;obtain⟨t,rfl⟩:=rx;obtain⟨t',rfl⟩:=ry;exact rule i j t t' s _ _ ⟨.bl (g i j),H,I,rfl,q⟩
def Dd(i j:Int):Prop:=0<=j/\j<=1000000/\i.natAbs<2 ^ 64
theorem xt:OpR X (JY .Add) (rI0 λi j=>.int (i+j)):=Dg λ_ _ _ _ _ _ _ q=>add_int q
theorem Ch:OpR X (JY .Sub) (rI0 λi j=>.int (i-j)):=Dg λ_ _ _ _ _ _ _ q=>sub_int q
theorem Cb:OpR X (JY .Mod) (rI (λ_ j=>0<j) λi j=>.int (i%j)):=opI λi j _ _ _ _ _ hc q=>by
 have h1:(0:Int)<j:=hc;exact mod_int' (by lia) (by rw[Int.fmod_eq_emod_of_nonneg i (by lia)];exact q)
theorem CH:OpR X (JY .Pow) (rI Dd λi j=>.int (i ^ j.toNat)):=opI λ_ _ _ _ _ _ _ hc q=>pow_int_small hc.1 hc.2.1 hc.2.2 q
theorem unI{f:EG->Sem EG}{g:Int->Int}
  (rule:∀(i:Int) (t:Tok) (s:EE) (Q:EG->EE->Prop) (E:EG->EE->Prop),Q (.int (g i) s.toks) {s with toks:=s.toks+1 }->E2 (Fm X.prog X.w) X.A (f (.int i t)) Q E s):
  UnR X f (rU λi=>.int (g i)):=by
 intro pins s σ H x v Q I rx h;obtain⟨i,rfl,q⟩:=h;obtain⟨t,rfl⟩:=rx;exact rule i t s _ _ ⟨.int (g i),H,I.tok _,⟨_,rfl⟩,q⟩
theorem BV:UnR X (unaryOp .USub) (rU λi=>.int (-i)):=unI λ_ _ _ _ _ q=>neg_int q
end
def Dm:V->V->Bool
 | .non,.non=>true | .non,.int _=>true | .int _,.non=>true | .non,.bl _=>true | .bl _,.non=>true | .non,.str _=>true | .str _,.non=>true
 | .int _,.int _=>true | .bl _,.bl _=>true | .str _,.str _=>true | .byt _,.byt _=>true
 | .int _,.str _=>true | .str _,.int _=>true | .bl _,.str _=>true | .str _,.bl _=>true
 |_,_=>false
def rEq:R2:=λx y H Q=>Dm x y=true/\Q (.bl (decide (x=y))) H
def rNe:R2:=λx y H Q=>Dm x y=true/\Q (.bl (!decide (x=y))) H
theorem ji{i j:Int}:decide (V.int i=V.int j)=(i==j):=by
 rw[Hm];simp
theorem wa{i j:Bool}:decide (V.bl i=V.bl j)=(i==j):=by
 rw[Hm];simp
theorem sS{i j:Str}:decide (V.str i=V.str j)=(i==j):=by
 rw[Hm];simp
theorem uh{i j:Array UInt8}:decide (V.byt i=V.byt j)=(i.toList==j.toList):=by
 rw[Hm];cases i;cases j;simp
section
variable {X:Cx}{a b c:Expr}{tc:TE}
theorem aV{pins:List (ES×Obj)}{σ:St}{H:Hp}{s:EE}{Q:VK}{k k':Bool}(I:Inv X pins σ H s)(q:Q (.bl k) H)(e:k=k'):EP X pins σ Q (.bool k') s:=by
 subst e;exact⟨.bl k,H,I,rfl,q⟩
theorem DT:OpR X (GQ .Eq) rEq:=by
 intro pins s σ H x y v u Q I rx ry h;obtain⟨hs,q⟩:=h;cases x with
 |non=>
  cases rx;cases y with
  |non=>cases ry;exact Oy (aV I q (by simp))
  |bl j=>cases ry;exact Oz (aV I q (by simp))
  |int j=>obtain⟨t',rfl⟩:=ry;exact O4 (aV I q (by simp))
  |str j=>obtain⟨t',rfl⟩:=ry;exact O5 (aV I q (by simp))
  |_=>exact absurd (show false=true from hs) Ff
 |bl i=>
  cases rx;cases y with
  |non=>cases ry;exact OA (aV I q (by simp))
  |bl j=>cases ry;exact eq_bool (aV I q wa)
  |str j=>obtain⟨t',rfl⟩:=ry;exact OB (aV I q (by simp))
  |_=>exact absurd (show false=true from hs) Ff
 |int i=>
  obtain⟨t,rfl⟩:=rx;cases y with
  |non=>cases ry;exact O6 (aV I q (by simp))
  |int j=>obtain⟨t',rfl⟩:=ry;exact eq_int (aV I q ji)
  |str j=>obtain⟨t',rfl⟩:=ry;exact O7 (aV I q (by simp))
  |_=>exact absurd (show false=true from hs) Ff
 |str i=>
  obtain⟨t,rfl⟩:=rx;cases y with
  |non=>cases ry;exact O8 (aV I q (by simp))
  |bl j=>cases ry;exact OC (aV I q (by simp))
  |int j=>obtain⟨t',rfl⟩:=ry;exact O9 (aV I q (by simp))
  |str j=>obtain⟨t',rfl⟩:=ry;exact eq_str (aV I q sS)
  |_=>exact absurd (show false=true from hs) Ff
 |byt i=>
  obtain⟨t,rfl⟩:=rx;cases y with
  |byt j=>obtain⟨t',rfl⟩:=ry;exact PySem.W.eq_bytes (aV I q uh)
  |_=>exact absurd (show false=true from hs) Ff
 |_=>cases y <;>exact absurd (show false=true from hs) Ff
theorem DG:OpR X (GQ .NotEq) rNe:=by
 intro pins s σ H x y v u Q I rx ry h;obtain⟨hs,q⟩:=h;cases x with
 |non=>
  cases rx;cases y with
  |non=>cases ry;exact OD (aV I q (by simp))
  |bl j=>cases ry;exact OE (aV I q (by simp))
  |int j=>obtain⟨t',rfl⟩:=ry;exact O_ (aV I q (by simp))
  |str j=>obtain⟨t',rfl⟩:=ry;exact Pa (aV I q (by simp))
  |_=>exact absurd (show false=true from hs) Ff
 |bl i=>
  cases rx;cases y with
  |non=>cases ry;exact OF (aV I q (by simp))
  |bl j=>cases ry;exact ne_bool (aV I q (congrArg not wa))
  |str j=>obtain⟨t',rfl⟩:=ry;exact OG (aV I q (by simp))
  |_=>exact absurd (show false=true from hs) Ff
 |int i=>
  obtain⟨t,rfl⟩:=rx;cases y with
  |non=>cases ry;exact Pb (aV I q (by simp))
  |int j=>obtain⟨t',rfl⟩:=ry;exact ne_int (aV I q (congrArg not ji))
  |str j=>obtain⟨t',rfl⟩:=ry;exact Pc (aV I q (by simp))
  |_=>exact absurd (show false=true from hs) Ff
 |str i=>
  obtain⟨t,rfl⟩:=rx;cases y with
  |non=>cases ry;exact Pd (aV I q (by simp))
  |bl j=>cases ry;exact OH (aV I q (by simp))
  |int j=>obtain⟨t',rfl⟩:=ry;exact Pe (aV I q (by simp))
  |str j=>obtain⟨t',rfl⟩:=ry;exact ne_str (aV I q (congrArg not sS))
  |_=>exact absurd (show false=true from hs) Ff
 |byt i=>
  obtain⟨t,rfl⟩:=rx;cases y with
  |byt j=>obtain⟨t',rfl⟩:=ry;exact PySem.W.ne_bytes (aV I q (congrArg not uh))
  |_=>exact absurd (show false=true from hs) Ff
 |_=>cases y <;>exact absurd (show false=true from hs) Ff
theorem C4:OpR X (GQ .Lt) (rI0 λi j=>.bl (decide (i<j))):=B0 λ_ _ _ _ _ _ _ q=>lt_int q
theorem Dq:OpR X (GQ .LtE) (rI0 λi j=>.bl (decide (i<=j))):=B0 λ_ _ _ _ _ _ _ q=>le_int q
theorem DF:OpR X (GQ .Gt) (rI0 λi j=>.bl (decide (j<i))):=B0 λ_ _ _ _ _ _ _ q=>gt_int q
theorem w6(b:Expr){op:Qa}(h:op≠.In:=by decide)(h2:op≠.NotIn:=by decide):Jy op b=false:=by
 have e1:(op==CmpOp.In)=false:=by cases op <;>first |rfl |exact absurd rfl h
 have e2:(op==CmpOp.NotIn)=false:=by cases op <;>first |rfl |exact absurd rfl h2
 cases b <;>simp[Jy,e1,e2]
theorem Ae{op:Qa}{r:R2}(ho:OpR X (GQ op) r)(ha:PE X a ta)(hb:PE X b tb)(hm:Jy op b=false):PE X (.Compare a [op] [b] pos) (tOp r ta tb):=by
 intro pins s σ H Q I h;exact wpAny_Compare1 (B6 ha hb I h λv u s2 x y H2 I2 rx ry q=>ho pins s2 σ H2 x y v u Q I2 rx ry q) hm
def Dt(t:TE):TT:=λσ H Q=>t σ H λx H'=>∃k,x=.bl k/\Q k H'
theorem A0{op:Qa}{r:R2}(ho:OpR X (GQ op) r)(ha:PE X a ta)(hb:PE X b tb)(hm:Jy op b=false):PT X (.Compare a [op] [b] pos) (Dt (tOp r ta tb)):=by
 intro pins s σ H Q I h
 refine wpAny_isTrue_Compare1 (thn (ha pins s σ H _ I h) λv s1 ⟨x,H1,I1,r1,q1⟩=>thn (hb pins s1 σ H1 _ I1 q1) λu s2 ⟨y,H2,I2,r2,q2⟩=>
  thn (ho pins s2 σ H2 x y v u _ I2 r1 r2 q2) λc s3 ⟨z,H3,I3,r3,k,e,q3⟩=>?_) hm
 subst e;cases r3;exact Hf ⟨H3,I3,q3⟩
theorem qV:(sizeLine:Nat)<2 ^ 63:=by rw[F3];decide
theorem c9{x:V}{us:List EG}(r:aO [x] us):∃u,us=[u]/\aX x u:=by
 cases r with
 |cons r1 r2=>cases r2;exact⟨_,rfl,r1⟩
theorem fY{x y:V}{us:List EG}(r:aO [x,y] us):∃u w',us=[u,w']/\aX x u/\aX y w':=by
 cases r with
 |cons r1 r2=>
  cases r2 with
  |cons r3 r4=>cases r4;exact⟨_,_,rfl,r1,r3⟩
theorem wY:cR X (.builtin "abs") (λxs H Q=>∃i,xs=[.int i]∧Q (.int (if i<0 then -i else i)) H):=by
 intro pins s σ H xs us Q I r h;obtain⟨i,rfl,q⟩:=h;obtain⟨u,rfl,t,rfl⟩:=c9 r;exact call_abs_int λu tk=>⟨.int (if i<0 then -i else i),H,I.tok _,⟨_,rfl⟩,q⟩
theorem v4(hc:X.calm=true):cR X (.builtin "min") (λxs H Q=>∃i j,xs=[.int i,.int j]∧Q (.int (if j<i then j else i)) H):=by
 intro pins s σ H xs us Q I r h;obtain⟨i,j,rfl,q⟩:=h;obtain⟨u,w',rfl,⟨t,rfl⟩,⟨t',rfl⟩⟩:=fY r;refine min_two_ints (I.ok.hd hc) λh' tk k=>⟨_,H,I.kept k,?_,q⟩
 by_cases hj:j<i
 ·rw[if_pos hj,if_pos hj];exact⟨_,rfl⟩
 ·rw[if_neg hj,if_neg hj];exact⟨_,rfl⟩
theorem u_:cR X (.type "int") (λxs H Q=>(∃i,xs=[.int i]∧Q (.int i) H)∨∃k,xs=[.bl k]∧Q (.int (if k then 1 else 0)) H):=by
 intro pins s σ H xs us Q I r h;rcases h with ⟨i,rfl,q⟩ |⟨k,rfl,q⟩
 ·obtain⟨u,rfl,t,rfl⟩:=c9 r;exact call_int_int ⟨.int i,H,I,⟨_,rfl⟩,q⟩
 ·obtain⟨u,rfl,r1⟩:=c9 r;cases r1;exact call_int_bool ⟨.int (if k then 1 else 0),H,I.tok _,⟨_,rfl⟩,q⟩
end
structure CY(h:GS)(x dx C:ES)(mA:Str->Option EG):Prop where
 obj:h.get? x=some (L3 C dx)
 ns:h.Ns1 dx mA
 ne:dx≠x
theorem vF{h:GS}{dx:ES}{mA:Str->Option EG}(n:h.Ns1 dx mA):∃od,h.get? dx=some od/\∀name,MW name od=some (mA name):=by
 obtain⟨o,es,ep,ho,hd,hk,_,hm⟩:=n;refine⟨o,ho,λname=>?_⟩
 have e:=hm name;unfold nsFind findBy at e;rw[<-Array.find?_toList]at e;unfold MW;rw[hd];dsimp only;split
 ·rename_i y q
  rw[q]at e;exact congrArg some e
 ·rename_i q
  rw[q]at e
  have a:es.toList.any (·.refKey)=false:=by
   rw[List.any_eq_false];intro y hy;obtain⟨z,t,hkey⟩:=hk y (Ig.mp hy);simp[DictEntry.refKey,hkey]
  have a':¬ es.toList.any (·.refKey)=true:=by rw[a];exact Ff
  rw[if_neg a'];exact congrArg some e
theorem CY.look{h:GS}{x dx C:ES}{mA:Str->Option EG}(I:CY h x dx C mA):∃od,PySem.W.InstAt h x (L3 C dx) C (some od)/\∀name,MW name od=some (mA name):=
 let ⟨od,ho,hl⟩:=vF I.ns
 ⟨od,⟨I.obj,rfl,rfl,ho⟩,hl⟩
def putF(f:Str)(v:V):List (Str×V)->List (Str×V)
 |[]=>[(f,v)]
 | (g,x)::r=>if g=f then (g,v)::r else (g,x)::putF f v r
section
variable {P:E1}{w:Fz}{h:GS}{a C dx:ES}{fs fs':List (Str×V)}
theorem zK(hok:HOk P w H h)(e:H a=some (.ins C dx fs)):∃mA,CY h a dx C mA/\(∀f,CD (fs.lookup f) (mA f))/\PH mA (fs.map (·.1))/\fs.length<=1000/\H dx=some (.own a):=by
 obtain⟨d,z,ne,ob,mA,n,r,q⟩:=(show bD P w H h a (.ins C dx fs) from hok a _ e)
 exact⟨mA,⟨ob,n,ne⟩,r,q,z,d⟩
end
structure Cls(K:EC)(C:ES):Prop where
 pg:NV K C Str.empty=true
 hd:PySem.W.hasDictIn K C=true
 po:PySem.W.plainOver K C=true
 sa:OJ K (.ref C) "__setattr__"=some (some (.builtin "object.__setattr__"))
theorem Cls.get{K:EC}{C:ES}(c:Cls K C)(f:Str):NV K C f=true:=c.pg
section
variable {X:Cx}{A:FQ}{Q:EG→EE→Prop}{c:EG}{b:Bool}
inductive je (K:EC) (H:Hp):V->EG->Prop where
 |non:je K H .non (.type "NoneType")
 |bl (x:Bool):je K H (.bl x) (.type "bool")
 |int (i:Int):je K H (.int i) (.type "int")
 |str (x:Str):je K H (.str x) (.type "str")
 |flt (x:UInt64):je K H (.flt x) (.type "float")
 |lst {a:ES}{xs:List V} (e:H a=some (.lst xs)):je K H (.ref a) (.type "list")
 |frz {a:ES}{o:Obj}{xs:List V} (e:H a=some (.frz o (.lst xs))):je K H (.ref a) (.type "list")
 |tup {a:ES}{xs:List V} (e:H a=some (.tup xs)):je K H (.ref a) (.type "tuple")
 |dK {a:ES}{Qt:List (Key×V)} (e:H a=some (.dK Qt)):je K H (.ref a) (.type "dict")
 |dT {a:ES}{Qt:List (List Key×V)} (e:H a=some (.dT Qt)):je K H (.ref a) (.type "dict")
 |ins {a C dx:ES}{fs:List (Str×V)} (e:H a=some (.ins C dx fs)) (cl:Cls K C) (ha:OJ K (.ref C) "__class__"=some (some (.builtin "object.__class__")))
   (hn:PySem.W.specialIn K (.builtin "object.__class__") "__get__"=some (some (.builtin "getset_descriptor.__get__"))) (RH:PySem.W.takesIn K (.builtin "object.__class__")=some true)
   (hm:PySem.W.mroIn K C (.type "object")=some true):je K H (.ref a) (.ref C)
theorem dY{x:V}{u t:EG}(I:Inv X pins σ H s)(rx:aX x u)(ty:je X.K H x t)(e:Jg X.K t c=some b)(h:∀tk,Q (.bool b) {s with toks:=tk }):
  E2 (Fm X.prog X.w) A (call (.builtin "isinstance") [u,c]) Q E s:=by
 cases ty with
 |non=>cases (show u=Fb from rx);exact Gr PySem.W.kitx_none I.kIn True.intro e (λz=>nomatch z) h
 |bl y=>cases (show u=FS y from rx);exact Gr PySem.W.kitx_bool I.kIn True.intro e (λz=>nomatch z) h
 |int i=>obtain⟨t,q⟩:=(show ∃t,u=Fv i t from rx);cases q;exact Gr PySem.W.kitx_int I.kIn True.intro e (λz=>nomatch z) h
 |str y=>obtain⟨t,q⟩:=(show ∃t,u=F9 y t from rx);cases q;exact Gr PySem.W.kitx_str I.kIn True.intro e (λz=>nomatch z) h
 |flt y=>obtain⟨t,q⟩:=(show ∃t,u=P_ y t from rx);cases q;exact Gr PySem.W.kitx_float I.kIn True.intro e (λz=>nomatch z) h
 | @lst a xs ea=>
  cases (show u=EZ a from rx)
  obtain⟨_,_,n,_,h1⟩:=(show bD X.prog X.w H s.heap a (.lst xs) from I.hok a _ ea)
  exact Gr Le I.kIn ⟨_,h1,rfl⟩ e (λz=>nomatch z) h
 | @frz a ob xs ea=>
  cases (show u=EZ a from rx)
  obtain⟨_,_,_,n,_,h1⟩:=(show bD X.prog X.w H s.heap a (.frz ob (.lst xs)) from I.hok a _ ea)
  exact Gr Le I.kIn ⟨_,h1,rfl⟩ e (λz=>nomatch z) h
 | @tup a xs ea=>
  cases (show u=EZ a from rx)
  obtain⟨_,_,_,p⟩:=(show bD X.prog X.w H s.heap a (.tup xs) from I.hok a _ ea)
  obtain⟨o,h1,h2,_⟩:=p;exact Gr Nc I.kIn ⟨o,h1,h2⟩ e (λz=>nomatch z) h
 | @dK a Qt ea=>
  cases (show u=EZ a from rx)
  obtain⟨_,_,vs,_,p⟩:=(show bD X.prog X.w H s.heap a (.dK Qt) from I.hok a _ ea)
  obtain⟨o,es,ep,h1,h2,_⟩:=p;exact Gr Nz I.kIn ⟨o,h1,h2.1⟩ e (λz=>nomatch z) h
 | @dT a Qt ea=>
  cases (show u=EZ a from rx)
  obtain⟨_,_,xs,_,o,es,ep,h1,h2,_⟩:=(show bD X.prog X.w H s.heap a (.dT Qt) from I.hok a _ ea)
  exact Gr Nz I.kIn ⟨o,h1,h2.1⟩ e (λz=>nomatch z) h
 | @ins a C dx fs ea cl ha hn RH hm=>
  cases (show u=EZ a from rx)
  obtain⟨mA,O,_⟩:=zK I.hok ea;obtain⟨od,J,_⟩:=O.look;exact Gr (PySem.W.kitx_own (cl.get _) cl.hd ha hn RH hm) I.kIn J e (λz=>nomatch z) h
end
structure eL(k:Nat)(A:FQ):Prop where
 hd:A.handled=none
 dp:A.depth+3*k+5<OK
 un:A.units+16*k+200<GU
theorem eL.mono{j k:Nat}{A:FQ}(r:eL k A)(h:j<=k):eL j A:=⟨r.hd,by have:=r.dp;lia,by have:=r.un;lia⟩
theorem eL.deeper{k:Nat}{A:FQ}(r:eL (k+1) A)(env:Env):eL k (A.deeper env):=
 ⟨r.hd,by have:=r.dp;show A.depth+1+3*k+5<_;lia,by have:=r.un;show A.units+3+16*k+200<_;lia⟩
theorem eL.depth{k:Nat}{A:FQ}(r:eL k A):A.depth<OK:=by have:=r.dp;lia
def DV:TA:=λ_ H Q=>Q [] H
def Db(ta:TE)(tr:TA):TA:=λσ H Q=>ta σ H λx H1=>tr σ H1 λxs H2=>Q (x::xs) H2
variable {es:List Expr}
section
variable {X:Cx}{te:TE}{t:TA}
theorem eI:PA X [] DV:=λ_ _ _ _ H Q I h=>HF ⟨[],H,I,.nil,h⟩
theorem cI(ha:PE X e te)(hr:PA X es t)(hs:EO (e::es) X.env=(false,Io e X.env)::EO es X.env:=by rfl):PA X (e::es) (Db te t):=by
 intro pos pins s σ H Q I h;rw[hs];show E2 _ _ (Nw ((false,Io e X.env)::Ie pos (EO es X.env))) _ _ s;refine G8 (thn (ha pins s σ H _ I h) λu s1 ⟨x,H1,I1,r1,q1⟩=>?_)
 exact thn (hr pos pins s1 σ H1 _ I1 q1) λus s2 ⟨xs,H2,I2,r2,q2⟩=>⟨x::xs,H2,I2,.cons r1 r2,q2⟩
def Eg(t:TA):TE:=λσ H Q=>t σ H λxs H1=>xs.length<=sizeLine/\∀p,H1 p=none->Q (.ref p) (upd H1 p (.tup xs))
def Ek(t:TA):TE:=λσ H Q=>t σ H λxs H1=>xs.length<=sizeLine/\∀p,H1 p=none->Q (.ref p) (upd H1 p (.lst xs))
theorem CP{x1}(h:PA X es t):PE X (.Tuple es x1 pos) (Eg t):=by
 intro pins s σ H Q I hq;refine wpAny_Tuple_spliced (thn (h pos pins s σ H _ I hq) λus s1 ⟨xs,H1,I1,r,z,q⟩=>⟨by rw[<-r.length];exact z,?_⟩)
 have hf:H1 s1.heap.objs.size=none:=I1.hok.fresh (EL _);refine⟨.ref s1.heap.objs.size,upd H1 s1.heap.objs.size (.tup xs),I1.laid (t':=s1.toks) (λb u e=>EA _ e) (EL _) ?_,rfl,q _ hf⟩
 exact⟨z,us,r,⟨_,EM _ rfl,rfl,_,rfl⟩⟩
theorem B9(h:PA X es t):PE X (.List es pos) (Ek t):=by
 intro pins s σ H Q I hq;refine wpAny_List_spliced (thn (h pos pins s σ H _ I hq) λus s1 ⟨xs,H1,I1,r,z,q⟩=>⟨by rw[<-r.length];exact z,?_⟩)
 have hf:H1 s1.heap.objs.size=none:=I1.hok.fresh (EL _);refine⟨.ref s1.heap.objs.size,upd H1 s1.heap.objs.size (.lst xs),I1.laid (t':=s1.toks) (λb u e=>EA _ e) (EL _) ?_,rfl,q _ hf⟩
 exact⟨z,us,0,r,EM _ rfl⟩
end
abbrev Sp:=List V->Hp->VK->XK->Prop
abbrev CXT:=List Env->Hp->EE->XK->EG->EE->Prop
structure Am(P:E1)(w:Fz)(K:EC)(mg:Str->Option EG)(base:GS)(A:FQ)(outer:List Env)(s:EE)(H:Hp):Prop where
 frames:A.frames=some outer
 mod:Mod K mg base
 bs:∀b o,base.get? b=some o->s.heap.get? b=some o/\H b=none
 bsz:base.objs.size<=s.heap.objs.size
 funs:s.heap.FunFrames base outer
 frf:∀b∈frs outer,H b=none
 hok:HOk P w H s.heap
 bare:Lw s.gens
def CE(outer:List Env)(P:E1)(w:Fz)(H:Hp)(s:EE)(Q:VK)(u:EG)(s':EE):Prop:=
 ∃v H',s'.os=s.os/\Lw s'.gens/\Un (frs outer) [] H H' s.heap s'.heap/\HOk P w H' s'.heap/\aX v u/\Q v H'
def CR(CX:CXT)(outer:List Env)(P:E1)(w:Fz)(H:Hp)(s:EE)(Q:VK)(E:XK)(r:NP)(s':EE):Prop:=
 match r with
 | .ok (.ret u)=>CE outer P w H s Q u s'
 | .ok _=>False
 | .error e=>CX outer H s E e s'
structure aZ(P:E1)(w:Fz)(K:EC)(mg:Str->Option EG)(base:GS)(CX:CXT)(k:Nat)(f:ES)(fd:G9)(ps:List Str)(sp:Sp):Prop where
 len:∀vs H Q E,sp vs H Q E->vs.length=ps.length
 run:∀(A:FQ) (outer:List Env) (s:EE) (H:Hp) (args:Args) (us:List EG) (vs:List V) (Q:VK) (E:XK),eL k A->Am P w K mg base A outer s H->Pl s fd args (ps.zip us)->aO vs us->sp vs H Q E->
  IK (Fm P w) A (.call (.ref f) args) (CR CX outer P w H s Q E) s
theorem aZ.mono{P:E1}{w:Fz}{K:EC}{mg:Str->Option EG}{base:GS}{CX:CXT}{j k:Nat}{f:ES}{fd:G9}{ps:List Str}{sp:Sp}(F:aZ P w K mg base CX j f fd ps sp)(h:j<=k):
  aZ P w K mg base CX k f fd ps sp:=⟨F.len,λA outer s H args us vs Q E hr=>F.run A outer s H args us vs Q E (hr.mono h)⟩
section
variable {X:Cx}{s':EE}
theorem Inv.env0(I:Inv X pins σ H s):Am X.prog X.w X.K X.mg X.base X.A X.stack s H:=
 ⟨I.ok.frames,I.ok.mod,I.bs,Gg I.ok.bsz I.sz,I.stack,I.stkFree,I.hok,I.bare⟩
theorem Inv.after{Q:VK}{u:EG}(I:Inv X pins σ H s)(h:CE X.stack X.prog X.w H s Q u s'):EP X pins σ Q u s':=by
 obtain⟨v,H',os,bare,un,hok,r,q⟩:=h;obtain⟨hh,g,d,t,os'⟩:=s';obtain rfl:os'=s.os:=os;exact⟨v,H',I.call (h':=hh) (g':=g) (d':=d) (t':=t) (ch:=[]) un hok bare (λb z=>absurd z (by simp)),r,q⟩
end
def Dh(sp:Sp)(Ug:List V)(E:XK)(t:TA):TE:=λσ H Q=>t σ H λvs H1=>sp (vs++Ug) H1 Q E
def dB(K:EC)(fd:G9)(ps:List Str)(ds:List EG):Prop:=
 ∀(s:EE) (us:List EG),K.In s.heap->(us++ds).length=ps.length->Pl s fd ⟨us,[]⟩ (ps.zip (us++ds))
theorem dB.all{K:EC}{fd:G9}{ps:List Str}(h:∀us:List EG,us.length=ps.length->KH fd ⟨us,[]⟩=pure (ps.zip us)):dB K fd ps []:=λs us _ hl=>by
 rw[Hn]at hl |-;exact .of_eq (h us hl)
def iT(CX:CXT)(X:Cx)(E:XK):Prop:=∀(pins:List (ES×Obj)) (σ:St) (H:Hp) (s:EE) (e:EG) (s':EE),Inv X pins σ H s->CX X.stack H s E e s'->X.xe e s'
section
variable {X:Cx}{CX:CXT}{k:Nat}{f C:ES}{fd:G9}{ps:List Str}{sp:Sp}{Ug:List V}{ds:List EG}{E:XK}{x m:Str}{p QQ:Pos}{o:Expr}{t:TA}
theorem Ck{pins:List (ES×Obj)}{σ:St}{H:Hp}{s:EE}{Q:VK}{us:List EG}{vs:List V}(F:aZ X.prog X.w X.K X.mg X.base CX k f fd ps sp)(hr:eL k X.A)(hb:dB X.K fd ps ds)(hd:aO Ug ds)(hx:iT CX X E)
  (I:Inv X pins σ H s) (r:aO vs us) (h:sp (vs++Ug) H Q E):E2 (Fm X.prog X.w) X.A (call (.ref f) us) (EP X pins σ Q) X.xe s:=by
 have r2:aO (vs++Ug) (us++ds):=r.append hd;have hl:(us++ds).length=ps.length:=by rw[<-r2.length];exact F.len _ _ _ _ h
 refine Pf (IL (F.run X.A X.stack s H ⟨us,[]⟩ (us++ds) (vs++Ug) Q E hr I.env0 (hb s us I.kIn hl) r2 h) λr s' hq=>?_)
 cases r with
 |error e=>exact hx pins σ H s e s' I hq
 |ok fl=>
  cases fl with
  |ret u=>exact I.after hq
  |next=>exact False.elim hq
  |brk=>exact False.elim hq
  |cont=>exact False.elim hq
theorem mK(F:aZ X.prog X.w X.K X.mg X.base CX k f fd ps sp)(hr:eL k X.A)(hg:Gl X x)(hm:X.mg x=some (.ref f))(hk:H_ X.K (.ref f)=true)(hb:dB X.K fd ps ds)(hd:aO Ug ds)(hx:iT CX X E)
  (ha:PA X (e::es) t) (RL:(x==("__debug__":Str))=false:=by decide) (he:EO (e::es) X.env=(false,Io e X.env)::EO es X.env:=by rfl) (QY:(Ie pos (EO es X.env)).any (·.1)=false:=by rfl):
  PE X (.Call (.Name x p) (e::es) [] pos) (Dh sp Ug E t):=by
 intro pins s σ H Q I h;refine F0 (t9 I hg hm ?_ RL);refine PySem.W.callWith_K (h₀:=X.base) I.ok.mod.kin hk (thn (ha pos pins s σ H _ I h) λus s1 ⟨vs,H1,I1,r,q⟩=>⟨I1.kIn,?_⟩) he QY
 exact Ck F hr hb hd hx I1 r q
end
structure au(N P:List Str)(sc:Kk):Prop where
 kind:sc.kind=.function
 co:sc.isCoroutine=false
 gen:sc.isGenerator=false
 nd:N.Nodup
 pre:N.take P.length=P
 par:∀x∈P,sc.names.lookup x=some .local\/sc.names.lookup x=some .cell
 nofree:∀y∈sc.names,y.2≠.free
theorem lK{kindOf:Str->Option Kl}{x:Str}:∀{binds:List (Str×EG)}{m:Str->Option EG},(∀v,(x,v) ∉ binds)->Qb kindOf binds m x=m x
 |[],_,_=>rfl
 | (n,v)::r,m,h=>by
  unfold Qb;rw[lK λw hw=>h w (EB _ hw)]
  split
  ·have:x≠n:=by rintro rfl;exact h v EF
   simp[this]
  ·rfl
theorem lF{kindOf:Str->Option Kl}{x:Str}:∀{binds:List (Str×EG)}{m:Str->Option EG},(∀v,(x,v) ∉ binds)->Qc kindOf binds m x=m x
 |[],_,_=>rfl
 | (n,v)::r,m,h=>by
  unfold Qc;rw[lF λw hw=>h w (EB _ hw)]
  split
  ·rfl
  ·have:x≠n:=by rintro rfl;exact h v EF
   simp[this]
theorem mI{kindOf:Str->Option Kl}{x:Str}{v:EG}:∀{P:List Str}{vs:List EG}{i:Nat}{m:Str->Option EG},P.Nodup->P[i]?=some x->vs[i]?=some v->kindOf x=some .local->
  Qb kindOf (P.zip vs) m x=some v
 |[],_,_,_,_,h,_,_=>by simp at h
 |_::_,[],_,_,_,_,h,_=>by simp at h
 |p::P,w::vs,0,m,nd,h1,h2,hk=>by
  simp at h1 h2;subst h1;subst h2;show Qb kindOf ((p,w)::P.zip vs) m p=_;unfold Qb;rw[lK λv hv=>(Gh.mp nd).1 (L6 hv).1,if_pos hk]
  simp
 |p::P,w::vs,i+1,m,nd,h1,h2,hk=>by
  show Qb kindOf ((p,w)::P.zip vs) m x=_;unfold Qb;exact mI (i:=i) (Gh.mp nd).2 (by simpa using h1) (by simpa using h2) hk
theorem lO{kindOf:Str->Option Kl}{x:Str}{v:EG}:∀{P:List Str}{vs:List EG}{i:Nat}{m:Str->Option EG},P.Nodup->P[i]?=some x->vs[i]?=some v->kindOf x≠some .local->
  Qc kindOf (P.zip vs) m x=some v
 |[],_,_,_,_,h,_,_=>by simp at h
 |_::_,[],_,_,_,_,h,_=>by simp at h
 |p::P,w::vs,0,m,nd,h1,h2,hk=>by
  simp at h1 h2;subst h1;subst h2;show Qc kindOf ((p,w)::P.zip vs) m p=_;unfold Qc;rw[lF λv hv=>(Gh.mp nd).1 (L6 hv).1,if_neg hk]
  simp
 |p::P,w::vs,i+1,m,nd,h1,h2,hk=>by
  show Qc kindOf ((p,w)::P.zip vs) m x=_;unfold Qc;exact lO (i:=i) (Gh.mp nd).2 (by simpa using h1) (by simpa using h2) hk
def start(N:List Str)(vs:List V):St:=vs.map some++OM (N.length-vs.length) none
def nV(CX:CXT)(P:E1)(w:Fz)(K:EC)(mg:Str->Option EG)(base:GS)(N:List Str)(Qy:Str)(Qr:Kk)(f:ES)(cd:EG)(A:FQ)(outer:List Env)(s:EE)(H:Hp)(E:XK):Cx where
 prog:=P
 w:=w
 K:=K
 mg:=mg
 base:=base
 A:=A.deeper (L7 Qy Qr s.heap.objs.size f cd)
 N:=N
 s₀:=s
 H₀:=H
 env:=L7 Qy Qr s.heap.objs.size f cd
 outer:=outer
 stack:=L7 Qy Qr s.heap.objs.size f cd::outer
 ex:=[]
 calm:=true
 fn:=λ_=>true
 pn:=[]
 xe:=λe s'=>E2 (Fm P w) (A.deeper (L7 Qy Qr s.heap.objs.size f cd)) (leaving (L7 Qy Qr s.heap.objs.size f cd) e) (λ_ s''=>CX outer H s E e s'') (λe' s''=>CX outer H s E e' s'') s'
theorem ph{sc:Kk}{n:Nat}{x:Str}(h:sc.names.lookup x=some .cell):∃c,(Oc n sc.names []).lookup x=some c:=by
 have q:=JF sc.names n [] (.inl h);exact Jt.mp q
theorem vH{CX:CXT}{P:E1}{w:Fz}{K:EC}{mg:Str->Option EG}{base:GS}{N ps:List Str}{Qy:Str}{Qr:Kk}{f:ES}{cd:EG}{A:FQ}{outer:List Env}{s s1:EE}{H:Hp}{E:XK}{us:List EG}{vs:List V}
  (S:au N ps Qr) (hd:A.handled=none) (e0:Am P w K mg base A outer s H) (hl:vs.length=ps.length) (r:aO vs us)
  (x:InCallC s s.heap.objs.size (Qb (L7 Qy Qr s.heap.objs.size f cd).kindOf (ps.zip us) λ_=>none) (Oc (s.heap.objs.size+1) Qr.names []) (Qc (L7 Qy Qr s.heap.objs.size f cd).kindOf (ps.zip us) λ_=>none) s1):
  Inv (nV CX P w K mg base N Qy Qr f cd A outer s H E) [] (start N vs) H s1:=by
 have QY:ps.length<=N.length:=by have:=congrArg Qd S.pre;rw[Hw]at this;lia
 obtain⟨h1,tk,rfl,hk⟩:=x.done;have noA:∀b:ES,b ∉ (nV CX P w K mg base N Qy Qr f cd A outer s H E).ex:=λb z=>absurd (show b∈([]:List ES) from z) (by simp)
 refine⟨⟨e0.mod,S.kind,rfl,rfl,EL _,λy z c h1 h2=>?_,λy hy=>?_,λy c _ h=>?_,λ_=>hd,Around.frames_deeper e0.frames,.inr ⟨rfl,rfl⟩,λb z=>absurd z (noA b),e0.bs,e0.bsz,λb _ _=>noA b,λb z=>absurd z (noA b),e0.funs,e0.frf⟩,
  rfl,e0.bare,Un.kept hk,⟨_,x.toInCall.ns,λi y v h1 h2 h3=>?_⟩,λy c h=>⟨_,x.cell y c h⟩,e0.hok.fresh (EL _),λy c h=>?_,λp hp=>absurd (show p∈([]:List (ES×Obj)) from hp) (by simp),e0.hok.kept hk,?_⟩
 ·exact name_of_addr x.apart (GV h1) (GV h2)
 ·have hy:Qr.names.lookup y=some .cell\/Qr.names.lookup y=some .free:=hy;rcases hy with hy |hy
  ·exact ph hy
  ·exact absurd rfl (S.nofree _ (GV hy))
 ·exact F4 (x.above y c (GV h))
 ·have hi:i<vs.length:=by
   unfold start at h2;by_cases hi:i<vs.length
   ·exact hi
   ·rw[E7 (by simpa using hi)]at h2
    rw[HB]at h2;split at h2 <;>cases h2
  have ha:vs[i]?=some v:=by
   unfold start at h2;rw[E6 (by simpa using hi),EI]at h2
   cases e:vs[i]? with
   |none=>rw[e]at h2;cases h2
   |some a=>rw[e]at h2;cases h2;rfl
  obtain⟨u,hu,rv⟩:=r.get ha
  have hp:ps[i]?=some y:=by
   rw[<-S.pre,G0 (by lia)];exact h1
  have ndP:ps.Nodup:=by rw[<-S.pre];exact S.nd.sublist (NA _ _)
  refine⟨u,rv,?_⟩;rcases S.par y (EV hp) with k |k
  ·exact .inl ⟨k,mI ndP hp hu k⟩
  ·obtain⟨c,e⟩:=ph (n:=s.heap.objs.size+1) k;refine .inr ⟨.inl k,c,e,?_⟩;have q:=x.cell y c e;rw[lO ndP hp hu (by show Qr.names.lookup y≠_;rw[k];decide)]at q
   exact q
 ·exact e0.hok.fresh (F4 (x.above y c (GV h)))
 ·unfold start;show _=N.length;rw[EY,Ex,HR];lia
theorem BA{CX:CXT}{P:E1}{w:Fz}{K:EC}{mg:Str->Option EG}{base:GS}{k:Nat}{f:ES}{name Qy:Str}{R5:Arguments}{QP:List HL}{Qr:Kk}{dV kV Rm pm QA ct oc:EG}{an od:Option ES}
  {Sr:Array (Option EG)}{N ps:List Str}{sp:Sp} (lk:K.lookup f=some ⟨oc,od,.func (Hc name Qy R5 QP Qr dV kV Rm pm an QA ct),Sr⟩) (Ri:JZ K QA Qy=true) (S:au N ps Qr)
  (len:∀vs H Q E,sp vs H Q E->vs.length=ps.length)
  (Q2:∀(A:FQ) (outer:List Env) (s:EE) (H:Hp) (vs:List V) (Q:VK) (E:XK),eL k (A.deeper (L7 Qy Qr s.heap.objs.size f QA))->sp vs H Q E->
   ∃t,PSs (nV CX P w K mg base N Qy Qr f QA A outer s H E) QP t/\t {nx:=λ_ H'=>Q .non H',rt:=Q } (start N vs) H):
  aZ P w K mg base CX (k+1) f (Hc name Qy R5 QP Qr dV kV Rm pm an QA ct) ps sp:=by
 refine⟨len,λA outer s H args us vs Q E hr e0 hb r RR=>?_⟩
 have hl:=len _ _ _ _ RR;have KX:K.In s.heap:=e0.mod.kin.keeps λb o e=>(e0.bs b o e).1
 have lim:s.heap.NoLimit:=e0.mod.nolimit.keeps λb o e=>(e0.bs b o e).1
 have hkind:∀y∈ps.zip us,Qr.names.lookup y.1=some .local\/(Qr.names.lookup y.1=some .cell/\((Oc (s.heap.objs.size+1) Qr.names []).lookup y.1).isSome=true):=λ⟨n,v⟩ hy=>by
  rcases S.par n (L6 hy).1 with q |q
  ·exact .inl q
  ·exact .inr ⟨q,JF _ _ _ (.inl q)⟩
 refine codeAny_call_function hr.depth (KX _ _ lk) rfl S.co S.gen rfl (PySem.W.codeRec_of KX Ri) (hb _ _ _ _ ?_);refine wpAny_newFunctionEnv_cells S.kind hkind λenv he s1 x=>?_
 subst he;refine⟨lim.keeps x.toInCall.keep,codeAny_func ?_⟩;obtain⟨t,ht,hq⟩:=Q2 A outer s H vs Q E (hr.deeper _) RR;have I:Inv (nV CX P w K mg base N Qy Qr f QA A outer s H E) [] (start N vs) H s1:=vH S hr.hd e0 hl r x;refine He (ht [] s1 (start N vs) H _ I hq) (λfl s' hs=>?_) λe s' hs=>hs
 have QN:∀{QC:St}{H':Hp}{v:V}{u:EG},Inv (nV CX P w K mg base N Qy Qr f QA A outer s H E) [] QC H' s'->aX v u->Q v H'->CE outer P w H s Q u s':=
  λ{QC H' v u} J rv q=>⟨v,H',J.os,J.bare,J.base,J.hok,rv,q⟩
 cases fl with
 |ret u=>
  obtain⟨v,QC,H',J,rv,q⟩:=hs;exact QN J rv q
 |next=>
  obtain⟨QC,H',J,q⟩:=hs;exact QN (v:=V.non) (u:=Fb) J rfl q
 |brk=>
  obtain⟨_,_,_,q⟩:=hs;exact False.elim q
 |cont=>
  obtain⟨_,_,_,q⟩:=hs;exact False.elim q
section
variable {X:Cx}{x:Str}{p:Pos}{t:TA}{id T:String}{r:List V→Hp→VK→Prop}
def tCB(r:List V->Hp->VK->Prop)(t:TA):TE:=λσ H Q=>t σ H λvs H1=>r vs H1 Q
theorem pO(hc:cR X (.builtin id) r)(hg:Gl X x)(hm:X.mg x=none)(hv:GY x=some (.builtin id))(ha:PA X (e::es) t)(hn:x≠"__name__":=by decide)(RL:(x==("__debug__":Str))=false:=by decide)
  (he:EO (e::es) X.env=(false,Io e X.env)::EO es X.env:=by rfl) (QY:(Ie pos (EO es X.env)).any (·.1)=false:=by rfl):PE X (.Call (.Name x p) (e::es) [] pos) (tCB r t):=by
 intro pins s σ H Q I h;refine F0 (cg I hg hm hv ?_ hn RL);exact PyProof.Rows.callWith_builtin1 (thn (ha pos pins s σ H _ I h) λus s1 ⟨vs,H1,I1,r1,q1⟩=>hc pins s1 σ H1 vs us Q I1 r1 q1) he QY
theorem md(hc:cR X (.type T) r)(hg:Gl X x)(hm:X.mg x=none)(hv:GY x=some (.type T))(ha:PA X (e::es) t)(hn:x≠"__name__":=by decide)(RL:(x==("__debug__":Str))=false:=by decide)
  (he:EO (e::es) X.env=(false,Io e X.env)::EO es X.env:=by rfl) (QY:(Ie pos (EO es X.env)).any (·.1)=false:=by rfl):PE X (.Call (.Name x p) (e::es) [] pos) (tCB r t):=by
 intro pins s σ H Q I h;refine F0 (cg I hg hm hv ?_ hn RL);exact PyProof.Rows.callWith_type1 (thn (ha pos pins s σ H _ I h) λus s1 ⟨vs,H1,I1,r1,q1⟩=>hc pins s1 σ H1 vs us Q I1 r1 q1) he QY
end
end L2
namespace HT
open PySem PyProof.Rows
section
variable {prog:E1}{w:Fz}{A:FQ}{E:EG→EE→Prop}{s:EE}
def sIx(n d:Nat):Option Int->Nat
 |none=>d
 |some v=>if v<0 then (v+(n:Int)).toNat else min v.toNat n
end
end HT
namespace L2
open PySem PySem.Spec PyProof.Rows
abbrev TO:=St->Hp->(Option Int->Hp->Prop)->Prop
def PO(X:Cx)(e:Option Expr)(t:TO):Prop:=
 ∀(pins:List (ES×Obj)) (s:EE) (σ:St) (H:Hp) (Q:Option Int->Hp->Prop),Inv X pins σ H s->t σ H Q->
  E2 (Fm X.prog X.w) X.A (evalPart e X.env) (λu s'=>∃o H',Inv X pins σ H' s'/\IsPart u o/\Q o H') X.xe s
def Ax:TO:=λ_ H Q=>Q none H
def Dp(t:TE):TO:=λσ H Q=>t σ H λx H1=>∃i,x=.int i/\Q (some i) H1
section
variable {X:Cx}{e:Expr}{te:TE}{lo hi:Option Expr}{tl th:TO}{pos p2:Pos}
theorem AM:PO X none Ax:=by
 intro pins s σ H Q I h;rw[Nd];exact Ez ⟨none,H,I,.none,h⟩
theorem Af(h:PE X e te):PO X (some e) (Dp te):=by
 intro pins s σ H Q I hw;rw[evalPart_some];refine thn (h pins s σ H _ I hw) λu s1 ⟨x,H1,I1,r1,q1⟩=>?_
 obtain⟨i,rfl,q⟩:=q1;obtain⟨t,rfl⟩:=r1;exact⟨some i,H1,I1,.int i t,q⟩
def SlR(X:Cx)(r:V->Option Int->Option Int->Hp->VK->Prop):Prop:=
 ∀(pins:List (ES×Obj)) (s:EE) (σ:St) (H:Hp) (x:V) (v vl vu:EG) (lo hi:Option Int) (sl:ES) (Q:VK),Inv X pins σ H s->aX x v->s.heap.IsSliceOf sl vl vu .none->IsPart vl lo->IsPart vu hi->r x lo hi H Q->
  ∃T id,MC (.type T) "__getitem__"=pure (some (.builtin id))∧s.TypeIs v T∧E2 (Fm X.prog X.w) X.A (Pm v (.ref sl)) (EP X pins σ Q) X.xe s
def tSl(r:V->Option Int->Option Int->Hp->VK->Prop)(te:TE)(tl th:TO):TE:=λσ H Q=>te σ H λx H1=>tl σ H1 λl H2=>th σ H2 λu H3=>r x l u H3 Q
theorem yI{r:V->Option Int->Option Int->Hp->VK->Prop}(hr:SlR X r)(he:PE X e te)(hl:PO X lo tl)(hu:PO X hi th):PE X (.Subscript e (.Slice lo hi none p2) pos) (tSl r te tl th):=by
 intro pins s σ H Q I h;refine NB (thn (he pins s σ H _ I h) λv s1 ⟨x,H1,I1,r1,q1⟩=>?_)
 refine wpAny_Slice (thn (hl pins s1 σ H1 _ I1 q1) λvl s2 ⟨l,H2,I2,pl,q2⟩=>thn (hu pins s2 σ H2 _ I2 q2) λvu s3 ⟨u,H3,I3,pu,q3⟩=>?_)
 rw[Nd];refine Ez ?_;have I4:Inv X pins σ H3 {s3 with heap:=s3.heap.push {cls:=.type "slice",data:=.fields #[vl,vu,.none] } }:=I3.kept (t':=s3.toks) λb ob q=>EA _ q
 obtain⟨T,id,hT,ht,hg⟩:=hr pins {s3 with heap:=s3.heap.push {cls:=.type "slice",data:=.fields #[vl,vu,.none] } } σ H3 x v vl vu l u s3.heap.objs.size Q I4 r1 (Nf ..) pl pu q3
 show E2 (Fm X.prog X.w) X.A (LA e (.Slice lo hi none p2) v (.ref s3.heap.objs.size)) (EP X pins σ Q) X.xe {s3 with heap:=s3.heap.push {cls:=.type "slice",data:=.fields #[vl,vu,.none] } }
 exact tail_any (ops:=[.ref s3.heap.objs.size,v]) ht hT hg (by with_unfolding_all rfl)
def uX(xs:List V)(lo hi:Option Int):List V:=(xs.drop (HT.sIx xs.length 0 lo)).take (HT.sIx xs.length xs.length hi-HT.sIx xs.length 0 lo)
theorem oP(xs:List V)(lo hi:Option Int):(uX xs lo hi).length<=xs.length:=by
 unfold uX;rw[Hw,NW];lia
end
def ixN(n:Nat)(i:Int):Option Nat:=if 0<=i then (if i<n then some i.toNat else none) else if -(n:Int)<=i then some (i+n).toNat else none
def atI{α:Type}(xs:List α)(i:Int):Option α:=(ixN xs.length i).bind λj=>xs[j]?
theorem zq{n:Nat}{i:Int}{j:Nat}(h:ixN n i=some j):seqIndex? i n=some j/\j<n/\-(n:Int)<=i/\i<n:=by
 unfold ixN at h;by_cases h0:0<=i
 ·rw[if_pos h0]at h;by_cases h1:i<n
  ·rw[if_pos h1]at h;have e:i.toNat=j:=Fk h;exact⟨by rw[seqIndex_of h0 h1,e],by lia,by lia,h1⟩
  ·rw[if_neg h1]at h;cases h
 ·rw[if_neg h0]at h;by_cases h1:-(n:Int)<=i
  ·rw[if_pos h1]at h;have e:(i+n).toNat=j:=Fk h;exact⟨by rw[seqIndex_neg (by lia) h1,e],by lia,h1,by lia⟩
  ·rw[if_neg h1]at h;cases h
theorem uw{α:Type}{xs:List α}{i:Int}{v:α}(h:atI xs i=some v):∃j,seqIndex? i xs.length=some j/\xs[j]?=some v/\j<xs.length/\-(xs.length:Int)<=i/\i<xs.length:=by
 unfold atI at h;cases e:ixN xs.length i with
 |none=>rw[e]at h;cases h
 |some j=>
  rw[e]at h;obtain⟨h1,h2,h3,h4⟩:=zq e;exact⟨j,h1,h,h2,h3,h4⟩
theorem tw{α:Type}{xs:List α}{j:Nat}{v:α}(h:xs[j]?=some v):atI xs (j:Int)=some v:=by
 have hj:j<xs.length:=(ET.mp h).1
 have e:ixN xs.length (j:Int)=some j:=by
  unfold ixN;rw[if_pos (by lia),if_pos (by lia)];simp
 unfold atI;rw[e];exact h
def mX(b:Expr):Prop:=∀o i,M3 b false o i=operate [o,i] (Pm o i)
def IxR(X:Cx)(r:R2):Prop:=
 ∀(QS slice:Expr) (pins:List (ES×Obj)) (s:EE) (σ:St) (H:Hp) (x y:V) (v u:EG) (Q:VK),Inv X pins σ H s->aX x v->aX y u->r x y H Q->
  M3 slice false v u=operate [v,u] (Pm v u)->E2 (Fm X.prog X.w) X.A (LA QS slice v u) (EP X pins σ Q) X.xe s
def MtR(X:Cx)(id:String)(r:V->List V->Hp->VK->Prop):Prop:=
 ∀(pins:List (ES×Obj)) (s:EE) (σ:St) (H:Hp) (x:V) (xs:List V) (v:EG) (us:List EG) (Q:VK),Inv X pins σ H s->aX x v->aO xs us->r x xs H Q->
  E2 (Fm X.prog X.w) X.A (call (.builtin id) (v::us)) (EP X pins σ Q) X.xe s
section
variable {X:Cx}{a b:Expr}{ta tb:TE}{pos:Pos}
theorem IxR.or{r r':R2}(h:IxR X r)(h':IxR X r'):IxR X (λx y H Q=>r x y H Q\/r' x y H Q):=by
 intro QS slice pins s σ H x y v u Q I rx ry q hs;rcases q with q |q
 ·exact h QS slice pins s σ H x y v u Q I rx ry q hs
 ·exact h' QS slice pins s σ H x y v u Q I rx ry q hs
theorem Bb{r:R2}(hr:IxR X r)(ha:PE X a ta)(hb:PE X b tb)(hs:mX b):PE X (.Subscript a b pos) (tOp r ta tb):=by
 intro pins s σ H Q I h;exact NB (B6 ha hb I h λv u s2 x y H2 I2 rx ry q=>hr a b pins s2 σ H2 x y v u Q I2 rx ry q (hs _ _))
def DY(K:EC):R2:=λx y H Q=>∃p xs i v,x=.ref p/\y=.int i/\SqL K H p xs/\atI xs i=some v/\Q v H
def En(K:EC):R2:=λx y H Q=>∃p xs i v,x=.ref p/\y=.int i/\SqT K H p xs/\atI xs i=some v/\Q v H
theorem tI:IxR X (DY X.K):=by
 intro QS slice pins s σ H x y v u Q I rx ry h hs;obtain⟨p,xs,i,z,rfl,rfl,hq,he,q⟩:=h;cases rx;obtain⟨t,rfl⟩:=ry;obtain⟨Qs,r,pl,hz⟩:=I.list hq;obtain⟨j,h1,h2,h3,h4,h5⟩:=uw he;obtain⟨w,ew,RK⟩:=r.get h2;have hl:=r.length;have hn:=qV;have QN:EP X pins σ Q w s:=⟨z,H,I,RK,q⟩;by_cases h0:0<=i
 ·have hj:i.toNat=j:=by
   rw[seqIndex_of h0 h5]at h1;exact Fk h1
  exact item_listR pl.isList h0 (by lia) (by rw[hj];simpa using ew) QN hs
 ·have hj:(i+(Qs.toArray.size:Int)).toNat=j:=by
   rw[seqIndex_neg (by lia) h4]at h1
   rw[EU,<-hl];exact Fk h1
  exact LR (x:=w) pl.isList.typeIs slot_list_getitem.lookup
   (wpAny_getItem_list_neg (Q:=λr s'=>r=w/\EP X pins σ Q r s') pl.isList (by lia) (by rw[EU] <;>lia) (by lia) (by rw[hj];simpa using ew) ⟨rfl,QN⟩) hs
theorem CO:IxR X (En X.K):=by
 intro QS slice pins s σ H x y v u Q I rx ry h hs;obtain⟨p,xs,i,z,rfl,rfl,hq,he,q⟩:=h;cases rx;obtain⟨t,rfl⟩:=ry;obtain⟨Qs,r,pl,hz⟩:=I.tuple hq;obtain⟨j,h1,h2,h3,h4,h5⟩:=uw he;obtain⟨w,ew,RK⟩:=r.get h2;have hl:=r.length;have hn:=qV;have QN:EP X pins σ Q w s:=⟨z,H,I,RK,q⟩
 exact LR (x:=w) pl.typeIs slot_tuple_getitem.lookup
  (getItem_tuple (j:=j) (Q:=λr s'=>r=w/\EP X pins σ Q r s') pl (by lia) (by lia) (by rw[EU,<-hl];exact h1) (by simpa using ew) ⟨rfl,QN⟩) hs
theorem m_(lo hi:Option Int)(n:Nat):(JR lo hi none n).1=((HT.sIx n 0 lo:Nat):Int)/\(JR lo hi none n).2.1=((HT.sIx n n hi:Nat):Int)/\(JR lo hi none n).2.2=1:=by
 refine⟨?_,?_,rfl⟩
 ·cases lo with
  |none=>simp[JR,HT.sIx]
  |some i=>
   simp only[JR,HT.sIx,LL,show (1:Int) >0 by decide,if_true]
   by_cases h:i<0
   ·simp only[h,if_true] <;>lia
   ·simp only[h,if_false] <;>lia
 ·cases hi with
  |none=>simp[JR,HT.sIx]
  |some i=>
   simp only[JR,HT.sIx,LL,show (1:Int) >0 by decide,if_true]
   by_cases h:i<0
   ·simp only[h,if_true] <;>lia
   ·simp only[h,if_false] <;>lia
theorem lm(Qs:List EG)(lo hi:Option Int):slicePick Qs.toArray lo hi none=((Qs.drop (HT.sIx Qs.length 0 lo)).take (HT.sIx Qs.length Qs.length hi-HT.sIx Qs.length 0 lo)).toArray:=by
 obtain⟨h1,h2,h3⟩:=m_ lo hi Qs.toArray.size;unfold slicePick;rw[h1,h2,h3];simp only[sliceRange_one,pick_run,EU] <;>rfl
def Ej(K:EC):V->Option Int->Option Int->Hp->VK->Prop:=λx lo hi H Q=>∃a xs,x=.ref a/\SqL K H a xs/\∀p,H p=none->Q (.ref p) (upd H p (.lst (uX xs lo hi)))
theorem Ak:SlR X (Ej X.K):=by
 intro pins s σ H x v vl vu lo hi sl Q I rx hs pl pu h;obtain⟨a,xs,rfl,hx,q⟩:=h;cases rx;obtain⟨Qs,r,ht,hz⟩:=I.list hx;have Qz:=r.length;refine⟨"list",_,slot_list_getitem.lookup,ht.isList.typeIs,?_⟩;refine Lg ht.isList hs pl pu .none (by simp) ?_ (by rw[EU] <;>lia)
 rw[lm,<-Qz];refine⟨.ref s.heap.objs.size,_,I.laid (t':=s.toks) (o:=.lst (uX xs lo hi)) (λb ob q=>EA _ q) (EL _) ?_,rfl,q _ (I.hok.fresh (EL _))⟩
 exact⟨Gg (oP xs lo hi) hz,_,0,(r.drop (HT.sIx xs.length 0 lo)).take (HT.sIx xs.length xs.length hi-HT.sIx xs.length 0 lo),EM _ rfl⟩
def gH:V->Bool
 | .non=>true
 | .bl _=>true
 | .int _=>true
 | .str _=>true
 |_=>false
def eqV:V->V->Bool
 | .non,.non=>true
 | .bl a,.bl b=>a==b
 | .bl a,.int b=>(if a then 1 else 0)==b
 | .int a,.bl b=>a==(if b then 1 else 0)
 | .int a,.int b=>a==b
 | .str a,.str b=>a==b
 |_,_=>false
theorem BT{A:FQ}{s:EE}{y x:V}{u v:EG}(ry:aX y u)(rx:aX x v)(fy:gH y=true)(fx:gH x=true):SeqAt.EqAt A s u v (eqV y x):=by
 cases y with
 |non=>
  cases ry;cases x with
  |non=>cases rx;exact SeqAt.EqAt.same _
  |bl b=>cases rx;exact SeqAt.EqAt.none_bool b
  |int b=>obtain⟨t,rfl⟩:=rx;exact SeqAt.EqAt.none_int b t
  |str b=>obtain⟨t,rfl⟩:=rx;exact SeqAt.EqAt.none_str b t
  |_=>exact absurd (show false=true from fx) Ff
 |bl a=>
  cases ry;cases x with
  |non=>cases rx;exact SeqAt.EqAt.bool_none a
  |bl b=>cases rx;exact SeqAt.EqAt.bool_bool a b
  |int b=>obtain⟨t,rfl⟩:=rx;exact SeqAt.EqAt.bool_int a b t
  |str b=>obtain⟨t,rfl⟩:=rx;exact SeqAt.EqAt.bool_str a b t
  |_=>exact absurd (show false=true from fx) Ff
 |int a=>
  obtain⟨t',rfl⟩:=ry;cases x with
  |non=>cases rx;exact SeqAt.EqAt.int_none a t'
  |bl b=>cases rx;exact SeqAt.EqAt.int_bool a t' b
  |int b=>obtain⟨t,rfl⟩:=rx;exact SeqAt.EqAt.int_int a t' b t
  |str b=>obtain⟨t,rfl⟩:=rx;exact SeqAt.EqAt.int_str a t' b t
  |_=>exact absurd (show false=true from fx) Ff
 |str a=>
  obtain⟨t',rfl⟩:=ry;cases x with
  |non=>cases rx;exact SeqAt.EqAt.str_none a t'
  |bl b=>cases rx;exact SeqAt.EqAt.str_bool a t' b
  |int b=>obtain⟨t,rfl⟩:=rx;exact SeqAt.EqAt.str_int a t' b t
  |str b=>obtain⟨t,rfl⟩:=rx;exact SeqAt.EqAt.str_str a t' b t
  |_=>exact absurd (show false=true from fx) Ff
 |_=>exact absurd (show false=true from fy) Ff
def eqU(x:V)(u:EG):Bool:=match u with
 | .none=>eqV .non x
 | .bool b=>eqV (.bl b) x
 | .int i _=>eqV (.int i) x
 | .str z _=>eqV (.str z) x
 |_=>false
theorem wW{x y:V}{u:EG}(r:aX y u)(f:gH y=true):eqU x u=eqV y x:=by
 cases y with
 |non=>cases r;rfl
 |bl b=>cases r;rfl
 |int i=>obtain⟨t,rfl⟩:=r;rfl
 |str z=>obtain⟨t,rfl⟩:=r;rfl
 |_=>exact absurd (show false=true from f) Ff
theorem mO{x:V}:∀{xs:List V}{us:List EG},aO xs us->xs.all gH=true->us.any (eqU x)=xs.any λy=>eqV y x
 |_,_,.nil,_=>rfl
 |y::xs,u::us,.cons r t,f=>by
  rw[Km,GI]at f;rw[Pn,Pn,wW r f.1,mO t f.2]
theorem kY{A:FQ}{s:EE}{x:V}{v:EG}(rx:aX x v)(fx:gH x=true):∀{xs:List V}{us:List EG},aO xs us->xs.all gH=true->∀u∈us,SeqAt.EqAt A s u v (eqU x u)
 |_,_,.nil,_=>λu hu=>by cases hu
 |y::xs,u::us,.cons r t,f=>λu' hu=>by
  rw[Km,GI]at f;rcases EH.mp hu with rfl |hu
  ·rw[wW r f.1];exact BT r rx f.1 fx
  ·exact kY rx fx t f.2 u' hu
def inV(x:V)(xs:List V):Bool:=xs.any λy=>eqV y x
def rIn(K:EC)(neg:Bool):R2:=λx y H Q=>∃p xs,y=.ref p/\(SqL K H p xs\/SqT K H p xs)/\gH x=true/\xs.all gH=true/\Q (.bl (if neg then !inV x xs else inV x xs)) H
theorem vG:OpR X (GQ .In) (rIn X.K false):=by
 intro pins s σ H x y v u Q I rx ry h;obtain⟨p,xs,rfl,hq,fx,fs,q⟩:=h;cases ry;rcases hq with hq |hq
 ·obtain⟨Qs,r,pl,hz⟩:=I.list hq;refine SeqAt.in_listAt (eqU x) pl.isList (λw hw=>kY rx fx r fs w (by simpa using hw)) ⟨.bl _,H,I,rfl,?_⟩
  rw[show Qs.toArray.any (eqU x)=Qs.any (eqU x) by simp,mO r fs]
  exact q
 ·obtain⟨Qs,r,pl,hz⟩:=I.tuple hq;refine SeqAt.in_tupleAt (eqU x) pl (λw hw=>kY rx fx r fs w (by simpa using hw)) ⟨.bl _,H,I,rfl,?_⟩
  rw[show Qs.toArray.any (eqU x)=Qs.any (eqU x) by simp,mO r fs]
  exact q
theorem ir:cR X (.builtin "len") (λxs H Q=>∃p ys,xs=[.ref p]∧(SqL X.K H p ys∨SqT X.K H p ys)∧Q (.int ys.length) H):=by
 intro pins s σ H xs us Q I r h;obtain⟨p,ys,rfl,hq,q⟩:=h;obtain⟨u,rfl,rx⟩:=c9 r;cases rx;have hn:=qV;rcases hq with hq |hq
 ·obtain⟨Qs,r',pl,hz⟩:=I.list hq;have Qz:=r'.length;exact Calls.call_len_list pl.isList (by simp only[EU] <;>lia) ⟨.int ys.length,H,I.tok _,⟨s.toks+1,by rw[EU,Qz]⟩,q⟩
 ·obtain⟨Qs,r',pl,hz⟩:=I.tuple hq;have Qz:=r'.length;exact len_tuple pl (by simp only[EU] <;>lia) ⟨.int ys.length,H,I.tok _,⟨s.toks+1,by rw[EU,Qz]⟩,q⟩
theorem nE:cR X (.type "list") (λxs H Q=>∃p ys,xs=[.ref p]∧(SqL X.K H p ys∨SqT X.K H p ys)∧∀l,H l=none→Q (.ref l) (upd H l (.lst ys))):=by
 intro pins s σ H xs us Q I r h;obtain⟨p,ys,rfl,hq,q⟩:=h;obtain⟨u,rfl,rx⟩:=c9 r;cases rx
 have QN:∀(Qs:List EG),aO ys Qs->ys.length<=sizeLine->∀(h':GS) (c':Nat),(∀b o',s.heap.get? b=some o'->h'.get? b=some o')->
   h'.get? s.heap.objs.size=some {cls:=.type "list",dict:=none,data:=.seq Qs.toArray c',slots:=#[] }→EP X pins σ Q (.ref s.heap.objs.size) {s with heap:=h' }:=λQs r' hz h' c' kp e=>
  ⟨.ref s.heap.objs.size,_,I.laid (t':=s.toks) kp (EL _) (show bD X.prog X.w _ h' _ (.lst ys) from ⟨hz,Qs,c',r',e⟩),rfl,q _ (I.hok.fresh (EL _))⟩
 rcases hq with hq |hq
 ·obtain⟨Qs,r',pl,hz⟩:=I.list hq;have Qz:=r'.length;obtain⟨o,ho,hc,n,hd⟩:=pl.isList;exact call_list_seq p (.inl rfl) ho hc hd (λh' c' kp e=>QN Qs r' hz h' c' kp e) (by simp only[EU] <;>lia)
 ·obtain⟨Qs,r',pl,hz⟩:=I.tuple hq;have Qz:=r'.length;obtain⟨o,ho,hc,n,hd⟩:=pl;exact call_list_seq p (.inr rfl) ho hc hd (λh' c' kp e=>QN Qs r' hz h' c' kp e) (by simp only[EU] <;>lia)
theorem lg:cR X (.type "tuple") (λxs H Q=>∃p ys,xs=[.ref p]∧((SqL X.K H p ys∧∀l,H l=none→Q (.ref l) (upd H l (.tup ys)))∨(SqT X.K H p ys∧Q (.ref p) H))):=by
 intro pins s σ H xs us Q I r h;obtain⟨p,ys,rfl,h⟩:=h;obtain⟨u,rfl,rx⟩:=c9 r;cases rx;rcases h with ⟨hq,q⟩ |⟨hq,q⟩
 ·obtain⟨Qs,r',pl,hz⟩:=I.list hq;have Qz:=r'.length;refine call_tuple_list pl.isList (λh' kp=>?_) (by simp only[EU] <;>lia)
  have I1:Inv X pins σ H {s with heap:=h' }:=I.kept (t':=s.toks) kp
  have I2:Inv X pins σ (upd H h'.objs.size (.tup ys)) {s with heap:=h'.push {cls:=.type "tuple",data:=.seq Qs.toArray } }:=
   I1.laid (t':=s.toks) (λb o e=>EA _ e) (EL _) (show bD X.prog X.w _ _ _ (.tup ys) from ⟨hz,Qs,r',IsTup.new _ _⟩)
  exact⟨.ref h'.objs.size,_,I2,rfl,q _ (I1.hok.fresh (EL _))⟩
 ·obtain⟨Qs,r',pl,hz⟩:=I.tuple hq;exact call_tuple_same pl ⟨.ref p,H,I,rfl,q⟩
def tyV(K:EC)(T:String)(x:V)(H:Hp):Prop:=match x with
 | .str _=>T="str"
 | .int _=>T="int"
 | .ref p=>(T="list"∧∃xs,SqL K H p xs)∨(T="tuple"∧∃o,K.lookup p=some o∧o.cls=.type "tuple"∧o.dict=none)∨
   (T="dict"∧((∃Qt,H p=some (.dK Qt))∨∃Qt,H p=some (.dT Qt)))∨(T="set"∧∃S n,H p=some (.set S n))
 |_=>False
theorem v7{pins:List (ES×Obj)}{σ:St}{H:Hp}{s:EE}{T:String}{x:V}{v:EG}(I:Inv X pins σ H s)(r:aX x v)(ty:tyV X.K T x H):
  s.TypeIs v T/\∀a,v=.ref a->∃ob,s.heap.get? a=some ob/\ob.dict=none:=by
 cases x with
 |str z=>
  obtain⟨t,rfl⟩:=r;cases (show T="str" from ty)
  exact⟨typeIs_str s z t,λ_ e=>nomatch e⟩
 |int i=>
  obtain⟨t,rfl⟩:=r;cases (show T="int" from ty)
  exact⟨MD s i t,λ_ e=>nomatch e⟩
 |ref p=>
  cases r;rcases ty with ⟨rfl,xs,hq⟩ |⟨rfl,o,hk,hc,hd⟩ |⟨rfl,hk⟩ |⟨rfl,S,n,hk⟩
  ·obtain⟨Qs,_,pl,_⟩:=I.list hq;refine⟨pl.isList.typeIs,λa e=>?_⟩
   cases e;obtain⟨o,n,e,c,hd,_⟩:=pl;exact⟨o,e,hd⟩
  ·refine⟨⟨o,I.kIn p o hk,hc⟩,λa e=>?_⟩
   cases e;exact⟨o,I.kIn _ o hk,hd⟩
  ·have z:∃o,s.heap.get? p=some o/\o.ExactDict:=by
    rcases hk with ⟨Qt,hk⟩ |⟨Qt,hk⟩
    ·obtain⟨_,_,_,_,o,_,_,e,ex,_⟩:=I.hok p _ hk;exact⟨o,e,ex⟩
    ·obtain⟨_,_,_,_,o,_,_,e,ex,_⟩:=I.hok p _ hk;exact⟨o,e,ex⟩
   obtain⟨o,e,ex⟩:=z;refine⟨⟨o,e,ex.1⟩,λa e2=>?_⟩
   cases e2;exact⟨o,e,ex.2.1⟩
  ·obtain⟨o,_,_,_,e,ex,_⟩:=I.hok p _ hk;refine⟨⟨o,e,ex.1⟩,λa e2=>?_⟩
   cases e2;exact⟨o,e,ex.2.1⟩
 |_=>exact False.elim ty
def D3(K:EC)(T:String)(r:V->List V->Hp->VK->Prop)(to:TE):TE:=λσ H Q=>to σ H λx H1=>tyV K T x H1/\r x [] H1 Q
def tBM(K:EC)(T:String)(r:V->List V->Hp->VK->Prop)(to:TE)(t:TA):TE:=λσ H Q=>to σ H λx H1=>tyV K T x H1/\t σ H1 λxs H2=>r x xs H2 Q
variable {o e:Expr}{es:List Expr}{to:TE}{t:TA}{name:Str}{QQ QE:Pos}{T id:String}{r:V→List V→Hp→VK→Prop}
theorem CK(pa:PlainAttrs T)(slot:Slot T name id)(SQ:typeOf (.builtin id)=pure (.type "method_descriptor"))(hm:MtR X id r)(ho:PE X o to)
  (Q3:IY o name X.env (Io o X.env)=Io o X.env:=by rfl) (Q4:(QQ.endLine==QE.line)=true:=by rfl):PE X (.Call (.Attribute o name QQ) [] [] QE) (D3 X.K T r to):=by
 intro pins s σ H Q I h;refine wpAny_Call_method0_late Q3 Q4 (thn (ho pins s σ H _ I h) λv s1 ⟨x,H1,I1,r1,ty,q1⟩=>?_)
 obtain⟨h1,h2⟩:=v7 I1 r1 ty;exact⟨T,id,pa,slot,SQ,h1,h2,JG rfl (PySem.evalArgs_none (hm pins s1 σ H1 x [] v [] Q I1 r1 .nil q1))⟩
theorem yB(pa:PlainAttrs T)(slot:Slot T name id)(SQ:typeOf (.builtin id)=pure (.type "method_descriptor"))(hm:MtR X id r)(ho:PE X o to)(ha:PA X (e::es) t)
  (Q3:IY o name X.env (Io o X.env)=Io o X.env:=by rfl)
  (R6:((Ie QE (EO (e::es) X.env)).all (λx=>!x.1) && (N_ QE (LB [] X.env)).all (λx=>x.1.isSome)
   && decide ((e::es).length+([]:List KY).length+(if ([]:List KY).isEmpty then 0 else 1)<30))=true:=by rfl)
  (Q4:(QQ.endLine==QE.line)=true:=by rfl) (hs:EO (e::es) X.env=(false,Io e X.env)::EO es X.env:=by rfl) (Rc:(Ie QE (EO es X.env)).any (·.1)=false:=by rfl):
  PE X (.Call (.Attribute o name QQ) (e::es) [] QE) (tBM X.K T r to t):=by
 intro pins s σ H Q I h;refine wpAny_Call_method_late Q3 R6 Q4 rfl (thn (ho pins s σ H _ I h) λv s1 ⟨x,H1,I1,r1,ty,q1⟩=>?_)
 obtain⟨h1,h2⟩:=v7 I1 r1 ty;refine⟨T,id,pa,slot,SQ,h1,h2,?_⟩;have hA:=ha QE pins s1 σ H1 _ I1 q1;rw[hs]at hA |-;refine JG (by show (false || (Ie QE (EO es X.env)).any (·.1))=false;rw[Rc] <;>rfl) (MJ ?_)
 exact thn hA λus s2 ⟨vs,H2,I2,r2,q2⟩=>hm pins s2 σ H2 x vs v us Q I2 r1 r2 q2
end
def MtM(X:Cx)(id:String)(r:V->List V->Hp->VK->Prop):Prop:=
 ∀(pins:List (ES×Obj)) (s:EE) (σ:St) (H:Hp) (x:V) (xs:List V) (v:EG) (us:List EG) (Q:VK),Inv X pins σ H s->aX x v->aO xs us->r x xs H Q->
  E2 (Fm X.prog X.w) X.A (call (.builtin id) (v::us)) (EP X pins σ Q) X.xe s
theorem aO.one:∀{x:V}{us:List EG},aO [x] us->∃u,us=[u]/\aX x u
 |_,_,.cons r .nil=>⟨_,rfl,r⟩
theorem aO.zero:∀{us:List EG},aO [] us->us=[]
 |_,.nil=>rfl
theorem aO.dropLast{xs:List V}{us:List EG}(h:aO xs us):aO xs.dropLast us.dropLast:=by
 induction h with
 |nil=>exact .nil
 |cons r t ih=>
  cases t with
  |nil=>exact .nil
  |cons q t'=>exact .cons r ih
theorem qL{α:Type}(l:List α):l.eraseIdx (l.length-1)=l.dropLast:=by
 induction l with
 |nil=>rfl
 |cons a r ih=>
  cases r with
  |nil=>rfl
  |cons b r=>
   have e:(a::b::r).length-1=((b::r).length-1)+1:=by
    have h1:(a::b::r).length=r.length+2:=rfl;have h2:(b::r).length=r.length+1:=rfl;lia
   rw[e,List.eraseIdx_cons_succ,ih]
   all_goals rfl
section
variable {X:Cx}{pins:List (ES×Obj)}{σ:St}{H:Hp}{s:EE}{l b:ES}{xs ys zs:List V}
theorem Inv.lset{Qs its':List EG}{n:Nat}{f:Array EG->Array EG}{t':Nat}(I:Inv X pins σ H s)(hH:H l=some (.lst xs))
  (e:s.heap.get? l=some {cls:=.type "list",data:=.seq Qs.toArray n }) (hf:f Qs.toArray=its'.toArray) (hv:aO ys its') (hz:ys.length≤sizeLine):
  Inv X pins σ (upd H l (.lst ys)) {s with heap:=s.heap.update l (FT f),toks:=t' }:=by
 have q:=PySem.IsL.update e f;rw[hf]at q;refine I.write (x:=l) (e:=l) (by rw[hH];exact trivial) (.inl rfl) (λb' u hb hu=>(Fd s.heap (FT f) (Ne.symm hb)).trans hu) ⟨_,q⟩ ?_
 exact⟨hz,its',_,hv,q⟩
theorem Inv.lnew{Qs:List EG}{t':Nat}(I:Inv X pins σ H s)(hv:aO ys Qs)(hz:ys.length<=sizeLine):
  Inv X pins σ (upd H s.heap.objs.size (.lst ys)) {s with heap:=s.heap.push {cls:=.type "list",data:=.seq Qs.toArray },toks:=t' }:=
 I.laid (λ_ _ q=>EA _ q) (EL _) ⟨hz,Qs,0,hv,EM _ rfl⟩
theorem Inv.fresh(I:Inv X pins σ H s):H s.heap.objs.size=none:=I.hok.fresh (EL _)
theorem Inv.lstM(I:Inv X pins σ H s)(hH:H l=some (.lst xs)):xs.length≤sizeLine∧∃(Qs:List EG) (n:Nat),aO xs Qs∧xs.length=Qs.length∧s.heap.get? l=some {cls:=.type "list",data:=.seq Qs.toArray n }:=by
 obtain⟨z,Qs,n,r,e⟩:=I.hok l _ hH;exact⟨z,Qs,n,r,r.length,e⟩
theorem oO{n:Nat}(h:n<=sizeLine):Builtin.List.listTooLong n=false:=by
 unfold Builtin.List.listTooLong;exact decide_eq_false (by lia)
end
section
variable {X:Cx}
def z9:V->List V->Hp->VK->Prop:=λx vs H Q=>∃l xs y,x=.ref l/\vs=[y]/\H l=some (.lst xs)/\xs.length<sizeLine/\Q .non (upd H l (.lst (xs++[y])))
theorem iM:MtM X "list.append" z9:=by
 intro pins s σ H x vs v us Q I rx rv h;obtain⟨l,xs,y,rfl,rfl,hH,hz,q⟩:=h;cases rx;obtain⟨u,rfl,ru⟩:=rv.one;obtain⟨z,Qs,n,r,hl,e⟩:=I.lstM hH;refine Pg F.slot_list_append ⟨_,e,rfl⟩ F.entry_list_append (F.args_list_append_2 _ _) (PySem.list_append l Qs.toArray n u (by rw[EU];lia)) ⟨e,?_⟩
 refine⟨.non,_,I.lset (its':=Qs++[u]) hH e (by simp) (r.append (.cons ru .nil)) ?_,rfl,q⟩
 rw[EY,L8];lia
def zn:V->List V->Hp->VK->Prop:=λx vs H Q=>∃l b xs zs,x=.ref l/\vs=[.ref b]/\H l=some (.lst xs)/\H b=some (.lst zs)/\xs.length+zs.length<=sizeLine/\Q .non (upd H l (.lst (xs++zs)))
theorem vE:MtM X "list.extend" zn:=by
 intro pins s σ H x vs v us Q I rx rv h;obtain⟨l,b,xs,zs,rfl,rfl,hH,hB,hz,q⟩:=h;cases rx;obtain⟨u,rfl,ru⟩:=rv.one;cases ru;obtain⟨z,Qs,n,r,hl,e⟩:=I.lstM hH;obtain⟨z2,Qu,n2,r2,QL,e2⟩:=I.lstM hB;have hsz:Qs.toArray.size+Qu.toArray.size<=sizeLine:=by rw[EU,EU];lia
 have S0:¬ (!Qs.toArray.isEmpty && Builtin.List.listTooLong (Qs.toArray.size+Qu.toArray.size))=true:=by
  rw[oO hsz,II];exact Ff
 refine Pg F.slot_list_extend ⟨_,e,rfl⟩ F.entry_list_extend (F.args_list_extend_2 _ _)
  (AutoSeq1.list_extend_list_list_0 l Qs.toArray n b Qu.toArray n2 S0 (by rw[EU];lia) (by lia)) ⟨e,e2,?_⟩
 refine⟨.non,_,I.lset (its':=Qs++Qu) hH e (by simp) (r.append r2) ?_,rfl,q⟩
 rw[EY];lia
def Ee:V->List V->Hp->VK->Prop:=λx vs H Q=>∃l xs y,x=.ref l/\vs=[]/\H l=some (.lst xs)/\xs[xs.length-1]?=some y/\Q y (upd H l (.lst xs.dropLast))
theorem B8:MtM X "list.pop" Ee:=by
 intro pins s σ H x vs v us Q I rx rv h;obtain⟨l,xs,y,rfl,rfl,hH,hy,q⟩:=h;cases rx;have hus:=rv.zero;subst hus;obtain⟨z,Qs,n,r,hl,e⟩:=I.lstM hH;obtain⟨u,hu,ru⟩:=r.get hy
 have TF:Qs.toArray[Qs.toArray.size-1]?=some u:=by
  show Qs.toArray[Qs.length-1]?=some u;rw[<-Fy,<-hl];exact hu
 refine Pg F.slot_list_pop ⟨_,e,rfl⟩ F.entry_list_pop (F.args_list_pop_1 _) (MeetsSeq.list_pop_last l Qs.toArray n u TF (by rw[EU];lia)) ⟨e,?_⟩
 refine⟨y,_,I.lset (its':=Qs.dropLast) hH e ?_ r.dropLast ?_,ru,q⟩
 ·show Qs.toArray.eraseIdxIfInBounds (Qs.toArray.size-1)=Qs.dropLast.toArray;rw[EU,List.eraseIdxIfInBounds_toArray,qL]
 ·rw[Hy];lia
def Ef:R2:=λx y H Q=>∃l b xs zs,x=.ref l/\y=.ref b/\H l=some (.lst xs)/\H b=some (.lst zs)/\xs.length+zs.length<=sizeLine/\∀p,H p=none->Q (.ref p) (upd H p (.lst (xs++zs)))
theorem CG:OpR X (JY .Add) Ef:=by
 intro pins s σ H x y v u Q I rx ry h;obtain⟨l,b,xs,zs,rfl,rfl,hH,hB,hz,q⟩:=h;cases rx;cases ry;obtain⟨z,Qs,n,r,hl,e⟩:=I.lstM hH;obtain⟨z2,Qu,n2,r2,QL,e2⟩:=I.lstM hB;refine PySem.P.add_list e e2 ?_ (by rw[EU,EU];lia)
 have ea:Qs.toArray++Qu.toArray=(Qs++Qu).toArray:=by simp
 rw[ea];exact⟨.ref _,_,I.lnew (t':=s.toks) (r.append r2) (by rw[EY];lia),rfl,q _ I.fresh⟩
end
end L2
namespace Att
open PySem PySem.W PySem.Calls PyProof.Rows
theorem jg{P:Params}{h:GS}:∀(ns:List Int) (vs:List EG),WellAll P h vs (ns.map WData.int)->Po vs ns:=by
 intro ns
 induction ns with
 |nil=>
  intro vs w;rw[NQ]at w;cases w;exact .nil
 |cons n ns ih=>
  intro vs w;rw[Fh]at w;cases w with
  |cons a b=>
   cases a;exact .cons _ _ (ih _ b)
theorem script_of{l:OpenLaw}{n:Nat}(hn:l.most=some n){P:Params}{h:GS}{args:List WData}{vals:List EG}
  (RI:l.row.toRowW.claim.pre args=true) (S1:WellAll P h vals args):
  ∃a vs ns,vals=[EZ a]∧args=[WData.list (ns.map WData.int)]∧h.get? a=some {cls:=.type "list",data:=.seq vs.toArray }∧Po vs ns∧ns.length≤n:=by
 have hsh:WShape.hasAll [] args [.list .int]=true:=(pre_splitW RI).1;have hc:l.pre.holds [] {args:=args }=true:=(pre_splitW RI).2;obtain⟨d,r,rfl,h1,h2⟩:=hasAllW_cons hsh;obtain rfl:=hasAllW_nil h2;obtain⟨xs,rfl,h3⟩:=hasW_list h1;obtain⟨ns,rfl⟩:=items_int h3
 have Qz:ns.length<=n:=by
  unfold OpenLaw.pre at hc
  have h4:(WTm.not (.lt (.lit (.int (n:Int))) (.len (.arg 0)))).holds [] {args:=[.list (ns.map .int)] }=true:=by
   have h4:=(holds_andW hc).1;rw[hn]at h4;exact h4
  have h5:=condW_of h4 (w_not (w_lt w_lit (w_len_list (w_arg rfl))));rw[Ex]at h5;refine Jj λq=>?_
  have q':(n:Int)<((ns.length:Nat):Int):=by lia
  first
   | (rw[decide_eq_true q']at h5;exact absurd h5 (by decide))
   | (simp at h5;lia)
 cases S1 with
 |cons w1 w2=>
  cases w2;cases w1 with
  |list ho QH=>exact⟨_,_,ns,rfl,rfl,ho,jg ns _ QH,Qz⟩
theorem post_true(l:OpenLaw)(args:List WData):l.row.toRowW.claim.post args (.bool true) args=true:=
 postW_of (r:=l.row.toRowW) (X:=(true==true))
  (show WShape.has [] (.bool true) .bool=true by first |rfl |decide |simp[WShape.has,WShape.arms,WShape.armsAll])
  (show (WTm.eq .res (.lit (.bool true))).value [] {args:=args,res:=some (.bool true),after:=args }=some (.bool (true==true)) from w_eq_bool (w_res rfl) w_lit) rfl
end Att
namespace L2
open PySem PySem.Spec PyProof.Rows
theorem mt:∀{vs:List EG}{ns:List Int},Po vs ns->aO (ns.map V.int) vs
 |_,_,.nil=>.nil
 |_,_,.cons n t h=>.cons ⟨t,rfl⟩ (mt h)
def AE(H:Hp):Prop:=∀b,H b=none\/∃o xs,H b=some (.frz o (.lst xs))
theorem yu{P:E1}{w:Fz}{K:EC}{mg mb:Str->Option EG}{CX:CXT}{k:Nat}{fa a:ES}{fd:G9}{x:Str}{sp:Sp}{Qw:EE}{vs:List EG}{ns:List Int}
  (KX:K.In Qw.heap) (hns:Qw.heap.Ns GT mg) (hb:Qw.heap.Ns OX mb) (hbb:∀x:Str,x≠"__name__"→mb x=GY x) (hlim:Qw.heap.NoLimit) (hg:Qw.gens=#[])
  (ha:Qw.heap.get? a=some {cls:=.type "list",data:=.seq vs.toArray }) (hi:Po vs ns) (hl:ns.length≤sizeLine) (hr:eL k NC)
  (F:∀base:GS,K.In base->base.Ns GT mg->aZ P w K mg base CX k fa fd [x] sp) (hbind:∀(s:EE) (u:EG),Pl s fd ⟨[u],[]⟩ [(x,u)])
  (RR:∀H:Hp,AE H->SqL K H a (ns.map V.int)->sp [.ref a] H (λv _=>v=.bl true) λ_ _ _=>False)
  (hCX:∀H e s',CX [] H Qw (λ_ _ _=>False) e s'->False):
  IK (Fm P w) NC (.call (.ref fa) ⟨[.ref a],[]⟩) (λr s'=>r=.ok (.ret (.bool true))/\OldK Qw.heap s'.heap/\s'.os=Qw.os/\Lw s'.gens) Qw:=by
 have rv:=mt hi;have lenV:=hi.length
 have core:∀H:Hp,AE H->SqL K H a (ns.map V.int)->HOk P w H Qw.heap->(∀b,H b≠none->b=a)->(H a≠none->K.lookup a=none)->
   IK (Fm P w) NC (.call (.ref fa) ⟨[.ref a],[]⟩) (λr s'=>r=.ok (.ret (.bool true))/\OldK Qw.heap s'.heap/\s'.os=Qw.os/\Lw s'.gens) Qw:=by
  intro H hO hS hok hA hK;have Ss:∀{b:ES}{o:Obj},Qw.heap.get? b=some o->H b=none->(nC Qw.heap H).get? b=some o:=λe n=>wU e n
  have noA:∀{b:ES}{o:Obj}{es:Array PL}{ep:Nat},Qw.heap.get? b=some o->o.data=.dict es ep->H b=none:=λ{b o es ep} e d=>by
   cases q:H b with
   |none=>rfl
   |some u=>
    have e':b=a:=hA b (by rw[q];simp)
    subst e';rw[ha]at e;cases e;have d':Data.seq vs.toArray _=Data.dict es ep:=d;cases d'
  have nsK:∀{b:ES}{m:Str->Option EG},Qw.heap.Ns b m->(nC Qw.heap H).Ns b m:=λ{b m} ⟨o,es,ep,e,d,r⟩=>⟨o,es,ep,Ss e (noA e d),d,r⟩
  have hKb:K.In (nC Qw.heap H):=λb o e=>Ss (KX b o e) (by
   cases q:H b with
   |none=>rfl
   |some u=>
    have e':b=a:=hA b (by rw[q];simp)
    subst e';rw[hK (by rw[q];simp)]at e;cases e)
  have hM:Mod K mg (nC Qw.heap H):=⟨hKb,nsK hns,⟨mb,nsK hb,hbb⟩,let ⟨mc,h1,h2⟩:=hlim;⟨mc,nsK h1,h2⟩⟩;have e0:Am P w K mg (nC Qw.heap H) NC [] Qw H:=⟨rfl,hM,λb o e=>zF e,PM (vo _ _),trivial,λb hb=>absurd (show b∈([]:List ES) from hb) (by simp),hok,.of_eq hg⟩
  refine IL ((F _ hKb (nsK hns)).run NC [] Qw H ⟨[.ref a],[]⟩ [.ref a] [.ref a] _ _ hr e0 (hbind Qw (.ref a)) (.cons rfl .nil) (RR H hO hS)) λr s' h=>?_
  cases r with
  |error e=>exact (hCX H e s' h).elim
  |ok fl=>
   cases fl with
   |next=>exact False.elim h
   |brk=>exact False.elim h
   |cont=>exact False.elim h
   |ret u=>
    obtain⟨v,H',os,bare,un,hok',r',q⟩:=h;have q':v=.bl true:=q;subst q';obtain rfl:u=FS true:=r';refine⟨rfl,OldK.of_keep λb o e=>?_,os,bare⟩
    cases q:H b with
    |none=>exact un.keep b o e q (by intro z;exact absurd (show b∈([]:List ES) from z) (by simp)) (by simp)
    |some u=>
     rcases hO b with z |⟨ob,xs,z⟩
     ·rw[q]at z;cases z
     ·have z2:=un.frzs b ob _ z;obtain⟨e1,_⟩:=hok b _ z;obtain⟨e2,_⟩:=hok' b _ z2;rw[e]at e1;cases e1;exact e2
 cases hk:K.lookup a with
 |some o=>
  have e:=KX a o hk;rw[ha]at e;cases e;refine core (λ_=>none) (λ_=>.inl rfl) (.inr ⟨_,vs.toArray,_,hk,rfl,rfl,rfl,by rw[EU,lenV];exact hl,by simpa using rv⟩) (λb u z=>by have z':(none:Option HO)=some u:=z;cases z') (λb z=>absurd rfl z) λz=>absurd rfl z
 |none=>
  refine core (λb=>if b=a then some (.frz {cls:=.type "list",data:=.seq vs.toArray } (.lst (ns.map V.int))) else none) (λb=>?_) (.inl (.inr ⟨{cls:=.type "list",data:=.seq vs.toArray },if_pos rfl⟩)) (λb u z=>?_) (λb z=>?_) λ_=>hk
  ·by_cases hb:b=a
   ·exact .inr ⟨_,_,if_pos hb⟩
   ·exact .inl (if_neg hb)
  ·by_cases hb:b=a
   ·have z':=(if_pos hb).symm.trans z;cases z';subst hb;exact⟨ha,by rw[Ex];exact hl,vs,_,rv,ha⟩
   ·have z':=(if_neg hb).symm.trans z;cases z'
  ·by_cases hb:b=a
   ·exact hb
   ·exact absurd (if_neg hb) z
abbrev KOf{K:EC}{h:GS}(_:K.In h):EC:=K
end L2
namespace L2
open PySem PySem.Spec PyProof.Rows
def bL(s:HL):Arguments:=match s with
 | .FunctionDef _ a _ _ _ _ _ _ _ _=>a
 |_=>{posonlyargs:=[],args:=[],vararg:=none,kwonlyargs:=[],kw_defaults:=[],kwarg:=none,defaults:=[] }
def bn(s:HL):List HL:=match s with
 | .FunctionDef _ _ b _ _ _ _ _ _ _=>b
 |_=>[]
def aj(s:HL):Kk:=match s with
 | .FunctionDef _ _ _ _ _ _ sc _ _ _=>sc
 |_=>{kind:=.function,names:=[],isGenerator:=false,isCoroutine:=false }
abbrev CX0:CXT:=λ_ _ _ _ _ _=>False
abbrev E0:XK:=λ_ _ _=>False
structure Fun(K:EC)(x Qy:Str)(st:HL)(f:ES)(fd:G9):Prop where
 ex:∃(oc:EG) (od:Option ES) (kV Rm pm:EG) (an:Option ES) (QA ct:EG) (Sr:Array (Option EG)),
  fd=Hc x Qy (bL st) (bn st) (aj st) .none kV Rm pm an QA ct/\K.lookup f=some ⟨oc,od,.func fd,Sr⟩/\JZ K QA Qy=true
 kp:H_ K (.ref f)=true
section
variable {P:E1}{w:Fz}{K:EC}{mg:Str→Option EG}{base:GS}
theorem Fun.binds{x Qy:Str}{st:HL}{f:ES}{fd:G9}{ps:List Str}(F:Fun K x Qy st f fd)
  (h:∀(kV Rm pm:EG) (an:Option ES) (QA ct:EG) (us:List EG),us.length=ps.length->KH (Hc x Qy (bL st) (bn st) (aj st) .none kV Rm pm an QA ct) ⟨us,[]⟩=pure (ps.zip us)):dB K fd ps []:=by
 obtain⟨oc,od,kV,Rm,pm,an,QA,ct,Sr,rfl,lk,Ri⟩:=F.ex;exact .all (h kV Rm pm an QA ct)
theorem wP{x Qy:Str}{st:HL}{f:ES}{oc:EG}{od an:Option ES}{Sr:Array (Option EG)}{kV Rm pm QA ct:EG}(l:K.lookup f=some ⟨oc,od,.func (Hc x Qy (bL st) (bn st) (aj st) .none kV Rm pm an QA ct),Sr⟩)
  (c:JZ K QA Qy=true) (k:H_ K (.ref f)=true):Fun K x Qy st f (Hc x Qy (bL st) (bn st) (aj st) .none kV Rm pm an QA ct):=⟨⟨oc,od,kV,Rm,pm,an,QA,ct,Sr,rfl,l,c⟩,k⟩
end
theorem aG{n:Nat}(h:n<=1000):n<sizeLine:=HS h (by decide)
theorem uZ{A B:Prop}(h:B):if false=true then A else B:=by
 rw[if_neg Ff];exact h
theorem u7{A B:Prop}(h:A):if true=true then A else B:=by
 rw[if_pos rfl];exact h
def aI(H H':Hp):Prop:=∀b o,H b=some o->H' b=some o
theorem aI.refl(H:Hp):aI H H:=λ_ _ h=>h
theorem aI.trans{H H1 H2:Hp}(a:aI H H1)(b:aI H1 H2):aI H H2:=λc o h=>b c o (a c o h)
theorem aI.free{H H':Hp}(e:aI H H'){l:ES}(h:H' l=Qe):H l=Qe:=by
 cases q:H l with
 |none=>rfl
 |some o=>
  rw[e l o q]at h;cases h
theorem aI.seq{K:EC}{H H':Hp}{a:ES}{xs:List V}(e:aI H H')(h:SqL K H a xs):SqL K H' a xs:=by
 rcases h with (h |⟨o,h⟩) |h
 ·exact .inl (.inl (e _ _ h))
 ·exact .inl (.inr ⟨o,e _ _ h⟩)
 ·exact .inr h
def Sz(m:Nat)(x:Int):Prop:=x.natAbs<2 ^ m
theorem Sz.mono{m n:Nat}{x:Int}(h:Sz m x)(SR:m<=n):Sz n x:=Fu h (Jd (by decide) SR)
theorem Sz.neg{m:Nat}{x:Int}(h:Sz m x):Sz m (-x):=by unfold Sz at *;rw[Int.natAbs_neg];exact h
theorem Sz.add{m:Nat}{x y:Int}(hx:Sz m x)(hy:Sz m y):Sz (m+1) (x+y):=by
 unfold Sz at *;have:=Int.natAbs_add_le x y;rw[HD];lia
theorem Sz.sub{m:Nat}{x y:Int}(hx:Sz m x)(hy:Sz m y):Sz (m+1) (x-y):=by
 rw[Int.sub_eq_add_neg];exact hx.add hy.neg
theorem Sz.mul{m n:Nat}{x y:Int}(hx:Sz m x)(hy:Sz n y):Sz (m+n) (x*y):=by
 unfold Sz at *;rw[J0,Nat.pow_add];exact Nat.mul_lt_mul'' hx hy
theorem Sz.le{m:Nat}{x y:Int}(h:x.natAbs<=y.natAbs)(hy:Sz m y):Sz m x:=HS h hy
theorem Sz.ediv{m:Nat}{x y:Int}(hx:Sz m x):Sz m (x/y):=Sz.le (Int.natAbs_ediv_le_natAbs x y) hx
theorem Sz.abs{m:Nat}{x:Int}(hx:Sz m x):Sz m (if x<0 then -x else x):=by split;exact hx.neg;exact hx
instance (m:Nat) (x:Int):Decidable (Sz m x):=inferInstanceAs (Decidable (x.natAbs<2 ^ m))
theorem Sz.add'{m n:Nat}{x y:Int}(hx:Sz m x)(hy:Sz n y):Sz (max m n+1) (x+y):=(hx.mono (Od m n)).add (hy.mono (NX m n))
theorem Sz.sub'{m n:Nat}{x y:Int}(hx:Sz m x)(hy:Sz n y):Sz (max m n+1) (x-y):=(hx.mono (Od m n)).sub (hy.mono (NX m n))
theorem Sz.lit{m:Nat}{x:Int}(h:Sz m x):Sz m x:=h
theorem Sz.ok{m n:Nat}{x y:Int}(hx:Sz m x)(hy:Sz n y)(h:m+n<=134217728):IntMulOk x y:=
 PyProof.Rows.mulOk_of_bits (intBits_le_iff.mpr hx) (intBits_le_iff.mpr hy) h
theorem Sz.log{m:Nat}{x:Int}(h:Sz m x)(hm:m<=9000)(h0:x≠0):x.natAbs.log2<9000:=by
 have q:=(Nat.log2_lt (by lia)).mpr (show x.natAbs<2 ^ m from h)
 lia
def Br(_ j:Int):Prop:=0<j/\Sz 9000 j
def Bx(_ j:Int):Prop:=j≠0/\Sz 9000 j
section
variable {X:Cx}{a b c:Expr}{ta tb tc:TE}{pos:Pos}
theorem Aq:OpR X (JY .Mult) (rI IntMulOk λi j=>.int (i*j)):=opI λ_ _ _ _ _ _ _ hc q=>mul_int q hc
theorem wQ:OpR X (JY .FloorDiv) (rI Br λi j=>.int (i/j)):=opI λi j _ _ _ _ _ hc q=>by
 have h1:(0:Int)<j:=hc.1;exact floordiv_int (by lia) (by rw[Int.fdiv_eq_ediv_of_nonneg i (by lia)];exact q) (.inl (PyProof.noPylong_of_log2 (hc.2.log (by decide) (by lia))))
theorem x5:OpR X (JY .FloorDiv) (rI Bx λi j=>.int (i.fdiv j)):=opI λi j _ _ _ _ _ hc q=>
 floordiv_int hc.1 q (.inl (PyProof.noPylong_of_log2 (hc.2.log (by decide) hc.1)))
theorem Da{x:Str}{n:String}{pos:Pos}(hg:Gl X x)(hm:X.mg x=none)(hv:GY x=some (.type n))(hn:x≠"__name__":=by decide)(hd:(x==("__debug__":Str))=false:=by decide):PE X (.Name x pos) (tC (.ty n)):=
 z8 hg hm hv rfl hn hd
theorem qN:cR X (.type "int") (λxs H Q=>∃k,xs=[.bl k]∧Q (.int (if k then 1 else 0)) H):=by
 intro pins s σ H xs us Q I r h;obtain⟨k,rfl,q⟩:=h;exact u_ pins s σ H _ us Q I r (.inr ⟨k,rfl,q⟩)
end
theorem kit_int_int(K:EC):Jg K (.type "int") (.type "int")=some true:=rfl
theorem kit_int_bool(K:EC):Jg K (.type "int") (.type "bool")=some false:=rfl
theorem kit_tuple_tuple(K:EC):Jg K (.type "tuple") (.type "tuple")=some true:=rfl
theorem kit_list_list(K:EC):Jg K (.type "list") (.type "list")=some true:=rfl
theorem aL{H:Hp}{p:ES}(h:H p=none)(o:HO):aI H (upd H p o):=λb u q=>by rw[a_ (cM q h)];exact q
theorem aI.put{H H':Hp}{l:ES}(e:aI H H')(h:H l=none)(o:HO):aI H (upd H' l o):=λb u q=>by rw[a_ (cM q h)];exact e b u q
theorem aI.tup{K:EC}{H H':Hp}{a:ES}{xs:List V}(e:aI H H')(h:SqT K H a xs):SqT K H' a xs:=by
 rcases h with (h |⟨o,h⟩) |h
 ·exact .inl (.inl (e _ _ h))
 ·exact .inl (.inr ⟨o,e _ _ h⟩)
 ·exact .inr h
end L2
namespace L2
open PySem PySem.W PySem.Calls PySem.Spec PyProof.Rows
theorem pW{ns:List Int}(h:WData.layableAll [WData.list (ns.map WData.int)]=true):∀n∈ns,Sz 1048576 n:=by
 intro n hn;have h1:=(PySem.W.layableW_arg h) _ (EJ.mpr rfl);have h2:=PySem.W.layableW_item h1 (WData.int n) (ED.mpr ⟨n,hn,rfl⟩);have h3:=(PySem.W.layableW_iff.mp h2).2.2;have h4:Builtin.Int.intBits n<=1048576:=by simpa only[WData.weight,Builtin.Int.intBits] using h3
 exact intBits_le_iff.mp h4
theorem nS{l:Oe}{n:Nat}{q:E1}{Su:List Str}{XP:(Str->Option EG)->GS->Prop}{YP:Fz->GS->Prop}{d:DefRec}
  (hn:l.most=some n) (hdf:d.params.defaults=[])
  (call:∀(w:Fz) (s₀ Qw:EE) (mg mb:Str->Option EG) (fa:ES) (o:Obj) (pm cd Rm:EG) (a:ES) (vs:List EG) (ns:List Int),
   PySem.W.Ground q Su [] XP w s₀ mg mb Qw.heap->YP w Qw.heap->
   Qw.heap.get? fa=some o->o.data=.func (docDef d.name d.params d.body d.scope pm cd Rm)->Qw.heap.CodeRec cd d.name->mg d.name=some (.ref fa)->
   Qw.heap.get? a=some {cls:=.type "list",data:=.seq vs.toArray }→Po vs ns→ns.length≤n→(∀m∈ns,Sz 1048576 m)→Qw.gens=#[]→
   IK (Fm l.prog w) NC (.call (.ref fa) ⟨[.ref a],[]⟩) (λr s'=>r=.ok (.ret (.bool true))/\OldK Qw.heap s'.heap/\s'.os=Qw.os/\Lw s'.gens) Qw):
  Pp q Su XP YP l.row.toRowW d [] (λf vs=>Qp f vs):=by
 intro w s₀ Qw mg mb G Y fa o pm cd Rm dV kV ho hd Ri hD hmg hg args vals as RI hlay hrd S1 hlo;obtain rfl:dV=.none:=Qk hD hdf;obtain rfl:kV=.none:=Ql hD;obtain⟨a,vs,ns,rfl,rfl,hobj,S2,Qz⟩:=Att.script_of hn RI S1;refine PySem.W.enter_call (IL (call w s₀ Qw mg mb fa o pm cd Rm a vs ns G Y ho (PySem.W.fd_plain hd) Ri hmg hobj S2 Qz (pW hlay) hg) λr s' hq=>?_)
 obtain⟨rfl,h2,h3,h4⟩:=hq;exact⟨.inl ⟨.bool true,.bool true,[],rfl,λ_=>rfl,.bool true,Att.post_true l _,λ_=>⟨IZ,λ_ hm=>(nomatch hm)⟩⟩,h2,h3,h4⟩
theorem walk_ofB{l:Oe}{n k:Nat}{q:E1}{Su:List Str}{XP:(Str->Option EG)->GS->Prop}{YP:Fz->GS->Prop}{d:DefRec}{K:Params->EC}{CX:CXT}{sp:EC->Sp}{x:Str}
  (hn:l.most=some n) (hn2:n<=sizeLine) (hdf:d.params.defaults=[]) (hr:eL k NC)
  (hY:∀(w:Fz) (h:GS),YP w h->(K w.params).In h)
  (F:∀(w:Fz) (mg:Str->Option EG) (fa:ES) (h:GS),(K w.params).In h->h.Ns GT mg->mg d.name=some (.ref fa)->
   ∃fd:G9,(∀(s:EE) (u:EG),Pl s fd ⟨[u],[]⟩ [(x,u)])/\
    ∀base:GS,(K w.params).In base->base.Ns GT mg->aZ l.prog w (K w.params) mg base CX k fa fd [x] (sp (K w.params)))
  (RR:∀(K:EC) (H:Hp) (a:ES) (ns:List Int),ns.length<=n->(∀m∈ns,Sz 1048576 m)->AE H->SqL K H a (ns.map V.int)->sp K [.ref a] H (λv _=>v=.bl true) λ_ _ _=>False)
  (hCX:∀(H:Hp) (s:EE) (e:EG) (s':EE),CX [] H s (λ_ _ _=>False) e s'->False):
  Pp q Su XP YP l.row.toRowW d [] (λf vs=>Qp f vs):=by
 refine nS hn hdf λw s₀ Qw mg mb fa o pm cd Rm a vs ns G Y ho hd Ri hmg hobj S2 Qz hbits hg=>?_
 have KX:=hY w _ Y;obtain⟨fd,hb,hF⟩:=F w mg fa _ KX G.T.g hmg;exact yu KX G.T.g G.T.b G.T.builtins G.T.nolimit hg hobj S2 (Gg Qz hn2) hr hF hb (λH hO hS=>RR _ H a ns Qz hbits hO hS) λH e s'=>hCX H Qw e s'
end L2
namespace L2
theorem xB{α:Type}{xs:List α}{k:Int}{i:Nat}{v:α}(e:k=(i:Int))(h:xs[i]?=some v):atI xs k=some v:=by subst e;exact tw h
theorem Sz.natle{m:Nat}{x y:Int}(hy:Sz m y)(h:x.natAbs<=y.natAbs):Sz m x:=Sz.le h hy
end L2
namespace L2
open PySem PySem.Spec PyProof.Rows
abbrev aD(X:Cx)(Qr:Kk)(cl:List (Str×ES))(C:ES)(s:EE)(H:Hp)(fp:List ES):Cx:=
 {X with s₀:=s,H₀:=H,env:=ME Qr cl C X.env,outer:=X.stack,ex:=fp,fn:=λ_=>false,pn:=[],xe:=λ_ _=>False }
def mask:List Nat->St->St
 |[],σ=>σ
 |i::is,σ=>mask is (σ.set i none)
theorem fo:∀(is:List Nat) (σ:St),(mask is σ).length=σ.length
 |[],_=>rfl
 |i::is,σ=>by rw[mask,fo is];simp
theorem hW:∀(is:List Nat) (σ:St) (j:Nat) (v:V),(mask is σ)[j]?=some (some v)->σ[j]?=some (some v)/\j ∉ is
 |[],σ,j,v,h=>⟨h,by simp⟩
 |i::is,σ,j,v,h=>by
  obtain⟨h1,h2⟩:=hW is _ j v h;by_cases e:i=j
  ·subst e;rw[Lh]at h1;simp at h1
  ·rw[Fc e]at h1;exact⟨h1,by simp[Ne.symm e,h2]⟩
structure dm(X:Cx)(Qr:Kk)(cl:List (Str×ES))(is:List Nat):Prop where
 clos:Ph Qr X.env=pure cl
 cell:∀y∈Qr.names,y.2≠.cell
 kind:Qr.kind=.function
 names:∀y∈Qr.names,y.2=.local->Qr.names.lookup y.1=some .local
 cls:∀x c,cl.lookup x=some c->X.env.cells.lookup x=some c
 free:∀x,((Of Qr X.env).names.lookup x=some .cell\/(Of Qr X.env).names.lookup x=some .free)->Vis X.env.scope x/\X.env.scope.names.lookup x≠some .local/\∃c,cl.lookup x=some c
 own:∀i x,X.N[i]?=some x->(Of Qr X.env).names.lookup x=some .local->i∈is
def xR(J:It)(is:List Nat)(g:TG)(te:TE)(σ:St)(H1:Hp)(l:ES)(Q:VK):Prop:=
 ∃W:Nat->Nat->Hp->Prop,(∃m,W 0 m (upd H1 l (.lst [])))/\∀i m H2,W i m H2->
  (J.stop i H2/\Q (.ref l) H2)\/(J.go i H2/\∀x H3,J.yld i H2 x H3->g x (mask is σ) H3 λS3 H4=>te S3 H4 λy H5=>
   (∀(j:Nat) (v:V),(mask is σ)[j]?=some (some v)->S3[j]?=some (some v))/\∃vs,H5 l=some (.lst vs)/\vs.length<sizeLine/\∃m',m'<m/\W (i+1) m' (upd H5 l (.lst (vs++[y]))))
def yj(is:List Nat)(g:TG)(te:TE)(σ:St)(Q:VK)(J:It)(H1:Hp):Prop:=∀l,H1 l=none->xR J is g te σ H1 l Q
def De(is:List Nat)(wi:TI)(g:TG)(te:TE):TE:=λσ H Q=>wi σ H (yj is g te σ Q)
section
variable {X:Cx}{pins:List (ES×Obj)}{σ:St}{H:Hp}{s:EE}
theorem i8{Qr:Kk}{cl:List (Str×ES)}{is:List Nat}{fp:List ES}{h₁:GS}{m:Str->Option EG}{t':Nat}(I:Inv X pins σ H s)(B:dm X Qr cl is)(hf:∀b∈fp,ko X pins H b)(hfl:∀b∈fp,b<s.heap.objs.size)
  (hn:h₁.Ns s.heap.objs.size m) (hk:∀b o,s.heap.get? b=some o->h₁.get? b=some o):
  Inv (aD X Qr cl s.heap.objs.size s H fp) [] (mask is σ) H {s with heap:=h₁,toks:=t' }:=by
 refine⟨⟨I.ok.mod,B.kind,I.ok.glob,I.ok.blt,EL _,λx y c h1 h2=>I.ok.inj x y c (B.cls x c h1) (B.cls y c h2),λx hx=>(B.free x hx).2.2,λx c h=>(by cases h),I.ok.hd,I.ok.frames,.inl rfl,λb hb=>⟨Fe (hfl b hb),λx c e=>(hf b hb).2.2.2.2.1 x c (B.cls x c e)⟩,
  I.bs,Gg I.ok.bsz I.sz,λb o e hb=>?_,λb hb z=>?_,I.stack,I.stkFree⟩,rfl,I.bare,Un.kept hk,⟨m,hn,λi x v h1 h2 h3=>?_⟩,λx c e=>?_,I.hok.fresh (EL _),λx c e=>I.freeC x c (B.cls x c e),λp hp=>absurd (show p∈([]:List (ES×Obj)) from hp) (by simp),I.hok.kept hk,?_⟩
 ·rcases (hf b hb).2.2.2.1 with z |z
  ·exact I.ok.noex b o e z
  ·exact absurd (Fu (EN e) (Gg I.ok.bsz z)) (Fl _)
 ·rcases EH.mp (I.stkSub b z) with e |e
  ·exact (hf b hb).2.1 e
  ·exact (hf b hb).2.2.1 e
 ·obtain⟨e2,ni⟩:=hW is σ i v h2;have R7:(Of Qr X.env).names.lookup x=some .local\/(Of Qr X.env).names.lookup x=some .cell\/(Of Qr X.env).names.lookup x=some .free:=h3;rcases R7 with z |z
  ·exact absurd (B.own i x h1 z) ni
  ·obtain⟨hv,hnl,c,hc⟩:=B.free x z;obtain⟨m0,_,hl⟩:=I.loc;obtain⟨u,r,l⟩:=hl i x v h1 e2 hv;refine⟨u,r,.inr ⟨z,c,hc,?_⟩⟩;rcases l with ⟨k,_⟩ |⟨_,c',Sx,o,ho,hd⟩
   ·exact absurd k hnl
   ·have ec:=B.cls x c hc;rw[Sx]at ec;cases ec;exact⟨o,hk _ _ ho,hd⟩
 ·obtain⟨v,o,ho,hd⟩:=I.cell x c (B.cls x c e);exact⟨v,o,hk _ _ ho,hd⟩
 ·show (mask is σ).length=X.N.length;rw[fo];exact I.len
theorem wu{Q7 iter tg:Expr}{Qr:Kk}{cl:List (Str×ES)}{pos pos0:Pos}{is:List Nat}{g:TG}{te:TE}{use:Option (EG->Sem Unit)}{Q0:VK}{Q:EG->EE->Prop}(hc:X.calm=true)(B:dm X Qr cl is)
  (hg:∀C s H fp,PG (aD X Qr cl C s H fp) tg g) (he:∀C s H fp,PE (aD X Qr cl C s H fp) Q7 te) (hs:∀x,Gm iter X.env x=pure x)
  (I:Inv X pins σ H s) (hi:E2 (Fm X.prog X.w) X.A (Io iter X.env) (λv s1=>E2 (Fm X.prog X.w) X.A (MV v) (PIE X pins σ tg (yj is g te σ Q0)) X.xe s1) X.xe s)
  (QN:∀(l C:ES) (H':Hp) (s':EE) (m:Str->Option EG),Inv X pins σ H' s'->s'.heap.Ns C m->H' C=none->C≠X.env.locals->C ∉ X.fs->X.s₀.heap.objs.size<=C->(∀x c,X.env.cells.lookup x=some c->c≠C)->(∀p∈X.pn++pins,p.1≠C)->Q0 (.ref l) H'->
   Pq (Fm X.prog X.w) X.A X.xe use Q (.ref l) C (.ok .next) s'):
  E2 (Fm X.prog X.w) X.A (Ng (.ListComp Q7 [⟨tg,iter,[],0⟩] Qr pos) Qr X.env pos0 (newList []) false (Io iter X.env) use) Q X.xe s:=by
 refine Li rfl hs B.clos B.kind B.names (thn hi λxv s1 h1=>thn h1 λitv s2 h2=>?_)
 obtain⟨it,fp,tn,J,H2,e,I2,T,st2,f2,R⟩:=h2;subst e;refine FZ (MK B.cell (by intro y hy;simp at hy) (λh₁ hns Rt=>?_) B.kind)
 have hl:H2 s2.heap.objs.size=none:=I2.hok.fresh (EL _);obtain⟨W,⟨m0,w0⟩,turn⟩:=R s2.heap.objs.size hl
 have I3:Inv X pins σ (upd H2 s2.heap.objs.size (.lst [])) {s2 with heap:=s2.heap.push {cls:=.type "list",dict:=none,data:=.seq ([]:List EG).toArray } }:=
  I2.laid (t':=s2.toks) (o:=.lst []) (λb u e=>EA _ e) (EL _) ⟨FH _,[],0,.nil,EM _ rfl⟩
 have hfl:∀b∈fp,b<s2.heap.objs.size:=λb hb=>let ⟨o,e,_⟩:=T.obj 0 _ st2 b hb;EN e
 have f3:∀b∈fp,ko X pins (upd H2 s2.heap.objs.size (.lst [])) b:=λb hb=>⟨by rw[a_ (Fe (hfl b hb))];exact (f2 b hb).1,(f2 b hb).2⟩
 have kp:∀b o,(s2.heap.push {cls:=.type "list",dict:=none,data:=.seq ([]:List EG).toArray }).get? b=some o→h₁.get? b=some o:=λb o e=>
  Rt.extBut b o (Fe (EN e)) (EA _ e)
 have st4:tn 0 h₁:=T.keep 0 _ _ st2 λb _ o e=>kp b o (EA _ e)
 have hfl3:∀b∈fp,b<(s2.heap.push {cls:=.type "list",dict:=none,data:=.seq ([]:List EG).toArray }).objs.size:=λb hb=>by
  rw[Ga];exact GL (hfl b hb)
 have I4:=i8 (t':=s2.toks+([]:List (Str×EG)).length) I3 B f3 hfl3 hns kp
 have loop:IK (Fm X.prog X.w) X.A (.compLoop (.ListComp Q7 [⟨tg,iter,[],0⟩] Qr pos) 0 (.ref it) (.ref s2.heap.objs.size) (ME Qr cl (s2.heap.push {cls:=.type "list",dict:=none,data:=.seq ([]:List EG).toArray }).objs.size X.env))
   (Pq (Fm X.prog X.w) X.A X.xe use Q (.ref s2.heap.objs.size) (s2.heap.push {cls:=.type "list",dict:=none,data:=.seq ([]:List EG).toArray }).objs.size)
   {s2 with heap:=h₁,toks:=s2.toks+([]:List (Str×EG)).length }:=by
  generalize hs3:({s2 with heap:=s2.heap.push {cls:=.type "list",dict:=none,data:=.seq ([]:List EG).toArray } }:EE)=s3 at *
  have hC:(s2.heap.push {cls:=.type "list",dict:=none,data:=.seq ([]:List EG).toArray }).objs.size=s3.heap.objs.size:=by rw[←hs3]
  rw[hC]
  have RA:∀{H':Hp},(∀b∈fp,H' b=none)->∀b∈fp,ko (aD X Qr cl s3.heap.objs.size s3 (upd H2 s2.heap.objs.size (.lst [])) fp) [] H' b:=λhn b hb=>
   ⟨hn b hb,(I4.ok.exf b hb).1,I4.ok.exfs b hb,.inl hb,λx c e=>(I4.ok.exf b hb).2 x c e,λp hp=>absurd (show p∈([]:List (ES×Obj)) from hp) (by simp)⟩
  have back:∀{QC:St}{H':Hp}{pp:List (ES×Obj)}{s':EE},Inv (aD X Qr cl s3.heap.objs.size s3 (upd H2 s2.heap.objs.size (.lst [])) fp) pp QC H' s'->Inv X pins σ H' s':=λI'=>
   I3.call' (ch:=fp) I'.os I'.base I'.hok I'.bare λb hb=>⟨(f3 b hb).2.2.2.1,(f3 b hb).2.1,(f3 b hb).2.2.2.2.1,(f3 b hb).2.2.2.2.2⟩
  refine codeAny_loop rfl (λn s'=>∃i H',Inv (aD X Qr cl s3.heap.objs.size s3 (upd H2 s2.heap.objs.size (.lst [])) fp) [] (mask is σ) H' s'/\tn i s'.heap/\(∀b∈fp,H' b=none)/\W i n H') ?_ m0 ⟨0,_,(by subst hs3;exact I4),st4,λb hb=>(f3 b hb).1,w0⟩
  rintro n s5 ⟨i,H5,I5,TM,fr5,w5⟩;show E2 _ _ ((compTurn (.ListComp Q7 [⟨tg,iter,[],0⟩] Qr pos) 0 (.ref it) (.ref s2.heap.objs.size) (ME Qr cl s3.heap.objs.size X.env)).onRaise (λx=>do noteFrame x (ME Qr cl s3.heap.objs.size X.env);Og x)) _ _ s5
  refine wpAny_noted ?_;rw[compTurn_list1];refine Ew (Lz (Ew ?_));rcases turn i n H5 w5 with ⟨stop,q⟩ |⟨go,step⟩
  ·refine thn (T.done (aD X Qr cl s3.heap.objs.size s3 (upd H2 s2.heap.objs.size (.lst [])) fp) rfl rfl rfl hc i [] s5 _ H5 _ I5 (RA fr5) TM stop) λr s6 ⟨hr,I6⟩=>?_
   subst hr;refine Ez ?_;obtain⟨m6,hn6,_⟩:=I6.loc;have hCn:∀b,b<s3.heap.objs.size->b≠s3.heap.objs.size:=λb hb=>Fe hb
   refine QN _ s3.heap.objs.size H5 s6 m6 (back I6) hn6 I6.free (Js I3.lt) (I3.nofs (EL _)) I3.sz (λx c e=>?_) (λp hp=>?_) q
   ·obtain⟨v,z⟩:=I3.cell x c e;exact Fe z.lt
   ·exact Fe (EN (I3.pin p hp).1)
  ·refine thn (T.item (aD X Qr cl s3.heap.objs.size s3 (upd H2 s2.heap.objs.size (.lst [])) fp) rfl rfl rfl hc i [] s5 _ H5 _ I5 (RA fr5) TM go) λr s6 ⟨u,hr,h6⟩=>?_
   subst hr;refine Ew (thn h6 λ_ s7 ⟨x,H7,I7,r7,y7,st7,fr7⟩=>?_)
   have I7':=I7.pinned (RA fr7) (T.obj _ _ st7);refine Ew (He (hg _ _ _ _ _ s7 (mask is σ) H7 x u _ I7' r7 (step x H7 y7)) (λ_ s8 ⟨σ8,H8,I8,q8⟩=>?_) λ_ _ z=>z.elim)
   refine Ew (Ew (He (he _ _ _ _ _ s8 σ8 H8 _ I8 q8) (λv s9 ⟨y,H9,I9,r9,sub,vs,hl9,hz,m',hm,w'⟩=>?_) λ_ _ z=>z.elim))
   refine Ew (He (iM (X:=aD X Qr cl s3.heap.objs.size s3 (upd H2 s2.heap.objs.size (.lst [])) fp) _ s9 σ8 H9 (.ref s2.heap.objs.size) [y] (.ref s2.heap.objs.size) [v] (λ_ H'=>H'=upd H9 s2.heap.objs.size (.lst (vs++[y]))) I9 rfl (.cons r9 .nil) ⟨_,vs,y,rfl,rfl,hl9,hz,rfl⟩) (λz s10 ⟨zv,H10,I10,_,e10⟩=>?_) λ_ _ z=>z.elim)
   subst e10;refine Ez (Ez ⟨rfl,m',hm,i+1,_,(I10.unpinned (pins:=[])).weak (by rw[I10.len,fo,I.len]) sub,T.keep _ _ _ st7 λb hb o e=>(I10.pin (b,o) (EW _ (EW _ (di hb e)))).1,λb hb=>?_,w'⟩)
   obtain⟨o,e,d⟩:=T.obj _ _ st7 b hb;exact (I10.pin (b,o) (EW _ (EW _ (di hb e)))).2.1
 exact LS loop (T.self X.A 0 _ _ _ st4 loop)
theorem z_{Q7 iter tg:Expr}{Qr:Kk}{cl:List (Str×ES)}{pos:Pos}{is:List Nat}{wi:TI}{g:TG}{te:TE}(hc:X.calm=true)(B:dm X Qr cl is)
  (hi:PI X tg iter wi) (hg:∀C s H fp,PG (aD X Qr cl C s H fp) tg g) (he:∀C s H fp,PE (aD X Qr cl C s H fp) Q7 te) (hs:∀x,Gm iter X.env x=pure x:=by intro _;rfl):
  PE X (.ListComp Q7 [⟨tg,iter,[],0⟩] Qr pos) (De is wi g te):=by
 intro pins s σ H Q I h;rw[eval_ListComp];refine wu (use:=none) hc B hg he hs I (hi pins s σ H _ I h) λl C H' s' m I' hn h1 h2 h3 h4 h5 h6 q=>⟨m,hn,λh' Rt=>?_⟩
 exact⟨.ref l,H',I'.turned (t':=s'.toks) (λb o hb e=>Rt.extBut b o hb e) h1 (Ne.symm h2.symm) (.inr h4) h5 h6,rfl,q⟩
end
def goC(cells:List (Str×ES)):List (Str×Kl)->List (Str×ES)->List (Str×ES)
 |[],acc=>acc
 | (n,k)::r,acc=>goC cells r (if (k==.free)=true then (n,(cells.lookup n).getD 0)::acc else acc)
theorem qD{env:Env}{Qr:Kk}(h:∀y∈Qr.names,y.2=.free->(env.cells.lookup y.1).isSome=true):Ph Qr env=pure (goC env.cells Qr.names []):=by
 have all:∀(names:List (Str×Kl)) (acc:List (Str×ES)),(∀y∈names,y.2=.free->(env.cells.lookup y.1).isSome=true)->
   (PN names acc (λx cs=>match x with | (name,kind)=>if (kind==.free)=true then (do let c <-cellOf env name;pure (ForInStep.yield ((name,c)::cs))) else pure (ForInStep.yield cs)):Sem (List (Str×ES)))=pure (goC env.cells names acc):=by
  intro names
  induction names with
  |nil=>intro acc _;rfl
  |cons y r ih=>
   intro acc hy;obtain⟨n,k⟩:=y;rw[IM];by_cases hk:k=.free
   ·subst hk;have:=hy (n,.free) EF rfl;obtain⟨c,hc⟩:=Jt.mp this;have e:cellOf env n=pure c:=by unfold cellOf;rw[hc]
    simp only[beq_self_eq_true,if_true,e,pure_bind];rw[ih _ λy TF=>hy y (EB _ TF)]
    simp only[goC,beq_self_eq_true,if_true,hc,HN]
   ·have hb:(k==NameKind.free)=false:=by simpa using hk
    simp only[hb,EK,if_false,pure_bind];rw[ih _ λy TF=>hy y (EB _ TF)]
    simp only[goC,hb,EK,if_false]
 simp only[Ph];have:=all Qr.names [] h;simpa using this
theorem tV{cells:List (Str×ES)}:∀(names:List (Str×Kl)) (acc:List (Str×ES)),(∀y∈names,y.2=.free->(cells.lookup y.1).isSome=true)->(∀x c,acc.lookup x=some c->cells.lookup x=some c)->
  ∀x c,(goC cells names acc).lookup x=some c->cells.lookup x=some c
 |[],_,_,ha,x,c,h=>ha x c h
 | (n,k)::r,acc,hy,ha,x,c,h=>by
  rw[goC]at h;refine tV r _ (λy TF=>hy y (EB _ TF)) (λx' c' e=>?_) x c h
  by_cases hk:k=.free
  ·subst hk;simp only[beq_self_eq_true,if_true]at e;rw[Kc]at e;by_cases hx:(x'==n)=true
   ·rw[hx]at e;have SW:x'=n:=by simpa using hx
    obtain⟨c2,hc2⟩:=Jt.mp (hy (n,.free) EF rfl);simp only[hc2,HN]at e;rw[SW,hc2];exact e
   ·have:(x'==n)=false:=by simpa using hx
    rw[this]at e;exact ha x' c' e
  ·have hb:(k==NameKind.free)=false:=by simpa using hk
   rw[hb]at e;exact ha x' c' e
theorem sZ{cells:List (Str×ES)}{x:Str}:∀(names:List (Str×Kl)) (acc:List (Str×ES)),((x,NameKind.free)∈names\/∃c,acc.lookup x=some c)->∃c,(goC cells names acc).lookup x=some c
 |[],_,h=>by
  rcases h with h |h
  ·cases h
  ·exact h
 | (n,k)::r,acc,h=>by
  rw[goC];refine sZ r _ ?_;rcases h with h |⟨c,h⟩
  ·rcases EH.mp h with e |h
   ·cases e
    right
    simp
   ·exact .inl h
  ·right
   by_cases hk:k=.free
   ·subst hk;simp only[beq_self_eq_true,if_true];rw[Kc];cases hx:x==n with
    |true=>exact⟨_,rfl⟩
    |false=>exact⟨c,h⟩
   ·have hb:(k==NameKind.free)=false:=by simpa using hk
    rw[hb];exact⟨c,h⟩
theorem cW{env:Env}{x:Str}{kd:Kl}:∀{names:List (Str×Kl)},
  (names.map λ(n,k)=>if (k==NameKind.free && env.scope.kind==.function && env.kindOf n==some .cell) then (n,NameKind.cell) else (n,k)).lookup x=some kd->names.lookup x=some kd\/(kd=.cell/\names.lookup x=some .free)
 |[],h=>by simp at h
 | (n,k)::r,h=>by
  have ih:=@cW env x kd r
  change List.lookup x ((if (k==NameKind.free && env.scope.kind==.function && env.kindOf n==some .cell)=true then (n,NameKind.cell) else (n,k))::_)=_ at h
  by_cases hc:(k==NameKind.free && env.scope.kind==.function && env.kindOf n==some .cell)=true
  ·rw[if_pos hc]at h;rw[Kc]at h |-;cases hx:x==n with
   |true=>
    rw[hx]at h
    have hk:k=.free:=by
     have:=(ML.mp (ML.mp hc).1).1;simpa using this
    subst hk;have h':some NameKind.cell=some kd:=h;cases h';exact .inr ⟨rfl,rfl⟩
   |false=>rw[hx]at h;exact ih h
  ·rw[if_neg hc]at h;rw[Kc]at h |-;cases hx:x==n with
   |true=>rw[hx]at h;exact .inl h
   |false=>rw[hx]at h;exact ih h
def yN(Qr Rf:Kk)(N:List Str)(is:List Nat):Bool:=
 Qr.names.all (λy=>y.2 !=.cell) && Qr.names.all (λy=>y.2 !=.local ||Qr.names.lookup y.1==some .local) && Qr.names.all (λy=>y.2 !=.free ||Rf.names.lookup y.1==some .cell) &&
  (Fw N.length).all λi=>match N[i]? with |some x=>Qr.names.lookup x !=some .local ||is.contains i |none=>true
theorem blk{X:Cx}{Qr:Kk}(Rf:Kk)(N:List Str)(is:List Nat)(hNN:X.N=N)(hs:X.env.scope=Rf)(hcs:X.env.cells=Oc (X.env.locals+1) Rf.names [])(hk:Qr.kind=.function)(h:yN Qr Rf N is=true):dm X Qr (goC X.env.cells Qr.names []) is:=by
 subst hNN;unfold yN at h;simp only[GI,Kd]at h;obtain⟨⟨⟨h1,h2⟩,h3⟩,h4⟩:=h
 have f1:∀y∈Qr.names,y.2=.free->Rf.names.lookup y.1=some .cell:=λy hy e=>by
  have:=h3 y hy;simp only[Oh,bne_iff_ne,ne_eq,beq_iff_eq]at this;exact this.resolve_left λz=>z e
 have f2:∀y∈Qr.names,y.2=.free->(X.env.cells.lookup y.1).isSome=true:=λy hy e=>by
  rw[hcs];exact JF _ _ _ (.inl (f1 y hy e))
 have nc:∀y∈Qr.names,y.2≠.cell:=λy hy=>by have:=h1 y hy;simpa using this
 refine⟨qD f2,nc,hk,λy hy e=>?_,tV _ _ f2 (λx c e=>by simp at e),λx hx=>?_,λi x hi hl=>?_⟩
 ·have:=h2 y hy;simp only[Oh,bne_iff_ne,ne_eq,beq_iff_eq]at this;exact this.resolve_left λz=>z e
 ·have hf:(x,NameKind.free)∈Qr.names:=by
   rcases hx with hx |hx
   ·rcases cW hx with z |⟨_,z⟩
    ·exact absurd rfl (nc _ (GV z))
    ·exact GV z
   ·rcases cW hx with z |⟨z,_⟩
    ·exact GV z
    ·cases z
  have hc:=f1 _ hf rfl;refine⟨.inr (.inl (by rw[hs];exact hc)),(by rw[hs,show Rf.names.lookup x=some .cell from hc];intro z;cases z),sZ _ _ (.inl hf)⟩
 ·have QI:i<X.N.length:=(ET.mp hi).1;have:=h4 i (E5.mpr QI);rw[hi]at this
  have QG:Qr.names.lookup x=some .local:=by
   rcases cW hl with z |⟨z,_⟩
   ·exact z
   ·cases z
  simp only[QG,bne_self_eq_false,Bool.false_or,List.contains_iff_mem]at this;exact this
end L2
namespace L2
open PySem PySem.Spec PySem.W PyProof.Rows
def CXF(P:E1)(w:Fz):CXT:=λouter H s E e s'=>∃(ea:ES) (cls a0:EG) (B:GS) (H':Hp),e=.ref ea/\s'.os=s.os/\Lw s'.gens/\Un (frs outer) [] H H' s.heap s'.heap/\HOk P w H' s'.heap/\H' ea=none/\
 (∀b o,s.heap.get? b=some o->b ∉ frs outer->H b=none->B.get? b=some o)/\(∀b u,H' b=some u->∃o,B.get? b=some o)/\(∀b o,s.heap.get? b=some o->b ∉ frs outer->∃o',B.get? b=some o')/\
 Heap.FlyingW B outer ea cls a0 s'.heap/\E cls none H'
theorem aA{P:E1}{w:Fz}{X:Cx}:iT (CXF P w) X E0:=λ_ _ _ _ _ _ _ h=>by
 obtain⟨_,_,_,_,_,_,_,_,_,_,_,_,_,_,_,hE⟩:=h;exact hE.elim
theorem Fun.okF{P:E1}{w:Fz}{K:Frag}{mg:Str->Option EG}{base:GS}{x Qy:Str}{st:HL}{f:ES}{fd:G9}{N ps:List Str}{k:Nat}{sp:Sp}(F:Fun K x Qy st f fd)(S:au N ps (aj st))(len:∀vs H Q E,sp vs H Q E->vs.length=ps.length)
  (Q2:∀(QA:EG) (A:FQ) (outer:List Env) (s:EE) (H:Hp) (vs:List V) (Q:VK) (E:XK),eL k (A.deeper (L7 Qy (aj st) s.heap.objs.size f QA))->sp vs H Q E->
   ∃t,PSs (nV (CXF P w) P w K mg base N Qy (aj st) f QA A outer s H E) (bn st) t/\t {nx:=λ_ H'=>Q .non H',rt:=Q } (start N vs) H):aZ P w K mg base (CXF P w) (k+1) f fd ps sp:=by
 obtain⟨oc,od,kV,Rm,pm,an,QA,ct,Sr,rfl,lk,Ri⟩:=F.ex;exact BA lk Ri S len λA outer s H vs Q E hr RR=>Q2 QA A outer s H vs Q E hr RR
end L2
namespace L2
open PySem PySem.Spec PyProof.Rows
theorem me{n:Nat}{e:Nat->Bool}:(Fw n).all e=true↔∀j,j<n->e j=true:=by
 rw[Kd];exact⟨λh j hj=>h j (E5.mpr hj),λh j hj=>h j (E5.mp hj)⟩
end L2
namespace PySem.W
open PySem PySem.Spec PySem.Calls PyProof.Rows PySem.Builtin PySem.Builtin.ObjectAttr PySem.Builtin.Getset_descriptor
section
variable {prog:E1}{w:Fz}{A:FQ}{E:EG→EE→Prop}{s:EE}{K:Frag}{x C:ES}
def OfCls(x C:ES)(h:GS):Prop:=∃o,h.get? x=some o/\o.cls=.ref C
variable (hga:findIn K (.ref C) "__getattribute__"=some (some (.builtin "BaseException.__getattribute__"))) (hgn:findIn K (.ref C) "__getattr__"=some none) (ha:findIn K (.ref C) "__class__"=some (some (.builtin "object.__class__")))
 (hn:specialIn K (.builtin "object.__class__") "__get__"=some (some (.builtin "getset_descriptor.__get__"))) (RH:takesIn K (.builtin "object.__class__")=some true) (hm:mroIn K C (.type "object")=some true) (hmB:mroIn K C (.type "BaseException")=some true)
include ha hn RH hm in
end
structure XcOk(K:Frag)(C:ES):Prop where
 ga:findIn K (.ref C) "__getattribute__"=some (some (.builtin "BaseException.__getattribute__"))
 gn:findIn K (.ref C) "__getattr__"=some none
 at_:findIn K (.ref C) "__class__"=some (some (.builtin "object.__class__"))
 sp:specialIn K (.builtin "object.__class__") "__get__"=some (some (.builtin "getset_descriptor.__get__"))
 tk:takesIn K (.builtin "object.__class__")=some true
 mo:mroIn K C (.type "object")=some true
 mb:mroIn K C (.type "BaseException")=some true
theorem XcOk.off{x C:ES}{h:GS}{o:Obj}{T:String}(I:OfCls x C h)(e:h.get? x=some o)(c:o.cls=.type T):False:=by
 obtain⟨o',e',c'⟩:=I;rw[e]at e';cases e';rw[c]at c';cases c'
end PySem.W
namespace L2
open PySem PySem.Spec PyProof.Rows
abbrev K4:=(Int×Int)×(Int×Int)
inductive TyX where
 |nm (n:String) |xc (C:ES) |dp (hh:K4->Int) (Qt:List (K4×Int))
inductive U where
 |non |bl (b:Bool) |int (i:Int) |str (x:Str) |ty (n:TyX) |dic |scr (xs:List U) |tup (xs:List U) |lst (xs:List U)
def U.items:U->Option (List U)
 | .scr xs=>some xs
 | .tup xs=>some xs
 | .lst xs=>some xs
 |_=>none
def hid(H:Hp)(O:List ES):Hp:=λb=>if b∈O then none else H b
theorem gT{H:Hp}{O:List ES}{b:ES}{o:HO}(h:hid H O b=some o):H b=some o/\b ∉ O:=by
 unfold hid at h;split at h
 ·cases h
 ·exact⟨h,by assumption⟩
theorem dg{H:Hp}{O:List ES}{b:ES}{o:HO}(h:H b=some o)(n:b ∉ O):hid H O b=some o:=by
 unfold hid;rw[if_neg n];exact h
theorem ao{H:Hp}{O:List ES}:aI (hid H O) H:=λ_ _ h=>(gT h).1
theorem aT{H H':Hp}{O:List ES}(e:aI H H'):aI (hid H O) (hid H' O):=λ_ _ h=>dg (e _ _ (gT h).1) (gT h).2
theorem d7{H:Hp}{O O':List ES}(e:∀a∈O',a∈O):aI (hid H O) (hid H O'):=λ_ _ h=>dg (gT h).1 λz=>(gT h).2 (e _ z)
theorem bu{H H':Hp}{O:List ES}{a:ES}(e:aI H H')(n:H a=none):aI (hid H O) (hid H' (a::O)):=λb o h=>by
 obtain⟨h1,h2⟩:=gT h;refine dg (e _ _ h1) λz=>?_
 rcases EH.mp z with y |y
 ·subst y;rw[n]at h1;cases h1
 ·exact h2 y
theorem jp{H:Hp}{O:List ES}{a:ES}{o:HO}(h:a∈O):hid (upd H a o) O=hid H O:=by
 funext b
 unfold hid;split
 ·rfl
 ·rename_i n
  rw[a_ λe=>n (by rw[e];exact h)]
def pV(p:Int×Int):List V:=[.int p.1,.int p.2]
def KPr(K:EC)(H:Hp)(b:ES)(k:K4):Prop:=∃p q,SqT K H b [.ref p,.ref q]/\SqT K H p (pV k.1)/\SqT K H q (pV k.2)
abbrev jd:=K4×ES×EG
def Sdp(hh:K4->Int)(d:ES)(ep:Nat)(xs:List jd)(h:GS):Prop:=
 (d==Ko)=false/\xs.length<=sizeLine/\∃o es,h.get? d=some o/\o.ExactDict/\o.data=.dict es ep/\es.toList=xs.map (λx=>⟨hh x.1,.ref x.2.1,x.2.2⟩)/\(xs.map (·.1)).Nodup
def b7(xs:List jd)(Qt:List (K4×Int)):Prop:=xs.length=Qt.length/\∀(i:Nat) (x:jd) (y:K4×Int),xs[i]?=some x->Qt[i]?=some y->x.1=y.1/\∃t,x.2.2=.int y.2 t
inductive Rp (K:EC) (H:Hp):V->U->Prop where
 |non:Rp K H .non .non
 |bl (b:Bool):Rp K H (.bl b) (.bl b)
 |int (i:Int):Rp K H (.int i) (.int i)
 |str (x:Str):Rp K H (.str x) (.str x)
 |ty (n:String):Rp K H (.ty n) (.ty (.nm n))
 |dic {a:ES}{Qt:List (Key×V)} (h:H a=some (.dK Qt)):Rp K H (.ref a) .dic
 |xc {a C:ES} (h:H a=some (.ext (PySem.W.OfCls a C))) (k:PySem.W.XcOk K C):Rp K H (.ref a) (.ty (.xc C))
 |dp {a:ES}{hh:K4->Int}{ep:Nat}{xs:List jd}{Qt:List (K4×Int)} (h:H a=some (.ext (Sdp hh a ep xs))) (hk:∀x∈xs,KPr K H x.2.1 x.1) (hv:b7 xs Qt):Rp K H (.ref a) (.ty (.dp hh Qt))
 |scr {a:ES}{vs:List V}{xs:List U} (h:SqL K H a vs) (hl:vs.length=xs.length) (hi:∀(i:Nat) (v:V) (x:U),vs[i]?=some v->xs[i]?=some x->Rp K H v x):Rp K H (.ref a) (.scr xs)
 |tup {a:ES}{vs:List V}{xs:List U} (h:SqT K H a vs) (hl:vs.length=xs.length) (hi:∀(i:Nat) (v:V) (x:U),vs[i]?=some v->xs[i]?=some x->Rp K H v x):Rp K H (.ref a) (.tup xs)
 |lst {a:ES}{vs:List V}{xs:List U} (h:H a=some (.lst vs)) (hl:vs.length=xs.length) (hi:∀(i:Nat) (v:V) (x:U),vs[i]?=some v->xs[i]?=some x->Rp K H v x):Rp K H (.ref a) (.lst xs)
theorem Rp.same{K:EC}{H H':Hp}{v:V}{u:U}(e:aI H H')(h:Rp K H v u):Rp K H' v u:=by
 induction h with
 |non=>exact .non
 |bl b=>exact .bl b
 |int i=>exact .int i
 |str x=>exact .str x
 |ty n=>exact .ty n
 |dic h=>exact .dic (e _ _ h)
 |xc h k=>exact .xc (e _ _ h) k
 |dp h hk hv=>exact .dp (e _ _ h) (λx hx=>let ⟨p,q,a,b,c⟩:=hk x hx;⟨p,q,e.tup a,e.tup b,e.tup c⟩) hv
 |scr h hl hi ih=>exact .scr (e.seq h) hl ih
 |tup h hl hi ih=>exact .tup (e.tup h) hl ih
 |lst h hl hi ih=>exact .lst (e _ _ h) hl ih
structure Rps(K:EC)(H:Hp)(vs:List V)(xs:List U):Prop where
 len:vs.length=xs.length
 at_:∀(i:Nat) (v:V) (x:U),vs[i]?=some v->xs[i]?=some x->Rp K H v x
theorem Rps.same{K:EC}{H H':Hp}{vs:List V}{xs:List U}(e:aI H H')(h:Rps K H vs xs):Rps K H' vs xs:=⟨h.len,λi v x a b=>(h.at_ i v x a b).same e⟩
theorem Rps.nil{K:EC}{H:Hp}:Rps K H [] []:=⟨rfl,λi v x h=>by simp at h⟩
theorem Rps.cons{K:EC}{H:Hp}{v:V}{x:U}{vs:List V}{xs:List U}(h:Rp K H v x)(t:Rps K H vs xs):Rps K H (v::vs) (x::xs):=by
 refine⟨by simp[t.len],λi a b h1 h2=>?_⟩
 cases i with
 |zero=>simp at h1 h2;subst h1;subst h2;exact h
 |succ i=>exact t.at_ i a b (by simpa using h1) (by simpa using h2)
theorem Rps.snoc{K:EC}{H:Hp}{vs ws:List V}{xs ys:List U}(h:Rps K H vs xs)(t:Rps K H ws ys):Rps K H (vs++ws) (xs++ys):=by
 refine⟨by simp[h.len,t.len],λi a b h1 h2=>?_⟩
 by_cases hi:i<vs.length
 ·rw[E6 hi]at h1;rw[E6 (by rw[<-h.len];exact hi)]at h2
  exact h.at_ i a b h1 h2
 ·have Sy:vs.length<=i:=Jj hi;rw[E7 Sy]at h1;rw[E7 (by rw[<-h.len];exact Sy),<-h.len]at h2
  exact t.at_ _ a b h1 h2
theorem Rps.get{K:EC}{H:Hp}{vs:List V}{xs:List U}{i:Nat}{x:U}(h:Rps K H vs xs)(e:xs[i]?=some x):∃v,vs[i]?=some v/\Rp K H v x:=by
 have hi:i<vs.length:=by rw[h.len];exact (ET.mp e).1
 exact⟨vs[i],Ey hi,h.at_ i _ x (Ey hi) e⟩
theorem Rps.atI{K:EC}{H:Hp}{vs:List V}{xs:List U}{i:Int}{x:U}(h:Rps K H vs xs)(e:L2.atI xs i=some x):∃v,L2.atI vs i=some v/\Rp K H v x:=by
 unfold L2.atI at e |-;rw[h.len];cases q:ixN xs.length i with
 |none=>rw[q]at e;cases e
 |some j=>
  rw[q]at e;obtain⟨v,h1,h2⟩:=h.get (show xs[j]?=some x from e)
  exact⟨v,h1,h2⟩
theorem Rps.cons_inv{K:EC}{H:Hp}{vs:List V}{x:U}{xs:List U}(h:Rps K H vs (x::xs)):∃v ws,vs=v::ws/\Rp K H v x/\Rps K H ws xs:=by
 cases vs with
 |nil=>have:=h.len;simp at this
 |cons v ws=>
  refine⟨v,ws,rfl,h.at_ 0 v x rfl rfl,by have:=h.len;simpa using this,λi a b h1 h2=>h.at_ (i+1) a b (by simpa using h1) (by simpa using h2)⟩
theorem Rps.nil_inv{K:EC}{H:Hp}{vs:List V}(h:Rps K H vs []):vs=[]:=Gq.mp (by rw[h.len];rfl)
structure DkR(K:EC)(H:Hp)(kv:List (Key×V))(Qt:List (Str×U)):Prop where
 len:kv.length=Qt.length
 at_:∀(i:Nat) (k:Key) (v:V) (x:Str) (u:U),kv[i]?=some (k,v)->Qt[i]?=some (x,u)->k=.inr x/\Rp K H v u
theorem DkR.same{K:EC}{H H':Hp}{kv:List (Key×V)}{Qt:List (Str×U)}(e:aI H H')(h:DkR K H kv Qt):DkR K H' kv Qt:=⟨h.len,λi k v x u a b=>⟨(h.at_ i k v x u a b).1,(h.at_ i k v x u a b).2.same e⟩⟩
inductive Sl where
 |val (u:U) |own (xs:List U) |pin (w:V) (u:U) |dsk (w:Bool) (C a d:ES) (Qt:List (Str×U))
abbrev PSt:=List (Option Sl)
def zN(K:EC)(H:Hp)(O O0:List ES)(v:V):Sl->Prop
 | .val u=>Rp K (hid H O) v u
 | .own xs=>∃a vs,v=.ref a/\a∈O/\a ∉ O0/\H a=some (.lst vs)/\Rps K (hid H O) vs xs
 | .pin w u=>v=w/\Rp K (hid H O) v u
 | .dsk w C a d Qt=>∃dx kv,v=.ref a∧d∈O∧(w=true→d ∉ O0)∧H a=some (.ins C dx [("lands",.ref d)])∧H d=some (.dK kv)∧DkR K (hid H O) kv Qt
structure Rs(K:EC)(H0:Hp)(O0:List ES)(ps:PSt)(σ:St)(H:Hp)(O:List ES):Prop where
 same:aI H0 H
 old:∀a∈O0,a∈O
 new:∀a∈O,a∈O0\/H0 a=none
 dom:∀a∈O,H a≠none
 len:σ.length=ps.length
 at_:∀(i:Nat) (s:Sl),ps[i]?=some (some s)->∃v,σ[i]?=some (some v)/\zN K H O O0 v s
 inj:∀(i j:Nat) (xs ys:List U) (a:ES),ps[i]?=some (some (.own xs))->ps[j]?=some (some (.own ys))->σ[i]?=some (some (.ref a))->σ[j]?=some (some (.ref a))->i=j
variable {H0:Hp}{H:Hp}{O0:List ES}
section
variable {K:EC}{H':Hp}{O:List ES}{ps:PSt}{σ:St}
theorem zN.same{v:V}{s:Sl}(e:aI H H')(h:zN K H O O0 v s):zN K H' O O0 v s:=by
 cases s with
 |val u=>exact Rp.same (aT e) h
 |own xs=>obtain⟨a,vs,h1,h2,h3,h4,h5⟩:=h;exact⟨a,vs,h1,h2,h3,e _ _ h4,h5.same (aT e)⟩
 |pin w u=>exact⟨h.1,Rp.same (aT e) h.2⟩
 |dsk w C a d Qt=>obtain⟨dx,kv,h1,h2,h3,h4,h5,h6⟩:=h;exact⟨dx,kv,h1,h2,h3,e _ _ h4,e _ _ h5,h6.same (aT e)⟩
theorem Rs.go(R:Rs K H0 O0 ps σ H O)(e:aI H H'):Rs K H0 O0 ps σ H' O:=
 ⟨R.same.trans e,R.old,R.new,λa ha z=>R.dom a ha (e.free z),R.len,λi s h=>let ⟨v,h1,h2⟩:=R.at_ i s h;⟨v,h1,h2.same e⟩,R.inj⟩
theorem cO{α:Type}{xs:List α}{i j:Nat}{y x:α}(h:(xs.set i y)[j]?=some x):(i=j/\x=y)\/(i≠j/\xs[j]?=some x):=by
 by_cases e:i=j
 ·subst e;rw[Lh]at h;simp at h;exact .inl ⟨rfl,h.2.symm⟩
 ·rw[Fc e]at h;exact .inr ⟨e,h⟩
theorem fZ{α:Type}{xs:List α}{i:Nat}{y:α}(h:i<xs.length):(xs.set i y)[i]?=some y:=by rw[Lh];simp[h]
theorem aw{α:Type}{xs:List α}{i:Nat}{y:α}(h:xs[i]?=some y):i<xs.length:=(ET.mp h).1
theorem jT{i:Nat}{u:U}{j:Nat}{xs:List U}(h:(ps.set i (some (.val u)))[j]?=some (some (.own xs))):i≠j/\ps[j]?=some (some (.own xs)):=by
 rcases cO h with ⟨_,e⟩ |h
 ·cases e
 ·exact h
theorem Rs.set{i:Nat}{v:V}{u:U}(R:Rs K H0 O0 ps σ H O)(r:Rp K (hid H O) v u):Rs K H0 O0 (ps.set i (some (.val u))) (σ.set i (some v)) H O:=by
 refine⟨R.same,R.old,R.new,R.dom,by simp[R.len],λj s h=>?_,λj k xs ys a h1 h2 h3 h4=>?_⟩
 ·rcases cO h with ⟨e,q⟩ |⟨n,q⟩
  ·subst e;cases q;have hi:=aw h;rw[IP]at hi;exact⟨v,fZ (by rw[R.len];exact hi),r⟩
  ·obtain⟨w,h1,h2⟩:=R.at_ j s q;exact⟨w,by rw[Fc n];exact h1,h2⟩
 ·obtain⟨n1,q1⟩:=jT h1;obtain⟨n2,q2⟩:=jT h2;rw[Fc n1]at h3;rw[Fc n2]at h4;exact R.inj j k xs ys a q1 q2 h3 h4
theorem Rs.drop{i:Nat}{o:Option V}(R:Rs K H0 O0 ps σ H O):Rs K H0 O0 (ps.set i none) (σ.set i o) H O:=by
 have key:∀{j:Nat}{s:Sl},(ps.set i none)[j]?=some (some s)->i≠j/\ps[j]?=some (some s):=λ{j s} h=>by
  rcases cO h with ⟨_,e⟩ |h
  ·cases e
  ·exact h
 refine⟨R.same,R.old,R.new,R.dom,by simp[R.len],λj s h=>?_,λj k xs ys a h1 h2 h3 h4=>?_⟩
 ·obtain⟨n,q⟩:=key h;obtain⟨w,h1,h2⟩:=R.at_ j s q;exact⟨w,by rw[Fc n];exact h1,h2⟩
 ·obtain⟨n1,q1⟩:=key h1;obtain⟨n2,q2⟩:=key h2;rw[Fc n1]at h3;rw[Fc n2]at h4;exact R.inj j k xs ys a q1 q2 h3 h4
theorem Rs.own{i:Nat}{a:ES}{vs:List V}{xs:List U}(R:Rs K H0 O0 ps σ H O)(e:aI H H')(n:H a=none)(h:H' a=some (.lst vs))(r:Rps K (hid H' (a::O)) vs xs):
  Rs K H0 O0 (ps.set i (some (.own xs))) (σ.set i (some (.ref a))) H' (a::O):=by
 have na:a ∉ O:=λz=>R.dom a z n
 have na0:a ∉ O0:=λz=>na (R.old a z)
 have n0:H0 a=none:=R.same.free n
 have Uh:∀(j:Nat) (ys:List U),ps[j]?=some (some (.own ys))->σ[j]?≠some (some (.ref a)):=λj ys h1 h2=>by
  obtain⟨v,h3,b,ws,h4,h5,_⟩:=R.at_ j _ h1;rw[h2]at h3;cases h3;cases h4;exact na h5
 refine⟨R.same.trans e,λb hb=>EB _ (R.old b hb),λb hb=>?_,λb hb z=>?_,by simp[R.len],λj s q=>?_,λj k ys zs b h1 h2 h3 h4=>?_⟩
 ·rcases EH.mp hb with y |y
  ·subst y;exact .inr n0
  ·exact R.new b y
 ·rcases EH.mp hb with y |y
  ·subst y;rw[h]at z;cases z
  ·exact R.dom b y (e.free z)
 ·rcases cO q with ⟨e',q'⟩ |⟨ne,q'⟩
  ·subst e';cases q';have hi:=aw q;rw[IP]at hi;exact⟨.ref a,fZ (by rw[R.len];exact hi),a,vs,rfl,EF,na0,h,r⟩
  ·obtain⟨w,h1,h2⟩:=R.at_ j s q';refine⟨w,by rw[Fc ne];exact h1,?_⟩
   cases s with
   |val u=>exact Rp.same (bu e n) h2
   |own ys=>
    obtain⟨b,ws,k1,k2,k3,k4,k5⟩:=h2;exact⟨b,ws,k1,EB _ k2,k3,e _ _ k4,k5.same (bu e n)⟩
   |pin z u=>exact⟨h2.1,Rp.same (bu e n) h2.2⟩
   |dsk w C b d Qt=>obtain⟨dx,kv,k1,k2,k3,k4,k5,k6⟩:=h2;exact⟨dx,kv,k1,EB _ k2,k3,e _ _ k4,e _ _ k5,k6.same (bu e n)⟩
 ·rcases cO h1 with ⟨e1,q1⟩ |⟨n1,q1⟩ <;>rcases cO h2 with ⟨e2,q2⟩ |⟨n2,q2⟩
  ·rw[<-e1,<-e2]
  ·subst e1;have hi:=aw h3;rw[IP]at hi;rw[fZ hi]at h3;cases h3;rw[Fc n2]at h4;exact absurd h4 (Uh k zs q2)
  ·subst e2;have hi:=aw h4;rw[IP]at hi;rw[fZ hi]at h4;cases h4;rw[Fc n1]at h3;exact absurd h3 (Uh j ys q1)
  ·rw[Fc n1]at h3;rw[Fc n2]at h4;exact R.inj j k ys zs b q1 q2 h3 h4
theorem Rs.write{i:Nat}{a:ES}{vs:List V}{xs ys:List U}(R:Rs K H0 O0 ps σ H O)(hp:ps[i]?=some (some (.own xs)))(hs:σ[i]?=some (some (.ref a)))(r:Rps K (hid H O) vs ys):
  Rs K H0 O0 (ps.set i (some (.own ys))) σ (upd H a (.lst vs)) O:=by
 obtain⟨v,h1,b,ws,h2,h3,h4,h5,h6⟩:=R.at_ i _ hp;rw[hs]at h1;cases h1;cases h2;have h0:H0 a=none:=(R.new a h3).resolve_left h4;have eh:hid (upd H a (.lst vs)) O=hid H O:=jp h3;refine⟨R.same.put h0 _,R.old,R.new,λb hb z=>?_,by simp[R.len],λj s q=>?_,λj k zs us b q1 q2 q3 q4=>?_⟩
 ·by_cases e:b=a
  ·subst e;rw[aJ]at z;cases z
  ·rw[a_ e]at z;exact R.dom b hb z
 ·rcases cO q with ⟨e',q'⟩ |⟨ne,q'⟩
  ·subst e';cases q';exact⟨.ref a,hs,a,vs,rfl,h3,h4,aJ,by rw[eh];exact r⟩
  ·obtain⟨w,k1,k2⟩:=R.at_ j s q';refine⟨w,k1,?_⟩;cases s with
   |val u=>exact (show Rp K (hid (upd H a (.lst vs)) O) w u by rw[eh];exact k2)
   |own zs=>
    obtain⟨b,us,e1,e2,e3,e4,e5⟩:=k2;subst e1;have:b≠a:=λz=>by subst z;exact ne (R.inj i j xs zs b hp q' hs k1)
    exact⟨b,us,rfl,e2,e3,by rw[a_ this];exact e4,by rw[eh];exact e5⟩
   |pin z u=>exact⟨k2.1,by rw[eh];exact k2.2⟩
   |dsk w C b d Qt=>
    obtain⟨dx,kv,e1,e2,e3,e4,e5,e6⟩:=k2;exact⟨dx,kv,e1,e2,e3,by rw[a_ λz=>by rw[z,h5]at e4;cases e4];exact e4,by rw[a_ λz=>by rw[z,h5]at e5;cases e5];exact e5,by rw[eh];exact e6⟩
 ·have c1:∃zs',ps[j]?=some (some (.own zs')):=by
   rcases cO q1 with ⟨e,_⟩ |⟨_,z⟩
   ·subst e;exact⟨_,hp⟩
   ·exact⟨_,z⟩
  have c2:∃zs',ps[k]?=some (some (.own zs')):=by
   rcases cO q2 with ⟨e,_⟩ |⟨_,z⟩
   ·subst e;exact⟨_,hp⟩
   ·exact⟨_,z⟩
  obtain⟨_,c1⟩:=c1;obtain⟨_,c2⟩:=c2;exact R.inj j k _ _ b c1 c2 q3 q4
def SubP:PSt->PSt->Prop
 |[],[]=>True
 |none::p,_::q=>SubP p q
 |some s::p,t::q=>t=some s/\SubP p q
 |_,_=>False
theorem SubP.at_:∀{p q:PSt},SubP p q->p.length=q.length/\∀(i:Nat) (s:Sl),p[i]?=some (some s)->q[i]?=some (some s)
 |[],[],_=>⟨rfl,λi s h=>by simp at h⟩
 |none::p,t::q,h=>by
  obtain⟨h1,h2⟩:=SubP.at_ (p:=p) (q:=q) h;refine⟨by simp[h1],λi s e=>?_⟩
  cases i with
  |zero=>simp at e
  |succ i=>exact h2 i s (by simpa using e)
 |some s0::p,t::q,h=>by
  obtain⟨h0,h⟩:=h;obtain⟨h1,h2⟩:=SubP.at_ (p:=p) (q:=q) h;refine⟨by simp[h1],λi s e=>?_⟩
  cases i with
  |zero=>simp at e;subst e;rw[h0];rfl
  |succ i=>exact h2 i s (by simpa using e)
 |[],_::_,h=>h.elim
 |none::_,[],h=>h.elim
 |some _::_,[],h=>h.elim
theorem Rs.sub{QO:PSt}(R:Rs K H0 O0 ps σ H O)(h:SubP QO ps):Rs K H0 O0 QO σ H O:=by
 obtain⟨h1,h2⟩:=h.at_;exact⟨R.same,R.old,R.new,R.dom,R.len.trans h1.symm,λi s e=>R.at_ i s (h2 i s e),λi j xs ys a e1 e2=>R.inj i j xs ys a (h2 _ _ e1) (h2 _ _ e2)⟩
end
def Ev(X:Cx)(H0:Hp)(O0:List ES)(ps:PSt)(e:Expr)(u:U):Prop:=
 PE X e λσ H Q=>∃O,Rs X.K H0 O0 ps σ H O/\∀v H',aI H H'->Rp X.K (hid H' O) v u->Q v H'
def EvN(X:Cx)(H0:Hp)(O0:List ES)(ps:PSt)(e:Expr)(xs:List U):Prop:=
 PE X e λσ H Q=>∃O,Rs X.K H0 O0 ps σ H O/\∀a vs H',aI H H'->H a=none->H' a=some (.lst vs)->Rps X.K (hid H' (a::O)) vs xs->Q (.ref a) H'
def Tt(X:Cx)(H0:Hp)(O0:List ES)(ps:PSt)(e:Expr)(b:Bool):Prop:=
 PT X e λσ H Q=>∃O,Rs X.K H0 O0 ps σ H O/\∀H',aI H H'->Q b H'
def Tw(X:Cx)(H0:Hp)(O0:List ES)(ps:PSt)(e:Expr)(b:Bool):Prop:=
 PW X e λσ H Q=>∃O,Rs X.K H0 O0 ps σ H O/\∀H',aI H H'->Q b H'
def EvA(X:Cx)(H0:Hp)(O0:List ES)(ps:PSt)(es:List Expr)(us:List U):Prop:=
 PA X es λσ H Q=>∃O,Rs X.K H0 O0 ps σ H O/\∀vs H',aI H H'->Rps X.K (hid H' O) vs us->Q vs H'
theorem PE.mono{X:Cx}{e:Expr}{t t':TE}(h:PE X e t)(m:∀σ H Q,t' σ H Q->t σ H Q):PE X e t':=λpins s σ H Q I q=>h pins s σ H Q I (m σ H Q q)
theorem PT.mono{X:Cx}{e:Expr}{t t':TT}(h:PT X e t)(m:∀σ H Q,t' σ H Q->t σ H Q):PT X e t':=λpins s σ H Q I q=>h pins s σ H Q I (m σ H Q q)
theorem PW.mono{X:Cx}{e:Expr}{t t':TT}(h:PW X e t)(m:∀σ H Q,t' σ H Q->t σ H Q):PW X e t':=λwh pins s σ H Q I q=>h wh pins s σ H Q I (m σ H Q q)
theorem PA.mono{X:Cx}{e:List Expr}{t t':TA}(h:PA X e t)(m:∀σ H Q,t' σ H Q->t σ H Q):PA X e t':=λpos pins s σ H Q I q=>h pos pins s σ H Q I (m σ H Q q)
theorem PS.mono{X:Cx}{e:HL}{t t':TS}(h:PS X e t)(m:∀D σ H,t' D σ H->t D σ H):PS X e t':=λpins s σ H D I q=>h pins s σ H D I (m D σ H q)
theorem PSs.mono{X:Cx}{e:List HL}{t t':TS}(h:PSs X e t)(m:∀D σ H,t' D σ H->t D σ H):PSs X e t':=λpins s σ H D I q=>h pins s σ H D I (m D σ H q)
variable {e:Expr}{es:List Expr}{pos:Pos}{u:U}{xs:List U}{ys:List U}{us:List U}
section
variable {X:Cx}{ps:PSt}{a b c:Expr}{p:Pos}{x y:U}{i j:Int}
theorem EvN.ev(h:EvN X H0 O0 ps e xs):Ev X H0 O0 ps e (.lst xs):=PE.mono h λσ H Q ⟨O,R,k⟩=>⟨O,R,λa vs H' s n h r=>by
 have na:a ∉ O:=λz=>R.dom a z n
 have less:aI (hid H' (a::O)) (hid H' O):=d7 λb hb=>EB _ hb
 exact k _ H' s (.lst (dg h na) (r.same less).len (r.same less).at_)⟩
theorem aa(i:Nat){x:Str}{u:U}(h:ps[i]?=some (some (.val u)))(hN:X.N[i]?=some x:=by rfl)(hv:Vis X.env.scope x:=by first |exact Or.inl rfl |exact Or.inr (Or.inl rfl) |exact Or.inr (Or.inr rfl))(hd:(x==("__debug__":Str))=false:=by decide)
  (Ri:(x==("__classdict__":Str))=false:=by decide):Ev X H0 O0 ps (.Name x pos) u:=PE.mono (e8 hN hv hd Ri) λσ H Q ⟨O,R,k⟩=>by
 obtain⟨v,h1,h2⟩:=R.at_ i _ h;exact⟨v,h1,k v H (.refl H) h2⟩
theorem ag{i j pos}:Ev X H0 O0 ps (.Constant (.int i) j pos) (.int i):=PE.mono qw λ_ H _ ⟨_,_,k⟩=>k _ H (.refl H) (.int i)
theorem D_{i j pos}:Ev X H0 O0 ps (.Constant (.bool i) j pos) (.bl i):=PE.mono DO λ_ H _ ⟨_,_,k⟩=>k _ H (.refl H) (.bl i)
theorem mR{x:Str}{n:String}{pos:Pos}(hg:Gl X x)(hm:X.mg x=none)(hv:GY x=some (.type n))(hn:x≠"__name__":=by decide)(hd:(x==("__debug__":Str))=false:=by decide):Ev X H0 O0 ps (.Name x pos) (.ty (.nm n)):=
 PE.mono (Da hg hm hv hn hd) λ_ H _ ⟨_,_,k⟩=>k _ H (.refl H) (.ty n)
theorem two{ta tb:TE}{σ:St}{H:Hp}{Q:VK}{O:List ES}{r:R2}(R:Rs X.K H0 O0 ps σ H O)
  (ha:∀σ H Q,(∃O,Rs X.K H0 O0 ps σ H O/\∀v H',aI H H'->Rp X.K (hid H' O) v x->Q v H')->ta σ H Q) (hb:∀σ H Q,(∃O,Rs X.K H0 O0 ps σ H O/\∀v H',aI H H'->Rp X.K (hid H' O) v y->Q v H')->tb σ H Q)
  (h:∀v w H',aI H H'->Rs X.K H0 O0 ps σ H' O->Rp X.K (hid H' O) v x->Rp X.K (hid H' O) w y->r v w H' Q):tOp r ta tb σ H Q:=
 ha σ H _ ⟨O,R,λv H1 s1 r1=>hb σ H1 _ ⟨O,R.go s1,λw H2 s2 r2=>h v w H2 (s1.trans s2) (R.go (s1.trans s2)) (r1.same (aT s2)) r2⟩⟩
theorem Bc{op:Pk}{g:Int->Int->Int}(ho:OpR X (JY op) (rI0 λi j=>.int (g i j)))(ha:Ev X H0 O0 ps a (.int i))(hb:Ev X H0 O0 ps b (.int j)):Ev X H0 O0 ps (.BinOp a op b pos) (.int (g i j)):=
 PE.mono (tZ ho ha hb) λσ H Q ⟨O,R,k⟩=>two (x:=.int i) (y:=.int j) R (λ_ _ _ z=>z) (λ_ _ _ z=>z) λv w H' s _ r1 r2=>by
  cases r1;cases r2;exact⟨i,j,rfl,rfl,k _ H' s (.int _)⟩
theorem oX{op:Pk}{C:Int->Int->Prop}{g:Int->Int->Int}(ho:OpR X (JY op) (rI C λi j=>.int (g i j)))(ha:Ev X H0 O0 ps a (.int i))(hb:Ev X H0 O0 ps b (.int j))(hc:C i j):Ev X H0 O0 ps (.BinOp a op b pos) (.int (g i j)):=
 PE.mono (tZ ho ha hb) λσ H Q ⟨O,R,k⟩=>two (x:=.int i) (y:=.int j) R (λ_ _ _ z=>z) (λ_ _ _ z=>z) λv w H' s _ r1 r2=>by
  cases r1;cases r2;exact⟨i,j,rfl,rfl,hc,k _ H' s (.int _)⟩
theorem ca(ha:Ev X H0 O0 ps a (.int i))(hb:Ev X H0 O0 ps b (.int j)):Ev X H0 O0 ps (.BinOp a .Add b pos) (.int (i+j)):=Bc xt ha hb
theorem bm(ha:Ev X H0 O0 ps a (.int i))(hb:Ev X H0 O0 ps b (.int j)):Ev X H0 O0 ps (.BinOp a .Sub b pos) (.int (i-j)):=Bc Ch ha hb
theorem be(ha:Ev X H0 O0 ps a (.int i))(hb:Ev X H0 O0 ps b (.int j))(hc:IntMulOk i j):Ev X H0 O0 ps (.BinOp a .Mult b pos) (.int (i*j)):=oX Aq ha hb hc
theorem e_(ha:Ev X H0 O0 ps a (.int i))(hb:Ev X H0 O0 ps b (.int j))(hc:Br i j):Ev X H0 O0 ps (.BinOp a .FloorDiv b pos) (.int (i/j)):=oX wQ ha hb hc
theorem B7(ha:Ev X H0 O0 ps a (.int i))(hb:Ev X H0 O0 ps b (.int j))(hc:Bx i j):Ev X H0 O0 ps (.BinOp a .FloorDiv b pos) (.int (i.fdiv j)):=oX x5 ha hb hc
theorem eO(ha:Ev X H0 O0 ps a (.int i))(hb:Ev X H0 O0 ps b (.int j))(hc:0<j):Ev X H0 O0 ps (.BinOp a .Mod b pos) (.int (i%j)):=oX Cb ha hb hc
theorem jB(ha:Ev X H0 O0 ps a (.int i))(hb:Ev X H0 O0 ps b (.int j))(hc:Dd i j):Ev X H0 O0 ps (.BinOp a .Pow b pos) (.int (i ^ j.toNat)):=oX CH ha hb hc
theorem cu(ha:Ev X H0 O0 ps a (.int i)):Ev X H0 O0 ps (.UnaryOp .USub a pos) (.int (-i)):=
 PE.mono (Du BV ha) λσ H Q ⟨O,R,k⟩=>⟨O,R,λv H' s r=>by cases r;exact⟨i,rfl,k _ H' s (.int _)⟩⟩
end
mutual
def eqW:U->U->Bool
 | .non,.non=>true
 | .bl a,.bl b=>a==b
 | .bl a,.int j=>(if a then 1 else 0)==j
 | .int i,.bl b=>i==(if b then 1 else 0)
 | .int i,.int j=>i==j
 | .str a,.str b=>a==b
 | .tup xs,.tup ys=>eqWs xs ys
 | .lst xs,.lst ys=>eqWs xs ys
 | .lst xs,.scr ys=>eqWs xs ys
 | .scr xs,.lst ys=>eqWs xs ys
 | .scr xs,.scr ys=>eqWs xs ys
 |_,_=>false
def eqWs:List U->List U->Bool
 |[],[]=>true
 |x::xs,y::ys=>eqW x y && eqWs xs ys
 |_,_=>false
end
mutual
def okU:Nat->U->Bool
 |_,.ty _=>false
 |_,.dic=>false
 |0,.tup _=>false
 |0,.lst _=>false
 |0,.scr _=>false
 |n+1,.tup xs=>okUs n xs
 |n+1,.lst xs=>okUs n xs
 |n+1,.scr xs=>okUs n xs
 |_,_=>true
def okUs:Nat->List U->Bool
 |_,[]=>true
 |n,x::xs=>okU n x && okUs n xs
end
theorem jq:∀{n:Nat}{xs:List U}{i:Nat}{x:U},okUs n xs=true->xs[i]?=some x->okU n x=true
 |n,[],i,x,_,h=>by simp at h
 |n,y::xs,0,x,h,e=>by simp at e;subst e;simp[okUs]at h;exact h.1
 |n,y::xs,i+1,x,h,e=>by simp[okUs]at h;exact jq (i:=i) h.2 (by simpa using e)
theorem dJ:∀(xs ys:List U),((Fw (min xs.length ys.length)).all (λj=>eqW (xs.getD j .non) (ys.getD j .non)) && xs.length==ys.length)=eqWs xs ys
 |[],[]=>rfl
 |[],y::ys=>by simp[eqWs]
 |x::xs,[]=>by simp[eqWs]
 |x::xs,y::ys=>by
  have ih:=dJ xs ys;rw[eqWs,<-ih];simp only[E9,Nat.succ_min_succ];rw[List.range_succ_eq_map,Km,PR];have e:((xs.length+1==ys.length+1))=(xs.length==ys.length):=by simp
  rw[e,Bool.and_assoc];rfl
theorem Rp.one{X:Cx}{pins:List (ES×Obj)}{σ:St}{H:Hp}{s:EE}(I:Inv X pins σ H s){v:V}{x:U}(h:Rp X.K H v x):∀{n:Nat}{y:U},Rp X.K H v y->okU n x=true->eqW x y=true:=by
 have key:∀{vs ws:List V}{xs ys:List U},vs=ws->vs.length=xs.length->ws.length=ys.length->(∀(i:Nat) (x y:U),xs[i]?=some x->ys[i]?=some y->eqW x y=true)->eqWs xs ys=true:=λ{vs ws xs ys} e h1 h2 hh=>by
  subst e;rw[<-dJ,GI,me];refine⟨λj hj=>?_,by simp[<-h1,<-h2]⟩
  have j1:j<xs.length:=by lia
  have j2:j<ys.length:=by lia
  rw[E4,Ey j1,E4,Ey j2];exact hh j _ _ (Ey j1) (Ey j2)
 have S4:∀{vs:List V}{xs ys:List U}{n:Nat},vs.length=xs.length->(∀(i:Nat) (v:V) (x:U),vs[i]?=some v->xs[i]?=some x->∀{n:Nat}{y:U},Rp X.K H v y->okU n x=true->eqW x y=true)->(∀(i:Nat) (v:V) (y:U),vs[i]?=some v->ys[i]?=some y->Rp X.K H v y)->okUs n xs=true->
   ∀(i:Nat) (x y:U),xs[i]?=some x->ys[i]?=some y->eqW x y=true:=λ{vs xs ys n} h1 ih hi ok i x y e1 e2=>by
  have Qx:i<vs.length:=by rw[h1];exact aw e1
  exact ih i _ x (Ey Qx) e1 (hi i _ y (Ey Qx) e2) (jq ok e1)
 induction h with
 |non=>intro n y q _;cases q;rfl
 |bl b=>intro n y q _;cases q;simp[eqW]
 |int i=>intro n y q _;cases q;simp[eqW]
 |str i=>intro n y q _;cases q;simp[eqW]
 |ty=>intro n y q ok;simp[okU]at ok
 |dic=>intro n y q ok;simp[okU]at ok
 |xc=>intro n y q ok;simp[okU]at ok
 |dp=>intro n y q ok;simp[okU]at ok
 | @scr a vs xs hq hl hi ih=>
  intro n y q ok;cases n with
  |zero=>simp[okU]at ok
  |succ n=>
   rw[okU]at ok;cases q with
   |scr QJ QG QI=>rw[eqW];have e:=I.list_inj hq QJ;subst e;exact key rfl hl QG (S4 hl (λi v x a b=>ih i v x a b) QI ok)
   |lst QJ QG QI=>rw[eqW];have e:=I.list_inj hq (SqL.of QJ);subst e;exact key rfl hl QG (S4 hl (λi v x a b=>ih i v x a b) QI ok)
   |xc QJ kk=>
    exfalso
    obtain⟨_,_,pl,_⟩:=I.list hq;obtain⟨o,n,e,c,_⟩:=pl;exact PySem.W.XcOk.off (I.hok _ _ QJ).1 e c
   |dp QJ kk=>
    exfalso
    obtain⟨_,_,pl,_⟩:=I.list hq;obtain⟨o,n,e,c,_⟩:=pl;obtain⟨⟨_,_,o',_,e',ex,_⟩,_⟩:=I.hok _ _ QJ;rw[e]at e';cases e';rw[ex.1]at c;exact absurd (KZ c) (by decide)
   |dic QJ=>
    exfalso
    obtain⟨_,_,pl,_⟩:=I.list hq;obtain⟨o,n,e,c,_⟩:=pl;obtain⟨_,_,_,_,o',_,_,e',ex,_⟩:=I.hok _ _ QJ;rw[e]at e';cases e';rw[ex.1]at c;exact absurd (KZ c) (by decide)
   |tup QJ QG QI=>
    exfalso
    obtain⟨_,_,pl,_⟩:=I.list hq;obtain⟨_,_,pt,_⟩:=I.tuple QJ;exact SeqAt.ne_of_list_tuple pl.isList pt rfl
 | @tup a vs xs hq hl hi ih=>
  intro n y q ok;cases n with
  |zero=>simp[okU]at ok
  |succ n=>
   rw[okU]at ok;cases q with
   |tup QJ QG QI=>rw[eqW];have e:=I.tuple_inj hq QJ;subst e;exact key rfl hl QG (S4 hl (λi v x a b=>ih i v x a b) QI ok)
   |scr QJ QG QI=>
    exfalso
    obtain⟨_,_,pl,_⟩:=I.list QJ;obtain⟨_,_,pt,_⟩:=I.tuple hq;exact SeqAt.ne_of_list_tuple pl.isList pt rfl
   |lst QJ QG QI=>
    exfalso
    obtain⟨_,_,pl,_⟩:=I.list (SqL.of QJ);obtain⟨_,_,pt,_⟩:=I.tuple hq;exact SeqAt.ne_of_list_tuple pl.isList pt rfl
   |xc QJ kk=>
    exfalso
    obtain⟨_,_,pt,_⟩:=I.tuple hq;obtain⟨o,e,c,_⟩:=pt;exact PySem.W.XcOk.off (I.hok _ _ QJ).1 e c
   |dp QJ kk=>
    exfalso
    obtain⟨_,_,pt,_⟩:=I.tuple hq;obtain⟨o,e,c,_⟩:=pt;obtain⟨⟨_,_,o',_,e',ex,_⟩,_⟩:=I.hok _ _ QJ;rw[e]at e';cases e';rw[ex.1]at c;exact absurd (KZ c) (by decide)
   |dic QJ=>
    exfalso
    obtain⟨_,_,pt,_⟩:=I.tuple hq;obtain⟨o,e,c,_⟩:=pt;obtain⟨_,_,_,_,o',_,_,e',ex,_⟩:=I.hok _ _ QJ;rw[e]at e';cases e';rw[ex.1]at c;exact absurd (KZ c) (by decide)
 | @lst a vs xs hq hl hi ih=>
  intro n y q ok;cases n with
  |zero=>simp[okU]at ok
  |succ n=>
   rw[okU]at ok;cases q with
   |lst QJ QG QI=>rw[eqW];have e:=I.list_inj (SqL.of hq) (SqL.of QJ);subst e;exact key rfl hl QG (S4 hl (λi v x a b=>ih i v x a b) QI ok)
   |scr QJ QG QI=>rw[eqW];have e:=I.list_inj (SqL.of hq) QJ;subst e;exact key rfl hl QG (S4 hl (λi v x a b=>ih i v x a b) QI ok)
   |tup QJ QG QI=>
    exfalso
    obtain⟨_,_,pl,_⟩:=I.list (SqL.of hq);obtain⟨_,_,pt,_⟩:=I.tuple QJ;exact SeqAt.ne_of_list_tuple pl.isList pt rfl
   |xc QJ kk=>
    exfalso
    rw[hq]at QJ;cases QJ
   |dp QJ kk=>
    exfalso
    rw[hq]at QJ;cases QJ
   |dic QJ=>
    exfalso
    rw[hq]at QJ;cases QJ
theorem IsU.list{X:Cx}{pins:List (ES×Obj)}{σ:St}{H:Hp}{s:EE}(I:Inv X pins σ H s){a:ES}{xs:List U}{vs:List V}(h:SqL X.K H a vs)(hl:vs.length=xs.length):∃Qs:List EG,aO vs Qs/\s.heap.IsList a Qs.toArray/\Qs.length=xs.length:=by
 obtain⟨Qs,r,pl,_⟩:=I.list h;exact⟨Qs,r,pl.isList,by rw[<-r.length,hl]⟩
theorem IsU.tup{X:Cx}{pins:List (ES×Obj)}{σ:St}{H:Hp}{s:EE}(I:Inv X pins σ H s){a:ES}{xs:List U}{vs:List V}(h:SqT X.K H a vs)(hl:vs.length=xs.length):∃Qs:List EG,aO vs Qs/\Qo s.heap a Qs.toArray/\Qs.length=xs.length:=by
 obtain⟨Qs,r,pl,_⟩:=I.tuple h;exact⟨Qs,r,pl,by rw[<-r.length,hl]⟩
variable {pins:List (ES×Obj)}
section
variable {X:Cx}{σ:St}{s:EE}
theorem cG(I:Inv X pins σ H s){n:Nat}{vs ws:List V}{xs ys:List U}{Qs Qu:List EG}(r1:aO vs Qs)(r2:aO ws Qu)(QZ:vs.length=xs.length)(QL:ws.length=ys.length)
  (h1:∀(i:Nat) (v:V) (x:U),vs[i]?=some v->xs[i]?=some x->Rp X.K H v x) (h2:∀(i:Nat) (v:V) (x:U),ws[i]?=some v->ys[i]?=some x->Rp X.K H v x) (ok1:okUs n xs=true) (ok2:okUs n ys=true) {A:FQ}
  (SA:∀(x y:U) (v w:V) (p q:EG),Rp X.K H v x->Rp X.K H w y->aX v p->aX w q->okU n x=true->okU n y=true->SeqAt.RcAt A.in1 s p q (eqW x y)) (hu:A.units+n+1<GU)
  (j:Nat) (j1:j<Qs.length) (j2:j<Qu.length):SeqAt.EqAt A.in1 s Qs[j] Qu[j] (eqW (xs.getD j .non) (ys.getD j .non)):=by
 have a1:j<vs.length:=by rw[r1.length];exact j1
 have a2:j<ws.length:=by rw[r2.length];exact j2
 have b1:j<xs.length:=by lia
 have b2:j<ys.length:=by lia
 rw[E4,Ey b1,E4,Ey b2,HN,HN];have R1:=h1 j vs[j] xs[j] (Ey a1) (Ey b1);have R2:=h2 j ws[j] ys[j] (Ey a2) (Ey b2);obtain⟨u1,e1,q1⟩:=r1.get (Ey a1);obtain⟨u2,e2,q2⟩:=r2.get (Ey a2);rw[Ey j1]at e1;rw[Ey j2]at e2;cases e1;cases e2;have o1:=jq ok1 (Ey b1);have o2:=jq ok2 (Ey b2);generalize vs[j]=v at *;generalize ws[j]=w at *;generalize Qs[j]=p at *;generalize Qu[j]=q at *;generalize xs[j]=x at *;generalize ys[j]=y at *;have main:=SA x y v w p q R1 R2 q1 q2 o1 o2
 have QR:∀(a b:ES),p=.ref a->q=.ref b->SeqAt.EqAt A.in1 s p q (eqW x y):=λa b ea eb=>by
  subst ea eb;by_cases e:a=b
  ·subst e;have e2:v=w:=q1.inj q2;subst e2;rw[R1.one I R2 o1];exact SeqAt.EqAt.same _
  ·exact SeqAt.EqAt.of_refs e main
 have QD:A.in1.units<GU:=by show A.units+1<_;lia
 cases R1 with
 |non=>
  cases (show p=Fb from q1)
  cases R2 with
  |non=>cases (show q=Fb from q2);exact SeqAt.EqAt.same _
  |bl b=>cases (show q=FS b from q2);exact SeqAt.EqAt.none_bool b
  |int i=>obtain⟨t,rfl⟩:=(show ∃t,q=Fv i t from q2);exact SeqAt.EqAt.none_int i t
  |str i=>obtain⟨t,rfl⟩:=(show ∃t,q=F9 i t from q2);exact SeqAt.EqAt.none_str i t
  |ty=>simp[okU]at o2
  |dic=>simp[okU]at o2
  |xc=>simp[okU]at o2
  |dp=>simp[okU]at o2
  |scr hq hl hi=>cases q2;obtain⟨_,_,pl,_⟩:=IsU.list I hq hl;exact SeqAt.EqAt.none_list pl QD
  |tup hq hl hi=>cases q2;obtain⟨_,_,pl,_⟩:=IsU.tup I hq hl;exact SeqAt.EqAt.none_tuple pl QD
  |lst hq hl hi=>cases q2;obtain⟨_,_,pl,_⟩:=IsU.list I (SqL.of hq) hl;exact SeqAt.EqAt.none_list pl QD
 |bl c=>
  cases (show p=FS c from q1)
  cases R2 with
  |non=>cases (show q=Fb from q2);exact SeqAt.EqAt.bool_none c
  |bl b=>cases (show q=FS b from q2);exact SeqAt.EqAt.bool_bool c b
  |int i=>obtain⟨t,rfl⟩:=(show ∃t,q=Fv i t from q2);exact SeqAt.EqAt.bool_int c i t
  |str i=>obtain⟨t,rfl⟩:=(show ∃t,q=F9 i t from q2);exact SeqAt.EqAt.bool_str c i t
  |ty=>simp[okU]at o2
  |dic=>simp[okU]at o2
  |xc=>simp[okU]at o2
  |dp=>simp[okU]at o2
  |scr hq hl hi=>cases q2;obtain⟨_,_,pl,_⟩:=IsU.list I hq hl;exact SeqAt.EqAt.bool_list c pl QD
  |tup hq hl hi=>cases q2;obtain⟨_,_,pl,_⟩:=IsU.tup I hq hl;exact SeqAt.EqAt.bool_tuple c pl QD
  |lst hq hl hi=>cases q2;obtain⟨_,_,pl,_⟩:=IsU.list I (SqL.of hq) hl;exact SeqAt.EqAt.bool_list c pl QD
 |int c=>
  obtain⟨t0,rfl⟩:=(show ∃t,p=Fv c t from q1)
  cases R2 with
  |non=>cases (show q=Fb from q2);exact SeqAt.EqAt.int_none c t0
  |bl b=>cases (show q=FS b from q2);exact SeqAt.EqAt.int_bool c t0 b
  |int i=>obtain⟨t,rfl⟩:=(show ∃t,q=Fv i t from q2);exact SeqAt.EqAt.int_int c t0 i t
  |str i=>obtain⟨t,rfl⟩:=(show ∃t,q=F9 i t from q2);exact SeqAt.EqAt.int_str c t0 i t
  |ty=>simp[okU]at o2
  |dic=>simp[okU]at o2
  |xc=>simp[okU]at o2
  |dp=>simp[okU]at o2
  |scr hq hl hi=>cases q2;obtain⟨_,_,pl,_⟩:=IsU.list I hq hl;exact SeqAt.EqAt.int_list c t0 pl QD
  |tup hq hl hi=>cases q2;obtain⟨_,_,pl,_⟩:=IsU.tup I hq hl;exact SeqAt.EqAt.int_tuple c t0 pl QD
  |lst hq hl hi=>cases q2;obtain⟨_,_,pl,_⟩:=IsU.list I (SqL.of hq) hl;exact SeqAt.EqAt.int_list c t0 pl QD
 |str c=>
  obtain⟨t0,rfl⟩:=(show ∃t,p=F9 c t from q1)
  cases R2 with
  |non=>cases (show q=Fb from q2);exact SeqAt.EqAt.str_none c t0
  |bl b=>cases (show q=FS b from q2);exact SeqAt.EqAt.str_bool c t0 b
  |int i=>obtain⟨t,rfl⟩:=(show ∃t,q=Fv i t from q2);exact SeqAt.EqAt.str_int c t0 i t
  |str i=>obtain⟨t,rfl⟩:=(show ∃t,q=F9 i t from q2);exact SeqAt.EqAt.str_str c t0 i t
  |ty=>simp[okU]at o2
  |dic=>simp[okU]at o2
  |xc=>simp[okU]at o2
  |dp=>simp[okU]at o2
  |scr hq hl hi=>cases q2;obtain⟨_,_,pl,_⟩:=IsU.list I hq hl;exact SeqAt.EqAt.str_list c t0 pl QD
  |tup hq hl hi=>cases q2;obtain⟨_,_,pl,_⟩:=IsU.tup I hq hl;exact SeqAt.EqAt.str_tuple c t0 pl QD
  |lst hq hl hi=>cases q2;obtain⟨_,_,pl,_⟩:=IsU.list I (SqL.of hq) hl;exact SeqAt.EqAt.str_list c t0 pl QD
 |ty=>simp[okU]at o1
 |dic=>simp[okU]at o1
 |xc=>simp[okU]at o1
 |dp=>simp[okU]at o1
 | @scr a vs xs hq hl hi=>
  cases q1;obtain⟨_,_,pl,_⟩:=IsU.list I hq hl;cases R2 with
  |non=>cases (show q=Fb from q2);exact SeqAt.EqAt.list_none pl QD
  |bl b=>cases (show q=FS b from q2);exact SeqAt.EqAt.list_bool b pl QD
  |int i=>obtain⟨t,rfl⟩:=(show ∃t,q=Fv i t from q2);exact SeqAt.EqAt.list_int i t pl QD
  |str i=>obtain⟨t,rfl⟩:=(show ∃t,q=F9 i t from q2);exact SeqAt.EqAt.list_str i t pl QD
  |ty=>simp[okU]at o2
  |dic=>simp[okU]at o2
  |xc=>simp[okU]at o2
  |dp=>simp[okU]at o2
  |scr=>exact QR _ _ rfl q2
  |tup=>exact QR _ _ rfl q2
  |lst=>exact QR _ _ rfl q2
 | @lst a vs xs hq hl hi=>
  cases q1;obtain⟨_,_,pl,_⟩:=IsU.list I (SqL.of hq) hl;cases R2 with
  |non=>cases (show q=Fb from q2);exact SeqAt.EqAt.list_none pl QD
  |bl b=>cases (show q=FS b from q2);exact SeqAt.EqAt.list_bool b pl QD
  |int i=>obtain⟨t,rfl⟩:=(show ∃t,q=Fv i t from q2);exact SeqAt.EqAt.list_int i t pl QD
  |str i=>obtain⟨t,rfl⟩:=(show ∃t,q=F9 i t from q2);exact SeqAt.EqAt.list_str i t pl QD
  |ty=>simp[okU]at o2
  |dic=>simp[okU]at o2
  |xc=>simp[okU]at o2
  |dp=>simp[okU]at o2
  |scr=>exact QR _ _ rfl q2
  |tup=>exact QR _ _ rfl q2
  |lst=>exact QR _ _ rfl q2
 | @tup a vs xs hq hl hi=>
  cases q1;obtain⟨_,_,pl,_⟩:=IsU.tup I hq hl;cases R2 with
  |non=>cases (show q=Fb from q2);exact SeqAt.EqAt.tuple_none pl QD
  |bl b=>cases (show q=FS b from q2);exact SeqAt.EqAt.tuple_bool b pl QD
  |int i=>obtain⟨t,rfl⟩:=(show ∃t,q=Fv i t from q2);exact SeqAt.EqAt.tuple_int i t pl QD
  |str i=>obtain⟨t,rfl⟩:=(show ∃t,q=F9 i t from q2);exact SeqAt.EqAt.tuple_str i t pl QD
  |ty=>simp[okU]at o2
  |dic=>simp[okU]at o2
  |xc=>simp[okU]at o2
  |dp=>simp[okU]at o2
  |scr=>exact QR _ _ rfl q2
  |tup=>exact QR _ _ rfl q2
  |lst=>exact QR _ _ rfl q2
theorem h_{A:FQ}{n:Nat}{a b:ES}{xs ys:List U}{Qs Qu:List EG}(p1:s.heap.IsList a Qs.toArray)(p2:s.heap.IsList b Qu.toArray)(l1:Qs.length=xs.length)(l2:Qu.length=ys.length)(hu:A.units+n<GU)
  (he:∀(j:Nat) (j1:j<Qs.length) (j2:j<Qu.length),SeqAt.EqAt A.in1 s Qs[j] Qu[j] (eqW (xs.getD j .non) (ys.getD j .non))):SeqAt.RcAt A s (.ref a) (.ref b) (eqWs xs ys):=by
 by_cases hl:Qs.length=Qu.length
 ·have:=SeqAt.RcAt.lists (A:=A) (s:=s) (e:=λj=>eqW (xs.getD j .non) (ys.getD j .non)) p1 p2 (by simpa using hl) (by lia) (λj h1 h2=>by simpa using he j (by simpa using h1) (by simpa using h2))
  rw[<-dJ,<-l1,<-l2,hl,PU,beq_self_eq_true,Nh]
  rwa [EU,hl]at this
 ·have:=SeqAt.RcAt.lists_lengths (A:=A) (s:=s) p1 p2 (by simpa using hl) (by lia)
  rw[<-dJ,<-l1,<-l2,show (Qs.length==Qu.length)=false by simpa using hl,II]
  exact this
theorem zt{A:FQ}{n:Nat}{a b:ES}{xs ys:List U}{Qs Qu:List EG}(p1:Qo s.heap a Qs.toArray)(p2:Qo s.heap b Qu.toArray)(l1:Qs.length=xs.length)(l2:Qu.length=ys.length)(hu:A.units+n<GU)
  (he:∀(j:Nat) (j1:j<Qs.length) (j2:j<Qu.length),SeqAt.EqAt A.in1 s Qs[j] Qu[j] (eqW (xs.getD j .non) (ys.getD j .non))):SeqAt.RcAt A s (.ref a) (.ref b) (eqWs xs ys):=by
 have:=SeqAt.RcAt.tuples (A:=A) (s:=s) (e:=λj=>eqW (xs.getD j .non) (ys.getD j .non)) p1 p2 (by lia) (λj h1 h2=>by simpa using he j (by simpa using h1) (by simpa using h2))
 rw[EU,EU,l1,l2,dJ]at this;exact this
theorem DI(I:Inv X pins σ H s):∀(n:Nat) (A:FQ) (x y:U) (v w:V) (p q:EG),Rp X.K H v x->Rp X.K H w y->aX v p->aX w q->okU n x=true->okU n y=true->A.units+n<GU->SeqAt.RcAt A s p q (eqW x y):=by
 intro n
 induction n with
 |zero=>
  intro A x y v w p q R1 R2 q1 q2 o1 o2 hu;cases R1 with
  |non=>
   cases (show p=Fb from q1)
   cases R2 with
   |non=>cases (show q=Fb from q2);exact SeqAt.RcAt.none_none
   |bl b=>cases (show q=FS b from q2);exact SeqAt.RcAt.none_bool b
   |int i=>obtain⟨t,rfl⟩:=(show ∃t,q=Fv i t from q2);exact SeqAt.RcAt.none_int i t
   |str i=>obtain⟨t,rfl⟩:=(show ∃t,q=F9 i t from q2);exact SeqAt.RcAt.none_str i t
   |_=>simp[okU]at o2
  |bl c=>
   cases (show p=FS c from q1)
   cases R2 with
   |non=>cases (show q=Fb from q2);exact SeqAt.RcAt.bool_none c
   |bl b=>cases (show q=FS b from q2);exact SeqAt.RcAt.bool_bool c b
   |int i=>obtain⟨t,rfl⟩:=(show ∃t,q=Fv i t from q2);exact SeqAt.RcAt.bool_int c i t
   |str i=>obtain⟨t,rfl⟩:=(show ∃t,q=F9 i t from q2);exact SeqAt.RcAt.bool_str c i t
   |_=>simp[okU]at o2
  |int c=>
   obtain⟨t0,rfl⟩:=(show ∃t,p=Fv c t from q1)
   cases R2 with
   |non=>cases (show q=Fb from q2);exact SeqAt.RcAt.int_none c t0
   |bl b=>cases (show q=FS b from q2);exact SeqAt.RcAt.int_bool c t0 b
   |int i=>obtain⟨t,rfl⟩:=(show ∃t,q=Fv i t from q2);exact SeqAt.RcAt.int_int c t0 i t
   |str i=>obtain⟨t,rfl⟩:=(show ∃t,q=F9 i t from q2);exact SeqAt.RcAt.int_str c t0 i t
   |_=>simp[okU]at o2
  |str c=>
   obtain⟨t0,rfl⟩:=(show ∃t,p=F9 c t from q1)
   cases R2 with
   |non=>cases (show q=Fb from q2);exact SeqAt.RcAt.str_none c t0
   |bl b=>cases (show q=FS b from q2);exact SeqAt.RcAt.str_bool c t0 b
   |int i=>obtain⟨t,rfl⟩:=(show ∃t,q=Fv i t from q2);exact SeqAt.RcAt.str_int c t0 i t
   |str i=>obtain⟨t,rfl⟩:=(show ∃t,q=F9 i t from q2);exact SeqAt.RcAt.str_str c t0 i t
   |_=>simp[okU]at o2
  |_=>simp[okU]at o1
 |succ n ih=>
  intro A x y v w p q R1 R2 q1 q2 o1 o2 hu;have QD:A.units<GU:=by lia
  have SA:∀(x y:U) (v w:V) (p q:EG),Rp X.K H v x->Rp X.K H w y->aX v p->aX w q->okU n x=true->okU n y=true->SeqAt.RcAt A.in1 s p q (eqW x y):=λx y v w p q r1 r2 k1 k2 z1 z2=>ih A.in1 x y v w p q r1 r2 k1 k2 z1 z2 (by show A.units+1+n<_;lia)
  cases R1 with
  |non=>
   cases (show p=Fb from q1)
   cases R2 with
   |non=>cases (show q=Fb from q2);exact SeqAt.RcAt.none_none
   |bl b=>cases (show q=FS b from q2);exact SeqAt.RcAt.none_bool b
   |int i=>obtain⟨t,rfl⟩:=(show ∃t,q=Fv i t from q2);exact SeqAt.RcAt.none_int i t
   |str i=>obtain⟨t,rfl⟩:=(show ∃t,q=F9 i t from q2);exact SeqAt.RcAt.none_str i t
   |ty=>simp[okU]at o2
   |dic=>simp[okU]at o2
   |xc=>simp[okU]at o2
   |dp=>simp[okU]at o2
   |scr hq hl hi=>cases q2;obtain⟨_,_,pl,_⟩:=IsU.list I hq hl;exact SeqAt.RcAt.none_list pl QD
   |tup hq hl hi=>cases q2;obtain⟨_,_,pl,_⟩:=IsU.tup I hq hl;exact SeqAt.RcAt.none_tuple pl QD
   |lst hq hl hi=>cases q2;obtain⟨_,_,pl,_⟩:=IsU.list I (SqL.of hq) hl;exact SeqAt.RcAt.none_list pl QD
  |bl c=>
   cases (show p=FS c from q1)
   cases R2 with
   |non=>cases (show q=Fb from q2);exact SeqAt.RcAt.bool_none c
   |bl b=>cases (show q=FS b from q2);exact SeqAt.RcAt.bool_bool c b
   |int i=>obtain⟨t,rfl⟩:=(show ∃t,q=Fv i t from q2);exact SeqAt.RcAt.bool_int c i t
   |str i=>obtain⟨t,rfl⟩:=(show ∃t,q=F9 i t from q2);exact SeqAt.RcAt.bool_str c i t
   |ty=>simp[okU]at o2
   |dic=>simp[okU]at o2
   |xc=>simp[okU]at o2
   |dp=>simp[okU]at o2
   |scr hq hl hi=>cases q2;obtain⟨_,_,pl,_⟩:=IsU.list I hq hl;exact SeqAt.RcAt.bool_list c pl QD
   |tup hq hl hi=>cases q2;obtain⟨_,_,pl,_⟩:=IsU.tup I hq hl;exact SeqAt.RcAt.bool_tuple c pl QD
   |lst hq hl hi=>cases q2;obtain⟨_,_,pl,_⟩:=IsU.list I (SqL.of hq) hl;exact SeqAt.RcAt.bool_list c pl QD
  |int c=>
   obtain⟨t0,rfl⟩:=(show ∃t,p=Fv c t from q1)
   cases R2 with
   |non=>cases (show q=Fb from q2);exact SeqAt.RcAt.int_none c t0
   |bl b=>cases (show q=FS b from q2);exact SeqAt.RcAt.int_bool c t0 b
   |int i=>obtain⟨t,rfl⟩:=(show ∃t,q=Fv i t from q2);exact SeqAt.RcAt.int_int c t0 i t
   |str i=>obtain⟨t,rfl⟩:=(show ∃t,q=F9 i t from q2);exact SeqAt.RcAt.int_str c t0 i t
   |ty=>simp[okU]at o2
   |dic=>simp[okU]at o2
   |xc=>simp[okU]at o2
   |dp=>simp[okU]at o2
   |scr hq hl hi=>cases q2;obtain⟨_,_,pl,_⟩:=IsU.list I hq hl;exact SeqAt.RcAt.int_list c t0 pl QD
   |tup hq hl hi=>cases q2;obtain⟨_,_,pl,_⟩:=IsU.tup I hq hl;exact SeqAt.RcAt.int_tuple c t0 pl QD
   |lst hq hl hi=>cases q2;obtain⟨_,_,pl,_⟩:=IsU.list I (SqL.of hq) hl;exact SeqAt.RcAt.int_list c t0 pl QD
  |str c=>
   obtain⟨t0,rfl⟩:=(show ∃t,p=F9 c t from q1)
   cases R2 with
   |non=>cases (show q=Fb from q2);exact SeqAt.RcAt.str_none c t0
   |bl b=>cases (show q=FS b from q2);exact SeqAt.RcAt.str_bool c t0 b
   |int i=>obtain⟨t,rfl⟩:=(show ∃t,q=Fv i t from q2);exact SeqAt.RcAt.str_int c t0 i t
   |str i=>obtain⟨t,rfl⟩:=(show ∃t,q=F9 i t from q2);exact SeqAt.RcAt.str_str c t0 i t
   |ty=>simp[okU]at o2
   |dic=>simp[okU]at o2
   |xc=>simp[okU]at o2
   |dp=>simp[okU]at o2
   |scr hq hl hi=>cases q2;obtain⟨_,_,pl,_⟩:=IsU.list I hq hl;exact SeqAt.RcAt.str_list c t0 pl QD
   |tup hq hl hi=>cases q2;obtain⟨_,_,pl,_⟩:=IsU.tup I hq hl;exact SeqAt.RcAt.str_tuple c t0 pl QD
   |lst hq hl hi=>cases q2;obtain⟨_,_,pl,_⟩:=IsU.list I (SqL.of hq) hl;exact SeqAt.RcAt.str_list c t0 pl QD
  |ty=>simp[okU]at o1
  |dic=>simp[okU]at o1
  |xc=>simp[okU]at o1
  |dp=>simp[okU]at o1
  | @scr a vs xs hq hl hi=>
   cases q1;obtain⟨Qs,r1,pl,l1⟩:=IsU.list I hq hl;rw[okU]at o1;cases R2 with
   |non=>cases (show q=Fb from q2);exact SeqAt.RcAt.list_none pl QD
   |bl b=>cases (show q=FS b from q2);exact SeqAt.RcAt.list_bool b pl QD
   |int i=>obtain⟨t,rfl⟩:=(show ∃t,q=Fv i t from q2);exact SeqAt.RcAt.list_int i t pl QD
   |str i=>obtain⟨t,rfl⟩:=(show ∃t,q=F9 i t from q2);exact SeqAt.RcAt.list_str i t pl QD
   |ty=>simp[okU]at o2
   |dic=>simp[okU]at o2
   |xc=>simp[okU]at o2
   |dp=>simp[okU]at o2
   |scr QJ QG QI=>cases q2;rw[okU]at o2;obtain⟨Qu,r2,QK,l2⟩:=IsU.list I QJ QG;rw[eqW];exact h_ pl QK l1 l2 hu (cG I r1 r2 hl QG hi QI o1 o2 SA (by lia))
   |lst QJ QG QI=>cases q2;rw[okU]at o2;obtain⟨Qu,r2,QK,l2⟩:=IsU.list I (SqL.of QJ) QG;rw[eqW];exact h_ pl QK l1 l2 hu (cG I r1 r2 hl QG hi QI o1 o2 SA (by lia))
   |tup QJ QG QI=>cases q2;obtain⟨Qu,r2,QK,l2⟩:=IsU.tup I QJ QG;exact SeqAt.RcAt.list_tuple pl QK QD
  | @lst a vs xs hq hl hi=>
   cases q1;obtain⟨Qs,r1,pl,l1⟩:=IsU.list I (SqL.of hq) hl;rw[okU]at o1;cases R2 with
   |non=>cases (show q=Fb from q2);exact SeqAt.RcAt.list_none pl QD
   |bl b=>cases (show q=FS b from q2);exact SeqAt.RcAt.list_bool b pl QD
   |int i=>obtain⟨t,rfl⟩:=(show ∃t,q=Fv i t from q2);exact SeqAt.RcAt.list_int i t pl QD
   |str i=>obtain⟨t,rfl⟩:=(show ∃t,q=F9 i t from q2);exact SeqAt.RcAt.list_str i t pl QD
   |ty=>simp[okU]at o2
   |dic=>simp[okU]at o2
   |xc=>simp[okU]at o2
   |dp=>simp[okU]at o2
   |scr QJ QG QI=>cases q2;rw[okU]at o2;obtain⟨Qu,r2,QK,l2⟩:=IsU.list I QJ QG;rw[eqW];exact h_ pl QK l1 l2 hu (cG I r1 r2 hl QG hi QI o1 o2 SA (by lia))
   |lst QJ QG QI=>cases q2;rw[okU]at o2;obtain⟨Qu,r2,QK,l2⟩:=IsU.list I (SqL.of QJ) QG;rw[eqW];exact h_ pl QK l1 l2 hu (cG I r1 r2 hl QG hi QI o1 o2 SA (by lia))
   |tup QJ QG QI=>cases q2;obtain⟨Qu,r2,QK,l2⟩:=IsU.tup I QJ QG;exact SeqAt.RcAt.list_tuple pl QK QD
  | @tup a vs xs hq hl hi=>
   cases q1;obtain⟨Qs,r1,pl,l1⟩:=IsU.tup I hq hl;rw[okU]at o1;cases R2 with
   |non=>cases (show q=Fb from q2);exact SeqAt.RcAt.tuple_none pl QD
   |bl b=>cases (show q=FS b from q2);exact SeqAt.RcAt.tuple_bool b pl QD
   |int i=>obtain⟨t,rfl⟩:=(show ∃t,q=Fv i t from q2);exact SeqAt.RcAt.tuple_int i t pl QD
   |str i=>obtain⟨t,rfl⟩:=(show ∃t,q=F9 i t from q2);exact SeqAt.RcAt.tuple_str i t pl QD
   |ty=>simp[okU]at o2
   |dic=>simp[okU]at o2
   |xc=>simp[okU]at o2
   |dp=>simp[okU]at o2
   |scr QJ QG QI=>cases q2;obtain⟨Qu,r2,QK,l2⟩:=IsU.list I QJ QG;exact SeqAt.RcAt.tuple_list pl QK QD
   |lst QJ QG QI=>cases q2;obtain⟨Qu,r2,QK,l2⟩:=IsU.list I (SqL.of QJ) QG;exact SeqAt.RcAt.tuple_list pl QK QD
   |tup QJ QG QI=>cases q2;rw[okU]at o2;obtain⟨Qu,r2,QK,l2⟩:=IsU.tup I QJ QG;rw[eqW];exact zt pl QK l1 l2 hu (cG I r1 r2 hl QG hi QI o1 o2 SA (by lia))
theorem fS{A:FQ}{n:Nat}{a b:ES}{xs ys:List U}{Qs Qu:List EG}(p1:s.heap.IsList a Qs.toArray)(p2:s.heap.IsList b Qu.toArray)(l1:Qs.length=xs.length)(l2:Qu.length=ys.length)(hu:A.units+n<GU)
  (he:∀(j:Nat) (j1:j<Qs.length) (j2:j<Qu.length),SeqAt.EqAt A.in1 s Qs[j] Qu[j] (eqW (xs.getD j .non) (ys.getD j .non))):SeqAt.RcNeAt A s (.ref a) (.ref b) (!eqWs xs ys):=by
 by_cases hl:Qs.length=Qu.length
 ·have:=SeqAt.RcNeAt.lists (A:=A) (s:=s) (e:=λj=>eqW (xs.getD j .non) (ys.getD j .non)) p1 p2 (by simpa using hl) (by lia) (λj h1 h2=>by simpa using he j (by simpa using h1) (by simpa using h2))
  rw[<-dJ,<-l1,<-l2,hl,PU,beq_self_eq_true,Nh]
  rwa [EU,hl]at this
 ·have:=SeqAt.RcNeAt.lists_lengths (A:=A) (s:=s) p1 p2 (by simpa using hl) (by lia)
  rw[<-dJ,<-l1,<-l2,show (Qs.length==Qu.length)=false by simpa using hl,II]
  exact this
theorem vN{A:FQ}{n:Nat}{a b:ES}{xs ys:List U}{Qs Qu:List EG}(p1:Qo s.heap a Qs.toArray)(p2:Qo s.heap b Qu.toArray)(l1:Qs.length=xs.length)(l2:Qu.length=ys.length)(hu:A.units+n<GU)
  (he:∀(j:Nat) (j1:j<Qs.length) (j2:j<Qu.length),SeqAt.EqAt A.in1 s Qs[j] Qu[j] (eqW (xs.getD j .non) (ys.getD j .non))):SeqAt.RcNeAt A s (.ref a) (.ref b) (!eqWs xs ys):=by
 have:=SeqAt.RcNeAt.tuples (A:=A) (s:=s) (e:=λj=>eqW (xs.getD j .non) (ys.getD j .non)) p1 p2 (by lia) (λj h1 h2=>by simpa using he j (by simpa using h1) (by simpa using h2))
 rw[EU,EU,l1,l2,dJ]at this;exact this
theorem BH(I:Inv X pins σ H s)(n:Nat)(A:FQ)(x y:U)(v w:V)(p q:EG)(R1:Rp X.K H v x)(R2:Rp X.K H w y)(q1:aX v p)(q2:aX w q)(o1:okU (n+1) x=true)(o2:okU (n+1) y=true)(hu:A.units+(n+1)<GU):SeqAt.RcNeAt A s p q (!eqW x y):=by
 have QD:A.units<GU:=by lia
 have SA:∀(x y:U) (v w:V) (p q:EG),Rp X.K H v x->Rp X.K H w y->aX v p->aX w q->okU n x=true->okU n y=true->SeqAt.RcAt A.in1 s p q (eqW x y):=λx y v w p q r1 r2 k1 k2 z1 z2=>DI I n A.in1 x y v w p q r1 r2 k1 k2 z1 z2 (by show A.units+1+n<_;lia)
 cases R1 with
 |ty=>simp[okU]at o1
 |dic=>simp[okU]at o1
 |xc=>simp[okU]at o1
 |dp=>simp[okU]at o1
 |non=>
  cases (show p=Fb from q1)
  cases R2 with
  |ty=>simp[okU]at o2
  |dic=>simp[okU]at o2
  |xc=>simp[okU]at o2
  |dp=>simp[okU]at o2
  |non=>cases (show q=Fb from q2);exact SeqAt.RcNeAt.none_none
  |bl c2=>cases (show q=FS c2 from q2);exact SeqAt.RcNeAt.none_bool c2
  |int c2=>obtain⟨t2,rfl⟩:=(show ∃t,q=Fv c2 t from q2);exact SeqAt.RcNeAt.none_int c2 t2
  |str c2=>obtain⟨t2,rfl⟩:=(show ∃t,q=F9 c2 t from q2);exact SeqAt.RcNeAt.none_str c2 t2
  |scr QU QL Rn=>cases q2;obtain⟨Qu,r2,QK,l2⟩:=IsU.list I QU QL;exact SeqAt.RcNeAt.none_list QK QD
  |tup QU QL Rn=>cases q2;obtain⟨Qu,r2,QK,l2⟩:=IsU.tup I QU QL;exact SeqAt.RcNeAt.none_tuple QK QD
  |lst QU QL Rn=>cases q2;obtain⟨Qu,r2,QK,l2⟩:=IsU.list I (SqL.of QU) QL;exact SeqAt.RcNeAt.none_list QK QD
 |bl c1=>
  cases (show p=FS c1 from q1)
  cases R2 with
  |ty=>simp[okU]at o2
  |dic=>simp[okU]at o2
  |xc=>simp[okU]at o2
  |dp=>simp[okU]at o2
  |non=>cases (show q=Fb from q2);exact SeqAt.RcNeAt.bool_none c1
  |bl c2=>cases (show q=FS c2 from q2);exact SeqAt.RcNeAt.bool_bool c1 c2
  |int c2=>obtain⟨t2,rfl⟩:=(show ∃t,q=Fv c2 t from q2);exact SeqAt.RcNeAt.bool_int c1 c2 t2
  |str c2=>obtain⟨t2,rfl⟩:=(show ∃t,q=F9 c2 t from q2);exact SeqAt.RcNeAt.bool_str c1 c2 t2
  |scr QU QL Rn=>cases q2;obtain⟨Qu,r2,QK,l2⟩:=IsU.list I QU QL;exact SeqAt.RcNeAt.bool_list c1 QK QD
  |tup QU QL Rn=>cases q2;obtain⟨Qu,r2,QK,l2⟩:=IsU.tup I QU QL;exact SeqAt.RcNeAt.bool_tuple c1 QK QD
  |lst QU QL Rn=>cases q2;obtain⟨Qu,r2,QK,l2⟩:=IsU.list I (SqL.of QU) QL;exact SeqAt.RcNeAt.bool_list c1 QK QD
 |int c1=>
  obtain⟨t1,rfl⟩:=(show ∃t,p=Fv c1 t from q1)
  cases R2 with
  |ty=>simp[okU]at o2
  |dic=>simp[okU]at o2
  |xc=>simp[okU]at o2
  |dp=>simp[okU]at o2
  |non=>cases (show q=Fb from q2);exact SeqAt.RcNeAt.int_none c1 t1
  |bl c2=>cases (show q=FS c2 from q2);exact SeqAt.RcNeAt.int_bool c1 t1 c2
  |int c2=>obtain⟨t2,rfl⟩:=(show ∃t,q=Fv c2 t from q2);exact SeqAt.RcNeAt.int_int c1 t1 c2 t2
  |str c2=>obtain⟨t2,rfl⟩:=(show ∃t,q=F9 c2 t from q2);exact SeqAt.RcNeAt.int_str c1 t1 c2 t2
  |scr QU QL Rn=>cases q2;obtain⟨Qu,r2,QK,l2⟩:=IsU.list I QU QL;exact SeqAt.RcNeAt.int_list c1 t1 QK QD
  |tup QU QL Rn=>cases q2;obtain⟨Qu,r2,QK,l2⟩:=IsU.tup I QU QL;exact SeqAt.RcNeAt.int_tuple c1 t1 QK QD
  |lst QU QL Rn=>cases q2;obtain⟨Qu,r2,QK,l2⟩:=IsU.list I (SqL.of QU) QL;exact SeqAt.RcNeAt.int_list c1 t1 QK QD
 |str c1=>
  obtain⟨t1,rfl⟩:=(show ∃t,p=F9 c1 t from q1)
  cases R2 with
  |ty=>simp[okU]at o2
  |dic=>simp[okU]at o2
  |xc=>simp[okU]at o2
  |dp=>simp[okU]at o2
  |non=>cases (show q=Fb from q2);exact SeqAt.RcNeAt.str_none c1 t1
  |bl c2=>cases (show q=FS c2 from q2);exact SeqAt.RcNeAt.str_bool c1 t1 c2
  |int c2=>obtain⟨t2,rfl⟩:=(show ∃t,q=Fv c2 t from q2);exact SeqAt.RcNeAt.str_int c1 t1 c2 t2
  |str c2=>obtain⟨t2,rfl⟩:=(show ∃t,q=F9 c2 t from q2);exact SeqAt.RcNeAt.str_str c1 t1 c2 t2
  |scr QU QL Rn=>cases q2;obtain⟨Qu,r2,QK,l2⟩:=IsU.list I QU QL;exact SeqAt.RcNeAt.str_list c1 t1 QK QD
  |tup QU QL Rn=>cases q2;obtain⟨Qu,r2,QK,l2⟩:=IsU.tup I QU QL;exact SeqAt.RcNeAt.str_tuple c1 t1 QK QD
  |lst QU QL Rn=>cases q2;obtain⟨Qu,r2,QK,l2⟩:=IsU.list I (SqL.of QU) QL;exact SeqAt.RcNeAt.str_list c1 t1 QK QD
 |scr hq1 QZ hi1=>
  cases q1;obtain⟨its1,r1,Ro,l1⟩:=IsU.list I hq1 QZ;cases R2 with
  |ty=>simp[okU]at o2
  |dic=>simp[okU]at o2
  |xc=>simp[okU]at o2
  |dp=>simp[okU]at o2
  |non=>cases (show q=Fb from q2);exact SeqAt.RcNeAt.list_none Ro QD
  |bl c2=>cases (show q=FS c2 from q2);exact SeqAt.RcNeAt.list_bool c2 Ro QD
  |int c2=>obtain⟨t2,rfl⟩:=(show ∃t,q=Fv c2 t from q2);exact SeqAt.RcNeAt.list_int c2 t2 Ro QD
  |str c2=>obtain⟨t2,rfl⟩:=(show ∃t,q=F9 c2 t from q2);exact SeqAt.RcNeAt.list_str c2 t2 Ro QD
  |scr QU QL Rn=>cases q2;obtain⟨Qu,r2,QK,l2⟩:=IsU.list I QU QL;rw[okU]at o1;rw[okU]at o2;rw[eqW];exact fS Ro QK l1 l2 hu (cG I r1 r2 QZ QL hi1 Rn o1 o2 SA (by lia))
  |tup QU QL Rn=>cases q2;obtain⟨Qu,r2,QK,l2⟩:=IsU.tup I QU QL;exact SeqAt.RcNeAt.list_tuple Ro QK QD
  |lst QU QL Rn=>cases q2;obtain⟨Qu,r2,QK,l2⟩:=IsU.list I (SqL.of QU) QL;rw[okU]at o1;rw[okU]at o2;rw[eqW];exact fS Ro QK l1 l2 hu (cG I r1 r2 QZ QL hi1 Rn o1 o2 SA (by lia))
 |tup hq1 QZ hi1=>
  cases q1;obtain⟨its1,r1,Ro,l1⟩:=IsU.tup I hq1 QZ;cases R2 with
  |ty=>simp[okU]at o2
  |dic=>simp[okU]at o2
  |xc=>simp[okU]at o2
  |dp=>simp[okU]at o2
  |non=>cases (show q=Fb from q2);exact SeqAt.RcNeAt.tuple_none Ro QD
  |bl c2=>cases (show q=FS c2 from q2);exact SeqAt.RcNeAt.tuple_bool c2 Ro QD
  |int c2=>obtain⟨t2,rfl⟩:=(show ∃t,q=Fv c2 t from q2);exact SeqAt.RcNeAt.tuple_int c2 t2 Ro QD
  |str c2=>obtain⟨t2,rfl⟩:=(show ∃t,q=F9 c2 t from q2);exact SeqAt.RcNeAt.tuple_str c2 t2 Ro QD
  |scr QU QL Rn=>cases q2;obtain⟨Qu,r2,QK,l2⟩:=IsU.list I QU QL;exact SeqAt.RcNeAt.tuple_list Ro QK QD
  |tup QU QL Rn=>cases q2;obtain⟨Qu,r2,QK,l2⟩:=IsU.tup I QU QL;rw[okU]at o1;rw[okU]at o2;rw[eqW];exact vN Ro QK l1 l2 hu (cG I r1 r2 QZ QL hi1 Rn o1 o2 SA (by lia))
  |lst QU QL Rn=>cases q2;obtain⟨Qu,r2,QK,l2⟩:=IsU.list I (SqL.of QU) QL;exact SeqAt.RcNeAt.tuple_list Ro QK QD
 |lst hq1 QZ hi1=>
  cases q1;obtain⟨its1,r1,Ro,l1⟩:=IsU.list I (SqL.of hq1) QZ;cases R2 with
  |ty=>simp[okU]at o2
  |dic=>simp[okU]at o2
  |xc=>simp[okU]at o2
  |dp=>simp[okU]at o2
  |non=>cases (show q=Fb from q2);exact SeqAt.RcNeAt.list_none Ro QD
  |bl c2=>cases (show q=FS c2 from q2);exact SeqAt.RcNeAt.list_bool c2 Ro QD
  |int c2=>obtain⟨t2,rfl⟩:=(show ∃t,q=Fv c2 t from q2);exact SeqAt.RcNeAt.list_int c2 t2 Ro QD
  |str c2=>obtain⟨t2,rfl⟩:=(show ∃t,q=F9 c2 t from q2);exact SeqAt.RcNeAt.list_str c2 t2 Ro QD
  |scr QU QL Rn=>cases q2;obtain⟨Qu,r2,QK,l2⟩:=IsU.list I QU QL;rw[okU]at o1;rw[okU]at o2;rw[eqW];exact fS Ro QK l1 l2 hu (cG I r1 r2 QZ QL hi1 Rn o1 o2 SA (by lia))
  |tup QU QL Rn=>cases q2;obtain⟨Qu,r2,QK,l2⟩:=IsU.tup I QU QL;exact SeqAt.RcNeAt.list_tuple Ro QK QD
  |lst QU QL Rn=>cases q2;obtain⟨Qu,r2,QK,l2⟩:=IsU.list I (SqL.of QU) QL;rw[okU]at o1;rw[okU]at o2;rw[eqW];exact fS Ro QK l1 l2 hu (cG I r1 r2 QZ QL hi1 Rn o1 o2 SA (by lia))
end
def OpS(X:Cx)(f:EG->EG->Sem EG)(x y:U)(z:V):Prop:=OpR X f λv w H Q=>Rp X.K H v x/\Rp X.K H w y/\Q z H
section
variable {X:Cx}{ps:PSt}{a b c:Expr}{rest:List Expr}{p:Pos}{x y:U}{i j:Int}{k m:Bool}
theorem Rp.out{K:EC}{H:Hp}{O:List ES}{v:V}{u:U}(h:Rp K (hid H O) v u):Rp K H v u:=h.same ao
theorem lW{op:Qa}(ho:OpS X (GQ op) x y (.bl k))(ha:Ev X H0 O0 ps a x)(hb:Ev X H0 O0 ps b y)(hm:Jy op b=false:=by first |exact w6 _ |with_unfolding_all rfl):Ev X H0 O0 ps (.Compare a [op] [b] pos) (.bl k):=
 PE.mono (Ae ho ha hb hm) λσ H Q ⟨O,R,q⟩=>two R (λ_ _ _ z=>z) (λ_ _ _ z=>z) λv w H' s _ r1 r2=>⟨r1.out,r2.out,q _ H' s (.bl _)⟩
theorem aK{op:Qa}(ho:OpS X (GQ op) x y (.bl k))(ha:Ev X H0 O0 ps a x)(hb:Ev X H0 O0 ps b y)(hm:Jy op b=false:=by first |exact w6 _ |with_unfolding_all rfl):Tt X H0 O0 ps (.Compare a [op] [b] pos) k:=
 PT.mono (A0 ho ha hb hm) λσ H Q ⟨O,R,q⟩=>two R (λ_ _ _ z=>z) (λ_ _ _ z=>z) λv w H' s _ r1 r2=>⟨r1.out,r2.out,_,rfl,q H' s⟩
theorem xH{op:Qa}{g:Int->Int->Bool}(ho:OpR X (GQ op) (rI0 λi j=>.bl (g i j))):OpS X (GQ op) (.int i) (.int j) (.bl (g i j)):=by
 intro pins s σ H v w p q Q I r1 r2 h;obtain⟨h1,h2,h3⟩:=h;cases h1;cases h2;exact ho pins s σ H _ _ _ _ Q I r1 r2 ⟨i,j,rfl,rfl,h3⟩
theorem iC:OpS X (GQ .Lt) (.int i) (.int j) (.bl (decide (i<j))):=xH C4
theorem D7:OpS X (GQ .LtE) (.int i) (.int j) (.bl (decide (i<=j))):=xH Dq
theorem gD:OpS X (GQ .Gt) (.int i) (.int j) (.bl (decide (j<i))):=xH DF
theorem D9(hu:X.A.units+10<GU)(h1:okU 9 x=true)(h2:okU 9 y=true):OpS X (GQ .Eq) x y (.bl (eqW x y)):=by
 intro pins s σ H v w p q Q I r1 r2 h;obtain⟨k1,k2,k3⟩:=h;exact DI I 9 X.A x y v w p q k1 k2 r1 r2 h1 h2 (by lia) X.prog X.w _ _ (aV I k3 rfl)
theorem DL(hu:X.A.units+10<GU)(h1:okU 9 x=true)(h2:okU 9 y=true):OpS X (GQ .NotEq) x y (.bl (!eqW x y)):=by
 intro pins s σ H v w p q Q I r1 r2 h;obtain⟨k1,k2,k3⟩:=h;exact BH I 8 X.A x y v w p q k1 k2 r1 r2 h1 h2 (by lia) X.prog X.w _ _ (aV I k3 rfl)
theorem cY:OpS X (GQ .Eq) (.int i) (.int j) (.bl (decide (i=j))):=by
 intro pins s σ H v w p q Q I r1 r2 h;obtain⟨h1,h2,h3⟩:=h;cases h1;cases h2;exact DT pins s σ H _ _ _ _ Q I r1 r2 ⟨rfl,by rw[ji,<-J5]at *;simpa [J5] using h3⟩
theorem x_:OpS X (GQ .NotEq) (.int i) (.int j) (.bl (!decide (i=j))):=by
 intro pins s σ H v w p q Q I r1 r2 h;obtain⟨h1,h2,h3⟩:=h;cases h1;cases h2;exact DG pins s σ H _ _ _ _ Q I r1 r2 ⟨rfl,by rw[ji];simpa [J5] using h3⟩
theorem fU(h:Ev X H0 O0 ps e (.bl k))(he:∀Rz,isTrue e X.env Rz=(do let v <-Rz;standAt e.pos;M0 [v] (truthy v)):=by intro _;rfl):Tt X H0 O0 ps e k:=
 PT.mono (CW h he) λσ H Q ⟨O,R,q⟩=>⟨O,R,λv H' s r=>by cases r;exact⟨_,rfl,q H' s⟩⟩
theorem gN(h:Tt X H0 O0 ps a k):Tt X H0 O0 ps (.UnaryOp .Not a pos) (!k):=PT.mono (C1 h) λσ H Q ⟨O,R,q⟩=>⟨O,R,q⟩
theorem Tw.t(h:Tw X H0 O0 ps e k):Tt X H0 O0 ps e k:=h.pt
theorem nU(h:Tt X H0 O0 ps a k):Tw X H0 O0 ps (.BoolOp .And [a] pos) k:=Aa h
theorem tp(h:Tt X H0 O0 ps a k):Tw X H0 O0 ps (.BoolOp .Or [a] pos) k:=Cl h
theorem pH(ha:Tt X H0 O0 ps a k)(hb:k=true->Tw X H0 O0 ps (.BoolOp .And (b::rest) pos) m):Tw X H0 O0 ps (.BoolOp .And (a::b::rest) pos) (k && m):=by
 cases k with
 |true=>exact PW.mono (xk ha (hb rfl)) λσ H Q ⟨O,R,q⟩=>⟨O,R,λH' s=>by exact u7 (⟨O,R.go s,λH2 s2=>q H2 (s.trans s2)⟩)⟩
 |false=>exact PW.mono (xk ha (λ_ _ _ _ _ _ _ h=>h.elim) (tB':=λ_ _ _=>False)) λσ H Q ⟨O,R,q⟩=>⟨O,R,λH' s=>by exact uZ (q H' s)⟩
theorem yf(ha:Tt X H0 O0 ps a k)(hb:k=false->Tw X H0 O0 ps (.BoolOp .Or (b::rest) pos) m):Tw X H0 O0 ps (.BoolOp .Or (a::b::rest) pos) (k ||m):=by
 cases k with
 |false=>exact PW.mono (By ha (hb rfl)) λσ H Q ⟨O,R,q⟩=>⟨O,R,λH' s=>by exact uZ (⟨O,R.go s,λH2 s2=>q H2 (s.trans s2)⟩)⟩
 |true=>exact PW.mono (By ha (λ_ _ _ _ _ _ _ h=>h.elim) (tB':=λ_ _ _=>False)) λσ H Q ⟨O,R,q⟩=>⟨O,R,λH' s=>by exact u7 (q H' s)⟩
theorem rT{op}(h:Ev X H0 O0 ps a u):Ev X H0 O0 ps (.BoolOp op [a] pos) u:=BF h
theorem lM(ha:Ev X H0 O0 ps a (.bl k))(hb:k=true->Ev X H0 O0 ps (.BoolOp .And (b::rest) pos) (.bl m)):Ev X H0 O0 ps (.BoolOp .And (a::b::rest) pos) (.bl (k && m)):=by
 cases k with
 |true=>exact PE.mono (xW ha (hb rfl)) λσ H Q ⟨O,R,q⟩=>⟨O,R,λv H' s r=>by cases r;exact⟨_,rfl,by exact u7 (⟨O,R.go s,λv H2 s2 r2=>q v H2 (s.trans s2) r2⟩)⟩⟩
 |false=>exact PE.mono (xW ha (λ_ _ _ _ _ _ h=>h.elim) (tb:=λ_ _ _=>False)) λσ H Q ⟨O,R,q⟩=>⟨O,R,λv H' s r=>by cases r;exact⟨_,rfl,by exact uZ (q _ H' s (.bl _))⟩⟩
theorem Bs(ha:Ev X H0 O0 ps a (.bl k)):Ev X H0 O0 ps (.UnaryOp .Not a pos) (.bl (!k)):=PE.mono (Ca ha) λσ H Q ⟨O,R,q⟩=>⟨O,R,λv H' s r=>by cases r;exact⟨_,rfl,q _ H' s (.bl _)⟩⟩
theorem ak:EvA X H0 O0 ps [] []:=PA.mono eI λσ H Q ⟨O,R,q⟩=>q [] H (.refl H) .nil
theorem ae(ha:Ev X H0 O0 ps e u)(hr:EvA X H0 O0 ps es us)(hs:EO (e::es) X.env=(false,Io e X.env)::EO es X.env:=by rfl):EvA X H0 O0 ps (e::es) (u::us):=
 PA.mono (cI ha hr hs) λσ H Q ⟨O,R,q⟩=>⟨O,R,λv H1 s1 r1=>⟨O,R.go s1,λvs H2 s2 r2=>q _ H2 (s1.trans s2) (.cons (r1.same (aT s2)) r2)⟩⟩
theorem Rs.hidnew{K:EC}{σ:St}{H:Hp}{O:List ES}(R:Rs K H0 O0 ps σ H O){p:ES}{o:HO}(n:H p=none):hid (upd H p o) O p=some o:=dg aJ λz=>R.dom p z n
theorem Dc{x1}(h:EvA X H0 O0 ps es us)(hz:us.length<=sizeLine:=by first |decide | (simp only[E9,IQ];decide)):Ev X H0 O0 ps (.Tuple es x1 pos) (.tup us):=
 PE.mono (CP h) λσ H Q ⟨O,R,q⟩=>⟨O,R,λvs H1 s1 r1=>⟨by rw[r1.len];exact hz,λp hp=>by
  have s2:=aL hp (.tup vs);have r2:=r1.same (aT (O:=O) s2);exact q _ _ (s1.trans s2) (.tup (SqT.of ((R.go s1).hidnew hp)) r2.len r2.at_)⟩⟩
theorem C5(h:EvA X H0 O0 ps es us)(hz:us.length<=sizeLine:=by first |decide | (simp only[E9,IQ];decide)):EvN X H0 O0 ps (.List es pos) us:=
 PE.mono (B9 h) λσ H Q ⟨O,R,q⟩=>⟨O,R,λvs H1 s1 r1=>⟨by rw[r1.len];exact hz,λp hp=>by
  exact q p vs _ (s1.trans (aL hp _)) (s1.free hp) aJ (r1.same (bu (aL hp _) hp))⟩⟩
theorem aF(ha:Ev X H0 O0 ps a x)(hb:Ev X H0 O0 ps b (.int i))(hx:x.items=some xs)(hi:atI xs i=some u)(hs:mX b:=by intro _ _;rfl):Ev X H0 O0 ps (.Subscript a b pos) u:=
 PE.mono (Bb (tI.or CO) ha hb hs) λσ H Q ⟨O,R,q⟩=>two (y:=.int i) R (λ_ _ _ z=>z) (λ_ _ _ z=>z) λv w H' s _ r1 r2=>by
  cases r2;cases r1 with
  |scr h hl hh=>cases hx;obtain⟨z,h1,h2⟩:=Rps.atI ⟨hl,hh⟩ hi;exact .inl ⟨_,_,i,z,rfl,rfl,ao.seq h,h1,q z H' s h2⟩
  |lst h hl hh=>cases hx;obtain⟨z,h1,h2⟩:=Rps.atI ⟨hl,hh⟩ hi;exact .inl ⟨_,_,i,z,rfl,rfl,ao.seq (SqL.of h),h1,q z H' s h2⟩
  |tup h hl hh=>cases hx;obtain⟨z,h1,h2⟩:=Rps.atI ⟨hl,hh⟩ hi;exact .inr ⟨_,_,i,z,rfl,rfl,ao.tup h,h1,q z H' s h2⟩
  |_=>cases hx
theorem i7(n:Nat){x:Str}(h:ps[n]?=some (some (.own xs)))(hb:Ev X H0 O0 ps b (.int i))(hi:atI xs i=some u)(hN:X.N[n]?=some x:=by rfl)(hv:Vis X.env.scope x:=by first |exact Or.inl rfl |exact Or.inr (Or.inl rfl) |exact Or.inr (Or.inr rfl))(hd:(x==("__debug__":Str))=false:=by decide)
  (Ri:(x==("__classdict__":Str))=false:=by decide) (hs:mX b:=by intro _ _;rfl):Ev X H0 O0 ps (.Subscript (.Name x p) b pos) u:=
 PE.mono (Bb tI (e8 hN hv hd Ri) hb hs) λσ H Q ⟨O,R,q⟩=>by
  obtain⟨v,h1,a,vs,rfl,h3,h4,h5,h6⟩:=R.at_ n _ h;refine⟨_,h1,O,R,λw H' s r=>?_⟩
  cases r;obtain⟨z,k1,k2⟩:=h6.atI hi;exact⟨a,vs,i,z,rfl,rfl,SqL.of (s _ _ h5),k1,q z H' s (k2.same (aT s))⟩
def dr(X:Cx)(f:EG)(us:List U)(u:U):Prop:=cR X f λvs H Q=>∃O,(∀a∈O,H a≠none)/\Rps X.K (hid H O) vs us/\∀v H',aI H H'->Rp X.K (hid H' O) v u->Q v H'
def Bj(X:Cx)(f:EG)(us:List U)(xs:List U):Prop:=cR X f λvs H Q=>∃O,(∀a∈O,H a≠none)/\Rps X.K (hid H O) vs us/\∀a vs H',aI H H'->H a=none->H' a=some (.lst vs)->Rps X.K (hid H' (a::O)) vs xs->Q (.ref a) H'
theorem aq{id:String}{f:Str}(hc:dr X (.builtin id) us u)(hg:Gl X f)(hm:X.mg f=none)(hv:GY f=some (.builtin id))(ha:EvA X H0 O0 ps (e::es) us)(hn:f≠"__name__":=by decide)(RL:(f==("__debug__":Str))=false:=by decide)
  (he:EO (e::es) X.env=(false,Io e X.env)::EO es X.env:=by rfl) (QY:(Ie pos (EO es X.env)).any (·.1)=false:=by rfl):Ev X H0 O0 ps (.Call (.Name f p) (e::es) [] pos) u:=
 PE.mono (pO hc hg hm hv ha hn RL he QY) λσ H Q ⟨O,R,q⟩=>⟨O,R,λvs H1 s1 r1=>⟨O,(R.go s1).dom,r1,λv H2 s2 r2=>q v H2 (s1.trans s2) r2⟩⟩
theorem tS{id:String}{f:Str}(hc:dr X (.type id) us u)(hg:Gl X f)(hm:X.mg f=none)(hv:GY f=some (.type id))(ha:EvA X H0 O0 ps (e::es) us)(hn:f≠"__name__":=by decide)(RL:(f==("__debug__":Str))=false:=by decide)
  (he:EO (e::es) X.env=(false,Io e X.env)::EO es X.env:=by rfl) (QY:(Ie pos (EO es X.env)).any (·.1)=false:=by rfl):Ev X H0 O0 ps (.Call (.Name f p) (e::es) [] pos) u:=
 PE.mono (md hc hg hm hv ha hn RL he QY) λσ H Q ⟨O,R,q⟩=>⟨O,R,λvs H1 s1 r1=>⟨O,(R.go s1).dom,r1,λv H2 s2 r2=>q v H2 (s1.trans s2) r2⟩⟩
theorem dU{id:String}{f:Str}(hc:Bj X (.type id) us xs)(hg:Gl X f)(hm:X.mg f=none)(hv:GY f=some (.type id))(ha:EvA X H0 O0 ps (e::es) us)(hn:f≠"__name__":=by decide)(RL:(f==("__debug__":Str))=false:=by decide)
  (he:EO (e::es) X.env=(false,Io e X.env)::EO es X.env:=by rfl) (QY:(Ie pos (EO es X.env)).any (·.1)=false:=by rfl):EvN X H0 O0 ps (.Call (.Name f p) (e::es) [] pos) xs:=
 PE.mono (md hc hg hm hv ha hn RL he QY) λσ H Q ⟨O,R,q⟩=>⟨O,R,λvs H1 s1 r1=>⟨O,(R.go s1).dom,r1,λa vs H2 s2 n h r2=>q a vs H2 (s1.trans s2) (s1.free n) h r2⟩⟩
theorem bQ{K:EC}{H:Hp}{vs:List V}(h:Rps K H vs [x]):∃v,vs=[v]/\Rp K H v x:=by
 obtain⟨v,ws,rfl,h1,h2⟩:=h.cons_inv;rw[h2.nil_inv];exact⟨v,rfl,h1⟩
theorem eS{K:EC}{H:Hp}{vs:List V}(h:Rps K H vs [x,y]):∃v w,vs=[v,w]/\Rp K H v x/\Rp K H w y:=by
 obtain⟨v,ws,rfl,h1,h2⟩:=h.cons_inv;obtain⟨w,rfl,h3⟩:=bQ h2;exact⟨v,w,rfl,h1,h3⟩
theorem cR.mono{f:EG}{r r':List V->Hp->VK->Prop}(h:cR X f r)(m:∀vs H Q,r' vs H Q->r vs H Q):cR X f r':=λpins s σ H vs us Q I v q=>h pins s σ H vs us Q I v (m vs H Q q)
theorem ox{K:EC}{H:Hp}{v:V}(h:Rp K H v x)(hx:x.items=some xs):∃a vs,v=.ref a/\(SqL K H a vs\/SqT K H a vs)/\Rps K H vs xs:=by
 cases h with
 |scr h hl hh=>cases hx;exact⟨_,_,rfl,.inl h,hl,hh⟩
 |lst h hl hh=>cases hx;exact⟨_,_,rfl,.inl (SqL.of h),hl,hh⟩
 |tup h hl hh=>cases hx;exact⟨_,_,rfl,.inr h,hl,hh⟩
 |_=>cases hx
theorem sE{K:EC}{H:Hp}{O:List ES}{a:ES}{vs:List V}(h:SqL K (hid H O) a vs\/SqT K (hid H O) a vs):SqL K H a vs\/SqT K H a vs:=h.imp (λz=>ao.seq z) λz=>ao.tup z
theorem bM(hx:x.items=some xs):dr X (.builtin "len") [x] (.int xs.length):=cR.mono ir λvs H Q ⟨O,d,r,q⟩=>by
 obtain⟨v,rfl,h⟩:=bQ r;obtain⟨a,ws,rfl,h1,h2⟩:=ox h hx;exact⟨a,ws,rfl,sE h1,by rw[h2.len];exact q _ H (.refl H) (.int _)⟩
theorem B2(n:Nat){x:Str}(h:ps[n]?=some (some (.own xs)))(hg:Gl X "len")(hm:X.mg "len"=none)(hN:X.N[n]?=some x:=by rfl)(hv:Vis X.env.scope x:=by first |exact Or.inl rfl |exact Or.inr (Or.inl rfl) |exact Or.inr (Or.inr rfl))(hd:(x==("__debug__":Str))=false:=by decide)
  (Ri:(x==("__classdict__":Str))=false:=by decide) {pc p':Pos} (hs:EO [.Name x p'] X.env=(false,Io (.Name x p') X.env)::EO [] X.env:=by rfl) (QY:(Ie pos (EO [] X.env)).any (·.1)=false:=by rfl):Ev X H0 O0 ps (.Call (.Name "len" pc) [.Name x p'] [] pos) (.int xs.length):=
 PE.mono (pO ir hg hm Fj (cI (e8 hN hv hd Ri) eI hs) (by decide) (by decide) hs QY) λσ H Q ⟨O,R,q⟩=>by
  obtain⟨v,h1,a,vs,rfl,h3,h4,h5,h6⟩:=R.at_ n _ h;exact⟨_,h1,a,vs,rfl,.inl (SqL.of h5),by rw[h6.len];exact q _ H (.refl H) (.int _)⟩
theorem xo:dr X (.builtin "abs") [.int i] (.int (if i<0 then -i else i)):=cR.mono wY λvs H Q ⟨O,d,r,q⟩=>by
 obtain⟨v,rfl,h⟩:=bQ r;cases h;exact⟨i,rfl,q _ H (.refl H) (.int _)⟩
theorem Dz(hc:X.calm=true):dr X (.builtin "min") [.int i,.int j] (.int (if j<i then j else i)):=cR.mono (v4 hc) λvs H Q ⟨O,d,r,q⟩=>by
 obtain⟨v,w,rfl,h,h2⟩:=eS r;cases h;cases h2;exact⟨i,j,rfl,q _ H (.refl H) (.int _)⟩
theorem BD:dr X (.type "int") [.bl k] (.int (if k then 1 else 0)):=cR.mono qN λvs H Q ⟨O,d,r,q⟩=>by
 obtain⟨v,rfl,h⟩:=bQ r;cases h;exact⟨k,rfl,q _ H (.refl H) (.int _)⟩
theorem fQ(hx:x.items=some xs):Bj X (.type "list") [x] xs:=cR.mono nE λvs H Q ⟨O,d,r,q⟩=>by
 obtain⟨v,rfl,h⟩:=bQ r;obtain⟨a,ws,rfl,h1,h2⟩:=ox h hx;exact⟨a,ws,rfl,sE h1,λl hl=>q l ws _ (aL hl _) hl aJ (h2.same (bu (aL hl _) hl))⟩
theorem zE(hx:x=.lst xs∨x=.scr xs):dr X (.type "tuple") [x] (.tup xs):=cR.mono lg λvs H Q ⟨O,d,r,q⟩=>by
 obtain⟨v,rfl,h⟩:=bQ r;have nh:∀{l:ES}{o:HO},H l=none->hid (upd H l o) O l=some o:=λ{l o} hl=>dg aJ λz=>d _ z hl
 rcases hx with rfl |rfl
 ·cases h with
  |lst h hl hh=>exact⟨_,_,rfl,.inl ⟨ao.seq (SqL.of h),λl QG=>q _ _ (aL QG _) (.tup (SqT.of (nh QG)) hl λi v x e1 e2=>(hh i v x e1 e2).same (aT (aL QG _)))⟩⟩
 ·cases h with
  |scr h hl hh=>exact⟨_,_,rfl,.inl ⟨ao.seq h,λl QG=>q _ _ (aL QG _) (.tup (SqT.of (nh QG)) hl λi v x e1 e2=>(hh i v x e1 e2).same (aT (aL QG _)))⟩⟩
def tyU:U->EG
 | .non=>.type "NoneType" | .bl _=>.type "bool" | .int _=>.type "int" | .str _=>.type "str" | .ty _=>.type "type" | .dic=>.type "dict" | .scr _=>.type "list" | .tup _=>.type "tuple" | .lst _=>.type "list"
theorem cX{n:String}(hn:∀m,x≠.ty m)(h:Jg X.K (tyU x) (.type n)=some k):dr X (.builtin "isinstance") [x,.ty (.nm n)] (.bl k):=by
 intro pins s σ H vs us Q I r hq;obtain⟨O,d,rs,q⟩:=hq;obtain⟨v,w,rfl,h1,h2⟩:=eS rs;cases h2;obtain⟨p1,p2,rfl,r1,r2⟩:=fY r;cases (show p2=F7 n from r2)
 have QN:∀tk,EP X pins σ Q (.bool k) {s with toks:=tk }:=λtk=>⟨.bl k,H,I.tok _,rfl,q _ H (.refl H) (.bl _)⟩
 cases h1 with
 |non=>exact dY I r1 .non h QN
 |bl b=>exact dY I r1 (.bl b) h QN
 |int b=>exact dY I r1 (.int b) h QN
 |str b=>exact dY I r1 (.str b) h QN
 |ty m=>exact absurd rfl (hn _)
 |dic e=>exact dY I r1 (.dK (ao _ _ e)) h QN
 |xc e kk=>exact absurd rfl (hn _)
 |dp e kk=>exact absurd rfl (hn _)
 |scr e hl hh=>
  cases r1;obtain⟨Qs,_,pl,_⟩:=I.list (ao.seq e);obtain⟨o,nn,e1,e2,_⟩:=pl;exact Gr Le I.kIn ⟨o,e1,e2⟩ h (λz=>nomatch z) QN
 |lst e hl hh=>exact dY I r1 (.lst (ao _ _ e)) h QN
 |tup e hl hh=>
  cases r1;obtain⟨Qs,_,pl,_⟩:=I.tuple (ao.tup e);obtain⟨o,e1,e2,_⟩:=pl;exact Gr Nc I.kIn ⟨o,e1,e2⟩ h (λz=>nomatch z) QN
end
inductive Out where
 |val (u:U) |new (xs:List U) |exc (C:ES) |dsk (d:ES) (u:U) (Qt:List (Str×U))
def oz(K:EC)(H0:Hp)(O0:List ES)(Q:VK)(E:XK):Out->Prop
 | .val u=>∀v H',aI H0 H'->Rp K (hid H' O0) v u->Q v H'
 | .new xs=>∀a vs H',aI H0 H'->H0 a=none->H' a=some (.lst vs)->Rps K (hid H' (a::O0)) vs xs->Q (.ref a) H'
 | .exc C=>∀H',aI H0 H'->E (.ref C) none H'
 | .dsk d u Qt=>∀v kv H',aI H0 H'->H' d=some (.dK kv)->DkR K (hid H' (d::O0)) kv Qt->Rp K (hid H' (d::O0)) v u->Q v H'
theorem oz.later{K:EC}{H0 H1:Hp}{O0:List ES}{Q:VK}{E:XK}{o:Out}(e:aI H0 H1)(h:oz K H0 O0 Q E o):oz K H1 O0 Q E o:=by
 cases o with
 |val u=>exact λv H' s r=>h v H' (e.trans s) r
 |new xs=>exact λa vs H' s n q r=>h a vs H' (e.trans s) (e.free n) q r
 |exc C=>exact λH' s=>h H' (e.trans s)
 |dsk d u Qt=>exact λv kv H' s q r p=>h v kv H' (e.trans s) q r p
structure PD where
 nx:PSt->Prop
 rt:Out->Prop
 bk:PSt->Prop:=λ_=>False
 ct:PSt->Prop:=λ_=>False
structure Lf(K:EC)(H0:Hp)(O0:List ES)(E:XK)(D:PD)(D':ot):Prop where
 nx:∀ps σ H O,Rs K H0 O0 ps σ H O->D.nx ps->D'.nx σ H
 bk:∀ps σ H O,Rs K H0 O0 ps σ H O->D.bk ps->D'.bk σ H
 ct:∀ps σ H O,Rs K H0 O0 ps σ H O->D.ct ps->D'.ct σ H
 rt:∀o,D.rt o->oz K H0 O0 D'.rt E o
def Ws(X:Cx)(H0:Hp)(O0:List ES)(E:XK)(ss:List HL)(D:PD)(ps:PSt):Prop:=PSs X ss λD' σ H=>Lf X.K H0 O0 E D D'/\∃O,Rs X.K H0 O0 ps σ H O
def W1(X:Cx)(H0:Hp)(O0:List ES)(E:XK)(s:HL)(D:PD)(ps:PSt):Prop:=PS X s λD' σ H=>Lf X.K H0 O0 E D D'/\∃O,Rs X.K H0 O0 ps σ H O
variable {E:XK}{QO:PSt}{D:PD}{ss:List HL}{QP:List HL}
section
variable {X:Cx}{ps:PSt}{s:HL}{a b c:Expr}{p:Pos}{x y:U}{k:Bool}
theorem aH(h:D.nx ps):Ws X H0 O0 E [] D ps:=PSs.mono m9 λD' σ H ⟨L,O,R⟩=>L.nx ps σ H O R h
theorem af(h:W1 X H0 O0 E s {D with nx:=λp=>Ws X H0 O0 E ss D p } ps):Ws X H0 O0 E (s::ss) D ps:=by
 have h2:PSs X ss λD' σ H=>∃p,Ws X H0 O0 E ss D p/\Lf X.K H0 O0 E D D'/\∃O,Rs X.K H0 O0 p σ H O:=λpins s σ H D' I ⟨p,w,l,r⟩=>w pins s σ H D' I ⟨l,r⟩
 exact PSs.mono (fe h h2) λD' σ H ⟨L,O,R⟩=>⟨⟨λp σ H O R q=>⟨p,q,L,O,R⟩,L.bk,L.ct,L.rt⟩,O,R⟩
theorem c8(h:Ws X H0 O0 E ss D QO)(hs:SubP QO ps):Ws X H0 O0 E ss D ps:=PSs.mono h λD' σ H ⟨L,O,R⟩=>⟨L,O,R.sub hs⟩
theorem aE{i:Nat}{x:Str}{QF:Pos}(hN:X.N.Nodup)(hi:X.N[i]?=some x)(hx:Loc X.env.scope x)(he:Ev X H0 O0 ps e u)(h:D.nx (ps.set i (some (.val u))))(hs:HQ e (some (.Name x QF)) pos.line X.env=pure false:=by rfl)(hf:X.fn x=true\/X.env.scope.names.lookup x=some .local:=by first |exact .inl rfl |exact .inr rfl |assumption):
  W1 X H0 O0 E (.Assign [.Name x QF] e pos) D ps:=PS.mono (om hN hi hx he hs hf) λD' σ H ⟨L,O,R⟩=>⟨O,R,λv H' s r=>L.nx _ _ _ O ((R.go s).set r) h⟩
theorem gI{i:Nat}{x:Str}{QF:Pos}(hN:X.N.Nodup)(hi:X.N[i]?=some x)(hx:Loc X.env.scope x)(he:EvN X H0 O0 ps e xs)(h:D.nx (ps.set i (some (.own xs))))(hs:HQ e (some (.Name x QF)) pos.line X.env=pure false:=by rfl)(hf:X.fn x=true\/X.env.scope.names.lookup x=some .local:=by first |exact .inl rfl |exact .inr rfl |assumption):
  W1 X H0 O0 E (.Assign [.Name x QF] e pos) D ps:=PS.mono (om hN hi hx he hs hf) λD' σ H ⟨L,O,R⟩=>⟨O,R,λa vs H' s n q r=>L.nx _ _ _ _ (R.own s n q r) h⟩
theorem lh{tb fb:List HL}(hc:Tt X H0 O0 ps c k)(h1:k=true->Ws X H0 O0 E tb D ps)(h2:k=false->Ws X H0 O0 E fb D ps):W1 X H0 O0 E (.If c tb fb pos) D ps:=by
 cases k with
 |true=>exact PS.mono (Bm hc (h1 rfl) (λ_ _ _ _ _ _ h=>h.elim) (u:=λ_ _ _=>False)) λD' σ H ⟨L,O,R⟩=>⟨O,R,λH' s=>u7 ⟨L,O,R.go s⟩⟩
 |false=>exact PS.mono (Bm hc (λ_ _ _ _ _ _ h=>h.elim) (h2 rfl) (t:=λ_ _ _=>False)) λD' σ H ⟨L,O,R⟩=>⟨O,R,λH' s=>uZ ⟨L,O,R.go s⟩⟩
theorem Rs.ret{K:EC}{σ:St}{H:Hp}{O:List ES}{v:V}(R:Rs K H0 O0 ps σ H O)(r:Rp K (hid H O) v u):Rp K (hid H O0) v u:=r.same (d7 R.old)
theorem ba(he:Ev X H0 O0 ps e u)(h:D.rt (.val u)):W1 X H0 O0 E (.Return (some e) pos) D ps:=
 PS.mono (qO he) λD' σ H ⟨L,O,R⟩=>⟨O,R,λv H' s r=>L.rt _ h v H' (R.same.trans s) ((R.go s).ret r)⟩
theorem d6(he:EvN X H0 O0 ps e xs)(h:D.rt (.new xs)):W1 X H0 O0 E (.Return (some e) pos) D ps:=
 PS.mono (qO he) λD' σ H ⟨L,O,R⟩=>⟨O,R,λa vs H' s n q r=>L.rt _ h a vs H' (R.same.trans s) (R.same.free n) q (r.same (d7 λb hb=>by
  rcases EH.mp hb with y |y
  ·subst y;exact EF
  ·exact EB _ (R.old b y)))⟩
theorem qX(i:Nat){x:Str}(hp:ps[i]?=some (some (.own xs)))(h:D.rt (.new xs))(hN:X.N[i]?=some x:=by rfl)(hv:Vis X.env.scope x:=by first |exact Or.inl rfl |exact Or.inr (Or.inl rfl) |exact Or.inr (Or.inr rfl))(hd:(x==("__debug__":Str))=false:=by decide)
  (Ri:(x==("__classdict__":Str))=false:=by decide):W1 X H0 O0 E (.Return (some (.Name x p)) pos) D ps:=
 PS.mono (qO (e8 hN hv hd Ri)) λD' σ H ⟨L,O,R⟩=>by
  obtain⟨v,h1,a,vs,rfl,h3,h4,h5,h6⟩:=R.at_ i _ hp;refine⟨_,h1,L.rt _ h a vs H R.same ((R.new a h3).resolve_left h4) h5 (h6.same (d7 λb hb=>?_))⟩
  rcases EH.mp hb with y |y
  ·subst y;exact h3
  ·exact R.old b y
theorem wx(he:Ev X H0 O0 ps e u)(h:D.nx ps)(hs:HQ e none pos.line X.env=pure false:=by rfl):W1 X H0 O0 E (.Expr e pos) D ps:=
 PS.mono (ie he hs) λD' σ H ⟨L,O,R⟩=>⟨O,R,λv H' s r=>L.nx _ _ _ O (R.go s) h⟩
theorem fh(i:Nat){x:Str}{QQ QE xp:Pos}(hp:ps[i]?=some (some (.own xs)))(ha:Ev X H0 O0 ps e u)(hz:xs.length<sizeLine)(h:D.nx (ps.set i (some (.own (xs++[u])))))
  (hN:X.N[i]?=some x:=by rfl) (hv:Vis X.env.scope x:=by first |exact Or.inl rfl |exact Or.inr (Or.inl rfl) |exact Or.inr (Or.inr rfl)) (hd:(x==("__debug__":Str))=false:=by decide) (Ri:(x==("__classdict__":Str))=false:=by decide)
  (Q3:IY (.Name x xp) "append" X.env (Io (.Name x xp) X.env)=Io (.Name x xp) X.env:=by rfl)
  (R6:((Ie QE (EO [e] X.env)).all (λx=>!x.1) && (N_ QE (LB [] X.env)).all (λx=>x.1.isSome) && decide ([e].length+([]:List KY).length+(if ([]:List KY).isEmpty then 0 else 1)<30))=true:=by rfl)
  (Q4:(QQ.endLine==QE.line)=true:=by rfl) (TH:EO [e] X.env=(false,Io e X.env)::EO [] X.env:=by rfl) (Rc:(Ie QE (EO [] X.env)).any (·.1)=false:=by rfl)
  (hs:HQ (.Call (.Attribute (.Name x xp) "append" QQ) [e] [] QE) none pos.line X.env=pure false:=by rfl):W1 X H0 O0 E (.Expr (.Call (.Attribute (.Name x xp) "append" QQ) [e] [] QE) pos) D ps:=
 PS.mono (ie (yB Ip PySem.F.slot_list_append PySem.F.type_list_append iM (e8 hN hv hd Ri) (cI ha eI TH) Q3 R6 Q4 TH Rc) hs) λD' σ H ⟨L,O,R⟩=>by
  obtain⟨v,h1,a,vs,rfl,h3,h4,h5,h6⟩:=R.at_ i _ hp;refine⟨_,h1,.inl ⟨rfl,_,SqL.of h5⟩,O,R,λw H' s r=>⟨a,vs,w,rfl,rfl,s _ _ h5,by rw[h6.len];exact hz,?_⟩⟩
  exact L.nx _ _ _ O ((R.go s).write hp h1 ((h6.same (aT s)).snoc (.cons r .nil))) h
theorem y_(i:Nat){x:Str}{QQ QE xp:Pos}(hp:ps[i]?=some (some (.own xs)))(Qv:xs≠[])(h:D.nx (ps.set i (some (.own xs.dropLast))))
  (hN:X.N[i]?=some x:=by rfl) (hv:Vis X.env.scope x:=by first |exact Or.inl rfl |exact Or.inr (Or.inl rfl) |exact Or.inr (Or.inr rfl)) (hd:(x==("__debug__":Str))=false:=by decide) (Ri:(x==("__classdict__":Str))=false:=by decide)
  (Q3:IY (.Name x xp) "pop" X.env (Io (.Name x xp) X.env)=Io (.Name x xp) X.env:=by rfl)
  (Q4:(QQ.endLine==QE.line)=true:=by rfl)
  (hs:HQ (.Call (.Attribute (.Name x xp) "pop" QQ) [] [] QE) none pos.line X.env=pure false:=by rfl):W1 X H0 O0 E (.Expr (.Call (.Attribute (.Name x xp) "pop" QQ) [] [] QE) pos) D ps:=
 PS.mono (ie (CK Ip PySem.F.slot_list_pop PySem.F.type_list_pop B8 (e8 hN hv hd Ri) Q3 Q4) hs) λD' σ H ⟨L,O,R⟩=>by
  obtain⟨v,h1,a,vs,rfl,h3,h4,h5,h6⟩:=R.at_ i _ hp;have hpos:0<vs.length:=by rw[h6.len];exact FJ.mpr Qv
  have Qx:vs.length-1<vs.length:=by lia
  refine⟨_,h1,.inl ⟨rfl,_,SqL.of h5⟩,a,vs,vs[vs.length-1],rfl,rfl,h5,Ey Qx,?_⟩;refine L.nx _ _ _ O (R.write hp h1 ⟨by simp[h6.len],λj v x e1 e2=>?_⟩) h
  rw[IJ]at e1 e2;split at e1
  ·split at e2
   ·exact h6.at_ j v x e1 e2
   ·cases e2
  ·cases e1
end
def n9:List Nat->TGs
 |[]=>C_
 |j::js=>Bh (oV j) (n9 js)
def setAll:PSt->List Nat->List U->PSt
 |ps,j::js,u::us=>setAll (ps.set j (some (.val u))) js us
 |ps,_,_=>ps
def jk:St->List Nat->List V->St
 |σ,j::js,u::us=>jk (σ.set j (some u)) js us
 |σ,_,_=>σ
theorem Rs.setAll{K:EC}{H0:Hp}{O0:List ES}{H:Hp}{O:List ES}:∀{js:List Nat}{ps:PSt}{σ:St}{vs:List V}{us:List U},Rs K H0 O0 ps σ H O->Rps K (hid H O) vs us->Rs K H0 O0 (L2.setAll ps js us) (jk σ js vs) H O
 |[],ps,σ,vs,us,R,r=>by cases us <;>cases vs <;>exact R
 |j::js,ps,σ,vs,[],R,r=>by rw[r.nil_inv];exact R
 |j::js,ps,σ,vs,u::us,R,r=>by
  obtain⟨v,ws,rfl,h1,h2⟩:=r.cons_inv;exact Rs.setAll (js:=js) (R.set h1) h2
theorem iP{Q:St->Hp->Prop}{H:Hp}:∀{js:List Nat}{σ:St}{vs:List V},vs.length=js.length->Q (jk σ js vs) H->n9 js vs σ H Q
 |[],σ,[],_,q=>⟨rfl,q⟩
 |j::js,σ,v::vs,e,q=>⟨v,vs,rfl,iP (js:=js) (by simpa using e) q⟩
 |[],_,_::_,e,_=>by simp at e
 |_::_,_,[],e,_=>by simp at e
def TgS(X:Cx)(H0:Hp)(O0:List ES)(tg:Expr)(ps:PSt)(u:U)(QO:PSt):Prop:=
 PG X tg λv σ H Q=>∃O,Rs X.K H0 O0 ps σ H O/\Rp X.K (hid H O) v u/\∀QC H',aI H H'->Rs X.K H0 O0 QO QC H' O->Q QC H'
theorem PG.mono{X:Cx}{e:Expr}{t t':TG}(h:PG X e t)(m:∀v σ H Q,t' v σ H Q->t v σ H Q):PG X e t':=λpins s σ H v u Q I r q=>h pins s σ H v u Q I r (m v σ H Q q)
theorem PI.mono{X:Cx}{tg e:Expr}{t t':TI}(h:PI X tg e t)(m:∀σ H Q,t' σ H Q->t σ H Q):PI X tg e t':=λpins s σ H Q I q=>h pins s σ H Q I (m σ H Q q)
def Yl(K:EC)(J:It)(G:Hp)(xs:List U):Prop:=
 ∀H2,aI G H2->(∀i,i<xs.length->J.go i H2/\∀x H3,J.yld i H2 x H3->H3=H2/\∃u,xs[i]?=some u/\Rp K G x u)/\J.stop xs.length H2
def EvI(X:Cx)(H0:Hp)(O0:List ES)(ps:PSt)(tg iter:Expr)(xs:List U):Prop:=
 PI X tg iter λσ H R=>∃O,Rs X.K H0 O0 ps σ H O/\∀J H',aI H H'->Yl X.K J (hid H' O) xs->R J H'
variable {tg:Expr}{iter:Expr}
section
variable {X:Cx}{ps:PSt}{s:HL}{a b c:Expr}{p:Pos}{x y:U}{k:Bool}
theorem d8{i:Nat}{x:Str}(hN:X.N.Nodup)(hi:X.N[i]?=some x)(hx:Loc X.env.scope x)(hf:X.fn x=true\/X.env.scope.names.lookup x=some .local:=by first |exact .inl rfl |exact .inr rfl |assumption):TgS X H0 O0 (.Name x pos) ps u (ps.set i (some (.val u))):=
 PG.mono (bC hN hi hx hf) λv σ H Q ⟨O,R,r,q⟩=>q _ H (.refl H) (R.set r)
theorem Bl{k:Nat}(js:List Nat)(hc:X.calm=true)(h:PGs X es (n9 js))(hl:us.length=js.length)(hn:(Jq es X.env).length=js.length:=by rfl)(Rj:(Jq es X.env).findIdx? (·.1)=none:=by rfl):TgS X H0 O0 (.Tuple es k pos) ps (.tup us) (setAll ps js us):=
 PG.mono (qI hc h hn Rj) λv σ H Q ⟨O,R,r,q⟩=>by
  cases r with
  |tup hq QG hh=>exact⟨_,_,rfl,ao.tup hq,QG.trans hl,iP (QG.trans hl) (q _ H (.refl H) (R.setAll ⟨QG,hh⟩))⟩
theorem DH(he:Ev X H0 O0 ps e u)(hg:TgS X H0 O0 tg ps u QO)(h:D.nx QO)(hs:Lx [tg] e pos.line X.env=pure false:=by rfl)(hw:Ly [tg] e X.env=pure none:=by rfl)
  (h1:(Jq [tg] X.env).map (·.2)=[OZ tg X.env]:=by rfl):W1 X H0 O0 E (.Assign [tg] e pos) D ps:=
 PS.mono (Cs he hg hs hw h1) λD' σ H ⟨L,O,R⟩=>⟨O,R,λv H1 s1 r1=>⟨O,R.go s1,r1,λQC H2 s2 R2=>L.nx _ _ _ O R2 h⟩⟩
theorem C9{i j:Nat}{x y:Str}{px py pt:Pos}{kt k2 pt2}{u w:U}(hc:X.calm=true)(hN:X.N.Nodup)(hi:X.N[i]?=some x)(hj:X.N[j]?=some y)(Ry:i≠j)
  (hx:X.env.scope.names.lookup x=some .local) (hy:X.env.scope.names.lookup y=some .local) (ha:EvA X H0 O0 ps [a,b] [u,w])
  (hw:Ly [.Tuple [.Name x px,.Name y py] kt pt] (.Tuple [a,b] k2 pt2) X.env=pure (some [x,y])) (h:D.nx ((ps.set i (some (.val u))).set j (some (.val w))))
  (hs:Lx [.Tuple [.Name x px,.Name y py] kt pt] (.Tuple [a,b] k2 pt2) pos.line X.env=pure false:=by rfl):
  W1 X H0 O0 E (.Assign [.Tuple [.Name x px,.Name y py] kt pt] (.Tuple [a,b] k2 pt2) pos) D ps:=
 PS.mono (Cq hc hN hi hj Ry hx hy ha hw hs) λD' σ H ⟨L,O,R⟩=>⟨O,R,λvs H1 s1 r1=>by
  obtain⟨v,z,rfl,h1,h2⟩:=eS r1;exact⟨v,z,rfl,L.nx _ _ _ O (((R.go s1).set h1).set h2) h⟩⟩
theorem cF(he:Ev X H0 O0 ps iter x)(hx:x=.lst xs\/x=.scr xs):EvI X H0 O0 ps tg iter xs:=
 PI.mono (zw he) λσ H Q ⟨O,R,q⟩=>⟨O,R,λv H' s r=>by
  have key:∃a vs,v=.ref a/\SqL X.K (hid H' O) a vs/\Rps X.K (hid H' O) vs xs:=by
   rcases hx with rfl |rfl
   ·cases r with
    |lst hq hl hh=>exact⟨_,_,rfl,SqL.of hq,hl,hh⟩
   ·cases r with
    |scr hq hl hh=>exact⟨_,_,rfl,hq,hl,hh⟩
  obtain⟨a,vs,rfl,hq,rs⟩:=key;refine⟨a,rfl,⟨vs,ao.seq hq⟩,q _ H' s λH2 s2=>⟨λi hi=>?_,⟨vs,s2.seq hq,by rw[rs.len];exact EL _⟩⟩⟩
  have QI:i<vs.length:=by rw[rs.len];exact hi
  refine⟨⟨vs,vs[i],s2.seq hq,Ey QI⟩,λz H3 y=>⟨y.1,xs[i],Ey hi,rs.at_ i z _ (y.2 vs (s2.seq hq)) (Ey hi)⟩⟩⟩
theorem tj(he:Ev X H0 O0 ps iter (.tup xs)):EvI X H0 O0 ps tg iter xs:=
 PI.mono (CT he) λσ H Q ⟨O,R,q⟩=>⟨O,R,λv H' s r=>by
  cases r with
  | @tup a vs _ hq hl hh=>
   have rs:Rps X.K (hid H' O) vs xs:=⟨hl,hh⟩;refine⟨a,rfl,⟨vs,ao.tup hq⟩,q _ H' s λH2 s2=>⟨λi hi=>?_,⟨vs,s2.tup hq,by rw[rs.len];exact EL _⟩⟩⟩
   have QI:i<vs.length:=by rw[rs.len];exact hi
   refine⟨⟨vs,vs[i],s2.tup hq,Ey QI⟩,λz H3 y=>⟨y.1,xs[i],Ey hi,rs.at_ i z _ (y.2 vs (s2.tup hq)) (Ey hi)⟩⟩⟩
def fF(lo:Int)(n:Nat):List U:=(Fw n).map λ(i:Nat)=>U.int (lo+(i:Int))
theorem cL{lo:Int}{n:Nat}:(fF lo n).length=n:=by simp[fF]
theorem l_{lo:Int}{n i:Nat}(h:i<n):(fF lo n)[i]?=some (.int (lo+(i:Int))):=by
 unfold fF;rw[EI,Iq h];rfl
theorem fO{lo:Int}{n i:Nat}{x:U}(h:(fF lo n)[i]?=some x):i<n/\x=.int (lo+(i:Int)):=by
 have hi:=aw h;rw[cL]at hi;rw[l_ hi]at h;exact⟨hi,(Fk h).symm⟩
theorem j_{K:EC}{G:Hp}{lo:Int}{n:Nat}:Yl K (Itr lo n) G (fF lo n):=λH2 s2=>by
 rw[cL];refine⟨λi hi=>⟨hi,λz H3 y=>⟨y.1,_,l_ hi,?_⟩⟩,EL _⟩
 rw[y.2];exact .int _
theorem pN{j:Int}(hg:Gl X "range")(hm:X.mg "range"=none)(ha:EvA X H0 O0 ps [a] [.int j])(h1:-(2 ^ 62)≤j)(h2:j<2 ^ 62)(hs:EO [a] X.env=[(false,Io a X.env)]:=by rfl):EvI X H0 O0 ps tg (.Call (.Name "range" p) [a] [] pos) (fF 0 j.toNat):=
 PI.mono (vO hg hm ha hs) λσ H Q ⟨O,R,q⟩=>⟨O,R,λvs H' s r=>by
  obtain⟨v,rfl,h⟩:=bQ r;cases h;exact⟨j,rfl,h1,h2,q _ H' s j_⟩⟩
theorem Rs.rebase{K:EC}{σ:St}{H:Hp}{O:List ES}(R:Rs K H0 O0 ps σ H O):Rs K (hid H (O.filter λa=>decide (a ∉ O0))) O0 ps σ H O:=
 ⟨ao,R.old,λa ha=>by
  by_cases h:a∈O0
  ·exact .inl h
  ·right;unfold hid;rw[if_pos (FE.mpr ⟨ha,by simpa using h⟩)],R.dom,R.len,R.at_,R.inj⟩
theorem Rs.base{K:EC}{σ:St}{H:Hp}{O:List ES}(R:Rs K H0 O0 ps σ H O):aI H0 (hid H (O.filter λa=>decide (a ∉ O0))):=λb o h=>by
 refine dg (R.same b o h) λz=>?_
 obtain⟨z1,z2⟩:=FE.mp z;rcases R.new b z1 with y |y
 ·simp[y]at z2
 ·rw[h]at y;cases y
theorem Rs.unbase{K:EC}{H1:Hp}{σ:St}{H:Hp}{O:List ES}(e:aI H0 H1)(R:Rs K H1 O0 ps σ H O):Rs K H0 O0 ps σ H O:=
 ⟨e.trans R.same,R.old,λa ha=>(R.new a ha).imp id λz=>e.free z,R.dom,R.len,R.at_,R.inj⟩
theorem Rs.seen{K:EC}{TU:PSt}{σ σ2:St}{H H2:Hp}{O O2:List ES}(R:Rs K H0 O0 ps σ H O)(R2:Rs K (hid H (O.filter λa=>decide (a ∉ O0))) O0 TU σ2 H2 O2):aI (hid H O) (hid H2 O2):=λb o h=>by
 obtain⟨h1,h2⟩:=gT h;have h3:hid H (O.filter λa=>decide (a ∉ O0)) b=some o:=dg h1 λz=>h2 (FE.mp z).1
 refine dg (R2.same b o h3) λz=>?_
 rcases R2.new b z with y |y
 ·exact h2 (R.old b y)
 ·rw[h3]at y;cases y
theorem Dv(hc:X.calm=true)(hp:Ld (Fm X.prog X.w) X.A X.env X.xe)(hi:EvI X H0 O0 ps tg iter xs)(Iv:Nat->PSt->Prop)(h0:Iv 0 ps)
  (hs:∀(H0:Hp) (i:Nat) (x:U) (ps:PSt),xs[i]?=some x->Iv i ps->∃QO,TgS X H0 O0 tg ps x QO/\Ws X H0 O0 E QP {D with nx:=Iv (i+1),ct:=Iv (i+1),bk:=D.nx } QO) (hd:∀ps,Iv xs.length ps->D.nx ps)
  (hf:∀x,Gm iter X.env x=pure x:=by intro _;rfl):W1 X H0 O0 E (.For tg iter QP [] pos) D ps:=by
 have hg:PG X tg λv σ H Q=>∃H1 ps u QO,TgS X H1 O0 tg ps u QO/\∃O,Rs X.K H1 O0 ps σ H O/\Rp X.K (hid H O) v u/\∀QC H',aI H H'->Rs X.K H1 O0 QO QC H' O->Q QC H':=
  λpins s σ H v u Q I r ⟨H1,ps,w,QO,t,z⟩=>t pins s σ H v u Q I r z
 have hb:PSs X QP λD' σ H=>∃H1 D1 QO,Ws X H1 O0 E QP D1 QO/\Lf X.K H1 O0 E D1 D'/\∃O,Rs X.K H1 O0 QO σ H O:=λpins s σ H D' I ⟨H1,D1,QO,w,z⟩=>w pins s σ H D' I z
 refine PS.mono (y6 hp hc hi hg hb hf) λD' σ H ⟨L,O,R⟩=>⟨O,R,λJ H1 s1 Y=>?_⟩
 have R1:=R.go s1;have base:=R1.base;refine⟨λi m σ H=>m=xs.length-i/\i<=xs.length/\∃ps O',Iv i ps/\Rs X.K (hid H1 (O.filter λa=>decide (a ∉ O0))) O0 ps σ H O',⟨_,rfl,FH _,ps,O,h0,R1.rebase⟩,?_⟩
 rintro i m σ2 H2 ⟨rfl,Rn,TU,O2,iv,R2⟩;have seen:=R1.seen R2;obtain⟨y1,y2⟩:=Y H2 (seen.trans ao);by_cases Qx:i<xs.length
 ·obtain⟨g1,g2⟩:=y1 i Qx;refine .inr ⟨g1,λQC H'=>∃ps O',Iv (i+1) ps/\Rs X.K (hid H1 (O.filter λa=>decide (a ∉ O0))) O0 ps QC H' O',λQC H' z=>⟨xs.length-(i+1),by lia,rfl,Qx,z⟩,λx H3 y=>?_⟩
  obtain⟨rfl,u,hu,r⟩:=g2 x H3 y;obtain⟨QO,t,w⟩:=hs (hid H1 (O.filter λa=>decide (a ∉ O0))) i u TU hu iv
  refine⟨_,TU,u,QO,t,O2,R2,r.same seen,λQC H' s' R'=>⟨_,_,QO,w,?_,O2,R'⟩⟩
  exact⟨λp σ H O R q=>⟨p,O,q,R⟩,λp σ H O R q=>L.nx _ _ _ _ (R.unbase base) q,λp σ H O R q=>⟨p,O,q,R⟩,λo q=>(L.rt o q).later base⟩
 ·have e:i=xs.length:=by lia
  subst e;exact .inl ⟨y2,L.nx _ _ _ _ (R2.unbase base) (hd TU iv)⟩
theorem Ah(hp:Ld (Fm X.prog X.w) X.A X.env X.xe)(Iv:Nat->PSt->Prop)(m:Nat)(h0:Iv m ps)
  (hs:∀m ps,Iv m ps->∃b,Tt X H0 O0 ps c b/\(b=true->Ws X H0 O0 E QP {D with nx:=λp=>∃m',m'<m/\Iv m' p,ct:=λp=>∃m',m'<m/\Iv m' p,bk:=D.nx } ps)/\(b=false->D.nx ps)):W1 X H0 O0 E (.While c QP [] pos) D ps:=by
 have ht:PT X c λσ H Q=>∃ps b,Tt X H0 O0 ps c b/\∃O,Rs X.K H0 O0 ps σ H O/\∀H',aI H H'->Q b H':=λpins s σ H Q I ⟨ps,b,t,z⟩=>t pins s σ H Q I z
 have hb:PSs X QP λD' σ H=>∃D1 QO,Ws X H0 O0 E QP D1 QO/\Lf X.K H0 O0 E D1 D'/\∃O,Rs X.K H0 O0 QO σ H O:=λpins s σ H D' I ⟨D1,QO,w,z⟩=>w pins s σ H D' I z
 refine PS.mono (w_ hp ht hb) λD' σ H ⟨L,O,R⟩=>⟨λm σ H=>∃ps O,Iv m ps/\Rs X.K H0 O0 ps σ H O,⟨m,ps,O,h0,R⟩,?_⟩
 rintro m σ2 H2 ⟨TU,O2,iv,R2⟩;obtain⟨b,t,h1,h2⟩:=hs m TU iv;refine⟨TU,b,t,O2,R2,λH3 s3=>?_⟩
 cases b with
 |true=>
  refine u7 ⟨λσ H=>∃m',m'<m/\∃ps O,Iv m' ps/\Rs X.K H0 O0 ps σ H O,λQC H' z=>z,_,TU,h1 rfl,?_,O2,R2.go s3⟩
  exact⟨λp σ H O R ⟨m',l,q⟩=>⟨m',l,p,O,q,R⟩,λp σ H O R q=>L.nx _ _ _ _ R q,λp σ H O R ⟨m',l,q⟩=>⟨m',l,p,O,q,R⟩,L.rt⟩
 |false=>exact uZ (L.nx _ _ _ _ (R2.go s3) (h2 rfl))
def d_:List Nat->PSt->PSt
 |[],ps=>ps
 |i::is,ps=>d_ is (ps.set i none)
theorem Rs.mask{K:EC}{H:Hp}{O:List ES}:∀{is:List Nat}{ps:PSt}{σ:St},Rs K H0 O0 ps σ H O->Rs K H0 O0 (d_ is ps) (L2.mask is σ) H O
 |[],ps,σ,R=>R
 |i::is,ps,σ,R=>Rs.mask (is:=is) (R.drop (i:=i) (o:=none))
theorem Rs.hide{K:EC}{σ:St}{H H':Hp}{O:List ES}{l:ES}(R:Rs K H0 O0 ps σ H O)(e:aI H H')(n:H l=none)(d:H' l≠none):Rs K H0 O0 ps σ H' (l::O):=by
 refine⟨R.same.trans e,λa ha=>EB _ (R.old a ha),λa ha=>?_,λa ha z=>?_,R.len,λi s h=>?_,R.inj⟩
 ·rcases EH.mp ha with y |y
  ·subst y;exact .inr (R.same.free n)
  ·exact R.new a y
 ·rcases EH.mp ha with y |y
  ·subst y;exact d z
  ·exact R.dom a y (e.free z)
 ·obtain⟨w,h1,h2⟩:=R.at_ i s h;refine⟨w,h1,?_⟩;cases s with
  |val u=>exact Rp.same (bu e n) h2
  |own ys=>
   obtain⟨b,ws,k1,k2,k3,k4,k5⟩:=h2;exact⟨b,ws,k1,EB _ k2,k3,e _ _ k4,k5.same (bu e n)⟩
  |pin z u=>exact⟨h2.1,Rp.same (bu e n) h2.2⟩
  |dsk w C b d Qt=>obtain⟨dx,kv,k1,k2,k3,k4,k5,k6⟩:=h2;exact⟨dx,kv,k1,EB _ k2,k3,e _ _ k4,e _ _ k5,k6.same (bu e n)⟩
theorem p_{js is:List Nat}:∀{σ:St}{vs:List V},(∀j∈js,j∈is)->∀(n:Nat) (v:V),n ∉ is->σ[n]?=some (some v)->(jk σ js vs)[n]?=some (some v):=by
 induction js with
 |nil=>intro σ vs _ n v _ h;cases vs <;>exact h
 |cons j js ih=>
  intro σ vs hj n v hn h;cases vs with
  |nil=>exact h
  |cons w ws=>exact ih (λz hz=>hj z (EB _ hz)) n v hn (by rw[Fc (λz=>hn (by rw[<-z];exact hj j EF))];exact h)
def GOk(g:TG)(K:EC)(is:List Nat)(f:PSt->U->PSt)(dom:U->Prop):Prop:=
 ∀(H0:Hp) (O0:List ES) (ps:PSt) (σ:St) (H:Hp) (O:List ES) (v:V) (u:U) (Q:St->Hp->Prop),dom u->Rs K H0 O0 ps σ H O->Rp K (hid H O) v u->
  (∀QC,Rs K H0 O0 (f ps u) QC H O->(∀(n:Nat) (w:V),n ∉ is->σ[n]?=some (some w)->QC[n]?=some (some w))->Q QC H)->g v σ H Q
theorem dM{K:EC}{is:List Nat}{i:Nat}(h:i∈is):GOk (oV i) K is (λps u=>ps.set i (some (.val u))) λ_=>True:=λH0 O0 ps σ H O v u Q _ R r q=>
 q _ (R.set r) λn w hn e=>by rw[Fc (λz=>hn (by rw[<-z];exact h))];exact e
theorem sn{K:EC}{is js:List Nat}(h:∀j∈js,j∈is):GOk (Dk K js.length (n9 js)) K is (λps u=>match u with | .tup us=>setAll ps js us |_=>ps) λu=>∃us,u=.tup us/\us.length=js.length:=λH0 O0 ps σ H O v u Q d R r q=>by
 obtain⟨us,rfl,hl⟩:=d;cases r with
 |tup hq QG hh=>exact⟨_,_,rfl,ao.tup hq,QG.trans hl,iP (QG.trans hl) (q _ (R.setAll ⟨QG,hh⟩) λn w hn e=>p_ h n w hn e)⟩
theorem vP{is:List Nat}{g:TG}{f:PSt->U->PSt}{dom:U->Prop}{σ:St}{H1:Hp}{O:List ES}{Q:VK}{J:It}{te:TE}(hg:GOk g X.K is f dom)(R1:Rs X.K H0 O0 ps σ H1 O)(Y:Yl X.K J (hid H1 O) xs)(Qz:ys.length=xs.length)(hz:xs.length<=sizeLine)(RM:∀x∈xs,dom x)
  (TV:∀(i:Nat) (x y:U) (σ:St) (H:Hp) (O':List ES) (Q:VK),xs[i]?=some x->ys[i]?=some y->Rs X.K H0 O0 (f (d_ is ps) x) σ H O'->(∀v H',aI H H'->Rp X.K (hid H' O') v y->Q v H')->te σ H Q)
  (QN:∀a vs H',aI H1 H'->H1 a=none->H' a=some (.lst vs)->Rps X.K (hid H' (a::O)) vs ys->Q (.ref a) H'):yj is g te σ Q J H1:=by
 intro l hl;refine⟨λi m H2=>m=xs.length-i/\i<=xs.length/\aI H1 H2/\∃vs,H2 l=some (.lst vs)/\vs.length=i/\Rps X.K (hid H2 (l::O)) vs (ys.take i),⟨_,rfl,FH _,aL hl _,[],aJ,rfl,by rw[MX];exact .nil⟩,?_⟩
 rintro i m H2 ⟨rfl,hi,s2,vs,h2,hv,rs⟩;have seen:aI (hid H1 O) (hid H2 (l::O)):=bu s2 hl;obtain⟨y1,y2⟩:=Y H2 (seen.trans ao);by_cases Qx:i<xs.length
 ·obtain⟨g1,g2⟩:=y1 i Qx;refine .inr ⟨g1,λx H3 y=>?_⟩
  obtain⟨rfl,u,hu,r⟩:=g2 x H3 y;have R2:=(R1.mask (is:=is)).hide s2 hl (by rw[h2];intro z;cases z)
  refine hg H0 O0 _ _ H3 (l::O) x u _ (RM u (EV hu)) R2 (r.same seen) λS3 R4 keep=>?_
  have hy:ys[i]?=some (ys[i]'(by lia)):=Ey _
  refine TV i u _ S3 H3 (l::O) _ hu hy R4 λv H5 s5 r5=>⟨λj w e=>keep j w (hW is σ j w e).2 e,vs,s5 _ _ h2,?_,xs.length-(i+1),by lia,rfl,Qx,(s2.trans s5).put hl _,vs++[v],aJ,by simp[hv],?_⟩
  ·rw[hv];lia
  ·rw[jp EF,GJ,hy];exact (rs.same (aT s5)).snoc (.cons r5 .nil)
 ·have e:i=xs.length:=by lia
  subst e;rw[<-Qz,Gd]at rs;exact .inl ⟨y2,QN l vs H2 s2 hl h2 rs⟩
theorem gr{Q7:Expr}{Qr:Kk}{cl:List (Str×ES)}{is:List Nat}{g:TG}{f:PSt->U->PSt}{dom:U->Prop}(hc:X.calm=true)(B:dm X Qr cl is)(hi:EvI X H0 O0 ps tg iter xs)(hg:∀C s H fp,PG (aD X Qr cl C s H fp) tg g)(gk:GOk g X.K is f dom)
  (Qz:ys.length=xs.length) (hz:xs.length<=sizeLine) (RM:∀x∈xs,dom x) (he:∀C s H fp (i:Nat) (x y:U),xs[i]?=some x->ys[i]?=some y->Ev (aD X Qr cl C s H fp) H0 O0 (f (d_ is ps) x) Q7 y)
  (hs:∀x,Gm iter X.env x=pure x:=by intro _;rfl):EvN X H0 O0 ps (.ListComp Q7 [⟨tg,iter,[],0⟩] Qr pos) ys:=by
 have TV:∀C s H fp,PE (aD X Qr cl C s H fp) Q7 λσ H Q=>∃i x y,xs[i]?=some x/\ys[i]?=some y/\∃O',Rs X.K H0 O0 (f (d_ is ps) x) σ H O'/\∀v H',aI H H'->Rp X.K (hid H' O') v y->Q v H':=
  λC s H fp pins s' σ H' Q I ⟨i,x,y,h1,h2,z⟩=>he C s H fp i x y h1 h2 pins s' σ H' Q I z
 refine PE.mono (z_ hc B hi hg TV hs) λσ H Q ⟨O,R,q⟩=>⟨O,R,λJ H1 s1 Y=>?_⟩
 exact vP gk (R.go s1) Y Qz hz RM (λi x y σ H O' Q h1 h2 R' z=>⟨i,x,y,h1,h2,O',R',z⟩) λa vs H' s n h r=>q a vs H' (s1.trans s) (s1.free n) h r
end
def spU(K:EC)(QV:List U->Out->Prop):Sp:=λvs H Q E=>∃us O o,(∀a∈O,H a≠none)/\Rps K (hid H O) vs us/\QV us o/\oz K H O Q E o
section
variable {X:Cx}{ps:PSt}{s:HL}{a b c:Expr}{p:Pos}{x y:U}{k:Bool}
 {CX:CXT}{n:Nat}{f C:ES}{fd:G9}{pn:List Str}{QV:List U->Out->Prop}{nm:Str}
theorem aB(F:aZ X.prog X.w X.K X.mg X.base CX n f fd pn (spU X.K QV))(hr:eL n X.A)(hg:Gl X nm)(hm:X.mg nm=some (.ref f))(hk:H_ X.K (.ref f)=true)(hb:dB X.K fd pn [])(hx:iT CX X E0)
  (ha:EvA X H0 O0 ps (e::es) us) (h:QV us (.val u)) (RL:(nm==("__debug__":Str))=false:=by decide) (he:EO (e::es) X.env=(false,Io e X.env)::EO es X.env:=by rfl) (QY:(Ie pos (EO es X.env)).any (·.1)=false:=by rfl):
  Ev X H0 O0 ps (.Call (.Name nm p) (e::es) [] pos) u:=
 PE.mono (mK F hr hg hm hk hb .nil hx ha RL he QY) λσ H Q ⟨O,R,q⟩=>⟨O,R,λvs H1 s1 r1=>by
  show spU X.K QV (vs++[]) H1 Q _;rw[Hn];exact⟨us,O,.val u,(R.go s1).dom,r1,h,λv H2 s2 r2=>q v H2 (s1.trans s2) r2⟩⟩
theorem b_(F:aZ X.prog X.w X.K X.mg X.base CX n f fd pn (spU X.K QV))(hr:eL n X.A)(hg:Gl X nm)(hm:X.mg nm=some (.ref f))(hk:H_ X.K (.ref f)=true)(hb:dB X.K fd pn [])(hx:iT CX X E0)
  (ha:EvA X H0 O0 ps (e::es) us) (h:QV us (.new xs)) (RL:(nm==("__debug__":Str))=false:=by decide) (he:EO (e::es) X.env=(false,Io e X.env)::EO es X.env:=by rfl) (QY:(Ie pos (EO es X.env)).any (·.1)=false:=by rfl):
  EvN X H0 O0 ps (.Call (.Name nm p) (e::es) [] pos) xs:=
 PE.mono (mK F hr hg hm hk hb .nil hx ha RL he QY) λσ H Q ⟨O,R,q⟩=>⟨O,R,λvs H1 s1 r1=>by
  show spU X.K QV (vs++[]) H1 Q _;rw[Hn];exact⟨us,O,.new xs,(R.go s1).dom,r1,h,λa vs H2 s2 n2 h2 r2=>q a vs H2 (s1.trans s2) (s1.free n2) h2 r2⟩⟩
end
section
variable {P:E1}{w:Fz}{K:EC}{mg:Str→Option EG}{base:GS}{N pn:List Str}{Qy nm:Str}{Qr:Kk}{f:ES}{cd:EG}{A:FQ}{outer:List Env}{s:EE}{ps:PSt}
def gq(N:List Str)(us:List U):PSt:=us.map (λu=>some (.val u))++OM (N.length-us.length) none
theorem a9{st:HL}{fd:G9}{k:Nat}{QV:List U->Out->Prop}(F:Fun K nm Qy st f fd)(S:au N pn (aj st))(len:∀us o,QV us o->us.length=pn.length)
  (Q2:∀(QA:EG) (A:FQ) (outer:List Env) (s:EE) (H:Hp) (E:XK) (O:List ES) (us:List U) (o:Out),eL k (A.deeper (L7 Qy (aj st) s.heap.objs.size f QA))->QV us o->
   Ws (nV (CXF P w) P w K mg base N Qy (aj st) f QA A outer s H E) H O E (bn st) ⟨λ_=>o=.val .non,λo'=>o'=o,λ_=>False,λ_=>False⟩ (gq N us)):aZ P w K mg base (CXF P w) (k+1) f fd pn (spU K QV):=by
 refine F.okF S (λvs H Q E h=>?_) λQA A outer s H vs Q E hr h=>?_
 ·obtain⟨us,O,o,_,r,RR,_⟩:=h;rw[r.len];exact len us o RR
 ·obtain⟨us,O,o,d,r,RR,q⟩:=h;refine⟨_,Q2 QA A outer s H E O us o hr RR,⟨λps σ H' O' R e=>?_,λ_ _ _ _ _ e=>e.elim,λ_ _ _ _ _ e=>e.elim,λo' e=>by subst e;exact q⟩,O,?_⟩
  ·subst e;exact q .non H' R.same .non
  ·refine⟨.refl H,λa h=>h,λa h=>.inl h,d,?_,λi sl e=>?_,λi j xs ys a e1 e2 _ _=>?_⟩
   ·unfold start gq;rw[EY,EY,Ex,Ex,HR,HR,r.len]
   ·unfold gq at e;by_cases hi:i<us.length
    ·rw[E6 (by simpa using hi),EI,Ey hi]at e
     cases e;obtain⟨v,h1,h2⟩:=r.get (Ey hi);refine⟨v,?_,h2⟩;unfold start;rw[E6 (by simpa [r.len] using hi),EI,h1];rfl
    ·rw[E7 (by simpa using hi),HB]at e
     split at e <;>cases e
   ·exfalso
    unfold gq at e1;by_cases hi:i<us.length
    ·rw[E6 (by simpa using hi),EI,Ey hi]at e1
     cases e1
    ·rw[E7 (by simpa using hi),HB]at e1
     split at e1 <;>cases e1
end
section
variable {X:Cx}{ps:PSt}{a b c:Expr}{rest:List Expr}{p p2:Pos}{x y:U}{i j:Int}{k m:Bool}{lo hi:Option Expr}{l h:Option Int}
def EvO(X:Cx)(H0:Hp)(O0:List ES)(ps:PSt)(e:Option Expr)(n:Option Int):Prop:=PO X e λσ H Q=>∃O,Rs X.K H0 O0 ps σ H O/\∀H',aI H H'->Q n H'
theorem iH:EvO X H0 O0 ps none none:=λpins s σ H Q I ⟨O,R,q⟩=>AM pins s σ H Q I (q H (.refl H))
theorem gf(he:Ev X H0 O0 ps e (.int i)):EvO X H0 O0 ps (some e) (some i):=λpins s σ H Q I ⟨O,R,q⟩=>Af he pins s σ H Q I ⟨O,R,λv H' s r=>by cases r;exact⟨i,rfl,q H' s⟩⟩
def g7(xs:List U)(lo hi:Option Int):List U:=(xs.drop (HT.sIx xs.length 0 lo)).take (HT.sIx xs.length xs.length hi-HT.sIx xs.length 0 lo)
theorem Rps.drop{K:EC}{H:Hp}{vs:List V}{xs:List U}(r:Rps K H vs xs)(n:Nat):Rps K H (vs.drop n) (xs.drop n):=⟨by simp[r.len],λi v x h1 h2=>r.at_ _ v x (by rwa [HU]at h1) (by rwa [HU]at h2)⟩
theorem Rps.take{K:EC}{H:Hp}{vs:List V}{xs:List U}(r:Rps K H vs xs)(n:Nat):Rps K H (vs.take n) (xs.take n):=⟨by simp[r.len],λi v x h1 h2=>by
 by_cases hn:i<n
 ·rw[G0 hn]at h1 h2;exact r.at_ i v x h1 h2
 ·rw[List.getElem?_take_eq_none (by lia)]at h1
  cases h1⟩
theorem Rps.cut{K:EC}{H:Hp}{vs:List V}{xs:List U}(r:Rps K H vs xs):Rps K H (uX vs l h) (g7 xs l h):=by
 unfold uX g7;rw[r.len];exact (r.drop _).take _
theorem fG(he:Ev X H0 O0 ps e x)(hl:EvO X H0 O0 ps lo l)(hh:EvO X H0 O0 ps hi h)(hx:x=.lst xs\/x=.scr xs):EvN X H0 O0 ps (.Subscript e (.Slice lo hi none p2) pos) (g7 xs l h):=
 PE.mono (yI Ak he hl hh) λσ H Q ⟨O,R,q⟩=>⟨O,R,λv H1 s1 r1=>⟨O,R.go s1,λH2 s2=>⟨O,R.go (s1.trans s2),λH3 s3=>by
  have key:∃a vs,v=.ref a/\SqL X.K (hid H1 O) a vs/\Rps X.K (hid H1 O) vs xs:=by
   rcases hx with rfl |rfl
   ·cases r1 with
    |lst hq hl hh=>exact⟨_,_,rfl,SqL.of hq,hl,hh⟩
   ·cases r1 with
    |scr hq hl hh=>exact⟨_,_,rfl,hq,hl,hh⟩
  obtain⟨a,vs,rfl,hq,rs⟩:=key;have s13:=s2.trans s3;refine⟨a,vs,rfl,s13.seq (ao.seq hq),λp hp=>q p _ _ ((s1.trans s13).trans (aL hp _)) ((s1.trans s13).free hp) aJ ?_⟩
  exact (rs.cut.same (aT s13)).same (bu (aL hp _) hp)⟩⟩⟩
theorem l5(ha:Ev X H0 O0 ps a (.lst xs))(hb:Ev X H0 O0 ps b (.lst ys))(hz:xs.length+ys.length<=sizeLine):EvN X H0 O0 ps (.BinOp a .Add b pos) (xs++ys):=
 PE.mono (tZ CG ha hb) λσ H Q ⟨O,R,q⟩=>two R (λ_ _ _ z=>z) (λ_ _ _ z=>z) λv w H' s _ r1 r2=>by
  cases r1 with
  |lst hq hl hh=>
   cases r2 with
   |lst QJ QG hh'=>
    refine⟨_,_,_,_,rfl,rfl,ao _ _ hq,ao _ _ QJ,by rw[hl,QG];exact hz,λp hp=>q p _ _ (s.trans (aL hp _)) (s.free hp) aJ ?_⟩
    exact (Rps.snoc ⟨hl,hh⟩ ⟨QG,hh'⟩).same (bu (aL hp _) hp)
def fl:U->V
 | .bl b=>.bl b | .int i=>.int i | .str x=>.str x |_=>.non
def xX:U->Bool
 | .bl _=>true | .int _=>true | .str _=>true | .non=>true |_=>false
theorem Bq{K:EC}{H:Hp}{v:V}{u:U}(h:Rp K H v u)(f:xX u=true):v=fl u/\gH v=true:=by
 cases h <;>first |exact⟨rfl,rfl⟩ |simp[xX]at f
theorem yr{K:EC}{H:Hp}:∀{vs:List V}{xs:List U},Rps K H vs xs->xs.all xX=true->vs=xs.map fl/\vs.all gH=true
 |vs,[],r,_=>by rw[r.nil_inv];exact⟨rfl,rfl⟩
 |vs,x::xs,r,f=>by
  obtain⟨v,ws,rfl,h1,h2⟩:=r.cons_inv;simp only[Km,GI]at f;obtain⟨e1,e2⟩:=Bq h1 f.1;obtain⟨e3,e4⟩:=yr h2 f.2;refine⟨by rw[Fh,<-e1,<-e3],?_⟩
  simp only[Km,GI];exact⟨e2,e4⟩
theorem El(hx:xX x=true)(hy:y.items=some ys)(hf:ys.all xX=true):OpS X (GQ .In) x y (.bl (inV (fl x) (ys.map fl))):=by
 intro pins s σ H v w p q Q I r1 r2 h;obtain⟨k1,k2,k3⟩:=h;obtain⟨a,vs,rfl,h1,h2⟩:=ox k2 hy;obtain⟨e1,e2⟩:=Bq k1 hx;obtain⟨e3,e4⟩:=yr h2 hf;exact vG pins s σ H v _ p q Q I r1 r2 ⟨a,vs,rfl,h1,e2,e4,by rw[e1,e3];exact k3⟩
theorem DA{bs:List Bool}(hc:X.calm=true):dr X (.builtin "all") [.lst (bs.map U.bl)] (.bl (bs.all id)):=by
 intro pins s σ H vs us Q I r hq;obtain⟨O,d,rs,q⟩:=hq;obtain⟨v,rfl,h1⟩:=bQ rs;obtain⟨p1,rfl,r1⟩:=c9 r;cases h1 with
 | @lst a ws _ hq hl hh=>
  cases r1;obtain⟨Qs,rv,pl,_⟩:=I.list (SqL.of (ao _ _ hq));have Qz:Qs.length=bs.length:=by rw[<-rv.length,hl,Ex]
  have RN:∀(i:Nat) (z:EG),Qs.toArray[i]?=some z->z=.bool (bs.getD i false):=λi z e=>by
   have hi:i<Qs.length:=by have:=aw (show Qs[i]?=some z by simpa using e);exact this
   have hb:i<bs.length:=by lia
   have hw:i<ws.length:=by rw[rv.length];exact hi
   obtain⟨u,e1,e2⟩:=rv.get (Ey hw);have e3:=hh i ws[i] (.bl bs[i]) (Ey hw) (by rw[EI,Ey hb];rfl)
   have e4:Qs[i]?=some z:=by simpa using e
   rw[e4]at e1;cases e1;generalize ws[i]=wi at *;cases e3;rw[E4,Ey hb];exact e2
  refine call_all_walk (GZ pl.isList ?_);have Qv:a≠s.heap.objs.size:=by obtain⟨o,e,_⟩:=pl.isList;exact Fe (EN e)
  refine⟨s.heap.objs.size,_,_,_,_,_,λi=>bs.getD i false,rfl,Walks.list (A:=X.A.in1) (I.ok.hd hc) s.heap.objs.size a Qv Qs.toArray,⟨⟨_,EM _ rfl,rfl,rfl⟩,pl.isList.push _⟩,λi z s' Q' E' hP hQ=>?_,λh' tk hk=>?_⟩
  ·rw[RN i z hP];exact Hf hQ
  ·have e:(Fw Qs.toArray.size).all (λi=>bs.getD i false)=bs.all id:=by
    rw[EU,Qz,Hm,me,Kd];constructor
    ·intro h x hx;obtain⟨i,hi,rfl⟩:=Ir hx;have:=h i hi
     rwa [E4,Ey hi]at this
    ·intro h j hj;rw[E4,Ey hj];exact h _ (Jk hj)
   rw[e];refine⟨.bl _,H,I.kept (t':=tk) λb o e=>hk b o ?_ (EA _ e),rfl,q _ H (.refl H) (.bl _)⟩
   intro z;have:b=s.heap.objs.size:=by simpa using z
   exact absurd (EN e) (by rw[this];exact Fl _)
end
def uz(J:It)(is:List Nat)(g:TG)(tt:TT)(te:TE)(σ:St)(H1:Hp)(l:ES)(Q:VK):Prop:=
 ∃W:Nat->Nat->Hp->Prop,(∃m,W 0 m (upd H1 l (.lst [])))/\∀i m H2,W i m H2->
  (J.stop i H2/\Q (.ref l) H2)\/(J.go i H2/\∀x H3,J.yld i H2 x H3->g x (mask is σ) H3 λS3 H4=>tt S3 H4 λb H5=>
   (∀(j:Nat) (v:V),(mask is σ)[j]?=some (some v)->S3[j]?=some (some v))/\
   if b=true then te S3 H5 λy H6=>∃vs,H6 l=some (.lst vs)/\vs.length<sizeLine/\∃m',m'<m/\W (i+1) m' (upd H6 l (.lst (vs++[y]))) else ∃m',m'<m/\W (i+1) m' H5)
def yP(is:List Nat)(g:TG)(tt:TT)(te:TE)(σ:St)(Q:VK)(J:It)(H1:Hp):Prop:=∀l,H1 l=none->uz J is g tt te σ H1 l Q
def qY(is:List Nat)(wi:TI)(g:TG)(tt:TT)(te:TE):TE:=λσ H Q=>wi σ H (yP is g tt te σ Q)
section
variable {X:Cx}{σ:St}{s:EE}
theorem lX{Q7 iter tg:Expr}{Qr:Kk}{cl:List (Str×ES)}{pos pos0:Pos}{is:List Nat}{wi:TI}{g:TG}{tt:TT}{te:TE}{cond:Expr}{use:Option (EG->Sem Unit)}{Q0:VK}{Q:EG->EE->Prop}(hc:X.calm=true)(B:dm X Qr cl is)
  (hi:PI X tg iter wi) (hg:∀C s H fp,PG (aD X Qr cl C s H fp) tg g) (ht:∀C s H fp,PT (aD X Qr cl C s H fp) cond tt) (he:∀C s H fp,PE (aD X Qr cl C s H fp) Q7 te) (hs:∀x,Gm iter X.env x=pure x)
  (I:Inv X pins σ H s) (h:qY is wi g tt te σ H Q0)
  (QN:∀(l C:ES) (H':Hp) (s':EE) (m:Str->Option EG),Inv X pins σ H' s'->s'.heap.Ns C m->H' C=none->C≠X.env.locals->C ∉ X.fs->X.s₀.heap.objs.size<=C->(∀x c,X.env.cells.lookup x=some c->c≠C)->(∀p∈X.pn++pins,p.1≠C)->Q0 (.ref l) H'->
   Pq (Fm X.prog X.w) X.A X.xe use Q (.ref l) C (.ok .next) s'):
  E2 (Fm X.prog X.w) X.A (Ng (.ListComp Q7 [⟨tg,iter,[cond],0⟩] Qr pos) Qr X.env pos0 (newList []) false (Io iter X.env) use) Q X.xe s:=by
 refine Li rfl hs B.clos B.kind B.names (thn (hi pins s σ H _ I h) λxv s1 h1=>thn h1 λitv s2 h2=>?_)
 obtain⟨it,fp,tn,J,H2,e,I2,T,st2,f2,R⟩:=h2;subst e;refine FZ (MK B.cell (by intro y hy;simp at hy) (λh₁ hns Rt=>?_) B.kind)
 have hl:H2 s2.heap.objs.size=none:=I2.hok.fresh (EL _);obtain⟨W,⟨m0,w0⟩,turn⟩:=R s2.heap.objs.size hl
 have I3:Inv X pins σ (upd H2 s2.heap.objs.size (.lst [])) {s2 with heap:=s2.heap.push {cls:=.type "list",dict:=none,data:=.seq ([]:List EG).toArray } }:=
  I2.laid (t':=s2.toks) (o:=.lst []) (λb u e=>EA _ e) (EL _) ⟨FH _,[],0,.nil,EM _ rfl⟩
 have hfl:∀b∈fp,b<s2.heap.objs.size:=λb hb=>let ⟨o,e,_⟩:=T.obj 0 _ st2 b hb;EN e
 have f3:∀b∈fp,ko X pins (upd H2 s2.heap.objs.size (.lst [])) b:=λb hb=>⟨by rw[a_ (Fe (hfl b hb))];exact (f2 b hb).1,(f2 b hb).2⟩
 have kp:∀b o,(s2.heap.push {cls:=.type "list",dict:=none,data:=.seq ([]:List EG).toArray }).get? b=some o→h₁.get? b=some o:=λb o e=>
  Rt.extBut b o (Fe (EN e)) (EA _ e)
 have st4:tn 0 h₁:=T.keep 0 _ _ st2 λb _ o e=>kp b o (EA _ e)
 have hfl3:∀b∈fp,b<(s2.heap.push {cls:=.type "list",dict:=none,data:=.seq ([]:List EG).toArray }).objs.size:=λb hb=>by
  rw[Ga];exact GL (hfl b hb)
 have I4:=i8 (t':=s2.toks+([]:List (Str×EG)).length) I3 B f3 hfl3 hns kp
 have loop:IK (Fm X.prog X.w) X.A (.compLoop (.ListComp Q7 [⟨tg,iter,[cond],0⟩] Qr pos) 0 (.ref it) (.ref s2.heap.objs.size) (ME Qr cl (s2.heap.push {cls:=.type "list",dict:=none,data:=.seq ([]:List EG).toArray }).objs.size X.env))
   (Pq (Fm X.prog X.w) X.A X.xe use Q (.ref s2.heap.objs.size) (s2.heap.push {cls:=.type "list",dict:=none,data:=.seq ([]:List EG).toArray }).objs.size)
   {s2 with heap:=h₁,toks:=s2.toks+([]:List (Str×EG)).length }:=by
  generalize hs3:({s2 with heap:=s2.heap.push {cls:=.type "list",dict:=none,data:=.seq ([]:List EG).toArray } }:EE)=s3 at *
  have hC:(s2.heap.push {cls:=.type "list",dict:=none,data:=.seq ([]:List EG).toArray }).objs.size=s3.heap.objs.size:=by rw[←hs3]
  rw[hC]
  have RA:∀{H':Hp},(∀b∈fp,H' b=none)->∀b∈fp,ko (aD X Qr cl s3.heap.objs.size s3 (upd H2 s2.heap.objs.size (.lst [])) fp) [] H' b:=λhn b hb=>
   ⟨hn b hb,(I4.ok.exf b hb).1,I4.ok.exfs b hb,.inl hb,λx c e=>(I4.ok.exf b hb).2 x c e,λp hp=>absurd (show p∈([]:List (ES×Obj)) from hp) (by simp)⟩
  have back:∀{QC:St}{H':Hp}{pp:List (ES×Obj)}{s':EE},Inv (aD X Qr cl s3.heap.objs.size s3 (upd H2 s2.heap.objs.size (.lst [])) fp) pp QC H' s'->Inv X pins σ H' s':=λI'=>
   I3.call' (ch:=fp) I'.os I'.base I'.hok I'.bare λb hb=>⟨(f3 b hb).2.2.2.1,(f3 b hb).2.1,(f3 b hb).2.2.2.2.1,(f3 b hb).2.2.2.2.2⟩
  refine codeAny_loop rfl (λn s'=>∃i H',Inv (aD X Qr cl s3.heap.objs.size s3 (upd H2 s2.heap.objs.size (.lst [])) fp) [] (mask is σ) H' s'/\tn i s'.heap/\(∀b∈fp,H' b=none)/\W i n H') ?_ m0 ⟨0,_,(by subst hs3;exact I4),st4,λb hb=>(f3 b hb).1,w0⟩
  rintro n s5 ⟨i,H5,I5,TM,fr5,w5⟩;show E2 _ _ ((compTurn (.ListComp Q7 [⟨tg,iter,[cond],0⟩] Qr pos) 0 (.ref it) (.ref s2.heap.objs.size) (ME Qr cl s3.heap.objs.size X.env)).onRaise (λx=>do noteFrame x (ME Qr cl s3.heap.objs.size X.env);Og x)) _ _ s5
  refine wpAny_noted ?_;rw[compTurn_list];refine Ew (Lz (Ew ?_));rcases turn i n H5 w5 with ⟨stop,q⟩ |⟨go,step⟩
  ·refine thn (T.done (aD X Qr cl s3.heap.objs.size s3 (upd H2 s2.heap.objs.size (.lst [])) fp) rfl rfl rfl hc i [] s5 _ H5 _ I5 (RA fr5) TM stop) λr s6 ⟨hr,I6⟩=>?_
   subst hr;refine Ez ?_;obtain⟨m6,hn6,_⟩:=I6.loc;have hCn:∀b,b<s3.heap.objs.size->b≠s3.heap.objs.size:=λb hb=>Fe hb
   refine QN _ s3.heap.objs.size H5 s6 m6 (back I6) hn6 I6.free (Js I3.lt) (I3.nofs (EL _)) I3.sz (λx c e=>?_) (λp hp=>?_) q
   ·obtain⟨v,z⟩:=I3.cell x c e;exact Fe z.lt
   ·exact Fe (EN (I3.pin p hp).1)
  ·refine thn (T.item (aD X Qr cl s3.heap.objs.size s3 (upd H2 s2.heap.objs.size (.lst [])) fp) rfl rfl rfl hc i [] s5 _ H5 _ I5 (RA fr5) TM go) λr s6 ⟨u,hr,h6⟩=>?_
   subst hr;refine Ew (thn h6 λ_ s7 ⟨x,H7,I7,r7,y7,st7,fr7⟩=>?_)
   have I7':=I7.pinned (RA fr7) (T.obj _ _ st7);refine Ew (He (hg _ _ _ _ _ s7 (mask is σ) H7 x u _ I7' r7 (step x H7 y7)) (λ_ s8 ⟨σ8,H8,I8,q8⟩=>?_) λ_ _ z=>z.elim)
   refine Ew (wpAny_tests_one (He (ht _ _ _ _ _ s8 σ8 H8 _ I8 q8) (λbb s9 ⟨H9,I9,sub,q9⟩=>?_) λ_ _ z=>z.elim))
   have fpn:∀{H':Hp}{s':EE}{QC:St},Inv (aD X Qr cl s3.heap.objs.size s3 (upd H2 s2.heap.objs.size (.lst [])) fp) ([]++kJ fp s7.heap) QC H' s'->tn (i+1) s'.heap/\∀b∈fp,H' b=none:=λ{H' s' QC} J=>⟨T.keep _ _ _ st7 λb hb o e=>(J.pin (b,o) (EW _ (EW _ (di hb e)))).1,λb hb=>by
    obtain⟨o,e,d⟩:=T.obj _ _ st7 b hb;exact (J.pin (b,o) (EW _ (EW _ (di hb e)))).2.1⟩
   cases bb with
   |true=>
    rw[if_pos rfl]at q9;simp only[if_true];refine Ew (Ew (He (he _ _ _ _ _ s9 σ8 H9 _ I9 q9) (λv s10 ⟨y,H10,I10,r10,vs,hl10,hz,m',hm,w'⟩=>?_) λ_ _ z=>z.elim))
    refine Ew (He (iM (X:=aD X Qr cl s3.heap.objs.size s3 (upd H2 s2.heap.objs.size (.lst [])) fp) _ s10 σ8 H10 (.ref s2.heap.objs.size) [y] (.ref s2.heap.objs.size) [v] (λ_ H'=>H'=upd H10 s2.heap.objs.size (.lst (vs++[y]))) I10 rfl (.cons r10 .nil) ⟨_,vs,y,rfl,rfl,hl10,hz,rfl⟩) (λz s11 ⟨zv,H11,I11,_,e11⟩=>?_) λ_ _ z=>z.elim)
    subst e11;obtain⟨k1,k2⟩:=fpn I11;exact Ez (Ez ⟨rfl,m',hm,i+1,_,(I11.unpinned (pins:=[])).weak (by rw[I11.len,fo,I.len]) sub,k1,k2,w'⟩)
   |false=>
    rw[if_neg (by decide)]at q9
    simp only[EK,if_false];obtain⟨m',hm,w'⟩:=q9;obtain⟨k1,k2⟩:=fpn I9
    first
     |exact Ez ⟨rfl,m',hm,i+1,_,(I9.unpinned (pins:=[])).weak (by rw[I9.len,fo,I.len]) sub,k1,k2,w'⟩
     |exact Ew (Ez (Ez ⟨rfl,m',hm,i+1,_,(I9.unpinned (pins:=[])).weak (by rw[I9.len,fo,I.len]) sub,k1,k2,w'⟩))
 exact LS loop (T.self X.A 0 _ _ _ st4 loop)
theorem wg{Q7 iter tg:Expr}{Qr:Kk}{cl:List (Str×ES)}{pos:Pos}{is:List Nat}{wi:TI}{g:TG}{tt:TT}{te:TE}{cond:Expr}(hc:X.calm=true)(B:dm X Qr cl is)
  (hi:PI X tg iter wi) (hg:∀C s H fp,PG (aD X Qr cl C s H fp) tg g) (ht:∀C s H fp,PT (aD X Qr cl C s H fp) cond tt) (he:∀C s H fp,PE (aD X Qr cl C s H fp) Q7 te) (hs:∀x,Gm iter X.env x=pure x:=by intro _;rfl):
  PE X (.ListComp Q7 [⟨tg,iter,[cond],0⟩] Qr pos) (qY is wi g tt te):=by
 intro pins s σ H Q I h;rw[eval_ListComp];refine lX (use:=none) hc B hi hg ht he hs I h λl C H' s' m I' hn h1 h2 h3 h4 h5 h6 q=>⟨m,hn,λh' Rt=>?_⟩
 exact⟨.ref l,H',I'.turned (t':=s'.toks) (λb o hb e=>Rt.extBut b o hb e) h1 (Ne.symm h2.symm) (.inr h4) h5 h6,rfl,q⟩
theorem oF{Q7 iter tg:Expr}{Qr:Kk}{cl:List (Str×ES)}{pos SD py:Pos}{y:Str}{j:Nat}{is:List Nat}{wi:TI}{g:TG}{tt:TT}{te:TE}{cond:Expr}(hc:X.calm=true)(hN:X.N.Nodup)(hj:X.N[j]?=some y)(hy:Loc X.env.scope y)(B:dm X Qr cl is)
  (hi:PI X tg iter wi) (hg:∀C s H fp,PG (aD X Qr cl C s H fp) tg g) (ht:∀C s H fp,PT (aD X Qr cl C s H fp) cond tt) (he:∀C s H fp,PE (aD X Qr cl C s H fp) Q7 te) (hs:∀x,Gm iter X.env x=pure x:=by intro _;rfl)
  (hsw:HQ (.ListComp Q7 [⟨tg,iter,[cond],0⟩] Qr pos) (some (.Name y py)) SD.line X.env=pure true:=by rfl) (hf:X.fn y=true\/X.env.scope.names.lookup y=some .local:=by first |exact .inl rfl |exact .inr rfl |assumption):
  PS X (.Assign [.Name y py] (.ListComp Q7 [⟨tg,iter,[cond],0⟩] Qr pos) SD) (CB (qY is wi g tt te) (oV j)):=by
 intro pins s σ H D I h;rw[exec_Assign_Name_used _ _ _ _ hsw];refine Ew (Lz (Ew ?_));show E2 _ X.A (do let _ <-Ng (.ListComp Q7 [⟨tg,iter,[cond],0⟩] Qr pos) Qr X.env _ (newList []) false (Io iter X.env) (some (OZ (.Name y py) X.env))) _ _ s
 refine Ew (He (lX (Q0:=λv H'=>D.nx (σ.set j (some v)) H') (use:=some (OZ (.Name y py) X.env)) (Q:=λ_ s'=>SP X pins D .next s') hc B hi hg ht he hs I h λl C H' s' m I' hn h1 h2 h3 h4 h5 h6 q=>?_) (λ_ s' hq=>Ez (Ez hq)) λ_ _ e=>e)
 show E2 _ X.A (OZ (.Name y py) X.env (.ref l)) _ _ _;refine Nx (lQ I' hN hj hy (v:=.ref l) rfl (λs2 I2 ⟨a,Rt,ha⟩=>?_) hf)
 have hCa:C≠a:=by
  rcases ha with e |e
  ·rw[e];exact h2
  ·exact Ne.symm (h5 _ _ e)
 refine⟨m,hn.sameBut Rt hCa,λh' S5=>⟨_,H',I2.turned (t':=s2.toks) (λb o hb e=>S5.extBut b o hb e) h1 h2 (.inr h4) h5 h6,q⟩⟩
variable {ps:PSt}{cond:Expr}{p:Pos}{fs:List (Option U)}
theorem jV{is:List Nat}{g:TG}{f:PSt->U->PSt}{dom:U->Prop}{σ:St}{H1:Hp}{O:List ES}{Q:VK}{J:It}{tt:TT}{te:TE}(hg:GOk g X.K is f dom)(R1:Rs X.K H0 O0 ps σ H1 O)(Y:Yl X.K J (hid H1 O) xs)(Qz:fs.length=xs.length)(hz:xs.length<=sizeLine)(RM:∀x∈xs,dom x)
  (htt:∀(i:Nat) (x:U) (o:Option U) (σ:St) (H:Hp) (O':List ES) (Q:Bool->Hp->Prop),xs[i]?=some x->fs[i]?=some o->Rs X.K H0 O0 (f (d_ is ps) x) σ H O'->(∀H',aI H H'->Q o.isSome H')->tt σ H Q)
  (TV:∀(i:Nat) (x y:U) (σ:St) (H:Hp) (O':List ES) (Q:VK),xs[i]?=some x->fs[i]?=some (some y)->Rs X.K H0 O0 (f (d_ is ps) x) σ H O'->(∀v H',aI H H'->Rp X.K (hid H' O') v y->Q v H')->te σ H Q)
  (QN:∀a vs H',aI H1 H'->H1 a=none->H' a=some (.lst vs)->Rps X.K (hid H' (a::O)) vs (fs.filterMap id)->Q (.ref a) H'):yP is g tt te σ Q J H1:=by
 intro l hl;refine⟨λi m H2=>m=xs.length-i/\i<=xs.length/\aI H1 H2/\∃vs,H2 l=some (.lst vs)/\vs.length<=i/\Rps X.K (hid H2 (l::O)) vs ((fs.take i).filterMap id),⟨_,rfl,FH _,aL hl _,[],aJ,EL _,by rw[MX];exact .nil⟩,?_⟩
 rintro i m H2 ⟨rfl,hi,s2,vs,h2,hv,rs⟩;have seen:aI (hid H1 O) (hid H2 (l::O)):=bu s2 hl;obtain⟨y1,y2⟩:=Y H2 (seen.trans ao);by_cases Qx:i<xs.length
 ·obtain⟨g1,g2⟩:=y1 i Qx;refine .inr ⟨g1,λx H3 y=>?_⟩
  obtain⟨rfl,u,hu,r⟩:=g2 x H3 y;have R2:=(R1.mask (is:=is)).hide s2 hl (by rw[h2];intro z;cases z)
  refine hg H0 O0 _ _ H3 (l::O) x u _ (RM u (EV hu)) R2 (r.same seen) λS3 R4 keep=>?_
  obtain⟨o,ho⟩:∃o,fs[i]?=some o:=⟨_,Ey (by lia)⟩
  refine htt i u o S3 H3 (l::O) _ hu ho R4 λH5 s5=>⟨λj w e=>keep j w (hW is σ j w e).2 e,?_⟩
  cases o with
  |none=>
   refine uZ ⟨xs.length-(i+1),by lia,rfl,Qx,s2.trans s5,vs,s5 _ _ h2,by lia,?_⟩
   rw[GJ,ho,KI,L9];simpa using rs.same (aT s5)
  |some yv=>
   refine u7 (TV i u yv S3 H5 (l::O) _ hu ho (R4.go s5) λv H6 s6 r6=>⟨vs,s6 _ _ (s5 _ _ h2),?_,xs.length-(i+1),by lia,rfl,Qx,((s2.trans s5).trans s6).put hl _,vs++[v],aJ,by simp;lia,?_⟩)
   ·lia
   ·rw[jp EF,GJ,ho,KI,L9];exact ((rs.same (aT s5)).same (aT s6)).snoc (.cons r6 .nil)
 ·have e:i=xs.length:=by lia
  subst e;rw[<-Qz,Gd]at rs;exact .inl ⟨y2,QN l vs H2 s2 hl h2 rs⟩
theorem zV{Q7:Expr}{Qr:Kk}{cl:List (Str×ES)}{is:List Nat}{g:TG}{f:PSt->U->PSt}{dom:U->Prop}(fs:List (Option U))(hc:X.calm=true)(B:dm X Qr cl is)(hi:EvI X H0 O0 ps tg iter xs)(hg:∀C s H fp,PG (aD X Qr cl C s H fp) tg g)(gk:GOk g X.K is f dom)
  (Qz:fs.length=xs.length) (hz:xs.length<=sizeLine) (RM:∀x∈xs,dom x) (ht:∀C s H fp (i:Nat) (x:U) (o:Option U),xs[i]?=some x->fs[i]?=some o->Tt (aD X Qr cl C s H fp) H0 O0 (f (d_ is ps) x) cond o.isSome)
  (he:∀C s H fp (i:Nat) (x y:U),xs[i]?=some x->fs[i]?=some (some y)->Ev (aD X Qr cl C s H fp) H0 O0 (f (d_ is ps) x) Q7 y)
  (hs:∀x,Gm iter X.env x=pure x:=by intro _;rfl):EvN X H0 O0 ps (.ListComp Q7 [⟨tg,iter,[cond],0⟩] Qr pos) (fs.filterMap id):=by
 have TV:∀C s H fp,PE (aD X Qr cl C s H fp) Q7 λσ H Q=>∃i x y,xs[i]?=some x/\fs[i]?=some (some y)/\∃O',Rs X.K H0 O0 (f (d_ is ps) x) σ H O'/\∀v H',aI H H'->Rp X.K (hid H' O') v y->Q v H':=
  λC s H fp pins s' σ H' Q I ⟨i,x,y,h1,h2,z⟩=>he C s H fp i x y h1 h2 pins s' σ H' Q I z
 have htt:∀C s H fp,PT (aD X Qr cl C s H fp) cond λσ H Q=>∃(i:Nat) (x:U) (o:Option U),xs[i]?=some x/\fs[i]?=some o/\∃O',Rs X.K H0 O0 (f (d_ is ps) x) σ H O'/\∀H',aI H H'->Q o.isSome H':=
  λC s H fp pins s' σ H' Q I ⟨i,x,o,h1,h2,z⟩=>ht C s H fp i x o h1 h2 pins s' σ H' Q I z
 refine PE.mono (wg hc B hi hg htt TV hs) λσ H Q ⟨O,R,q⟩=>⟨O,R,λJ H1 s1 Y=>?_⟩
 exact jV gk (R.go s1) Y Qz hz RM (λi x o σ H O' Q h1 h2 R' z=>⟨i,x,o,h1,h2,O',R',z⟩) (λi x y σ H O' Q h1 h2 R' z=>⟨i,x,y,h1,h2,O',R',z⟩) λa vs H' s n h r=>q a vs H' (s1.trans s) (s1.free n) h r
end
theorem Ws.nox{X:Cx}{H0:Hp}{O0:List ES}{E:XK}{ss:List HL}{D:PD}{ps:PSt}(h:Ws X.nox H0 O0 E ss D ps):Ws X H0 O0 E ss D ps:=PSs.nox h
theorem aZ.calm{P:E1}{w:Fz}{K:EC}{mg:Str->Option EG}{base:GS}{k:Nat}{f:ES}{fd:G9}{ps:List Str}{sp:Sp}(F:aZ P w K mg base (CXF P w) k f fd ps sp)(h:∀vs H Q E,sp vs H Q E->sp vs H Q E0):aZ P w K mg base CX0 k f fd ps sp:=by
 refine⟨F.len,λA outer s H args us vs Q E hr he hb hv hs=>IL (F.run A outer s H args us vs Q E0 hr he hb hv (h _ _ _ _ hs)) λr s' q=>?_⟩
 cases r with
 |ok fl=>
  cases fl with
  |ret u=>exact q
  |next=>exact q
  |brk=>exact q
  |cont=>exact q
 |error e=>
  obtain⟨_,_,_,_,_,_,_,_,_,_,_,_,_,_,_,hE⟩:=q;exact hE.elim
def g_:List U->Out->Prop:=λus o=>∃ns:List Int,us=[.scr (ns.map U.int)]/\ns.length<=63/\(∀m∈ns,Sz 1048576 m)/\o=.val (.bl true)
theorem wK{K:EC}(vs:List V)(H:Hp)(Q:VK)(E:XK)(h:spU K g_ vs H Q E):spU K g_ vs H Q E0:=by
 obtain⟨us,O,o,d,r,⟨ns,h1,h2,h3,rfl⟩,q⟩:=h;exact⟨us,O,_,d,r,⟨ns,h1,h2,h3,rfl⟩,q⟩
theorem uJ{K:EC}{H:Hp}{a:ES}{ns:List Int}{E:XK}(h1:ns.length<=63)(h2:∀m∈ns,Sz 1048576 m)(h3:SqL K H a (ns.map V.int)):spU K g_ [.ref a] H (λv _=>v=.bl true) E:=by
 refine⟨[.scr (ns.map U.int)],[],.val (.bl true),λa ha=>(nomatch ha),.cons ?_ .nil,⟨ns,rfl,h1,h2,rfl⟩,λv H' s r=>by cases r;rfl⟩
 have e:hid H []=H:=by funext b;unfold hid;rw[if_neg (by simp)]
 rw[e];refine .scr h3 (by simp) λi v x e1 e2=>?_
 rw[EI]at e1 e2;cases q:ns[i]? with
 |none=>rw[q]at e1;cases e1
 |some n=>rw[q]at e1 e2;cases e1;cases e2;exact .int n
theorem fL{k:Nat}{A:FQ}(hr:eL k A):A.units+10<GU:=by have:=hr.un;lia
theorem xw{ns:List Int}{k:Int}(h0:0<=k)(h:k<(ns.length:Int)):atI (ns.map U.int) k=some (.int (ns.getD k.toNat 0)):=by
 have hk:k.toNat<ns.length:=by lia
 have q:atI (ns.map U.int) ((k.toNat:Nat):Int)=some (.int (ns.getD k.toNat 0)):=tw (by rw[EI,E4,Ey hk] <;>rfl)
 rwa [show ((k.toNat:Nat):Int)=k by lia]at q
theorem Ag{ns:List Int}(h:∀m∈ns,Sz 1048576 m)(i:Nat):Sz 1048576 (ns.getD i 0):=by
 by_cases hk:i<ns.length
 ·rw[E4,Ey hk,HN];exact h _ (Jk hk)
 ·rw[E4,Fo (by lia),LL];exact Sz.mono (m:=8) (by decide) (by decide)
abbrev pt(x y:Int):U:=.tup [.int x,.int y]
theorem dTb{p:Prop}[Decidable p](h:decide p=true):p:=of_decide_eq_true h
theorem dFb{p:Prop}[Decidable p](h:decide p=false):¬ p:=of_decide_eq_false h
theorem nTb{p:Prop}[Decidable p](h:(!decide p)=true):¬ p:=by simpa using h
theorem nFb{p:Prop}[Decidable p](h:(!decide p)=false):p:=by simpa using h
theorem vB{a b:Bool}(h:a=b):Out.val (.bl a)=Out.val (.bl b):=by rw[h]
theorem vIO{a b:Int}(h:a=b):Out.val (.int a)=Out.val (.int b):=by rw[h]
mutual
theorem wI:∀(n:Nat) (u:U),okU n u=true->eqW u u=true
 |_,.non,_=>rfl
 |_,.bl b,_=>by simp[eqW]
 |_,.int b,_=>by simp[eqW]
 |_,.str b,_=>by simp[eqW]
 |_,.ty _,h=>by simp[okU]at h
 |_,.dic,h=>by simp[okU]at h
 |0,.tup _,h=>by simp[okU]at h
 |0,.lst _,h=>by simp[okU]at h
 |0,.scr _,h=>by simp[okU]at h
 |n+1,.tup xs,h=>by rw[eqW];rw[okU]at h;exact eqWs_refl n xs h
 |n+1,.lst xs,h=>by rw[eqW];rw[okU]at h;exact eqWs_refl n xs h
 |n+1,.scr xs,h=>by rw[eqW];rw[okU]at h;exact eqWs_refl n xs h
theorem eqWs_refl:∀(n:Nat) (xs:List U),okUs n xs=true->eqWs xs xs=true
 |_,[],_=>rfl
 |n,x::xs,h=>by
  simp only[okUs,GI]at h;simp only[eqWs,GI];exact⟨wI n x h.1,eqWs_refl n xs h.2⟩
end
theorem zf{α:Type}{n:Nat}{f:α->U}{l:List α}(h:∀a∈l,okU n (f a)=true):okUs n (l.map f)=true:=by
 induction l with
 |nil=>rfl
 |cons a l ih=>
  rw[Fh,okUs,GI];exact⟨h a EF,ih λb hb=>h b (EB _ hb)⟩
theorem qd{α:Type}{n:Nat}{f:α->U}{l:List α}(h:∀a,okU n (f a)=true):okU (n+1) (.lst (l.map f))=true:=by rw[okU];exact zf λa _=>h a
theorem qk{α:Type}{f:α->U}{p:α->α->Prop}[DecidableEq α](hf:∀a b,eqW (f a) (f b)=decide (a=b)):∀(l m:List α),eqWs (l.map f) (m.map f)=decide (l=m)
 |[],[]=>rfl
 |[],_::_=>rfl
 |_::_,[]=>rfl
 |a::l,b::m=>by
  rw[Fh,Fh,eqWs,hf,qk (p:=p) hf l m,Hm];simp
section
variable {X:Cx}{ps:PSt}{a b c:Expr}{rest:List Expr}{k:Bool}
theorem gG{tb fb:List HL}(hc:Tt X H0 O0 ps c k)(hk:k=true)(h:Ws X H0 O0 E tb D ps):W1 X H0 O0 E (.If c tb fb pos) D ps:=lh hc (λ_=>h) (λe=>by rw[hk]at e;cases e)
theorem ce{tb fb:List HL}(hc:Tt X H0 O0 ps c k)(hk:k=false)(h:Ws X H0 O0 E fb D ps):W1 X H0 O0 E (.If c tb fb pos) D ps:=lh hc (λe=>by rw[hk]at e;cases e) (λ_=>h)
theorem iO(ha:Tt X H0 O0 ps a k)(hk:k=false):Tw X H0 O0 ps (.BoolOp .And (a::b::rest) pos) false:=by
 subst hk;exact pH (m:=true) ha λh=>by cases h
end
section
variable {X:Cx}{ps:PSt}{c:Expr}{α:Type}
theorem TgS.sub{p p':PSt}{u:U}{QO:PSt}(h:TgS X H0 O0 tg p u QO)(hs:SubP p p'):TgS X H0 O0 tg p' u QO:=PG.mono h λv σ H Q ⟨O,R,r,q⟩=>⟨O,R.sub hs,r,q⟩
theorem Tt.sub{p p':PSt}{e:Expr}{k:Bool}(h:Tt X H0 O0 p e k)(hs:SubP p p'):Tt X H0 O0 p' e k:=PT.mono h λσ H Q ⟨O,R,q⟩=>⟨O,R.sub hs,q⟩
theorem dN(st:α->PSt)(Q:Nat->α->Prop)(hc:X.calm=true)(hp:Ld (Fm X.prog X.w) X.A X.env X.xe)(hi:EvI X H0 O0 ps tg iter xs)(h0:∃a,Q 0 a/\SubP (st a) ps)
  (hs:∀(H0:Hp) (i:Nat) (x:U) (a:α),xs[i]?=some x->Q i a->∃QO,TgS X H0 O0 tg (st a) x QO/\Ws X H0 O0 E QP {D with nx:=λp=>∃b,Q (i+1) b/\SubP (st b) p,ct:=λp=>∃b,Q (i+1) b/\SubP (st b) p,bk:=D.nx } QO)
  (hd:∀a ps,Q xs.length a->SubP (st a) ps->D.nx ps) (hf:∀x,Gm iter X.env x=pure x:=by intro _;rfl):W1 X H0 O0 E (.For tg iter QP [] pos) D ps:=
 Dv hc hp hi (λi ps=>∃a,Q i a/\SubP (st a) ps) h0 (λH0 i x ps hx ⟨a,q,sb⟩=>by
  obtain⟨QO,t,w⟩:=hs H0 i x a hx q;exact⟨QO,t.sub sb,w⟩) (λps ⟨a,q,sb⟩=>hd a ps q sb) hf
theorem ix(st:α->PSt)(Q:Nat->α->Prop)(hp:Ld (Fm X.prog X.w) X.A X.env X.xe)(h0:∃m a,Q m a/\SubP (st a) ps)
  (hs:∀m a,Q m a->∃b,Tt X H0 O0 (st a) c b/\(b=true->Ws X H0 O0 E QP {D with nx:=λp=>∃m' a',m'<m/\Q m' a'/\SubP (st a') p,ct:=λp=>∃m' a',m'<m/\Q m' a'/\SubP (st a') p,bk:=D.nx } (st a))/\(b=false->∀ps,SubP (st a) ps->D.nx ps)):W1 X H0 O0 E (.While c QP [] pos) D ps:=by
 obtain⟨m,a,q,sb⟩:=h0;refine Ah hp (λm ps=>∃a,Q m a/\SubP (st a) ps) m ⟨a,q,sb⟩ λm ps ⟨a,q,sb⟩=>?_
 obtain⟨b,t,h1,h2⟩:=hs m a q;refine⟨b,t.sub sb,λe=>?_,λe=>h2 e ps sb⟩
 refine c8 (PSs.mono (h1 e) λD' σ H ⟨L,O,R⟩=>⟨⟨λp σ H O R ⟨m',a',l,q',sb'⟩=>L.nx p σ H O R ⟨m',l,a',q',sb'⟩,L.bk,λp σ H O R ⟨m',a',l,q',sb'⟩=>L.ct p σ H O R ⟨m',l,a',q',sb'⟩,L.rt⟩,O,R⟩) sb
end
abbrev P2:=Int×Int
abbrev pu(p:P2):U:=.tup [.int p.1,.int p.2]
abbrev lp(l:List P2):U:=.lst (l.map pu)
theorem B_(p q:P2):eqW (pu p) (pu q)=decide (p=q):=by
 obtain⟨a,b⟩:=p;obtain⟨c,d⟩:=q;simp only[pu,eqW,eqWs,Nh];rw[Hm];simp
theorem Cu(l m:List P2):eqW (lp l) (lp m)=decide (l=m):=by rw[lp,lp,eqW];exact qk (p:=λ_ _=>True) B_ l m
theorem um(l:List P2):okU 9 (lp l)=true:=qd λ_=>rfl
theorem kn{l:List P2}{i:Nat}{x:U}(h:(l.map pu)[i]?=some x):∃p,l[i]?=some p/\p∈l/\x=pu p:=by
 rw[EI]at h;cases q:l[i]? with
 |none=>rw[q]at h;cases h
 |some p=>rw[q]at h;cases h;exact⟨p,rfl,EV q,rfl⟩
theorem hV{α:Type}{l:List α}{f:α->U}{g:α->U}{i:Nat}{x y:U}(hx:(l.map f)[i]?=some x)(hy:(l.map g)[i]?=some y):∃a,l[i]?=some a/\a∈l/\x=f a/\y=g a:=by
 rw[EI]at hx hy;cases q:l[i]? with
 |none=>rw[q]at hx;cases hx
 |some p=>rw[q]at hx hy;cases hx;cases hy;exact⟨p,rfl,EV q,rfl,rfl⟩
theorem SubP.rfl':∀(p:PSt),SubP p p
 |[]=>trivial
 |none::p=>SubP.rfl' p
 |some s::p=>⟨rfl,SubP.rfl' p⟩
theorem W1.mono{X:Cx}{H0:Hp}{O0:List ES}{E:XK}{s:HL}{D:PD}{J:PSt->Prop}{ps:PSt}(h:W1 X H0 O0 E s {D with nx:=J } ps)(m:∀ps,J ps->D.nx ps):W1 X H0 O0 E s D ps:=
 PS.mono h λD' σ H ⟨L,O,R⟩=>⟨⟨λp σ H O R q=>L.nx p σ H O R (m p q),L.bk,L.ct,L.rt⟩,O,R⟩
theorem gW{X:Cx}{H0:Hp}{O0:List ES}{E:XK}{s:HL}{ss:List HL}{D:PD}{ps:PSt}(J:PSt->Prop)(h1:W1 X H0 O0 E s {D with nx:=J } ps)(h2:∀ps,J ps->Ws X H0 O0 E ss D ps):Ws X H0 O0 E (s::ss) D ps:=
 af (W1.mono (J:=J) (D:={D with nx:=λp=>Ws X H0 O0 E ss D p }) h1 h2)
end L2
namespace L2
open PySem PySem.Spec PySem.W PyProof.Rows
section
variable {X:Cx}
def ot.drop(D:ot)(i:Nat):ot:=⟨λσ H=>D.nx (σ.set i none) H,D.rt,λσ H=>D.bk (σ.set i none) H,λσ H=>D.ct (σ.set i none) H⟩
variable {H0:Hp}{O0:List ES}{E:XK}{ps:PSt}{D:PD}{a e:Expr}{es:List Expr}{us:List U}{k:Bool}{n:Nat}{fd:G9}{pn:List Str}{QV:List U→Out→Prop}
def PD.drop(D:PD)(i:Nat):PD:=⟨λp=>D.nx (p.set i none),D.rt,λp=>D.bk (p.set i none),λp=>D.ct (p.set i none)⟩
end
end L2
namespace L2
open PySem
theorem dj{c:Const}{j:Nat}{pos:Pos}{es:List Expr}{env:Env}:EO (.Constant c j pos::es) env=(false,Io (.Constant c j pos) env)::EO es env:=by rw[EO];intro e p h;cases h
theorem rJ{l:List Expr}{j:Nat}{pos:Pos}{es:List Expr}{env:Env}:EO (.Tuple l j pos::es) env=(false,Io (.Tuple l j pos) env)::EO es env:=by rw[EO];intro e p h;cases h
theorem BB{l:List Expr}{pos:Pos}{es:List Expr}{env:Env}:EO (.List l pos::es) env=(false,Io (.List l pos) env)::EO es env:=by rw[EO];intro e p h;cases h
theorem jA{o:UnaryOp}{a:Expr}{pos:Pos}{es:List Expr}{env:Env}:EO (.UnaryOp o a pos::es) env=(false,Io (.UnaryOp o a pos) env)::EO es env:=by rw[EO];intro e p h;cases h
theorem bK{a b:Expr}{o:Pk}{pos:Pos}{es:List Expr}{env:Env}:EO (.BinOp a o b pos::es) env=(false,Io (.BinOp a o b pos) env)::EO es env:=by rw[EO];intro e p h;cases h
theorem ah{x:Str}{pos:Pos}{es:List Expr}{env:Env}:EO (.Name x pos::es) env=(false,Io (.Name x pos) env)::EO es env:=by rw[EO];intro e p h;cases h
theorem bh{a b:Expr}{pos:Pos}{es:List Expr}{env:Env}:EO (.Subscript a b pos::es) env=(false,Io (.Subscript a b pos) env)::EO es env:=by rw[EO];intro e p h;cases h
theorem aQ{f:Expr}{a:List Expr}{k:List KY}{pos:Pos}{es:List Expr}{env:Env}:EO (.Call f a k pos::es) env=(false,Io (.Call f a k pos) env)::EO es env:=by rw[EO];intro e p h;cases h
theorem rq{a:Expr}{o:List Qa}{c:List Expr}{pos:Pos}{es:List Expr}{env:Env}:EO (.Compare a o c pos::es) env=(false,Io (.Compare a o c pos) env)::EO es env:=by rw[EO];intro e p h;cases h
theorem fH{e:Expr}{g:List Comprehension}{sc:Kk}{pos:Pos}{es:List Expr}{env:Env}:EO (.ListComp e g sc pos::es) env=(false,Io (.ListComp e g sc pos) env)::EO es env:=by rw[EO];intro e p h;cases h
structure EvS(X:Cx)(H0:Hp)(O0:List ES)(ps:PSt)(es:List Expr)(us:List U):Prop where
 a:EvA X H0 O0 ps es us
section
variable {X:Cx}{H0:Hp}{O0:List ES}{ps:PSt}{e:Expr}{es:List Expr}{u:U}{us:List U}{pos:Pos}
theorem bi:EvS X H0 O0 ps [] []:=⟨ak⟩
theorem ax(ha:Ev X H0 O0 ps e u)(hr:EvS X H0 O0 ps es us)(hs:EO (e::es) X.env=(false,Io e X.env)::EO es X.env):EvS X H0 O0 ps (e::es) (u::us):=⟨ae ha hr.a hs⟩
theorem b8{x1}(h:EvS X H0 O0 ps es us)(hz:us.length<=sizeLine:=by first |decide | (simp only[E9,IQ];decide)):Ev X H0 O0 ps (.Tuple es x1 pos) (.tup us):=Dc h.a hz
theorem b9(h:EvS X H0 O0 ps es us)(hz:us.length<=sizeLine:=by first |decide | (simp only[E9,IQ];decide)):EvN X H0 O0 ps (.List es pos) us:=C5 h.a hz
end
end L2
namespace ST
open PySem PySem.SetTable
def Ris(xs:Array Nat):Prop:=∀(i j x y:Nat),i<j->xs[i]?=some x->xs[j]?=some y->x<y
theorem Ris.inj{xs:Array Nat}(h:Ris xs){i j x:Nat}(h1:xs[i]?=some x)(h2:xs[j]?=some x):i=j:=by
 rcases Hg i j with z |z |z
 ·exact absurd (h i j x x z h1 h2) (Fl _)
 ·exact z
 ·exact absurd (h j i x x z h2 h1) (Fl _)
theorem eN{xs:Array Nat}{i:Nat}(h:i<xs.size):xs[i]?=some xs[i]:=by simp[h]
theorem oM{xs:Array Nat}{i x:Nat}(h:xs[i]?=some x):i<xs.size:=(HM.mp h).1
theorem mY{xs:Array Nat}(R:Ris xs)(j:Nat):∀(QB lo hi:Nat),lo<=hi->hi<=xs.size->hi-lo<=QB->(∀(i x:Nat),i<lo->xs[i]?=some x->x<j)->(∀(i x:Nat),hi<=i->xs[i]?=some x->j<=x)->
  (∀(i x:Nat),i<below.go xs j QB lo hi->xs[i]?=some x->x<j)/\(∀(i x:Nat),below.go xs j QB lo hi<=i->xs[i]?=some x->j<=x)/\below.go xs j QB lo hi<=xs.size
 |0,lo,hi,h1,h2,h3,h4,h5=>by
  have e:lo=hi:=by lia
  subst e;rw[below.go];exact⟨h4,h5,h2⟩
 |QB+1,lo,hi,h1,h2,h3,h4,h5=>by
  rw[below.go];by_cases Qx:lo<hi
  ·rw[if_pos Qx];have hm:(lo+hi)/2<xs.size:=by lia
   have e:xs.getD ((lo+hi)/2) j=xs[(lo+hi)/2]:=by simp[Hh,hm]
   simp only[e];split
   ·rename_i hl
    refine mY R j QB _ hi (by lia) h2 (by lia) (λi x QI hx=>?_) h5
    rcases Fg (show i<=(lo+hi)/2 by lia) with z |z
    ·exact J6 (R i _ x _ z hx (eN hm)) hl
    ·subst z;rw[eN hm]at hx;cases hx;exact hl
   ·rename_i hl
    refine mY R j QB lo _ (by lia) (by lia) (by lia) h4 (λi x QI hx=>?_)
    rcases Fg QI with z |z
    ·exact Gg (Jj hl) (F4 (R _ i _ x z (eN hm) hx))
    ·subst z;rw[eN hm]at hx;cases hx;exact Jj hl
  ·rw[if_neg Qx];have e:lo=hi:=by lia
   subst e;exact⟨h4,h5,h2⟩
theorem fJ{xs:Array Nat}(R:Ris xs)(j:Nat):(∀(i x:Nat),i<below xs j->xs[i]?=some x->x<j)/\(∀(i x:Nat),below xs j<=i->xs[i]?=some x->j<=x)/\below xs j<=xs.size:=
 mY R j xs.size 0 xs.size (FH _) (EL _) (by lia) (λi x h=>absurd h (Oi _)) (λi x h e=>absurd (oM e) (by lia))
theorem wM{xs:Array Nat}(R:Ris xs){i j:Nat}(h:xs[i]?=some j):below xs j=i:=by
 obtain⟨h1,h2,h3⟩:=fJ R j;rcases Hg (below xs j) i with z |z |z
 ·have hk:below xs j<xs.size:=J6 z (oM h);have:=h2 _ _ (EL _) (eN hk);have:=R _ _ _ _ z (eN hk) h;lia
 ·exact z
 ·have:=h1 i j z h;lia
theorem iK{t:SetTable}(R:Ris t.place){i j:Nat}(h:t.place[i]?=some j):t.slot j=.live i:=by
 unfold SetTable.slot;simp only[wM R h,h,beq_self_eq_true,if_true]
theorem vm{t:SetTable}(hd:t.dummies=#[]){j:Nat}(h:∀i:Nat,t.place[i]?≠some j):t.slot j=.empty:=by
 unfold SetTable.slot;have e:(t.place[below t.place j]?==some j)=false:=by simpa using h _
 simp only[e,hd];simp[SetTable.has]
theorem rC{t:SetTable}(R:Ris t.place)(hd:t.dummies=#[])(j:Nat):(t.slot j=.empty/\∀i:Nat,t.place[i]?≠some j)\/∃i:Nat,t.slot j=.live i/\t.place[i]?=some j:=by
 by_cases h:∃i:Nat,t.place[i]?=some j
 ·obtain⟨i,hi⟩:=h;exact .inr ⟨i,iK R hi,hi⟩
 ·exact .inl ⟨vm hd λi e=>h ⟨i,e⟩,λi e=>h ⟨i,e⟩⟩
theorem uK{xs:Array Nat}(R:Ris xs){mask:Nat}(hn:xs.size<=mask):∃s,s<=mask/\∀i:Nat,xs[i]?≠some s:=by
 apply FI;intro Rg
 have all:∀s,s<=mask->∃i:Nat,xs[i]?=some s:=λs hs=>by
  apply FI;intro h;exact Rg ⟨s,hs,λi e=>h ⟨i,e⟩⟩
 have key:∀s,s<=mask->∃i:Nat,xs[i]?=some s/\s<=i:=by
  intro s
  induction s with
  |zero=>intro h;obtain⟨i,hi⟩:=all 0 h;exact⟨i,hi,FH _⟩
  |succ s ih=>
   intro h;obtain⟨i,hi,Sy⟩:=ih (by lia)
   obtain⟨k,hk⟩:=all (s+1) h;refine⟨k,hk,?_⟩;rcases Hg i k with z |z |z
   ·lia
   ·subst z;rw[hi]at hk;cases hk
   ·have:=R k i _ _ z hk hi;lia
 obtain⟨i,hi,Sy⟩:=key mask (EL _);have:=oM hi;lia
def adv(mask:Nat)(p:Probe):Probe:=
 if p.more >0 then {p with j:=p.j+1,more:=p.more-1 } else
 {p with j:=(leap mask p.i p.perturb).1,more:=runEnd mask (leap mask p.i p.perturb).1-(leap mask p.i p.perturb).1,i:=(leap mask p.i p.perturb).1,perturb:=(leap mask p.i p.perturb).2 }
theorem jU(t:SetTable)(p:Probe):t.advance p=adv t.mask p:=by
 unfold SetTable.advance adv;split
 ·rfl
 ·rfl
def start(mask:Nat)(h:Int):Probe:={j:=bits h%(mask+1),more:=runEnd mask (bits h%(mask+1))-bits h%(mask+1),i:=bits h%(mask+1),perturb:=bits h,dummy:=none }
def pth(mask:Nat)(h:Int):Nat->Probe
 |0=>start mask h
 |n+1=>adv mask (pth mask h n)
def aR(mask:Nat)(h:Int):Nat->Nat×Nat
 |0=>(bits h%(mask+1),bits h)
 |r+1=>leap mask (aR mask h r).1 (aR mask h r).2
theorem jw{mask:Nat}:∀(m:Nat) (p:Probe) (f:Nat->Probe),f 0=p->(∀n,f (n+1)=adv mask (f n))->m<=p.more->f m={p with j:=p.j+m,more:=p.more-m }
 |0,p,f,h0,_,_=>by rw[h0];rfl
 |m+1,p,f,h0,hs,hm=>by
  rw[hs m,jw m p f h0 hs (by lia)]
  unfold adv;rw[if_pos (by show p.more-m >0;lia)]
  simp only[Probe.mk.injEq];exact⟨by lia,by lia,trivial,trivial,trivial⟩
theorem jZ(mask:Nat)(h:Int):∀n,(pth mask h n).dummy=none
 |0=>rfl
 |n+1=>by
  rw[pth];unfold adv;split
  ·exact jZ mask h n
  ·exact jZ mask h n
theorem vc(mask i:Nat):runEnd mask i-i<=9:=by unfold runEnd;split <;>lia
theorem tK(mask:Nat)(h:Int):∀r,∃n,n<=10*r/\pth mask h n={j:=(aR mask h r).1,more:=runEnd mask (aR mask h r).1-(aR mask h r).1,i:=(aR mask h r).1,perturb:=(aR mask h r).2,dummy:=none }
 |0=>⟨0,EL _,rfl⟩
 |r+1=>by
  obtain⟨n,hn,e⟩:=tK mask h r;have hL:=vc mask (aR mask h r).1;have step:=jw (mask:=mask) (runEnd mask (aR mask h r).1-(aR mask h r).1) (pth mask h n) (λm=>pth mask h (n+m)) rfl (λm=>rfl) (by rw[e];exact EL _)
  refine⟨n+(runEnd mask (aR mask h r).1-(aR mask h r).1)+1,by lia,?_⟩
  rw[pth];have RU:pth mask h (n+(runEnd mask (aR mask h r).1-(aR mask h r).1))=_:=step;rw[RU,e];unfold adv;rw[if_neg (by simp)]
  rfl
theorem AI(h:Int):bits h<2 ^ 64:=by
 unfold bits;have h1:=G_ h (show (2 ^ 64:Int)≠0 by decide)
 have h2:=GC h (show (0:Int)<2 ^ 64 by decide)
 lia
theorem mr(mask:Nat)(h:Int):∀r,(aR mask h r).2=bits h/32 ^ r
 |0=>by simp[aR]
 |r+1=>by
  rw[aR];show (aR mask h r).2/32=_;rw[mr mask h r,LU,HD]
theorem uQ(mask:Nat)(h:Int)(r:Nat)(hr:12<=r):(aR mask h r).2/32=0:=by
 rw[mr];have h1:=AI h;rw[LU];apply Nat.div_eq_of_lt;have:32 ^ 12*32<=32 ^ r*32:=MM _ (Jd (by decide) hr)
 exact Fu (Fu h1 (by decide)) this
def cK:Nat->Nat
 |0=>1
 |k+1=>cK k*(4*cK k+2)
theorem yo:∀k,∃m,cK k=2 ^ k*(2*m+1)
 |0=>⟨0,by simp[cK]⟩
 |k+1=>by
  obtain⟨m,e⟩:=yo k;refine⟨2*(cK k) *m+m+cK k,?_⟩;rw[cK,HD];have:cK k*(4*cK k+2)=2 ^ k*(2*m+1) *(4*cK k+2):=by rw[<-e]
  rw[this];generalize cK k=c;generalize 2 ^ k=p;grind
def gE:Nat->Nat->Nat
 |0,x=>x
 |n+1,x=>5*gE n x+1
theorem jJ(m x:Nat):∀n,gE (m+n) x=gE n (gE m x)
 |0=>rfl
 |n+1=>by rw[<-Nat.add_assoc,gE,jJ m x n,gE]
theorem jC:∀(k x:Nat),gE (2 ^ k) x=(1+4*cK k) *x+cK k
 |0,x=>by simp[gE,cK]
 |k+1,x=>by
  rw[HD,Nat.mul_two,jJ,jC k,jC k,cK];generalize cK k=c;grind
theorem qA(k x:Nat):gE (2 ^ k) x%2 ^ (k+1)=(x+2 ^ k)%2 ^ (k+1):=by
 rw[jC];obtain⟨m,e⟩:=yo k;rw[e]
 have:(1+4*(2 ^ k*(2*m+1))) *x+2 ^ k*(2*m+1)=(x+2 ^ k)+2 ^ (k+1) *(2*(2*m+1) *x+m):=by
  rw[HD];generalize 2 ^ k=p;grind
 rw[this,Nat.add_mul_mod_self_left]
theorem gZ(x:Nat):∀(k y:Nat),∃n,n<2 ^ k/\gE n x%2 ^ k=y%2 ^ k
 |0,y=>⟨0,by simp,by simp[Nat.mod_one]⟩
 |k+1,y=>by
  obtain⟨n,hn,e⟩:=gZ x k y;have hp:2 ^ (k+1)=2 ^ k+2 ^ k:=by rw[HD];lia
  have h2:0<2 ^ k:=Nat.pow_pos (by decide)
  by_cases h:gE n x%2 ^ (k+1)=y%2 ^ (k+1)
  ·exact⟨n,by lia,h⟩
  ·refine⟨n+2 ^ k,by lia,?_⟩
   rw[jJ,qA];generalize gE n x=z at *;have d1:z%2 ^ (k+1)%2 ^ k=z%2 ^ k:=Ni _ ⟨2,by rw[HD]⟩
   have d2:y%2 ^ (k+1)%2 ^ k=y%2 ^ k:=Ni _ ⟨2,by rw[HD]⟩
   have l1:=Ik z (show 0<2 ^ (k+1) by lia)
   have l2:=Ik y (show 0<2 ^ (k+1) by lia)
   rw[<-L_];rw[<-d1,<-d2]at e;generalize z%2 ^ (k+1)=a at *;generalize y%2 ^ (k+1)=b at *;rw[hp]at *;generalize 2 ^ k=p at *
   have ea:a%p=if a<p then a else a-p:=by
    split
    ·exact FN (by assumption)
    ·rw[KJ (by lia),FN (by lia)]
   have eb:b%p=if b<p then b else b-p:=by
    split
    ·exact FN (by assumption)
    ·rw[KJ (by lia),FN (by lia)]
   rw[ea,eb]at e;by_cases ha:a<p
   ·rw[if_pos ha]at e;rw[FN (by lia)]
    split at e <;>lia
   ·rw[if_neg ha]at e;rw[KJ (by lia),FN (by lia)]
    split at e <;>lia
theorem jL{mask k:Nat}(hk:mask+1=2 ^ k)(h:Int):∀q,(aR mask h (12+q)).1=gE q (aR mask h 12).1%2 ^ k
 |0=>by
  rw[gE]
  have:(aR mask h 12).1<2 ^ k:=by
   rw[<-hk];show (leap mask (aR mask h 11).1 (aR mask h 11).2).1<_;exact Ik _ (by lia)
  exact (FN this).symm
 |q+1=>by
  show (leap mask (aR mask h (12+q)).1 (aR mask h (12+q)).2).1=_;unfold leap;simp only[uQ mask h (12+q) (by lia)]
  rw[jL hk h q,hk,gE,PV,Nat.mul_comm 5 _];generalize gE q (aR mask h 12).1=z;generalize 2 ^ k=m;rw[Qf,Nat.mod_mul_mod,<-Qf]
theorem cover{mask k:Nat}(hk:mask+1=2 ^ k)(h:Int)(s:Nat)(hs:s<=mask):∃n,n<10*turns mask/\(pth mask h n).j=s:=by
 obtain⟨q,hq,e⟩:=gZ (aR mask h 12).1 k s;obtain⟨n,hn,en⟩:=tK mask h (12+q);refine⟨n,?_,?_⟩
 ·unfold turns;lia
 ·rw[en];show (aR mask h (12+q)).1=s;rw[jL hk h q,e];exact FN (by lia)
def Liv(t:SetTable)(j:Nat):Prop:=∃i:Nat,t.place[i]?=some j
structure TOk(t:SetTable)(hs:List Int):Prop where
 R:Ris t.place
 d:t.dummies=#[]
 k:∃k,3<=k/\t.mask+1=2 ^ k
 n:t.place.size=hs.length
 f:t.place.size<=t.mask
 le:∀(i x:Nat),t.place[i]?=some x->x<=t.mask
 reach:∀(i j:Nat) (h:Int),t.place[i]?=some j->hs[i]?=some h->∃m,(pth t.mask h m).j=j/\∀m',m'<m->Liv t (pth t.mask h m').j
theorem least{P:Nat->Prop}:∀n,P n->∃m,m<=n/\P m/\∀k,k<m->¬ P k:=by
 intro n
 induction n using Nat.strongRecOn with
 |_ n ih=>
  intro h;by_cases hk:∃k,k<n/\P k
  ·obtain⟨k,hk,hp⟩:=hk;obtain⟨m,h1,h2,h3⟩:=ih k hk hp;exact⟨m,by lia,h2,h3⟩
  ·exact⟨n,EL _,h,λk SE hp=>hk ⟨k,SE,hp⟩⟩
theorem ke{t:SetTable}{hs:List Int}(T:TOk t hs)(h:Int):∃N,N<10*turns t.mask/\¬ Liv t (pth t.mask h N).j/\∀m,m<N->Liv t (pth t.mask h m).j:=by
 obtain⟨s,hs1,hs2⟩:=uK T.R T.f;obtain⟨k,_,hk⟩:=T.k;obtain⟨n,hn,e⟩:=cover hk h s hs1;obtain⟨m,h1,h2,h3⟩:=least (P:=λn=>¬ Liv t (pth t.mask h n).j) n (by show ¬ Liv t (pth t.mask h n).j;rw[e];rintro ⟨i,hi⟩;exact hs2 i hi)
 exact⟨m,by lia,h2,λk SE=>FI λz=>h3 k SE z⟩
theorem ku{t:SetTable}{hs:List Int}(T:TOk t hs)(hashAt:Nat->Int)(h:Int){N:Nat}(h0:¬ Liv t (pth t.mask h N).j)(h1:∀m,m<N->Liv t (pth t.mask h m).j):∀(QB n:Nat),n<=N->N-n<QB->
  (probe.go t hashAt h QB (pth t.mask h n)=some (.empty (pth t.mask h N).j none)/\∀(m i:Nat),n<=m->m<N->t.place[i]?=some (pth t.mask h m).j->hashAt i≠h)\/
  ∃m i:Nat,n<=m/\m<N/\t.place[i]?=some (pth t.mask h m).j/\hashAt i=h/\probe.go t hashAt h QB (pth t.mask h n)=some (.candidate (pth t.mask h m).j i (pth t.mask h (m+1)))/\
   ∀(m' i':Nat),n<=m'->m'<m->t.place[i']?=some (pth t.mask h m').j->hashAt i'≠h
 |0,n,_,hf=>by lia
 |QB+1,n,hn,hf=>by
  rw[probe.go];rcases rC T.R T.d (pth t.mask h n).j with ⟨e,Rg⟩ |⟨i,e,hi⟩
  ·have hN:n=N:=by
    rcases Fg hn with z |z
    ·obtain⟨i,hi⟩:=h1 n z;exact absurd hi (Rg i)
    ·exact z
   subst hN;refine .inl ⟨by simp only[e,jZ],λm i z1 z2=>by lia⟩
  ·have hN:n<N:=by
    rcases Fg hn with z |z
    ·exact z
    ·subst z;exact absurd ⟨i,hi⟩ h0
   simp only[e];by_cases hh:hashAt i=h
   ·refine .inr ⟨n,i,EL _,hN,hi,hh,?_,λm' i' z1 z2=>by lia⟩
    simp only[hh,beq_self_eq_true,if_true,jU];rfl
   ·have hb:(hashAt i==h)=false:=by simpa using hh
    simp only[hb,EK,if_false,jU];have ih:=ku T hashAt h h0 h1 QB (n+1) (by lia) (by lia)
    rcases ih with ⟨q1,q2⟩ |⟨m,i2,q1,q2,q3,q4,q5,q6⟩
    ·refine .inl ⟨q1,λm i' z1 z2 z3=>?_⟩
     rcases Fg z1 with z |z
     ·exact q2 m i' z z2 z3
     ·subst z;rw[T.R.inj z3 hi];exact hh
    ·refine .inr ⟨m,i2,by lia,q2,q3,q4,q5,λm' i' z1 z2 z3=>?_⟩
     rcases Fg z1 with z |z
     ·exact q6 m' i' z z2 z3
     ·subst z;rw[T.R.inj z3 hi];exact hh
theorem pM{t:SetTable}{hs:List Int}(T:TOk t hs){h:Int}{N i:Nat}(h0:¬ Liv t (pth t.mask h N).j)(hi:hs[i]?=some h):∃(m j:Nat),m<N/\t.place[i]?=some j/\(pth t.mask h m).j=j:=by
 have Qx:i<t.place.size:=by rw[T.n];exact (ET.mp hi).1
 obtain⟨m,e,hm⟩:=T.reach i _ h (eN Qx) hi;refine⟨m,_,?_,eN Qx,e⟩;rcases Hg m N with z |z |z
 ·exact z
 ·subst z;exact absurd ⟨i,by rw[e];exact eN Qx⟩ h0
 ·exact absurd (hm N z) h0
theorem dl{α:Type}(xs:Array α)(p:Nat)(x:α):(insertAt xs p x).toList=xs.toList.take p++x::xs.toList.drop p:=by
 unfold insertAt;simp[Array.toList_extract];exact JH (by simp)
theorem cy{α:Type}{xs:Array α}{p:Nat}{x:α}(hp:p<=xs.size)(i:Nat):(insertAt xs p x)[i]?=if i<p then xs[i]? else if i=p then some x else xs[i-1]?:=by
 rw[<-Fy,dl];have hl:(xs.toList.take p).length=p:=by simp;lia
 by_cases h1:i<p
 ·rw[if_pos h1,E6 (by lia),G0 h1,Fy]
 ·rw[if_neg h1,E7 (by lia),hl]
  by_cases h2:i=p
  ·subst h2;simp
  ·rw[if_neg h2];obtain⟨q,hq⟩:∃q,i-p=q+1:=⟨i-p-1,by lia⟩
   rw[hq,Jz,HU,Fy];congr 1;lia
theorem gO{α:Type}(xs:Array α)(p:Nat)(x:α)(hp:p<=xs.size):(insertAt xs p x).size=xs.size+1:=by
 rw[<-ER,dl];simp;lia
def eM{α:Type}(xs:List α)(p:Nat)(x:α):List α:=xs.take p++x::xs.drop p
theorem wj{α:Type}{xs:List α}{p:Nat}{x:α}(hp:p<=xs.length)(i:Nat):(eM xs p x)[i]?=if i<p then xs[i]? else if i=p then some x else xs[i-1]?:=by
 unfold eM;have hl:(xs.take p).length=p:=by simp;lia
 by_cases h1:i<p
 ·rw[if_pos h1,E6 (by lia),G0 h1]
 ·rw[if_neg h1,E7 (by lia),hl]
  by_cases h2:i=p
  ·subst h2;simp
  ·rw[if_neg h2];obtain⟨q,hq⟩:∃q,i-p=q+1:=⟨i-p-1,by lia⟩
   rw[hq,Jz,HU];congr 1;lia
theorem zS{xs:Array Nat}(R:Ris xs){j:Nat}(Rg:∀i:Nat,xs[i]?≠some j):Ris (insertAt xs (below xs j) j):=by
 obtain⟨h1,h2,h3⟩:=fJ R j
 have gt:∀(i x:Nat),below xs j<=i->xs[i]?=some x->j<x:=λi x hi hx=>by
  rcases Fg (h2 i x hi hx) with z |z
  ·exact z
  ·subst z;exact absurd hx (Rg i)
 intro a b x y RB hx hy;rw[cy h3]at hx hy;by_cases a1:a<below xs j
 ·rw[if_pos a1]at hx;by_cases b1:b<below xs j
  ·rw[if_pos b1]at hy;exact R a b x y RB hx hy
  ·rw[if_neg b1]at hy;by_cases b2:b=below xs j
   ·rw[if_pos b2]at hy;cases hy;exact h1 a x a1 hx
   ·rw[if_neg b2]at hy;exact R a (b-1) x y (by lia) hx hy
 ·rw[if_neg a1]at hx;have b1:¬ b<below xs j:=by lia
  rw[if_neg b1]at hy;have b2:¬ b=below xs j:=by lia
  rw[if_neg b2]at hy;by_cases a2:a=below xs j
  ·rw[if_pos a2]at hx;cases hx;exact gt (b-1) y (by lia) hy
  ·rw[if_neg a2]at hx;exact R (a-1) (b-1) x y (by lia) hx hy
theorem uu{xs:Array Nat}{p j:Nat}(hp:p<=xs.size)(s:Nat):(∃i:Nat,(insertAt xs p j)[i]?=some s)↔s=j\/∃i:Nat,xs[i]?=some s:=by
 constructor
 ·rintro ⟨i,hi⟩;rw[cy hp]at hi;split at hi
  ·exact .inr ⟨i,hi⟩
  ·split at hi
   ·cases hi;exact .inl rfl
   ·exact .inr ⟨i-1,hi⟩
 ·rintro (rfl |⟨i,hi⟩)
  ·exact⟨p,by rw[cy hp,if_neg (Fl _),if_pos rfl]⟩
  ·by_cases h:i<p
   ·exact⟨i,by rw[cy hp,if_pos h];exact hi⟩
   ·exact⟨i+1,by rw[cy hp,if_neg (by lia),if_neg (by lia)];simpa using hi⟩
theorem TOk.put{t:SetTable}{hs:List Int}(T:TOk t hs){h:Int}{N:Nat}(h0:¬ Liv t (pth t.mask h N).j)(h1:∀m,m<N->Liv t (pth t.mask h m).j)(Sy:(pth t.mask h N).j<=t.mask)(hf:t.place.size+1<=t.mask):
  TOk (t.put (pth t.mask h N).j).1 (eM hs (t.put (pth t.mask h N).j).2 h):=by
 have Rg:∀i:Nat,t.place[i]?≠some (pth t.mask h N).j:=λi e=>h0 ⟨i,e⟩
 obtain⟨_,_,hb⟩:=fJ T.R (pth t.mask h N).j;have hbl:below t.place (pth t.mask h N).j<=hs.length:=by rw[<-T.n];exact hb
 have ed:(if SetTable.has t.dummies (pth t.mask h N).j then eraseAt t.dummies (below t.dummies (pth t.mask h N).j) else t.dummies)=#[]:=by
  rw[T.d];simp[SetTable.has]
 unfold SetTable.put;simp only[ed];refine⟨zS T.R Rg,rfl,T.k,?_,?_,λi x e=>?_,λi j hh e1 e2=>?_⟩
 ·show (insertAt _ _ _).size=(eM hs _ h).length;rw[gO _ _ _ hb,T.n];unfold eM;simp;lia
 ·show (insertAt _ _ _).size<=t.mask;rw[gO _ _ _ hb];exact hf
 ·rcases (uu hb x).mp ⟨i,e⟩ with z |⟨q,hq⟩
  ·rw[z];exact Sy
  ·exact T.le q x hq
 ·have liv:∀s,Liv t s->Liv {t with place:=insertAt t.place (below t.place (pth t.mask h N).j) (pth t.mask h N).j,dummies:=#[] } s:=λs z=>(uu hb s).mpr (.inr z)
  change (insertAt t.place _ _)[i]?=some j at e1
  rw[cy hb]at e1;rw[wj hbl]at e2;split at e1
  ·rename_i z
   rw[if_pos z]at e2;obtain⟨m,q1,q2⟩:=T.reach i j hh e1 e2;exact⟨m,q1,λm' hm=>liv _ (q2 m' hm)⟩
  ·rename_i z
   rw[if_neg z]at e2;split at e1
   ·rename_i z2
    rw[if_pos z2]at e2;cases e1;cases e2;exact⟨N,rfl,λm' hm=>liv _ (h1 m' hm)⟩
   ·rename_i z2
    rw[if_neg z2]at e2;obtain⟨m,q1,q2⟩:=T.reach (i-1) j hh e1 e2;exact⟨m,q1,λm' hm=>liv _ (q2 m' hm)⟩
theorem qy{mask:Nat}(h:Int):∀n,(pth mask h n).j+(pth mask h n).more<=mask
 |0=>by
  show bits h%(mask+1)+(runEnd mask (bits h%(mask+1))-bits h%(mask+1))<=mask;have:=Ik (bits h) (show 0<mask+1 by lia)
  unfold runEnd;split <;>lia
 |n+1=>by
  have ih:=qy (mask:=mask) h n;rw[pth];unfold adv;split
  ·simp only;lia
  ·show (leap mask _ _).1+(runEnd mask (leap mask _ _).1-(leap mask _ _).1)<=mask;have:(leap mask (pth mask h n).i (pth mask h n).perturb).1<mask+1:=Ik _ (by lia)
   unfold runEnd;split <;>lia
def OL(owner:Array (Option Nat))(j:Nat):Prop:=∃k:Nat,owner[j]?=some (some k)
def nr(mask:Nat)(h:Int):Nat->Nat
 |0=>0
 |r+1=>nr mask h r+(runEnd mask (aR mask h r).1-(aR mask h r).1)+1
theorem A8(mask:Nat)(h:Int):∀r,pth mask h (nr mask h r)={j:=(aR mask h r).1,more:=runEnd mask (aR mask h r).1-(aR mask h r).1,i:=(aR mask h r).1,perturb:=(aR mask h r).2,dummy:=none }
 |0=>rfl
 |r+1=>by
  have e:=A8 mask h r;have step:=jw (mask:=mask) (runEnd mask (aR mask h r).1-(aR mask h r).1) (pth mask h (nr mask h r)) (λm=>pth mask h (nr mask h r+m)) rfl (λm=>rfl) (by rw[e];exact EL _)
  have RU:pth mask h (nr mask h r+(runEnd mask (aR mask h r).1-(aR mask h r).1))=_:=step;rw[nr,pth,RU,e];unfold adv;rw[if_neg (by simp)]
  rfl
theorem rE(mask:Nat)(h:Int)(r k:Nat)(hk:k<=runEnd mask (aR mask h r).1-(aR mask h r).1):(pth mask h (nr mask h r+k)).j=(aR mask h r).1+k:=by
 have e:=A8 mask h r;have step:=jw (mask:=mask) k (pth mask h (nr mask h r)) (λm=>pth mask h (nr mask h r+m)) rfl (λm=>rfl) (by rw[e];exact hk)
 have RU:pth mask h (nr mask h r+k)=_:=step;rw[RU,e]
theorem vh(mask i:Nat):i<=runEnd mask i:=by unfold runEnd;split <;>lia
theorem An(mask:Nat)(h:Int):∀r,(aR mask h r).1<=mask
 |0=>Gn (Ik _ (by lia))
 |r+1=>Gn (Ik _ (by lia))
theorem o0{mask i:Nat}(h:i<=mask):runEnd mask i<=mask:=by unfold runEnd;split <;>lia
theorem tm{mask:Nat}{owner:Array (Option Nat)}(hsz:owner.size=mask+1)(h:Int):∀(QB r:Nat),(∃r',r<=r'/\r'<r+QB/\owner[(aR mask h r').1]?=some none)->(∀m,m<nr mask h r->OL owner (pth mask h m).j)->
  ∃N,layClean.free mask owner QB (aR mask h r).1 (aR mask h r).2=some (pth mask h N).j/\owner[(pth mask h N).j]?=some none/\∀m,m<N->OL owner (pth mask h m).j
 |0,r,⟨r',h1,h2,_⟩,_=>by lia
 |QB+1,r,hex,hl=>by
  rw[layClean.free];have hge:=vh mask (aR mask h r).1;have hmk:=o0 (An mask h r);have RZ:∀k,k<runEnd mask (aR mask h r).1+1-(aR mask h r).1->(aR mask h r).1+k<owner.size:=λk hk=>by lia
  cases hf:(Fw (runEnd mask (aR mask h r).1+1-(aR mask h r).1)).find? λk=>(owner.getD ((aR mask h r).1+k) (some 0)).isNone with
  |some k=>
   obtain⟨p1,p2,p3⟩:=List.find?_range_eq_some.mp hf;have hk:=E5.mp p2;have Qx:=RZ k hk
   have e1:owner[(aR mask h r).1+k]?=some none:=by
    have:owner.getD ((aR mask h r).1+k) (some 0)=owner[(aR mask h r).1+k]:=by simp[Hh,Qx]
    rw[this]at p1;have:owner[(aR mask h r).1+k]=none:=by simpa using p1
    simp[Qx,this]
   have ej:=rE mask h r k (by lia)
   refine⟨nr mask h r+k,by simp only[ej],by rw[ej];exact e1,λm hm=>?_⟩
   by_cases hm1:m<nr mask h r
   ·exact hl m hm1
   ·obtain⟨q,rfl⟩:∃q,m=nr mask h r+q:=⟨m-nr mask h r,by lia⟩
    have hq:=p3 q (by lia)
    have RV:=RZ q (by lia)
    rw[rE mask h r q (by lia)]
    have:owner.getD ((aR mask h r).1+q) (some 0)=owner[(aR mask h r).1+q]:=by simp[Hh,RV]
    rw[this]at hq;cases hv:owner[(aR mask h r).1+q] with
    |none=>rw[hv]at hq;simp at hq
    |some v=>exact⟨v,by simp[RV,hv]⟩
  |none=>
   have QH:∀q,q<runEnd mask (aR mask h r).1+1-(aR mask h r).1->OL owner ((aR mask h r).1+q):=λq hq=>by
    have:=List.find?_eq_none.mp hf q (E5.mpr hq);have RV:=RZ q hq;have e:owner.getD ((aR mask h r).1+q) (some 0)=owner[(aR mask h r).1+q]:=by simp[Hh,RV]
    rw[e]at this;cases hv:owner[(aR mask h r).1+q] with
    |none=>rw[hv]at this;simp at this
    |some v=>exact⟨v,by simp[RV,hv]⟩
   have next:=tm hsz h QB (r+1) (by
    obtain⟨r',h1,h2,h3⟩:=hex;refine⟨r',?_,by lia,h3⟩
    rcases Fg h1 with z |z
    ·exact z
    ·subst z;obtain⟨v,hv⟩:=QH 0 (by lia)
     rw[PV,h3]at hv;cases hv) (λm hm=>by
    by_cases hm1:m<nr mask h r
    ·exact hl m hm1
    ·obtain⟨q,rfl⟩:∃q,m=nr mask h r+q:=⟨m-nr mask h r,by lia⟩
     have hm2:nr mask h r+q<nr mask h r+(runEnd mask (aR mask h r).1-(aR mask h r).1)+1:=hm;rw[rE mask h r q (by lia)]
     exact QH q (by lia))
   exact next
structure OI(mask:Nat)(owner:Array (Option Nat))(hs:List Int):Prop where
 sz:owner.size=mask+1
 lt:∀(j k:Nat),owner[j]?=some (some k)->k<hs.length
 inj:∀(i j k:Nat),owner[i]?=some (some k)->owner[j]?=some (some k)->i=j
 all:∀k:Nat,k<hs.length->∃j:Nat,owner[j]?=some (some k)
 reach:∀(j k:Nat) (h:Int),owner[j]?=some (some k)->hs[k]?=some h->∃m,(pth mask h m).j=j/\∀m',m'<m->OL owner (pth mask h m').j
theorem OI.free{mask:Nat}{owner:Array (Option Nat)}{hs:List Int}(O:OI mask owner hs)(hn:hs.length<=mask):∃s,s<=mask/\owner[s]?=some none:=by
 apply FI;intro Rg
 have S6:∀s,s<=mask->OL owner s:=λs SU=>by
  have Qx:s<owner.size:=by rw[O.sz];lia
  cases e:owner[s] with
  |none=>exact absurd ⟨s,SU,by simp[Qx,e]⟩ Rg
  |some k=>exact⟨k,by simp[Qx,e]⟩
 have nd:((Fw (mask+1)).map λs=>(owner.getD s none).getD 0).Nodup:=by
  rw[Kx,FU];refine Lj ?_ (LV (n:=mask+1));intro a b ha hb RB e;obtain⟨k1,h1⟩:=S6 a (by have:=E5.mp ha;lia)
  obtain⟨k2,h2⟩:=S6 b (by have:=E5.mp hb;lia)
  have e1:(owner.getD a none).getD 0=k1:=by simp[GE,h1]
  have e2:(owner.getD b none).getD 0=k2:=by simp[GE,h2]
  rw[e1,e2]at e;subst e;have:=O.inj a b k1 h1 h2;lia
 have sub:((Fw (mask+1)).map λs=>(owner.getD s none).getD 0) ⊆ Fw hs.length:=by
  intro x hx;obtain⟨s,hs1,rfl⟩:=ED.mp hx;obtain⟨k1,h1⟩:=S6 s (by have:=E5.mp hs1;lia)
  have e1:(owner.getD s none).getD 0=k1:=by simp[GE,h1]
  rw[e1];exact E5.mpr (O.lt s k1 h1)
 have:=NR nd sub;simp at this;lia
theorem OI.step{mask k:Nat}(hk:mask+1=2 ^ k){owner:Array (Option Nat)}{hs:List Int}(O:OI mask owner hs)(hn:hs.length<=mask)(h:Int):
  ∃j,layClean.free mask owner (turns mask) (bits h%(mask+1)) (bits h)=some j/\OI mask (owner.setIfInBounds j (some hs.length)) (hs++[h]):=by
 obtain⟨s,hs1,hs2⟩:=O.free hn;obtain⟨q,hq,e⟩:=gZ (aR mask h 12).1 k s;have er:(aR mask h (12+q)).1=s:=by rw[jL hk h q,e];exact FN (by lia)
 obtain⟨N,f1,f2,f3⟩:=tm O.sz h (turns mask) 0 ⟨12+q,FH _,by unfold turns;lia,by rw[er];exact hs2⟩ (λm hm=>absurd hm (Oi _))
 refine⟨_,f1,?_⟩;generalize hj:(pth mask h N).j=j at *;have hjs:j<owner.size:=(HM.mp f2).1
 have get:∀i:Nat,(owner.setIfInBounds j (some hs.length))[i]?=if j=i then some (some hs.length) else owner[i]?:=λi=>by
  rw[Array.getElem?_setIfInBounds];split
  ·rename_i z;subst z;simp[hjs]
  ·rfl
 have liv:∀i,OL owner i->OL (owner.setIfInBounds j (some hs.length)) i:=λi ⟨v,hv⟩=>by
  refine⟨v,?_⟩;rw[get,if_neg (λz=>by subst z;rw[f2]at hv;cases hv)]
  exact hv
 refine⟨by simp[O.sz],λi v e=>?_,λa b v e1 e2=>?_,λv hv=>?_,λi v hh e1 e2=>?_⟩
 ·rw[get]at e;split at e
  ·cases e;simp
  ·have:=O.lt i v e;simp;lia
 ·rw[get]at e1 e2;split at e1 <;>split at e2
  ·lia
  ·cases e1;exact absurd (O.lt b _ e2) (Fl _)
  ·cases e2;exact absurd (O.lt a _ e1) (Fl _)
  ·exact O.inj a b v e1 e2
 ·simp at hv;rcases Fg (Gn hv) with z |z
  ·obtain⟨i,hi⟩:=O.all v z;refine⟨i,?_⟩;rw[get,if_neg (λy=>by subst y;rw[f2]at hi;cases hi)]
   exact hi
  ·subst z;exact⟨j,by rw[get,if_pos rfl]⟩
 ·rw[get]at e1;split at e1
  ·rename_i z
   cases e1;rw[E7 (EL _)]at e2;simp at e2;subst e2;exact⟨N,by rw[hj];exact z,λm hm=>liv _ (f3 m hm)⟩
  ·have hv:=O.lt i v e1;rw[E6 hv]at e2;obtain⟨m,q1,q2⟩:=O.reach i v hh e1 e2;exact⟨m,q1,λm' hm=>liv _ (q2 m' hm)⟩
theorem tO{mask k:Nat}(hk:mask+1=2 ^ k):∀(more done:List Int) (owner:Array (Option Nat)),OI mask owner done->done.length+more.length<=mask+1->∃S7,more.foldl (λacc h=>do
  let (owner,k) <-acc
  let j <-layClean.free mask owner (turns mask) (bits h%(mask+1)) (bits h)
  pure (owner.setIfInBounds j (some k),k+1)) (some (owner,done.length))=some (S7,done.length+more.length)/\OI mask S7 (done++more)
 |[],done,owner,O,_=>⟨owner,by simp,by simpa using O⟩
 |h::more,done,owner,O,hl=>by
  obtain⟨j,e,O2⟩:=O.step hk (by simp at hl;lia) h
  obtain⟨ow,e2,O3⟩:=tO hk more (done++[h]) _ O2 (by simp at hl |-;lia)
  refine⟨ow,?_,by simpa using O3⟩
  rw[Ho]
  have:(do
   let (owner,k) <-some (owner,done.length)
   let j <-layClean.free mask owner (turns mask) (bits h%(mask+1)) (bits h)
   pure (owner.setIfInBounds j (some k),k+1):Option (Array (Option Nat)×Nat))=some (owner.setIfInBounds j (some done.length),done.length+1):=by
   simp[e]
  rw[this];simp only[EY,L8]at e2;rw[e2];simp;lia
theorem p7{mask k:Nat}(hk:mask+1=2 ^ k){hs:Array Int}(hl:hs.size<=mask+1):∃owner,layClean mask hs=some owner/\OI mask owner hs.toList:=by
 have O0:OI mask (Array.replicate (mask+1) none) []:=⟨by simp,λj k e=>by simp[Ju]at e,λi j k e=>by simp[Ju]at e,λk h=>by simp at h,λj k h e=>by simp[Ju]at e⟩
 obtain⟨ow,e,O⟩:=tO hk hs.toList [] _ O0 (by simpa using hl)
 refine⟨ow,?_,by simpa using O⟩
 unfold layClean;rw[<-Array.foldl_toList];simp only[IQ]at e;rw[e];rfl
theorem pZ(n:Nat):∀(QB k:Nat),n<2 ^ (k+QB)->∃k',k<=k'/\sizeAbove.go n QB (2 ^ k)=2 ^ k'/\n<2 ^ k'/\(2 ^ k'<=2*n\/k'=k)
 |0,k,h=>⟨k,EL _,rfl,by simpa using h,.inr rfl⟩
 |QB+1,k,h=>by
  rw[sizeAbove.go];by_cases Sy:2 ^ k<=n
  ·rw[if_pos Sy,<-HD];obtain⟨k',h1,h2,h3,h4⟩:=pZ n QB (k+1) (by rw[show k+1+QB=k+(QB+1) by lia];exact h)
   refine⟨k',by lia,h2,h3,.inl ?_⟩
   rcases h4 with z |z
   ·exact z
   ·subst z;rw[HD];lia
  ·rw[if_neg Sy];exact⟨k,EL _,rfl,by lia,.inr rfl⟩
theorem above(n:Nat)(h:n<2 ^ 60):∃k,3<=k/\sizeAbove n=2 ^ k/\n<2 ^ k/\2 ^ k<=2*n+8:=by
 obtain⟨k,h1,h2,h3,h4⟩:=pZ n 64 3 (Fu h (Jd (by decide) (by decide)))
 refine⟨k,h1,h2,h3,?_⟩;rcases h4 with z |z
 ·lia
 ·subst z;lia
def dz(mask:Nat)(owner:Array (Option Nat)):List (Nat×Nat):=(Fw (mask+1)).filterMap λj=>(owner.getD j none).map (j,·)
theorem o3(owner:Array (Option Nat)):∀l:List Nat,(l.filterMap λj=>(owner.getD j none).map (j,·)).map (·.1)=l.filter λj=>(owner.getD j none).isSome
 |[]=>rfl
 |a::l=>by
  have ih:=o3 owner l;rw[HJ,NY];cases owner.getD a none with
  |none=>simpa using ih
  |some v=>simpa using ih
theorem eA{mask:Nat}{owner:Array (Option Nat)}(hsz:owner.size=mask+1)(j k:Nat):(j,k)∈dz mask owner↔owner[j]?=some (some k):=by
 unfold dz;rw[KG];constructor
 ·rintro ⟨a,ha,e⟩;have Qx:a<owner.size:=by rw[hsz];exact E5.mp ha
  cases hv:owner.getD a none with
  |none=>rw[hv]at e;cases e
  |some v=>
   rw[hv]at e;cases e;have:owner.getD j none=owner[j]:=by simp[Hh,Qx]
   rw[this]at hv;simp[Qx,hv]
 ·intro e;have Qx:=(HM.mp e).1;refine⟨j,E5.mpr (by lia),?_⟩
  rw[GE,e];rfl
theorem uS(mask:Nat)(owner:Array (Option Nat)):(dz mask owner).Pairwise λa b=>a.1<b.1:=by
 have:=(LV (n:=mask+1)).filter λj=>(owner.getD j none).isSome
 rw[<-o3 owner (Fw (mask+1)),FU]at this;exact this
theorem Co{l:List Nat}(h:l.Pairwise (· < ·)):Ris l.toArray:=by
 intro i j x y Ry hx hy;rw[IR]at hx hy;obtain⟨h1,e1⟩:=ET.mp hx;obtain⟨h2,e2⟩:=ET.mp hy;have:=FA.mp h i j h1 h2 Ry;rw[e1,e2]at this;exact this
theorem ue{mask k:Nat}(h3:3<=k)(hk:mask+1=2 ^ k){hs:Array Int}(hl:hs.size<=mask)(finger moves:Nat)(led plain:Bool):
  ∃t order,laid mask finger moves led plain hs=some (t,order)/\TOk t (order.toList.map λi=>hs.getD i 0)/\order.toList.Perm (Fw hs.size)/\t.mask=mask/\t.led=led/\t.plain=plain/\t.moves=moves:=by
 obtain⟨owner,e,O⟩:=p7 hk (hs:=hs) (by lia)
 have pr:=uS mask owner
 have nd:((dz mask owner).map (·.2)).Nodup:=by
  rw[Kx,FU];refine Lj ?_ pr;intro a b ha hb RB ee;have h1:=(eA O.sz a.1 a.2).mp ha;have h2:=(eA O.sz b.1 b.2).mp hb;rw[ee]at h1;have:=O.inj a.1 b.1 b.2 h1 h2;lia
 have perm:((dz mask owner).map (·.2)).Perm (Fw hs.size):=by
  refine (Gb nd Ke).mpr λx=>?_
  rw[ED,E5];constructor
  ·rintro ⟨⟨j,v⟩,hm,rfl⟩;have:=O.lt j v ((eA O.sz j v).mp hm);simpa using this
  ·intro hx;obtain⟨j,hj⟩:=O.all x (by simpa using hx)
   exact⟨(j,x),(eA O.sz j x).mpr hj,rfl⟩
 have len:(dz mask owner).length=hs.size:=by have:=perm.length_eq;simpa using this
 refine⟨_,_,by unfold laid;rw[e];rfl,⟨?_,rfl,⟨k,h3,hk⟩,?_,?_,λi x ee=>?_,λi j h e1 e2=>?_⟩,?_,rfl,rfl,rfl,rfl⟩
 ·show Ris ((dz mask owner).map (·.1)).toArray;exact Co (by rw[FU];exact pr)
 ·show ((dz mask owner).map (·.1)).toArray.size=_;simp[dz]
 ·show ((dz mask owner).map (·.1)).toArray.size<=mask;simp[len,hl]
 ·change ((dz mask owner).map (·.1)).toArray[i]?=some x at ee
  rw[IR,EI]at ee;cases q:(dz mask owner)[i]? with
  |none=>rw[q]at ee;cases ee
  |some p=>
   rw[q]at ee;cases ee;have:=(eA O.sz p.1 p.2).mp (EV q);have:=(HM.mp this).1;show p.1<=mask;have hz:=O.sz;lia
 ·change ((dz mask owner).map (·.1)).toArray[i]?=some j at e1
  change (((dz mask owner).map (·.2)).toArray.toList.map λi=>hs.getD i 0)[i]?=some h at e2
  rw[IR,EI]at e1;rw[EI,EI]at e2;cases q:(dz mask owner)[i]? with
  |none=>rw[q]at e1;cases e1
  |some p=>
   rw[q]at e1 e2;cases e1;have hp:=(eA O.sz p.1 p.2).mp (EV q);have Qx:=O.lt _ _ hp
   have e3:hs.toList[p.2]?=some h:=by
    have e4:hs.getD p.2 0=h:=by simpa using e2
    have:p.2<hs.size:=by simpa using Qx
    rw[<-e4];simp[Hh,this]
   obtain⟨m,q1,q2⟩:=O.reach _ _ h hp e3;refine⟨m,q1,λm' hm=>?_⟩
   obtain⟨v,hv⟩:=q2 m' hm;obtain⟨n,hn⟩:=FO.mp ((eA O.sz _ v).mpr hv);refine⟨n,?_⟩;show ((dz mask owner).map (·.1)).toArray[n]?=_;rw[IR,EI,hn];rfl
 ·show ((dz mask owner).map (·.2)).toArray.toList.Perm _;simpa using perm
variable {prog:E1}{E:EG→EE→Prop}
section
variable {w:Fz}{A:FQ}{s:EE}
abbrev TK(prog:E1)(w:Fz)(h:GS)(k:List Int)(b:ES):Prop:=IsTupleKey (Ka prog w) h k b
abbrev hsh(prog:E1)(w:Fz)(k:List Int):Int:=tupleKeyHash (Ka prog w) k
theorem TK.ints{h:GS}{k:List Int}{vs:List EG}(x:ItemsAre (Ka prog w) k vs):∀v∈vs,∃n t,v=.int n t:=by
 induction x with
 |nil=>intro v hv;simp at hv
 |cons h1 _ ih=>
  intro v hv;rcases EH.mp hv with rfl |hv
  ·obtain⟨t,rfl⟩:=JP h1;exact⟨_,t,rfl⟩
  ·exact ih v hv
theorem ofA_false{k:List Int}{a:ES}{Q:Bool->EE->Prop}(hk:TK prog w s.heap k a)(h:Q false s):E2 (Fm prog w) A (GM 8 (.ref a)) Q E s:=by
 have hT:=hk.typeIs;obtain⟨o,items,n,ho,_,hd,hi⟩:=hk;unfold GM;refine Ew (Jv hT ?_);dsimp only;rw[if_pos (by decide)]
 refine Ew (Ez ?_);simp only[FF,EK,if_false];refine Ew (F2 ho hd ?_);dsimp only;refine Ew ?_;rw[<-Gi];refine Gs _ (λrest r s'=>r.1=none/\s'=s/\∀v∈rest,∃n t,v=Fv n t) _ ?_ ?_ _ _ ⟨rfl,rfl,TK.ints (h:=s.heap) hi⟩
 ·rintro v rest r s' ⟨hr,rfl,QH⟩;obtain⟨n,t,rfl⟩:=QH v EF;have e:GM 7 (Fv n t)=pure false:=by unfold GM;rfl
  rw[e];refine Ew (Ez ?_);simp only[EK,if_false];exact Ez ⟨rfl,rfl,λu RC=>QH u (EB _ RC)⟩
 ·rintro ⟨r1,r2⟩ s' ⟨hr,rfl,_⟩;simp only at hr;subst hr;exact Ez h
theorem byVal{k:List Int}{a:ES}{Q:Bool->EE->Prop}(hk:TK prog w s.heap k a)(h:Q true s):E2 (Fm prog w) A (Iu 8 (.ref a)) Q E s:=by
 have hT:=hk.typeIs;obtain⟨o,items,n,ho,_,hd,hi⟩:=hk;unfold Iu;refine Ew (Gu hT F.slot_tuple_hash.lookup ?_);show E2 _ _ (J7 (.ref a) >>=_) _ _ s;refine Ew (F2 ho hd ?_);refine Ew ?_;show E2 _ _ (PN items _ _) _ _ s;rw[<-Gi];refine Gs _ (λrest r s'=>r.1=none/\s'=s/\∀v∈rest,∃n t,v=Fv n t) _ ?_ ?_ _ _ ⟨rfl,rfl,TK.ints (h:=s.heap) hi⟩
 ·rintro v rest r s' ⟨hr,rfl,QH⟩;obtain⟨n,t,rfl⟩:=QH v EF;have e:Iu 7 (Fv n t)=pure true:=by unfold Iu;rfl
  rw[e];refine Ew (Ez ?_);simp only[FF,EK,if_false];exact Ez ⟨rfl,rfl,λu RC=>QH u (EB _ RC)⟩
 ·rintro ⟨r1,r2⟩ s' ⟨hr,rfl,_⟩;simp only at hr;subst hr;exact Ez h
theorem seen_false{k:List Int}{a:ES}{l:List EG}{Q:Bool->EE->Prop}(hk:TK prog w s.heap k a)(hl:∀v∈l,∃k' b,v=.ref b/\TK prog w s.heap k' b)(h:Q false s):
  E2 (Fm prog w) A (JS (.ref a) l) Q E s:=by
 unfold JS;refine Ew ?_;refine Gs _ (λrest r s'=>r.1=none/\s'=s/\∀v∈rest,∃k' b,v=.ref b/\TK prog w s.heap k' b) _ ?_ ?_ _ _ ⟨rfl,rfl,hl⟩
 ·rintro v rest r s' ⟨hr,rfl,QH⟩;obtain⟨k',b,rfl,hb⟩:=QH v EF;dsimp only;split
  ·exact Ez ⟨rfl,rfl,λu RC=>QH u (EB _ RC)⟩
  ·refine Ew (Ma hk ?_);simp only[FF,EK,if_false];refine Ew (Ma hb ?_);simp only[FF,EK,if_false];refine Ew (ofA_false hk ?_);simp only[EK,if_false];refine Ew (ofA_false hb ?_);simp only[EK,if_false];exact Ez ⟨rfl,rfl,λu RC=>QH u (EB _ RC)⟩
 ·rintro ⟨r1,r2⟩ s' ⟨hr,rfl,_⟩;simp only at hr;subst hr;exact Ez h
def ents(prog:E1)(w:Fz)(kb:List (List Int×ES)):List (Int×EG):=kb.map λp=>(hsh prog w p.1,.ref p.2)
theorem ents_at{kb:List (List Int×ES)}{i:Nat}:(ents prog w kb)[i]?=(kb[i]?).map λp=>(hsh prog w p.1,.ref p.2):=by unfold ents;rw[EI]
theorem ents_hs(kb:List (List Int×ES)):(ents prog w kb).map (·.1)=kb.map λp=>hsh prog w p.1:=by unfold ents;rw[Fn];rfl
theorem TOk.fits{t:SetTable}{hs:List Int}(T:TOk t hs){n:Nat}(hn:hs.length=n):t.fits n=true:=by
 have h1:=T.n;have h2:=T.f;have h3:t.fill=t.place.size:=by unfold fill;rw[T.d];rfl
 unfold SetTable.fits;rw[h3];simp[h1,hn];lia
theorem TOk.gave{t:SetTable}{hs:List Int}(T:TOk t hs):t.gaveWay=false:=by
 obtain⟨k,h3,hk⟩:=T.k;unfold SetTable.gaveWay;obtain⟨j,rfl⟩:∃j,k=j+1:=⟨k-1,by lia⟩
 rw[HD]at hk;have:t.mask%2=1:=by lia
 simp[this]
theorem search_from{S:ES}{o:Obj}{es:Array (Int×EG)}{ep:Nat}{t:SetTable}{kb:List (List Int×ES)}{k:List Int}{x:ES}(hu:A.units<GU)
  (ho:s.heap.get? S=some o) (hd:o.data=.set es ep t) (he:es.toList=ents prog w kb) (T:TOk t (kb.map λp=>hsh prog w p.1)) (RO:∀p∈kb,TK prog w s.heap p.1 p.2) (hx:TK prog w s.heap k x)
  {N:Nat} (hN:N<10*turns t.mask) (h0:¬ Liv t (pth t.mask (hsh prog w k) N).j) (h1:∀m,m<N->Liv t (pth t.mask (hsh prog w k) m).j) {Q:SetFound->EE->Prop}
  (qf:(∀p∈kb,p.1≠k)->Q (.free (pth t.mask (hsh prog w k) N).j false) s) (qt:(∃p∈kb,p.1=k)->Q (.there none) s):
  ∀(QB n:Nat) (Ra:Option Probe),n<=N->N-n<QB->Ra.getD (t.probeStart (hsh prog w k))=pth t.mask (hsh prog w k) n->
   (∀(m i:Nat) (p:List Int×ES),m<n->t.place[i]?=some (pth t.mask (hsh prog w k) m).j->kb[i]?=some p->p.1≠k)->
   E2 (Fm prog w) A (Iw S (.ref x) (hsh prog w k) true QB Ra) Q E s:=by
 have hsz:es.size=kb.length:=by rw[<-ER,he];simp[ents]
 have QT:t.fits es.size=true:=T.fits (by rw[Ex,hsz])
 have TX:∀i:Nat,es[i]?=(kb[i]?).map λ(p:List Int×ES)=>(hsh prog w p.1,EZ p.2):=λi=>by rw[<-Fy,he,ents_at]
 intro QB
 induction QB with
 |zero=>intro n Ra _ h;lia
 |succ QB ih=>
  intro n Ra hn hf Rj RI;unfold Iw;refine Ew (Gf ho hd QT ?_);dsimp only;rw[T.gave];simp only[EK,if_false];rw[Rj];have hash:∀(i:Nat) (p:List Int×ES),kb[i]?=some p->((es[i]?.map (λ(e:Int×EG)=>e.1)).getD 0:Int)=hsh prog w p.1:=λi p hp=>by rw[TX,hp];rfl
  have pg:=ku T (λ(i:Nat)=>(es[i]?.map (λ(e:Int×EG)=>e.1)).getD 0) (hsh prog w k) h0 h1 (10*turns t.mask) n hn (by lia)
  split
  ·rename_i met S8
   rcases pg with ⟨e,Qv⟩ |⟨m,i,hnm,hmN,QY,hhi,e,S9⟩
   ·have q:some met=some (.empty (pth t.mask (hsh prog w k) N).j none):=S8.symm.trans e;cases q;dsimp only;refine Ez (qf λp hp Rk=>?_)
    obtain⟨i,hi⟩:=FO.mp hp;obtain⟨m,j,hm,QY,hj⟩:=pM T (h:=hsh prog w k) h0 (i:=i) (by rw[EI,hi,<-Rk];rfl)
    rcases Gy m n with SR |SR
    ·exact RI m i p SR (by rw[hj];exact QY) hi Rk
    ·exact Qv m i SR hm (by rw[hj];exact QY) (by rw[hash i p hi,Rk])
   ·have q:some met=some (.candidate (pth t.mask (hsh prog w k) m).j i (pth t.mask (hsh prog w k) (m+1))):=S8.symm.trans e;cases q;dsimp only;have hik:i<kb.length:=by rw[<-hsz,<-show t.place.size=es.size by rw[T.n,Ex,hsz]];exact oM QY
    obtain⟨p,hp⟩:∃p,kb[i]?=some p:=⟨_,Ey hik⟩;have hpm:p∈kb:=EV hp;have hei:es[i]?=some (hsh prog w p.1,EZ p.2):=by rw[TX,hp];rfl
    have rest:E2 (Fm prog w) A (do
      let RW <-M0 [EZ p.2] (eqBool (EZ p.2) (.ref x))
      let (es',_,t') <-setState S
      if true && RW then return .there none
      let some same:=t'.sameMemory t.moves t.mask |unsupported "set.changed-during-lookup:is-the-new-block-at-the-old-address"
      let Tc <-match (if same then t'.slot (pth t.mask (hsh prog w k) m).j else .empty) with
       | .live i'=>match es'[i']? with
        |some (_,y')=>do pure (if <-isSame y' (EZ p.2) then some i' else none)
        |none=>pure none
       |_=>pure none
      match Tc with
      |none=>rule "set.search.anew";Iw S (.ref x) (hsh prog w k) true QB none
      |some i'=>if RW then return .there (some i') else Iw S (.ref x) (hsh prog w k) true QB (some (pth t.mask (hsh prog w k) (m+1)))) Q E s:=by
     refine Ew (FB (HV hu (RO p hpm) hx ?_));refine Ew (Gf ho hd QT ?_);dsimp only;by_cases Rk:p.1=k
     ·rw[decide_eq_true Rk];simp only[Pr,if_true];exact Ez (qt ⟨p,hpm,Rk⟩)
     ·rw[decide_eq_false Rk];simp only[II,EK,if_false];have hsm:t.sameMemory t.moves t.mask=some true:=by unfold SetTable.sameMemory;simp
      rw[hsm];dsimp only;rw[if_pos rfl,iK T.R QY];dsimp only;rw[hei];dsimp only;refine Ew (Mb ?_);refine Ew (Ez ?_);simp only[if_true];refine ih (m+1) (some (pth t.mask (hsh prog w k) (m+1))) (by lia) (by lia) rfl λm' i' p' TY R8 QW=>?_
      rcases Gy m' n with z |z
      ·exact RI m' i' p' z R8 QW
      ·rcases Fg (Gn TY) with y |y
       ·have:=S9 m' i' z y R8;intro e';exact this (by rw[hash i' p' QW,e'])
       ·subst y;have ei:=T.R.inj QY R8;subst ei;rw[hp]at QW;cases QW;exact Rk
    by_cases Td:t.led=true
    ·rw[Td];simp only[FF,EK,if_false];rw[hei];exact rest
    ·rw[show t.led=false by simpa using Td]
     simp only[Hl,if_true];refine Ew (seen_false hx (λv hv=>?_) ?_)
     ·obtain⟨e',he',rfl⟩:=ED.mp hv
      have TY:e'∈es.toList:=by
       have:=Ig.mp he';exact Ig.mpr (NZ.mp this).1
      rw[he]at TY;obtain⟨p',QW,rfl⟩:=ED.mp TY;exact⟨p'.1,p'.2,rfl,RO p' QW⟩
     ·simp only[EK,if_false];rw[hei];exact rest
  ·rename_i Rg
   rcases pg with ⟨e,Qv⟩ |⟨m,i,hnm,hmN,QY,hhi,e,S9⟩
   ·exact absurd e (Rg _)
   ·exact absurd e (Rg _)
structure SP(prog:E1)(w:Fz)(h:GS)(S:ES)(kb:List (List Int×ES)):Prop where
 ex:∃o es ep t,h.get? S=some o∧o.ExactSet∧o.data=.set es ep t∧es.toList=ents prog w kb∧TOk t (kb.map λp=>hsh prog w p.1)∧t.led=(!w.params.followText "set-order")∧t.plain=true∧t.tooFull=false∧t.mask<8*kb.length+8
 keys:∀p∈kb,TK prog w h p.1 p.2
 nd:(kb.map (·.1)).Nodup
theorem TK.keep{h h':GS}{k:List Int}{b S:ES}{o:Obj}{es ep t}(x:TK prog w h k b)(ho:h.get? S=some o)(hd:o.data=.set es ep t)(hs:HC S h h'):TK prog w h' k b:=by
 obtain⟨o',items,n,RG,hc,RT,hi⟩:=x
 have Qv:b≠S:=by
  rintro rfl;obtain rfl:o'=o:=Fk (RG.symm.trans ho);rw[hd]at RT;exact nomatch RT
 exact⟨o',items,n,(hs.2 b Qv).trans RG,hc,RT,hi⟩
theorem kA(x:ES)(es:Array (Int×EG)):byScan (.ref x) es=false:=by simp[byScan,Value.scannable]
theorem h7{α β:Type}(f:α->β)(xs:List α)(p:Nat)(x:α):(eM xs p x).map f=eM (xs.map f) p (f x):=by
 unfold eM;rw[Fi,Fh,Nj,Nk]
theorem bW{α:Type}(xs:List α)(p:Nat)(x:α):(eM xs p x).Perm (xs++[x]):=by
 unfold eM;refine Jl.trans ?_;rw[Mc];exact (Kz x xs).symm
theorem jY{α β:Type}{kb:List α}(f:α->β)(d:β):∀(o:List Nat),(∀i∈o,i<kb.length)->o.map (λi=>((kb.map f).toArray).getD i d)=(o.filterMap λi=>kb[i]?).map f
 |[],_=>rfl
 |i::o,h=>by
  have hi:=h i EF;rw[Fh,HJ,Ey hi,jY f d o λj hj=>h j (EB _ hj)]
  simp[Hh,hi]
theorem lC{α:Type}{kb:List α}{o:List Nat}(h:o.Perm (Fw kb.length)):(o.filterMap λi=>kb[i]?).Perm kb:=by
 refine (h.filterMap _).trans ?_
 suffices (Fw kb.length).filterMap (λi=>kb[i]?)=kb by rw[this]
 have:∀(l pre:List α),(List.range' pre.length l.length).filterMap (λi=>(pre++l)[i]?)=l:=by
  intro l
  induction l with
  |nil=>intro pre;rfl
  |cons x l ih=>
   intro pre;rw[E9,List.range'_succ,HJ];have e:(pre++x::l)[pre.length]?=some x:=by rw[E7 (EL _)];simp
   rw[e];have:=ih (pre++[x]);rw[Gp,EY]at this;simpa using this
 have q:=this kb [];simpa [List.range_eq_range'] using q
theorem tD{t:SetTable}{hs:List Int}(T:TOk t hs)(h:t.tooFull=false):t.place.size+1<=t.mask:=by
 obtain⟨k,h3,hk⟩:=T.k;have hf:t.fill=t.place.size:=by unfold fill;rw[T.d];rfl
 have h8:2 ^ 3<=2 ^ k:=Jd (by decide) h3
 unfold tooFull at h;rw[hf]at h;simp at h;lia
theorem relay{S:ES}{o:Obj}{es:Array (Int×EG)}{ep:Nat}{t:SetTable}{kb:List (List Int×ES)}{Q:Unit->EE->Prop}(ho:s.heap.get? S=some o)(hex:o.ExactSet)(hd:o.data=.set es ep t)(he:es.toList=ents prog w kb)
  (T:TOk t (kb.map λp=>hsh prog w p.1)) (hl:t.led=(!w.params.followText "set-order")) (hp:t.plain=true) (RO:∀p∈kb,TK prog w s.heap p.1 p.2) (Ru:(kb.map (·.1)).Nodup) (h1:0<kb.length) (hn:kb.length≤1000)
  (h:∀h' Rb,HC S s.heap h'->SP prog w h' S Rb->Rb.Perm kb->Q () {s with heap:=h' }):E2 (Fm prog w) A (Pu S (grown kb.length)) Q E s:=by
 have hsz:es.size=kb.length:=by rw[<-ER,he];simp[ents]
 have QT:t.fits es.size=true:=T.fits (by rw[Ex,hsz])
 have TX:∀i:Nat,es[i]?=(kb[i]?).map λ(p:List Int×ES)=>(hsh prog w p.1,EZ p.2):=λi=>by rw[<-Fy,he,ents_at]
 have hg:grown kb.length=kb.length*4:=by unfold grown;rw[if_neg (by lia)]
 rw[hg];obtain⟨k,k3,ek,lk,uk⟩:=above (kb.length*4) (by lia)
 have RD:(sizeAbove (kb.length*4)-1)+1=2 ^ k:=by lia
 obtain⟨t',order,e,T',Te,em,el,SN,_⟩:=ue k3 RD (hs:=es.map (·.1)) (by rw[K0,hsz];lia) t.finger (t.movedTo (sizeAbove (kb.length*4)-1)) t.led t.plain
 have hrel:t.relaid (es.map (·.1)) (kb.length*4)=some (t',order):=e;have RE:order.toList.Perm (Fw kb.length):=by rw[K0,hsz]at Te;exact Te
 have Qx:∀i∈order.toList,i<kb.length:=λi hi=>E5.mp (RE.mem_iff.mp hi)
 have Rk:=lC RE
 have TZ:(order.filterMap (λi=>es[i]?)).toList=ents prog w (order.toList.filterMap λi=>kb[i]?):=by
  rw[LW];unfold ents;rw[Nl];congr 1
  funext i
  rw[TX]
 have Tf:(order.filterMap (λi=>es[i]?)).size=es.size:=by
  rw[<-ER,TZ,hsz];unfold ents;rw[Ex,Rk.length_eq]
 unfold Pu;refine Ew (Gf ho hd QT ?_);dsimp only;rw[if_neg (by rw[ek,F3];lia),hrel]
 have goal:E2 (Fm prog w) A (do
   if (order.filterMap (λi=>es[i]?)).size !=es.size then unsupported "internal:set-table-lost-an-element"
   pure (order.filterMap (λi=>es[i]?),t'):Sem (Array (Int×EG)×SetTable)) (λr s'=>E2 (Fm prog w) A (storeSet S r.1 r.2) Q E s') E s:=by
  rw[Tf];simp only[bne_self_eq_false,EK,if_false];refine Ez ?_;refine JT ho hd ?_ (by rw[Tf,hsz,F3];lia)
  have hg':(s.heap.update S (Hi (order.filterMap (λi=>es[i]?)) t')).get? S=some {o with data:=.set (order.filterMap (λi=>es[i]?)) (ep+1) t' }:=by
   have:=Fp (Hi (order.filterMap (λi=>es[i]?)) t') ho (by rw[Kp _ t' hd];rfl)
   rw[Kp _ t' hd]at this;exact this
  have Rt:=GF s.heap S (Hi (order.filterMap (λi=>es[i]?)) t')
  refine h _ (order.toList.filterMap λi=>kb[i]?) Rt ⟨⟨_,_,_,t',hg',hex,rfl,TZ,?_,by rw[el];exact hl,by rw[SN];exact hp,?_,?_⟩,λp QW=>?_,?_⟩ Rk
  ·have:=jY (kb:=kb) (λp=>hsh prog w p.1) 0 order.toList Qx
   rw[<-this]
   have e2:(es.map (·.1))=((kb.map λp=>hsh prog w p.1)).toArray:=by
    apply IE.mp;rw[Kf,he,ents_hs]
   rw[e2]at T';exact T'
  ·have hf:t'.fill=t'.place.size:=by unfold fill;rw[T'.d];rfl
   have TC:=T'.n;rw[Ex,RE.length_eq,I0]at TC;unfold tooFull;rw[hf,TC,em];simp;lia
  ·rw[em,Rk.length_eq];lia
  ·exact (RO p (Rk.mem_iff.mp QW)).keep ho hd Rt
  ·exact ((Rk.map (·.1)).nodup_iff).mpr Ru
 exact Ew goal
theorem add_hashed{S x:ES}{kb:List (List Int×ES)}{k:List Int}{Q:Bool->EE->Prop}(hu:A.units<GU)(P:SP prog w s.heap S kb)(hx:TK prog w s.heap k x)(hn:kb.length<1000)
  (h:∀b h' Rb,HC S s.heap h'->SP prog w h' S Rb->(if k∈kb.map (·.1) then Rb=kb else Rb.Perm (kb++[(k,x)]))->Q b {s with heap:=h' }):
  E2 (Fm prog w) A (Md S (.ref x) (hsh prog w k)) Q E s:=by
 obtain⟨⟨o,es,ep,t,ho,hex,hd,he,T,hl,hp,RX,RD⟩,RO,Ru⟩:=P;have P0:SP prog w s.heap S kb:=⟨⟨o,es,ep,t,ho,hex,hd,he,T,hl,hp,RX,RD⟩,RO,Ru⟩;have hsz:es.size=kb.length:=by rw[<-ER,he];simp[ents]
 have QT:t.fits es.size=true:=T.fits (by rw[Ex,hsz])
 obtain⟨N,hN,h0,h1⟩:=ke T (hsh prog w k);have hN':N<100000:=by unfold turns at hN;lia
 unfold Md OO;refine FB (Ew (Gf ho hd QT ?_));dsimp only;rw[kA];simp only[EK,if_false];unfold setSearch;refine Ew (search_from hu ho hd he T RO hx hN h0 h1 (λRg=>?_) (λhyes=>?_) 100000 0 none (FH _) (by lia) rfl λm i p hm=>by lia)
 ·dsimp only;have hk:k ∉ kb.map (·.1):=λz=>by obtain⟨p,QW,e⟩:=ED.mp z;exact Rg p QW e
  refine Ew (Gf ho hd QT ?_);dsimp only;generalize hj:(pth t.mask (hsh prog w k) N).j=j at *;have T1:=T.put (h:=hsh prog w k) (N:=N) (by rw[hj];exact h0) h1 (by have:=qy (mask:=t.mask) (hsh prog w k) N;lia) (tD T RX)
  rw[hj]at T1;have epl:(t.put j).1.plain=true:=hp;have Tg:(t.put j).1.led=(!w.params.followText "set-order"):=hl;have Th:(t.put j).1.mask=t.mask:=rfl;generalize (t.put j).1=t1 at *;generalize (t.put j).2=q at *;have Rl:(eM kb q (k,x)).length=kb.length+1:=by rw[(bW kb q (k,x)).length_eq];simp
  have he1:(insertAt es q (hsh prog w k,EZ x)).toList=ents prog w (eM kb q (k,x)):=by
   rw[dl,he];unfold ents;rw[h7];rfl
  have hsz1:(insertAt es q (hsh prog w k,EZ x)).size=kb.length+1:=by
   rw[<-ER,he1];unfold ents;rw[Ex,Rl]
  have T2:TOk t1 ((eM kb q (k,x)).map λp=>hsh prog w p.1):=by rw[h7];exact T1
  rw[if_pos epl];refine Ew (byVal hx ?_);rw[if_pos rfl]
  have hg1:(s.heap.update S (Hi (insertAt es q (hsh prog w k,EZ x)) t1)).get? S=some {o with data:=.set (insertAt es q (hsh prog w k,EZ x)) (ep+1) t1 }:=by
   have:=Fp (Hi (insertAt es q (hsh prog w k,EZ x)) t1) ho (by rw[Kp _ t1 hd];rfl)
   rw[Kp _ t1 hd]at this;exact this
  have Rt:=GF s.heap S (Hi (insertAt es q (hsh prog w k,EZ x)) t1)
  have Ti:∀p∈eM kb q (k,x),TK prog w (s.heap.update S (Hi (insertAt es q (hsh prog w k,EZ x)) t1)) p.1 p.2:=λp QW=>by
   have:=(bW kb q (k,x)).mem_iff.mp QW;rcases EX.mp this with z |z
   ·exact (RO p z).keep ho hd Rt
   ·rw[EJ.mp z];exact hx.keep ho hd Rt
  have Tj:((eM kb q (k,x)).map (·.1)).Nodup:=by
   rw[((bW kb q (k,x)).map (·.1)).nodup_iff,Fi,F1];refine⟨Ru,by simp,λa ha b hb=>?_⟩
   simp at hb;subst hb;rintro rfl;exact hk ha
  refine Ew (JT ho hd ?_ (by rw[hsz1,F3];lia))
  rw[Hl,Iy];by_cases hft:t1.tooFull=true
  ·rw[if_pos hft,hsz,<-Rl];refine Ew (relay (s:={s with heap:=s.heap.update S (Hi (insertAt es q (hsh prog w k,EZ x)) t1) }) hg1 hex rfl he1 T2 Tg epl Ti Tj (by lia) (by lia) λh' Rb S5 P' pm=>Ez ?_)
   exact h true h' Rb (Rt.trans S5) P' (by rw[if_neg hk];exact pm.trans (bW kb q (k,x)))
  ·rw[if_neg hft];refine Ez (h true _ (eM kb q (k,x)) Rt ⟨⟨_,_,_,t1,hg1,hex,rfl,he1,T2,Tg,epl,by simpa using hft,by rw[Th,Rl];lia⟩,Ti,Tj⟩ (by rw[if_neg hk];exact bW kb q (k,x)))
 ·dsimp only;refine Ez ?_;have hk:k∈kb.map (·.1):=by obtain⟨p,QW,e⟩:=hyes;exact ED.mpr ⟨p,QW,e⟩
  exact h false s.heap kb (Lk S s.heap) P0 (by rw[if_pos hk])
theorem TK.moved{s s':EE}{wr:List ES}{G:Array HP->Array HP->Prop}{k:List Int}{b:ES}(x:TK prog w s.heap k b)(hb:b ∉ wr)(m:PX wr G s s'):TK prog w s'.heap k b:=by
 obtain⟨o,Qs,n,ho,hc,hd,hi⟩:=x;exact⟨o,Qs,n,m.heap b o hb ho,hc,hd,hi⟩
theorem SP.moved{s s':EE}{wr:List ES}{G:Array HP->Array HP->Prop}{S:ES}{kb:List (List Int×ES)}(x:SP prog w s.heap S kb)(hS:S ∉ wr)(hb:∀p∈kb,p.2 ∉ wr)(m:PX wr G s s'):SP prog w s'.heap S kb:=by
 obtain⟨⟨o,es,ep,t,ho,r⟩,hk,hn⟩:=x;exact⟨⟨o,es,ep,t,m.heap S o hS ho,r⟩,λp hp=>(hk p hp).moved (hb p hp) m,hn⟩
structure Got(kx:Nat->List Int×ES)(i:Nat)(kb:List (List Int×ES)):Prop where
 src:∀p∈kb,∃j,j<i/\p=kx j
 all:∀j,j<i->(kx j).1∈kb.map (·.1)
 len:kb.length<=i
variable {R:NP→EE→Prop}{I:ES}{fp wr:List ES}{G:Array HP→Array HP→Prop}{n:Nat}{P:Nat→EG→Prop}{St:Nat→EE→Prop}
theorem upd_loop(W:Qm prog w A.in1 I fp wr G n P St)(hu:A.in1.units<GU){S:ES}(Q8:S ∉ fp)(kx:Nat->List Int×ES)(hP:∀i v,P i v->v=.ref (kx i).2)(hwr:∀i,i<n->(kx i).2 ∉ wr)(hn:n<=1000):
  ∀(k i:Nat) (s:EE) (kb:List (List Int×ES)),n-i=k->i<=n->St i s->SP prog w s.heap S kb->Got kx i kb->(∀j,j<n->TK prog w s.heap (kx j).1 (kx j).2)->
   (∀s' Rb,PX (S::wr) G s s'->SP prog w s'.heap S Rb->Got kx n Rb->R (.ok (.ret .none)) s')->
   IK (Fm prog w) A (.builtin "set.update.loop" ⟨[.ref S,.ref I],[]⟩) R s:=by
 have hSw:S ∉ wr:=λh=>Q8 (W.sub _ h)
 have more:∀b∈wr,b∈S::wr:=λb hb=>EB _ hb
 intro k
 induction k with
 |zero=>
  intro i s kb hk hi st hS g tk hR;obtain rfl:i=n:=by lia
  refine Gj PyProof.Rows.F.entry_set_update_loop ?_;rw[FV PyProof.Rows.F.plain_set_update_loop _];show E2 _ A.in1 (ID (.ref I) >>=_) _ _ s;refine Ew (W.done s _ _ st λs' m=>?_)
  exact Ez (hR s' kb (m.mono more) (hS.moved hSw (λp hp=>by obtain⟨j,hj,rfl⟩:=g.src p hp;exact hwr j hj) m) g)
 |succ k ih=>
  intro i s kb hk hi st hS g tk hR;have Qx:i<n:=by lia
  have RO:∀p∈kb,p.2 ∉ wr:=λp hp=>by obtain⟨j,hj,rfl⟩:=g.src p hp;exact hwr j (by lia)
  refine Gj PyProof.Rows.F.entry_set_update_loop ?_;rw[FV PyProof.Rows.F.plain_set_update_loop _];show E2 _ A.in1 (ID (.ref I) >>=_) _ _ s;refine Ew (W.item i s _ _ Qx st λv s1 pv st1 m=>?_)
  obtain rfl:=hP i v pv;have hS1:=hS.moved hSw RO m;have T3:∀j,j<n->TK prog w s1.heap (kx j).1 (kx j).2:=λj hj=>(tk j hj).moved (hwr j hj) m
  show E2 _ A.in1 (M0 [EZ (kx i).2] (setAdd S (.ref (kx i).2)) >>=_) _ _ s1;refine Ew (FB ?_);unfold setAdd;refine FB (Ew (KL hu (T3 i Qx) ?_));refine add_hashed (s:={s1 with toks:=s1.toks+((kx i).1.length+1) }) hu hS1 (T3 i Qx) (by have:=g.len;lia) λb h' Rb sb hS2 SF=>?_
  obtain⟨⟨o,es,ep,t,ho,hex,hd,hrest⟩,hks,Ru⟩:=hS1;have same:∀b o,b ∉ S::wr->s1.heap.get? b=some o->h'.get? b=some o:=λb o hb e=>by rw[sb.2 b (λz=>hb (by rw[z];exact EF))];exact e
  refine Ez ⟨Gk PyProof.Rows.F.plain_set_update_loop _,ih (i+1) _ Rb (by lia) Qx (W.frame _ s1 _ _ st1 (by show s1.toks<=s1.toks+_;lia) λb hb o e=>?_) hS2 ?_ (λj hj=>(T3 j hj).keep ho hd sb) λs2 kb2 m2 hS3 g2=>?_⟩
  ·rw[sb.2 b (λz=>Q8 (by rw[<-z];exact hb))];exact e
  ·by_cases RZ:(kx i).1∈kb.map (·.1)
   ·rw[if_pos RZ]at SF;subst SF;refine⟨λp hp=>?_,λj hj=>?_,by have:=g.len;lia⟩
    ·obtain⟨j,hj,e⟩:=g.src p hp;exact⟨j,by lia,e⟩
    ·rcases Fg (Gn hj) with z |z
     ·exact g.all j z
     ·rw[z];exact RZ
   ·rw[if_neg RZ]at SF;refine⟨λp hp=>?_,λj hj=>?_,by rw[SF.length_eq];have:=g.len;simp;lia⟩
    ·rcases EX.mp (SF.mem_iff.mp hp) with z |z
     ·obtain⟨j,hj,e⟩:=g.src p z;exact⟨j,by lia,e⟩
     ·exact⟨i,F8 i,by rw[EJ.mp z]⟩
    ·rw[(SF.map (·.1)).mem_iff,Fi];rcases Fg (Gn hj) with z |z
     ·exact E8 _ (g.all j z)
     ·rw[z];exact EW _ (by simp)
  ·exact hR s2 kb2 (Moved.trans W.gtrans ((m.mono more).then_heap (by show s1.toks<=s1.toks+_;lia) same) m2) hS3 g2
end
section
variable {w:Fz}{A:FQ}{s:EE}
abbrev aW(w:Fz):Obj:={cls:=.type "set",dict:=none,data:=.set #[] 0 (.fresh 0 0 (!w.params.followText "set-order")) }
theorem pi:TOk (.fresh 0 0 (!w.params.followText "set-order")) [] where
 R:=by intro i j x y _ h;simp[SetTable.fresh]at h
 d:=rfl
 k:=⟨3,by decide,rfl⟩
 n:=rfl
 f:=by show 0<=7;decide
 le:=by intro i x h;simp[SetTable.fresh]at h
 reach:=by intro i x h hi;simp[SetTable.fresh]at hi
theorem fresh_sp{h:GS}{S:ES}(e:h.get? S=some (aW w)):SP prog w h S []:=by
 refine⟨⟨_,_,_,_,e,⟨rfl,rfl,rfl⟩,rfl,rfl,pi,rfl,rfl,by simp[SetTable.tooFull,SetTable.fresh,SetTable.fill],by show 7<8;decide⟩,λp hp=>by simp at hp,by simp⟩
theorem t5(a:EG){Q:EG->EE->Prop}(h:Q (.ref s.heap.objs.size) {s with heap:=s.heap.push (aW w) }):
  IK (Fm prog w) A (.call (.builtin "set.__new__") ⟨[.type "set",a],[]⟩) (wants Q E) s:=by
 refine Me ?_;show E2 _ A.in1 (do checkBuiltinCall "set.__new__" ⟨[.type "set",a],[]⟩;again (.builtin "set.__new__" ⟨[.type "set",a],[]⟩)) _ _ s
 refine Ew (JU (PySem.F.newCall_set_1 a) (Ez ⟨Gk Mf _,Gj PySem.F.entry_set_new ?_⟩));rw[FV Mf _];unfold Builtin.«set.__new__» Builtin.Frozenset.newClass;have hsub:=sub_set_self;obtain⟨hp,g,d,tk,os⟩:=s;dsimp only
 wp_walk
 refine Jm (Ez ?_);dsimp only;simp only[newObj];exact Ew (wpAny_alloc (Ez (Ez h)))
set_option maxRecDepth 100000 in
theorem call_set_pts{l:ES}{items:Array EG}{Q:EG->EE->Prop}(kx:Nat->List Int×ES)(hh:A.handled=none)(hu:A.in1.in1.in1.units<GU)(hl:s.heap.IsList l items)
  (Rv:∀(i:Nat) (v:EG),items[i]?=some v->v=.ref (kx i).2) (RH:∀i,i<items.size->TK prog w s.heap (kx i).1 (kx i).2) (hn:items.size<=1000)
  (h:∀(h':GS) (tk:Nat) (kb:List (List Int×ES)),SP prog w h' s.heap.objs.size kb->Got kx items.size kb->(∀b o,s.heap.get? b=some o->h'.get? b=some o)->Q (.ref s.heap.objs.size) {s with heap:=h',toks:=tk }):
  E2 (Fm prog w) A (call (.type "set") [.ref l]) Q E s:=by
 obtain⟨cc,tl,hmro⟩:=FK.mro;have hmade:=FK.made;have hsub:=FK.sub;refine Pf (Me ?_);show E2 _ _ (callAny (.type "set") _) _ _ _;refine Ez ⟨Code.quiet_builtin _ (by decide+kernel),Gj LC ?_⟩
 rw[Nm (Mg "set" [.ref l] []) rfl];have g1:=FK.notType;have g2:=FK.canCreate;have g3:=LX (.ref l)
 repeat (any_goals (first |assumption |wp_step))
 refine IL (t5 (w:=w) (.ref l) (E:=E) (Q:=λobj Qw=>obj=.ref s.heap.objs.size/\Qw={s with heap:=s.heap.push (aW w) }) ⟨rfl,rfl⟩) λr Qw hr=>?_
 cases r with
 |error e=>exact hr
 |ok fl=>
  cases fl with
  |ret obj=>
   obtain⟨rfl,rfl⟩:=hr;have hS:(s.heap.push (aW w)).get? s.heap.objs.size=some (aW w):=EM _ rfl;have hT:Pv {s with heap:=s.heap.push (aW w) } (.ref s.heap.objs.size) "set":=⟨_,hS,rfl⟩
   have hli:=FK.init.lookup;have hbi:=FK.init.bind (.ref s.heap.objs.size)
   repeat (any_goals (first |assumption |wp_step))
   refine IL (MN (R:=wants (λr Rr=>r=.none/\∃h' tk kb,Rr={s with heap:=h',toks:=tk }/\
     SP prog w h' s.heap.objs.size kb/\Got kx items.size kb/\(∀b o,s.heap.get? b=some o->h'.get? b=some o)) E) FK.init.plain LY (N0 hT ?_)) λr₂ Rr RF=>?_
   ·obtain⟨ol,hol,hcl,nl,hdl⟩:=hl;obtain⟨ocls,Tn,odata,R9⟩:=ol;simp only at hcl hdl;subst hcl;subst hdl;have hol':(s.heap.push (aW w)).get? l=some {cls:=.type "list",dict:=Tn,data:=.seq items nl,slots:=R9 }:=EA _ hol;have k1:=MP;have k2:=KA;have k3:(F7 "list"==F7 "dict")=false:=by decide
    have QZ:(s.heap.push (aW w)).IsList l items:=⟨_,hol',rfl,nl,rfl⟩;unfold Builtin.«set.__init__» noKeywords Builtin.Frozenset.updateFrom;generalize hPI:MV=PI
    wp_walk
    subst hPI;refine GZ QZ (Ew (OP ?_));have hlS:l<s.heap.objs.size:=EN hol;have h3:A.in1.in1.in1.handled=none:=by simp[hh]
    have To:(s.heap.push (aW w)).objs.size=s.heap.objs.size+1:=Ga ..;have hneI:l≠(s.heap.push (aW w)).objs.size:=by rw[To];exact Fe (GL hlS)
    have Q8:s.heap.objs.size ∉ [(s.heap.push (aW w)).objs.size,l]:=by
     rw[To];intro z;rcases EH.mp z with z |z
     ·exact absurd z (Fe (F8 _))
     ·exact absurd (EJ.mp z) (Js hlS)
    refine upd_loop ((Walks.list h3 _ l hneI items).toS) hu Q8 kx Rv (λi hi=>?_) hn (items.size-0) 0 _ [] (by lia) (FH _)
     ⟨⟨_,EM _ rfl,rfl,rfl⟩,(QZ.push _)⟩ ?_ ⟨λp hp=>by simp at hp,λj hj=>by lia,by simp⟩ (λj hj=>?_) λs' kb m RJ g=>?_
    ·intro z;have z':=EJ.mp z;obtain⟨o,_,_,ho,_⟩:=RH i hi;have:=EN ho;rw[z',To]at this;exact Fl _ (J6 (F8 _) this)
    ·exact fresh_sp (EA _ hS)
    ·obtain⟨o,Qs,k,ho,r⟩:=RH j hj;exact⟨o,Qs,k,EA _ (EA _ ho),r⟩
    ·obtain⟨h',g',d',tk',os'⟩:=s';obtain rfl:g'=s.gens:=m.gens;obtain rfl:d'=s.drawn:=m.drawn;obtain rfl:os'=s.os:=m.os;refine Ez ?_;show E2 _ _ (ret Fb) _ _ _;refine Ez ⟨rfl,h',tk',kb,rfl,RJ,g,λb o e=>?_⟩
     have hb:=EN e;refine m.heap b o (λz=>?_) (EA _ (EA _ e))
     rcases EH.mp z with z |z
     ·exact absurd z (Fe hb)
     ·have z':=EJ.mp z;rw[z',To]at hb;exact Fl _ (J6 (F8 _) hb)
   ·cases r₂ with
    |error e=>exact RF
    |ok fl₂=>
     cases fl₂ with
     |ret r=>
      obtain⟨rfl,h',tk,kb,rfl,RJ,g,SE⟩:=RF
      repeat (any_goals (first |assumption |wp_step))
      exact h _ _ kb RJ g SE
     |_=>exact RF.elim
  |_=>exact hr.elim
end
theorem dW:Slot "set_iterator" "__next__" "set_iterator.__next__":=
 .of (owner:="set_iterator") (n:="__next__") (by rw[IS,Hq];kernel_rfl) (by decide+kernel) (by decide+kernel) (by decide+kernel) (by first |exact .inl (by decide+kernel) |exact .inr (by decide+kernel)) (by rw[J1];kernel_rfl)
theorem kZ:entryFor table "set_iterator.__next__"=some Builtin.«set_iterator.__next__»:=entryFor_of_tree (by kernel_rfl)
theorem lN(a:EG):argsOk "set_iterator.__next__" ⟨[a],[]⟩:=by unfold argsOk;kernel_rfl
theorem qP:entryFor table "set.__iter__"=some Builtin.«frozenset.__iter__»:=OQ (id':="frozenset.__iter__") (by kernel_rfl) rfl (by decide+kernel) (by kernel_rfl)
theorem rB{α:Type}{l:List α}{i:Nat}(h:i<l.length):(l[i]::l.eraseIdx i).Perm l:=by
 rw[List.eraseIdx_eq_take_drop_succ];refine Jl.symm.trans ?_;rw[<-List.drop_eq_getElem_cons h,Mc]
theorem sM{α:Type}(next:Nat->Nat):∀(QB k:Nat) (left:List α) (out:Array α),left.length=QB->(pickOrder.go next QB k left out).toList.Perm (out.toList++left)
 |0,k,left,out,h=>by
  obtain rfl:left=[]:=Gq.mp h;rw[pickOrder.go,Hn]
 |QB+1,k,left,out,h=>by
  have hi:next k%left.length<left.length:=Ik _ (by lia)
  rw[pickOrder.go,Ey hi];refine (sM next QB (k+1) _ _ (by rw[List.length_eraseIdx_of_lt hi];lia)).trans ?_
  rw[Array.toList_push,Gp];refine J8 _ ?_;rw[List.singleton_append];exact rB hi
theorem yU{α:Type}(next:Nat->Nat)(xs:Array α):(Nn next xs).toList.Perm xs.toList:=by
 unfold Nn;have:=sM next xs.size 0 xs.toList #[] (by simp)
 simpa using this
section
variable {w:Fz}{A:FQ}{s:EE}
def cB(w:Fz)(S:ES)(es:Array (Int×EG))(ep:Nat):List EG:=(if w.params.followText "set-order"=true then Nn (w.params.setOrder S ep) es else es).toList.map (·.2)
theorem fk(w:Fz)(S:ES)(es:Array (Int×EG))(ep:Nat):(cB w S es ep).Perm (es.toList.map (·.2)):=by
 unfold cB;refine List.Perm.map _ ?_;split
 ·exact yU _ es
 ·exact K3 _
def f_(t:SetTable):Nat->Nat
 |0=>0
 |j+1=>t.place.getD j 0+1
def aU(w:Fz)(t:SetTable)(i:Nat):Nat:=if w.params.followText "set-order"=true then 0 else f_ t i
def rO(w:Fz)(h:GS)(it S:ES)(t:SetTable)(i n ep:Nat):Prop:=∃o,h.get? it=some o∧o.cls=.type "set_iterator"∧o.data=.fields #[Jx (aU w t i),Jx i,.ref S,Jx n,Jx ep]
theorem rO.ty{it S:ES}{t:SetTable}{i n ep:Nat}(x:rO w s.heap it S t i n ep):s.TypeIs (.ref it) "set_iterator":=let ⟨o,ho,hc,_⟩:=x;⟨o,ho,hc⟩
structure SO(prog:E1)(w:Fz)(o:Obj)(es:Array (Int×EG))(ep:Nat)(t:SetTable)(hs:List Int):Prop where
 ex:o.ExactSet
 d:o.data=.set es ep t
 T:TOk t hs
 n:hs.length=es.size
 led:t.led=(!w.params.followText "set-order")
 plain:t.plain=true
theorem xP{S:ES}{o:Obj}{es ep t hs}{Q:Bool->EE->Prop}(O:SO prog w o es ep t hs)(ho:s.heap.get? S=some o)(h:Q false s):E2 (Fm prog w) A (setDrawn S) Q E s:=by
 unfold setDrawn Pi;refine Ew (Gf ho O.d (O.T.fits O.n) (Ew (Ew (Jm (Ez (Ez ?_))))));have q:Q (!w.params.followText "set-order" && (!t.plain && decide (es.size >1))) s:=by rw[O.plain];simpa using h
 exact q
theorem w8{S:ES}{o:Obj}{es ep t hs}{Q:EG->EE->Prop}(O:SO prog w o es ep t hs)(ho:s.heap.get? S=some o)
  (hQ:Q (.ref s.heap.objs.size) {s with heap:=s.heap.push {cls:=.type "set_iterator",data:=.fields #[Jx 0,Jx 0,.ref S,Jx es.size,Jx ep] } }):E2 (Fm prog w) A (MV (.ref S)) Q E s:=by
 have hT:s.TypeIs (.ref S) "set":=⟨o,ho,O.ex.1⟩;refine JV hT Mh (FP Mh hT qP ?_ (PySem.F.args_set_iter_1 _));unfold Builtin.«frozenset.__iter__»;show E2 _ _ (Builtin.Frozenset.sizeOf S >>=_) _ _ s;unfold Builtin.Frozenset.sizeOf;refine Ew (Ew (Kq ho O.d (O.T.fits O.n) (Ez ?_)));refine Ew (xP O ho ?_);simp only[EK,if_false];refine Ew (Ez ?_);refine Ew (wpAny_setEpoch_of ho O.d (O.T.fits O.n) ?_);refine Ew (FZ (Ez ⟨_,rfl,"set_iterator",_,⟨_,EM _ rfl,rfl⟩,dW.lookup,?_⟩));exact hQ
theorem rG{t:SetTable}{hs:List Int}(T:TOk t hs){i:Nat}(hi:i<=t.place.size):below t.place (f_ t i)=i:=by
 obtain⟨h1,h2,h3⟩:=fJ T.R (f_ t i);cases i with
 |zero=>
  dsimp only[f_]at *;rcases KM (below t.place 0) with z |z
  ·exact z
  ·have:=h1 0 _ z (eN (by lia));lia
 |succ j=>
  dsimp only[f_]at *;have hj:j<t.place.size:=by lia
  have ej:t.place.getD j 0=t.place[j]:=by simp[Hh,hj]
  rw[ej]at h1 h2 h3 |-;generalize hb:below t.place (t.place[j]+1)=b at *;rcases Hg b (j+1) with z |z |z
  ·have:=h2 j t.place[j] (by lia) (eN hj);lia
  ·exact z
  ·have q:=h1 (j+1) _ z (eN (by lia))
   have:=T.R j (j+1) _ _ (by lia) (eN hj) (eN (show j+1<t.place.size by lia))
   lia
theorem j0{S:ES}{o:Obj}{es ep t hs}{i:Nat}{Q:Option (EG×Nat)->EE->Prop}(O:SO prog w o es ep t hs)(ho:s.heap.get? S=some o)(hi:i<=es.size)
  (h:Q (((cB w S es ep)[i]?).map λv=>(v,aU w t (i+1))) s):E2 (Fm prog w) A (setNext S (aU w t i) i ep) Q E s:=by
 have QT:=O.T.fits O.n;have QY:t.place.size=es.size:=by rw[O.T.n,O.n]
 unfold setNext Pi;refine Ew (Gf ho O.d QT (Ew (Ew (Jm (Ez ?_)))));by_cases bt:w.params.followText "set-order"=true
 ·dsimp only;rw[show (Fm prog w).w.params.followText "set-order"=true from bt,if_pos rfl,if_neg (by simp)]
  unfold setWalk Pi;refine Ew (Ew (Gf ho O.d QT (Ew (Ew (Jm (Ez ?_))))));dsimp only;rw[show (Fm prog w).w.params.followText "set-order"=true from bt,if_pos rfl]
  refine Ew (Jm (Ez (Ez ?_)))
  have e:ND (λ(e:Int×EG)=>(e.2,aU w t i)) (Nn (w.params.setOrder S ep) es)[i]?=((cB w S es ep)[i]?).map λv=>(v,aU w t (i+1)):=by
   unfold cB aU;rw[if_pos bt,if_pos bt,if_pos bt,EI,Fy,Option.map_map];rfl
  have q:Q (ND (λ(e:Int×EG)=>(e.2,aU w t i)) (Nn (w.params.setOrder S ep) es)[i]?) s:=by rw[e];exact h
  exact q
 ·have bf:w.params.followText "set-order"=false:=by simpa using bt
  dsimp only;rw[show (Fm prog w).w.params.followText "set-order"=false from bf,if_neg (by simp)]
  have e1:aU w t i=f_ t i:=by unfold aU;rw[if_neg bt]
  have e2:below t.place (aU w t i)=i:=by rw[e1];exact rG O.T (by lia)
  have e3:(match es[below t.place (aU w t i)]?,t.place[below t.place (aU w t i)]? with
    |some (_,x),some j=>some (x,j+1)
    |_,_=>none)=((cB w S es ep)[i]?).map λv=>(v,aU w t (i+1)):=by
   rw[e2];unfold cB aU;rw[if_neg bt,if_neg bt,EI,Fy];rcases Gy i es.size with z |z
   ·have z':i<t.place.size:=by lia
    simp[z,z',Hh,f_]
   ·have z':t.place.size<=i:=by lia
    simp[z,z']
  split
  ·rename_i hc
   exact absurd (show (!t.plain && decide (es.size >1))=true from hc) (by rw[O.plain];simp)
  ·refine Ew ?_;show E2 _ _ (if (!t.led && !es.isEmpty)=true then unsupported "set:maker-not-led" else pure ()) _ _ _
   rw[O.led,bf,if_neg (by simp)]
   refine Ez (Ez ?_)
   have q:Q (match es[below t.place (aU w t i)]?,t.place[below t.place (aU w t i)]? with
    |some (_,x),some j=>some (x,j+1)
    |_,_=>none) s:=by rw[e3];exact h
   exact q
theorem uM{S it:ES}{o:Obj}{es ep t hs}{i:Nat}{v:EG}{Q:Option EG->EE->Prop}(O:SO prog w o es ep t hs)(ho:s.heap.get? S=some o)(Rv:rO w s.heap it S t i es.size ep)(hv:(cB w S es ep)[i]?=some v)
  (hQ:∀h',rO w h' it S t (i+1) es.size ep->HC it s.heap h'->Q (some v) {s with heap:=h' }):E2 (Fm prog w) A (ID (.ref it)) Q E s:=by
 obtain⟨oi,hoi,hc,hd⟩:=id Rv;have QT:=O.T.fits O.n;unfold ID;refine Ew (JA (GN (name:=Str.ofString "__next__") Rv.ty dW (FP dW Rv.ty kZ ?_ (lN _))));unfold Builtin.«set_iterator.__next__»;refine Ew (m:=slotArgs "__next__" 0 _) (Ez ?_);dsimp only;refine Ew (MY hoi hd ?_);dsimp only[Jx];refine Ew (Kq ho O.d QT ?_);rw[if_neg (by simp)]
 have Qx:i<es.size:=by
  have q:=(ET.mp hv).1;rw[(fk w S es ep).length_eq,Ex,ER]at q;exact q
 rw[show ((aU w t i:Nat):Int).toNat=aU w t i from G5 _,show ((i:Nat):Int).toNat=i from G5 _,show ((ep:Nat):Int).toNat=ep from G5 _]
 refine Ew (j0 O ho (F4 Qx) ?_);rw[hv];dsimp only[ND];refine Ew (J2 hoi hd (by simp) ?_)
 have g1:=Fp (Np (·.setIfInBounds 0 (Fv ((aU w t (i+1):Nat):Int) 0))) hoi (J9 (Ha hd _));refine Ew (J2 g1 (Ha hd _) (by simp) ?_)
 refine Ez ⟨_,rfl,Ez (hQ _ ?_ ((GF ..).trans (GF ..)))⟩;refine⟨_,Fp _ g1 (J9 (Ha (Ha hd _) _)),(Ln ..).trans ((Ln ..).trans hc),?_⟩;rw[Ha (Ha hd _)];simp[Jx]
theorem zh{S it:ES}{o:Obj}{es ep t hs}{Q:Option EG->EE->Prop}(hh:A.handled=none)(O:SO prog w o es ep t hs)(ho:s.heap.get? S=some o)(Rv:rO w s.heap it S t es.size es.size ep)
  (hQ:∀h',Qg it s.heap h'->Q none {s with heap:=h' }):E2 (Fm prog w) A (ID (.ref it)) Q E s:=by
 obtain⟨oi,hoi,hc,hd⟩:=id Rv;have QT:=O.T.fits O.n;unfold ID;refine Ew (JA (GN (name:=Str.ofString "__next__") Rv.ty dW (FP dW Rv.ty kZ ?_ (lN _))));unfold Builtin.«set_iterator.__next__»;refine Ew (m:=slotArgs "__next__" 0 _) (Ez ?_);dsimp only;refine Ew (MY hoi hd ?_);dsimp only[Jx];refine Ew (Kq ho O.d QT ?_);rw[if_neg (by simp)]
 rw[show ((aU w t es.size:Nat):Int).toNat=aU w t es.size from G5 _,show ((es.size:Nat):Int).toNat=es.size from G5 _,show ((ep:Nat):Int).toNat=ep from G5 _]
 refine Ew (j0 O ho (EL _) ?_);rw[show (cB w S es ep)[es.size]?=none from Fo (by rw[(fk w S es ep).length_eq,Ex,ER];exact EL _)]
 dsimp only[ND];refine Ew (J2 hoi hd (by simp) ?_)
 refine Ew ?_;simp only[newExc,Pw];refine Ew (FZ ?_ (by size_fits))
 refine Ew (m:=K5 _ _) (JU (a:=Fb) (by first |rfl | (simp only[K5];rfl)) ?_)
 refine FZ ?_ (by size_fits)
 simp only[raiseNew];refine Ew (wpAny_handled ?_);rw[show A.in1.handled=none from hh]
 refine Ew (Ez (wpAny_throw ?_));refine Ew (GK (T:="StopIteration") (b:=true) ⟨_,EM _ rfl,rfl⟩ K6 ?_);exact Ez (hQ _ (((GF ..).extBut.push _).push _))
end
end ST
namespace ST
open PySem PySem.SetTable PySem.W
theorem lE:Slot "set_iterator" "__iter__" "set_iterator.__iter__":=
 .of (owner:="set_iterator") (n:="__iter__") (by rw[IS,Hq];kernel_rfl) (by decide+kernel) (by decide+kernel) (by decide+kernel) (by first |exact .inl (by decide+kernel) |exact .inr (by decide+kernel)) (by rw[J1];kernel_rfl)
theorem qx:entryFor table "set_iterator.__iter__"=some Builtin.«dict_keyiterator.__iter__»:=OQ (id':="dict_keyiterator.__iter__") (by kernel_rfl) rfl (by decide+kernel) (by kernel_rfl)
theorem uL(a:EG):argsOk "set_iterator.__iter__" ⟨[a],[]⟩:=by unfold argsOk;kernel_rfl
section
variable {prog:E1}{w:Fz}{A:FQ}{E:EG→EE→Prop}{s:EE}
theorem Ai{it S:ES}{t:SetTable}{i n ep:Nat}{Q:EG->EE->Prop}(Rv:rO w s.heap it S t i n ep)(h:Q (.ref it) s):E2 (Fm prog w) A (MV (.ref it)) Q E s:=by
 refine JV Rv.ty lE (FP lE Rv.ty qx ?_ (uL _));exact Ez ⟨_,rfl,"set_iterator",_,Rv.ty,dW.lookup,h⟩
theorem u4(hh:A.handled=none){it S:ES}(Qv:S≠it){o:Obj}{es ep t hs}(O:SO prog w o es ep t hs):
  Walks prog w A it [it,S] [it] es.size (λi v=>(cB w S es ep)[i]?=some v) (λi h=>rO w h it S t i es.size ep/\h.get? S=some o) where
 sub:=λb hb=>by simp at hb;simp[hb]
 frame:=λ_ _ _ st hk=>⟨let ⟨x,hx,r⟩:=st.1;⟨x,hk it (by simp) x hx,r⟩,hk S (by simp) o st.2⟩
 item:=λi s Q E hi st hQ=>by
  obtain⟨v,hv⟩:∃v,(cB w S es ep)[i]?=some v:=⟨_,Ey (by rw[(fk w S es ep).length_eq,Ex,ER];exact hi)⟩
  refine uM O st.2 st.1 hv λh' hit' sb=>?_
  exact hQ v h' s.toks hv ⟨hit',(sb.2 S Qv).trans st.2⟩ λb x hb e=>sb.extBut b x (λz=>hb (by simp[z])) e
 done:=λs Q E st hQ=>zh hh O st.2 st.1 λh' xb=>hQ h' s.toks λb x hb e=>xb b x (λz=>hb (by simp[z])) e
 self:=λ_ _ _ _ st hQ=>Ai st.1 hQ
theorem wR{r:ES}{Q:Bool→EE→Prop}(hT:s.TypeIs (.ref r) "set")(h:Q false s):E2 (Fm prog w) A (Builtin.List.listLengthHint (.ref r)) Q E s:=by
 unfold Builtin.List.listLengthHint;refine Ew (Gu hT PySem.F.slot_set_len.lookup ?_);generalize hid:("set.__len__":String)=id0
 wp_delta
 rw[show splitId id0=some ("set","__len__") from by subst hid;decide+kernel]
 subst hid;refine Ew (GK (T:="set") (b:=true) hT (by rw[J1];kernel_rfl) ?_)
 refine Il (λz=>absurd z (by decide)) (λ_=>?_)
 refine Il (λ_=>?_) (λz=>absurd (by decide+kernel) z)
 exact Ew (Jv hT (Ez h))
theorem Ap{S:ES}{o:Obj}{es ep t hs}(O:SO prog w o es ep t hs):KdlSrc prog w "set" S S es.size (λi v=>(cB w S es ep)[i]?=some v) (λh=>h.get? S=some o) where
 type:=λ_ hm=>⟨o,hm,O.ex.1⟩
 there:=λ_ hm=>⟨EN hm,EN hm⟩
 keep:=λ_ _ hm hk=>hk S (.inl rfl) o hm
 notList:=by decide
 notTuple:=by decide
 hint:=λ_ _ _ _ hm hq=>wR ⟨o,hm,O.ex.1⟩ hq
 iter:=λ_ s hh hm=>⟨_,_,(λ_ _ hq=>w8 O hm hq),u4 hh (Fe (EN hm)) O,⟨⟨_,EM _ rfl,rfl,by simp[aU,f_]⟩,EA _ hm⟩⟩
end
end ST
namespace ST
open PySem PySem.W PyProof.Rows
inductive fX (lt:Nat->Nat->Bool) (n:Nat) {α:Type}:KasT α->α->Prop
 |ret (a:α):fX lt n (.ret a) a
 |ask {i j:Nat}{k:Bool->KasT α}{a:α}:i<n->j<n->fX lt n (k (lt i j)) a->fX lt n (.ask i j k) a
variable {lt:Nat→Nat→Bool}{n:Nat}
theorem fX.bind{α β:Type}{t:KasT α}{a:α}{f:α->KasT β}{b:β}(h:fX lt n t a)(h':fX lt n (f a) b):fX lt n (t.bind f) b:=by
 induction h with
 |ret a=>exact h'
 |ask hi hj _ ih=>exact fX.ask hi hj (ih h')
theorem fX.wp{α:Type}{t:KasT α}{a:α}(h:fX lt n t a){cmp:Nat->Nat->(Bool->EE->Prop)->EE->Prop}{s:EE}(hc:∀i j C,i<n->j<n->C (lt i j) s->cmp i j C s){Q:α->EE->Prop}(q:Q a s):t.kasWp cmp Q s:=by
 induction h with
 |ret a=>exact q
 |ask hi hj _ ih=>exact hc _ _ _ hi hj (ih q)
structure LtO(n:Nat)(lt:Nat->Nat->Bool):Prop where
 tr:∀i j k,lt i j=true->lt j k=true->lt i k=true
 tot:∀i j,i<n->j<n->i≠j->lt i j=false->lt j i=true
 asy:∀i j,lt i j=true->lt j i=false
abbrev g(p:Array Nat)(k:Nat):Nat:=p.getD k 0
theorem AT{p q:Array Nat}{k l:Nat}(h:p[k]?=q[l]?):g p k=g q l:=by
 unfold g;rw[GE,GE,h]
structure PP(n:Nat)(p:Array Nat):Prop where
 perm:p.toList.Perm (Fw n)
theorem PP.size{p:Array Nat}(h:PP n p):p.size=n:=by rw[<-ER,h.perm.length_eq,I0]
theorem PP.mem{p:Array Nat}(h:PP n p){k:Nat}(hk:k<n):g p k<n:=by
 have SE:k<p.size:=by rw[h.size];exact hk
 have e:g p k=p[k]:=by simp[g,Hh,SE]
 rw[e];exact E5.mp (h.perm.mem_iff.mp (by simp))
theorem PP.inj{p:Array Nat}(h:PP n p){k l:Nat}(hk:k<n)(hl:l<n)(e:g p k=g p l):k=l:=by
 have SE:k<p.toList.length:=by rw[ER,h.size];exact hk
 have QG:l<p.toList.length:=by rw[ER,h.size];exact hl
 have nd:p.toList.Nodup:=h.perm.nodup_iff.mpr Ke;have e1:g p k=p.toList[k]:=by simp[g,Hh,h.size,hk]
 have e2:g p l=p.toList[l]:=by simp[g,Hh,h.size,hl]
 exact (Kb nd).mp (by rw[<-e1,<-e2,e])
theorem PP.of{p q:Array Nat}(h:PP n p)(hq:q.Perm p):PP n q:=⟨(Array.perm_iff_toList_perm.mp hq).trans h.perm⟩
def Srt(lt:Nat->Nat->Bool)(p:Array Nat)(m:Nat):Prop:=∀i j,i<j->j<m->lt (g p i) (g p j)=true
def Dsc(lt:Nat->Nat->Bool)(p:Array Nat)(m:Nat):Prop:=∀i j,i<j->j<m->lt (g p j) (g p i)=true
theorem Srt.one(p:Array Nat):Srt lt p 1:=λi j h1 h2=>by lia
theorem Srt.more(O:LtO n lt){p:Array Nat}{m:Nat}(S:Srt lt p m)(h1:1<=m)(h:lt (g p (m-1)) (g p m)=true):Srt lt p (m+1):=λi j Ry hj=>by
 rcases Fg (Gn hj) with z |z
 ·exact S i j Ry z
 ·subst z;rcases Fg (show i<=j-1 by lia) with y |y
  ·exact O.tr _ _ _ (S i (j-1) y (by lia)) h
  ·subst y;exact h
theorem Dsc.more(O:LtO n lt){p:Array Nat}{m:Nat}(S:Dsc lt p m)(h1:1<=m)(h:lt (g p m) (g p (m-1))=true):Dsc lt p (m+1):=λi j Ry hj=>by
 rcases Fg (Gn hj) with z |z
 ·exact S i j Ry z
 ·subst z;rcases Fg (show i<=j-1 by lia) with y |y
  ·exact O.tr _ _ _ h (S i (j-1) y (by lia))
  ·subst y;exact h
theorem nK(O:LtO n lt){p:Array Nat}(P:PP n p):∀(f m:Nat),1<=m->m+f=n->Srt lt p m->∃m',fX lt n (kas_asc p f m) m'/\m<=m'/\m'<=n/\Srt lt p m'/\(m'<n->lt (g p m') (g p (m'-1))=true)
 |0,m,h1,hf,S=>⟨m,.ret m,EL _,by lia,S,λh=>by lia⟩
 |f+1,m,h1,hf,S=>by
  by_cases hc:lt (g p m) (g p (m-1))=true
  ·refine⟨m,.ask (P.mem (by lia)) (P.mem (by lia)) ?_,EL _,by lia,S,λ_=>hc⟩
   rw[if_pos hc];exact .ret m
  ·have Sx:lt (g p m) (g p (m-1))=false:=by simpa using hc
   have ht:=O.tot _ _ (P.mem (show m<n by lia)) (P.mem (show m-1<n by lia)) (λe=>by have:=P.inj (by lia) (by lia) e;lia) Sx
   obtain⟨m',r,a1,a2,a3,a4⟩:=nK O P f (m+1) (by lia) (by lia) (S.more O h1 ht)
   refine⟨m',.ask (P.mem (by lia)) (P.mem (by lia)) ?_,by lia,a2,a3,a4⟩
   rw[if_neg hc];exact r
theorem pJ(O:LtO n lt){p:Array Nat}(P:PP n p):∀(f m:Nat),1<=m->m+f=n->Dsc lt p m->∃m',fX lt n (kas_desc f p m 0) (p,m',0)/\m<=m'/\m'<=n/\Dsc lt p m'
 |0,m,h1,hf,S=>⟨m,.ret _,EL _,by lia,S⟩
 |f+1,m,h1,hf,S=>by
  by_cases hc:lt (g p m) (g p (m-1))=true
  ·obtain⟨m',r,a1,a2,a3⟩:=pJ O P f (m+1) (by lia) (by lia) (S.more O h1 hc)
   refine⟨m',.ask (P.mem (by lia)) (P.mem (by lia)) ?_,by lia,a2,a3⟩
   rw[if_pos hc,if_neg (by lia)];exact r
  ·have Sx:lt (g p m) (g p (m-1))=false:=by simpa using hc
   have ht:=O.tot _ _ (P.mem (show m<n by lia)) (P.mem (show m-1<n by lia)) (λe=>by have:=P.inj (by lia) (by lia) e;lia) Sx
   refine⟨m,.ask (P.mem (by lia)) (P.mem (by lia)) ?_,EL _,by lia,S⟩
   rw[if_neg hc];refine .ask (P.mem (by lia)) (P.mem (by lia)) ?_
   rw[if_pos ht];exact .ret _
theorem we{p:Array Nat}(P:PP n p){m k:Nat}(hm:m<=n)(hk:k<m):g (kas_rev p 0 m) k=g p (m-1-k):=by
 refine AT ?_;unfold kas_rev;rw[getElem?_mirror (by rw[P.size];exact hm) _ (by lia)]
 split
 ·congr 1;lia
 ·congr 1;lia
theorem wb{p:Array Nat}(P:PP n p)(i j:Nat):PP n (kas_rev p i j):=P.of (mirror_perm _ _ _ _)
theorem AW{p:Array Nat}(P:PP n p){m:Nat}(hm:m<=n)(D:Dsc lt p m):Srt lt (kas_rev p 0 m) m:=λi j Ry hj=>by
 rw[we P hm (by lia),we P hm hj]
 exact D _ _ (by lia) (by lia)
theorem uW(O:LtO n lt){p:Array Nat}(P:PP n p)(h2:2<=n):∃m p',fX lt n (kas_count n p) (m,p')/\PP n p'/\1<=m/\m<=n/\Srt lt p' m:=by
 obtain⟨m,r,a1,a2,a3,a4⟩:=nK O P (n-1) 1 (EL _) (by lia) (Srt.one p)
 by_cases hm:m=n
 ·exact⟨m,p,r.bind (by rw[if_pos (by simp[hm])];exact .ret _),P,a1,a2,a3⟩
 ·have Qv:¬ ((m==n)=true):=by simpa using hm
  by_cases h1:m >1
  ·refine⟨m,p,r.bind ?_,P,a1,a2,a3⟩;rw[if_neg Qv,if_pos h1];refine .ask (P.mem (by lia)) (P.mem (by lia)) ?_
   rw[if_pos (a3 0 (m-1) (by lia) (by lia))]
   exact .ret _
  ·obtain rfl:m=1:=by lia
   have D2:Dsc lt p 2:=Dsc.more O (λi j x y=>by lia) (EL _) (a4 (by lia))
   obtain⟨d,rd,b1,b2,b3⟩:=pJ O P (n-2) 2 (by lia) (by lia) D2
   obtain⟨e,re,c1,c2,c3,c4⟩:=nK O (wb P 0 d) (n-d) d (by lia) (by lia) (AW P b2 b3)
   refine⟨e,kas_rev p 0 d,r.bind ?_,wb P 0 d,by lia,c2,c3⟩
   rw[if_neg Qv,if_neg h1];unfold kas_descPart;refine fX.bind (a:=(p,d,0)) rd ?_;rw[if_neg (by simp)]
   unfold kas_tail3;exact re.bind (.ret _)
theorem iL(O:LtO n lt){p:Array Nat}(P:PP n p){k:Nat}(hk:k<n)(S:Srt lt p k):∀(f l r:Nat),l<=r->r<=k->r-l<=f->(∀i,i<l->lt (g p i) (g p k)=true)->(∀i,r<=i->i<k->lt (g p k) (g p i)=true)->
  ∃l',fX lt n (kas_place p k f l r) l'/\l'<=k/\(∀i,i<l'->lt (g p i) (g p k)=true)/\(∀i,l'<=i->i<k->lt (g p k) (g p i)=true)
 |0,l,r,h1,h2,h3,a,b=>⟨l,.ret l,by lia,a,λi x y=>b i (by lia) y⟩
 |f+1,l,r,h1,h2,h3,a,b=>by
  unfold kas_place;by_cases hlr:l ≥ r
  ·rw[if_pos hlr];exact⟨l,.ret l,by lia,a,λi x y=>b i (by lia) y⟩
  ·rw[if_neg hlr];have hm:(l+r)/2<k:=by lia
   by_cases hc:lt (g p k) (g p ((l+r)/2))=true
   ·obtain⟨l',r',x1,x2,x3⟩:=iL O P hk S f l ((l+r)/2) (by lia) (by lia) (by lia) a λi hi hik=>by
     rcases Fg hi with z |z
     ·exact O.tr _ _ _ hc (S _ _ z hik)
     ·rw[<-z];exact hc
    refine⟨l',.ask (P.mem hk) (P.mem (by lia)) ?_,x1,x2,x3⟩
    rw[if_pos hc];exact r'
   ·have Sx:lt (g p k) (g p ((l+r)/2))=false:=by simpa using hc
    have ht:=O.tot _ _ (P.mem hk) (P.mem (show (l+r)/2<n by lia)) (λe=>by have:=P.inj hk (by lia) e;lia) Sx
    obtain⟨l',r',x1,x2,x3⟩:=iL O P hk S f ((l+r)/2+1) r (by lia) h2 (by lia) (λi hi=>by
     rcases Fg (Gn hi) with z |z
     ·exact O.tr _ _ _ (S _ _ z hm) ht
     ·rw[z];exact ht) b
    refine⟨l',.ask (P.mem hk) (P.mem (by lia)) ?_,x1,x2,x3⟩
    rw[if_neg hc];exact r'
theorem sj(O:LtO n lt):∀(f k:Nat) (p:Array Nat),k+f=n->PP n p->Srt lt p k->∃p',fX lt n (kas_bin f p k) p'/\PP n p'/\Srt lt p' n
 |0,k,p,hf,P,S=>⟨p,.ret p,P,by rw[<-hf];exact S⟩
 |f+1,k,p,hf,P,S=>by
  obtain⟨l,rl,x1,x2,x3⟩:=iL O P (show k<n by lia) S k 0 k (FH _) (EL _) (by lia) (λi h=>by lia) (λi h h'=>by lia)
  have at_:∀j,g (PY p k (k-l)) j=if j=l then g p k else if l<j/\j<=k then g p (j-1) else g p j:=λj=>by
   have e:=getElem?_bubble (xs:=p) (src:=k) (by rw[P.size];lia) (k-l) (by lia) j
   rw[show k-(k-l)=l by lia]at e
   split
   ·rename_i z;rw[if_pos z]at e;exact AT e
   ·rename_i z
    rw[if_neg z]at e;split
    ·rename_i y;rw[if_pos y]at e;exact AT e
    ·rename_i y;rw[if_neg y]at e;exact AT e
  have e1:g (PY p k (k-l)) l=g p k:=by rw[at_,if_pos rfl]
  have e2:∀j,l<j->j<=k->g (PY p k (k-l)) j=g p (j-1):=λj y z=>by rw[at_,if_neg (by lia),if_pos ⟨y,z⟩]
  have e3:∀j,j<l->g (PY p k (k-l)) j=g p j:=λj y=>by rw[at_,if_neg (by lia),if_neg (by lia)]
  have S':Srt lt (PY p k (k-l)) (k+1):=λi j Ry hj=>by
   rcases Hg j l with y |y |y
   ·rw[e3 i (by lia),e3 j y];exact S _ _ Ry (by lia)
   ·rw[y,e1,e3 i (by lia)];exact x2 i (by lia)
   ·rw[e2 j y (by lia)]
    rcases Hg i l with z |z |z
    ·rw[e3 i z];exact S _ _ (by lia) (by lia)
    ·rw[z,e1];exact x3 (j-1) (by lia) (by lia)
    ·rw[e2 i z (by lia)];exact S _ _ (by lia) (by lia)
  obtain⟨p',r',P',S''⟩:=sj O f (k+1) (PY p k (k-l)) (by lia) (P.of (bubble_perm _ _ _)) S'
  exact⟨p',rl.bind r',P',S''⟩
theorem o4(O:LtO n lt)(h2:2<=n):∃p,fX lt n (kas_sort n) p/\PP n p/\Srt lt p n:=by
 obtain⟨m,p,r,P,a1,a2,S⟩:=uW O (p:=NS (Fw n)) ⟨by simp⟩ h2
 by_cases hm:m<n
 ·obtain⟨p',r',P',S'⟩:=sj O (n-max m 1) (max m 1) p (by lia) P (by rw[show max m 1=m by lia];exact S)
  exact⟨p',r.bind (by rw[if_pos hm];exact r'),P',S'⟩
 ·obtain rfl:m=n:=by lia
  exact⟨p,r.bind (by rw[if_neg hm];exact .ret _),P,S⟩
def ltP(a b:Int×Int):Bool:=decide (a.1<b.1\/(a.1=b.1/\a.2<b.2))
theorem iE{a b c:Int×Int}(h1:ltP a b=true)(h2:ltP b c=true):ltP a c=true:=by
 unfold ltP at *;simp at *;lia
theorem ltP_asy{a b:Int×Int}(h1:ltP a b=true):ltP b a=false:=by
 unfold ltP at *;simp at *;lia
theorem ltP_tot{a b:Int×Int}(h:a≠b)(h1:ltP a b=false):ltP b a=true:=by
 unfold ltP at *;have:¬ (a.1=b.1/\a.2=b.2):=λz=>h (GD z.1 z.2)
 simp at *;lia
section
variable {prog:E1}{w:Fz}{A:FQ}{E:EG→EE→Prop}{s:EE}
theorem TK.two{h:GS}{x y:Int}{b:ES}(k:TK prog w h [x,y] b):∃o Qs n t u,h.get? b=some o∧o.cls=.type "tuple"∧o.data=.seq Qs n∧Qs.toList=[.int x t,.int y u]:=by
 obtain⟨o,Qs,n,ho,hc,hd,hi⟩:=k;cases QI:Qs.toList with
 |nil=>rw[QI]at hi;cases hi
 |cons v1 r=>
  rw[QI]at hi;cases hi with
  |cons h1 hr=>
   cases hr with
   |cons h2 hr2=>
    cases hr2;obtain⟨t,rfl⟩:=JP h1;obtain⟨u,rfl⟩:=JP h2;exact⟨o,Qs,n,t,u,ho,hc,hd,QI⟩
theorem wq{x y:ES}{a b:Int×Int}{Q:Bool->EE->Prop}(hx:TK prog w s.heap [a.1,a.2] x)(hy:TK prog w s.heap [b.1,b.2] y)(h:Q (ltP a b) s):E2 (Fm prog w) A (keyLt' (M4 true) (.ref x) (.ref y)) Q E s:=by
 obtain⟨o,Qs,n,t,u,ho,_,hd,hi⟩:=hx.two;obtain⟨o',its',n',t',u',RG,_,RT,QI⟩:=hy.two;refine kat_lt ho hd RG RT ?_;rw[hi,QI];refine kat_cons ((Ka prog w).eqBool (a:=a.1) (b:=b.1) (GO _ _ _ _) (GO _ _ _ _) ?_);by_cases e1:a.1=b.1
 ·rw[decide_eq_true e1];refine kat_yes (kat_cons ((Ka prog w).eqBool (a:=a.2) (b:=b.2) (GO _ _ _ _) (GO _ _ _ _) ?_));by_cases e2:a.2=b.2
  ·rw[decide_eq_true e2];refine kat_yes (kat_nil ?_);have z:ltP a b=false:=by unfold ltP;simp;lia
   rw[z]at h
   have z2:decide (Qs.size<its'.size)=false:=by
    rw[<-ER,<-ER,hi,QI];simp
   rw[z2];exact h
  ·rw[decide_eq_false e2];refine kat_no (kat_one _ _ (lt_int ?_));have z:ltP a b=decide (a.2<b.2):=by unfold ltP;rw[e1];simp
   rw[z]at h;exact h
 ·rw[decide_eq_false e1];refine kat_no (oneLt_int ?_);have z:ltP a b=decide (a.1<b.1):=by unfold ltP;simp[e1]
  rw[z]at h;exact h
abbrev PB:=List ((Int×Int)×ES)
abbrev refs(pb:PB):List EG:=pb.map λp=>EZ p.2
def dfl:(Int×Int)×ES:=((0,0),0)
theorem rN(pb:PB):(Fw pb.length).map (λi=>pb.getD i dfl)=pb:=by
 apply N1
 ·simp
 ·intro i h1 h2;simp at h1;simp[h1]
theorem pQ{pb:PB}{Q:MF->EE->Prop}(RH:∀p∈pb,TK prog w s.heap [p.1.1,p.1.2] p.2)(h0:0<pb.length)(h:Q (M4 true) s):E2 (Fm prog w) A (keyKind' (refs pb).toArray) Q E s:=by
 obtain⟨fs,hf,hl,hi⟩:∃fs,KatTups s.heap (refs pb) fs/\fs.length=pb.length/\∀v∈fs,∃n t,v=Fv n t:=by
  clear h h0
  induction pb with
  |nil=>exact⟨[],.nil,rfl,λv hv=>by simp at hv⟩
  |cons p r ih=>
   obtain⟨fs,hf,hl,hi⟩:=ih λq hq=>RH q (EB _ hq)
   obtain⟨o,Qs,n,t,u,ho,hc,hd,Rv⟩:=(RH p EF).two;refine⟨.int p.1.1 t::fs,.cons ho hc hd (by rw[<-Fy,Rv];rfl) hf,by simp[hl],λv hv=>?_⟩
   rcases EH.mp hv with z |z
   ·exact⟨_,_,z⟩
   ·exact hi v z
 refine kat_kind (T:=.type "int") hf (by lia) (λv hv=>?_) (by decide) h
 obtain⟨n,t,rfl⟩:=hi v hv;exact Looks.of_pure rfl
theorem yJ{a:ES}{pb:PB}{n:Nat}{P:Oj→EE→Prop}(ho:s.heap.get? a=some (KN "list" (refs pb).toArray n))(RH:∀p∈pb,TK prog w s.heap [p.1.1,p.1.2] p.2)(Ru:(pb.map (·.1)).Nodup)(h64:pb.length<64)
  (h:∀Q1:PB,Q1.Perm pb->(Q1.map (·.1)).Pairwise (λx y=>ltP x y=true)->P (.done (.ret .none)) {s with heap:=sortedHeap s.heap a (refs pb) (refs Q1).toArray }):
  E2 (Fm prog w) A (Builtin.«list.sort» ⟨[.ref a],[]⟩) P E s:=by
 have T4:(refs pb).length=pb.length:=by simp
 have SH:(refs pb).toArray.size=pb.length:=by simp
 rw[Ol];have ha:a<s.heap.objs.size:=EN ho;refine Ew (Mi ho rfl (Ew (I_ ho rfl ?_ (by rw[SH,F3];lia) (FH _))))
 obtain⟨e1,ho1⟩:∃e1,(s.heap.update a (FT λ_=>(#[]:Array EG))).get? a=some (KN "list" #[] e1):=⟨_,Om ho (λ_=>#[])⟩
 refine Ew (Kr ho1 rfl (Ew (MZ ?_ (by show (refs pb).length<=_;rw[T4,F3];lia))))
 refine Ew (LD ?_ (FH _));refine FB ?_;generalize hh6:((s.heap.update a (FT λ_=>(#[]:Array EG))).push (KN "tuple" (refs pb).toArray 0)).push (KN "list" #[] 0)=h6
 have old6:∀b o,b≠a->s.heap.get? b=some o->h6.get? b=some o:=λb o hb e=>by
  rw[<-hh6];exact EA _ (EA _ ((Fd _ _ (Ne.symm hb)).trans e))
 have T5:h6.get? a=some (KN "list" #[] e1):=by rw[←hh6];exact EA _ (EA _ ho1)
 have tk6:∀p∈pb,TK prog w h6 [p.1.1,p.1.2] p.2:=λp hp=>by
  obtain⟨o,Qs,k,hop,hc,r⟩:=RH p hp;refine⟨o,Qs,k,old6 p.2 o (λz=>?_) hop,hc,r⟩
  rw[z,ho]at hop;cases hop;exact absurd hc (by show ¬ (F7 "list"=F7 "tuple");decide)
 have QN:∀Q1:PB,Q1.Perm pb->(Q1.map (·.1)).Pairwise (λx y=>ltP x y=true)->P (.done (.ret .none)) {s with heap:=h6.update a (FT λ_=>(refs Q1).toArray) }:=λQ1 p1 p2=>by
  rw[<-hh6];exact h Q1 p1 p2
 show E2 (Fm prog w) A _ P E {s with heap:=h6 }
 dsimp only;by_cases h2:(refs pb).toArray.size<2
 ·rw[if_pos h2,if_pos h2];refine Ew (Ez ?_);rw[StateT.run_pure];refine Ew (Ez ?_);dsimp only
  have eout:(arrOf (SortSt.mk' general' ((refs pb).toArray.zip (refs pb).toArray) #[] 7 none)).map (·.2)=(refs pb).toArray:=by
   show (((refs pb).toArray.zip (refs pb).toArray)).map (·.2)=_;apply IE.mp
   have zip2:∀l:List EG,(l.zip l).map (·.2)=l:=λl=>by
    induction l with
    |nil=>rfl
    |cons x r ih=>rw[Hb,Fh,ih]
   rw[Kf,N2];exact zip2 _
  rw[eout];refine Ew (Kr T5 rfl (Ew (I_ T5 rfl ?_ (FH _) (by rw[SH,F3];lia))))
  show E2 _ _ (if (e1 !=e1)=true then _ else _) _ _ _
  rw[if_neg (by simp)]
  refine Ez (QN pb (K3 _) ?_)
  match pb,SH,h2 with
  |[],_,_=>simp
  |[_],_,_=>simp
  |_::_::r,SH,h2=>rw[SH]at h2;exact absurd h2 (by simp)
 ·rw[if_neg h2,if_neg h2];rw[SH]at h2;have h2':2<=(refs pb).length:=by rw[T4];lia
  refine Ew (pQ (s:={s with heap:=h6 }) tk6 (by lia) ?_)
  have inj:∀i j,i<pb.length->j<pb.length->i≠j->(pb.getD i dfl).1≠(pb.getD j dfl).1:=λi j hi hj Ry e=>by
   refine Ry ((Kb (xs:=pb.map (·.1)) (h₀:=by simpa using hi) (h₁:=by simpa using hj) Ru).mp ?_)
   simpa [hi,hj] using e
  have O:LtO pb.length (λi j=>ltP (pb.getD i dfl).1 (pb.getD j dfl).1):=⟨λi j k=>iE,λi j hi hj Ry=>ltP_tot (inj i j hi hj Ry),λi j=>ltP_asy⟩
  obtain⟨p,R,SI,S⟩:=o4 O (by lia)
  have hcmp:∀i j C,i<pb.length->j<pb.length->C (ltP (pb.getD i dfl).1 (pb.getD j dfl).1) {s with heap:=h6 }->kas_ask prog w A (M4 true) (refs pb) i j C {s with heap:=h6 }:=λi j C hi hj c=>by
   unfold kas_ask;have ei:(refs pb).getD i Fb=.ref (pb.getD i dfl).2:=by simp[hi]
   have ej:(refs pb).getD j Fb=.ref (pb.getD j dfl).2:=by simp[hj]
   rw[ei,ej];have mi:pb.getD i dfl∈pb:=by simp[hi]
   have mj:pb.getD j dfl∈pb:=by simp[hj]
   exact wq (s:={s with heap:=h6 }) (tk6 _ mi) (tk6 _ mj) c
  have tree:(kas_sort (refs pb).length).kasWp (kas_ask prog w A (M4 true) (refs pb)) (λp' s'=>p'=p/\s'={s with heap:=h6 }) {s with heap:=h6 }:=by
   rw[T4];exact R.wp hcmp ⟨rfl,rfl⟩
  refine Ew (He (kat_run (Q:=λQ6 s'=>s'={s with heap:=h6 }/\failedOf Q6=none/\(arrOf Q6).map (·.2)=NS (p.toList.map λi=>(refs pb).getD i Fb)) rfl h2' (by rw[T4];exact h64) (λp' Q6 s' _ a2 a3 a4=>?_) tree) ?_ λ_ _ e=>e)
  ·obtain⟨rfl,rfl⟩:=a4;exact⟨rfl,a3,kat_snds rfl a2⟩
  ·rintro ⟨⟨⟩,Q6⟩ s' ⟨rfl,hf,hout⟩;dsimp only;rw[hout];have Qx:∀i∈p.toList,i<pb.length:=λi hi=>E5.mp (SI.perm.mem_iff.mp hi)
   have er:(p.toList.map λi=>(refs pb).getD i Fb)=refs (p.toList.map λi=>pb.getD i dfl):=by
    unfold refs;rw[Fn];refine GW λi hi=>?_
    have:=Qx i hi;simp[this]
   rw[er]
   have Tp:(p.toList.map λi=>pb.getD i dfl).Perm pb:=by
    refine (SI.perm.map _).trans ?_;rw[rN]
   have hs2:(refs (p.toList.map λi=>pb.getD i dfl)).toArray.size=pb.length:=by simp[SI.size]
   refine Ew (Kr T5 rfl (Ew (I_ T5 rfl ?_ (FH _) (by rw[hs2,F3];lia))))
   rw[hf];show E2 _ _ (if (e1 !=e1)=true then _ else _) _ _ _
   rw[if_neg (by simp)]
   refine Ez (QN _ Tp ?_);rw[Fn,FU,FA];intro i j hi hj Ry;have Ui:j<pb.length:=by rw[ER,SI.size]at hj;exact hj
   have q:=S i j Ry Ui;have ei:g p i=p.toList[i]:=by simp[g,Hh,SI.size,show i<pb.length by lia]
   have ej:g p j=p.toList[j]:=by simp[g,Hh,SI.size,Ui]
   rw[ei,ej]at q;exact q
end
end ST
namespace ST
open PySem PySem.W PyProof.Rows PySem.Calls
theorem yA{α β:Type}(f:α->β){l m:List β}(h:l.Perm m):∀kb:List α,m=kb.map f->∃Rb:List α,Hz Rb kb/\l=List.map f Rb:=by
 induction h with
 |nil=>intro kb e;exact⟨kb,.refl _,e⟩
 | @cons x l m _ ih=>
  intro kb e
  match kb,e with
  |[],e=>simp at e
  |k::kb,e=>
   rw[Fh,On]at e;obtain⟨Rb,p,e'⟩:=ih kb e.2;exact⟨k::Rb,p.cons k,by rw[Fh,<-e',e.1]⟩
 |swap x y l=>
  intro kb e
  match kb,e with
  |[],e=>simp at e
  |[_],e=>simp at e
  |k::k'::kb,e=>
   simp only[Fh,On]at e;exact⟨k'::k::kb,.swap k k' kb,by rw[Fh,Fh,<-e.2.2,e.1,e.2.1]⟩
 |trans _ _ ih1 ih2=>
  intro kb e;obtain⟨kb2,p2,e2⟩:=ih2 kb e;obtain⟨Uj,p1,e1⟩:=ih1 kb2 e2;exact⟨Uj,p1.trans p2,e1⟩
def ptsOf(kb:List (List Int×ES)):PB:=kb.map λp=>((p.1.getD 0 0,p.1.getD 1 0),p.2)
section
variable {prog:E1}{w:Fz}{A:FQ}{E:EG→EE→Prop}{s:EE}
theorem call_sorted_set{S:ES}{kb:List (List Int×ES)}{Q:EG->EE->Prop}(hh:A.handled=none)(P:SP prog w s.heap S kb)(h64:kb.length<64)(h2:∀p∈kb,p.1.length=2)
  (h:∀(h1 h':GS) (tk:Nat) (pb:PB) (e:Nat),Hz pb (ptsOf kb)→(pb.map (·.1)).Pairwise (λx y=>ltP x y=true)→(∀b o,s.heap.get? b=some o→h1.get? b=some o)→(∀b o,h1.get? b=some o→h'.get? b=some o)→h'.get? h1.objs.size=some (KN "list" (refs pb).toArray e)→Q (.ref h1.objs.size) {s with heap:=h',toks:=tk }):
  E2 (Fm prog w) A (call (.builtin "sorted") [.ref S]) Q E s:=by
 obtain⟨⟨o,es,ep,t,ho,hex,hd,he,T,hl,hp,_,_⟩,hk,Ru⟩:=P;have hsz:es.size=kb.length:=by rw[<-ER,he];simp[ents]
 have O:SO prog w o es ep t (kb.map λp=>hsh prog w p.1):=⟨hex,hd,T,by rw[Ex,hsz],hl,hp⟩
 have two:∀p∈kb,p.1=[p.1.getD 0 0,p.1.getD 1 0]:=λp QW=>by
  have:=h2 p QW
  match hq:p.1,this with
  |[x,y],_=>rfl
 refine call_function_entry kind_sorted plain_sorted entry_sorted (args_sorted1 _) ?_;unfold Builtin.«sorted»;refine Ew (m:=checkCount "sorted" 1 1 _) (Ez ?_);refine Ew (kdu_collect (A:=A.in1) (Ap O) hh ho (by rw[hsz,F3];lia) λh' tk acc keep SJ=>?_)
 have Rw:acc.toList=cB w S es ep:=by
  apply Hj;intro i;rcases Gy i acc.size with z |z
  ·rw[Fy,F5 z];exact (SJ.2 i _ (F5 z)).symm
  ·rw[Fo (by simpa using z),Fo]
   rw[(fk w S es ep).length_eq,Ex,ER,<-SJ.1];exact z
 obtain⟨Uj,pk,ek⟩:=yA (λ(p:List Int×ES)=>EZ p.2) (fk w S es ep) kb (by rw[he];unfold ents;rw[Fn];rfl)
 have QZ:acc.toList=refs (ptsOf Uj):=by
  rw[Rw,ek];unfold refs ptsOf;rw[Fn];rfl
 have Rl:(ptsOf Uj).length=kb.length:=by unfold ptsOf;rw[Ex,pk.length_eq]
 have hlenA:acc.toList.length=kb.length:=by rw[QZ];simp[Rl]
 refine Ew (LD ?_ (by rw[hlenA,F3];lia))
 have hD:(h'.push {cls:=.type "list",data:=.seq acc.toList.toArray }).get? h'.objs.size=some (KN "list" (refs (ptsOf Uj)).toArray 0):=by
  rw[<-QZ];exact EM _ rfl
 have T3:∀p∈ptsOf Uj,TK prog w (h'.push {cls:=.type "list",data:=.seq acc.toList.toArray }) [p.1.1,p.1.2] p.2:=λp QW=>by
  obtain⟨q,hq,rfl⟩:=ED.mp QW;have QJ:=pk.mem_iff.mp hq;obtain⟨oq,Qs,k,hoq,r⟩:=hk q QJ;have e2:=two q QJ;refine⟨oq,Qs,k,EA _ (keep _ _ hoq),?_⟩;rw[<-e2];exact r
 have nd1:((ptsOf Uj).map (·.1)).Nodup:=by
  have n1:(Uj.map (·.1)).Nodup:=((pk.map (·.1)).nodup_iff).mpr Ru;unfold ptsOf;rw[Fn];refine FU.mpr ((FU.mp n1).imp_of_mem λ{a b} ha hb RB=>?_)
  intro z;have ea:=two a (pk.mem_iff.mp ha);have eb:=two b (pk.mem_iff.mp hb);have z':(a.1.getD 0 0,a.1.getD 1 0)=(b.1.getD 0 0,b.1.getD 1 0):=z;rw[Nq]at z';rw[z'.1,z'.2]at ea;exact RB (ea.trans eb.symm)
 refine Ew (FB (FP OR ⟨_,hD,rfl⟩ Oo ?_ (OS _)));refine yJ (s:={s with heap:=h'.push {cls:=.type "list",data:=.seq acc.toList.toArray },toks:=tk }) hD T3 nd1 (by lia) λQ1 pp so=>⟨_,rfl,Ez ⟨_,rfl,?_⟩⟩
 obtain⟨e,eD⟩:=sortedHeap_at (out:=(refs Q1).toArray) hD;refine h h' _ tk Q1 e (pp.trans ?_) so keep (λb x SV=>?_) eD
 ·unfold ptsOf;exact pk.map _
 ·have Qx:=EN SV;rw[OT (Fe Qx) (by rw[Ga];exact GL Qx)]
  exact EA _ SV
end
end ST
namespace ST
open PySem
def ins(x:Int×Int):List (Int×Int)->List (Int×Int)
 |[]=>[x]
 |y::r=>if x=y then y::r else if ltP x y=true then x::y::r else y::ins x r
def srt(pts:List (Int×Int)):List (Int×Int):=pts.foldr ins []
theorem ins_mem(x z:Int×Int):∀l,z∈ins x l↔z=x\/z∈l
 |[]=>by simp[ins]
 |y::r=>by
  unfold ins;split
  ·rename_i h;subst h;simp
  ·split
   ·simp
   ·rw[EH,ins_mem x z r,EH];constructor
    ·rintro (h |h |h)
     ·exact .inr (.inl h)
     ·exact .inl h
     ·exact .inr (.inr h)
    ·rintro (h |h |h)
     ·exact .inr (.inl h)
     ·exact .inl h
     ·exact .inr (.inr h)
abbrev Asc(l:List (Int×Int)):Prop:=l.Pairwise (λx y=>ltP x y=true)
theorem ins_asc(x:Int×Int):∀l,Asc l->Asc (ins x l)
 |[],_=>by simp[ins]
 |y::r,h=>by
  unfold ins;split
  ·exact h
  ·rename_i Qv
   obtain⟨h1,h2⟩:=Fq.mp h;split
   ·rename_i Qx
    refine Fq.mpr ⟨λz hz=>?_,h⟩
    rcases EH.mp hz with e |e
    ·rw[e];exact Qx
    ·exact iE Qx (h1 z e)
   ·rename_i Qx
    refine Fq.mpr ⟨λz hz=>?_,ins_asc x r h2⟩
    rcases (ins_mem x z r).mp hz with e |e
    ·rw[e];exact ltP_tot Qv (by simpa using Qx)
    ·exact h1 z e
theorem srt_mem(z:Int×Int):∀l,z∈srt l↔z∈l
 |[]=>by simp[srt]
 |y::r=>by
  show z∈ins y (srt r)↔_;rw[ins_mem,srt_mem z r,EH]
theorem srt_asc:∀l,Asc (srt l)
 |[]=>IZ
 |y::r=>ins_asc y (srt r) (srt_asc r)
theorem asc_irr{x:Int×Int}:ltP x x=false:=by unfold ltP;simp
theorem asc_one:∀{l m:List (Int×Int)},Asc l->Asc m->(∀z,z∈l↔z∈m)->l=m
 |[],[],_,_,_=>rfl
 |[],y::r,_,_,h=>by have:=(h y).mpr EF;simp at this
 |x::l,[],_,_,h=>by have:=(h x).mp EF;simp at this
 |x::l,y::m,hl,hm,h=>by
  obtain⟨a1,a2⟩:=Fq.mp hl;obtain⟨b1,b2⟩:=Fq.mp hm
  have e:x=y:=by
   rcases EH.mp ((h x).mp EF) with z |z
   ·exact z
   ·rcases EH.mp ((h y).mpr EF) with z' |z'
    ·exact z'.symm
    ·have:=ltP_asy (b1 x z);rw[a1 y z']at this;cases this
  subst e;congr 1;refine asc_one a2 b2 λz=>⟨λhz=>?_,λhz=>?_⟩
  ·rcases EH.mp ((h z).mp (EB _ hz)) with e |e
   ·have:=a1 z hz;rw[e,asc_irr]at this;cases this
   ·exact e
  ·rcases EH.mp ((h z).mpr (EB _ hz)) with e |e
   ·have:=b1 z hz;rw[e,asc_irr]at this;cases this
   ·exact e
theorem asc_srt{l:List (Int×Int)}(h:Asc l):srt l=l:=asc_one (srt_asc l) h λz=>srt_mem z l
theorem ua(x:Int×Int):∀l,(ins x l).length<=l.length+1
 |[]=>by simp[ins]
 |y::r=>by
  have:=ua x r;unfold ins;split
  ·simp
  ·split
   ·simp
   ·simp only[E9];lia
theorem srt_len:∀l,(srt l).length<=l.length
 |[]=>EL _
 |y::r=>by
  have h1:=ua y (srt r);have h2:=srt_len r;show (ins y (srt r)).length<=_;simp only[E9];lia
end ST
namespace L2
open PySem PySem.Spec PyProof.Rows
theorem Ep{p:Nat->ES->Prop}{n:Nat}(h:∀i,i<n->∃b,p i b):∃f:Nat->ES,∀i,i<n->p i (f i):=by
 refine⟨λi=>if k:i<n then Classical.choose (h i k) else 0,λi hi=>?_⟩
 dsimp only;rw[dif_pos hi];exact Classical.choose_spec (h i hi)
theorem jN:GY "set"=some (.type "set"):=by decide+kernel
end L2
namespace ST
open PySem
section
variable {prog:E1}{w:Fz}{A:FQ}{s:EE}{R:NP→EE→Prop}{I:ES}{fp wr:List ES}{G:Array HP→Array HP→Prop}{n:Nat}{P:Nat→EG→Prop}{St:Nat→EE→Prop}{T:String}
def xh(prog:E1)(w:Fz)(T:String):Prop:=∀(A:FQ) (E:EG->EE->Prop) (s:EE) (r:ES) (Q:Bool->EE->Prop),s.TypeIs (.ref r) T->(∀b,Q b s)->E2 (Fm prog w) A (Builtin.List.listLengthHint (.ref r)) Q E s
theorem vX(W:Qm prog w A.in1 I fp wr G n P St)(hT:∀i s,St i s→s.TypeIs (.ref I) T)(hl:(F7 T==F7 "list")=false)(ht:(F7 T==F7 "tuple")=false)(hint:xh prog w T)(S:ES)(res:EG)(c₀:Nat)(Rj:St 0 s)(Q8:S ∉ fp)(hI:I∈fp)
  (hS:s.heap.get? S=some {cls:=.type "list",data:=.seq #[] c₀ })
  (hR:∀s' Q9 c',PX (S::wr) G s s'→s'.heap.get? S=some {cls:=.type "list",dict:=none,data:=.seq Q9 c',slots:=#[] }→ItemsOf P Q9 n→R (.ok (.ret res)) s') (hn:n≤sizeLine):
  E2 (Fm prog w) A.in1 (Builtin.List.listExtendWith (.ref S) (.ref I) res)
   (λQN s'=>match QN with | .done f=>R (.ok f) s' | .again c'=>c'.quiet=true/\IK (Fm prog w) A c' R s') (λe s'=>R (.error e) s') s:=by
 have hSI:S≠I:=λe=>Q8 (e ▸ hI)
 unfold Builtin.List.listExtendWith;refine Ew (Jv (hT 0 _ Rj) ?_);have k1:Builtin.List.listSameRef (.ref S) (.ref I)=false:=by simp[Builtin.List.listSameRef,hSI]
 simp only[k1,hl,ht,Px,EK,if_false];refine Ew (W.self 0 _ _ _ Rj (Ew (FB (hint _ _ _ _ _ (hT 0 _ Rj) λb=>?_))))
 refine Il (λ_=>?_) (λ_=>?_)
 ·refine Ew (Jr (Ew ?_));show E2 _ A.in1 (Jh S (·.push .none) >>=λ_=>Jh S (·.pop)) _ _ _
  refine Ew (Gv hS rfl ?_);have g2:=Fp (FT (·.push Fb)) hS rfl;refine Gv (hz:=by seq_fits) g2 rfl ?_
  have g3:=Fp (FT (·.pop)) g2 rfl;have QX:∀b o,b≠S->s.heap.get? b=some o->((s.heap.update S (FT (·.push Fb))).update S (FT (·.pop))).get? b=some o:=λb o hb e=>(Fd _ _ (Ne.symm hb)).trans ((Fd _ _ (Ne.symm hb)).trans e)
  refine Ez ⟨Gk Gx _,MQ W hn _ Q8 _ n 0 _ _ _ rfl (FH _) (W.frame 0 s _ s.toks Rj (EL _) λb hb o e=>QX b o (λz=>Q8 (z ▸ hb)) e) g3 (ItemsOf.nil P) λs' Q9 c' m g' it=>?_⟩
  exact hR s' Q9 c' (Moved.trans W.gtrans ((Moved.refl W.grefl).then_heap (EL _) λb o hb e=>QX b o (λz=>hb (z ▸ EF)) e) m) g' it
 ·exact Ez ⟨Gk Gx _,MQ W hn _ Q8 _ n 0 _ _ _ rfl (FH _) Rj hS (ItemsOf.nil P) λs' Q9 c' m g' it=>hR s' Q9 c' m g' it⟩
theorem zU(W:Qm prog w A.in1 I fp wr G n P St)(hT:∀i s,St i s→s.TypeIs (.ref I) T)(hl:(F7 T==F7 "list")=false)(ht:(F7 T==F7 "tuple")=false)(hint:xh prog w T)(S:ES)(Rj:St 0 s)(Q8:S ∉ fp)(hI:I∈fp)
  (hS:s.heap.get? S=some {cls:=.type "list",data:=.seq #[] })
  (hR:∀s' Q9 c',PX (S::wr) G s s'→s'.heap.get? S=some {cls:=.type "list",dict:=none,data:=.seq Q9 c',slots:=#[] }→ItemsOf P Q9 n→R (.ok (.ret .none)) s') (hn:n≤sizeLine):
  E2 (Fm prog w) A.in1 (Builtin.«list.__init__» ⟨[.ref S,.ref I],[]⟩)
   (λQN s'=>match QN with | .done f=>R (.ok f) s' | .again c'=>c'.quiet=true/\IK (Fm prog w) A c' R s') (λe s'=>R (.error e) s') s:=by
 show E2 _ A.in1 (Builtin.List.listItems (.ref S) >>=λold=>Builtin.List.listUpdate (.ref S) (λ_=>#[]) >>=λ_=>letGo old.toList.reverse >>=λ_=>Builtin.List.listExtendWith (.ref S) (.ref I) .none) _ _ s
 refine Ew ?_;unfold Builtin.List.listItems;refine Ew (F2 hS rfl (Ez ?_));show E2 _ A.in1 (Jh S (λ_=>#[]) >>=λ_=>letGo (#[]:Array EG).toList.reverse >>=λ_=>Builtin.List.listExtendWith (.ref S) (.ref I) .none) _ _ s
 refine Ew (Gv hS rfl ?_);have g2:=Fp (FT (λ_=>(#[]:Array EG))) hS rfl
 have QX:∀b o,b≠S->s.heap.get? b=some o->(s.heap.update S (FT (λ_=>(#[]:Array EG)))).get? b=some o:=λb o hb e=>(Fd _ _ (Ne.symm hb)).trans e
 refine Ew (Ia ?_);refine vX W hT hl ht hint S .none _ (W.frame 0 s _ s.toks Rj (EL _) λb hb o e=>QX b o (λz=>Q8 (z ▸ hb)) e) Q8 hI g2 (λs' Q9 c' m g' it=>?_) hn
 exact hR s' Q9 c' (Moved.trans W.gtrans ((Moved.refl W.grefl).then_heap (EL _) λb o hb e=>QX b o (λz=>hb (z ▸ EF)) e) m) g' it
variable {E:EG→EE→Prop}
theorem call_list_it{Q:EG→EE→Prop}(W:Qm prog w A.in1.in1 I fp wr G n P St)(hT:∀i s,St i s→s.TypeIs (.ref I) T)(hl:(F7 T==F7 "list")=false)(ht:(F7 T==F7 "tuple")=false)(hint:xh prog w T)(Rj:St 0 s)(hfp:∀b∈fp,b<s.heap.objs.size)(hI:I∈fp)
  (hQ:∀s' Q9 c',PX (s.heap.objs.size::wr) G {s with heap:=s.heap.push {cls:=.type "list",data:=.seq #[] } } s'→
   s'.heap.get? s.heap.objs.size=some {cls:=.type "list",dict:=none,data:=.seq Q9 c',slots:=#[] }→ItemsOf P Q9 n→Q (.ref s.heap.objs.size) s') (hn:n≤sizeLine):
  E2 (Fm prog w) A (call (.type "list") [.ref I]) Q E s:=by
 have Q8:s.heap.objs.size ∉ fp:=λhm=>Fl _ (hfp _ hm)
 refine OU (Q₁:=λobj Qw=>obj=.ref s.heap.objs.size∧Qw={s with heap:=s.heap.push {cls:=.type "list",data:=.seq #[] } }) M5 (LF _) LG (code_list_new _ ⟨rfl,rfl⟩) λobj Qw h₁=>?_
 obtain⟨rfl,rfl⟩:=h₁;have hS:(s.heap.push {cls:=.type "list",data:=.seq #[] }).get? s.heap.objs.size=some {cls:=.type "list",data:=.seq #[] }:=EM _ rfl;refine⟨⟨_,hS,rfl⟩,Lo _ _,zU W hT hl ht hint _ (W.frame 0 s _ s.toks Rj (EL _) λb _ o e=>EA _ e) Q8 hI hS (λs' Q9 c' m g' it=>?_) hn⟩
 exact⟨rfl,hQ s' Q9 c' m g' it⟩
end
theorem Ar:MC (.type "list_reverseiterator") "__len__"=pure none:=by rw[IS,Hq];kernel_rfl
theorem li:Slot "list_reverseiterator" "__length_hint__" "list_reverseiterator.__length_hint__":=
 .of (owner:="list_reverseiterator") (n:="__length_hint__") (by rw[IS,Hq];kernel_rfl) (by decide+kernel) (by decide+kernel) (by decide+kernel) (by first |exact .inl (by decide+kernel) |exact .inr (by decide+kernel)) (by rw[J1];kernel_rfl)
theorem hint_rev(prog:E1)(w:Fz):xh prog w "list_reverseiterator":=λA E s r Q hT h=>by
 unfold Builtin.List.listLengthHint;refine Ew (Gu hT Ar ?_);show E2 _ A (specialOf (EZ r) (Str.ofString "__length_hint__") >>=_) _ _ _;refine Ew (Gu hT li.lookup ?_);generalize hid:("list_reverseiterator.__length_hint__":String)=id0
 wp_delta
 rw[show splitId id0=some ("list_reverseiterator","__length_hint__") from by subst hid;decide+kernel]
 subst hid;refine Ew (GK (T:="list_reverseiterator") (b:=true) hT (by rw[J1];kernel_rfl) ?_)
 refine Il (λz=>absurd z (by decide)) (λ_=>?_)
 refine Il (λ_=>?_) (λz=>absurd (by decide+kernel) z)
 refine Il (λz=>absurd z (by decide+kernel)) (λ_=>Ez (h _))
end ST
namespace L2
open PySem PySem.Spec PyProof.Rows
theorem lr:GY "reversed"=some (.type "reversed"):=by decide+kernel
theorem aO.rev:∀{xs:List V}{us:List EG},aO xs us->aO xs.reverse us.reverse:=λ{xs us} r=>by
 induction r with
 |nil=>exact .nil
 | @cons x u xs us r1 r2 ih=>
  rw[Ja,Ja]
  have app:∀{a:List V}{b:List EG},aO a b->aO (a++[x]) (b++[u]):=λ{a b} q=>by
   induction q with
   |nil=>exact .cons r1 .nil
   |cons q1 _ ih'=>exact .cons q1 ih'
  exact app ih
theorem Rps.rev{K:EC}{H:Hp}{vs:List V}{xs:List U}(r:Rps K H vs xs):Rps K H vs.reverse xs.reverse:=⟨by simp[r.len],λi v x h1 h2=>by
 have hi:i<vs.length:=by have:=aw h1;simpa using this
 have hx:i<xs.length:=by rw[<-r.len];exact hi
 rw[GG hi]at h1;rw[GG hx,<-r.len]at h2;exact r.at_ _ v x h1 h2⟩
section
variable {X:Cx}{H0:Hp}{O0:List ES}{ps:PSt}{e k:Expr}{x:U}{xs:List U}{pos QF p p' p2:Pos}
theorem zO{K:EC}{H:Hp}{v:V}(rp:Rp K H v x)(hx:x=.lst xs\/x=.scr xs):∃a vs,v=.ref a/\SqL K H a vs/\Rps K H vs xs:=by
 rcases hx with rfl |rfl
 ·cases rp with
  |lst hq hl hh=>exact⟨_,_,rfl,SqL.of hq,hl,hh⟩
 ·cases rp with
  |scr hq hl hh=>exact⟨_,_,rfl,hq,hl,hh⟩
theorem DK(he:Ev X H0 O0 ps e x)(hk:Ev X H0 O0 ps k (.int (-1)))(hx:x=.lst xs\/x=.scr xs):EvN X H0 O0 ps (.Subscript e (.Slice none none (some k) p2) pos) xs.reverse:=by
 rintro pins s σ H Q I ⟨O,R,q⟩;refine NB (thn (he pins s σ H (λv H1=>aI H H1/\Rp X.K (hid H1 O) v x) I ⟨O,R,λv H1 s1 r1=>⟨s1,r1⟩⟩) λu s1 ⟨v,H1,I1,r1,sm,rp⟩=>?_)
 obtain⟨a,vs,rfl,hq,rs⟩:=zO rp hx;cases r1;refine wpAny_Slice ?_;rw[Nd];refine Ez (Ez ?_);rw[evalPart_some];refine thn (hk pins s1 σ H1 (λv H2=>aI H1 H2/\v=.int (-1)) I1 ⟨O,R.go sm,λv H2 s2 r2=>⟨s2,by cases r2;rfl⟩⟩) λuk s2 hy=>?_
 obtain⟨vk,H2,I2,rk,s12,rfl⟩:=hy;obtain⟨t,rfl⟩:=rk;have I3:Inv X pins σ H2 {s2 with heap:=s2.heap.push {cls:=.type "slice",data:=.fields #[.none,.none,.int (-1) t] } }:=I2.kept (t':=s2.toks) λb ob z=>EA _ z
 obtain⟨Qs,rv,pl,hz⟩:=I3.list (s12.seq (ao.seq hq));have Qz:=rv.length;show E2 (Fm X.prog X.w) X.A (LA e (.Slice none none (some k) p2) (.ref a) (.ref s2.heap.objs.size)) (EP X pins σ Q) X.xe {s2 with heap:=s2.heap.push {cls:=.type "slice",data:=.fields #[.none,.none,.int (-1) t] } }
 refine tail_any (ops:=[.ref a,.ref s2.heap.objs.size]) pl.isList.typeIs slot_list_getitem.lookup ?_ (by with_unfolding_all rfl)
 refine Lg pl.isList (Nf ..) .none .none (IsPart.int _ _) (by simp) ?_ (by rw[EU];lia)
 rw[PySem.W.krv_pick];generalize hn:(s2.heap.push {cls:=.type "slice",data:=.fields #[.none,.none,.int (-1) t] }).objs.size=D;have fr:H2 D=none:=I3.hok.fresh (by rw[<-hn];exact EL _)
 refine⟨.ref D,upd H2 D (.lst vs.reverse),I3.laid (t':=s2.toks) (o:=.lst vs.reverse) (λb ob z=>EA _ z) (by rw[<-hn];exact EL _) ⟨by rw[FD];exact hz,Qs.reverse,0,rv.rev,?_⟩,rfl,?_⟩
 ·rw[<-hn];exact EM _ rfl
 ·refine q D _ _ ((sm.trans s12).trans (aL fr _)) ((sm.trans s12).free fr) aJ ?_;exact (rs.rev.same (aT s12)).same (bu (aL fr _) fr)
theorem vK(hc:X.calm=true)(hg:Gl X "list")(hm:X.mg "list"=none)(hgr:Gl X "reversed")(hmr:X.mg "reversed"=none)(ha:Ev X H0 O0 ps e (.lst xs))
  (he:EO [e] X.env=(false,Io e X.env)::EO [] X.env:=by rfl):EvN X H0 O0 ps (.Call (.Name "list" p) [.Call (.Name "reversed" p') [e] [] QF] [] pos) xs.reverse:=by
 rintro pins s σ H Q I ⟨O,R,q⟩;have hh:X.A.handled=none:=I.ok.hd hc;refine F0 (cg I hg hm IT ?_);refine callWith_type1 (e:=.Call (.Name "reversed" p') [e] [] QF) (rest:=[]) ?_ aQ rfl;rw[aQ];show E2 _ _ (Nw ((false,Io (.Call (.Name "reversed" p') [e] [] QF) X.env)::Ie pos (EO [] X.env))) _ _ s;refine G8 ?_;refine F0 (cg I hgr hmr lr ?_);refine callWith_type1 (thn (cI ha eI he QF pins s σ H (λvs H1=>∃v,vs=[v]/\aI H H1/\Rp X.K (hid H1 O) v (.lst xs)) I ⟨O,R,λv H1 s1 r1=>⟨v,rfl,s1,r1⟩⟩) λus s1 hx=>?_) he rfl
 obtain⟨vs,H1,I1,rv,v,rfl,sm,rp⟩:=hx;obtain⟨u,rfl,ru⟩:=c9 rv;obtain⟨a,ws,rfl,hq,rs⟩:=zO rp (.inl rfl);cases ru;obtain⟨Qs,RK,pl,hz⟩:=I1.list (ao.seq hq);have Qz:=RK.length;have hsz:Qs.toArray.size=Qs.length:=by simp
 refine call_reversed_list pl.isList ?_;have I2:Inv X pins σ H1 {s1 with heap:=s1.heap.push (Qn a ((Qs.toArray.size:Int)-1)) }:=I1.kept (t':=s1.toks) λb ob z=>EA _ z
 refine HF ?_;have Rw:a<s1.heap.objs.size:=by obtain⟨o,ho,_⟩:=pl.isList;exact EN ho
 have W:=(Walks.listRev (prog:=X.prog) (w:=X.w) (A:=X.A.in1.in1) hh s1.heap.objs.size a (Fe Rw) Qs.toArray).toS;refine ST.call_list_it (T:="list_reverseiterator") (s:={s1 with heap:=s1.heap.push (Qn a ((Qs.toArray.size:Int)-1)) }) W (λi s' st=>st.2.1.typeIs) (by decide) (by decide) (ST.hint_rev _ _) ⟨FH _,⟨_,EM _ rfl,rfl,by simp[Qn]⟩,pl.isList.push _⟩ (λb hb=>?_) (by simp) (λs3 acc c m hD Rv=>?_) (by rw[hsz];lia)
 ·show b<(s1.heap.push _).objs.size;rw[Ga];simp at hb;rcases hb with z |z
  ·rw[z];exact F8 _
  ·rw[z];exact GL Rw
 ·obtain⟨h3,g3,d3,tk3,os3⟩:=s3;obtain rfl:g3=s1.gens:=m.gens;obtain rfl:d3=s1.drawn:=m.drawn;obtain rfl:os3=s1.os:=m.os;have To:(s1.heap.push (Qn a ((Qs.toArray.size:Int)-1))).objs.size=s1.heap.objs.size+1:=Ga ..
  have keep:∀b ob,s1.heap.get? b=some ob->h3.get? b=some ob:=λb ob z=>by
   have hb:=EN z;refine m.heap b ob (λy=>?_) (EA _ (EA _ z))
   rcases EH.mp y with y |y
   ·rw[y]at hb;have SV:s1.heap.objs.size+1<s1.heap.objs.size:=by rw[<-To];exact hb
    exact absurd SV (by lia)
   ·rw[EJ.mp y]at hb;exact Fl _ hb
  have SJ:acc.toList=Qs.reverse:=by
   apply Hj;intro i;rcases Gy i acc.size with z |z
   ·have y:=Rv.2 i _ (F5 z);have hi:i<Qs.length:=by rw[Rv.1,hsz]at z;exact z
    rw[Fy,F5 z,GG hi,<-y,hsz];simp
   ·have hi:Qs.length<=i:=by rw[Rv.1,hsz]at z;exact z
    rw[Fo (by simpa using z),Fo (by simpa using hi)]
  generalize hn:(s1.heap.push (Qn a ((Qs.toArray.size:Int)-1))).objs.size=D at *;have fr:H1 D=none:=I2.hok.fresh (by rw[<-hn];exact EL _)
  have I3:Inv X pins σ (upd H1 D (.lst ws.reverse)) {s1 with heap:=h3,toks:=tk3 }:=I1.laid (t':=tk3) (o:=.lst ws.reverse) keep (by rw[To];exact Nat.le_succ _) ⟨by rw[FD];exact hz,Qs.reverse,c,RK.rev,by rw[<-SJ,Array.toArray_toList];exact hD⟩
  refine⟨.ref D,_,I3,rfl,q D _ _ (sm.trans (aL fr _)) (sm.free fr) aJ ?_⟩;exact rs.rev.same (bu (aL fr _) fr)
end
theorem SubP.trans:∀{p q r:PSt},SubP p q->SubP q r->SubP p r
 |[],[],[],_,_=>trivial
 |none::p,none::q,_::r,h1,h2=>SubP.trans (p:=p) (q:=q) h1 h2
 |none::p,some _::q,_::r,h1,h2=>SubP.trans (p:=p) (q:=q) h1 h2.2
 |some _::p,some _::q,_::r,h1,h2=>⟨h2.1.trans h1.1,SubP.trans (p:=p) (q:=q) h1.2 h2.2⟩
 |some _::p,none::q,_::r,h1,h2=>by cases h1.1
 |[],_::_,_,h1,_=>h1.elim
 |none::_,[],_,h1,_=>h1.elim
 |some _::_,[],_,h1,_=>h1.elim
 |[],[],_::_,_,h2=>h2.elim
 |_::_,none::_,[],_,h2=>h2.elim
 |_::_,some _::_,[],_,h2=>h2.elim
section
variable {X:Cx}{H0:Hp}{O0:List ES}{ps:PSt}{xs:List U}{us:List U}{es:List Expr}{x:Str}{pc p' pos:Pos}
theorem eY(n:Nat)(h:ps[n]?=some (some (.own xs)))(hg:Gl X "len")(hm:X.mg "len"=none)(hN:X.N[n]?=some x:=by rfl)(hv:Vis X.env.scope x:=by first |exact Or.inl rfl |exact Or.inr (Or.inl rfl) |exact Or.inr (Or.inr rfl))(hd:(x==("__debug__":Str))=false:=by decide)
  (Ri:(x==("__classdict__":Str))=false:=by decide) (QY:(Ie pos (EO [] X.env)).any (·.1)=false:=by rfl):Ev X H0 O0 ps (.Call (.Name "len" pc) [.Name x p'] [] pos) (.int xs.length):=B2 n h hg hm hN hv hd Ri ah QY
end
end L2
namespace ST
open PySem
abbrev ik(h:GS)(z TI TO T:ES)(b:Bool):Prop:=h.get? z=some {cls:=.type "zip",dict:=none,data:=.fields #[Jx T,.bool b,.bool false,.ref TI,.ref TO],slots:=#[] }
variable {prog:E1}{E:EG→EE→Prop}
section
variable {w:Fz}{A:FQ}{s:EE}
theorem DE{T:ES}{o:Obj}{Q:Option Obj->EE->Prop}(h:s.heap.get? T=some o)(q:Q (some o) s):E2 (Fm prog w) A (loadIfAlive T) Q E s:=λΓ p hΓ=>by
 unfold loadIfAlive;rw[Sem.wp_loadIfAlive,h];simpa using q
theorem gm{z TI TO T:ES}{b:Bool}{oT:Obj}{Q:Bool->EE->Prop}(hz:ik s.heap z TI TO T b)(hT:s.heap.get? T=some oT)(h:∀h',ik h' z TI TO T true->HC z s.heap h'->Q false {s with heap:=h' }):
  E2 (Fm prog w) A (Builtin.SmallTypes.ownedTupleIsFree (.ref z)) Q E s:=by
 unfold Builtin.SmallTypes.ownedTupleIsFree;refine Ew (Jp hz rfl (x:=Jx T) rfl ?_);dsimp only[Jx];refine Ew (DE (T:=(T:Int).toNat) (o:=oT) (by rw[G5];exact hT) ?_)
 rw[if_neg (by simp)]
 refine Ew (Jp hz rfl (x:=.bool b) rfl ?_);cases b with
 |true=>
  rw[if_neg (by decide)]
  exact Ez (h s.heap hz (Lk _ _))
 |false=>
  rw[if_pos (by decide)]
  refine Ew (wpAny_setField_rec hz (by simp) λh₁ hz₁ hs₁=>Ez (h h₁ hz₁ hs₁))
theorem xj{z TI TO i1 i2 l1 l2 T:ES}{b:Bool}{oT:Obj}{k1 k2:Nat}{xs ys:Array EG}{x y:EG}{Q:EG->EE->Prop}(D:J3 z TI TO i1 i2 l1 l2)
  (hz:ik s.heap z TI TO T b) (hT:s.heap.get? T=some oT) (Sv:Ks s.heap TI (.ref i1) (.ref i2))
  (h1:s.heap.IsListIter i1 l1 k1) (h2:s.heap.IsListIter i2 l2 k2) (QZ:s.heap.IsList l1 xs) (QL:s.heap.IsList l2 ys) (hx:xs[k1]?=some x) (hy:ys[k2]?=some y)
  (hQ:∀h',ik h' z TI TO T true->h'.IsListIter i1 l1 (k1+1)->h'.IsListIter i2 l2 (k2+1)->Ks h' s.heap.objs.size x y->(∀c o,c≠z->c≠i1->c≠i2->s.heap.get? c=some o->h'.get? c=some o)->Q (.ref s.heap.objs.size) {s with heap:=h' }):
  E2 (Fm prog w) A (Builtin.«zip.__next__» ⟨[.ref z],[]⟩) (λQN s'=>∃v,QN=.done (.ret v)/\Q v s') E s:=by
 show E2 _ _ (field (.ref z) 2 >>=_) _ _ _;refine Ew (Jp hz rfl (x:=.bool false) rfl ?_);show E2 _ _ (field (.ref z) 3 >>=_) _ _ _;refine Ew (Jp hz rfl (x:=.ref TI) rfl (Ew (F2 Sv rfl ?_)));show E2 _ _ (Builtin.SmallTypes.ownedTupleIsFree (.ref z) >>=_) _ _ _;refine Ew (gm hz hT λha za sa=>?_)
 simp only[EK,if_false];refine Ew ?_;rw[<-Gi];show E2 _ _ (PN [EZ i1,EZ i2] _ _) _ _ _;simp only[IM,J4];refine Ew (Ew (FB ?_));show E2 _ _ (Builtin.SmallTypes.nextOf (.ref i1) >>=_) _ _ _;refine Ew (JI (h1.extBut sa.extBut D.i1z) (QZ.extBut sa.extBut D.l1z) hx λhb b1 sb=>Ez ?_)
 dsimp only;refine Ez ?_;dsimp only;refine Ew (Ew (FB ?_));show E2 _ _ (Builtin.SmallTypes.nextOf (.ref i2) >>=_) _ _ _;refine Ew (JI ((h2.extBut sa.extBut D.i2z).extBut sb.extBut D.i12.symm) ((QL.extBut sa.extBut D.l2z).extBut sb.extBut D.l2i1) hy λhc c2 sc=>Ez ?_)
 dsimp only;refine Ez (Ez ?_);dsimp only;refine Ew (MZ ?_ (by show 2<=sizeLine;rw[F3];lia))
 have hsz:hc.objs.size=s.heap.objs.size:=by rw[sc.1,sb.1,sa.1]
 have zc:ik hc z TI TO T true:=sc.extBut _ _ D.i2z.symm (sb.extBut _ _ D.i1z.symm za);refine Ez ⟨_,rfl,?_⟩;show Q (.ref hc.objs.size) _;rw[hsz];refine hQ _ (EA _ zc) (((b1.extBut sc.extBut D.i12)).at λo e=>EA _ e) (c2.at λo e=>EA _ e) ?_ λc o n1 n2 n3 e=>EA _ (sc.extBut _ _ n3 (sb.extBut _ _ n2 (sa.extBut _ _ n1 e)))
 rw[<-hsz];exact EM _ rfl
theorem mV{z TI TO i1 i2 l1 l2 T:ES}{b:Bool}{oT:Obj}{k1:Nat}{xs:Array EG}{Q:Oj->EE->Prop}(hh:A.handled=none)(D:J3 z TI TO i1 i2 l1 l2)
  (hz:ik s.heap z TI TO T b) (hT:s.heap.get? T=some oT) (Sv:Ks s.heap TI (.ref i1) (.ref i2))
  (h1:s.heap.IsListIter i1 l1 k1) (QZ:s.heap.IsList l1 xs) (hx:xs[k1]?=none)
  (hE:∀h' e,(∀c o,c≠z→c≠i1→c≠i2→s.heap.get? c=some o→h'.get? c=some o)→(∃o,h'.get? e=some o∧o.cls=.type "StopIteration")→E (.ref e) {s with heap:=h' }):
  E2 (Fm prog w) A (Builtin.«zip.__next__» ⟨[.ref z],[]⟩) Q E s:=by
 show E2 _ _ (field (.ref z) 2 >>=_) _ _ _;refine Ew (Jp hz rfl (x:=.bool false) rfl ?_);show E2 _ _ (field (.ref z) 3 >>=_) _ _ _;refine Ew (Jp hz rfl (x:=.ref TI) rfl (Ew (F2 Sv rfl ?_)));show E2 _ _ (Builtin.SmallTypes.ownedTupleIsFree (.ref z) >>=_) _ _ _;refine Ew (gm hz hT λha za sa=>?_)
 simp only[EK,if_false];refine Ew ?_;rw[<-Gi];show E2 _ _ (PN [EZ i1,EZ i2] _ _) _ _ _;simp only[IM,J4];refine Ew (Ew (FB ?_));show E2 _ _ (Builtin.SmallTypes.nextOf (.ref i1) >>=_) _ _ _;refine Ew (Mj hh (h1.extBut sa.extBut D.i1z) (QZ.extBut sa.extBut D.l1z) hx λhb e sb he=>?_)
 exact hE hb e (λc o n1 n2 n3 q=>sb _ _ n2 (sa.extBut _ _ n1 q)) he
theorem k8{z TI TO i1 i2 l1 l2 T:ES}{b:Bool}{oT:Obj}{k1 k2:Nat}{xs ys:Array EG}{x:EG}{Q:Oj->EE->Prop}(hh:A.handled=none)(D:J3 z TI TO i1 i2 l1 l2)
  (hz:ik s.heap z TI TO T b) (hT:s.heap.get? T=some oT) (Sv:Ks s.heap TI (.ref i1) (.ref i2))
  (h1:s.heap.IsListIter i1 l1 k1) (h2:s.heap.IsListIter i2 l2 k2) (QZ:s.heap.IsList l1 xs) (QL:s.heap.IsList l2 ys) (hx:xs[k1]?=some x) (hy:ys[k2]?=none)
  (hE:∀h' e,(∀c o,c≠z→c≠i1→c≠i2→s.heap.get? c=some o→h'.get? c=some o)→(∃o,h'.get? e=some o∧o.cls=.type "StopIteration")→E (.ref e) {s with heap:=h' }):
  E2 (Fm prog w) A (Builtin.«zip.__next__» ⟨[.ref z],[]⟩) Q E s:=by
 show E2 _ _ (field (.ref z) 2 >>=_) _ _ _;refine Ew (Jp hz rfl (x:=.bool false) rfl ?_);show E2 _ _ (field (.ref z) 3 >>=_) _ _ _;refine Ew (Jp hz rfl (x:=.ref TI) rfl (Ew (F2 Sv rfl ?_)));show E2 _ _ (Builtin.SmallTypes.ownedTupleIsFree (.ref z) >>=_) _ _ _;refine Ew (gm hz hT λha za sa=>?_)
 simp only[EK,if_false];refine Ew ?_;rw[<-Gi];show E2 _ _ (PN [EZ i1,EZ i2] _ _) _ _ _;simp only[IM,J4];refine Ew (Ew (FB ?_));show E2 _ _ (Builtin.SmallTypes.nextOf (.ref i1) >>=_) _ _ _;refine Ew (JI (h1.extBut sa.extBut D.i1z) (QZ.extBut sa.extBut D.l1z) hx λhb b1 sb=>Ez ?_)
 dsimp only;refine Ez ?_;dsimp only;refine Ew (Ew (FB ?_));show E2 _ _ (Builtin.SmallTypes.nextOf (.ref i2) >>=_) _ _ _;refine Ew (Mj hh ((h2.extBut sa.extBut D.i2z).extBut sb.extBut D.i12.symm) ((QL.extBut sa.extBut D.l2z).extBut sb.extBut D.l2i1) hy λhc e sc he=>?_)
 exact hE hc e (λc o n1 n2 n3 q=>sc _ _ n3 (sb.extBut _ _ n2 (sa.extBut _ _ n1 q))) he
theorem vn{z TI TO i1 i2 l1 l2 T:ES}{b:Bool}{oT:Obj}{k1 k2:Nat}{xs ys:Array EG}{x y:EG}{Q:Option EG->EE->Prop}(D:J3 z TI TO i1 i2 l1 l2)
  (hz:ik s.heap z TI TO T b) (hT:s.heap.get? T=some oT) (Sv:Ks s.heap TI (.ref i1) (.ref i2))
  (h1:s.heap.IsListIter i1 l1 k1) (h2:s.heap.IsListIter i2 l2 k2) (QZ:s.heap.IsList l1 xs) (QL:s.heap.IsList l2 ys) (hx:xs[k1]?=some x) (hy:ys[k2]?=some y)
  (hQ:∀h',ik h' z TI TO T true->h'.IsListIter i1 l1 (k1+1)->h'.IsListIter i2 l2 (k2+1)->Ks h' s.heap.objs.size x y->(∀c o,c≠z->c≠i1->c≠i2->s.heap.get? c=some o->h'.get? c=some o)->Q (some (.ref s.heap.objs.size)) {s with heap:=h' }):
  E2 (Fm prog w) A (ID (.ref z)) Q E s:=by
 have SQ:s.TypeIs (.ref z) "zip":=⟨_,hz,rfl⟩;unfold ID
 exact Ew (JA (GN (name:=Str.ofString "__next__") SQ G6
  (FP G6 SQ JJ (xj D hz hT Sv h1 h2 QZ QL hx hy λh' a1 a2 a3 a4 a5=>Ez (hQ h' a1 a2 a3 a4 a5)) (JB _))))
theorem lc{z TI TO i1 i2 l1 l2 T:ES}{b:Bool}{oT:Obj}{k1:Nat}{xs:Array EG}{Q:Option EG->EE->Prop}(hh:A.handled=none)(D:J3 z TI TO i1 i2 l1 l2)
  (hz:ik s.heap z TI TO T b) (hT:s.heap.get? T=some oT) (Sv:Ks s.heap TI (.ref i1) (.ref i2)) (h1:s.heap.IsListIter i1 l1 k1) (QZ:s.heap.IsList l1 xs) (hx:xs[k1]?=none)
  (hQ:∀h',(∀c o,c≠z->c≠i1->c≠i2->s.heap.get? c=some o->h'.get? c=some o)->Q none {s with heap:=h' }):E2 (Fm prog w) A (ID (.ref z)) Q E s:=by
 have SQ:s.TypeIs (.ref z) "zip":=⟨_,hz,rfl⟩;unfold ID
 refine Ew (JA (GN (name:=Str.ofString "__next__") SQ G6
  (FP G6 SQ JJ (mV hh D hz hT Sv h1 QZ hx λh' e hk he=>?_) (JB _))))
 obtain⟨o,ho,hc⟩:=he;refine Ew (GK (T:="StopIteration") (b:=true) ⟨o,ho,hc⟩ K6 ?_);exact Ez (hQ h' hk)
theorem jE{z TI TO i1 i2 l1 l2 T:ES}{b:Bool}{oT:Obj}{k1 k2:Nat}{xs ys:Array EG}{x:EG}{Q:Option EG->EE->Prop}(hh:A.handled=none)(D:J3 z TI TO i1 i2 l1 l2)
  (hz:ik s.heap z TI TO T b) (hT:s.heap.get? T=some oT) (Sv:Ks s.heap TI (.ref i1) (.ref i2)) (h1:s.heap.IsListIter i1 l1 k1) (h2:s.heap.IsListIter i2 l2 k2) (QZ:s.heap.IsList l1 xs) (QL:s.heap.IsList l2 ys) (hx:xs[k1]?=some x) (hy:ys[k2]?=none)
  (hQ:∀h',(∀c o,c≠z->c≠i1->c≠i2->s.heap.get? c=some o->h'.get? c=some o)->Q none {s with heap:=h' }):E2 (Fm prog w) A (ID (.ref z)) Q E s:=by
 have SQ:s.TypeIs (.ref z) "zip":=⟨_,hz,rfl⟩;unfold ID
 refine Ew (JA (GN (name:=Str.ofString "__next__") SQ G6
  (FP G6 SQ JJ (k8 hh D hz hT Sv h1 h2 QZ QL hx hy λh' e hk he=>?_) (JB _))))
 obtain⟨o,ho,hc⟩:=he;refine Ew (GK (T:="StopIteration") (b:=true) ⟨o,ho,hc⟩ K6 ?_);exact Ez (hQ h' hk)
end
structure ZL(xs ys:Array EG)(z TI TO i1 i2 l1 l2 S:ES)(h:GS)(i:Nat)(ad:List ES)(c:Nat):Prop where
 ti:Ks h TI (.ref i1) (.ref i2)
 a1:h.IsListIter i1 l1 i
 a2:h.IsListIter i2 l2 i
 b1:h.IsList l1 xs
 b2:h.IsList l2 ys
 acc:h.get? S=some {cls:=.type "list",dict:=none,data:=.seq (ad.map EZ).toArray c,slots:=#[] }
 len:ad.length=i
 tup:∀(j:Nat) (a:ES),ad[j]?=some a->∃x y,xs[j]?=some x/\ys[j]?=some y/\Ks h a x y
 far:∀a∈ad,a≠z/\a≠TO/\a≠i1/\a≠i2/\a≠S
 to:∃o,h.get? TO=some o
 nd:ad.Nodup
 zz:(i=0/\IsZip h z TI TO .none/\∃a b,Ks h TO a b)\/(∃b T,ad[0]?=some T/\ik h z TI TO T b)
variable {R:NP→EE→Prop}
section
variable {w:Fz}{A:FQ}
theorem ZL.put{xs ys:Array EG}{z TI TO i1 i2 l1 l2 S:ES}{h h':GS}{i:Nat}{ad:List ES}{c:Nat}{a:ES}{x y:EG}(Z:ZL xs ys z TI TO i1 i2 l1 l2 S h i ad c)(D:J3 z TI TO i1 i2 l1 l2)
  (hS:S≠z/\S≠TI/\S≠TO/\S≠i1/\S≠i2/\S≠l1/\S≠l2) (ha:a=h.objs.size) (hzlt:z<h.objs.size) (nto:∃o,h'.get? TO=some o) (hx:xs[i]?=some x) (hy:ys[i]?=some y)
  (n1:h'.IsListIter i1 l1 (i+1)) (n2:h'.IsListIter i2 l2 (i+1)) (np:Ks h' a x y) (nk:∀c o,c≠z->c≠TO->c≠i1->c≠i2->h.get? c=some o->h'.get? c=some o)
  (nz:∃b T,(ad++[a])[0]?=some T/\ik h' z TI TO T b):
  ∃c',ZL xs ys z TI TO i1 i2 l1 l2 S (h'.update S (FT (·.push (.ref a)))) (i+1) (ad++[a]) c':=by
 obtain⟨s1,s2,s3,s4,s5,s6,s7⟩:=hS;have gS:h'.get? S=some {cls:=.type "list",dict:=none,data:=.seq (ad.map EZ).toArray c,slots:=#[] }:=nk S _ s1 s3 s4 s5 Z.acc;have QX:∀b o,b≠S->h'.get? b=some o->(h'.update S (FT (·.push (.ref a)))).get? b=some o:=λb o hb e=>(Fd _ _ (Ne.symm hb)).trans e
 have Qx:∀b o,h.get? b=some o->b≠a:=λb o e z=>by rw[z,ha]at e;exact Fl _ (EN e)
 have aS:a≠S:=λe=>Qx S _ Z.acc e.symm
 have ai1:a≠i1:=by obtain⟨o,e,_⟩:=Z.a1;exact λq=>Qx i1 o e q.symm
 have ai2:a≠i2:=by obtain⟨o,e,_⟩:=Z.a2;exact λq=>Qx i2 o e q.symm
 have az:a≠z:=by rw[ha];exact Js hzlt
 have aTO:a≠TO:=by obtain⟨o,e⟩:=Z.to;exact λq=>Qx TO o e q.symm
 obtain⟨c',gS'⟩:∃c',(h'.update S (FT (·.push (.ref a)))).get? S=some {cls:=.type "list",dict:=none,data:=.seq ((ad.map EZ).toArray.push (.ref a)) c',slots:=#[] }:=⟨_,PyProof.Rows.get?_update_seq gS (·.push (.ref a))⟩;refine⟨c',⟨QX _ _ s2.symm (nk TI _ D.TIz D.TITO D.TIi1 D.TIi2 Z.ti),n1.at λo e=>QX _ o s4.symm e,n2.at λo e=>QX _ o s5.symm e,?_,?_,?_,by rw[EY,Z.len];rfl,?_,?_,?_,?_,?_⟩⟩
 ·exact (Z.b1.at λo e=>nk l1 o D.l1z D.l1TO D.l1i1 D.l1i2 e).at λo e=>QX _ o s6.symm e
 ·exact (Z.b2.at λo e=>nk l2 o D.l2z D.l2TO D.l2i1 D.l2i2 e).at λo e=>QX _ o s7.symm e
 ·rw[gS'];simp
 ·intro j b hj;rcases Gy j ad.length with q |q
  ·rw[E6 q]at hj;obtain⟨x',y',e1,e2,e3⟩:=Z.tup j b hj;obtain⟨f1,f2,f3,f4,f5⟩:=Z.far b (EV hj);exact⟨x',y',e1,e2,QX _ _ f5 (nk b _ f1 f2 f3 f4 e3)⟩
  ·rw[E7 q]at hj
   have hj0:j=i:=by
    have:=(ET.mp hj).1;simp at this;rw[Z.len]at *;lia
   subst hj0;rw[Z.len,PZ]at hj;cases hj;exact⟨x,y,hx,hy,QX _ _ aS np⟩
 ·intro b hb;rcases EX.mp hb with q |q
  ·exact Z.far b q
  ·rw[EJ.mp q];exact⟨az,aTO,ai1,ai2,aS⟩
 ·obtain⟨o,e⟩:=nto;exact⟨o,QX _ _ s3.symm e⟩
 ·rw[F1];refine⟨Z.nd,by simp,λp hp q hq=>?_⟩
  rw[EJ.mp hq];obtain⟨j,hj⟩:=FO.mp hp;obtain⟨_,_,_,_,e⟩:=Z.tup j p hj;exact Qx p _ e
 ·obtain⟨b,T,e1,e2⟩:=nz;exact .inr ⟨b,T,e1,QX _ _ s1.symm e2⟩
structure ZF(xs ys:Array EG)(S:ES)(h:GS)(ad:List ES)(c:Nat):Prop where
 acc:h.get? S=some {cls:=.type "list",dict:=none,data:=.seq (ad.map EZ).toArray c,slots:=#[] }
 len:ad.length=ys.size
 tup:∀(j:Nat) (a:ES),ad[j]?=some a->∃x y,xs[j]?=some x/\ys[j]?=some y/\Ks h a x y
 ne:∀a∈ad,a≠S
 nd:ad.Nodup
theorem oD(hh:A.in1.handled=none){xs ys:Array EG}{z TI TO i1 i2 l1 l2 S:ES}(D:J3 z TI TO i1 i2 l1 l2)(hS:S≠z/\S≠TI/\S≠TO/\S≠i1/\S≠i2/\S≠l1/\S≠l2)(hxy:ys.size<=xs.size)(hn:xs.size<=1000)(res:EG):
  ∀(k i:Nat) (s:EE) (ad:List ES) (c:Nat),ys.size-i=k->i<=ys.size->ZL xs ys z TI TO i1 i2 l1 l2 S s.heap i ad c->
   (∀h' Rx c',ZF xs ys S h' Rx c'->(∀b o,b≠z->b≠TO->b≠i1->b≠i2->b≠S->s.heap.get? b=some o->h'.get? b=some o)->(∀a∈Rx,a∈ad\/s.heap.get? a=none)->R (.ok (.ret res)) {s with heap:=h' })->
   IK (Fm prog w) A (.builtin "list.extend.loop" ⟨[.ref S,.ref z,res],[]⟩) R s:=by
 intro k
 induction k with
 |zero=>
  intro i s ad c hk hi Z hR;obtain rfl:i=ys.size:=by lia
  refine Gj K7 ?_;rw[FV Gx _];show E2 _ A.in1 (ID (.ref z) >>=_) _ _ s
  have QN:∀h',(∀b o,b≠z->b≠TO->b≠i1->b≠i2->s.heap.get? b=some o->h'.get? b=some o)->R (.ok (.ret res)) {s with heap:=h' }:=λh' kp=>
   hR h' ad c ⟨kp S _ hS.1 hS.2.2.1 hS.2.2.2.1 hS.2.2.2.2.1 Z.acc,Z.len,λj a e=>by
    obtain⟨x,y,e1,e2,e3⟩:=Z.tup j a e;obtain⟨f1,f2,f3,f4,f5⟩:=Z.far a (EV e);exact⟨x,y,e1,e2,kp a _ f1 f2 f3 f4 e3⟩,λa ha=>(Z.far a ha).2.2.2.2,Z.nd⟩ (λb o n1 n2 n3 n4 _ e=>kp b o n1 n2 n3 n4 e) λa ha=>.inl ha
  rcases Z.zz with ⟨h0,hz,a,b,hTO⟩ |⟨b,T,hT,hz⟩
  ·refine Ew (wpAny_pyNext_zip_end hh D hz Z.ti hTO Z.a1 Z.a2 Z.b1 Z.b2 (.inr (by simp)) λh' kp=>?_)
   exact Ez (QN h' kp)
  ·obtain⟨x,y,_,_,hp⟩:=Z.tup 0 T hT;by_cases hq:ys.size<xs.size
   ·refine Ew (jE hh D hz hp Z.ti Z.a1 Z.a2 Z.b1 Z.b2 (F5 hq) (by simp) λh' kp=>?_)
    exact Ez (QN h' λb o n1 _ n3 n4 e=>kp b o n1 n3 n4 e)
   ·refine Ew (lc hh D hz hp Z.ti Z.a1 Z.b1 (LZ (by lia)) λh' kp=>?_)
    exact Ez (QN h' λb o n1 _ n3 n4 e=>kp b o n1 n3 n4 e)
 |succ k ih=>
  intro i s ad c hk hi Z hR;have Qx:i<xs.size:=by lia
  have hly:i+1<=ys.size:=by lia
  have hx:xs[i]?=some xs[i]:=F5 Qx;have hy:ys[i]?=some (ys[i]'(by lia)):=F5 (by lia)
  refine Gj K7 ?_;rw[FV Gx _];show E2 _ A.in1 (ID (.ref z) >>=_) _ _ s
  have go:∀h',(∃b T,(ad++[s.heap.objs.size])[0]?=some T/\ik h' z TI TO T b)->(∃o,h'.get? TO=some o)->h'.IsListIter i1 l1 (i+1)->h'.IsListIter i2 l2 (i+1)->Ks h' s.heap.objs.size xs[i] (ys[i]'(by lia))->
    (∀b o,b≠z->b≠TO->b≠i1->b≠i2->s.heap.get? b=some o->h'.get? b=some o)->
    E2 (Fm prog w) A.in1 (Jh S (·.push (.ref s.heap.objs.size)) >>=λ_=>again (.builtin "list.extend.loop" ⟨[.ref S,.ref z,res],[]⟩))
     (λQN s'=>match QN with | .done f=>R (.ok f) s' | .again c'=>c'.quiet=true/\IK (Fm prog w) A c' R s') (λe s'=>R (.error e) s') {s with heap:=h' }:=λh' nz nto n1 n2 np nk=>by
   have gS:h'.get? S=some {cls:=.type "list",dict:=none,data:=.seq (ad.map EZ).toArray c,slots:=#[] }:=nk S _ hS.1 hS.2.2.1 hS.2.2.2.1 hS.2.2.2.2.1 Z.acc
   have hzlt:z<s.heap.objs.size:=by
    rcases Z.zz with ⟨_,hz,_⟩ |⟨_,_,_,hz⟩ <;>exact EN hz
   obtain⟨c',Z'⟩:=Z.put D hS rfl hzlt nto hx hy n1 n2 np nk nz;have Rw:((ad.map EZ).toArray).size=i:=by simp[Z.len]
   refine Ew (Gv (s:={s with heap:=h' }) gS rfl (Ez ⟨Gk Gx _,ih (i+1) _ (ad++[s.heap.objs.size]) c' (by lia) hly Z' λh2 ad2 c2 F kp fr=>?_⟩) (by rw[Rw,F3];lia) (by rw[Array.size_push,Rw,F3];lia))
   refine hR h2 ad2 c2 F (λb o m1 m2 m3 m4 m5 e=>kp b o m1 m2 m3 m4 m5 ((Fd _ _ (Ne.symm m5)).trans (nk b o m1 m2 m3 m4 e))) λa ha=>?_
   rcases fr a ha with q |q
   ·rcases EX.mp q with q |q
    ·exact .inl q
    ·right;rw[EJ.mp q];exact Ki (EL _)
   ·right
    cases hq:s.heap.get? a with
    |none=>rfl
    |some o=>
     exfalso
     by_cases e1:a=S
     ·subst e1;exact F.ne a ha rfl
     ·have q':h'.get? a=none:=by
       have:=q;rw[Fd _ _ (Ne.symm e1)]at this;exact this
      by_cases f1:a=z
      ·obtain⟨_,_,_,e⟩:=nz;rw[f1,e]at q';cases q'
      ·by_cases f2:a=TO
       ·obtain⟨o',e⟩:=nto;rw[f2,e]at q';cases q'
       ·by_cases f3:a=i1
        ·obtain⟨o',e,_⟩:=n1;rw[f3,e]at q';cases q'
        ·by_cases f4:a=i2
         ·obtain⟨o',e,_⟩:=n2;rw[f4,e]at q';cases q'
         ·rw[nk a o f1 f2 f3 f4 hq]at q';cases q'
  rcases Z.zz with ⟨h0,hz,a,b,hTO⟩ |⟨b,T,hT,hz⟩
  ·subst h0;have had:ad=[]:=Gq.mp Z.len;refine Ew (wpAny_pyNext_zip_item D hz Z.ti hTO Z.a1 Z.a2 Z.b1 Z.b2 hx hy λh' m1 m2 m3 m4 m5 _ kp=>?_)
   exact go h' ⟨false,_,by rw[had];rfl,m1⟩ ⟨_,m2⟩ m3 m4 m5 kp
  ·obtain⟨x,y,_,_,hp⟩:=Z.tup 0 T hT;refine Ew (vn D hz hp Z.ti Z.a1 Z.a2 Z.b1 Z.b2 hx hy λh' m1 m3 m4 m5 kp=>?_)
   refine go h' ⟨true,T,?_,m1⟩ ?_ m3 m4 m5 λb o n1 _ n3 n4 e=>kp b o n1 n3 n4 e
   ·rw[E6 (ET.mp hT).1];exact hT
   ·obtain⟨o,e⟩:=Z.to;exact⟨o,kp TO o D.TOz D.TOi1 D.TOi2 e⟩
end
theorem AO:MC (.type "zip") "__len__"=pure none:=by rw[IS,Hq];kernel_rfl
theorem wE:MC (.type "zip") "__length_hint__"=pure none:=by rw[IS,Hq];kernel_rfl
theorem xa(prog:E1)(w:Fz):xh prog w "zip":=λA E s r Q hT h=>by
 unfold Builtin.List.listLengthHint;refine Ew (Gu hT AO ?_);show E2 _ A (specialOf (EZ r) (Str.ofString "__length_hint__") >>=_) _ _ _;refine Ew (Gu hT wE ?_);exact Ez (h _)
section
variable {w:Fz}{A:FQ}{s:EE}
theorem yM{z TI TO:ES}{f:EG}{Q:EG->EE->Prop}(hz:IsZip s.heap z TI TO f)(h:Q (.ref z) s):E2 (Fm prog w) A (MV (.ref z)) Q E s:=by
 have hT:s.TypeIs (.ref z) "zip":=⟨_,hz,rfl⟩;refine JV hT Ml (FP Ml hT PySem.F.entry_zip_iter ?_ (PySem.F.args_zip_iter_1 _));exact Ez ⟨_,rfl,"zip",_,hT,G6.lookup,h⟩
theorem qv(hh:A.in1.handled=none){xs ys:Array EG}{z TI TO i1 i2 l1 l2 S:ES}(D:J3 z TI TO i1 i2 l1 l2)(hS:S≠z/\S≠TI/\S≠TO/\S≠i1/\S≠i2/\S≠l1/\S≠l2)(hxy:ys.size<=xs.size)(hn:xs.size<=1000)(res:EG){c₀:Nat}
  (hz:IsZip s.heap z TI TO .none) (Z:∀h',(∀b o,b≠S→s.heap.get? b=some o→h'.get? b=some o)→∀c,h'.get? S=some {cls:=.type "list",dict:=none,data:=.seq #[] c,slots:=#[] }→ZL xs ys z TI TO i1 i2 l1 l2 S h' 0 [] c)
  (gS:s.heap.get? S=some {cls:=.type "list",data:=.seq #[] c₀ })
  (hR:∀h' Rx c',ZF xs ys S h' Rx c'->(∀b o,b≠z->b≠TO->b≠i1->b≠i2->b≠S->s.heap.get? b=some o->h'.get? b=some o)->(∀a∈Rx,s.heap.get? a=none)->R (.ok (.ret res)) {s with heap:=h' }):
  E2 (Fm prog w) A.in1 (Builtin.List.listExtendWith (.ref S) (.ref z) res)
   (λQN s'=>match QN with | .done f=>R (.ok f) s' | .again c'=>c'.quiet=true/\IK (Fm prog w) A c' R s') (λe s'=>R (.error e) s') s:=by
 have hT:s.TypeIs (.ref z) "zip":=⟨_,hz,rfl⟩;unfold Builtin.List.listExtendWith;refine Ew (Jv hT ?_);have k1:Builtin.List.listSameRef (.ref S) (.ref z)=false:=by simp[Builtin.List.listSameRef,hS.1]
 have k2:(F7 "zip"==F7 "list")=false:=by decide
 have k3:(F7 "zip"==F7 "tuple")=false:=by decide
 simp only[k1,k2,k3,Px,EK,if_false];refine Ew (yM hz (Ew (FB (xa prog w _ _ _ _ _ hT λb=>?_))))
 refine Il (λ_=>?_) (λ_=>?_)
 ·refine Ew (Jr (Ew ?_));show E2 _ A.in1 (Jh S (·.push .none) >>=λ_=>Jh S (·.pop)) _ _ _
  refine Ew (Gv gS rfl ?_);have g2:=Fp (FT (·.push Fb)) gS rfl;refine Gv (hz:=by seq_fits) g2 rfl ?_
  have g3:=Fp (FT (·.pop)) g2 rfl;have QX:∀b o,b≠S->s.heap.get? b=some o->((s.heap.update S (FT (·.push Fb))).update S (FT (·.pop))).get? b=some o:=λb o hb e=>(Fd _ _ (Ne.symm hb)).trans ((Fd _ _ (Ne.symm hb)).trans e)
  refine Ez ⟨Gk Gx _,oD (s:={s with heap:=(s.heap.update S (FT (·.push Fb))).update S (FT (·.pop)) }) hh D hS hxy hn res _ 0 [] _ rfl (FH _) (Z _ QX _ g3) λh' Rx c' F kp fr=>?_⟩
  refine hR h' Rx c' F (λb o m1 m2 m3 m4 m5 e=>kp b o m1 m2 m3 m4 m5 (QX b o m5 e)) λa ha=>?_
  rcases fr a ha with q |q
  ·simp at q
  ·cases hq:s.heap.get? a with
   |none=>rfl
   |some o=>
    have e:=QX a o (F.ne a ha) hq;rw[e]at q;cases q
 ·refine Ez ⟨Gk Gx _,oD hh D hS hxy hn res _ 0 _ [] _ rfl (FH _) (Z _ (λ_ _ _ e=>e) _ gS) λh' Rx c' F kp fr=>?_⟩
  exact hR h' Rx c' F kp λa ha=>(fr a ha).resolve_left (by simp)
theorem call_list_zip{Q:EG->EE->Prop}(hh:A.handled=none){xs ys:Array EG}{z TI TO i1 i2 l1 l2:ES}(D:J3 z TI TO i1 i2 l1 l2)(hxy:ys.size<=xs.size)(hn:xs.size<=1000)
  (hz:IsZip s.heap z TI TO .none) (Sv:Ks s.heap TI (.ref i1) (.ref i2)) {a b:EG} (hTO:Ks s.heap TO a b) (h1:s.heap.IsListIter i1 l1 0) (h2:s.heap.IsListIter i2 l2 0) (QZ:s.heap.IsList l1 xs) (QL:s.heap.IsList l2 ys)
  (hQ:∀h' Rx c',ZF xs ys s.heap.objs.size h' Rx c'->(∀b o,b≠z->b≠TO->b≠i1->b≠i2->s.heap.get? b=some o->h'.get? b=some o)->(∀a∈Rx,s.heap.get? a=none)->Q (.ref s.heap.objs.size) {s with heap:=h' }):
  E2 (Fm prog w) A (call (.type "list") [.ref z]) Q E s:=by
 refine OU (Q₁:=λobj Qw=>obj=.ref s.heap.objs.size∧Qw={s with heap:=s.heap.push {cls:=.type "list",data:=.seq #[] } }) M5 (LF _) LG (code_list_new _ ⟨rfl,rfl⟩) λobj Qw h₁=>?_
 obtain⟨rfl,rfl⟩:=h₁;generalize hSd:s.heap.objs.size=S at *;have lt:∀c o,s.heap.get? c=some o->S≠c:=λc o e q=>by rw[<-q,<-hSd]at e;exact Fl _ (EN e)
 have gS:(s.heap.push {cls:=.type "list",data:=.seq #[] }).get? S=some {cls:=.type "list",data:=.seq #[] }:=by rw[←hSd];exact EM _ rfl
 have up:∀b o,s.heap.get? b=some o→(s.heap.push {cls:=.type "list",data:=.seq #[] }).get? b=some o:=λb o e=>EA _ e
 have hS:S≠z/\S≠TI/\S≠TO/\S≠i1/\S≠i2/\S≠l1/\S≠l2:=⟨lt _ _ hz,lt _ _ Sv,lt _ _ hTO,by obtain⟨o,e,_⟩:=h1;exact lt _ _ e,by obtain⟨o,e,_⟩:=h2;exact lt _ _ e,by obtain⟨o,e,_⟩:=QZ;exact lt _ _ e,by obtain⟨o,e,_⟩:=QL;exact lt _ _ e⟩
 refine⟨⟨_,gS,rfl⟩,Lo _ _,?_⟩;show E2 _ A.in1.in1 (Builtin.List.listItems (.ref S) >>=λold=>Builtin.List.listUpdate (.ref S) (λ_=>#[]) >>=λ_=>letGo old.toList.reverse >>=λ_=>Builtin.List.listExtendWith (.ref S) (.ref z) .none) _ _ _
 refine Ew ?_;unfold Builtin.List.listItems;refine Ew (F2 gS rfl (Ez ?_));show E2 _ A.in1.in1 (Jh S (λ_=>#[]) >>=λ_=>letGo (#[]:Array EG).toList.reverse >>=λ_=>Builtin.List.listExtendWith (.ref S) (.ref z) .none) _ _ _
 refine Ew (Gv gS rfl ?_);have g2:=Fp (FT (λ_=>(#[]:Array EG))) gS rfl
 have QX:∀b o,b≠S→s.heap.get? b=some o→((s.heap.push {cls:=.type "list",data:=.seq #[] }).update S (FT (λ_=>(#[]:Array EG)))).get? b=some o:=λb o hb e=>(Fd _ _ (Ne.symm hb)).trans (up b o e)
 refine Ew (Ia ?_);refine qv (A:=A.in1) (s:={s with heap:=(s.heap.push {cls:=.type "list",data:=.seq #[] }).update S (FT (λ_=>(#[]:Array EG))) }) hh D hS hxy hn .none (QX _ _ hS.1.symm hz) (λh' kp c e=>?_) g2 λh' Rx c' F kp fr=>?_
 ·have k:∀b o,b≠S->s.heap.get? b=some o->h'.get? b=some o:=λb o hb e=>kp b o hb (QX b o hb e)
  exact⟨k _ _ hS.2.1.symm Sv,h1.at λo e=>k _ o hS.2.2.2.1.symm e,h2.at λo e=>k _ o hS.2.2.2.2.1.symm e,QZ.at λo e=>k _ o hS.2.2.2.2.2.1.symm e,QL.at λo e=>k _ o hS.2.2.2.2.2.2.symm e,e,rfl,λj a e=>by simp at e,λa ha=>by simp at ha,⟨_,k _ _ hS.2.2.1.symm hTO⟩,K8,.inl ⟨rfl,k _ _ hS.1.symm hz,a,b,k _ _ hS.2.2.1.symm hTO⟩⟩
 ·refine⟨rfl,hQ h' Rx c' F (λb o m1 m2 m3 m4 e=>kp b o m1 m2 m3 m4 (λq=>lt b o e q.symm) (QX b o (λq=>lt b o e q.symm) e)) λa ha=>?_⟩
  cases hq:s.heap.get? a with
  |none=>rfl
  |some o=>
   have e:=QX a o (F.ne a ha) hq;have q:=fr a ha;rw[show ({s with heap:=(s.heap.push {cls:=.type "list",data:=.seq #[] }).update S (FT (λ_=>(#[]:Array EG))) }:EE).heap.get? a=some o from e]at q
   cases q
end
end ST
namespace L2
open PySem PySem.Spec PyProof.Rows
theorem yO{a b:Nat}(h:a<b\/b<a):@Ne ES a b:=λe=>by
 have e':a=b:=e;lia
theorem wD:GY "zip"=some (.type "zip"):=by decide+kernel
section
variable {P:E1}{w:Fz}{H:Hp}{h:GS}{a:ES}{o:HO}
theorem g6(x:bD P w H h a o):∃ob,h.get? a=some ob:=by
 cases o with
 |lst xs=>obtain⟨_,_,_,_,e⟩:=x;exact⟨_,e⟩
 |tup xs=>obtain⟨_,_,_,ob,e,_⟩:=x;exact⟨_,e⟩
 |dK Qt=>obtain⟨_,_,_,_,o,_,_,e,_⟩:=x;exact⟨_,e⟩
 |dT Qt=>obtain⟨_,_,_,_,o,_,_,e,_⟩:=x;exact⟨_,e⟩
 |set S n=>obtain⟨o,_,_,_,e,_⟩:=x;exact⟨_,e⟩
 |ins C dx fs=>obtain⟨_,_,_,e,_⟩:=x;exact⟨_,e⟩
 |own y=>exact x
 |xd fs=>obtain⟨_,⟨_,_,_,e,_⟩,_⟩:=x;exact⟨_,e⟩
 |rng lo hi=>obtain⟨_,_,_,e⟩:=x;exact⟨_,e⟩
 |frz ob u=>obtain⟨e,_⟩:=x;exact⟨_,e⟩
 |tbl ps=>exact⟨_,(show h.get? a=some _ from x)⟩
 |met f y=>exact⟨_,(show h.get? a=some _ from x)⟩
 |ext φ=>exact x.2.1
end
theorem zD{X:Cx}{pins:List (ES×Obj)}{σ:List (Option V)}{H H':Hp}{s:EE}{h':GS}{t':Nat}(I:Inv X pins σ H s)(k:∀b u,s.heap.get? b=some u->h'.get? b=some u)
  (old:∀b u,s.heap.get? b=some u->H' b=H b) (new:∀b o,s.heap.get? b=none->H' b=some o->bD X.prog X.w H' h' b o):Inv X pins σ H' {s with heap:=h',toks:=t' }:=by
 have at':∀b o,H b=some o->H' b=some o:=λb o e=>let ⟨ob,q⟩:=g6 (I.hok b o e);(old b ob q).trans e
 refine I.un ⟨λb u q _ _ _=>k b u q,λb u q _ _ _=>⟨u.slots,k b u q⟩,λb u q n _=>(old b u q).trans n,λb u q _=>⟨u,k b u q⟩,λb xs q=>at' b _ q,λb u xs q=>at' b _ q,λb ps q=>⟨#[],by rw[at' b _ q];simp⟩⟩ λb u e=>?_
 cases hb:s.heap.get? b with
 |some ob=>
  rw[old b ob hb]at e;exact (I.hok b u e).stay (λc v _ q=>k c v q) (λc q=>at' c _ q) λc xs q=>at' c _ q
 |none=>exact new b u hb e
def jy(H:Hp):List ES->List (List V)->Hp
 |[],_=>H
 |a::as,ps=>match ps with
  |[]=>H
  |p::ps=>upd (jy H as ps) a (.tup p)
theorem oJ{H:Hp}:∀{as:List ES}{ps:List (List V)}{b:ES},b ∉ as->jy H as ps b=H b
 |[],_,_,_=>rfl
 |a::as,[],_,_=>rfl
 |a::as,p::ps,b,h=>by
  show upd (jy H as ps) a (.tup p) b=H b;rw[a_ λz=>h (by rw[z];exact EF)]
  exact oJ λz=>h (EB _ z)
theorem t8{H:Hp}:∀{as:List ES}{ps:List (List V)}{j:Nat}{a:ES}{p:List V},as.Nodup->as[j]?=some a->ps[j]?=some p->jy H as ps a=some (.tup p)
 |[],_,j,_,_,_,e,_=>by simp at e
 |_::_,[],j,_,_,_,_,e=>by simp at e
 |b::as,q::ps,0,a,p,_,e1,e2=>by
  simp at e1 e2;subst e1;subst e2;exact aJ
 |b::as,q::ps,j+1,a,p,nd,e1,e2=>by
  show upd (jy H as ps) b (.tup q) a=_;rw[Jz]at e1 e2;have nd':=Gh.mp nd;rw[a_ λz=>nd'.1 (by rw[<-z];exact EV e1)]
  exact t8 nd'.2 e1 e2
theorem pz{H:Hp}:∀{as:List ES}{ps:List (List V)}{b:ES}{o:HO},jy H as ps b=some o->H b=some o\/∃(j:Nat) (p:List V),as[j]?=some b/\ps[j]?=some p/\o=.tup p
 |[],_,_,_,e=>.inl e
 |_::_,[],_,_,e=>.inl e
 |a::as,p::ps,b,o,e=>by
  have e':upd (jy H as ps) a (.tup p) b=some o:=e;by_cases hb:b=a
  ·subst hb;rw[aJ]at e';cases e';exact .inr ⟨0,p,rfl,rfl,rfl⟩
  ·rw[a_ hb]at e';rcases pz e' with z |⟨j,q,e1,e2,e3⟩
   ·exact .inl z
   ·exact .inr ⟨j+1,q,by simpa using e1,by simpa using e2,e3⟩
theorem lG:∀(ad:List ES),aO (ad.map V.ref) (ad.map EZ)
 |[]=>.nil
 |_::ad=>.cons rfl (lG ad)
section
variable {X:Cx}{H0:Hp}{O0:List ES}{ps:PSt}{e f:Expr}{x y:U}{xs ys:List U}{pos QF p p':Pos}
theorem kM(hc:X.calm=true)(hg:Gl X "list")(hm:X.mg "list"=none)(hgz:Gl X "zip")(hmz:X.mg "zip"=none)(ha:Ev X H0 O0 ps e x)(hx:x=.lst xs∨x=.scr xs)(hb:Ev X H0 O0 ps f y)(hy:y=.lst ys∨y=.scr ys)(hl:ys.length≤xs.length)(hn:xs.length≤1000)
  (he:EO [e,f] X.env=(false,Io e X.env)::EO [f] X.env:=by rfl) (hf:EO [f] X.env=(false,Io f X.env)::EO [] X.env:=by rfl):
  EvN X H0 O0 ps (.Call (.Name "list" p) [.Call (.Name "zip" p') [e,f] [] QF] [] pos) (KO (λa b=>U.tup [a,b]) xs ys):=by
 rintro pins s σ H Q I ⟨O,R,q⟩;have hh:X.A.handled=none:=I.ok.hd hc;refine F0 (cg I hg hm IT ?_);refine callWith_type1 (e:=.Call (.Name "zip" p') [e,f] [] QF) (rest:=[]) ?_ aQ rfl;rw[aQ];show E2 _ _ (Nw ((false,Io (.Call (.Name "zip" p') [e,f] [] QF) X.env)::Ie pos (EO [] X.env))) _ _ s;refine G8 ?_;refine F0 (cg I hgz hmz wD ?_);refine callWith_type1 (thn (cI ha (cI hb eI hf) he QF pins s σ H (λvs H1=>∃v u,vs=[v,u]/\aI H H1/\Rp X.K (hid H1 O) v x/\Rp X.K (hid H1 O) u y) I ⟨O,R,λv H1 s1 r1=>⟨O,R.go s1,λu H2 s2 r2=>⟨v,u,rfl,s1.trans s2,r1.same (aT s2),r2⟩⟩⟩) λus s1 SW=>?_) he (by rw[hf];rfl)
 obtain⟨vs,H1,I1,rv,v,u,rfl,sm,rp1,rp2⟩:=SW;obtain⟨w1,w2,rfl,ru1,ru2⟩:=fY rv;obtain⟨a,va,rfl,hq1,rs1⟩:=zO rp1 hx;obtain⟨b,vb,rfl,QU,rs2⟩:=zO rp2 hy;cases ru1;cases ru2;obtain⟨ia,ra,Ro,hz1⟩:=I1.list (ao.seq hq1);obtain⟨ib,rb,QK,hz2⟩:=I1.list (ao.seq QU);have la:=ra.length;have lb:=rb.length;have l1:=rs1.len;have l2:=rs2.len;have al:@LT.lt Nat instLTNat a s1.heap.objs.size:=by obtain⟨o,ho,_⟩:=Ro.isList;exact EN ho
 have bl:@LT.lt Nat instLTNat b s1.heap.objs.size:=by obtain⟨o,ho,_⟩:=QK.isList;exact EN ho
 refine PySem.call_zip_2 Ro.isList QK.isList λh' z1 z2 z3 z4 z5 z6 z7=>?_
 refine HF ?_;have D:J3 (s1.heap.objs.size+4) (s1.heap.objs.size+2) (s1.heap.objs.size+3) s1.heap.objs.size (s1.heap.objs.size+1) a b:=by constructor <;>exact yO (by lia)
 have sxy:ib.toArray.size<=ia.toArray.size:=by simp;lia
 have sx:ia.toArray.size<=1000:=by simp;lia
 refine ST.call_list_zip (s:={s1 with heap:=h' }) hh D sxy sx z1 z2 z3 z4 z5 (Ro.isList.at λo e=>z7 _ o e) (QK.isList.at λo e=>z7 _ o e) λh3 ad c F kp fr=>?_
 have lD:s1.heap.objs.size<=({s1 with heap:=h' }:EE).heap.objs.size:=by show _<=h'.objs.size;lia
 generalize ({s1 with heap:=h' }:EE).heap.objs.size=D0 at *
 have keep:∀b o,s1.heap.get? b=some o->h3.get? b=some o:=λb o e=>by
  have this:@LT.lt Nat instLTNat b s1.heap.objs.size:=EN e;exact kp b o (yO (by lia)) (yO (by lia)) (yO (by lia)) (yO (by lia)) (z7 b o e)
 have fr':∀a∈ad,s1.heap.get? a=none:=λa ha=>by
  cases hq:s1.heap.get? a with
  |none=>rfl
  |some o=>
   have q1:=fr a ha;rw[show ({s1 with heap:=h' }:EE).heap.get? a=some o from z7 a o hq]at q1
   cases q1
 have frD:s1.heap.get? D0=none:=Ki lD
 have nH:∀a,s1.heap.get? a=none->H1 a=none:=λa e=>by
  cases hq:H1 a with
  |none=>rfl
  |some o=>
   obtain⟨ob,z⟩:=g6 (I1.hok a o hq);rw[e]at z;cases z
 generalize hP:KO (λx y:V=>[x,y]) va vb=PS
 have old:∀b u,s1.heap.get? b=some u->upd (jy H1 ad PS) D0 (.lst (ad.map V.ref)) b=H1 b:=λb u e=>by
  rw[a_ λz=>by rw[z,frD]at e;cases e]
  exact oJ λz=>by rw[fr' b z]at e;cases e
 have sm1:aI H1 (upd (jy H1 ad PS) D0 (.lst (ad.map V.ref))):=λb o e=>let ⟨ob,z⟩:=g6 (I1.hok b o e);(old b ob z).trans e
 have lad:ad.length=ib.length:=by rw[F.len];simp
 have atT:∀(j:Nat) (c:ES) (v u:V),ad[j]?=some c->va[j]?=some v->vb[j]?=some u->upd (jy H1 ad PS) D0 (.lst (ad.map V.ref)) c=some (.tup [v,u]):=λj c v u e1 e2 e3=>by
  rw[a_ (F.ne c (EV e1))];refine t8 F.nd e1 ?_;rw[<-hP];exact Hx.mpr ⟨v,u,e2,e3,rfl⟩
 have I3:Inv X pins σ (upd (jy H1 ad PS) D0 (.lst (ad.map V.ref))) {s1 with heap:=h3 }:=by
  refine zD (t':=s1.toks) I1 keep old λb o nb e=>?_
  by_cases hbD:b=D0
  ·subst hbD;rw[aJ]at e;cases e;exact⟨by rw[Ex,lad,<-lb];exact hz2,ad.map EZ,c,lG ad,F.acc⟩
  ·rw[a_ hbD]at e;rcases pz e with z |⟨j,pr,e1,e2,rfl⟩
   ·rw[nH b nb]at z;cases z
   ·rw[<-hP]at e2;obtain⟨v,u,f1,f2,rfl⟩:=Hx.mp e2;obtain⟨xv,g1,r1⟩:=ra.get f1;obtain⟨yv,g2,r2⟩:=rb.get f2;obtain⟨xv',yv',k1,k2,k3⟩:=F.tup j b e1
    have m1:xv'=xv:=by
     have:ia.toArray[j]?=some xv:=by simpa using g1
     rw[this]at k1;cases k1;rfl
    have m2:yv'=yv:=by
     have:ib.toArray[j]?=some yv:=by simpa using g2
     rw[this]at k2;cases k2;rfl
    subst m1;subst m2;exact⟨(show 2<=sizeLine by decide),[xv',yv'],.cons r1 (.cons r2 .nil),_,k3,rfl,_,rfl⟩
 refine⟨.ref D0,_,I3,rfl,q D0 _ _ (sm.trans sm1) (sm.free (nH _ frD)) aJ ⟨?_,λi v u h1 h2=>?_⟩⟩
 ·rw[Ex,List.length_zipWith];lia
 ·rw[EI]at h1;cases hi:ad[i]? with
  |none=>rw[hi]at h1;cases h1
  |some c'=>
   rw[hi]at h1;obtain rfl:V.ref c'=v:=by simpa using h1
   obtain⟨xi,yi,f1,f2,rfl⟩:=Hx.mp h2;obtain⟨vi,g1,r1⟩:=rs1.get f1;obtain⟨wi,g2,r2⟩:=rs2.get f2;have S:=bu (O:=O) sm1 (nH _ frD);have rr:=Rps.cons (r1.same S) (Rps.cons (r2.same S) Rps.nil);have Sx:=EV hi;refine .tup (SqT.of (dg (atT i c' vi wi hi g1 g2) λz=>?_)) rr.len rr.at_
   rcases EH.mp z with z |z
   ·exact F.ne c' Sx z
   ·exact (R.go sm).dom c' z (nH _ (fr' c' Sx))
theorem vC(hc:X.calm=true)(hg:Gl X "list")(hm:X.mg "list"=none)(hgz:Gl X "zip")(hmz:X.mg "zip"=none)(ha:Ev X H0 O0 ps e x)(hx:x=.lst xs∨x=.scr xs)(hb:Ev X H0 O0 ps f y)(hy:y=.lst ys∨y=.scr ys)(hl:ys.length=xs.length)(hn:xs.length≤1000)
  (he:EO [e,f] X.env=(false,Io e X.env)::EO [f] X.env:=by rfl) (hf:EO [f] X.env=(false,Io f X.env)::EO [] X.env:=by rfl):
  EvN X H0 O0 ps (.Call (.Name "list" p) [.Call (.Name "zip" p') [e,f] [] QF] [] pos) (KO (λa b=>U.tup [a,b]) xs ys):=kM hc hg hm hgz hmz ha hx hb hy (PM hl) hn he hf
end
theorem iZ(ns:List Int):∀j,preSum (λi=>ns.getD i 0) j=(ns.take j).sum
 |0=>by simp[preSum]
 |j+1=>by rw[preSum,iZ ns j,PySem.sum_take_succ]
section
variable {X:Cx}{ns:List Int}{M:Int}
theorem j8{K:EC}{H:Hp}{ws:List V}{Qs:List EG}(rv:aO ws Qs)(rs:Rps K H ws (ns.map U.int))(i:Nat)(z:EG)(e:Qs.toArray[i]?=some z):∃t,z=.int (ns.getD i 0) t:=by
 have hl:=rs.len;rw[Ex]at hl;have e4:Qs[i]?=some z:=by simpa using e
 have hi:i<Qs.length:=aw e4;have hw:i<ws.length:=by rw[rv.length];exact hi
 have hb:i<ns.length:=by lia
 obtain⟨u,e1,e2⟩:=rv.get (Ey hw);have e3:=rs.at_ i ws[i] (.int ns[i]) (Ey hw) (by rw[EI,Ey hb];rfl)
 rw[e4]at e1;cases e1;generalize ws[i]=wi at *;cases e3;rw[E4,Ey hb];obtain⟨t,rfl⟩:=e2;exact⟨t,rfl⟩
theorem Cv(hc:X.calm=true)(hM:M∈ns∧∀a∈ns,M≤a):dr X (.builtin "min") [.lst (ns.map U.int)] (.int M):=by
 intro pins s σ H vs us Q I r hq;obtain⟨O,d,rs,q⟩:=hq;obtain⟨v,rfl,h1⟩:=bQ rs;obtain⟨p1,rfl,r1⟩:=c9 r;cases h1 with
 | @lst a ws _ hq hl hh=>
  cases r1;obtain⟨Qs,rv,pl,_⟩:=I.list (SqL.of (ao _ _ hq));have Qz:Qs.length=ns.length:=by rw[<-rv.length,hl,Ex]
  have RN:=j8 (ns:=ns) rv ⟨hl,hh⟩;have hn:0<ns.length:=F_ hM.1;refine call_min_walk (GZ pl.isList ?_);have Rw:a<s.heap.objs.size:=by obtain⟨o,e,_⟩:=pl.isList;exact EN e
  refine⟨s.heap.objs.size,_,_,_,_,_,_,rfl,Walks.list (A:=X.A.in1) (I.ok.hd hc) s.heap.objs.size a (Fe Rw) Qs.toArray,⟨⟨_,EM _ rfl,rfl,rfl⟩,pl.isList.push _⟩,λb hb=>?_,by rw[EU,Qz];exact hn,CmpOf.ints_lt (λi=>ns.getD i 0) RN,λv h' tk hP hk=>?_⟩
  ·show b<(s.heap.push _).objs.size;rw[Ga];rcases EH.mp hb with z |z
   ·rw[z];exact F8 _
   ·rw[EJ.mp z];exact GL Rw
  ·obtain⟨t,rfl⟩:=RN _ _ hP;obtain⟨b1,b2⟩:=argBest_lt (λi=>ns.getD i 0) (Qs.toArray.size-1)
   have e:ns.getD (Gc (λi j=>decide (ns.getD i 0<ns.getD j 0)) (Qs.toArray.size-1)) 0=M:=by
    rw[EU,Qz]at b1 b2 |-;generalize Gc (λi j=>decide (ns.getD i 0<ns.getD j 0)) (ns.length-1)=g at *
    have hg:g<ns.length:=by lia
    obtain⟨j,hj,ej⟩:=Ir hM.1;have k1:=b2 j (by lia)
    have k2:=hM.2 ns[g] (Jk hg);simp only[E4,Ey hg,Ey hj,HN]at k1 |-;lia
   rw[e];refine⟨.int M,H,I.kept (t':=tk) λb o e=>hk b o ?_ (EA _ e),⟨t,rfl⟩,q _ H (.refl H) (.int _)⟩
   intro z;have:b=s.heap.objs.size:=by simpa using z
   exact absurd (EN e) (by rw[this];exact Fl _)
theorem yW(hc:X.calm=true):dr X (.builtin "sum") [.lst (ns.map U.int)] (.int ns.sum):=by
 intro pins s σ H vs us Q I r hq;obtain⟨O,d,rs,q⟩:=hq;obtain⟨v,rfl,h1⟩:=bQ rs;obtain⟨p1,rfl,r1⟩:=c9 r;cases h1 with
 | @lst a ws _ hq hl hh=>
  cases r1;obtain⟨Qs,rv,pl,_⟩:=I.list (SqL.of (ao _ _ hq));have Qz:Qs.length=ns.length:=by rw[<-rv.length,hl,Ex]
  have RN:=j8 (ns:=ns) rv ⟨hl,hh⟩;refine call_sum_walkG (GZ pl.isList ?_);have Rw:a<s.heap.objs.size:=by obtain⟨o,e,_⟩:=pl.isList;exact EN e
  refine⟨s.heap.objs.size,_,_,_,_,_,λi=>ns.getD i 0,rfl,Walks.list (A:=X.A.in1) (I.ok.hd hc) s.heap.objs.size a (Fe Rw) Qs.toArray,⟨⟨_,EM _ rfl,rfl,rfl⟩,pl.isList.push _⟩,λb hb=>?_,RN,λh' tk t' hk=>?_⟩
  ·show b<(s.heap.push _).objs.size;rw[Ga];rcases EH.mp hb with z |z
   ·rw[z];exact F8 _
   ·rw[EJ.mp z];exact GL Rw
  ·rw[iZ,EU,Qz,Gd];refine⟨.int ns.sum,H,I.kept (t':=tk) λb o e=>hk b o ?_ (EA _ e),⟨t',rfl⟩,q _ H (.refl H) (.int _)⟩
   intro z;have:b=s.heap.objs.size:=by simpa using z
   exact absurd (EN e) (by rw[this];exact Fl _)
end
end L2
namespace ST
open PySem PyProof.Rows
def leP(a b:Int×Int):Bool:=decide (a.1<b.1\/(a.1=b.1/\a.2<=b.2))
end ST
namespace L2
open PySem PySem.Spec PyProof.Rows
section
variable {X:Cx}{H0:Hp}{O0:List ES}{ps:PSt}{a b c:Expr}{pos:Pos}{x y z:U}{p q:P2}{k m:Bool}
theorem Ba{pins:List (ES×Obj)}{σ:List (Option V)}{H:Hp}{s:EE}(I:Inv X pins σ H s){v:V}{u:EG}(r:Rp X.K H v (pu p))(e:aX v u):∃b,u=.ref b/\ST.TK X.prog X.w s.heap [p.1,p.2] b:=by
 cases r with
 | @tup b zs _ hs Sw hsi=>
  cases e;refine⟨b,rfl,?_⟩;obtain⟨jts,rj,ht,_⟩:=I.tuple hs;have z0:zs.length=2:=Sw
  match zs,z0,hsi,rj with
  |[z1,z2],_,hsi,rj=>
   have q1:=hsi 0 z1 _ rfl rfl;have q2:=hsi 1 z2 _ rfl rfl;cases q1;cases q2;obtain⟨u1,u2,rfl,r1,r2⟩:=fY rj;obtain⟨t1,rfl⟩:=r1;obtain⟨t2,rfl⟩:=r2;obtain⟨o,ho,Sq,n,Tq⟩:=ht;exact⟨o,_,n,ho,Sq,Tq,.cons (GO _ _ _ _) (.cons (GO _ _ _ _) .nil)⟩
end
section
variable {X:Cx}{p q:P2}{l:List P2}
theorem eF{pins:List (ES×Obj)}{σ:List (Option V)}{H:Hp}{s:EE}(I:Inv X pins σ H s){v:V}{u:EG}(r:Rp X.K H v (pu p))(e:aX v u):∃b,u=.ref b/\∀prog w,ST.TK prog w s.heap [p.1,p.2] b:=by
 cases r with
 | @tup b zs _ hs Sw hsi=>
  cases e;refine⟨b,rfl,λprog w=>?_⟩
  obtain⟨jts,rj,ht,_⟩:=I.tuple hs;have z0:zs.length=2:=Sw
  match zs,z0,hsi,rj with
  |[z1,z2],_,hsi,rj=>
   have q1:=hsi 0 z1 _ rfl rfl;have q2:=hsi 1 z2 _ rfl rfl;cases q1;cases q2;obtain⟨u1,u2,rfl,r1,r2⟩:=fY rj;obtain⟨t1,rfl⟩:=r1;obtain⟨t2,rfl⟩:=r2;obtain⟨o,ho,Sq,n,Tq⟩:=ht;exact⟨o,_,n,ho,Sq,Tq,.cons (GO _ _ _ _) (.cons (GO _ _ _ _) .nil)⟩
end
theorem nd_len{α:Type}[DecidableEq α]:∀{l m:List α},l.Nodup->(∀x∈l,x∈m)->l.length<=m.length
 |[],_,_,_=>FH _
 |a::l,m,nd,sub=>by
  have h:=Gh.mp nd;have ha:=sub a EF;have ih:=nd_len (m:=m.erase a) h.2 λx hx=>(Kj (λe=>h.1 (by rw[<-e];exact hx))).mpr (sub x (EB _ hx))
  rw[Jw ha]at ih;have:=F_ ha;simp only[E9];lia
end L2
namespace ST
open PySem
def o_(prog:E1)(w:Fz)(A:FQ)(op:Qa)(G:GS->Prop)(P:Nat->EG->Prop)(bt:Nat->Nat->Bool):Prop:=
 ∀i j vi vj (s:EE) (Q:EG->EE->Prop) (E:EG->EE->Prop),G s.heap->P i vi->P j vj->Q (.bool (bt i j)) s->E2 (Fm prog w) A (LH op vi vj) Q E s
section
variable {prog:E1}{w:Fz}{A:FQ}{R:NP→EE→Prop}{I S:ES}{fp wr:List ES}{n:Nat}{P:Nat→EG→Prop}{St:Nat→GS→Prop}{G:GS→Prop}{bt:Nat→Nat→Bool}
theorem v5(W:Walks prog w A.in1 I fp wr n P St)(hc:o_ prog w A.in1 .Lt G P bt)(stay:∀h h':GS,G h->(∀b o,b ∉ wr->b≠S->h.get? b=some o->h'.get? b=some o)->G h')(Q8:S ∉ fp):
  ∀(k j:Nat) (s:EE) (vb:EG) (c:Nat),n-(j+1)=k→j+1≤n→G s.heap→St (j+1) s.heap→P (Gc bt j) vb→s.heap.get? S=some {cls:=.type "list",dict:=none,data:=.seq #[vb,vb] c,slots:=#[] }→
  (∀v h' tk,P (Gc bt (n-1)) v->(∀b o,b ∉ wr->b≠S->s.heap.get? b=some o->h'.get? b=some o)->R (.ok (.ret v)) {s with heap:=h',toks:=tk })->
  IK (Fm prog w) A (.builtin "min.loop" ⟨[.ref I,.none,.ref S],[]⟩) R s:=by
 have nw:S ∉ wr:=λh=>Q8 (W.sub _ h)
 have nm:(Iz "min"++Iz ".loop":String)="min.loop":=by decide
 intro k
 induction k with
 |zero=>
  intro j s vb c hk hj g st pb hS hR;obtain rfl:j+1=n:=by lia
  refine Gj JK ?_;rw[FV Gz _];show E2 _ A.in1 (J7 (.ref S) >>=_) _ _ s;refine Ew (F2 hS rfl ?_);show E2 _ A.in1 (LI (ID (.ref I)) _ >>=_) _ _ s;refine Ew (Ib (W.done s _ _ st λh' tk kp=>?_))
  show E2 _ A.in1 (Jh S (λ_=>#[]) >>=_) _ _ _
  refine Ew (Gv (kp S _ nw hS) rfl (Ew (Ia (Ez ?_))));exact hR vb _ tk pb λb o hw hb e=>(Fd _ _ (Ne.symm hb)).trans (kp b o hw e)
 |succ k ih=>
  intro j s vb c hk hj g st pb hS hR;refine Gj JK ?_;rw[FV Gz _];show E2 _ A.in1 (J7 (.ref S) >>=_) _ _ s;refine Ew (F2 hS rfl ?_);show E2 _ A.in1 (LI (ID (.ref I)) _ >>=_) _ _ s;refine Ew (Ib (W.item (j+1) s _ _ (by lia) st λv h' tk pv Q6 kp=>?_))
  have g':G h':=stay _ _ g λb o hw _ e=>kp b o hw e
  have RJ:=kp S _ nw hS;show E2 _ A.in1 (LI (M0 [v,v] (LH .Lt v vb >>=_)) _ >>=_) _ _ _;refine Ew (Ib (FB (Ew (hc (j+1) (Gc bt j) v vb _ _ _ g' pv pb ?_))));refine Ew (FB (Hf (Ew (Ia (Ez ?_)))));by_cases hb:bt (j+1) (Gc bt j)=true
  ·rw[if_pos hb];refine Ew (Gv RJ rfl (Ew (Ia ?_)));rw[nm];have QX:∀b o,b≠S->h'.get? b=some o->(h'.update S (FT λ_=>#[v,v])).get? b=some o:=λb o h e=>(Fd _ _ (Ne.symm h)).trans e
   refine Ez ⟨Gk Gz _,ih (j+1) _ v _ (by lia) (by lia) (stay _ _ g' λb o _ h e=>QX b o h e) (W.frame _ _ _ Q6 λb hf o e=>QX b o (λh=>Q8 (h ▸ hf)) e) (by rw[Gc,if_pos hb];exact pv) (Fp _ RJ rfl) λv2 h2 t2 p2 k2=>?_⟩
   exact hR v2 h2 t2 p2 λb o hw h e=>k2 b o hw h (QX b o h (kp b o hw e))
  ·rw[if_neg hb];refine Ew (Ia ?_);rw[nm];refine Ez ⟨Gk Gz _,ih (j+1) _ vb c (by lia) (by lia) g' Q6 (by rw[Gc,if_neg hb];exact pb) RJ λv2 h2 t2 p2 k2=>?_⟩
   exact hR v2 h2 t2 p2 λb o hw h e=>k2 b o hw h (kp b o hw e)
theorem kG(W:Walks prog w A.in1 I fp wr n P St)(hc:o_ prog w A.in1 .Lt G P bt)(stay:∀h h':GS,G h->(∀b o,b ∉ wr->b≠S->h.get? b=some o->h'.get? b=some o)->G h')(Q8:S ∉ fp)(hn:0<n){s:EE}{c:Nat}(g:G s.heap)(st:St 0 s.heap)
  (hS:s.heap.get? S=some {cls:=.type "list",dict:=none,data:=.seq #[] c,slots:=#[] })
  (hR:∀v h' tk,P (Gc bt (n-1)) v->(∀b o,b ∉ wr->b≠S->s.heap.get? b=some o->h'.get? b=some o)->R (.ok (.ret v)) {s with heap:=h',toks:=tk }):
  IK (Fm prog w) A (.builtin "min.loop" ⟨[.ref I,.none,.ref S],[]⟩) R s:=by
 have nw:S ∉ wr:=λh=>Q8 (W.sub _ h)
 have nm:(Iz "min"++Iz ".loop":String)="min.loop":=by decide
 refine Gj JK ?_;rw[FV Gz _];show E2 _ A.in1 (J7 (.ref S) >>=_) _ _ s;refine Ew (F2 hS rfl ?_);show E2 _ A.in1 (LI (ID (.ref I)) _ >>=_) _ _ s;refine Ew (Ib (W.item 0 s _ _ hn st λv h' tk pv Q6 kp=>?_))
 have RJ:=kp S _ nw hS;show E2 _ A.in1 (Jh S (λ_=>#[v,v]) >>=_) _ _ _
 refine Ew (Gv RJ rfl ?_);rw[nm];have QX:∀b o,b≠S->h'.get? b=some o->(h'.update S (FT λ_=>#[v,v])).get? b=some o:=λb o h e=>(Fd _ _ (Ne.symm h)).trans e
 refine Ez ⟨Gk Gz _,v5 W hc stay Q8 _ 0 _ v _ rfl hn (stay _ _ g λb o hw h e=>QX b o h (kp b o hw e)) (W.frame _ _ _ Q6 λb hf o e=>QX b o (λh=>Q8 (h ▸ hf)) e) pv (Fp _ RJ rfl) λv2 h2 t2 p2 k2=>?_⟩
 exact hR v2 h2 t2 p2 λb o hw h e=>k2 b o hw h (QX b o h (kp b o hw e))
variable {E:EG→EE→Prop}{s:EE}
theorem call_minG{l:ES}{items:Array EG}{G:GS->Prop}{bt:Nat->Nat->Bool}{Q:EG->EE->Prop}(hh:A.handled=none)(hl:s.heap.IsList l items)(hn:0<items.size)(hc:o_ prog w A.in1 .Lt G (λi v=>items[i]?=some v) bt)
  (g:G s.heap) (stay:∀h h':GS,G h->(∀b o,s.heap.get? b=some o->h.get? b=some o)->(∀b o,s.heap.get? b=some o->h'.get? b=some o)->G h')
  (hQ:∀v h' tk,items[Gc bt (items.size-1)]?=some v->(∀b o,s.heap.get? b=some o->h'.get? b=some o)->Q v {s with heap:=h',toks:=tk }):
  E2 (Fm prog w) A (call (.builtin "min") [.ref l]) Q E s:=by
 have nm:(Iz "min"++Iz ".loop":String)="min.loop":=by decide
 refine JC N3 NF NG (PySem.F.args_min1 _) ?_;show E2 _ A.in1 (Builtin.Builtins.bindParams "min" ["key","default"] 0 ⟨[],[]⟩ >>=_) _ _ s;refine Ew (JU (show Builtin.Builtins.bindParams "min" ["key","default"] 0 ⟨[],[]⟩=pure [none,none] from rfl) ?_)
 refine Ew (Ez ?_);refine Ew (GZ hl ?_);have Rw:l<s.heap.objs.size:=by obtain⟨o,e,_⟩:=hl;exact EN e
 refine Ew (FZ ?_);rw[nm];have W:=Walks.list (prog:=prog) (w:=w) (A:=A.in1) hh s.heap.objs.size l (Fe Rw) items;have up:∀b o,s.heap.get? b=some o→((s.heap.push {cls:=.type "list_iterator",data:=.fields #[.ref l,.int 0 0] }).push {cls:=.type "list",data:=.seq #[] }).get? b=some o:=λb o e=>EA _ (EA _ e)
 have sI:(s.heap.push {cls:=.type "list_iterator",data:=.fields #[.ref l,.int 0 0] }).objs.size=s.heap.objs.size+1:=Ga ..
 have lt:∀b o,s.heap.get? b=some o→b ∉ [s.heap.objs.size]∧b≠(s.heap.push {cls:=.type "list_iterator",data:=.fields #[.ref l,.int 0 0] }).objs.size:=λb o e=>by
  have h:=EN e;refine⟨λz=>?_,λz=>?_⟩
  ·rw[EJ.mp z]at h;exact Fl _ h
  ·rw[z,sI]at h;exact Fl _ (Hk h)
 refine Ez ⟨Gk Gz _,kG (G:=λh=>G h/\∀b o,s.heap.get? b=some o->h.get? b=some o) W (λi j vi vj s' Q' E' g'=>hc i j vi vj s' Q' E' g'.1) (λh h' g' kp=>?_) ?_ hn ⟨stay _ _ g (λ_ _ e=>e) up,up⟩ ⟨⟨_,EA _ (EM _ rfl),rfl,rfl⟩,(hl.push _).push _⟩ (EM _ rfl) λv h' tk pv kp=>?_⟩
 ·have k2:∀b o,s.heap.get? b=some o->h'.get? b=some o:=λb o e=>kp b o (lt b o e).1 (lt b o e).2 (g'.2 b o e)
  exact⟨stay _ _ g'.1 g'.2 k2,k2⟩
 ·intro z;have z':(s.heap.push {cls:=.type "list_iterator",data:=.fields #[.ref l,.int 0 0] }).objs.size∈[s.heap.objs.size,l]:=z;rw[sI]at z';rcases EH.mp z' with z |z
  ·exact absurd z (Kg _)
  ·have e:=EJ.mp z;rw[<-e]at Rw;exact absurd Rw (N4 (F8 _))
 ·exact hQ v h' tk pv λb o e=>kp b o (lt b o e).1 (lt b o e).2 (up b o e)
theorem u0(W:Walks prog w A.in1 I fp wr n P St)(hc:o_ prog w A.in1 .Gt G P bt)(stay:∀h h':GS,G h->(∀b o,b ∉ wr->b≠S->h.get? b=some o->h'.get? b=some o)->G h')(Q8:S ∉ fp):
  ∀(k j:Nat) (s:EE) (vb:EG) (c:Nat),n-(j+1)=k→j+1≤n→G s.heap→St (j+1) s.heap→P (Gc bt j) vb→s.heap.get? S=some {cls:=.type "list",dict:=none,data:=.seq #[vb,vb] c,slots:=#[] }→
  (∀v h' tk,P (Gc bt (n-1)) v->(∀b o,b ∉ wr->b≠S->s.heap.get? b=some o->h'.get? b=some o)->R (.ok (.ret v)) {s with heap:=h',toks:=tk })->
  IK (Fm prog w) A (.builtin "max.loop" ⟨[.ref I,.none,.ref S],[]⟩) R s:=by
 have nw:S ∉ wr:=λh=>Q8 (W.sub _ h)
 have nm:(Iz "max"++Iz ".loop":String)="max.loop":=by decide
 intro k
 induction k with
 |zero=>
  intro j s vb c hk hj g st pb hS hR;obtain rfl:j+1=n:=by lia
  refine Gj JL ?_;rw[FV GA _];show E2 _ A.in1 (J7 (.ref S) >>=_) _ _ s;refine Ew (F2 hS rfl ?_);show E2 _ A.in1 (LI (ID (.ref I)) _ >>=_) _ _ s;refine Ew (Ib (W.done s _ _ st λh' tk kp=>?_))
  show E2 _ A.in1 (Jh S (λ_=>#[]) >>=_) _ _ _
  refine Ew (Gv (kp S _ nw hS) rfl (Ew (Ia (Ez ?_))));exact hR vb _ tk pb λb o hw hb e=>(Fd _ _ (Ne.symm hb)).trans (kp b o hw e)
 |succ k ih=>
  intro j s vb c hk hj g st pb hS hR;refine Gj JL ?_;rw[FV GA _];show E2 _ A.in1 (J7 (.ref S) >>=_) _ _ s;refine Ew (F2 hS rfl ?_);show E2 _ A.in1 (LI (ID (.ref I)) _ >>=_) _ _ s;refine Ew (Ib (W.item (j+1) s _ _ (by lia) st λv h' tk pv Q6 kp=>?_))
  have g':G h':=stay _ _ g λb o hw _ e=>kp b o hw e
  have RJ:=kp S _ nw hS;show E2 _ A.in1 (LI (M0 [v,v] (LH .Gt v vb >>=_)) _ >>=_) _ _ _;refine Ew (Ib (FB (Ew (hc (j+1) (Gc bt j) v vb _ _ _ g' pv pb ?_))));refine Ew (FB (Hf (Ew (Ia (Ez ?_)))));by_cases hb:bt (j+1) (Gc bt j)=true
  ·rw[if_pos hb];refine Ew (Gv RJ rfl (Ew (Ia ?_)));rw[nm];have QX:∀b o,b≠S->h'.get? b=some o->(h'.update S (FT λ_=>#[v,v])).get? b=some o:=λb o h e=>(Fd _ _ (Ne.symm h)).trans e
   refine Ez ⟨Gk GA _,ih (j+1) _ v _ (by lia) (by lia) (stay _ _ g' λb o _ h e=>QX b o h e) (W.frame _ _ _ Q6 λb hf o e=>QX b o (λh=>Q8 (h ▸ hf)) e) (by rw[Gc,if_pos hb];exact pv) (Fp _ RJ rfl) λv2 h2 t2 p2 k2=>?_⟩
   exact hR v2 h2 t2 p2 λb o hw h e=>k2 b o hw h (QX b o h (kp b o hw e))
  ·rw[if_neg hb];refine Ew (Ia ?_);rw[nm];refine Ez ⟨Gk GA _,ih (j+1) _ vb c (by lia) (by lia) g' Q6 (by rw[Gc,if_neg hb];exact pb) RJ λv2 h2 t2 p2 k2=>?_⟩
   exact hR v2 h2 t2 p2 λb o hw h e=>k2 b o hw h (kp b o hw e)
theorem kT(W:Walks prog w A.in1 I fp wr n P St)(hc:o_ prog w A.in1 .Gt G P bt)(stay:∀h h':GS,G h->(∀b o,b ∉ wr->b≠S->h.get? b=some o->h'.get? b=some o)->G h')(Q8:S ∉ fp)(hn:0<n){s:EE}{c:Nat}(g:G s.heap)(st:St 0 s.heap)
  (hS:s.heap.get? S=some {cls:=.type "list",dict:=none,data:=.seq #[] c,slots:=#[] })
  (hR:∀v h' tk,P (Gc bt (n-1)) v->(∀b o,b ∉ wr->b≠S->s.heap.get? b=some o->h'.get? b=some o)->R (.ok (.ret v)) {s with heap:=h',toks:=tk }):
  IK (Fm prog w) A (.builtin "max.loop" ⟨[.ref I,.none,.ref S],[]⟩) R s:=by
 have nw:S ∉ wr:=λh=>Q8 (W.sub _ h)
 have nm:(Iz "max"++Iz ".loop":String)="max.loop":=by decide
 refine Gj JL ?_;rw[FV GA _];show E2 _ A.in1 (J7 (.ref S) >>=_) _ _ s;refine Ew (F2 hS rfl ?_);show E2 _ A.in1 (LI (ID (.ref I)) _ >>=_) _ _ s;refine Ew (Ib (W.item 0 s _ _ hn st λv h' tk pv Q6 kp=>?_))
 have RJ:=kp S _ nw hS;show E2 _ A.in1 (Jh S (λ_=>#[v,v]) >>=_) _ _ _
 refine Ew (Gv RJ rfl ?_);rw[nm];have QX:∀b o,b≠S->h'.get? b=some o->(h'.update S (FT λ_=>#[v,v])).get? b=some o:=λb o h e=>(Fd _ _ (Ne.symm h)).trans e
 refine Ez ⟨Gk GA _,u0 W hc stay Q8 _ 0 _ v _ rfl hn (stay _ _ g λb o hw h e=>QX b o h (kp b o hw e)) (W.frame _ _ _ Q6 λb hf o e=>QX b o (λh=>Q8 (h ▸ hf)) e) pv (Fp _ RJ rfl) λv2 h2 t2 p2 k2=>?_⟩
 exact hR v2 h2 t2 p2 λb o hw h e=>k2 b o hw h (QX b o h (kp b o hw e))
theorem call_maxG{l:ES}{items:Array EG}{G:GS->Prop}{bt:Nat->Nat->Bool}{Q:EG->EE->Prop}(hh:A.handled=none)(hl:s.heap.IsList l items)(hn:0<items.size)(hc:o_ prog w A.in1 .Gt G (λi v=>items[i]?=some v) bt)
  (g:G s.heap) (stay:∀h h':GS,G h->(∀b o,s.heap.get? b=some o->h.get? b=some o)->(∀b o,s.heap.get? b=some o->h'.get? b=some o)->G h')
  (hQ:∀v h' tk,items[Gc bt (items.size-1)]?=some v->(∀b o,s.heap.get? b=some o->h'.get? b=some o)->Q v {s with heap:=h',toks:=tk }):
  E2 (Fm prog w) A (call (.builtin "max") [.ref l]) Q E s:=by
 have nm:(Iz "max"++Iz ".loop":String)="max.loop":=by decide
 refine JC N5 NH NI (PySem.F.args_max1 _) ?_;show E2 _ A.in1 (Builtin.Builtins.bindParams "max" ["key","default"] 0 ⟨[],[]⟩ >>=_) _ _ s;refine Ew (JU (show Builtin.Builtins.bindParams "max" ["key","default"] 0 ⟨[],[]⟩=pure [none,none] from rfl) ?_)
 refine Ew (Ez ?_);refine Ew (GZ hl ?_);have Rw:l<s.heap.objs.size:=by obtain⟨o,e,_⟩:=hl;exact EN e
 refine Ew (FZ ?_);rw[nm];have W:=Walks.list (prog:=prog) (w:=w) (A:=A.in1) hh s.heap.objs.size l (Fe Rw) items;have up:∀b o,s.heap.get? b=some o→((s.heap.push {cls:=.type "list_iterator",data:=.fields #[.ref l,.int 0 0] }).push {cls:=.type "list",data:=.seq #[] }).get? b=some o:=λb o e=>EA _ (EA _ e)
 have sI:(s.heap.push {cls:=.type "list_iterator",data:=.fields #[.ref l,.int 0 0] }).objs.size=s.heap.objs.size+1:=Ga ..
 have lt:∀b o,s.heap.get? b=some o→b ∉ [s.heap.objs.size]∧b≠(s.heap.push {cls:=.type "list_iterator",data:=.fields #[.ref l,.int 0 0] }).objs.size:=λb o e=>by
  have h:=EN e;refine⟨λz=>?_,λz=>?_⟩
  ·rw[EJ.mp z]at h;exact Fl _ h
  ·rw[z,sI]at h;exact Fl _ (Hk h)
 refine Ez ⟨Gk GA _,kT (G:=λh=>G h/\∀b o,s.heap.get? b=some o->h.get? b=some o) W (λi j vi vj s' Q' E' g'=>hc i j vi vj s' Q' E' g'.1) (λh h' g' kp=>?_) ?_ hn ⟨stay _ _ g (λ_ _ e=>e) up,up⟩ ⟨⟨_,EA _ (EM _ rfl),rfl,rfl⟩,(hl.push _).push _⟩ (EM _ rfl) λv h' tk pv kp=>?_⟩
 ·have k2:∀b o,s.heap.get? b=some o->h'.get? b=some o:=λb o e=>kp b o (lt b o e).1 (lt b o e).2 (g'.2 b o e)
  exact⟨stay _ _ g'.1 g'.2 k2,k2⟩
 ·intro z;have z':(s.heap.push {cls:=.type "list_iterator",data:=.fields #[.ref l,.int 0 0] }).objs.size∈[s.heap.objs.size,l]:=z;rw[sI]at z';rcases EH.mp z' with z |z
  ·exact absurd z (Kg _)
  ·have e:=EJ.mp z;rw[<-e]at Rw;exact absurd Rw (N4 (F8 _))
 ·exact hQ v h' tk pv λb o e=>kp b o (lt b o e).1 (lt b o e).2 (up b o e)
end
end ST
namespace ST
open PySem PyProof.Rows
section
variable {prog:E1}{w:Fz}{A:FQ}{E:EG→EE→Prop}{s:EE}
theorem rW{x y:Int}{t u:Tok}{Q:EG->EE->Prop}(h:Q (.bool (decide (x<y))) s):E2 (Fm prog w) A (LH .Lt (.int x t) (.int y u)) Q E s:=
 NJ (op:=.Lt) (MD s _ t) (MD s _ u) PySem.F.slot_int_lt PySem.F.entry_int_lt (PySem.F.args_int_lt_2 _ _) (gives_int_lt _ _ t u) (λx=>nomatch x) h
theorem xl{x y:ES}{a b:Int×Int}{P:Fin->EE->Prop}(hx:TK prog w s.heap [a.1,a.2] x)(hy:TK prog w s.heap [b.1,b.2] y)(h:P (.done (.ret (.bool (ltP a b)))) s):
  E2 (Fm prog w) A (Builtin.«tuple.__lt__» ⟨[.ref x,.ref y],[]⟩) P E s:=by
 have hTb:=hy.typeIs;obtain⟨o,Qs,n,t,u,ho,_,hd,hi⟩:=hx.two;obtain⟨o',its',n',t',u',RG,_,RT,QI⟩:=hy.two;show E2 _ _ (MG (.ref y) (.type "tuple") >>=_) _ _ s;refine Ew (GK hTb HW ?_);simp only[FF,EK,if_false];refine Ew (Hu ho hd ?_);refine Ew (Hu RG RT ?_);have sz:Qs.size=its'.size:=by rw[<-ER,<-ER,hi,QI];rfl
 rw[hi,QI];refine Ew ?_;simp only[Hb,NK,IM,J4];refine Ew (Ew ((Ka prog w).eqBool (a:=a.1) (b:=b.1) (GO _ _ _ _) (GO _ _ _ _) ?_));by_cases e1:a.1=b.1
 ·rw[decide_eq_true e1];simp only[FF,EK,if_false];refine Ez ?_;refine Ew (Ew ((Ka prog w).eqBool (a:=a.2) (b:=b.2) (GO _ _ _ _) (GO _ _ _ _) ?_));by_cases e2:a.2=b.2
  ·rw[decide_eq_true e2];simp only[FF,EK,if_false];refine Ez (Ez ?_);have z:ltP a b=false:=by unfold ltP;simp;lia
   rw[z]at h;refine Ez ?_;show P (.done (.ret (.bool (decide (Qs.size<its'.size))))) s;rw[sz,decide_eq_false (Fl _)];exact h
  ·rw[decide_eq_false e2];simp only[Hl,if_true];have z:ltP a b=decide (a.2<b.2):=by unfold ltP;rw[e1];simp
   rw[z]at h;exact Ew (Jr (Ew (rW (Ew (Ez (Ez (Ez (Ez h))))))))
 ·rw[decide_eq_false e1];simp only[Hl,if_true];have z:ltP a b=decide (a.1<b.1):=by unfold ltP;simp[e1]
  rw[z]at h;exact Ew (Jr (Ew (rW (Ew (Ez (Ez (Ez (Ez h))))))))
theorem lt_ptsR{x y:ES}{a b:Int×Int}{Q:EG->EE->Prop}(hu:A.units<GU)(hx:TK prog w s.heap [a.1,a.2] x)(hy:TK prog w s.heap [b.1,b.2] y)(h:Q (.bool (ltP a b)) s):
  E2 (Fm prog w) A (GQ .Lt (.ref x) (.ref y)) Q E s:=
 IU (op:=.Lt) hx.typeIs hy.typeIs Mm
  (FP Mm hx.typeIs PySem.F.entry_tuple_lt (xl hx hy ⟨_,rfl,(λe=>nomatch e),h⟩) (PySem.F.args_tuple_lt_2 _ _)) hu
theorem tJ{x y:Int}{t u:Tok}{Q:EG->EE->Prop}(h:Q (.bool (decide (y<x))) s):E2 (Fm prog w) A (LH .Gt (.int x t) (.int y u)) Q E s:=
 NJ (op:=.Gt) (MD s _ t) (MD s _ u) PySem.F.slot_int_gt PySem.F.entry_int_gt (PySem.F.args_int_gt_2 _ _) (gives_int_gt _ _ t u) (λx=>nomatch x) h
theorem xx{x y:ES}{a b:Int×Int}{P:Fin->EE->Prop}(hx:TK prog w s.heap [a.1,a.2] x)(hy:TK prog w s.heap [b.1,b.2] y)(h:P (.done (.ret (.bool (ltP b a)))) s):
  E2 (Fm prog w) A (Builtin.«tuple.__gt__» ⟨[.ref x,.ref y],[]⟩) P E s:=by
 have hTb:=hy.typeIs;obtain⟨o,Qs,n,t,u,ho,_,hd,hi⟩:=hx.two;obtain⟨o',its',n',t',u',RG,_,RT,QI⟩:=hy.two;show E2 _ _ (MG (.ref y) (.type "tuple") >>=_) _ _ s;refine Ew (GK hTb HW ?_);simp only[FF,EK,if_false];refine Ew (Hu ho hd ?_);refine Ew (Hu RG RT ?_);have sz:Qs.size=its'.size:=by rw[<-ER,<-ER,hi,QI];rfl
 rw[hi,QI];refine Ew ?_;simp only[Hb,NK,IM,J4];refine Ew (Ew ((Ka prog w).eqBool (a:=a.1) (b:=b.1) (GO _ _ _ _) (GO _ _ _ _) ?_));by_cases e1:a.1=b.1
 ·rw[decide_eq_true e1];simp only[FF,EK,if_false];refine Ez ?_;refine Ew (Ew ((Ka prog w).eqBool (a:=a.2) (b:=b.2) (GO _ _ _ _) (GO _ _ _ _) ?_));by_cases e2:a.2=b.2
  ·rw[decide_eq_true e2];simp only[FF,EK,if_false];refine Ez (Ez ?_);have z:ltP b a=false:=by unfold ltP;simp;lia
   rw[z]at h;refine Ez ?_;show P (.done (.ret (.bool (decide (Qs.size >its'.size))))) s;rw[sz,decide_eq_false (Fl _)];exact h
  ·rw[decide_eq_false e2];simp only[Hl,if_true];have z:ltP b a=decide (b.2<a.2):=by unfold ltP;rw[e1];simp
   rw[z]at h;exact Ew (Jr (Ew (tJ (Ew (Ez (Ez (Ez (Ez h))))))))
 ·rw[decide_eq_false e1];simp only[Hl,if_true];have z:ltP b a=decide (b.1<a.1):=by unfold ltP;simp[Ne.symm e1]
  rw[z]at h;exact Ew (Jr (Ew (tJ (Ew (Ez (Ez (Ez (Ez h))))))))
theorem gt_ptsR{x y:ES}{a b:Int×Int}{Q:EG->EE->Prop}(hu:A.units<GU)(hx:TK prog w s.heap [a.1,a.2] x)(hy:TK prog w s.heap [b.1,b.2] y)(h:Q (.bool (ltP b a)) s):
  E2 (Fm prog w) A (GQ .Gt (.ref x) (.ref y)) Q E s:=
 IU (op:=.Gt) hx.typeIs hy.typeIs Mn
  (FP Mn hx.typeIs PySem.F.entry_tuple_gt (xx hx hy ⟨_,rfl,(λe=>nomatch e),h⟩) (PySem.F.args_tuple_gt_2 _ _)) hu
end
theorem ut{a b:Int×Int}:ltP a b=true↔(a.1<b.1\/(a.1=b.1/\a.2<b.2)):=by unfold ltP;exact decide_eq_true_iff
theorem ltP_no{a b:Int×Int}:ltP a b=false↔¬ (a.1<b.1\/(a.1=b.1/\a.2<b.2)):=by unfold ltP;exact decide_eq_false_iff_not
theorem ltP_one{a b:Int×Int}(h1:ltP a b=false)(h2:ltP b a=false):a=b:=by
 rw[ltP_no]at h1 h2;obtain⟨a1,a2⟩:=a;obtain⟨b1,b2⟩:=b;simp only[Nq]at *;lia
theorem best_min(f:Nat->Int×Int):∀k,Gc (λi j=>ltP (f i) (f j)) k<=k/\∀j,j<=k->ltP (f j) (f (Gc (λi j=>ltP (f i) (f j)) k))=false
 |0=>⟨EL _,λj hj=>by
  obtain rfl:j=0:=by lia
  rw[ltP_no];simp[Gc]⟩
 |k+1=>by
  obtain⟨h1,h2⟩:=best_min f k;by_cases hb:ltP (f (k+1)) (f (Gc (λi j=>ltP (f i) (f j)) k))=true
  ·rw[Gc,if_pos hb];refine⟨EL _,λj hj=>?_⟩
   rw[ut]at hb;rcases Gy j (k+1) with z |z
   ·have:=ltP_no.mp (h2 j (by lia))
    rw[ltP_no];lia
   ·obtain rfl:j=k+1:=by lia
    rw[ltP_no];lia
  ·rw[Gc,if_neg hb];refine⟨by lia,λj hj=>?_⟩
   rcases Gy j (k+1) with z |z
   ·exact h2 j (by lia)
   ·obtain rfl:j=k+1:=by lia
    simpa using hb
theorem best_max(f:Nat->Int×Int):∀k,Gc (λi j=>ltP (f j) (f i)) k<=k/\∀j,j<=k->ltP (f (Gc (λi j=>ltP (f j) (f i)) k)) (f j)=false
 |0=>⟨EL _,λj hj=>by
  obtain rfl:j=0:=by lia
  rw[ltP_no];simp[Gc]⟩
 |k+1=>by
  obtain⟨h1,h2⟩:=best_max f k;by_cases hb:ltP (f (Gc (λi j=>ltP (f j) (f i)) k)) (f (k+1))=true
  ·rw[Gc,if_pos hb];refine⟨EL _,λj hj=>?_⟩
   rw[ut]at hb;rcases Gy j (k+1) with z |z
   ·have:=ltP_no.mp (h2 j (by lia))
    rw[ltP_no];lia
   ·obtain rfl:j=k+1:=by lia
    rw[ltP_no];lia
  ·rw[Gc,if_neg hb];refine⟨by lia,λj hj=>?_⟩
   rcases Gy j (k+1) with z |z
   ·exact h2 j (by lia)
   ·obtain rfl:j=k+1:=by lia
    simpa using hb
end ST
namespace L2
open PySem PySem.Spec PyProof.Rows
variable {H0:Hp}{O0:List ES}
section
variable {X:Cx}{pts:List P2}{M:P2}
theorem x9{pins:List (ES×Obj)}{σ:List (Option V)}{H:Hp}{s:EE}(I:Inv X pins σ H s){ws:List V}{Qs:List EG}(rv:aO ws Qs)(rs:Rps X.K H ws (pts.map pu))(i:Nat)(y:EG)(hy:Qs.toArray[i]?=some y):
  i<pts.length/\∃c,y=.ref c/\ws[i]?=some (.ref c)/\∀prog w,ST.TK prog w s.heap [(pts.getD i (0,0)).1,(pts.getD i (0,0)).2] c:=by
 have TF:Qs[i]?=some y:=by simpa using hy
 have hll:ws.length=pts.length:=by rw[rs.len,Ex]
 have hi:i<Qs.length:=aw TF;have hw:i<ws.length:=by rw[rv.length];exact hi
 have hq:i<pts.length:=by lia
 obtain⟨u,e1,e2⟩:=rv.get (Ey hw);rw[TF]at e1;cases e1;have r:=rs.at_ i _ (pu (pts.getD i (0,0))) (Ey hw) (by rw[EI,Ey hq];simp[hq])
 obtain⟨c,rfl,t⟩:=eF I r e2;refine⟨hq,c,rfl,?_,t⟩;rw[Ey hw];generalize ws[i]=z at *;cases r;cases e2;rfl
theorem Bu{g:Nat}(hg:g<pts.length):(pts.map pu)[g]?=some (pu (pts.getD g (0,0))):=by
 rw[EI,Ey hg];simp[hg]
theorem BU(hc:X.calm=true)(hu:X.A.units+10<GU)(hM:M∈pts)(hL:∀q∈pts,ST.ltP q M=false):dr X (.builtin "min") [lp pts] (pu M):=by
 intro pins s σ H vs us Q I r hq;obtain⟨O,d,rs,q⟩:=hq;obtain⟨v,rfl,h1⟩:=bQ rs;obtain⟨p1,rfl,r1⟩:=c9 r;cases h1 with
 | @lst a ws _ hq hl hh=>
  cases r1;obtain⟨Qs,rv,pl,_⟩:=I.list (SqL.of (ao _ _ hq));have rs':Rps X.K (hid H O) ws (pts.map pu):=⟨hl,hh⟩;have Qz:Qs.toArray.size=pts.length:=by rw[EU,<-rv.length,hl,Ex]
  have RN:=x9 (pts:=pts) I rv (rs'.same ao);have hn:0<pts.length:=F_ hM;refine ST.call_minG (G:=λh=>∀(i:Nat) (y:EG),Qs.toArray[i]?=some y->∃c,y=.ref c/\ST.TK X.prog X.w h [(pts.getD i (0,0)).1,(pts.getD i (0,0)).2] c) (bt:=λi j=>ST.ltP (pts.getD i (0,0)) (pts.getD j (0,0))) (I.ok.hd hc) pl.isList (by rw[Qz];exact hn) (λi j vi vj s' Q' E' g hi hj k=>?_) (λi y hy=>?_) (λh h' _ _ k2 i y hy=>?_) λy h' tk hy kp=>?_
  ·obtain⟨c,rfl,t⟩:=g i vi hi;obtain⟨c',rfl,t'⟩:=g j vj hj;exact ST.lt_ptsR (show X.A.units+1<GU by lia) t t' k
  ·obtain⟨_,c,rfl,_,t⟩:=RN i y hy;exact⟨c,rfl,t _ _⟩
  ·obtain⟨_,c,rfl,_,t⟩:=RN i y hy;obtain⟨o,items,n,ho,z⟩:=t X.prog X.w;exact⟨c,rfl,o,items,n,k2 c o ho,z⟩
  ·obtain⟨hg,c,rfl,hw,t⟩:=RN _ y hy;obtain⟨b1,b2⟩:=ST.best_min (λi=>pts.getD i (0,0)) (Qs.toArray.size-1)
   have e:pts.getD (Gc (λi j=>ST.ltP (pts.getD i (0,0)) (pts.getD j (0,0))) (Qs.toArray.size-1)) (0,0)=M:=by
    rw[Qz]at b1 b2 hg |-;generalize Gc (λi j=>ST.ltP (pts.getD i (0,0)) (pts.getD j (0,0))) (pts.length-1)=g at *
    obtain⟨j,hj⟩:=FO.mp hM;have k1:=b2 j (by have:=aw hj;lia)
    rw[show pts.getD j (0,0)=M by rw[E4,hj];rfl]at k1
    exact ST.ltP_one (hL _ (by simp[hg])) k1
   refine⟨.ref c,H,I.kept (t':=tk) kp,rfl,q _ H (.refl H) ?_⟩;have z:=rs'.at_ _ _ _ hw (Bu hg);rw[e]at z;exact z
theorem BQ(hc:X.calm=true)(hu:X.A.units+10<GU)(hM:M∈pts)(hL:∀q∈pts,ST.ltP M q=false):dr X (.builtin "max") [lp pts] (pu M):=by
 intro pins s σ H vs us Q I r hq;obtain⟨O,d,rs,q⟩:=hq;obtain⟨v,rfl,h1⟩:=bQ rs;obtain⟨p1,rfl,r1⟩:=c9 r;cases h1 with
 | @lst a ws _ hq hl hh=>
  cases r1;obtain⟨Qs,rv,pl,_⟩:=I.list (SqL.of (ao _ _ hq));have rs':Rps X.K (hid H O) ws (pts.map pu):=⟨hl,hh⟩;have Qz:Qs.toArray.size=pts.length:=by rw[EU,<-rv.length,hl,Ex]
  have RN:=x9 (pts:=pts) I rv (rs'.same ao);have hn:0<pts.length:=F_ hM;refine ST.call_maxG (G:=λh=>∀(i:Nat) (y:EG),Qs.toArray[i]?=some y->∃c,y=.ref c/\ST.TK X.prog X.w h [(pts.getD i (0,0)).1,(pts.getD i (0,0)).2] c) (bt:=λi j=>ST.ltP (pts.getD j (0,0)) (pts.getD i (0,0))) (I.ok.hd hc) pl.isList (by rw[Qz];exact hn) (λi j vi vj s' Q' E' g hi hj k=>?_) (λi y hy=>?_) (λh h' _ _ k2 i y hy=>?_) λy h' tk hy kp=>?_
  ·obtain⟨c,rfl,t⟩:=g i vi hi;obtain⟨c',rfl,t'⟩:=g j vj hj;exact ST.gt_ptsR (show X.A.units+1<GU by lia) t t' k
  ·obtain⟨_,c,rfl,_,t⟩:=RN i y hy;exact⟨c,rfl,t _ _⟩
  ·obtain⟨_,c,rfl,_,t⟩:=RN i y hy;obtain⟨o,items,n,ho,z⟩:=t X.prog X.w;exact⟨c,rfl,o,items,n,k2 c o ho,z⟩
  ·obtain⟨hg,c,rfl,hw,t⟩:=RN _ y hy;obtain⟨b1,b2⟩:=ST.best_max (λi=>pts.getD i (0,0)) (Qs.toArray.size-1)
   have e:pts.getD (Gc (λi j=>ST.ltP (pts.getD j (0,0)) (pts.getD i (0,0))) (Qs.toArray.size-1)) (0,0)=M:=by
    rw[Qz]at b1 b2 hg |-;generalize Gc (λi j=>ST.ltP (pts.getD j (0,0)) (pts.getD i (0,0))) (pts.length-1)=g at *
    obtain⟨j,hj⟩:=FO.mp hM;have k1:=b2 j (by have:=aw hj;lia)
    rw[show pts.getD j (0,0)=M by rw[E4,hj];rfl]at k1
    exact ST.ltP_one k1 (hL _ (by simp[hg]))
   refine⟨.ref c,H,I.kept (t':=tk) kp,rfl,q _ H (.refl H) ?_⟩;have z:=rs'.at_ _ _ _ hw (Bu hg);rw[e]at z;exact z
variable {ps:PSt}{x:Str}{pos:Pos}{a b:Expr}{i j:Int}
theorem Df(hg:Gl X x)(h:∃t,X.mg x=some (.int i t))(hd:(x==("__debug__":Str))=false:=by decide):Ev X H0 O0 ps (.Name x pos) (.int i):=by
 obtain⟨t,hm⟩:=h;exact PE.mono (As (v:=.int i) hg hm ⟨t,rfl⟩ hd) λ_ H _ ⟨_,_,k⟩=>k _ H (.refl H) (.int i)
end
theorem Rs.free{K:EC}{H0 H:Hp}{O0 O:List ES}{ps:PSt}{σ:St}{xs:List U}(n:Nat)(h:ps[n]?=some (some (.own xs)))(R:Rs K H0 O0 ps σ H O):∃O',(∀b∈O',b∈O)/\Rs K H0 O0 (ps.set n (some (.val (.lst xs)))) σ H O':=by
 obtain⟨v,hv,a,vs,rfl,ha,ha0,hH,rs⟩:=R.at_ n _ h;have less:∀b∈O.filter (λb=>decide (b≠a)),b∈O:=λb hb=>(FE.mp hb).1
 have keep:∀b∈O,b≠a->b∈O.filter (λb=>decide (b≠a)):=λb hb ne=>FE.mpr ⟨hb,by simpa using ne⟩
 have sm:aI (hid H O) (hid H (O.filter (λb=>decide (b≠a)))):=d7 less
 have na:a ∉ O.filter (λb=>decide (b≠a)):=λz=>by have:=(FE.mp z).2;simp at this
 refine⟨O.filter (λb=>decide (b≠a)),less,R.same,λb hb=>keep b (R.old b hb) λe=>ha0 (e ▸ hb),λb hb=>R.new b (less b hb),λb hb=>R.dom b (less b hb),by rw[R.len,IP],λi s hs=>?_,λi j ys zs b h1 h2 h3 h4=>?_⟩
 ·rcases cO hs with ⟨rfl,e⟩ |⟨ne,hs⟩
  ·cases e;exact⟨.ref a,hv,.lst (dg hH na) (rs.same sm).len (rs.same sm).at_⟩
  ·obtain⟨w,hw,ok⟩:=R.at_ i s hs;refine⟨w,hw,?_⟩;cases s with
   |val u=>exact Rp.same sm ok
   |own ys=>
    obtain⟨b,ws,rfl,hb,hb0,hHb,rsb⟩:=ok;refine⟨b,ws,rfl,keep b hb λe=>?_,hb0,hHb,rsb.same sm⟩
    subst e;exact ne (R.inj n i _ _ b h hs hv hw)
   |pin z u=>exact⟨ok.1,Rp.same sm ok.2⟩
   |dsk w C b d Qt=>
    obtain⟨dx,kv,e1,e2,e3,e4,e5,e6⟩:=ok;exact⟨dx,kv,e1,keep d e2 (λe=>by rw[e,hH]at e5;cases e5),e3,e4,e5,e6.same sm⟩
 ·rcases cO h1 with ⟨_,e⟩ |⟨_,h1⟩
  ·cases e
  ·rcases cO h2 with ⟨_,e⟩ |⟨_,h2⟩
   ·cases e
   ·exact R.inj i j _ _ b h1 h2 h3 h4
section
variable {X:Cx}{E:XK}{ps:PSt}{D:PD}{ss:List HL}{e:Expr}{xs:List U}{b:Bool}
theorem iV(n:Nat)(h:ps[n]?=some (some (.own xs)))(w:Ws X H0 O0 E ss D (ps.set n (some (.val (.lst xs))))):Ws X H0 O0 E ss D ps:=
 PSs.mono w λD' σ H ⟨L,O,R⟩=>by
  obtain⟨O',_,R'⟩:=R.free n h;exact⟨L,O',R'⟩
end
section
variable {X:Cx}{ns:List Int}{M:Int}
theorem wv(hc:X.calm=true)(hM:M∈ns∧∀a∈ns,a≤M):dr X (.builtin "max") [.lst (ns.map U.int)] (.int M):=by
 intro pins s σ H vs us Q I r hq;obtain⟨O,d,rs,q⟩:=hq;obtain⟨v,rfl,h1⟩:=bQ rs;obtain⟨p1,rfl,r1⟩:=c9 r;cases h1 with
 | @lst a ws _ hq hl hh=>
  cases r1;obtain⟨Qs,rv,pl,_⟩:=I.list (SqL.of (ao _ _ hq));have Qz:Qs.length=ns.length:=by rw[<-rv.length,hl,Ex]
  have RN:=j8 (ns:=ns) rv ⟨hl,hh⟩;have hn:0<ns.length:=F_ hM.1;refine call_max_walk (GZ pl.isList ?_);have Rw:a<s.heap.objs.size:=by obtain⟨o,e,_⟩:=pl.isList;exact EN e
  refine⟨s.heap.objs.size,_,_,_,_,_,_,rfl,Walks.list (A:=X.A.in1) (I.ok.hd hc) s.heap.objs.size a (Fe Rw) Qs.toArray,⟨⟨_,EM _ rfl,rfl,rfl⟩,pl.isList.push _⟩,λb hb=>?_,by rw[EU,Qz];exact hn,CmpOf.ints_gt (λi=>ns.getD i 0) RN,λv h' tk hP hk=>?_⟩
  ·show b<(s.heap.push _).objs.size;rw[Ga];rcases EH.mp hb with z |z
   ·rw[z];exact F8 _
   ·rw[EJ.mp z];exact GL Rw
  ·obtain⟨t,rfl⟩:=RN _ _ hP;obtain⟨b1,b2⟩:=argBest_gt (λi=>ns.getD i 0) (Qs.toArray.size-1)
   have e:ns.getD (Gc (λi j=>decide (ns.getD i 0 >ns.getD j 0)) (Qs.toArray.size-1)) 0=M:=by
    rw[EU,Qz]at b1 b2 |-;generalize Gc (λi j=>decide (ns.getD i 0 >ns.getD j 0)) (ns.length-1)=g at *
    have hg:g<ns.length:=by lia
    obtain⟨j,hj,ej⟩:=Ir hM.1;have k1:=b2 j (by lia)
    have k2:=hM.2 ns[g] (Jk hg);simp only[E4,Ey hg,Ey hj,HN]at k1 |-;lia
   rw[e];refine⟨.int M,H,I.kept (t':=tk) λb o e=>hk b o ?_ (EA _ e),⟨t,rfl⟩,q _ H (.refl H) (.int _)⟩
   intro z;have:b=s.heap.objs.size:=by simpa using z
   exact absurd (EN e) (by rw[this];exact Fl _)
variable {E:XK}{ps:PSt}{D:PD}{e:Expr}{pos:Pos}{xs ys:List U}
theorem pU(i:Nat){x:Str}{QQ QE xp:Pos}(hp:ps[i]?=some (some (.own xs)))(ha:Ev X H0 O0 ps e (.lst ys))(hz:xs.length+ys.length<=sizeLine)(h:D.nx (ps.set i (some (.own (xs++ys)))))
  (hN:X.N[i]?=some x:=by rfl) (hv:Vis X.env.scope x:=by first |exact Or.inl rfl |exact Or.inr (Or.inl rfl) |exact Or.inr (Or.inr rfl)) (hd:(x==("__debug__":Str))=false:=by decide) (Ri:(x==("__classdict__":Str))=false:=by decide)
  (Q3:IY (.Name x xp) "extend" X.env (Io (.Name x xp) X.env)=Io (.Name x xp) X.env:=by rfl)
  (R6:((Ie QE (EO [e] X.env)).all (λx=>!x.1) && (N_ QE (LB [] X.env)).all (λx=>x.1.isSome) && decide ([e].length+([]:List KY).length+(if ([]:List KY).isEmpty then 0 else 1)<30))=true:=by rfl)
  (Q4:(QQ.endLine==QE.line)=true:=by rfl) (TH:EO [e] X.env=(false,Io e X.env)::EO [] X.env:=by rfl) (Rc:(Ie QE (EO [] X.env)).any (·.1)=false:=by rfl)
  (hs:HQ (.Call (.Attribute (.Name x xp) "extend" QQ) [e] [] QE) none pos.line X.env=pure false:=by rfl):W1 X H0 O0 E (.Expr (.Call (.Attribute (.Name x xp) "extend" QQ) [e] [] QE) pos) D ps:=
 PS.mono (ie (yB Ip Lp Lq vE (e8 hN hv hd Ri) (cI ha eI TH) Q3 R6 Q4 TH Rc) hs) λD' σ H ⟨L,O,R⟩=>by
  obtain⟨v,h1,a,vs,rfl,h3,h4,h5,h6⟩:=R.at_ i _ hp;refine⟨_,h1,.inl ⟨rfl,_,SqL.of h5⟩,O,R,λw H' s r=>?_⟩
  cases r with
  | @lst b zs _ hq hl hh=>
   refine⟨a,b,vs,zs,rfl,rfl,s _ _ h5,ao _ _ hq,by rw[h6.len,hl];exact hz,?_⟩
   exact L.nx _ _ _ O ((R.go s).write hp h1 ((h6.same (aT s)).snoc ⟨hl,hh⟩)) h
end
end L2
namespace L2
open PySem PySem.Spec PySem.W PyProof.Rows
structure yw(K:EC)(x Qy:Str)(st:HL)(f:ES)(fd:G9)(D:ES):Prop where
 ex:∃(oc:EG) (od:Option ES) (kV Rm pm:EG) (an:Option ES) (QA ct:EG) (Sr:Array (Option EG)),
  fd=Hc x Qy (bL st) (bn st) (aj st) (.ref D) kV Rm pm an QA ct/\K.lookup f=some ⟨oc,od,.func fd,Sr⟩/\JZ K QA Qy=true
 kp:H_ K (.ref f)=true
theorem AB{K:EC}{x Qy:Str}{st:HL}{f D:ES}{oc:EG}{od an:Option ES}{Sr:Array (Option EG)}{kV Rm pm QA ct:EG}(l:K.lookup f=some ⟨oc,od,.func (Hc x Qy (bL st) (bn st) (aj st) (.ref D) kV Rm pm an QA ct),Sr⟩)
  (c:JZ K QA Qy=true) (k:H_ K (.ref f)=true):yw K x Qy st f (Hc x Qy (bL st) (bn st) (aj st) (.ref D) kV Rm pm an QA ct) D:=⟨⟨oc,od,kV,Rm,pm,an,QA,ct,Sr,rfl,l,c⟩,k⟩
section
variable {P:E1}{w:Fz}{K:EC}{mg:Str→Option EG}{base:GS}{N pn:List Str}{Qy nm:Str}{f D:ES}
theorem yw.okF{x:Str}{st:HL}{fd:G9}{k:Nat}{sp:Sp}(F:yw K x Qy st f fd D)(S:au N pn (aj st))(len:∀vs H Q E,sp vs H Q E->vs.length=pn.length)
  (Q2:∀(QA:EG) (A:FQ) (outer:List Env) (s:EE) (H:Hp) (vs:List V) (Q:VK) (E:XK),eL k (A.deeper (L7 Qy (aj st) s.heap.objs.size f QA))->sp vs H Q E->
   ∃t,PSs (nV (CXF P w) P w K mg base N Qy (aj st) f QA A outer s H E) (bn st) t/\t {nx:=λ_ H'=>Q .non H',rt:=Q } (start N vs) H):aZ P w K mg base (CXF P w) (k+1) f fd pn sp:=by
 obtain⟨oc,od,kV,Rm,pm,an,QA,ct,Sr,rfl,lk,Ri⟩:=F.ex;exact BA lk Ri S len λA outer s H vs Q E hr RR=>Q2 QA A outer s H vs Q E hr RR
theorem xf{st:HL}{fd:G9}{k:Nat}{QV:List U->Out->Prop}(F:yw K nm Qy st f fd D)(S:au N pn (aj st))(len:∀us o,QV us o->us.length=pn.length)
  (Q2:∀(QA:EG) (A:FQ) (outer:List Env) (s:EE) (H:Hp) (E:XK) (O:List ES) (us:List U) (o:Out),eL k (A.deeper (L7 Qy (aj st) s.heap.objs.size f QA))->QV us o->
   Ws (nV (CXF P w) P w K mg base N Qy (aj st) f QA A outer s H E) H O E (bn st) ⟨λ_=>o=.val .non,λo'=>o'=o,λ_=>False,λ_=>False⟩ (gq N us)):aZ P w K mg base (CXF P w) (k+1) f fd pn (spU K QV):=by
 refine F.okF S (λvs H Q E h=>?_) λQA A outer s H vs Q E hr h=>?_
 ·obtain⟨us,O,o,_,r,RR,_⟩:=h;rw[r.len];exact len us o RR
 ·obtain⟨us,O,o,d,r,RR,q⟩:=h;refine⟨_,Q2 QA A outer s H E O us o hr RR,⟨λps σ H' O' R e=>?_,λ_ _ _ _ _ e=>e.elim,λ_ _ _ _ _ e=>e.elim,λo' e=>by subst e;exact q⟩,O,?_⟩
  ·subst e;exact q .non H' R.same .non
  ·refine⟨.refl H,λa h=>h,λa h=>.inl h,d,?_,λi sl e=>?_,λi j xs ys a e1 e2 _ _=>?_⟩
   ·unfold start gq;rw[EY,EY,Ex,Ex,HR,HR,r.len]
   ·unfold gq at e;by_cases hi:i<us.length
    ·rw[E6 (by simpa using hi),EI,Ey hi]at e
     cases e;obtain⟨v,h1,h2⟩:=r.get (Ey hi);refine⟨v,?_,h2⟩;unfold start;rw[E6 (by simpa [r.len] using hi),EI,h1];rfl
    ·rw[E7 (by simpa using hi),HB]at e
     split at e <;>cases e
   ·exfalso
    unfold gq at e1;by_cases hi:i<us.length
    ·rw[E6 (by simpa using hi),EI,Ey hi]at e1
     cases e1
    ·rw[E7 (by simpa using hi),HB]at e1
     split at e1 <;>cases e1
end
section
variable {X:Cx}{H0:Hp}{O0:List ES}{ps:PSt}{e:Expr}{es:List Expr}{pos p:Pos}{u:U}{us:List U}{xs:List U}{CX:CXT}{n:Nat}{f:ES}{fd:G9}{pn:List Str}{QV:List U→Out→Prop}{nm:Str}{j:Int}
theorem tY(F:aZ X.prog X.w X.K X.mg X.base CX n f fd pn (spU X.K QV))(hr:eL n X.A)(hg:Gl X nm)(hm:X.mg nm=some (.ref f))(hk:H_ X.K (.ref f)=true)(hb:∃t,dB X.K fd pn [.int j t])(hx:iT CX X E0)
  (ha:EvA X H0 O0 ps (e::es) us) (h:QV (us++[.int j]) (.val u)) (RL:(nm==("__debug__":Str))=false:=by decide) (he:EO (e::es) X.env=(false,Io e X.env)::EO es X.env:=by rfl) (QY:(Ie pos (EO es X.env)).any (·.1)=false:=by rfl):
  Ev X H0 O0 ps (.Call (.Name nm p) (e::es) [] pos) u:=by
 obtain⟨t,hb⟩:=hb;refine PE.mono (mK F hr hg hm hk hb (.cons (show aX (.int j) (.int j t) from ⟨t,rfl⟩) .nil) hx ha RL he QY) λσ H Q ⟨O,R,q⟩=>⟨O,R,λvs H1 s1 r1=>?_⟩
 show spU X.K QV (vs++[.int j]) H1 Q _;exact⟨us++[.int j],O,.val u,(R.go s1).dom,r1.snoc (.cons (.int _) .nil),h,λv H2 s2 r2=>q v H2 (s1.trans s2) r2⟩
end
end L2
namespace L2
open PySem PySem.Spec PyProof.Rows
theorem vL{P:E1}{w:Fz}{K:EC}{tg:Expr}(it:ES)(lo:Int)(n:Nat):uF P w K tg (Itr lo n) [it] it (λi h=>IsLongIter h it (lo+(i:Nat) *1) ((n:Int)-(i:Nat)) 1) where
 mem:=by simp
 obj:=λi h st b hb=>by
  have e:b=it:=by simpa using hb
  subst e
  exact⟨_,st,λv z=>by
   have z':Data.fields _=Data.cell v:=z;cases z'⟩
 keep:=λi h h' st k=>k it (by simp) _ st
 item:=by
  intro X hP hw hK hc i pins s σ H E I hf st hg;subst hP hw hK;obtain⟨f0,f1,f2,f3,f4,f5⟩:=hf it (by simp)
  have W:=Walks.longrange (prog:=X.prog) (w:=X.w) (I.ok.hd hc) it lo 1 n;refine W.item i s _ _ hg st λv h' tk hv Q6 kk=>?_
  obtain⟨t,rfl⟩:=hv;have I1:Inv X pins σ H {s with heap:=h',toks:=tk }:=I.turned (λb o hb e=>kk b o (by simpa using hb) e) f0 f1 f3 f4 f5
  refine⟨_,rfl,oN (s:={s with heap:=h',toks:=tk }) (n:="longrange_iterator") Q6 rfl rfl (by decide) ⟨.int (lo+i),H,I1,⟨t,?_⟩,⟨rfl,rfl⟩,Q6,λb hb=>(hf b hb).1⟩⟩
  rw[JQ]
 done:=by
  intro X hP hw hK hc i pins s σ H E I hf st hg;subst hP hw hK;obtain⟨f0,f1,f2,f3,f4,f5⟩:=hf it (by simp)
  exact wpAny_pyNext_long_end (I.ok.hd hc) st (by have:n<=i:=hg;lia) λh' eb=>⟨rfl,I.turned (t':=s.toks) (λb o hb e=>eb b o hb e) f0 f1 f3 f4 f5⟩
 self:=λ_ _ _ _ _ st h=>wpAny_pyIter_longiter st h
section
variable {X:Cx}{tg:Expr}
theorem l6{pins:List (ES×Obj)}{σ:St}{H:Hp}{s:EE}{R:It->Hp->Prop}{E:EG->EE->Prop}{lo hi:Int}{t u v:Tok}{tk:Nat}(I:Inv X pins σ H s)
  (q:R (Itr lo (hi-lo).toNat) H):E2 (Fm X.prog X.w) X.A (MV (.ref s.heap.objs.size)) (PIE X pins σ tg R) E {s with heap:=s.heap.push {cls:=.type "range",data:=.fields #[.int lo t,.int hi u,.int 1 v] },toks:=tk }:=by
 have I1:Inv X pins σ H {s with heap:=s.heap.push {cls:=.type "range",data:=.fields #[.int lo t,.int hi u,.int 1 v] },toks:=tk }:=I.kept λb o e=>EA _ e
 have e1:lo+((0:Nat):Int) *1=lo:=by simp
 have e2:(((hi-lo).toNat:Nat):Int)-((0:Nat):Int)=Builtin.Range.rangeSize lo hi 1:=by rw[rangeSize_one];split <;>lia
 by_cases hs:Builtin.Range.small lo hi 1=true
 ·refine Nb (IsRange.new ..) hs ?_
  refine⟨(s.heap.push {cls:=.type "range",data:=.fields #[.int lo t,.int hi u,.int 1 v] }).objs.size,[(s.heap.push {cls:=.type "range",data:=.fields #[.int lo t,.int hi u,.int 1 v] }).objs.size],_,_,H,rfl,
   I1.kept (t':=tk) λb o e=>EA _ e,jG _ lo (hi-lo).toNat,?_,λb hb=>?_,q⟩
  ·show Ob _ _ (lo+((0:Nat):Int) *1) ((((hi-lo).toNat:Nat):Int)-((0:Nat):Int)) 1;rw[e1,e2];exact EM _ rfl
  ·have e:b=(s.heap.push {cls:=.type "range",data:=.fields #[.int lo t,.int hi u,.int 1 v] }).objs.size:=by simpa using hb
   subst e;exact I1.fpOk (EL _) (I1.hok.fresh (EL _))
 ·refine wpAny_pyIter_longrange (IsRange.new ..) (by simpa using hs) ?_
  refine⟨(s.heap.push {cls:=.type "range",data:=.fields #[.int lo t,.int hi u,.int 1 v] }).objs.size,[(s.heap.push {cls:=.type "range",data:=.fields #[.int lo t,.int hi u,.int 1 v] }).objs.size],_,_,H,rfl,
   I1.kept (t':=tk) λb o e=>EA _ e,vL _ lo (hi-lo).toNat,?_,λb hb=>?_,q⟩
  ·show IsLongIter _ _ (lo+((0:Nat):Int) *1) ((((hi-lo).toNat:Nat):Int)-((0:Nat):Int)) 1;rw[e1,e2];exact EM _ rfl
  ·have e:b=(s.heap.push {cls:=.type "range",data:=.fields #[.int lo t,.int hi u,.int 1 v] }).objs.size:=by simpa using hb
   subst e;exact I1.fpOk (EL _) (I1.hok.fresh (EL _))
def BS(ta:TA):TI:=λσ H R=>ta σ H λvs H1=>∃i j:Int,vs=[.int i,.int j]/\R (Itr i (j-i).toNat) H1
theorem qW{a b:Expr}{ta:TA}{p pos:Pos}(hg:Gl X "range")(hm:X.mg "range"=none)(ha:PA X [a,b] ta)(hs:EO [a,b] X.env=[(false,Io a X.env),(false,Io b X.env)]:=by rfl)(hs2:EO [b] X.env=[(false,Io b X.env)]:=by rfl):
  PI X tg (.Call (.Name "range" p) [a,b] [] pos) (BS ta):=by
 intro pins s σ H R I h;refine Call_ (cg I hg hm O1 (PyProof.Rows.callWith_type1 (thn (ha pos pins s σ H _ I h) λus s1 ⟨vs,H1,I1,r1,q1⟩=>?_) (by rw[hs,hs2]) (by rw[hs2];rfl)))
 obtain⟨i,j,e,q⟩:=q1;subst e;cases r1 with
 |cons r rr=>
  cases rr with
  |cons r' rr=>
   cases rr;obtain⟨t,rfl⟩:=r;obtain⟨t',rfl⟩:=r';exact call_range_2 (l6 I1 q)
variable {H0:Hp}{O0:List ES}{ps:PSt}{a b:Expr}{p pos:Pos}
theorem v3{i j:Int}(hg:Gl X "range")(hm:X.mg "range"=none)(ha:EvA X H0 O0 ps [a,b] [.int i,.int j])(hs:EO [a,b] X.env=[(false,Io a X.env),(false,Io b X.env)]:=by rfl)(hs2:EO [b] X.env=[(false,Io b X.env)]:=by rfl):
  EvI X H0 O0 ps tg (.Call (.Name "range" p) [a,b] [] pos) (fF i (j-i).toNat):=
 PI.mono (qW hg hm ha hs hs2) λσ H Q ⟨O,R,q⟩=>⟨O,R,λvs H' s r=>by
  obtain⟨v,w,rfl,k1,k2⟩:=eS r;cases k1;cases k2;exact⟨i,j,rfl,q _ H' s j_⟩⟩
end
section
variable {X:Cx}{H0:Hp}{O0:List ES}{E:XK}{ps QO:PSt}{D:PD}{tg iter cond:Expr}{pos p:Pos}{xs:List U}
theorem rc{Q7:Expr}{Qr:Kk}{cl:List (Str×ES)}{SD py:Pos}{y:Str}{j:Nat}{is:List Nat}{g:TG}{f:PSt->U->PSt}{dom:U->Prop}(fs:List (Option U))(own:Bool)(hc:X.calm=true)(hN:X.N.Nodup)(hj:X.N[j]?=some y)(hy:Loc X.env.scope y)(B:dm X Qr cl is)
  (hi:EvI X H0 O0 ps tg iter xs) (hg:∀C s H fp,PG (aD X Qr cl C s H fp) tg g) (gk:GOk g X.K is f dom) (Qz:fs.length=xs.length) (hz:xs.length<=sizeLine) (RM:∀x∈xs,dom x)
  (ht:∀C s H fp (i:Nat) (x:U) (o:Option U),xs[i]?=some x->fs[i]?=some o->Tt (aD X Qr cl C s H fp) H0 O0 (f (d_ is ps) x) cond o.isSome)
  (he:∀C s H fp (i:Nat) (x y:U),xs[i]?=some x->fs[i]?=some (some y)->Ev (aD X Qr cl C s H fp) H0 O0 (f (d_ is ps) x) Q7 y) (h:D.nx (ps.set j (some (if own then .own (fs.filterMap id) else .val (.lst (fs.filterMap id))))))
  (hs:∀x,Gm iter X.env x=pure x:=by intro _;rfl)
  (hsw:HQ (.ListComp Q7 [⟨tg,iter,[cond],0⟩] Qr pos) (some (.Name y py)) SD.line X.env=pure true:=by rfl) (hf:X.fn y=true\/X.env.scope.names.lookup y=some .local:=by first |exact .inl rfl |exact .inr rfl |assumption):
  W1 X H0 O0 E (.Assign [.Name y py] (.ListComp Q7 [⟨tg,iter,[cond],0⟩] Qr pos) SD) D ps:=by
 have TV:∀C s H fp,PE (aD X Qr cl C s H fp) Q7 λσ H Q=>∃i x y,xs[i]?=some x/\fs[i]?=some (some y)/\∃O',Rs X.K H0 O0 (f (d_ is ps) x) σ H O'/\∀v H',aI H H'->Rp X.K (hid H' O') v y->Q v H':=
  λC s H fp pins s' σ H' Q I ⟨i,x,y,h1,h2,z⟩=>he C s H fp i x y h1 h2 pins s' σ H' Q I z
 have htt:∀C s H fp,PT (aD X Qr cl C s H fp) cond λσ H Q=>∃(i:Nat) (x:U) (o:Option U),xs[i]?=some x/\fs[i]?=some o/\∃O',Rs X.K H0 O0 (f (d_ is ps) x) σ H O'/\∀H',aI H H'->Q o.isSome H':=
  λC s H fp pins s' σ H' Q I ⟨i,x,o,h1,h2,z⟩=>ht C s H fp i x o h1 h2 pins s' σ H' Q I z
 refine PS.mono (oF hc hN hj hy B hi hg htt TV hs hsw hf) λD' σ H ⟨L,O,R⟩=>⟨O,R,λJ H1 s1 Y=>?_⟩
 refine jV gk (R.go s1) Y Qz hz RM (λi x o σ H O' Q h1 h2 R' z=>⟨i,x,o,h1,h2,O',R',z⟩) (λi x y σ H O' Q h1 h2 R' z=>⟨i,x,y,h1,h2,O',R',z⟩) λa vs H' s n h' r=>?_
 cases own with
 |true=>exact L.nx _ _ _ _ ((R.go s1).own s n h' r) h
 |false=>
  have na:a ∉ O:=λz=>(R.go s1).dom a z n
  have r':=r.same (d7 λb hb=>EB a hb)
  exact L.nx _ _ _ _ (((R.go s1).go s).set (.lst (dg h' na) r'.len r'.at_)) h
end
end L2
namespace TS
open PySem PyProof.Rows
variable {E:EG→EE→Prop}
section
variable {prog:E1}{w:Fz}{A:FQ}{s:EE}
def gt(a:Array NL)(i:Nat):NL:=a.getD i (Fb,Fb)
variable {M:Model}{σ:Type}
theorem wif{α:Type}{c:Prop}[Decidable c]{x y:StateT σ Sem α}{Q:α->σ->Prop}{st:σ}(h:c->wpS M A E s x Q st)(k:¬ c->wpS M A E s y Q st):wpS M A E s (if c then x else y) Q st:=by
 by_cases e:c
 ·rw[if_pos e];exact h e
 ·rw[if_neg e];exact k e
def Di(prog:E1)(w:Fz)(A:FQ)(E:EG->EE->Prop)(s:EE)(κ:MF)(P:NL->Prop)(R:NL->NL->Bool):Prop:=
 ∀x y st (Q:Option Bool->SortSt->Prop),P x->P y->kindOf st=κ->Q (some (R x y)) st->wpS (Fm prog w) A E s (lt' x y) Q st
variable {κ:MF}{P:NL→Prop}{R:NL→NL→Bool} (K:Di prog w A E s κ P R)
include K
end
section
variable {prog:E1}{w:Fz}{A:FQ}{s:EE}{κ:MF}{P:NL→Prop}{R:NL→NL→Bool}
variable {l:List NL}{pd:Array (Nat×Nat×Nat)}
def Kept(a b:Array NL)(lo:Nat):Prop:=∀j,j<lo->gt b j=gt a j
variable (K:Di prog w A E s κ P R)
include K
end
end TS
namespace ST
open PySem PySem.W PyProof.Rows
abbrev ky(p:(Int×Int)×ES):NL:=(EZ p.2,EZ p.2)
end ST
namespace L2
open PySem PySem.Spec PyProof.Rows
section
variable {X:Cx}{tg:Expr}
def Cd(ta:TA):TI:=λσ H R=>ta σ H λvs H1=>∃j:Int,vs=[.int j]/\R (Itr 0 (j-0).toNat) H1
theorem rR{a:Expr}{ta:TA}{p pos:Pos}(hg:Gl X "range")(hm:X.mg "range"=none)(ha:PA X [a] ta)(hs:EO [a] X.env=[(false,Io a X.env)]:=by rfl):
  PI X tg (.Call (.Name "range" p) [a] [] pos) (Cd ta):=by
 intro pins s σ H R I h;refine Call_ (cg I hg hm O1 (PyProof.Rows.callWith_type1 (thn (ha pos pins s σ H _ I h) λus s1 ⟨vs,H1,I1,r1,q1⟩=>?_) (by rw[hs];rfl) rfl))
 obtain⟨j,e,q⟩:=q1;subst e;cases r1 with
 |cons r rr=>
  cases rr;obtain⟨t,rfl⟩:=r;exact call_range_1 (l6 I1 q)
variable {H0:Hp}{O0:List ES}{ps:PSt}{a:Expr}{p pos:Pos}
theorem uR{j:Int}(hg:Gl X "range")(hm:X.mg "range"=none)(ha:EvA X H0 O0 ps [a] [.int j])(hs:EO [a] X.env=[(false,Io a X.env)]:=by rfl):
  EvI X H0 O0 ps tg (.Call (.Name "range" p) [a] [] pos) (fF 0 (j-0).toNat):=
 PI.mono (rR hg hm ha hs) λσ H Q ⟨O,R,q⟩=>⟨O,R,λvs H' s r=>by
  obtain⟨v,rfl,h⟩:=bQ r;cases h;exact⟨j,rfl,q _ H' s j_⟩⟩
end
end L2
namespace L2
open PySem PySem.Spec PySem.W PyProof.Rows
abbrev T'(l:List Nat):Str:=⟨l.toArray⟩
abbrev sg(c:Nat):U:=.str ⟨#[c]⟩
end L2
namespace L2
open PySem PySem.Spec PyProof.Rows
theorem Do{X:Cx}{p q:P2}(hu:X.A.units+10<GU):OpS X (GQ .Lt) (pu p) (pu q) (.bl (ST.ltP p q)):=by
 intro pins s σ H v w e f Q I r1 r2 h;obtain⟨k1,k2,k3⟩:=h;obtain⟨b1,rfl,t1⟩:=Ba I k1 r1;obtain⟨b2,rfl,t2⟩:=Ba I k2 r2;exact ST.lt_ptsR (by lia) t1 t2 (aV I k3 rfl)
section
variable {K:EC}{H0 H H':Hp}{O0 O:List ES}{ps:PSt}{σ:St}{j:Nat}{xss:Nat→List U}{d:ES}{as:Nat→ES}
theorem Rs.setn{o:Option V}(R:Rs K H0 O0 ps σ H O)(h:ps[j]?=some none):Rs K H0 O0 ps (σ.set j o) H O:=by
 have ne:∀{i:Nat}{s:Sl},ps[i]?=some (some s)->j≠i:=λ{i s} q z=>by rw[<-z,h]at q;cases q
 refine⟨R.same,R.old,R.new,R.dom,by simp[R.len],λi s q=>?_,λi k xs ys a q1 q2 q3 q4=>?_⟩
 ·obtain⟨v,h1,h2⟩:=R.at_ i s q;exact⟨v,by rw[Fc (ne q)];exact h1,h2⟩
 ·rw[Fc (ne q1)]at q3;rw[Fc (ne q2)]at q4;exact R.inj i k xs ys a q1 q2 q3 q4
end
end L2
namespace ST2
open PySem PySem.SetTable ST
section
variable {prog:E1}{w:Fz}{A:FQ}{E:EG→EE→Prop}{s:EE}
abbrev K4:=(Int×Int)×(Int×Int)
abbrev l1(k:K4):List Int:=[k.1.1,k.1.2]
abbrev l2(k:K4):List Int:=[k.2.1,k.2.2]
def TQ(prog:E1)(w:Fz)(h:GS)(k:K4)(b:ES):Prop:=∃o items n a1 a2,h.get? b=some o∧o.cls=.type "tuple"∧o.data=.seq items n∧items.toList=[.ref a1,.ref a2]∧TK prog w h (l1 k) a1∧TK prog w h (l2 k) a2
def hsq(prog:E1)(w:Fz)(k:K4):Int:=reduceHash (Builtin.Tuple.tupleHashOf [hsh prog w (l1 k),hsh prog w (l2 k)])
theorem TQ.typeIs{k:K4}{a:ES}(x:TQ prog w s.heap k a):s.TypeIs (.ref a) "tuple":=let ⟨o,_,_,_,_,ho,hc,_⟩:=x;⟨o,ho,hc⟩
theorem TQ.inj{h:GS}{a:ES}{x y:K4}(hx:TQ prog w h x a)(hy:TQ prog w h y a):x=y:=by
 obtain⟨o,it,n,a1,a2,h1,_,h2,h3,h4,h5⟩:=hx;obtain⟨o',it',n',b1,b2,g1,_,g2,g3,g4,g5⟩:=hy;rw[h1]at g1;cases g1;rw[h2]at g2;cases g2;rw[h3]at g3;injection g3 with e1 e2
 injection e2 with e2 _
 injection e1 with e1
 injection e2 with e2
 subst e1;subst e2;have q1:=h4.inj g4;have q2:=h5.inj g5;obtain⟨⟨x1,x2⟩,⟨x3,x4⟩⟩:=x;obtain⟨⟨y1,y2⟩,⟨y3,y4⟩⟩:=y;injection q1 with c1 c2
 injection c2 with c2 _
 injection q2 with c3 c4
 injection c4 with c4 _
 simp only at c1 c2 c3 c4;rw[c1,c2,c3,c4]
theorem C7{n:Nat}{k:List Int}{a:ES}{Q:Bool->EE->Prop}(hk:TK prog w s.heap k a)(h:Q false s):E2 (Fm prog w) A (GM (n+1) (.ref a)) Q E s:=by
 have hT:=hk.typeIs;obtain⟨o,items,m,ho,_,hd,hi⟩:=hk;unfold GM;refine Ew (Jv hT ?_);dsimp only;rw[if_pos (by decide)]
 refine Ew (Ez ?_);simp only[FF,EK,if_false];refine Ew (F2 ho hd ?_);dsimp only;refine Ew ?_;rw[<-Gi];refine Gs _ (λrest r s'=>r.1=none/\s'=s/\∀v∈rest,∃n t,v=Fv n t) _ ?_ ?_ _ _ ⟨rfl,rfl,TK.ints (h:=s.heap) hi⟩
 ·rintro v rest r s' ⟨hr,rfl,QH⟩;obtain⟨i,t,rfl⟩:=QH v EF;have e:GM n (Fv i t)=pure false:=by cases n <;>(unfold GM;rfl)
  rw[e];refine Ew (Ez ?_);simp only[EK,if_false];exact Ez ⟨rfl,rfl,λu RC=>QH u (EB _ RC)⟩
 ·rintro ⟨r1,r2⟩ s' ⟨hr,rfl,_⟩;simp only at hr;subst hr;exact Ez h
theorem ofA_false{k:K4}{a:ES}{Q:Bool->EE->Prop}(hk:TQ prog w s.heap k a)(h:Q false s):E2 (Fm prog w) A (GM 8 (.ref a)) Q E s:=by
 have hT:=hk.typeIs;obtain⟨o,items,m,a1,a2,ho,_,hd,hi,t1,t2⟩:=hk;unfold GM;refine Ew (Jv hT ?_);dsimp only;rw[if_pos (by decide)]
 refine Ew (Ez ?_);simp only[FF,EK,if_false];refine Ew (F2 ho hd ?_);dsimp only;refine Ew ?_;rw[<-Gi];refine Gs _ (λrest r s'=>r.1=none/\s'=s/\∀v∈rest,∃k b,v=EZ b/\TK prog w s.heap k b) _ ?_ ?_ _ _ ⟨rfl,rfl,λv hv=>?_⟩
 ·rintro v rest r s' ⟨hr,rfl,QH⟩;obtain⟨k',b,rfl,hb⟩:=QH v EF;refine Ew (C7 (n:=6) hb ?_);simp only[EK,if_false];exact Ez ⟨rfl,rfl,λu RC=>QH u (EB _ RC)⟩
 ·rintro ⟨r1,r2⟩ s' ⟨hr,rfl,_⟩;simp only at hr;subst hr;exact Ez h
 ·rw[hi]at hv;rcases EH.mp hv with rfl |hv
  ·exact⟨_,_,rfl,t1⟩
  ·rw[EJ.mp hv];exact⟨_,_,rfl,t2⟩
theorem AD{n:Nat}{k:List Int}{a:ES}{Q:Bool->EE->Prop}(hk:TK prog w s.heap k a)(h:Q true s):E2 (Fm prog w) A (Iu (n+1) (.ref a)) Q E s:=by
 have hT:=hk.typeIs;obtain⟨o,items,m,ho,_,hd,hi⟩:=hk;unfold Iu;refine Ew (Gu hT F.slot_tuple_hash.lookup ?_);show E2 _ _ (J7 (.ref a) >>=_) _ _ s;refine Ew (F2 ho hd ?_);refine Ew ?_;show E2 _ _ (PN items _ _) _ _ s;rw[<-Gi];refine Gs _ (λrest r s'=>r.1=none/\s'=s/\∀v∈rest,∃n t,v=Fv n t) _ ?_ ?_ _ _ ⟨rfl,rfl,TK.ints (h:=s.heap) hi⟩
 ·rintro v rest r s' ⟨hr,rfl,QH⟩;obtain⟨i,t,rfl⟩:=QH v EF;have e:Iu n (Fv i t)=pure true:=by cases n <;>(unfold Iu;rfl)
  rw[e];refine Ew (Ez ?_);simp only[FF,EK,if_false];exact Ez ⟨rfl,rfl,λu RC=>QH u (EB _ RC)⟩
 ·rintro ⟨r1,r2⟩ s' ⟨hr,rfl,_⟩;simp only at hr;subst hr;exact Ez h
theorem byVal{k:K4}{a:ES}{Q:Bool->EE->Prop}(hk:TQ prog w s.heap k a)(h:Q true s):E2 (Fm prog w) A (Iu 8 (.ref a)) Q E s:=by
 have hT:=hk.typeIs;obtain⟨o,items,m,a1,a2,ho,_,hd,hi,t1,t2⟩:=hk;unfold Iu;refine Ew (Gu hT F.slot_tuple_hash.lookup ?_);show E2 _ _ (J7 (.ref a) >>=_) _ _ s;refine Ew (F2 ho hd ?_);refine Ew ?_;show E2 _ _ (PN items _ _) _ _ s;rw[<-Gi];refine Gs _ (λrest r s'=>r.1=none/\s'=s/\∀v∈rest,∃k b,v=EZ b/\TK prog w s.heap k b) _ ?_ ?_ _ _ ⟨rfl,rfl,λv hv=>?_⟩
 ·rintro v rest r s' ⟨hr,rfl,QH⟩;obtain⟨k',b,rfl,hb⟩:=QH v EF;refine Ew (AD (n:=6) hb ?_);simp only[FF,EK,if_false];exact Ez ⟨rfl,rfl,λu RC=>QH u (EB _ RC)⟩
 ·rintro ⟨r1,r2⟩ s' ⟨hr,rfl,_⟩;simp only at hr;subst hr;exact Ez h
 ·rw[hi]at hv;rcases EH.mp hv with rfl |hv
  ·exact⟨_,_,rfl,t1⟩
  ·rw[EJ.mp hv];exact⟨_,_,rfl,t2⟩
theorem zj{n:Nat}{k:List Int}{a:ES}{Q:Bool->EE->Prop}(hk:TK prog w s.heap k a)(h:Q true s):E2 (Fm prog w) A (Oq (n+1) (.ref a)) Q E s:=by
 have hT:=hk.typeIs;obtain⟨o,items,m,ho,_,hd,hi⟩:=hk;unfold Oq;refine Ew (Gu hT F.slot_tuple_eq.lookup ?_);show E2 _ _ (MG (.ref a) (.type "tuple") >>=_) _ _ s;refine Ew (GK hT HW ?_);simp only[FF,EK,if_false];refine Ew (F2 ho hd ?_);refine Ew ?_;show E2 _ _ (PN items _ _) _ _ s;rw[<-Gi];refine Gs _ (λrest r s'=>r.1=none/\s'=s/\∀v∈rest,carriedByValue v=true) _ ?_ ?_ _ _ ⟨rfl,rfl,hi.byValue⟩
 ·rintro v rest r s' ⟨hr,rfl,QH⟩;rw[eqIsQuiet_byValue _ (QH v EF)];refine Ew (Ez ?_);simp only[FF,EK,if_false];exact Ez ⟨rfl,rfl,λu RC=>QH u (EB _ RC)⟩
 ·rintro ⟨r1,r2⟩ s' ⟨hr,rfl,_⟩;simp only at hr;subst hr;exact Ez h
theorem quiet{k:K4}{a:ES}{Q:Bool->EE->Prop}(hk:TQ prog w s.heap k a)(h:Q true s):E2 (Fm prog w) A (Oq 8 (.ref a)) Q E s:=by
 have hT:=hk.typeIs;obtain⟨o,items,m,a1,a2,ho,_,hd,hi,t1,t2⟩:=hk;unfold Oq;refine Ew (Gu hT F.slot_tuple_eq.lookup ?_);show E2 _ _ (MG (.ref a) (.type "tuple") >>=_) _ _ s;refine Ew (GK hT HW ?_);simp only[FF,EK,if_false];refine Ew (F2 ho hd ?_);refine Ew ?_;show E2 _ _ (PN items _ _) _ _ s;rw[<-Gi];refine Gs _ (λrest r s'=>r.1=none/\s'=s/\∀v∈rest,∃k b,v=EZ b/\TK prog w s.heap k b) _ ?_ ?_ _ _ ⟨rfl,rfl,λv hv=>?_⟩
 ·rintro v rest r s' ⟨hr,rfl,QH⟩;obtain⟨k',b,rfl,hb⟩:=QH v EF;refine Ew (zj (n:=6) hb ?_);simp only[FF,EK,if_false];exact Ez ⟨rfl,rfl,λu RC=>QH u (EB _ RC)⟩
 ·rintro ⟨r1,r2⟩ s' ⟨hr,rfl,_⟩;simp only at hr;subst hr;exact Ez h
 ·rw[hi]at hv;rcases EH.mp hv with rfl |hv
  ·exact⟨_,_,rfl,t1⟩
  ·rw[EJ.mp hv];exact⟨_,_,rfl,t2⟩
theorem Dx(x y:K4):decide (x=y)=(decide (l1 x=l1 y) && decide (l2 x=l2 y)):=by
 obtain⟨⟨x1,x2⟩,⟨x3,x4⟩⟩:=x;obtain⟨⟨y1,y2⟩,⟨y3,y4⟩⟩:=y;simp
theorem zA{x y:K4}{a b:ES}{P:Fin->EE->Prop}(hu:A.units<GU)(hx:TQ prog w s.heap x a)(hy:TQ prog w s.heap y b)(h:P (.done (.ret (.bool (decide (x=y))))) s):
  E2 (Fm prog w) A (Builtin.«tuple.__eq__» ⟨[.ref a,.ref b],[]⟩) P E s:=by
 have hTb:=hy.typeIs;obtain⟨oa,xs,na,a1,a2,hoa,_,hda,hia,t1,t2⟩:=hx;obtain⟨ob,ys,nb,b1,b2,hob,_,RL,hib,u1,u2⟩:=hy;show E2 _ _ (MG (.ref b) (.type "tuple") >>=_) _ _ s;refine Ew (GK hTb HW ?_);simp only[FF,EK,if_false];refine Ew (Hu hoa hda ?_);refine Ew (Hu hob RL ?_);have ex:xs=#[.ref a1,.ref a2]:=by rw[<-IE];exact hia
 have ey:ys=#[.ref b1,.ref b2]:=by rw[<-IE];exact hib
 subst ex;subst ey;rw[Dx]at h;refine Ew ?_;refine Gs _ (λrest r s'=>r.1=none/\s'=s/\((rest=[(EZ a1,EZ b1),(EZ a2,EZ b2)])\/(rest=[(EZ a2,EZ b2)]/\l1 x=l1 y)\/(rest=[]/\l1 x=l1 y/\l2 x=l2 y))) _ ?_ ?_ _ _ ⟨rfl,rfl,.inl rfl⟩
 ·rintro ⟨u,v⟩ rest r s' ⟨hr,rfl,hc⟩;rcases hc with hc |⟨hc,e1⟩ |⟨hc,_⟩
  ·injection hc with c1 c2
   injection c1 with c1 c3
   subst c1;subst c3;subst c2;refine Ew (HV hu t1 u1 ?_);by_cases e:l1 x=l1 y
   ·rw[decide_eq_true e];simp only[FF,EK,if_false];exact Ez ⟨rfl,rfl,.inr (.inl ⟨trivial,e⟩)⟩
   ·rw[decide_eq_false e];simp only[Hl,if_true];rw[decide_eq_false e]at h;exact Ew (Ez (Ez (Ez h)))
  ·injection hc with c1 c2
   injection c1 with c1 c3
   subst c1;subst c3;subst c2;refine Ew (HV hu t2 u2 ?_);by_cases e:l2 x=l2 y
   ·rw[decide_eq_true e];simp only[FF,EK,if_false];exact Ez ⟨rfl,rfl,.inr (.inr ⟨trivial,e1,e⟩)⟩
   ·rw[decide_eq_false e];simp only[Hl,if_true];rw[decide_eq_false e,II]at h;exact Ew (Ez (Ez (Ez h)))
  ·cases hc
 ·rintro ⟨r1,r2⟩ s' ⟨hr,rfl,hc⟩;simp only at hr;subst hr;refine Ez ?_;rcases hc with hc |⟨hc,e1⟩ |⟨_,e1,e2⟩
  ·cases hc
  ·cases hc
  ·rw[decide_eq_true e1,decide_eq_true e2]at h;exact h
theorem eqB{x y:K4}{a b:ES}{Q:Bool->EE->Prop}(hu:A.units+1<GU)(hx:TQ prog w s.heap x a)(hy:TQ prog w s.heap y b)(h:Q (decide (x=y)) s):
  E2 (Fm prog w) A (eqBool (.ref a) (.ref b)) Q E s:=by
 unfold eqBool
 try with_reducible refine FB ?_
 show E2 _ _ (if (EZ a==EZ b)=true then _ else _) Q E s
 by_cases RB:(EZ a==EZ b)=true
 ·rw[if_pos RB];have e:a=b:=by have:=eq_of_beq RB;injection this
  subst e;obtain rfl:=hx.inj hy;exact Ew (Jr (Ez (by simpa using h)))
 ·rw[if_neg RB]
  exact Ew (IU (op:=.Eq) hx.typeIs hy.typeIs F.slot_tuple_eq
   (FP F.slot_tuple_eq hx.typeIs F.entry_tuple_eq (zA (by show A.units+1<GU;lia) hx hy ⟨_,rfl,(λe=>nomatch e),Hf h⟩) (F.args_tuple_eq_2 _ _)) (by lia))
theorem hashQ{k:K4}{a:ES}{Q:Int->EE->Prop}(hu:A.units+1<GU)(hk:TQ prog w s.heap k a)(h:Q (hsq prog w k) {s with toks:=s.toks+7 }):
  E2 (Fm prog w) A (pyHash (.ref a)) Q E s:=by
 have hT:=hk.typeIs;obtain⟨o,items,n,a1,a2,ho,_,hd,hi,t1,t2⟩:=hk;unfold pyHash
 first |unfold pyHashByItsType |skip
 first |refine Ew (wpAny_cRoomFor_or (.inr (show A.units<GU by lia)) ?_) |skip
 refine Ew (Gu hT F.slot_tuple_hash.lookup ?_);show E2 _ _ (if (some (Value.builtin "tuple.__hash__")==some Fb)=true then _ else _) Q E s
 rw[if_neg (by rw[beq_builtin_none];exact Ff)]
 refine Ew (Gu hT F.slot_tuple_hash.lookup ?_);show E2 _ _ (callSpecialIfBoundUnlessNone? (.ref a) "__hash__" _ >>=_) Q E s;refine Ew (wpAny_callSpecialIfBoundUnlessNone?_slot hT F.slot_tuple_hash (FP F.slot_tuple_hash hT F.entry_tuple_hash ?_ (F.args_tuple_hash_1 _)));show E2 _ _ (Builtin.Tuple.tupleItemsOf (.ref a) >>=_) _ _ s;refine Ew (Hu ho hd ?_);refine Ew ?_;rw[<-Gi]
 refine Gs _
  (λrest (b:Array Int) s'=>(rest=[.ref a1,.ref a2]/\b.toList=[]/\s'=s)\/(rest=[.ref a2]/\b.toList=[hsh prog w (l1 k)]/\s'={s with toks:=s.toks+3 })\/(rest=[]/\b.toList=[hsh prog w (l1 k),hsh prog w (l2 k)]/\s'={s with toks:=s.toks+6 }))
  _ ?_ ?_ _ _ (.inl ⟨hi,rfl,rfl⟩)
 ·rintro x rest b s' (⟨hr,hb,rfl⟩ |⟨hr,hb,rfl⟩ |⟨hr,_⟩)
  ·injection hr with c1 c2
   subst c1;subst c2;refine Ew (KL (by show A.units+1<GU;lia) t1 ?_)
   first
    |exact Ez (.inr (.inl ⟨rfl,by simp[hb],rfl⟩))
    |exact Ew (Ez (Ez (.inr (.inl ⟨rfl,by simp[hb],rfl⟩))))
  ·injection hr with c1 c2
   subst c1;subst c2;refine Ew (KL (s:={s with toks:=s.toks+3 }) (by show A.units+1<GU;lia) t2 ?_)
   first
    |exact Ez (.inr (.inr ⟨rfl,by simp[hb],rfl⟩))
    |exact Ew (Ez (Ez (.inr (.inr ⟨rfl,by simp[hb],rfl⟩))))
  ·cases hr
 ·rintro b s' (⟨hr,_⟩ |⟨hr,_⟩ |⟨_,hb,rfl⟩)
  ·cases hr
  ·cases hr
  ·show E2 _ _ (retInt (Builtin.Tuple.tupleHashOf b.toList)) _ _ _;rw[hb];refine Os ?_;unfold hsq reduceHash at h;generalize Builtin.Tuple.tupleHashOf [hsh prog w (l1 k),hsh prog w (l2 k)]=z at *;show E2 _ _ (if (decide (-(2:Int) ^ 63<=z) && decide (z<2 ^ 63))=true then _ else _) Q E _
   by_cases hr:(decide (-(2:Int) ^ 63<=z) && decide (z<2 ^ 63))=true
   ·rw[if_pos hr];rw[if_pos hr]at h;exact Ez h
   ·rw[if_neg hr];rw[if_neg hr]at h;exact Ew (Jr (Ez h))
variable {hZ:K4→Int}
theorem TQ.grow{h h':GS}{k:K4}{b:ES}(x:TQ prog w h k b)(e:∀b o,o.cls=.type "tuple"→h.get? b=some o→h'.get? b=some o):TQ prog w h' k b:=by
 obtain⟨o,it,n,a1,a2,h1,hc,h2,h3,h4,h5⟩:=x;refine⟨o,it,n,a1,a2,e _ _ hc h1,hc,h2,h3,?_,?_⟩
 ·obtain⟨o,it,n,g1,gc,g2⟩:=h4;exact⟨o,it,n,e _ _ gc g1,gc,g2⟩
 ·obtain⟨o,it,n,g1,gc,g2⟩:=h5;exact⟨o,it,n,e _ _ gc g1,gc,g2⟩
theorem TQ.keep{h h':GS}{k:K4}{b S:ES}{o:Obj}{es ep t}(x:TQ prog w h k b)(ho:h.get? S=some o)(hx:o.ExactSet)(hd:o.data=.set es ep t)(hs:HC S h h'):TQ prog w h' k b:=
 x.grow λb o' hc e=>by
  have Qv:b≠S:=by
   rintro rfl;rw[ho]at e;cases e;obtain⟨g1,_⟩:=hx;rw[hc]at g1;exact absurd g1 (by decide)
  exact (hs.2 b Qv).trans e
theorem TQ.moved{s s':EE}{wr:List ES}{G:Array HP→Array HP→Prop}{k:K4}{b:ES}(x:TQ prog w s.heap k b)(hw:∀a∈wr,∀o,s.heap.get? a=some o→o.cls≠.type "tuple")(m:PX wr G s s'):TQ prog w s'.heap k b:=
 x.grow λb o hc e=>m.heap b o (λhb=>hw b hb o e hc) e
theorem seen_false{k:K4}{a:ES}{l:List EG}{Q:Bool->EE->Prop}(hk:TQ prog w s.heap k a)(hl:∀v∈l,∃k' b,v=.ref b/\TQ prog w s.heap k' b)(h:Q false s):
  E2 (Fm prog w) A (JS (.ref a) l) Q E s:=by
 unfold JS;refine Ew ?_;refine Gs _ (λrest r s'=>r.1=none/\s'=s/\∀v∈rest,∃k' b,v=.ref b/\TQ prog w s.heap k' b) _ ?_ ?_ _ _ ⟨rfl,rfl,hl⟩
 ·rintro v rest r s' ⟨hr,rfl,QH⟩;obtain⟨k',b,rfl,hb⟩:=QH v EF;dsimp only;split
  ·exact Ez ⟨rfl,rfl,λu RC=>QH u (EB _ RC)⟩
  ·refine Ew (quiet hk ?_);simp only[FF,EK,if_false];refine Ew (quiet hb ?_);simp only[FF,EK,if_false];refine Ew (ofA_false hk ?_);simp only[EK,if_false];refine Ew (ofA_false hb ?_);simp only[EK,if_false];exact Ez ⟨rfl,rfl,λu RC=>QH u (EB _ RC)⟩
 ·rintro ⟨r1,r2⟩ s' ⟨hr,rfl,_⟩;simp only at hr;subst hr;exact Ez h
def ents(hZ:K4->Int)(kb:List (K4×ES)):List (Int×EG):=kb.map λp=>(hZ p.1,.ref p.2)
theorem ents_at{kb:List (K4×ES)}{i:Nat}:(ents hZ kb)[i]?=(kb[i]?).map λp=>(hZ p.1,.ref p.2):=by unfold ents;rw[EI]
theorem ents_hs(kb:List (K4×ES)):(ents hZ kb).map (·.1)=kb.map λp=>hZ p.1:=by unfold ents;rw[Fn];rfl
theorem search_from{S:ES}{o:Obj}{es:Array (Int×EG)}{ep:Nat}{t:SetTable}{kb:List (K4×ES)}{k:K4}{x:ES}(hu:A.units+1<GU)
  (ho:s.heap.get? S=some o) (hd:o.data=.set es ep t) (he:es.toList=ents hZ kb) (T:TOk t (kb.map λp=>hZ p.1)) (RO:∀p∈kb,TQ prog w s.heap p.1 p.2) (hx:TQ prog w s.heap k x)
  {N:Nat} (hN:N<10*turns t.mask) (h0:¬ Liv t (pth t.mask (hZ k) N).j) (h1:∀m,m<N->Liv t (pth t.mask (hZ k) m).j) {Q:SetFound->EE->Prop}
  (qf:(∀p∈kb,p.1≠k)->Q (.free (pth t.mask (hZ k) N).j false) s) (qt:(∃p∈kb,p.1=k)->Q (.there none) s):
  ∀(QB n:Nat) (Ra:Option Probe),n<=N->N-n<QB->Ra.getD (t.probeStart (hZ k))=pth t.mask (hZ k) n->
   (∀(m i:Nat) (p:K4×ES),m<n->t.place[i]?=some (pth t.mask (hZ k) m).j->kb[i]?=some p->p.1≠k)->
   E2 (Fm prog w) A (Iw S (.ref x) (hZ k) true QB Ra) Q E s:=by
 have hsz:es.size=kb.length:=by rw[<-ER,he];simp[ents]
 have QT:t.fits es.size=true:=T.fits (by rw[Ex,hsz])
 have TX:∀i:Nat,es[i]?=(kb[i]?).map λ(p:K4×ES)=>(hZ p.1,EZ p.2):=λi=>by rw[<-Fy,he,ents_at]
 intro QB
 induction QB with
 |zero=>intro n Ra _ h;lia
 |succ QB ih=>
  intro n Ra hn hf Rj RI;unfold Iw;refine Ew (Gf ho hd QT ?_);dsimp only;rw[T.gave];simp only[EK,if_false];rw[Rj];have hash:∀(i:Nat) (p:K4×ES),kb[i]?=some p->((es[i]?.map (λ(e:Int×EG)=>e.1)).getD 0:Int)=hZ p.1:=λi p hp=>by rw[TX,hp];rfl
  have pg:=ku T (λ(i:Nat)=>(es[i]?.map (λ(e:Int×EG)=>e.1)).getD 0) (hZ k) h0 h1 (10*turns t.mask) n hn (by lia)
  split
  ·rename_i met S8
   rcases pg with ⟨e,Qv⟩ |⟨m,i,hnm,hmN,QY,hhi,e,S9⟩
   ·have q:some met=some (.empty (pth t.mask (hZ k) N).j none):=S8.symm.trans e;cases q;dsimp only;refine Ez (qf λp hp Rk=>?_)
    obtain⟨i,hi⟩:=FO.mp hp;obtain⟨m,j,hm,QY,hj⟩:=pM T (h:=hZ k) h0 (i:=i) (by rw[EI,hi,<-Rk];rfl)
    rcases Gy m n with SR |SR
    ·exact RI m i p SR (by rw[hj];exact QY) hi Rk
    ·exact Qv m i SR hm (by rw[hj];exact QY) (by rw[hash i p hi,Rk])
   ·have q:some met=some (.candidate (pth t.mask (hZ k) m).j i (pth t.mask (hZ k) (m+1))):=S8.symm.trans e;cases q;dsimp only;have hik:i<kb.length:=by rw[<-hsz,<-show t.place.size=es.size by rw[T.n,Ex,hsz]];exact oM QY
    obtain⟨p,hp⟩:∃p,kb[i]?=some p:=⟨_,Ey hik⟩;have hpm:p∈kb:=EV hp;have hei:es[i]?=some (hZ p.1,EZ p.2):=by rw[TX,hp];rfl
    have rest:E2 (Fm prog w) A (do
      let RW <-M0 [EZ p.2] (eqBool (EZ p.2) (.ref x))
      let (es',_,t') <-setState S
      if true && RW then return .there none
      let some same:=t'.sameMemory t.moves t.mask |unsupported "set.changed-during-lookup:is-the-new-block-at-the-old-address"
      let Tc <-match (if same then t'.slot (pth t.mask (hZ k) m).j else .empty) with
       | .live i'=>match es'[i']? with
        |some (_,y')=>do pure (if <-isSame y' (EZ p.2) then some i' else none)
        |none=>pure none
       |_=>pure none
      match Tc with
      |none=>rule "set.search.anew";Iw S (.ref x) (hZ k) true QB none
      |some i'=>if RW then return .there (some i') else Iw S (.ref x) (hZ k) true QB (some (pth t.mask (hZ k) (m+1)))) Q E s:=by
     refine Ew (FB (eqB hu (RO p hpm) hx ?_));refine Ew (Gf ho hd QT ?_);dsimp only;by_cases Rk:p.1=k
     ·rw[decide_eq_true Rk];simp only[Pr,if_true];exact Ez (qt ⟨p,hpm,Rk⟩)
     ·rw[decide_eq_false Rk];simp only[II,EK,if_false];have hsm:t.sameMemory t.moves t.mask=some true:=by unfold SetTable.sameMemory;simp
      rw[hsm];dsimp only;rw[if_pos rfl,iK T.R QY];dsimp only;rw[hei];dsimp only;refine Ew (Mb ?_);refine Ew (Ez ?_);simp only[if_true];refine ih (m+1) (some (pth t.mask (hZ k) (m+1))) (by lia) (by lia) rfl λm' i' p' TY R8 QW=>?_
      rcases Gy m' n with z |z
      ·exact RI m' i' p' z R8 QW
      ·rcases Fg (Gn TY) with y |y
       ·have:=S9 m' i' z y R8;intro e';exact this (by rw[hash i' p' QW,e'])
       ·subst y;have ei:=T.R.inj QY R8;subst ei;rw[hp]at QW;cases QW;exact Rk
    by_cases Td:t.led=true
    ·rw[Td];simp only[FF,EK,if_false];rw[hei];exact rest
    ·rw[show t.led=false by simpa using Td]
     simp only[Hl,if_true];refine Ew (seen_false hx (λv hv=>?_) ?_)
     ·obtain⟨e',he',rfl⟩:=ED.mp hv
      have TY:e'∈es.toList:=by
       have:=Ig.mp he';exact Ig.mpr (NZ.mp this).1
      rw[he]at TY;obtain⟨p',QW,rfl⟩:=ED.mp TY;exact⟨p'.1,p'.2,rfl,RO p' QW⟩
     ·simp only[EK,if_false];rw[hei];exact rest
  ·rename_i Rg
   rcases pg with ⟨e,Qv⟩ |⟨m,i,hnm,hmN,QY,hhi,e,S9⟩
   ·exact absurd e (Rg _)
   ·exact absurd e (Rg _)
structure SP(prog:E1)(w:Fz)(hZ:K4->Int)(h:GS)(S:ES)(kb:List (K4×ES)):Prop where
 ex:∃o es ep t,h.get? S=some o∧o.ExactSet∧o.data=.set es ep t∧es.toList=ents hZ kb∧TOk t (kb.map λp=>hZ p.1)∧t.led=(!w.params.followText "set-order")∧t.plain=true∧t.tooFull=false∧t.mask<8*kb.length+8
 keys:∀p∈kb,TQ prog w h p.1 p.2
 nd:(kb.map (·.1)).Nodup
theorem relay{S:ES}{o:Obj}{es:Array (Int×EG)}{ep:Nat}{t:SetTable}{kb:List (K4×ES)}{Q:Unit->EE->Prop}(ho:s.heap.get? S=some o)(hex:o.ExactSet)(hd:o.data=.set es ep t)(he:es.toList=ents hZ kb)
  (T:TOk t (kb.map λp=>hZ p.1)) (hl:t.led=(!w.params.followText "set-order")) (hp:t.plain=true) (RO:∀p∈kb,TQ prog w s.heap p.1 p.2) (Ru:(kb.map (·.1)).Nodup) (h1:0<kb.length) (hn:kb.length≤1000)
  (h:∀h' Rb,HC S s.heap h'->SP prog w hZ h' S Rb->Rb.Perm kb->Q () {s with heap:=h' }):E2 (Fm prog w) A (Pu S (grown kb.length)) Q E s:=by
 have hsz:es.size=kb.length:=by rw[<-ER,he];simp[ents]
 have QT:t.fits es.size=true:=T.fits (by rw[Ex,hsz])
 have TX:∀i:Nat,es[i]?=(kb[i]?).map λ(p:K4×ES)=>(hZ p.1,EZ p.2):=λi=>by rw[<-Fy,he,ents_at]
 have hg:grown kb.length=kb.length*4:=by unfold grown;rw[if_neg (by lia)]
 rw[hg];obtain⟨k,k3,ek,lk,uk⟩:=above (kb.length*4) (by lia)
 have RD:(sizeAbove (kb.length*4)-1)+1=2 ^ k:=by lia
 obtain⟨t',order,e,T',Te,em,el,SN,_⟩:=ue k3 RD (hs:=es.map (·.1)) (by rw[K0,hsz];lia) t.finger (t.movedTo (sizeAbove (kb.length*4)-1)) t.led t.plain
 have hrel:t.relaid (es.map (·.1)) (kb.length*4)=some (t',order):=e;have RE:order.toList.Perm (Fw kb.length):=by rw[K0,hsz]at Te;exact Te
 have Qx:∀i∈order.toList,i<kb.length:=λi hi=>E5.mp (RE.mem_iff.mp hi)
 have Rk:=lC RE
 have TZ:(order.filterMap (λi=>es[i]?)).toList=ents hZ (order.toList.filterMap λi=>kb[i]?):=by
  rw[LW];unfold ents;rw[Nl];congr 1
  funext i
  rw[TX]
 have Tf:(order.filterMap (λi=>es[i]?)).size=es.size:=by
  rw[<-ER,TZ,hsz];unfold ents;rw[Ex,Rk.length_eq]
 unfold Pu;refine Ew (Gf ho hd QT ?_);dsimp only;rw[if_neg (by rw[ek,F3];lia),hrel]
 have goal:E2 (Fm prog w) A (do
   if (order.filterMap (λi=>es[i]?)).size !=es.size then unsupported "internal:set-table-lost-an-element"
   pure (order.filterMap (λi=>es[i]?),t'):Sem (Array (Int×EG)×SetTable)) (λr s'=>E2 (Fm prog w) A (storeSet S r.1 r.2) Q E s') E s:=by
  rw[Tf];simp only[bne_self_eq_false,EK,if_false];refine Ez ?_;refine JT ho hd ?_ (by rw[Tf,hsz,F3];lia)
  have hg':(s.heap.update S (Hi (order.filterMap (λi=>es[i]?)) t')).get? S=some {o with data:=.set (order.filterMap (λi=>es[i]?)) (ep+1) t' }:=by
   have:=Fp (Hi (order.filterMap (λi=>es[i]?)) t') ho (by rw[Kp _ t' hd];rfl)
   rw[Kp _ t' hd]at this;exact this
  have Rt:=GF s.heap S (Hi (order.filterMap (λi=>es[i]?)) t')
  refine h _ (order.toList.filterMap λi=>kb[i]?) Rt ⟨⟨_,_,_,t',hg',hex,rfl,TZ,?_,by rw[el];exact hl,by rw[SN];exact hp,?_,?_⟩,λp QW=>?_,?_⟩ Rk
  ·have:=jY (kb:=kb) (λp=>hZ p.1) 0 order.toList Qx
   rw[<-this]
   have e2:(es.map (·.1))=((kb.map λp=>hZ p.1)).toArray:=by
    apply IE.mp;rw[Kf,he,ents_hs]
   rw[e2]at T';exact T'
  ·have hf:t'.fill=t'.place.size:=by unfold fill;rw[T'.d];rfl
   have TC:=T'.n;rw[Ex,RE.length_eq,I0]at TC;unfold tooFull;rw[hf,TC,em];simp;lia
  ·rw[em,Rk.length_eq];lia
  ·exact (RO p (Rk.mem_iff.mp QW)).keep ho hex hd Rt
  ·exact ((Rk.map (·.1)).nodup_iff).mpr Ru
 exact Ew goal
theorem add_hashed{S x:ES}{kb:List (K4×ES)}{k:K4}{Q:Bool->EE->Prop}(hu:A.units+1<GU)(P:SP prog w hZ s.heap S kb)(hx:TQ prog w s.heap k x)(hn:kb.length<1000)
  (h:∀b h' Rb,HC S s.heap h'->SP prog w hZ h' S Rb->(if k∈kb.map (·.1) then Rb=kb else Rb.Perm (kb++[(k,x)]))->Q b {s with heap:=h' }):
  E2 (Fm prog w) A (Md S (.ref x) (hZ k)) Q E s:=by
 obtain⟨⟨o,es,ep,t,ho,hex,hd,he,T,hl,hp,RX,RD⟩,RO,Ru⟩:=P;have P0:SP prog w hZ s.heap S kb:=⟨⟨o,es,ep,t,ho,hex,hd,he,T,hl,hp,RX,RD⟩,RO,Ru⟩;have hsz:es.size=kb.length:=by rw[<-ER,he];simp[ents]
 have QT:t.fits es.size=true:=T.fits (by rw[Ex,hsz])
 obtain⟨N,hN,h0,h1⟩:=ke T (hZ k);have hN':N<100000:=by unfold turns at hN;lia
 unfold Md OO;refine FB (Ew (Gf ho hd QT ?_));dsimp only;rw[kA];simp only[EK,if_false];unfold setSearch;refine Ew (search_from hu ho hd he T RO hx hN h0 h1 (λRg=>?_) (λhyes=>?_) 100000 0 none (FH _) (by lia) rfl λm i p hm=>by lia)
 ·dsimp only;have hk:k ∉ kb.map (·.1):=λz=>by obtain⟨p,QW,e⟩:=ED.mp z;exact Rg p QW e
  refine Ew (Gf ho hd QT ?_);dsimp only;generalize hj:(pth t.mask (hZ k) N).j=j at *;have T1:=T.put (h:=hZ k) (N:=N) (by rw[hj];exact h0) h1 (by have:=qy (mask:=t.mask) (hZ k) N;lia) (tD T RX)
  rw[hj]at T1;have epl:(t.put j).1.plain=true:=hp;have Tg:(t.put j).1.led=(!w.params.followText "set-order"):=hl;have Th:(t.put j).1.mask=t.mask:=rfl;generalize (t.put j).1=t1 at *;generalize (t.put j).2=q at *;have Rl:(eM kb q (k,x)).length=kb.length+1:=by rw[(bW kb q (k,x)).length_eq];simp
  have he1:(insertAt es q (hZ k,EZ x)).toList=ents hZ (eM kb q (k,x)):=by
   rw[dl,he];unfold ents;rw[h7];rfl
  have hsz1:(insertAt es q (hZ k,EZ x)).size=kb.length+1:=by
   rw[<-ER,he1];unfold ents;rw[Ex,Rl]
  have T2:TOk t1 ((eM kb q (k,x)).map λp=>hZ p.1):=by rw[h7];exact T1
  rw[if_pos epl];refine Ew (byVal hx ?_);rw[if_pos rfl]
  have hg1:(s.heap.update S (Hi (insertAt es q (hZ k,EZ x)) t1)).get? S=some {o with data:=.set (insertAt es q (hZ k,EZ x)) (ep+1) t1 }:=by
   have:=Fp (Hi (insertAt es q (hZ k,EZ x)) t1) ho (by rw[Kp _ t1 hd];rfl)
   rw[Kp _ t1 hd]at this;exact this
  have Rt:=GF s.heap S (Hi (insertAt es q (hZ k,EZ x)) t1)
  have Ti:∀p∈eM kb q (k,x),TQ prog w (s.heap.update S (Hi (insertAt es q (hZ k,EZ x)) t1)) p.1 p.2:=λp QW=>by
   have:=(bW kb q (k,x)).mem_iff.mp QW;rcases EX.mp this with z |z
   ·exact (RO p z).keep ho hex hd Rt
   ·rw[EJ.mp z];exact hx.keep ho hex hd Rt
  have Tj:((eM kb q (k,x)).map (·.1)).Nodup:=by
   rw[((bW kb q (k,x)).map (·.1)).nodup_iff,Fi,F1];refine⟨Ru,by simp,λa ha b hb=>?_⟩
   simp at hb;subst hb;rintro rfl;exact hk ha
  refine Ew (JT ho hd ?_ (by rw[hsz1,F3];lia))
  rw[Hl,Iy];by_cases hft:t1.tooFull=true
  ·rw[if_pos hft,hsz,<-Rl];refine Ew (relay (s:={s with heap:=s.heap.update S (Hi (insertAt es q (hZ k,EZ x)) t1) }) hg1 hex rfl he1 T2 Tg epl Ti Tj (by lia) (by lia) λh' Rb S5 P' pm=>Ez ?_)
   exact h true h' Rb (Rt.trans S5) P' (by rw[if_neg hk];exact pm.trans (bW kb q (k,x)))
  ·rw[if_neg hft];refine Ez (h true _ (eM kb q (k,x)) Rt ⟨⟨_,_,_,t1,hg1,hex,rfl,he1,T2,Tg,epl,by simpa using hft,by rw[Th,Rl];lia⟩,Ti,Tj⟩ (by rw[if_neg hk];exact bW kb q (k,x)))
 ·dsimp only;refine Ez ?_;have hk:k∈kb.map (·.1):=by obtain⟨p,QW,e⟩:=hyes;exact ED.mpr ⟨p,QW,e⟩
  exact h false s.heap kb (Lk S s.heap) P0 (by rw[if_pos hk])
theorem SP.moved{s s':EE}{wr:List ES}{G:Array HP→Array HP→Prop}{S:ES}{kb:List (K4×ES)}(x:SP prog w (hsq prog w) s.heap S kb)(hS:S ∉ wr)(hw:∀a∈wr,∀o,s.heap.get? a=some o→o.cls≠.type "tuple")(m:PX wr G s s'):SP prog w (hsq prog w) s'.heap S kb:=by
 obtain⟨⟨o,es,ep,t,ho,r⟩,hk,hn⟩:=x;exact⟨⟨o,es,ep,t,m.heap S o hS ho,r⟩,λp hp=>(hk p hp).moved hw m,hn⟩
structure Got(kx:Nat->K4×ES)(i:Nat)(kb:List (K4×ES)):Prop where
 src:∀p∈kb,∃j,j<i/\p=kx j
 all:∀j,j<i->(kx j).1∈kb.map (·.1)
 len:kb.length<=i
variable {R:NP→EE→Prop}{I:ES}{fp wr:List ES}{G:Array HP→Array HP→Prop}{n:Nat}{P:Nat→EG→Prop}{St:Nat→EE→Prop}
theorem upd_loop(W:Qm prog w A.in1 I fp wr G n P St)(hu:A.in1.units+1<GU){S:ES}(Q8:S ∉ fp)(kx:Nat→K4×ES)(hP:∀i v,P i v→v=.ref (kx i).2)(hwr:∀i s,St i s→∀a∈wr,∀o,s.heap.get? a=some o→o.cls≠.type "tuple")(hn:n≤1000):
  ∀(k i:Nat) (s:EE) (kb:List (K4×ES)),n-i=k->i<=n->St i s->SP prog w (hsq prog w) s.heap S kb->Got kx i kb->(∀j,j<n->TQ prog w s.heap (kx j).1 (kx j).2)->
   (∀s' Rb,PX (S::wr) G s s'->SP prog w (hsq prog w) s'.heap S Rb->Got kx n Rb->R (.ok (.ret .none)) s')->
   IK (Fm prog w) A (.builtin "set.update.loop" ⟨[.ref S,.ref I],[]⟩) R s:=by
 have hSw:S ∉ wr:=λh=>Q8 (W.sub _ h)
 have more:∀b∈wr,b∈S::wr:=λb hb=>EB _ hb
 intro k
 induction k with
 |zero=>
  intro i s kb hk hi st hS g tk hR;obtain rfl:i=n:=by lia
  refine Gj PyProof.Rows.F.entry_set_update_loop ?_;rw[FV PyProof.Rows.F.plain_set_update_loop _];show E2 _ A.in1 (ID (.ref I) >>=_) _ _ s;refine Ew (W.done s _ _ st λs' m=>?_)
  exact Ez (hR s' kb (m.mono more) (hS.moved hSw (hwr _ s st) m) g)
 |succ k ih=>
  intro i s kb hk hi st hS g tk hR;have Qx:i<n:=by lia
  refine Gj PyProof.Rows.F.entry_set_update_loop ?_;rw[FV PyProof.Rows.F.plain_set_update_loop _];show E2 _ A.in1 (ID (.ref I) >>=_) _ _ s;refine Ew (W.item i s _ _ Qx st λv s1 pv st1 m=>?_)
  obtain rfl:=hP i v pv;have hS1:=hS.moved hSw (hwr i s st) m;have T3:∀j,j<n->TQ prog w s1.heap (kx j).1 (kx j).2:=λj hj=>(tk j hj).moved (hwr i s st) m
  show E2 _ A.in1 (M0 [EZ (kx i).2] (setAdd S (.ref (kx i).2)) >>=_) _ _ s1;refine Ew (FB ?_);unfold setAdd;refine FB (Ew (hashQ hu (T3 i Qx) ?_));refine add_hashed (s:={s1 with toks:=s1.toks+7 }) hu hS1 (T3 i Qx) (by have:=g.len;lia) λb h' Rb sb hS2 SF=>?_
  obtain⟨⟨o,es,ep,t,ho,hex,hd,hrest⟩,hks,Ru⟩:=hS1;have same:∀b o,b ∉ S::wr->s1.heap.get? b=some o->h'.get? b=some o:=λb o hb e=>by rw[sb.2 b (λz=>hb (by rw[z];exact EF))];exact e
  refine Ez ⟨Gk PyProof.Rows.F.plain_set_update_loop _,ih (i+1) _ Rb (by lia) Qx (W.frame _ s1 _ _ st1 (by show s1.toks<=s1.toks+_;lia) λb hb o e=>?_) hS2 ?_ (λj hj=>(T3 j hj).keep ho hex hd sb) λs2 kb2 m2 hS3 g2=>?_⟩
  ·rw[sb.2 b (λz=>Q8 (by rw[<-z];exact hb))];exact e
  ·by_cases RZ:(kx i).1∈kb.map (·.1)
   ·rw[if_pos RZ]at SF;subst SF;refine⟨λp hp=>?_,λj hj=>?_,by have:=g.len;lia⟩
    ·obtain⟨j,hj,e⟩:=g.src p hp;exact⟨j,by lia,e⟩
    ·rcases Fg (Gn hj) with z |z
     ·exact g.all j z
     ·rw[z];exact RZ
   ·rw[if_neg RZ]at SF;refine⟨λp hp=>?_,λj hj=>?_,by rw[SF.length_eq];have:=g.len;simp;lia⟩
    ·rcases EX.mp (SF.mem_iff.mp hp) with z |z
     ·obtain⟨j,hj,e⟩:=g.src p z;exact⟨j,by lia,e⟩
     ·exact⟨i,F8 i,by rw[EJ.mp z]⟩
    ·rw[(SF.map (·.1)).mem_iff,Fi];rcases Fg (Gn hj) with z |z
     ·exact E8 _ (g.all j z)
     ·rw[z];exact EW _ (by simp)
  ·exact hR s2 kb2 (Moved.trans W.gtrans ((m.mono more).then_heap (by show s1.toks<=s1.toks+_;lia) same) m2) hS3 g2
theorem fresh_sp{h:GS}{S:ES}(e:h.get? S=some (aW w)):SP prog w (hsq prog w) h S []:=by
 refine⟨⟨_,_,_,_,e,⟨rfl,rfl,rfl⟩,rfl,rfl,pi,rfl,rfl,by simp[SetTable.tooFull,SetTable.fresh,SetTable.fill],by show 7<8;decide⟩,λp hp=>by simp at hp,by simp⟩
set_option maxRecDepth 100000 in
theorem call_set_prs{l:ES}{items:Array EG}{Q:EG->EE->Prop}(kx:Nat->K4×ES)(hh:A.handled=none)(hu:A.in1.in1.in1.units+1<GU)(hl:s.heap.IsList l items)
  (Rv:∀(i:Nat) (v:EG),items[i]?=some v->v=.ref (kx i).2) (RH:∀i,i<items.size->TQ prog w s.heap (kx i).1 (kx i).2) (hn:items.size<=1000)
  (h:∀(h':GS) (tk:Nat) (kb:List (K4×ES)),SP prog w (hsq prog w) h' s.heap.objs.size kb->Got kx items.size kb->(∀b o,s.heap.get? b=some o->h'.get? b=some o)->Q (.ref s.heap.objs.size) {s with heap:=h',toks:=tk }):
  E2 (Fm prog w) A (call (.type "set") [.ref l]) Q E s:=by
 obtain⟨cc,tl,hmro⟩:=FK.mro;have hmade:=FK.made;have hsub:=FK.sub;refine Pf (Me ?_);show E2 _ _ (callAny (.type "set") _) _ _ _;refine Ez ⟨Code.quiet_builtin _ (by decide+kernel),Gj LC ?_⟩
 rw[Nm (Mg "set" [.ref l] []) rfl];have g1:=FK.notType;have g2:=FK.canCreate;have g3:=LX (.ref l)
 repeat (any_goals (first |assumption |wp_step))
 refine IL (t5 (w:=w) (.ref l) (E:=E) (Q:=λobj Qw=>obj=.ref s.heap.objs.size/\Qw={s with heap:=s.heap.push (aW w) }) ⟨rfl,rfl⟩) λr Qw hr=>?_
 cases r with
 |error e=>exact hr
 |ok fl=>
  cases fl with
  |ret obj=>
   obtain⟨rfl,rfl⟩:=hr;have hS:(s.heap.push (aW w)).get? s.heap.objs.size=some (aW w):=EM _ rfl;have hT:Pv {s with heap:=s.heap.push (aW w) } (.ref s.heap.objs.size) "set":=⟨_,hS,rfl⟩
   have hli:=FK.init.lookup;have hbi:=FK.init.bind (.ref s.heap.objs.size)
   repeat (any_goals (first |assumption |wp_step))
   refine IL (MN (R:=wants (λr Rr=>r=.none/\∃h' tk kb,Rr={s with heap:=h',toks:=tk }/\
     SP prog w (hsq prog w) h' s.heap.objs.size kb/\Got kx items.size kb/\(∀b o,s.heap.get? b=some o->h'.get? b=some o)) E) FK.init.plain LY (N0 hT ?_)) λr₂ Rr RF=>?_
   ·obtain⟨ol,hol,hcl,nl,hdl⟩:=hl;obtain⟨ocls,Tn,odata,R9⟩:=ol;simp only at hcl hdl;subst hcl;subst hdl;have hol':(s.heap.push (aW w)).get? l=some {cls:=.type "list",dict:=Tn,data:=.seq items nl,slots:=R9 }:=EA _ hol;have k1:=MP;have k2:=KA;have k3:(F7 "list"==F7 "dict")=false:=by decide
    have QZ:(s.heap.push (aW w)).IsList l items:=⟨_,hol',rfl,nl,rfl⟩;unfold Builtin.«set.__init__» noKeywords Builtin.Frozenset.updateFrom;generalize hPI:MV=PI
    wp_walk
    subst hPI;refine GZ QZ (Ew (OP ?_));have hlS:l<s.heap.objs.size:=EN hol;have h3:A.in1.in1.in1.handled=none:=by simp[hh]
    have To:(s.heap.push (aW w)).objs.size=s.heap.objs.size+1:=Ga ..;have hneI:l≠(s.heap.push (aW w)).objs.size:=by rw[To];exact Fe (GL hlS)
    have Q8:s.heap.objs.size ∉ [(s.heap.push (aW w)).objs.size,l]:=by
     rw[To];intro z;rcases EH.mp z with z |z
     ·exact absurd z (Fe (F8 _))
     ·exact absurd (EJ.mp z) (Js hlS)
    refine upd_loop ((Walks.list h3 _ l hneI items).toS) hu Q8 kx Rv (λi=>?_) hn (items.size-0) 0 _ [] (by lia) (FH _)
     ⟨⟨_,EM _ rfl,rfl,rfl⟩,(QZ.push _)⟩ ?_ ⟨λp hp=>by simp at hp,λj hj=>by lia,by simp⟩ (λj hj=>?_) λs' kb m RJ g=>?_
    ·intro s' st a ha o e;obtain⟨⟨oI,hoI,hcI,_⟩,_⟩:=st;rw[EJ.mp ha,hoI]at e;cases e;rw[hcI]
     decide
    ·exact fresh_sp (EA _ hS)
    ·exact (RH j hj).grow λb o _ e=>EA _ (EA _ e)
    ·obtain⟨h',g',d',tk',os'⟩:=s';obtain rfl:g'=s.gens:=m.gens;obtain rfl:d'=s.drawn:=m.drawn;obtain rfl:os'=s.os:=m.os;refine Ez ?_;show E2 _ _ (ret Fb) _ _ _;refine Ez ⟨rfl,h',tk',kb,rfl,RJ,g,λb o e=>?_⟩
     have hb:=EN e;refine m.heap b o (λz=>?_) (EA _ (EA _ e))
     rcases EH.mp z with z |z
     ·exact absurd z (Fe hb)
     ·have z':=EJ.mp z;rw[z',To]at hb;exact Fl _ (J6 (F8 _) hb)
   ·cases r₂ with
    |error e=>exact RF
    |ok fl₂=>
     cases fl₂ with
     |ret r=>
      obtain⟨rfl,h',tk,kb,rfl,RJ,g,SE⟩:=RF
      repeat (any_goals (first |assumption |wp_step))
      exact h _ _ kb RJ g SE
     |_=>exact RF.elim
  |_=>exact hr.elim
end
end ST2
namespace L2
open PySem PySem.Spec PyProof.Rows
abbrev pqU(s:P2×P2):U:=.tup [pu s.1,pu s.2]
section
variable {X:Cx}{H0:Hp}{O0:List ES}{ps:PSt}{e:Expr}{pts:List P2}{RS dd:List (P2×P2)}{pos QF p p':Pos}
theorem lU(hc:X.calm=true)(hu:X.A.units+10<GU)(hg:Gl X "len")(hm:X.mg "len"=none)(hgs:Gl X "set")(Tr:X.mg "set"=none)(ha:Ev X H0 O0 ps e (lp pts))(hl:pts.length≤900)
  (he:EO [e] X.env=(false,Io e X.env)::EO [] X.env:=by rfl):Ev X H0 O0 ps (.Call (.Name "len" p) [.Call (.Name "set" p') [e] [] QF] [] pos) (.int (ST.srt pts).length):=by
 rintro pins s σ H Q I ⟨O,R,q⟩;have hh:X.A.handled=none:=I.ok.hd hc;refine F0 (cg I hg hm Fj ?_);refine callWith_builtin1 (e:=.Call (.Name "set" p') [e] [] QF) (rest:=[]) ?_ rfl rfl;show E2 _ _ (Nw ((false,Io (.Call (.Name "set" p') [e] [] QF) X.env)::Ie pos (EO [] X.env))) _ _ s;refine G8 ?_;refine F0 (cg I hgs Tr jN ?_);refine callWith_type1 (thn (cI ha eI he QF pins s σ H (λvs H1=>∃v,vs=[v]/\aI H H1/\Rp X.K (hid H1 O) v (lp pts)) I ⟨O,R,λv H1 s1 r1=>⟨v,rfl,s1,r1⟩⟩) λus s1 hx=>?_) he rfl
 obtain⟨vs,H1,I1,rv,v,rfl,sm,rp⟩:=hx;obtain⟨u,rfl,ru⟩:=c9 rv;cases rp with
 | @lst a ws _ hq S1 hwi=>
  cases ru;obtain⟨Qs,RK,pl,hz⟩:=I1.list (SqL.of (ao _ _ hq));have hlp:ws.length=pts.length:=by rw[S1,Ex]
  have TJ:Qs.length=pts.length:=by rw[<-RK.length,hlp]
  have item:∀i,i<pts.length->∃b,Qs[i]?=some (.ref b)/\Rp X.K (hid H1 O) (.ref b) (pu (pts.getD i (0,0)))/\ST.TK X.prog X.w s1.heap [(pts.getD i (0,0)).1,(pts.getD i (0,0)).2] b:=λi hi=>by
   have hw:ws[i]?=some ws[i]:=Ey (by lia)
   have hp:(pts.map pu)[i]?=some (pu (pts.getD i (0,0))):=by rw[EI,Ey hi];simp[hi]
   have r:=hwi i _ _ hw hp;obtain⟨u',e1,e2⟩:=RK.get hw;generalize ws[i]=z at *;cases r with
   | @tup b zs _ hs Sw hsi=>
    cases e2;refine⟨b,e1,Rp.tup hs Sw hsi,?_⟩;obtain⟨jts,rj,ht,_⟩:=I1.tuple (by exact ao.tup hs)
    have z0:zs.length=2:=Sw
    match zs,z0,hsi,rj with
    |[z1,z2],_,hsi,rj=>
     have q1:=hsi 0 z1 _ rfl rfl;have q2:=hsi 1 z2 _ rfl rfl;cases q1;cases q2;obtain⟨u1,u2,rfl,r1,r2⟩:=fY rj;obtain⟨t1,rfl⟩:=r1;obtain⟨t2,rfl⟩:=r2;obtain⟨o,ho,Sq,n,Tq⟩:=ht;exact⟨o,_,n,ho,Sq,Tq,.cons (GO _ _ _ _) (.cons (GO _ _ _ _) .nil)⟩
  let ad:Nat->ES:=λi=>match Qs[i]? with |some (.ref b)=>b |_=>0
  have R0:∀i,i<pts.length->Qs[i]?=some (.ref (ad i))/\Rp X.K (hid H1 O) (.ref (ad i)) (pu (pts.getD i (0,0)))/\ST.TK X.prog X.w s1.heap [(pts.getD i (0,0)).1,(pts.getD i (0,0)).2] (ad i):=λi hi=>by
   obtain⟨b,e1,e2,e3⟩:=item i hi;have:ad i=b:=by show (match Qs[i]? with |some (.ref b)=>b |_=>0)=b;rw[e1]
   rw[this];exact⟨e1,e2,e3⟩
  generalize ad=Rx at R0;clear ad;have hsz:Qs.toArray.size=pts.length:=by simp[TJ]
  refine ST.call_set_pts (λi=>([(pts.getD i (0,0)).1,(pts.getD i (0,0)).2],Rx i)) hh (by show X.A.units+1+1+1<GU;lia) pl.isList (λi z ez=>?_) (λi hi=>?_) (by rw[hsz];lia) λh2 tk kb sp SK keep=>?_
  ·have hi:i<pts.length:=by have:=aw (show Qs[i]?=some z by simpa using ez);lia
   have:=(R0 i hi).1;rw[show Qs.toArray[i]?=Qs[i]? by simp,this]at ez
   cases ez;rfl
  ·exact (R0 i (by rw[hsz]at hi;exact hi)).2.2
  ·rw[hsz]at SK;have I2:Inv X pins σ H1 {s1 with heap:=h2,toks:=tk }:=I1.kept (t':=tk) keep
   refine HF ?_;obtain⟨o,es,ep,t,ho,hex,hd,TZ,T,_⟩:=sp.ex
   have hlk:kb.length=(ST.srt pts).length:=by
    have e1:(kb.map (·.1)).length<=((ST.srt pts).map λq:P2=>[q.1,q.2]).length:=nd_len sp.nd λk hk=>by
     obtain⟨y,hy,rfl⟩:=ED.mp hk;obtain⟨j,hj,rfl⟩:=SK.src y hy;exact ED.mpr ⟨pts.getD j (0,0),(ST.srt_mem _ _).mpr (by simp[hj]),rfl⟩
    have nd2:((ST.srt pts).map λq:P2=>[q.1,q.2]).Nodup:=HG _ (λa b h=>by
     intro z;obtain⟨a1,a2⟩:=a;obtain⟨b1,b2⟩:=b;have e:a1=b1/\a2=b2:=by simpa using z
     rw[e.1,e.2,ST.asc_irr]at h;cases h) (ST.srt_asc pts)
    have e2:((ST.srt pts).map λq:P2=>[q.1,q.2]).length<=(kb.map (·.1)).length:=nd_len nd2 λk hk=>by
     obtain⟨y,hy,rfl⟩:=ED.mp hk;obtain⟨j,hj⟩:=FO.mp ((ST.srt_mem _ _).mp hy);have hjl:=aw hj;have:=SK.all j hjl
     rwa [show pts.getD j (0,0)=y by rw[E4,hj];rfl]at this
    simp only[Ex]at e1 e2;lia
   have Sw:=ST.srt_len pts;have Si:es.size=kb.length:=by rw[<-ER,TZ];simp[ST.ents]
   refine call_len_set (s:={s1 with heap:=h2,toks:=tk }) ho hex hd (T.fits (by rw[Ex,Si])) (by rw[Si,hlk];lia) ?_
   rw[Si,hlk];exact⟨.int (ST.srt pts).length,H1,I2.tok _,⟨_,rfl⟩,q _ H1 sm (.int _)⟩
theorem vR(hc:X.calm=true)(hu:X.A.units+10<GU)(hg:Gl X "len")(hm:X.mg "len"=none)(hgs:Gl X "set")(Tr:X.mg "set"=none)(ha:Ev X H0 O0 ps e (.lst (RS.map pqU)))(hl:RS.length≤900)(Ru:dd.Nodup)(hdd:∀z,z∈dd↔z∈RS)
  (he:EO [e] X.env=(false,Io e X.env)::EO [] X.env:=by rfl):Ev X H0 O0 ps (.Call (.Name "len" p) [.Call (.Name "set" p') [e] [] QF] [] pos) (.int dd.length):=by
 rintro pins s σ H Q I ⟨O,R,q⟩;have hh:X.A.handled=none:=I.ok.hd hc;refine F0 (cg I hg hm Fj ?_);refine callWith_builtin1 (e:=.Call (.Name "set" p') [e] [] QF) (rest:=[]) ?_ rfl rfl;show E2 _ _ (Nw ((false,Io (.Call (.Name "set" p') [e] [] QF) X.env)::Ie pos (EO [] X.env))) _ _ s;refine G8 ?_;refine F0 (cg I hgs Tr jN ?_);refine callWith_type1 (thn (cI ha eI he QF pins s σ H (λvs H1=>∃v,vs=[v]/\aI H H1/\Rp X.K (hid H1 O) v (.lst (RS.map pqU))) I ⟨O,R,λv H1 s1 r1=>⟨v,rfl,s1,r1⟩⟩) λus s1 hx=>?_) he rfl
 obtain⟨vs,H1,I1,rv,v,rfl,sm,rp⟩:=hx;obtain⟨u,rfl,ru⟩:=c9 rv;cases rp with
 | @lst a ws _ hq S1 hwi=>
  cases ru;obtain⟨Qs,RK,pl,hz⟩:=I1.list (SqL.of (ao _ _ hq));have hlp:ws.length=RS.length:=by rw[S1,Ex]
  have TJ:Qs.length=RS.length:=by rw[<-RK.length,hlp]
  have item:∀i,i<RS.length->∃b,Qs[i]?=some (.ref b)/\ST2.TQ X.prog X.w s1.heap (RS.getD i ((0,0),(0,0))) b:=λi hi=>by
   have hw:ws[i]?=some ws[i]:=Ey (by lia)
   have hp:(RS.map pqU)[i]?=some (pqU (RS.getD i ((0,0),(0,0)))):=by rw[EI,Ey hi];simp[hi]
   have r:=hwi i _ _ hw hp;obtain⟨u',e1,e2⟩:=RK.get hw;generalize ws[i]=z at *;generalize RS.getD i ((0,0),(0,0))=g at *;cases r with
   | @tup b zs _ hs Sw hsi=>
    cases e2;refine⟨b,e1,?_⟩;obtain⟨jts,rj,ht,_⟩:=I1.tuple (by exact ao.tup hs)
    have z0:zs.length=2:=Sw
    match zs,z0,hsi,rj with
    |[z1,z2],_,hsi,rj=>
     have q1:=hsi 0 z1 _ rfl rfl;have q2:=hsi 1 z2 _ rfl rfl;obtain⟨u1,u2,rfl,r1,r2⟩:=fY rj;obtain⟨x,rfl,tx⟩:=eF I1 (q1.same ao) r1;obtain⟨y,rfl,ty⟩:=eF I1 (q2.same ao) r2;obtain⟨o,ho,Sq,n,Tq⟩:=ht;exact⟨o,_,n,x,y,ho,Sq,Tq,rfl,tx _ _,ty _ _⟩
  let ad:Nat->ES:=λi=>match Qs[i]? with |some (.ref b)=>b |_=>0
  have R0:∀i,i<RS.length->Qs[i]?=some (.ref (ad i))/\ST2.TQ X.prog X.w s1.heap (RS.getD i ((0,0),(0,0))) (ad i):=λi hi=>by
   obtain⟨b,e1,e2⟩:=item i hi;have:ad i=b:=by show (match Qs[i]? with |some (.ref b)=>b |_=>0)=b;rw[e1]
   rw[this];exact⟨e1,e2⟩
  generalize ad=Rx at R0;clear ad;have hsz:Qs.toArray.size=RS.length:=by simp[TJ]
  refine ST2.call_set_prs (λi=>(RS.getD i ((0,0),(0,0)),Rx i)) hh (by show X.A.units+1+1+1+1<GU;lia) pl.isList (λi z ez=>?_) (λi hi=>?_) (by rw[hsz];lia) λh2 tk kb sp SK keep=>?_
  ·have hi:i<RS.length:=by have:=aw (show Qs[i]?=some z by simpa using ez);lia
   have:=(R0 i hi).1;rw[show Qs.toArray[i]?=Qs[i]? by simp,this]at ez
   cases ez;rfl
  ·exact (R0 i (by rw[hsz]at hi;exact hi)).2
  ·rw[hsz]at SK;have I2:Inv X pins σ H1 {s1 with heap:=h2,toks:=tk }:=I1.kept (t':=tk) keep
   refine HF ?_;obtain⟨o,es,ep,t,ho,hex,hd,TZ,T,_⟩:=sp.ex
   have hlk:kb.length=dd.length:=by
    have e1:(kb.map (·.1)).length<=dd.length:=nd_len sp.nd λk hk=>by
     obtain⟨y,hy,rfl⟩:=ED.mp hk;obtain⟨j,hj,rfl⟩:=SK.src y hy;exact (hdd _).mpr (by simp[hj])
    have e2:dd.length<=(kb.map (·.1)).length:=nd_len Ru λk hk=>by
     obtain⟨j,hj⟩:=FO.mp ((hdd _).mp hk);have hjl:=aw hj;have:=SK.all j hjl
     rwa [show RS.getD j ((0,0),(0,0))=k by rw[E4,hj];rfl]at this
    simp only[Ex]at e1;rw[Ex]at e2;lia
   have hdl:dd.length<=RS.length:=nd_len Ru λz hz=>(hdd z).mp hz
   have Si:es.size=kb.length:=by rw[<-ER,TZ];simp[ST2.ents]
   refine call_len_set (s:={s1 with heap:=h2,toks:=tk }) ho hex hd (T.fits (by rw[Ex,Si])) (by rw[Si,hlk];lia) ?_
   rw[Si,hlk];exact⟨.int dd.length,H1,I2.tok _,⟨_,rfl⟩,q _ H1 sm (.int _)⟩
variable {E:XK}{D:PD}{lo hi:Option Expr}{l h:Option Int}{p2:Pos}{xs ys:List U}
def Dl(K:EC):V->List V->Hp->VK->Prop:=λx vs H Q=>∃l b xs zs,x=.ref l/\vs=[.ref b]/\H l=some (.lst xs)/\SqT K H b zs/\xs.length+zs.length<=sizeLine/\Q .non (upd H l (.lst (xs++zs)))
theorem AS:MtR X "list.extend" (Dl X.K):=by
 intro pins s σ H x vs v us Q I rx rv h;obtain⟨l,b,xs,zs,rfl,rfl,hH,hB,hz,q⟩:=h;cases rx;obtain⟨u,rfl,ru⟩:=rv.one;cases ru;obtain⟨z,Qs,n,r,hl,e⟩:=I.lstM hH;obtain⟨Qu,r2,ht,hz2⟩:=I.tuple hB;obtain⟨o,ho,hc,m,hd⟩:=ht
 have hsz:Qs.toArray.size+Qu.toArray.size<=sizeLine:=by
  have:=r2.length;rw[EU,EU];lia
 have S0:¬ (!Qs.toArray.isEmpty && Builtin.List.listTooLong (Qs.toArray.size+Qu.toArray.size))=true:=by
  rw[oO hsz,II];exact Ff
 refine FP F.slot_list_extend ⟨_,e,rfl⟩ F.entry_list_extend ?_ (F.args_list_extend_2 _ _);show E2 _ _ (Builtin.List.listExtendWith (.ref l) (.ref b) .none) _ _ s;unfold Builtin.List.listExtendWith;refine Ew (Jv (T:="tuple") ⟨o,ho,hc⟩ ?_);have ht:(F7 "tuple"==F7 "tuple")=true:=by rfl
 rw[if_pos (by rw[ht];simp)]
 refine Ew (Mi ho hd ?_);refine Ew (Mi e rfl ?_);rw[if_neg S0];refine Ew (I_ e rfl ?_ (by rw[EU];lia) (by rw[Array.size_append];lia))
 refine Ez ⟨_,rfl,?_⟩;refine⟨.non,_,I.lset (its':=Qs++Qu) hH e (by simp) (r.append r2) ?_,rfl,q⟩
 rw[EY];lia
theorem vS(i:Nat){x:Str}{QQ QE xp:Pos}(hp:ps[i]?=some (some (.own xs)))(ha:Ev X H0 O0 ps e (.tup ys))(hz:xs.length+ys.length<=sizeLine)(h:D.nx (ps.set i (some (.own (xs++ys)))))
  (hN:X.N[i]?=some x:=by rfl) (hv:Vis X.env.scope x:=by first |exact Or.inl rfl |exact Or.inr (Or.inl rfl) |exact Or.inr (Or.inr rfl)) (hd:(x==("__debug__":Str))=false:=by decide) (Ri:(x==("__classdict__":Str))=false:=by decide)
  (Q3:IY (.Name x xp) "extend" X.env (Io (.Name x xp) X.env)=Io (.Name x xp) X.env:=by rfl)
  (R6:((Ie QE (EO [e] X.env)).all (λx=>!x.1) && (N_ QE (LB [] X.env)).all (λx=>x.1.isSome) && decide ([e].length+([]:List KY).length+(if ([]:List KY).isEmpty then 0 else 1)<30))=true:=by rfl)
  (Q4:(QQ.endLine==QE.line)=true:=by rfl) (TH:EO [e] X.env=(false,Io e X.env)::EO [] X.env:=by rfl) (Rc:(Ie QE (EO [] X.env)).any (·.1)=false:=by rfl)
  (hs:HQ (.Call (.Attribute (.Name x xp) "extend" QQ) [e] [] QE) none pos.line X.env=pure false:=by rfl):W1 X H0 O0 E (.Expr (.Call (.Attribute (.Name x xp) "extend" QQ) [e] [] QE) pos) D ps:=
 PS.mono (ie (yB Ip Lp Lq AS (e8 hN hv hd Ri) (cI ha eI TH) Q3 R6 Q4 TH Rc) hs) λD' σ H ⟨L,O,R⟩=>by
  obtain⟨v,h1,a,vs,rfl,h3,h4,h5,h6⟩:=R.at_ i _ hp;refine⟨_,h1,.inl ⟨rfl,_,SqL.of h5⟩,O,R,λw H' s r=>?_⟩
  cases r with
  | @tup b zs _ hq hl hh=>
   refine⟨a,b,vs,zs,rfl,rfl,s _ _ h5,ao.tup hq,by rw[h6.len,hl];exact hz,?_⟩
   exact L.nx _ _ _ O ((R.go s).write hp h1 ((h6.same (aT s)).snoc ⟨hl,hh⟩)) h
end
end L2
namespace ST3
open PySem PySem.W PySem.Calls PyProof.Rows ST
abbrev TR:=(Int×Int)×(Int×Int)×(Int×Int)
def ltT(a b:TR):Bool:=if a.1=b.1 then (if a.2.1=b.2.1 then ltP a.2.2 b.2.2 else ltP a.2.1 b.2.1) else ltP a.1 b.1
theorem zQ{a b:TR}(h:ltT a b=true):ltT b a=false:=by
 unfold ltT at *;by_cases h1:a.1=b.1
 ·rw[if_pos h1]at h;rw[if_pos h1.symm];by_cases h2:a.2.1=b.2.1
  ·rw[if_pos h2]at h;rw[if_pos h2.symm];exact ltP_asy h
  ·rw[if_neg h2]at h;rw[if_neg (Ne.symm h2)];exact ltP_asy h
 ·rw[if_neg h1]at h;rw[if_neg (Ne.symm h1)];exact ltP_asy h
theorem zJ{a b:TR}(h:a≠b)(k:ltT a b=false):ltT b a=true:=by
 unfold ltT at *;by_cases h1:a.1=b.1
 ·rw[if_pos h1]at k;rw[if_pos h1.symm];by_cases h2:a.2.1=b.2.1
  ·rw[if_pos h2]at k;rw[if_pos h2.symm];exact ltP_tot (λe=>h (GD h1 (GD h2 e))) k
  ·rw[if_neg h2]at k;rw[if_neg (Ne.symm h2)];exact ltP_tot h2 k
 ·rw[if_neg h1]at k;rw[if_neg (Ne.symm h1)];exact ltP_tot h1 k
theorem oo{a:Int×Int}:ltP a a=false:=asc_irr
theorem CA{a b c:TR}(h:ltT a b=true)(k:ltT b c=true):ltT a c=true:=by
 unfold ltT at *;by_cases h1:a.1=b.1
 ·rw[if_pos h1]at h;by_cases k1:b.1=c.1
  ·rw[if_pos k1]at k;rw[if_pos (h1.trans k1)];by_cases h2:a.2.1=b.2.1
   ·rw[if_pos h2]at h;by_cases k2:b.2.1=c.2.1
    ·rw[if_pos k2]at k;rw[if_pos (h2.trans k2)];exact iE h k
    ·rw[if_neg k2]at k;rw[if_neg (by rw[h2];exact k2),h2];exact k
   ·rw[if_neg h2]at h;by_cases k2:b.2.1=c.2.1
    ·rw[if_neg (by rw[<-k2];exact h2),<-k2];exact h
    ·rw[if_neg k2]at k;have t:=iE h k;rw[if_neg (λe=>by rw[e,oo]at t;cases t)];exact t
  ·rw[if_neg k1]at k;rw[if_neg (by rw[h1];exact k1),h1];exact k
 ·rw[if_neg h1]at h;by_cases k1:b.1=c.1
  ·rw[if_neg (by rw[<-k1];exact h1),<-k1];exact h
  ·rw[if_neg k1]at k;have t:=iE h k;rw[if_neg (λe=>by rw[e,oo]at t;cases t)];exact t
section
variable {prog:E1}{w:Fz}{A:FQ}{E:EG→EE→Prop}{s:EE}
abbrev lq(p:Int×Int):List Int:=[p.1,p.2]
def TT(prog:E1)(w:Fz)(h:GS)(t:TR)(b:ES):Prop:=∃o items n a1 a2 a3,h.get? b=some o∧o.cls=.type "tuple"∧o.data=.seq items n∧items.toList=[.ref a1,.ref a2,.ref a3]∧TK prog w h (lq t.1) a1∧TK prog w h (lq t.2.1) a2∧TK prog w h (lq t.2.2) a3
theorem TT.grow{h h':GS}{k:TR}{b:ES}(x:TT prog w h k b)(e:∀b o,o.cls=.type "tuple"→h.get? b=some o→h'.get? b=some o):TT prog w h' k b:=by
 obtain⟨o,it,n,a1,a2,a3,h1,hc,h2,h3,h4,h5,h6⟩:=x;have up:∀{k:List Int}{a:ES},TK prog w h k a->TK prog w h' k a:=λ{k a} t=>by obtain⟨o,it,n,g1,gc,g2⟩:=t;exact⟨o,it,n,e _ _ gc g1,gc,g2⟩
 exact⟨o,it,n,a1,a2,a3,e _ _ hc h1,hc,h2,h3,up h4,up h5,up h6⟩
theorem DP{p q:Int×Int}(h:lq p=lq q):p=q:=by
 obtain⟨a,b⟩:=p;obtain⟨c,d⟩:=q;injection h with h1 h2
 injection h2 with h2 _
 simp only at h1 h2;rw[h1,h2]
theorem rm(a b:Int×Int):decide (lq a=lq b)=decide (a=b):=decide_eq_decide.mpr ⟨DP,λe=>by rw[e]⟩
theorem CZ(hu:A.units+1<GU){x y:ES}{a b:TR}{Q:Bool->EE->Prop}(hx:TT prog w s.heap a x)(hy:TT prog w s.heap b y)(h:Q (ltT a b) s):E2 (Fm prog w) A (keyLt' (M4 false) (.ref x) (.ref y)) Q E s:=by
 obtain⟨o,Qs,n,a1,a2,a3,ho,_,hd,hi,t1,t2,t3⟩:=hx;obtain⟨o',its',n',b1,b2,b3,RG,_,RT,QI,u1,u2,u3⟩:=hy;refine kat_lt ho hd RG RT ?_;rw[hi,QI];unfold ltT at h;refine kat_cons (HV (by lia) t1 u1 ?_)
 rw[rm];by_cases e1:a.1=b.1
 ·rw[decide_eq_true e1];rw[if_pos e1]at h;refine kat_yes (kat_cons (HV (by lia) t2 u2 ?_))
  rw[rm];by_cases e2:a.2.1=b.2.1
  ·rw[decide_eq_true e2];rw[if_pos e2]at h;refine kat_yes (kat_cons (HV (by lia) t3 u3 ?_))
   rw[rm];by_cases e3:a.2.2=b.2.2
   ·rw[decide_eq_true e3];refine kat_yes (kat_nil ?_);rw[e3,oo]at h
    have z2:decide (Qs.size<its'.size)=false:=by
     rw[<-ER,<-ER,hi,QI];simp
    rw[z2];exact h
   ·rw[decide_eq_false e3];exact kat_no (kat_one _ _ (lt_ptsR (by lia) t3 u3 h))
  ·rw[decide_eq_false e2];rw[if_neg e2]at h;exact kat_no (kat_one _ _ (lt_ptsR (by lia) t2 u2 h))
 ·rw[decide_eq_false e1];rw[if_neg e1]at h;exact kat_no (kat_one _ _ (lt_ptsR (by lia) t1 u1 h))
abbrev PT3:=List (TR×ES)
abbrev Bz(pb:PT3):List EG:=pb.map λp=>EZ p.2
theorem w9{pb:PT3}{Q:MF->EE->Prop}(RH:∀p∈pb,TT prog w s.heap p.1 p.2)(h0:0<pb.length)(h:Q (M4 false) s):E2 (Fm prog w) A (keyKind' (Bz pb).toArray) Q E s:=by
 obtain⟨fs,hf,hl,hi⟩:∃fs,KatTups s.heap (Bz pb) fs∧fs.length=pb.length∧∀v∈fs,∃a o,v=EZ a∧s.heap.get? a=some o∧o.cls=.type "tuple":=by
  clear h h0
  induction pb with
  |nil=>exact⟨[],.nil,rfl,λv hv=>by simp at hv⟩
  |cons p r ih=>
   obtain⟨fs,hf,hl,hi⟩:=ih λq hq=>RH q (EB _ hq)
   obtain⟨o,Qs,n,a1,a2,a3,ho,hc,hd,Rv,t1,_⟩:=RH p EF;refine⟨.ref a1::fs,.cons ho hc hd (by rw[<-Fy,Rv];rfl) hf,by simp[hl],λv hv=>?_⟩
   rcases EH.mp hv with z |z
   ·obtain⟨o1,_,_,g1,g2,_⟩:=t1;exact⟨a1,o1,z,g1,g2⟩
   ·exact hi v z
 refine kat_kind (T:=.type "tuple") hf (by lia) (λv hv=>?_) (by decide) h
 obtain⟨a,o,rfl,g1,g2⟩:=hi v hv;rw[<-g2];exact (Looks.ld g1).andThen .now
end
end ST3
namespace L2
open PySem PySem.Spec PyProof.Rows
abbrev trU(t:ST3.TR):U:=.tup [pu t.1,pu t.2.1,pu t.2.2]
def t0:ST3.TR:=((0,0),(0,0),(0,0))
section
variable {X:Cx}{H0:Hp}{O0:List ES}{ps:PSt}{e:Expr}{trs:List ST3.TR}{pos p:Pos}
theorem Ds{a b c:V}{us:List EG}(h:aO [a,b,c] us):∃u v w,us=[u,v,w]/\aX a u/\aX b v/\aX c w:=by
 cases h with
 |cons h1 r=>
  cases r with
  |cons h2 r=>
   cases r with
   |cons h3 r=>cases r;exact⟨_,_,_,rfl,h1,h2,h3⟩
end
abbrev Ent:=List Int×ES×EG
theorem ud{P:E1}{w:Fz}:∀{ks:List Int}{us:List EG},aO (ks.map V.int) us->ItemsAre (Ka P w) ks us
 |[],_,r=>by rw[NQ]at r;cases r;exact .nil
 |k::ks,_,r=>by
  rw[Fh]at r;cases r with
  |cons h t=>
   obtain⟨t',e⟩:=(show ∃t,_=Fv k t from h)
   subst e;exact .cons (by simp[Ka,P9]) (ud t)
section
variable {X:Cx}{pins:List (ES×Obj)}{σ:St}{H:Hp}{s:EE}{a b:ES}{k:List Int}{xs:List Ent}{A:FQ}{E:EG→EE→Prop}
theorem wS(I:Inv X pins σ H s)(h:SqT X.K H b (k.map V.int)):(tupleKind (Ka X.prog X.w)).is s.heap k b:=by
 obtain⟨Qs,rv,⟨o,e,c,n,d⟩,_⟩:=I.tuple h;exact⟨o,Qs.toArray,n,e,c,d,by simpa using ud rv⟩
variable {o i e QS:Expr}{pos QF tpos:Pos}{td ty tv:TE}
theorem BO{pins:List (ES×Obj)}{σ:St}{H:Hp}{s:EE}(I:Inv X pins σ H s):Ko<s.heap.objs.size:=J6 (by decide) (I.mod.glob.keeps I.bk).lt
end
theorem tX{K:EC}{H:Hp}{v:V}{a b:Int}(r:Rp K H v (.tup [.int a,.int b])):∃p,v=.ref p/\SqT K H p ([a,b].map V.int):=by
 cases r with
 | @tup p vs _ hq hl hh=>
  obtain⟨x,y,rfl,h1,h2⟩:=eS (⟨hl,hh⟩:Rps K H vs [.int a,.int b]);cases h1;cases h2;exact⟨p,rfl,hq⟩
abbrev KT(H:Hp):List (List Key×V)->List (List Key×ES×EG)->Prop:=Paired λp q=>p.1=q.1/\H q.2.1=some (.tup (p.1.map kV))/\aX p.2 q.2.2
def Dr(i:Expr):Prop:=∀ov iv,M3 i false ov iv=operate [ov,iv] (Pm ov iv)
theorem AG{prog:E1}{w:Fz}{A:FQ}{E:EG->EE->Prop}{s:EE}{env:Env}{QS slice:Expr}{pos:Pos}{T id:String}{Q:EG->EE->Prop}
  (hl:MC (.type T) "__getitem__"=pure (some (.builtin id))) (hs:Dr slice)
  (h:E2 (Fm prog w) A (Io QS env) (λo Qw=>E2 (Fm prog w) A (Io slice env) (λi Rr=>Rr.TypeIs o T/\E2 (Fm prog w) A (Pm o i) Q E Rr) E Qw) E s):
  E2 (Fm prog w) A (Io (.Subscript QS slice pos) env) Q E s:=by
 refine NB (He h (λo Qw h₁=>He h₁ (λi Rr h₂=>?_) λ_ _ x=>x) λ_ _ x=>x)
 obtain⟨hT,h₂⟩:=h₂;unfold LA;refine Ew ?_;rw[getitemInPython_of_ne hT.not_modules];refine Ew (Gu hT hl ?_)
 have QN:E2 (Fm prog w) A (M3 slice false o i) (λr s₃=>E2 (Fm prog w) A (letTemporaryGo QS o r >>=λ_=>pure r) Q E s₃) E Rr:=by
  rw[hs o i];exact wpAny_operating (He h₂ (λr s₃ h₃=>Ew (wpAny_letTemporaryGo (Ez h₃))) λ_ _ x=>x)
 first
  |exact Ez (Ew QN)
  |exact Ew (Ez (Ew QN))
  |exact Ew QN
structure M2(X:Cx)(o:Expr)(m:Str)(QQ:Pos)(e f:Expr)(QE:Pos):Prop where
 base:IY o m X.env (Io o X.env)=Io o X.env
 few:((Ie QE (EO [e,f] X.env)).all (λx=>!x.1) && (N_ QE (LB [] X.env)).all (λx=>x.1.isSome)
  && decide (([e,f]:List Expr).length+([]:List KY).length+(if ([]:List KY).isEmpty then 0 else 1)<30))=true
 line:(QQ.endLine==QE.line)=true
 trees:Ie QE (EO [e,f] X.env)=[(false,Io e X.env),(false,Io f X.env)]
theorem zB{X:Cx}{H0:Hp}{O0:List ES}{ps:PSt}{e:Expr}{u u':U}(h:u=u')(t:Ev X H0 O0 ps e u):Ev X H0 O0 ps e u':=h ▸ t
end L2
namespace L2
open PySem PySem.Spec PySem.W PyProof.Rows
structure Dfn(K:EC)(mg:Str->Option EG)(x:Str)(st:HL)(ps:List Str) where
 a:ES
 d:G9
 F:Fun K x x st a d
 b:dB K d ps []
 m:mg x=some (.ref a)
structure DfD(K:EC)(mg:Str->Option EG)(x:Str)(st:HL)(ps:List Str)(j:Int) where
 a:ES
 d:G9
 D:ES
 F:yw K x x st a d D
 b:dB K d ps []
 bd:∃t,dB K d ps [.int j t]
 m:mg x=some (.ref a)
structure Exn(mg:Str->Option EG)(x:Str) where
 c:ES
 m:mg x=some (.ref c)
abbrev CM(x q:Str)(st:HL)(ps:List Str):Prop:=∀(kV Rm pm:EG) (an:Option ES) (QA ct:EG) (us:List EG),us.length=ps.length->KH (fnOf x q (bL st) (bn st) (aj st) .none kV Rm pm an QA ct) ⟨us,[]⟩=pure (ps.zip us)
section
variable {K:EC}{h:GS}{mg:Str→Option EG}{x q:Str}{st:HL}{ps:List Str}{f C D:ES}{j:Int}{oc:EG}{od an:Option ES}{kV dc pm cd ct:EG}{sl:Array (Option EG)}{x1 x2 x3 t:_}
def dfn(X:K.In h)(G:h.Ns GT mg)(hb:CM x x st ps)(a:nsIn K GT x=some (some (.ref f)))(l:K.lookup f=some ⟨oc,od,.func (fnOf x x (bL st) (bn st) (aj st) .none kV dc pm an cd ct),sl⟩)(c:codeIn K cd x=true)(k:keepIn K (.ref f)=true):Dfn K mg x st ps:=⟨f,_,wP l c k,(wP l c k).binds hb,mg_of X G a⟩
def dfD(X:K.In h)(G:h.Ns GT mg)(hb:K.lookup D=some ⟨.type "tuple",x1,.seq #[.int j t] x2,x3⟩→∀(kV dc pm:EG) (an:Option ES) (cd ct:EG),dB K (fnOf x x (bL st) (bn st) (aj st) (.ref D) kV dc pm an cd ct) ps []∧∃t,dB K (fnOf x x (bL st) (bn st) (aj st) (.ref D) kV dc pm an cd ct) ps [.int j t])(a:nsIn K GT x=some (some (.ref f)))(l:K.lookup f=some ⟨oc,od,.func (fnOf x x (bL st) (bn st) (aj st) (.ref D) kV dc pm an cd ct),sl⟩)(c:codeIn K cd x=true)(k:keepIn K (.ref f)=true)(q:K.lookup D=some ⟨.type "tuple",x1,.seq #[.int j t] x2,x3⟩):DfD K mg x st ps j:=⟨f,_,D,AB l c k,(hb q kV dc pm an cd ct).1,(hb q kV dc pm an cd ct).2,mg_of X G a⟩
def exn(X:K.In h)(G:h.Ns GT mg)(a:nsIn K GT x=some (some (.ref f))):Exn mg x:=⟨f,mg_of X G a⟩
theorem g_i{t:_}(X:K.In h)(G:h.Ns GT mg)(a:nsIn K GT x=some (some (.int j t))):∃t,mg x=some (.int j t):=⟨t,mg_of X G a⟩
end
end L2
namespace SG
open PySem PySem.W PySem.Calls PyProof.Rows ST
abbrev rfs{α:Type}(pb:List (α×ES)):List EG:=pb.map λp=>EZ p.2
structure Ky(α:Type) where
 lt:α->α->Bool
 tr:∀{a b c:α},lt a b=true->lt b c=true->lt a c=true
 tot:∀{a b:α},a≠b->lt a b=false->lt b a=true
 asy:∀{a b:α},lt a b=true->lt b a=false
 is:E1->Fz->GS->α->ES->Prop
 kd:MF
 grow:∀{prog:E1}{w:Fz}{h h':GS}{a:α}{b:ES},is prog w h a b→(∀b o,o.cls=.type "tuple"→h.get? b=some o→h'.get? b=some o)→is prog w h' a b
 ask:∀{prog:E1}{w:Fz}{A:FQ}{E:EG->EE->Prop}{s:EE}{x y:ES}{a b:α}{Q:Bool->EE->Prop},A.units+1<GU->is prog w s.heap a x->is prog w s.heap b y->Q (lt a b) s->E2 (Fm prog w) A (keyLt' kd (.ref x) (.ref y)) Q E s
 kind:∀{prog:E1}{w:Fz}{A:FQ}{E:EG->EE->Prop}{s:EE}{pb:List (α×ES)}{Q:MF->EE->Prop},(∀p∈pb,is prog w s.heap p.1 p.2)->0<pb.length->Q kd s->E2 (Fm prog w) A (keyKind' (rfs pb).toArray) Q E s
section
variable {α:Type} [DecidableEq α] (S:Ky α)
def ins(x:α):List α->List α
 |[]=>[x]
 |y::r=>if x=y then y::r else if S.lt x y=true then x::y::r else y::ins x r
def srt(l:List α):List α:=l.foldr (ins S) []
theorem ins_mem(x z:α):∀l,z∈ins S x l↔z=x\/z∈l
 |[]=>by simp[ins]
 |y::r=>by
  unfold ins;split
  ·rename_i h;subst h;simp
  ·split
   ·simp
   ·rw[EH,ins_mem x z r,EH];grind
abbrev Asc(l:List α):Prop:=l.Pairwise (λx y=>S.lt x y=true)
theorem ins_asc(x:α):∀l,Asc S l->Asc S (ins S x l)
 |[],_=>by simp[ins]
 |y::r,h=>by
  unfold ins;split
  ·exact h
  ·rename_i Qv
   obtain⟨h1,h2⟩:=Fq.mp h;split
   ·rename_i Qx
    refine Fq.mpr ⟨λz hz=>?_,h⟩
    rcases EH.mp hz with e |e
    ·rw[e];exact Qx
    ·exact S.tr Qx (h1 z e)
   ·rename_i Qx
    refine Fq.mpr ⟨λz hz=>?_,ins_asc x r h2⟩
    rcases (ins_mem S x z r).mp hz with e |e
    ·rw[e];exact S.tot Qv (by simpa using Qx)
    ·exact h1 z e
theorem srt_mem(z:α):∀l,z∈srt S l↔z∈l
 |[]=>by simp[srt]
 |y::r=>by
  show z∈ins S y (srt S r)↔_;rw[ins_mem,srt_mem z r,EH]
theorem srt_asc:∀l,Asc S (srt S l)
 |[]=>IZ
 |y::r=>ins_asc S y (srt S r) (srt_asc r)
omit [DecidableEq α] in
theorem irr(a:α):S.lt a a=false:=by
 cases h:S.lt a a with
 |false=>rfl
 |true=>rw[S.asy h]at h;cases h
omit [DecidableEq α] in
theorem asc_one:∀{l m:List α},Asc S l->Asc S m->(∀z,z∈l↔z∈m)->l=m
 |[],[],_,_,_=>rfl
 |[],y::r,_,_,h=>by have:=(h y).mpr EF;simp at this
 |x::l,[],_,_,h=>by have:=(h x).mp EF;simp at this
 |x::l,y::m,hl,hm,h=>by
  obtain⟨a1,a2⟩:=Fq.mp hl;obtain⟨b1,b2⟩:=Fq.mp hm
  have e:x=y:=by
   rcases EH.mp ((h x).mp EF) with z |z
   ·exact z
   ·rcases EH.mp ((h y).mpr EF) with z' |z'
    ·exact z'.symm
    ·have:=S.asy (b1 x z);rw[a1 y z']at this;cases this
  subst e;congr 1;refine asc_one a2 b2 λz=>⟨λhz=>?_,λhz=>?_⟩
  ·rcases EH.mp ((h z).mp (EB _ hz)) with e |e
   ·have:=a1 z hz;rw[e,irr]at this;cases this
   ·exact e
  ·rcases EH.mp ((h z).mpr (EB _ hz)) with e |e
   ·have:=b1 z hz;rw[e,irr]at this;cases this
   ·exact e
end
section
variable {α:Type} (S:Ky α) {prog:E1}{w:Fz}{A:FQ}{E:EG→EE→Prop}{s:EE}
theorem Ac(pb:List (α×ES))(d0:α×ES):(Fw pb.length).map (λi=>pb.getD i d0)=pb:=by
 apply N1
 ·simp
 ·intro i h1 h2;simp at h1;simp[h1]
include S
theorem BL{a:ES}{pb:List (α×ES)}{n:Nat}{P:Oj→EE→Prop}(ho:s.heap.get? a=some (KN "list" (rfs pb).toArray n))(RH:∀p∈pb,S.is prog w s.heap p.1 p.2)(hu:A.units+1<GU)(d0:α×ES)(Ru:(pb.map (·.1)).Nodup)(h64:pb.length<64)
  (h:∀Q1:List (α×ES),Q1.Perm pb->(Q1.map (·.1)).Pairwise (λx y=>S.lt x y=true)->P (.done (.ret .none)) {s with heap:=sortedHeap s.heap a (rfs pb) (rfs Q1).toArray }):
  E2 (Fm prog w) A (Builtin.«list.sort» ⟨[.ref a],[]⟩) P E s:=by
 have T4:(rfs pb).length=pb.length:=by simp
 have SH:(rfs pb).toArray.size=pb.length:=by simp
 rw[Ol];have ha:a<s.heap.objs.size:=EN ho;refine Ew (Mi ho rfl (Ew (I_ ho rfl ?_ (by rw[SH,F3];lia) (FH _))))
 obtain⟨e1,ho1⟩:∃e1,(s.heap.update a (FT λ_=>(#[]:Array EG))).get? a=some (KN "list" #[] e1):=⟨_,Om ho (λ_=>#[])⟩
 refine Ew (Kr ho1 rfl (Ew (MZ ?_ (by show (rfs pb).length<=_;rw[T4,F3];lia))))
 refine Ew (LD ?_ (FH _));refine FB ?_;generalize hh6:((s.heap.update a (FT λ_=>(#[]:Array EG))).push (KN "tuple" (rfs pb).toArray 0)).push (KN "list" #[] 0)=h6
 have old6:∀b o,b≠a->s.heap.get? b=some o->h6.get? b=some o:=λb o hb e=>by
  rw[<-hh6];exact EA _ (EA _ ((Fd _ _ (Ne.symm hb)).trans e))
 have T5:h6.get? a=some (KN "list" #[] e1):=by rw[←hh6];exact EA _ (EA _ ho1)
 have tk6:∀p∈pb,S.is prog w h6 p.1 p.2:=λp hp=>by
  refine S.grow (RH p hp) λb o hc e=>old6 b o (λz=>?_) e
  rw[z,ho]at e;cases e;exact absurd hc (by show ¬ (F7 "list"=F7 "tuple");decide)
 have QN:∀Q1:List (α×ES),Q1.Perm pb->(Q1.map (·.1)).Pairwise (λx y=>S.lt x y=true)->P (.done (.ret .none)) {s with heap:=h6.update a (FT λ_=>(rfs Q1).toArray) }:=λQ1 p1 p2=>by
  rw[<-hh6];exact h Q1 p1 p2
 show E2 (Fm prog w) A _ P E {s with heap:=h6 }
 dsimp only;by_cases h2:(rfs pb).toArray.size<2
 ·rw[if_pos h2,if_pos h2];refine Ew (Ez ?_);rw[StateT.run_pure];refine Ew (Ez ?_);dsimp only
  have eout:(arrOf (SortSt.mk' general' ((rfs pb).toArray.zip (rfs pb).toArray) #[] 7 none)).map (·.2)=(rfs pb).toArray:=by
   show (((rfs pb).toArray.zip (rfs pb).toArray)).map (·.2)=_;apply IE.mp
   have zip2:∀l:List EG,(l.zip l).map (·.2)=l:=λl=>by
    induction l with
    |nil=>rfl
    |cons x r ih=>rw[Hb,Fh,ih]
   rw[Kf,N2];exact zip2 _
  rw[eout];refine Ew (Kr T5 rfl (Ew (I_ T5 rfl ?_ (FH _) (by rw[SH,F3];lia))))
  show E2 _ _ (if (e1 !=e1)=true then _ else _) _ _ _
  rw[if_neg (by simp)]
  refine Ez (QN pb (K3 _) ?_)
  match pb,SH,h2 with
  |[],_,_=>simp
  |[_],_,_=>simp
  |_::_::r,SH,h2=>rw[SH]at h2;exact absurd h2 (by simp)
 ·rw[if_neg h2,if_neg h2];rw[SH]at h2;have h2':2<=(rfs pb).length:=by rw[T4];lia
  refine Ew (S.kind (s:={s with heap:=h6 }) tk6 (by lia) ?_)
  have inj:∀i j,i<pb.length->j<pb.length->i≠j->(pb.getD i d0).1≠(pb.getD j d0).1:=λi j hi hj Ry e=>by
   refine Ry ((Kb (xs:=pb.map (·.1)) (h₀:=by simpa using hi) (h₁:=by simpa using hj) Ru).mp ?_)
   simpa [hi,hj] using e
  have O:LtO pb.length (λi j=>S.lt (pb.getD i d0).1 (pb.getD j d0).1):=⟨λi j k=>S.tr,λi j hi hj Ry=>S.tot (inj i j hi hj Ry),λi j=>S.asy⟩
  obtain⟨p,R,SI,SS⟩:=o4 O (by lia)
  have hcmp:∀i j C,i<pb.length->j<pb.length->C (S.lt (pb.getD i d0).1 (pb.getD j d0).1) {s with heap:=h6 }->kas_ask prog w A (S.kd) (rfs pb) i j C {s with heap:=h6 }:=λi j C hi hj c=>by
   unfold kas_ask;have ei:(rfs pb).getD i Fb=.ref (pb.getD i d0).2:=by simp[hi]
   have ej:(rfs pb).getD j Fb=.ref (pb.getD j d0).2:=by simp[hj]
   rw[ei,ej];have mi:pb.getD i d0∈pb:=by simp[hi]
   have mj:pb.getD j d0∈pb:=by simp[hj]
   exact S.ask (s:={s with heap:=h6 }) hu (tk6 _ mi) (tk6 _ mj) c
  have tree:(kas_sort (rfs pb).length).kasWp (kas_ask prog w A (S.kd) (rfs pb)) (λp' s'=>p'=p/\s'={s with heap:=h6 }) {s with heap:=h6 }:=by
   rw[T4];exact R.wp hcmp ⟨rfl,rfl⟩
  refine Ew (He (kat_run (Q:=λQ6 s'=>s'={s with heap:=h6 }/\failedOf Q6=none/\(arrOf Q6).map (·.2)=NS (p.toList.map λi=>(rfs pb).getD i Fb)) rfl h2' (by rw[T4];exact h64) (λp' Q6 s' _ a2 a3 a4=>?_) tree) ?_ λ_ _ e=>e)
  ·obtain⟨rfl,rfl⟩:=a4;exact⟨rfl,a3,kat_snds rfl a2⟩
  ·rintro ⟨⟨⟩,Q6⟩ s' ⟨rfl,hf,hout⟩;dsimp only;rw[hout];have Qx:∀i∈p.toList,i<pb.length:=λi hi=>E5.mp (SI.perm.mem_iff.mp hi)
   have er:(p.toList.map λi=>(rfs pb).getD i Fb)=rfs (p.toList.map λi=>pb.getD i d0):=by
    unfold rfs;rw[Fn];refine GW λi hi=>?_
    have:=Qx i hi;simp[this]
   rw[er]
   have Tp:(p.toList.map λi=>pb.getD i d0).Perm pb:=by
    refine (SI.perm.map _).trans ?_;rw[Ac]
   have hs2:(rfs (p.toList.map λi=>pb.getD i d0)).toArray.size=pb.length:=by simp[SI.size]
   refine Ew (Kr T5 rfl (Ew (I_ T5 rfl ?_ (FH _) (by rw[hs2,F3];lia))))
   rw[hf];show E2 _ _ (if (e1 !=e1)=true then _ else _) _ _ _
   rw[if_neg (by simp)]
   refine Ez (QN _ Tp ?_);rw[Fn,FU,FA];intro i j hi hj Ry;have Ui:j<pb.length:=by rw[ER,SI.size]at hj;exact hj
   have q:=SS i j Ry Ui;have ei:g p i=p.toList[i]:=by simp[g,Hh,SI.size,show i<pb.length by lia]
   have ej:g p j=p.toList[j]:=by simp[g,Hh,SI.size,Ui]
   rw[ei,ej]at q;exact q
theorem call_g{l:ES}{pb:List (α×ES)}{Q:EG->EE->Prop}(hl:s.heap.IsList l (rfs pb).toArray)(RH:∀p∈pb,S.is prog w s.heap p.1 p.2)(hu:A.units+5<GU)(d0:α×ES)(Ru:(pb.map (·.1)).Nodup)(h64:pb.length<64)
  (h:∀(h1 h':GS) (tk:Nat) (Q1:List (α×ES)) (e:Nat),Q1.Perm pb→(Q1.map (·.1)).Pairwise (λx y=>S.lt x y=true)→(∀c o,s.heap.get? c=some o→h1.get? c=some o)→(∀c o,h1.get? c=some o→h'.get? c=some o)→h'.get? h1.objs.size=some (KN "list" (rfs Q1).toArray e)→Q (.ref h1.objs.size) {s with heap:=h',toks:=tk }):
  E2 (Fm prog w) A (call (.builtin "sorted") [.ref l]) Q E s:=by
 have hrl:(rfs pb).length=pb.length:=by simp
 refine K9 kind_sorted plain_sorted entry_sorted (args_sorted1 _) ?_;unfold Builtin.«sorted»;refine Ew (m:=checkCount "sorted" 1 1 _) (Ez ?_);refine Ew (collect_list hl ?_ (by rw[hrl,F3];lia))
 refine Ew (LD ?_ (by rw[hrl,F3];lia))
 generalize hg:(s.heap.push (KN "list" #[] 0)).update s.heap.objs.size (FT (·++(rfs pb).toArray))=h1
 have keep:∀c o,s.heap.get? c=some o->h1.get? c=some o:=λc o e=>by
  rw[<-hg,Fd _ _ (Js (EN e))];exact EA _ e
 have hD:(h1.push {cls:=.type "list",data:=.seq (rfs pb).toArray }).get? h1.objs.size=some (KN "list" (rfs pb).toArray 0):=EM _ rfl
 have up:∀p∈pb,S.is prog w (h1.push {cls:=.type "list",data:=.seq (rfs pb).toArray }) p.1 p.2:=λp hp=>by
  exact S.grow (RH p hp) λb o _ e=>EA _ (keep _ _ e)
 refine Ew (FB (FP OR ⟨_,hD,rfl⟩ Oo ?_ (OS _)));refine BL S (s:={s with heap:=h1.push {cls:=.type "list",data:=.seq (rfs pb).toArray } }) hD up (by show A.units+1+1+1<GU;lia) d0 Ru h64 λQ1 pp so=>⟨_,rfl,Ez ⟨_,rfl,?_⟩⟩
 obtain⟨e,eD⟩:=sortedHeap_at (out:=(rfs Q1).toArray) hD;refine h h1 _ s.toks Q1 e pp so keep (λc o hb=>?_) eD
 have Qx:=EN hb;rw[OT (Fe Qx) (by rw[Ga];exact GL Qx)]
 exact EA _ hb
end
end SG
namespace L2
open PySem PySem.Spec PyProof.Rows
section
variable {X:Cx}{H0:Hp}{O0:List ES}{ps:PSt}{e:Expr}{pos p:Pos}
theorem tH{α:Type}[DecidableEq α](S:SG.Ky α)(uf:α→U)(t0:α){trs:List α}(Rv:∀{pins:List (ES×Obj)}{σ:St}{H:Hp}{s:EE}{z:V}{u:EG}{a:α},Inv X pins σ H s→Rp X.K H z (uf a)→aX z u→∃b,z=.ref b∧u=.ref b∧S.is X.prog X.w s.heap a b)(hg:Gl X "sorted")(hm:X.mg "sorted"=none)(hu:X.A.units+10<GU)(ha:Ev X H0 O0 ps e (.lst (trs.map uf)))(hl:trs.length<64∧trs.Nodup)
  (he:EO [e] X.env=(false,Io e X.env)::EO [] X.env:=by rfl):EvN X H0 O0 ps (.Call (.Name "sorted" p) [e] [] pos) ((SG.srt S trs).map uf):=by
 obtain⟨hl,hn⟩:=hl;rintro pins s σ H Q I ⟨O,R,q⟩;refine F0 (cg I hg hm boot_sorted ?_);refine callWith_builtin1 (e:=e) (rest:=[]) (thn (cI ha eI he pos pins s σ H (λvs H1=>∃v,vs=[v]/\aI H H1/\Rp X.K (hid H1 O) v (.lst (trs.map uf))) I ⟨O,R,λv H1 s1 r1=>⟨v,rfl,s1,r1⟩⟩) λus s1 hx=>?_) he rfl
 obtain⟨vs,H1,I1,rv,v,rfl,sm,rp⟩:=hx;obtain⟨u,rfl,ru⟩:=c9 rv;cases rp with
 | @lst a ws _ hq S1 hwi=>
  cases ru;obtain⟨Qs,RK,pl,hz⟩:=I1.list (SqL.of (ao _ _ hq));have hlp:ws.length=trs.length:=by rw[S1,Ex]
  have TJ:Qs.length=trs.length:=by rw[<-RK.length,hlp]
  have item:∀i,i<trs.length->∃b,Qs[i]?=some (.ref b)/\Rp X.K (hid H1 O) (.ref b) (uf (trs.getD i t0))/\S.is X.prog X.w s1.heap (trs.getD i t0) b:=λi hi=>by
   have hw:ws[i]?=some ws[i]:=Ey (by lia)
   have hp:(trs.map uf)[i]?=some (uf (trs.getD i t0)):=by rw[EI,Ey hi];simp[hi]
   have r:=hwi i _ _ hw hp;obtain⟨u',e1,e2⟩:=RK.get hw;obtain⟨b,ez,rfl,tb⟩:=Rv I1 (r.same ao) e2;rw[ez]at r;exact⟨b,e1,r,tb⟩
  let ad:Nat->ES:=λi=>match Qs[i]? with |some (.ref b)=>b |_=>0
  have R0:∀i,i<trs.length->Qs[i]?=some (.ref (ad i))/\Rp X.K (hid H1 O) (.ref (ad i)) (uf (trs.getD i t0))/\S.is X.prog X.w s1.heap (trs.getD i t0) (ad i):=λi hi=>by
   obtain⟨b,e1,e2,e3⟩:=item i hi;have:ad i=b:=by show (match Qs[i]? with |some (.ref b)=>b |_=>0)=b;rw[e1]
   rw[this];exact⟨e1,e2,e3⟩
  generalize ad=Rx at R0;clear ad;generalize TL:((Fw trs.length).map λi=>((trs.getD i t0,Rx i):α×ES))=pb
  have hits:Qs=SG.rfs pb:=by
   apply Hj;intro i;rw[<-TL];unfold SG.rfs;rcases Gy i trs.length with z |z
   ·rw[(R0 i z).1];simp[z]
   ·rw[Fo (by lia),Fo (by simpa using z)]
  have h1p:pb.map (·.1)=trs:=by
   rw[<-TL,Fn];apply Hj;intro i;rcases Gy i trs.length with z |z
   ·simp[z]
   ·rw[Fo (by simpa using z),Fo z]
  have srcb:∀z∈pb,∃j,j<trs.length/\z=(trs.getD j t0,Rx j):=λz hz=>by
   rw[<-TL]at hz;obtain⟨j,hj,rfl⟩:=ED.mp hz;exact⟨j,E5.mp hj,rfl⟩
  have hbl:pb.length=trs.length:=by rw[<-h1p,Ex]
  rw[hits]at pl;refine SG.call_g S (pb:=pb) pl.isList (λz hz=>?_) (by show X.A.units+5<GU;lia) (t0,0) (by rw[h1p];exact hn) (by lia) λh3 h4 tk2 Q1 ep pm so k1 k2 hD=>?_
  ·obtain⟨j,hj,rfl⟩:=srcb z hz;exact (R0 j hj).2.2
  ·have I3:Inv X pins σ H1 {s1 with heap:=h3,toks:=tk2 }:=I1.kept (t':=tk2) k1
   have src:∀z∈Q1,∃j,j<trs.length/\z=(trs.getD j t0,Rx j):=λz hz=>srcb z (pm.mem_iff.mp hz)
   have etrs:Q1.map (·.1)=SG.srt S trs:=by
    refine SG.asc_one S so (SG.srt_asc S trs) λz=>?_
    rw[SG.srt_mem,(pm.map (·.1)).mem_iff,h1p]
   have fr:H1 h3.objs.size=none:=I3.hok.fresh (EL _);refine⟨.ref h3.objs.size,upd H1 h3.objs.size (.lst (Q1.map λz=>V.ref z.2)),?_,rfl,?_⟩
   ·refine I3.laid (t':=tk2) k2 (EL _) ⟨?_,(SG.rfs Q1),ep,?_,hD⟩
    ·rw[Ex,pm.length_eq,hbl,F3];lia
    ·have all:∀l:List (α×ES),aO (l.map λz=>V.ref z.2) (SG.rfs l):=λl=>by
      induction l with
      |nil=>exact .nil
      |cons z r ih=>exact .cons rfl ih
     exact all Q1
   ·refine q _ _ _ (sm.trans (aL fr _)) (sm.free fr) aJ ⟨?_,λi z x e1 e2=>?_⟩
    ·rw[Ex,<-etrs,Ex,Ex]
    ·rw[<-etrs,Fn,EI]at e2;rw[EI]at e1;cases hpi:Q1[i]? with
     |none=>rw[hpi]at e1;cases e1
     |some y=>
      rw[hpi]at e1 e2;cases e1;cases e2;obtain⟨j,hj,rfl⟩:=src y (EV hpi);exact (R0 j hj).2.1.same (bu (aL fr _) fr)
end
end L2
namespace ST3
open PySem PySem.W PySem.Calls PyProof.Rows ST
def KT:SG.Ky TR:=⟨ltT,CA,zJ,zQ,TT,M4 false,λh e=>h.grow e,λhu h k q=>CZ hu h k q,λh k q=>w9 h k q⟩
abbrev PQ:=(Int×Int)×Int
section
variable {prog:E1}{w:Fz}{A:FQ}{E:EG→EE→Prop}{s:EE}
def TQ(prog:E1)(w:Fz)(h:GS)(t:PQ)(b:ES):Prop:=∃o items n a1 u,h.get? b=some o∧o.cls=.type "tuple"∧o.data=.seq items n∧items.toList=[.ref a1,.int t.2 u]∧TK prog w h (lq t.1) a1
end
def KP:SG.Ky (Int×Int):=⟨ltP,iE,ltP_tot,ltP_asy,λprog w h p b=>TK prog w h (lq p) b,M4 true,λt e=>by obtain⟨o,it,n,g1,gc,g2⟩:=t;exact⟨o,it,n,e _ _ gc g1,gc,g2⟩,λhu h k q=>wq h k q,λh k q=>pQ h k q⟩
end ST3
namespace L2
open PySem PySem.Spec PyProof.Rows
variable {pins:List (ES×Obj)}
section
variable {X:Cx}{σ:St}{H:Hp}{s:EE}{z:V}{u:EG}
theorem Eb{a:ST3.TR}(I:Inv X pins σ H s)(r:Rp X.K H z (trU a))(e:aX z u):∃b,z=.ref b/\u=.ref b/\ST3.KT.is X.prog X.w s.heap a b:=by
 cases r with
 | @tup b zs _ hs Sw hsi=>
  cases e;refine⟨b,rfl,rfl,?_⟩;obtain⟨jts,rj,ht,_⟩:=I.tuple hs;have z0:zs.length=3:=Sw
  match zs,z0,hsi,rj with
  |[z1,z2,z3],_,hsi,rj=>
   obtain⟨u1,u2,u3,rfl,r1,r2,r3⟩:=Ds rj;obtain⟨x,rfl,tx⟩:=eF I (hsi 0 z1 _ rfl rfl) r1;obtain⟨y,rfl,ty⟩:=eF I (hsi 1 z2 _ rfl rfl) r2;obtain⟨v,rfl,tv⟩:=eF I (hsi 2 z3 _ rfl rfl) r3;obtain⟨o,ho,Sq,n,Tq⟩:=ht;exact⟨o,_,n,x,y,v,ho,Sq,Tq,rfl,tx _ _,ty _ _,tv _ _⟩
theorem Em{a:P2}(I:Inv X pins σ H s)(r:Rp X.K H z (pu a))(e:aX z u):∃b,z=.ref b/\u=.ref b/\ST3.KP.is X.prog X.w s.heap a b:=by
 obtain⟨b,rfl,tb⟩:=eF I r e;refine⟨b,?_,rfl,tb _ _⟩;cases r;cases e;rfl
end
def wF(P:E1)(w:Fz):HeapKind P w K4 where
 is:=λh k a=>ST2.TQ P w h k a
 hash:=ST2.hsq P w
 draws:=λ_=>7
 room:=λA=>A.units+1<GU
 inj:=λhx hy=>hx.inj hy
 keeps:=λ{h h' k a d o es ep} x ho hd hs=>by
  obtain⟨o1,it,n,a1,a2,h1,h2,h3,h4,h5,h6⟩:=x;refine⟨o1,it,n,a1,a2,(hs.2 a λe=>?_).trans h1,h2,h3,h4,h5.keeps ho hd hs,h6.keeps ho hd hs⟩
  subst e;rw[ho]at h1;cases h1;rw[hd]at h3;cases h3
 pyHash:=λhu hk h=>ST2.hashQ hu hk h
 eqBool:=λhu hx hy h=>ST2.eqB hu hx hy h
 quiet:=λhk h=>ST2.quiet hk h
theorem xD{P:E1}{w:Fz}{hh:K4->Int}{d:ES}{ep:Nat}{xs:List jd}{H:Hp}{h:GS}(x:Sdp hh d ep xs h):bD P w H h d (.ext (Sdp hh d ep xs)):=
 ⟨x,let ⟨_,_,o,_,e,_⟩:=x;⟨o,e⟩,λ_ _ ⟨a,b,o,es,e,r⟩ k=>⟨a,b,o,es,k o e,r⟩⟩
section
variable {X:Cx}{σ:St}{H:Hp}{s:EE}{a b:ES}{k:K4}{ep:Nat}{xs:List jd}
theorem jj(I:Inv X pins σ H s)(h:KPr X.K H b k):(wF X.prog X.w).is s.heap k b:=by
 obtain⟨p,q,h1,h2,h3⟩:=h;obtain⟨Qs,rv,⟨o,e,c,n,d⟩,_⟩:=I.tuple h1;obtain⟨u1,u2,rfl,r1,r2⟩:=fY rv;cases r1;cases r2;exact⟨o,_,n,p,q,e,c,d,rfl,wS I (k:=[k.1.1,k.1.2]) h2,wS I (k:=[k.2.1,k.2.2]) h3⟩
theorem kg(I:Inv X pins σ H s)(e:H a=some (.ext (Sdp (ST2.hsq X.prog X.w) a ep xs)))(ky:∀x∈xs,KPr X.K H x.2.1 x.1):(a==Ko)=false/\xs.length<=sizeLine/\s.heap.DictOfH (wF X.prog X.w) a xs:=by
 obtain⟨⟨h1,h2,o,es,g1,g2,g3,g4,g5⟩,_⟩:=(show bD X.prog X.w H s.heap a (.ext (Sdp (ST2.hsq X.prog X.w) a ep xs)) from I.hok a _ e)
 exact⟨h1,h2,o,es,ep,g1,g2,g3,g4,λx hx=>jj I (ky x hx),g5⟩
end
def cntK(Qt:List (K4×Int))(k:K4):Int:=((Qt.find? λx=>decide (x.1=k)).map (·.2)).getD 0
def bump(Qt:List (K4×Int))(k:K4):List (K4×Int):=if Qt.any (λx=>decide (x.1=k)) then Qt.map (λx=>if x.1=k then (x.1,x.2+1) else x) else Qt++[(k,1)]
theorem b7.find{k:K4}:∀{xs:List jd}{Qt:List (K4×Int)},b7 xs Qt->(atKey xs k=none/\Qt.any (λx=>decide (x.1=k))=false/\cntK Qt k=0)\/∃b t,atKey xs k=some (b,.int (cntK Qt k) t)/\Qt.any (λx=>decide (x.1=k))=true
 |[],Qt,h=>by
  have:Qt=[]:=Gq.mp h.1.symm;subst this;exact .inl ⟨rfl,rfl,rfl⟩
 |x::xs,[],h=>by have:=h.1;simp at this
 |x::xs,y::Qt,h=>by
  obtain⟨e,t,et⟩:=h.2 0 x y rfl rfl;have h':b7 xs Qt:=⟨by have:=h.1;simpa using this,λi a b h1 h2=>h.2 (i+1) a b (by simpa using h1) (by simpa using h2)⟩
  by_cases c:y.1=k
  ·refine .inr ⟨x.2.1,t,?_,by simp[c]⟩
   unfold atKey cntK;rw[JM (by simp[e,c]),JM (by simp[c])]
   show some x.2=some (x.2.1,Fv y.2 t);rw[<-et]
  ·have f1:atKey (x::xs) k=atKey xs k:=by unfold atKey;rw[JN (by simp[e,c])]
   have f2:cntK (y::Qt) k=cntK Qt k:=by unfold cntK;rw[JN (by simp[c])]
   have f3:(y::Qt).any (λx=>decide (x.1=k))=Qt.any (λx=>decide (x.1=k)):=by simp[c]
   rw[f1,f2,f3];exact h'.find
theorem b7.snoc{xs:List jd}{Qt:List (K4×Int)}{x:jd}{y:K4×Int}(h:b7 xs Qt)(e:x.1=y.1){t:Tok}(et:x.2.2=.int y.2 t):b7 (xs++[x]) (Qt++[y]):=by
 refine⟨by simp[h.1],λi a b h1 h2=>?_⟩
 by_cases c:i<xs.length
 ·rw[E6 c]at h1;rw[E6 (by rw[<-h.1];exact c)]at h2
  exact h.2 i a b h1 h2
 ·have c':xs.length<=i:=Jj c;rw[E7 c']at h1;rw[E7 (by rw[<-h.1];exact c'),<-h.1]at h2
  cases z:i-xs.length with
  |zero=>rw[z]at h1 h2;cases h1;cases h2;exact⟨e,t,et⟩
  |succ n=>rw[z]at h1;simp at h1
theorem xr{Qt:List (K4×Int)}(nd:(Qt.map (·.1)).Nodup){y:K4×Int}(h:y∈Qt):cntK Qt y.1=y.2:=by
 induction Qt with
 |nil=>cases h
 |cons z r ih=>
  rw[Fh,Gh]at nd;unfold cntK;by_cases c:z.1=y.1
  ·rw[JM (by simp[c])]
   rcases EH.mp h with e |e
   ·rw[e];rfl
   ·exact absurd (ED.mpr ⟨y,e,c.symm⟩) nd.1
  ·rw[JN (by simp[c])]
   rcases EH.mp h with e |e
   ·exact absurd (by rw[e]) c
   ·exact ih nd.2 e
theorem b7.keys{xs:List jd}{Qt:List (K4×Int)}(h:b7 xs Qt):xs.map (·.1)=Qt.map (·.1):=by
 apply Hj;intro i;rw[EI,EI];cases z:xs[i]? with
 |none=>rw[K_]at z;rw[Fo (by rw[<-h.1];exact z)];rfl
 |some x=>
  have hi:=aw z;have QI:i<Qt.length:=by rw[<-h.1];exact hi
  have q:Qt[i]?=some Qt[i]:=Ey QI;rw[q];exact congrArg some (h.2 i x _ z q).1
theorem b7.put{xs:List jd}{Qt:List (K4×Int)}(h:b7 xs Qt)(nd:(xs.map (·.1)).Nodup)(k:K4)(b:ES)(t:Tok):b7 (Qh xs k b (.int (cntK Qt k+1) t)) (bump Qt k):=by
 rcases h.find (k:=k) with ⟨h1,h2,h3⟩ |⟨b',t',h1,h2⟩
 ·rw[storedH_new h1,bump,if_neg (by rw[h2];decide),h3]
  exact h.snoc rfl rfl
 ·rw[storedH_old h1,bump,if_pos h2];refine⟨by simp[h.1],λi x y e1 e2=>?_⟩
  rw[EI]at e1 e2;obtain⟨x0,q1,rfl⟩:=HK.mp e1;obtain⟨y0,q2,rfl⟩:=HK.mp e2;obtain⟨g1,t0,g2⟩:=h.2 i x0 y0 q1 q2;unfold putAt;by_cases c:y0.1=k
  ·rw[if_pos (g1.trans c),if_pos c];refine⟨g1,t,?_⟩;have:=xr (by rw[<-h.keys];exact nd) (EV q2)
   rw[<-c,this]
  ·rw[if_neg (λe=>c (g1.symm.trans e)),if_neg c]
   exact⟨g1,t0,g2⟩
variable {e:Expr}{pos:Pos}
section
variable {X:Cx}{o i f QS:Expr}{QF QQ QE:Pos}{td ty tv tx:TE}
theorem y9:PE X (.Dict [] [] pos) (λ_ H Q=>∀p,H p=none->Q (.ref p) (upd H p (.ext (Sdp (ST2.hsq X.prog X.w) p 0 [])))):=λpins s σ H Q I h=>
 wpAny_Dict_empty ⟨.ref s.heap.objs.size,_,I.laid (a:=s.heap.objs.size) (o:=.ext (Sdp (ST2.hsq X.prog X.w) s.heap.objs.size 0 [])) (t':=s.toks) (λ_ _ q=>EA _ q) (EL _)
  (xD ⟨beq_eq_false_iff_ne.mpr (Ne.symm (Fe (BO I))),FH _,_,#[],EM _ rfl,⟨rfl,rfl,rfl⟩,rfl,rfl,K8⟩),rfl,h _ (I.hok.fresh (EL _))⟩
theorem xC(hu:X.A.units+2<GU)(ho:PE X o td)(he:PE X e ty)(hf:PE X f tx)(m:M2 X o "get" QQ e f QE):PE X (.Call (.Attribute o "get" QQ) [e,f] [] QE)
  (λσ H Q=>td σ H λx H1=>∃a ep xs,x=.ref a/\H1 a=some (.ext (Sdp (ST2.hsq X.prog X.w) a ep xs))/\ty σ H1 λy H2=>tx σ H2 λz H3=>∃b k Qt,y=.ref b/\z=.int 0/\H3 a=some (.ext (Sdp (ST2.hsq X.prog X.w) a ep xs))/\
   KPr X.K H3 b k/\(∀x∈xs,KPr X.K H3 x.2.1 x.1)/\b7 xs Qt/\Q (.int (cntK Qt k)) H3):=by
 intro pins s σ H Q I h;refine wpAny_Call_method m.base m.few m.line PySem.F.plainAttrs_dict Mo PySem.F.type_dict_get (thn (ho pins s σ H _ I h) λu s1 ⟨x,H1,I1,rx,a,ep,xs,ex,d,q1⟩=>?_)
 subst ex;obtain rfl:u=EZ a:=rx;obtain⟨⟨_,_,ob,_,g1,g2,_⟩,_⟩:=(show bD X.prog X.w H1 s1.heap a (.ext (Sdp (ST2.hsq X.prog X.w) a ep xs)) from I1.hok a _ d)
 refine⟨⟨ob,g1,g2.1⟩,λb q=>by cases q;exact⟨ob,g1,g2.2.1⟩,?_⟩
 rw[m.trees]
 refine JG rfl (MJ (G8 (thn (he pins s1 σ H1 _ I1 q1) λiv s2 ⟨y,H2,I2,ry,q2⟩=>
  G8 (thn (hf pins s2 σ H2 _ I2 q2) λfv s3 ⟨z,H3,I3,rz,b,k,Qt,ey,ez,d3,kb,ky,en,q3⟩=>HF ?_))))
 subst ey ez;obtain rfl:iv=EZ b:=ry;obtain⟨t0,rfl⟩:=(show ∃t,fv=Fv 0 t from rz)
 obtain⟨hd,hz,dd⟩:=kg I3 d3 ky;refine call_meetsIn Mo dd.typeIs PySem.F.entry_dict_get (PySem.F.args_dict_get_3 _ _ _) (meetsH_dict_get_default (wF X.prog X.w) a b hd _) ⟨hu,k,xs,jj I3 kb,dd,_,H3,I3.tok _,?_,q3⟩;rcases en.find (k:=k) with ⟨h1,_,h3⟩ |⟨b',t',h1,_⟩
 ·rw[h1,h3];exact⟨t0,rfl⟩
 ·rw[h1];exact⟨t',rfl⟩
theorem yH(hu:X.A.units+2<GU)(ho:PE X o td)(hi:PE X i ty)(hv:PE X QS tv)(hs:HQ QS (some (.Subscript o i QF)) pos.line X.env=pure false):
  PS X (.Assign [.Subscript o i QF] QS pos) (λD σ H=>tv σ H λv H1=>td σ H1 λx H2=>ty σ H2 λy H3=>∃a ep xs Qt b k,v=.int (cntK Qt k+1)/\x=.ref a/\H3 a=some (.ext (Sdp (ST2.hsq X.prog X.w) a ep xs))/\
   y=.ref b/\KPr X.K H3 b k/\(∀x∈xs,KPr X.K H3 x.2.1 x.1)/\b7 xs Qt/\xs.length<sizeLine/\
   ∀SN T6,b7 T6 (bump Qt k)->(∀x∈T6,(x.2.1=b/\x.1=k)\/∃x0∈xs,x.1=x0.1/\x.2.1=x0.2.1)->D.nx σ (upd H3 a (.ext (Sdp (ST2.hsq X.prog X.w) a SN T6)))):=by
 intro pins s σ H D I h;refine wpAny_Assign_Subscript (thn (hv pins s σ H _ I h) λr s1 ⟨v,H1,I1,rv,q1⟩=>thn (ho pins s1 σ H1 _ I1 q1) λu s2 ⟨x,H2,I2,rx,q2⟩=>thn (hi pins s2 σ H2 _ I2 q2) λiv s3 ⟨y,H3,I3,ry,a,ep,xs,Qt,b,k,ev,ex,ea,ey,eb,ky,en,hl,q3⟩=>?_) hs
 subst ev ex ey;obtain rfl:u=EZ a:=rx;obtain rfl:iv=EZ b:=ry;obtain⟨t,rfl⟩:=(show ∃t,r=Fv (cntK Qt k+1) t from rv)
 obtain⟨hd,hz,dd⟩:=kg I3 ea ky;have nd:(xs.map (·.1)).Nodup:=let ⟨_,_,_,_,_,_,_,_,z⟩:=dd;z;refine wpAny_setItem_heap (hsz:=hz) hu (jj I3 eb) dd λh' dd' hs=>?_
 obtain⟨q,es,SN,hq,h2,h3,h4,_,h5⟩:=dd';refine⟨σ,_,?_,q3 SN (Qh xs k b (.int (cntK Qt k+1) t)) (en.put nd k b t) λx hx=>?_⟩
 ·refine I3.write (x:=a) (e:=a) (by rw[ea];exact True.intro) (.inl rfl) (λb q hb z=>(hs.2 b hb).trans z) ⟨q,hq⟩ (xD ⟨hd,?_,q,es,hq,h2,h3,h4,h5⟩)
  unfold Qh;split
  ·rw[Ex];exact hz
  ·rw[EY];exact hl
 ·unfold Qh at hx;split at hx
  ·obtain⟨x0,m0,rfl⟩:=ED.mp hx;refine .inr ⟨x0,m0,?_⟩;unfold putAt;split <;>exact⟨rfl,rfl⟩
  ·rcases EX.mp hx with z |z
   ·exact .inr ⟨x,z,rfl,rfl⟩
   ·rw[EJ.mp z];exact .inl ⟨rfl,rfl⟩
end
structure SnP(K:EC)(hh:K4->Int)(ps:PSt)(j:Nat)(Qt:List (K4×Int))(H0:Hp)(O0:List ES)(σ:St)(H:Hp)(O:List ES)(d:ES):Prop where
 rs:Rs K H0 O0 ps σ H O
 vals:∀(i:Nat) (s:Sl),ps[i]?=some (some s)->∃u,s=.val u
 non:ps[j]?=some none
 at_:σ[j]?=some (some (.ref d))
 dO:d∈O
 dO0:d ∉ O0
 en:∃ep xs,b7 xs Qt/\H d=some (.ext (Sdp hh d ep xs))/\∀x∈xs,KPr K (hid H O) x.2.1 x.1
theorem KPr.same{K:EC}{H H':Hp}{b:ES}{k:K4}(e:aI H H')(h:KPr K H b k):KPr K H' b k:=let ⟨p,q,a,b,c⟩:=h;⟨p,q,e.tup a,e.tup b,e.tup c⟩
variable {H0:Hp}{O0:List ES}{Qt:List (K4×Int)}
section
variable {K:EC}{hh:K4→Int}{H H':Hp}{O:List ES}{ps:PSt}{σ:St}{j:Nat}{d:ES}
theorem SnP.go(D:SnP K hh ps j Qt H0 O0 σ H O d)(e:aI H H'):SnP K hh ps j Qt H0 O0 σ H' O d:=
 ⟨D.rs.go e,D.vals,D.non,D.at_,D.dO,D.dO0,let ⟨ep,xs,a,b,c⟩:=D.en;⟨ep,xs,a,e _ _ b,λx hx=>(c x hx).same (aT e)⟩⟩
theorem SnP.set{i:Nat}{v:V}{u:U}(D:SnP K hh ps j Qt H0 O0 σ H O d)(r:Rp K (hid H O) v u)(n:i≠j):SnP K hh (ps.set i (some (.val u))) j Qt H0 O0 (σ.set i (some v)) H O d:=
 ⟨D.rs.set r,λk s h=>by
  rcases cO h with ⟨_,e⟩ |⟨_,e⟩
  ·cases e;exact⟨_,rfl⟩
  ·exact D.vals k s e,by rw[Fc n];exact D.non,by rw[Fc n];exact D.at_,D.dO,D.dO0,D.en⟩
theorem SnP.sub{QO:PSt}(D:SnP K hh ps j Qt H0 O0 σ H O d)(h:SubP QO ps):SnP K hh QO j Qt H0 O0 σ H O d:=by
 obtain⟨hl,ha⟩:=h.at_;refine⟨D.rs.sub h,λi s q=>D.vals i s (ha i s q),?_,D.at_,D.dO,D.dO0,D.en⟩
 have lt:j<QO.length:=by rw[hl];exact aw D.non
 cases z:QO[j]? with
 |none=>rw[K_]at z;lia
 |some o=>
  cases o with
  |none=>rfl
  |some s=>have:=ha j s z;rw[D.non]at this;cases this
theorem SnP.put{ep:Nat}{T6:List jd}{Rq:List (K4×Int)}(D:SnP K hh ps j Qt H0 O0 σ H O d)(en:b7 T6 Rq)(ky:∀x∈T6,KPr K (hid H O) x.2.1 x.1):SnP K hh ps j Rq H0 O0 σ (upd H d (.ext (Sdp hh d ep T6))) O d:=by
 have R:=D.rs;have h0:H0 d=none:=(R.new _ D.dO).resolve_left D.dO0;have eh:∀o,hid (upd H d o) O=hid H O:=λo=>jp D.dO
 refine⟨⟨R.same.put h0 _,R.old,R.new,λb hb z=>?_,R.len,λi s q=>?_,λi k xs ys a q1=>?_⟩,D.vals,D.non,D.at_,D.dO,D.dO0,ep,T6,en,aJ,λx hx=>?_⟩
 ·by_cases e:b=d
  ·rw[e,aJ]at z;cases z
  ·rw[a_ e]at z;exact R.dom b hb z
 ·obtain⟨w,k1,k2⟩:=R.at_ i s q;obtain⟨u',rfl⟩:=D.vals i s q;refine⟨w,k1,?_⟩;show Rp K (hid (upd H d _) O) w u';rw[eh];exact k2
 ·obtain⟨u',z⟩:=D.vals _ _ q1;cases z
 ·rw[eh];exact ky x hx
theorem SnP.free(D:SnP K hh ps j Qt H0 O0 σ H O d):∃O',Rs K H0 O0 (ps.set j (some (.val (.ty (.dp hh Qt))))) σ H O':=by
 have R:=D.rs;obtain⟨ep,xs,en,hH,ky⟩:=D.en;have less:∀b∈O.filter (λb=>decide (b≠d)),b∈O:=λb hb=>(FE.mp hb).1
 have keep:∀b∈O,b≠d->b∈O.filter (λb=>decide (b≠d)):=λb hb ne=>FE.mpr ⟨hb,by simpa using ne⟩
 have sm:aI (hid H O) (hid H (O.filter (λb=>decide (b≠d)))):=d7 less
 have na:d ∉ O.filter (λb=>decide (b≠d)):=λz=>by have:=(FE.mp z).2;simp at this
 refine⟨O.filter (λb=>decide (b≠d)),R.same,λb hb=>keep b (R.old b hb) λe=>D.dO0 (e ▸ hb),λb hb=>R.new b (less b hb),λb hb=>R.dom b (less b hb),by rw[R.len,IP],λi s hs=>?_,λi k ys zs b h1 h2 h3 h4=>?_⟩
 ·rcases cO hs with ⟨rfl,e⟩ |⟨ne,hs⟩
  ·cases e;exact⟨.ref d,D.at_,.dp (dg hH na) (λx hx=>(ky x hx).same sm) en⟩
  ·obtain⟨w,hw,ok⟩:=R.at_ i s hs;obtain⟨u',rfl⟩:=D.vals i s hs;exact⟨w,hw,Rp.same sm ok⟩
 ·rcases cO h1 with ⟨_,e⟩ |⟨_,h1⟩
  ·cases e
  ·obtain⟨u',z⟩:=D.vals _ _ h1;cases z
end
theorem A6{K:EC}{H:Hp}{v:V}{a b:Int×Int}(r:Rp K H v (.tup [.tup [.int a.1,.int a.2],.tup [.int b.1,.int b.2]])):∃p,v=.ref p/\KPr K H p (a,b):=by
 cases r with
 | @tup p vs _ hq hl hh=>
  obtain⟨x,y,rfl,h1,h2⟩:=eS (⟨hl,hh⟩:Rps K H vs _);obtain⟨p1,rfl,s1⟩:=tX h1;obtain⟨p2,rfl,s2⟩:=tX h2;exact⟨p,rfl,p1,p2,hq,s1,s2⟩
def WD(X:Cx)(H0:Hp)(O0:List ES)(j:Nat)(sts:List HL)(ps:PSt)(Qt:List (K4×Int))(nx:PSt->List (K4×Int)->Prop):Prop:=
 PSs X sts λD σ H=>(∀QO Rq QC H' O' d',SnP X.K (ST2.hsq X.prog X.w) QO j Rq H0 O0 QC H' O' d'->nx QO Rq->D.nx QC H')/\∃O d,SnP X.K (ST2.hsq X.prog X.w) ps j Qt H0 O0 σ H O d
section
variable {X:Cx}{E:XK}{ps:PSt}{D:PD}{iter:Expr}{items:List U}{ss QP rest:List HL}{j:Nat}{nx:PSt→List (K4×Int)→Prop}
theorem Cg(h:nx ps Qt):WD X H0 O0 j [] ps Qt nx:=PSs.mono m9 λD σ H ⟨a,O,d,S⟩=>a _ _ _ _ _ _ S h
theorem BJ{zz:Nat}{z:Str}{zp ep:Pos}{u:U}(hN:X.N.Nodup)(hz:X.N[zz]?=some z)(lz:Loc X.env.scope z)(hjz:zz≠j)(he:Ev X H0 O0 ps e u)(h:WD X H0 O0 j rest (ps.set zz (some (.val u))) Qt nx)
  (TH:HQ e (some (.Name z zp)) ep.line X.env=pure false:=by rfl) (hfz:X.fn z=true\/X.env.scope.names.lookup z=some .local:=by first |exact .inl rfl |exact .inr rfl |assumption):
  WD X H0 O0 j (.Assign [.Name z zp] e ep::rest) ps Qt nx:=
 PSs.mono (fe (om hN hz lz he TH hfz) h) λD σ H ⟨a,O,d,S⟩=>⟨O,S.rs,λv H5 s5 r5=>⟨a,O,d,(S.go s5).set r5 hjz⟩⟩
theorem CL{zz:Nat}{x z:Str}{xp2 xp3 zp2 zp4 sp ap gp cp cp2 bp sap:Pos}{c1 c2}{a b:Int×Int}(hu:X.A.units+2<GU)(hj:X.N[j]?=some x)(hz:X.N[zz]?=some z)(hv:ps[zz]?=some (some (.val (.tup [.tup [.int a.1,.int a.2],.tup [.int b.1,.int b.2]]))))(hl:Qt.length<sizeLine)
  (h:WD X H0 O0 j rest ps (bump Qt (a,b)) nx)
  (m:M2 X (.Name x xp2) "get" ap (.Name z zp2) (.Constant (.int 0) c1 cp) gp:=by exact⟨rfl,rfl,rfl,rfl⟩)
  (hx:Vis X.env.scope x:=by first |exact Or.inl rfl |exact Or.inr (Or.inl rfl) |exact Or.inr (Or.inr rfl)) (hdx:(x==("__debug__":Str))=false:=by decide) (hcx:(x==("__classdict__":Str))=false:=by decide)
  (hzv:Vis X.env.scope z:=by first |exact Or.inl rfl |exact Or.inr (Or.inl rfl) |exact Or.inr (Or.inr rfl)) (hdz:(z==("__debug__":Str))=false:=by decide) (hcz:(z==("__classdict__":Str))=false:=by decide)
  (hss:HQ (.BinOp (.Call (.Attribute (.Name x xp2) "get" ap) [.Name z zp2,.Constant (.int 0) c1 cp] [] gp) .Add (.Constant (.int 1) c2 cp2) bp) (some (.Subscript (.Name x xp3) (.Name z zp4) sp)) sap.line X.env=pure false:=by rfl):
  WD X H0 O0 j (.Assign [.Subscript (.Name x xp3) (.Name z zp4) sp] (.BinOp (.Call (.Attribute (.Name x xp2) "get" ap) [.Name z zp2,.Constant (.int 0) c1 cp] [] gp) .Add (.Constant (.int 1) c2 cp2) bp) sap::rest) ps Qt nx:=by
 have vz:∀{pos},PE X (.Name z pos) (Cz zz):=e8 hz hzv hdz hcz;have vx:∀{pos},PE X (.Name x pos) (Cz j):=e8 hj hx hdx hcx;refine PSs.mono (fe (yH hu (vx (pos:=xp3)) (vz (pos:=zp4)) (tZ xt (xC hu (vx (pos:=xp2)) (vz (pos:=zp2)) (qw (j:=c1) (pos:=cp)) m) (qw (j:=c2) (pos:=cp2))) hss) h) λD σ H ⟨q,O,d,S⟩=>?_
 obtain⟨v,hσ,ok⟩:=S.rs.at_ zz _ hv;obtain⟨p,rfl,kp⟩:=A6 ok;obtain⟨ep,xs,en,hH,ky⟩:=S.en;have ky':∀x∈xs,KPr X.K H x.2.1 x.1:=λx hx=>(ky x hx).same ao
 refine⟨_,S.at_,d,ep,xs,rfl,hH,_,hσ,p,(a,b),Qt,rfl,rfl,hH,kp.same ao,ky',en,_,_,rfl,rfl,_,S.at_,_,hσ,d,ep,xs,Qt,p,(a,b),rfl,rfl,hH,rfl,kp.same ao,ky',en,by rw[en.1];exact hl,λSN T6 en' ks=>?_⟩
 refine⟨q,O,d,S.put en' λx hx=>?_⟩
 rcases ks x hx with ⟨e1,e2⟩ |⟨x0,m0,e1,e2⟩
 ·rw[e1,e2];exact kp
 ·rw[e1,e2];exact ky x0 m0
def WD1(X:Cx)(H0:Hp)(O0:List ES)(j:Nat)(st:HL)(ps:PSt)(Qt:List (K4×Int))(nx:PSt->List (K4×Int)->Prop):Prop:=
 PS X st λD σ H=>(∀QO Rq QC H' O' d',SnP X.K (ST2.hsq X.prog X.w) QO j Rq H0 O0 QC H' O' d'->nx QO Rq->D.nx QC H')/\∃O d,SnP X.K (ST2.hsq X.prog X.w) ps j Qt H0 O0 σ H O d
theorem ze{st:HL}(h:WD1 X H0 O0 j st ps Qt nx):WD X H0 O0 j [st] ps Qt nx:=
 PSs.mono (fe h m9) λD σ H w=>w
theorem rF{kk:Nat}{y:Str}{yp fp:Pos}(F:Nat->List (K4×Int))(hc:X.calm=true)(hp:Ld (Fm X.prog X.w) X.A X.env X.xe)(hN:X.N.Nodup)(hk:X.N[kk]?=some y)(ly:Loc X.env.scope y)(hjk:kk≠j)
  (hi:EvI X H0 O0 ps (.Name y yp) iter items) (h0:Qt=F 0)
  (hb:∀(H0:Hp) (i:Nat) (x:U),items[i]?=some x->WD X H0 O0 j QP (ps.set kk (some (.val x))) (F i) λQO k=>SubP ps QO/\k=F (i+1))
  (h:nx ps (F items.length))
  (hfy:X.fn y=true\/X.env.scope.names.lookup y=some .local:=by first |exact .inl rfl |exact .inr rfl |assumption)
  (hf:∀z,Gm iter X.env z=pure z:=by intro _;rfl):WD1 X H0 O0 j (.For (.Name y yp) iter QP [] fp) ps Qt nx:=by
 subst h0
 have Q2:PSs X QP λD σ H=>∃(B:Hp) (i:Nat) (x:U),items[i]?=some x/\(∀QO Rq QC H' O' d',SnP X.K (ST2.hsq X.prog X.w) QO j Rq B O0 QC H' O' d'->SubP ps QO/\Rq=F (i+1)->D.nx QC H')/\∃O d,SnP X.K (ST2.hsq X.prog X.w) (ps.set kk (some (.val x))) j (F i) B O0 σ H O d:=
  λpins s σ H D I ⟨B,i,x,hx,w⟩=>hb B i x hx pins s σ H D I w
 refine PS.mono (y6 hp hc hi (bC hN hk ly hfy) Q2 hf) λD σ H ⟨q,O,d,S⟩=>?_
 refine⟨O,S.rs,λJ G4 s4 Y=>?_⟩
 have D4:=S.go s4;have base:=D4.rs.base;have D5:SnP X.K (ST2.hsq X.prog X.w) ps j (F 0) (hid G4 (O.filter λa=>decide (a ∉ O0))) O0 σ G4 O d:=⟨D4.rs.rebase,D4.vals,D4.non,D4.at_,D4.dO,D4.dO0,D4.en⟩
 generalize hB:hid G4 (O.filter λa=>decide (a ∉ O0))=B at *
 refine⟨λi m σ H=>m=items.length-i/\i<=items.length/\∃O' d',SnP X.K (ST2.hsq X.prog X.w) ps j (F i) B O0 σ H O' d',⟨_,rfl,FH _,O,d,D5⟩,?_⟩
 rintro i m σ2 H2 ⟨rfl,Rn,O2,d2,D6⟩;have seen:aI (hid G4 O) (hid H2 O2):=D4.rs.seen (by rw[hB];exact D6.rs)
 obtain⟨y1,y2⟩:=Y H2 (seen.trans ao);by_cases Qx:i<items.length
 ·obtain⟨g1,g2⟩:=y1 i Qx;refine .inr ⟨g1,λQC H'=>∃O' d',SnP X.K (ST2.hsq X.prog X.w) ps j (F (i+1)) B O0 QC H' O' d',λQC H' z=>⟨items.length-(i+1),by lia,rfl,Qx,z⟩,λz H3 yl=>?_⟩
  obtain⟨rfl,u,hu,r⟩:=g2 z H3 yl;exact⟨B,i,u,hu,λQO Rq QC H' O' d' S' ⟨e1,e2⟩=>⟨O',d',by rw[<-e2];exact S'.sub e1⟩,O2,d2,D6.set (r.same seen) hjk⟩
 ·have e:i=items.length:=by lia
  subst e;exact .inl ⟨y2,q _ _ _ _ O2 d2 ⟨D6.rs.unbase base,D6.vals,D6.non,D6.at_,D6.dO,D6.dO0,D6.en⟩ h⟩
theorem Cw{x:Str}{xp lp ap:Pos}{st:HL}{m:List (K4×Int)}(hN:X.N.Nodup)(hj:X.N[j]?=some x)(lx:Loc X.env.scope x)(pj:ps[j]?=some none)(hv:∀(i:Nat) (s:Sl),ps[i]?=some (some s)->∃u,s=.val u)
  (hb:WD1 X H0 O0 j st ps [] λQO k=>SubP ps QO/\k=m) (h:Ws X H0 O0 E ss D (ps.set j (some (.val (.ty (.dp (ST2.hsq X.prog X.w) m))))))
  (hsa:HQ (.Dict [] [] lp) (some (.Name x xp)) ap.line X.env=pure false:=by rfl)
  (hfx:X.fn x=true\/X.env.scope.names.lookup x=some .local:=by first |exact .inl rfl |exact .inr rfl |assumption):
  Ws X H0 O0 E (.Assign [.Name x xp] (.Dict [] [] lp) ap::st::ss) D ps:=by
 refine PSs.mono (fe (om hN hj lx (y9 (pos:=lp)) hsa hfx) (fe hb h)) λD' σ H ⟨L,O,R⟩=>?_
 intro d nd;have s0:aI H (upd H d (.ext (Sdp (ST2.hsq X.prog X.w) d 0 []))):=aL nd _;have bd:(upd H d (.ext (Sdp (ST2.hsq X.prog X.w) d 0 []))) d=some (.ext (Sdp (ST2.hsq X.prog X.w) d 0 [])):=aJ;generalize upd H d (.ext (Sdp (ST2.hsq X.prog X.w) d 0 []))=G3 at *;have R3:=R.hide s0 nd (by rw[bd];intro z;cases z)
 refine⟨λQO Rq QC H' O' d' S' ⟨e1,e2⟩=>?_,d::O,d,R3.setn pj,hv,pj,fZ (by rw[R.len];exact aw pj),EF,λz=>R.dom d (R.old d z) nd,0,[],⟨rfl,λi x y h=>by simp at h⟩,bd,λx hx=>by cases hx⟩
 subst e2;obtain⟨O2,R2⟩:=(S'.sub e1).free;exact⟨L,O2,R2⟩
end
section
variable {prog:E1}{w:Fz}{A:FQ}{E:EG→EE→Prop}{s:EE}{it d:ES}{od:Obj}{es:Array PL}{i ep:Nat}
theorem AR{Q:EG->EE->Prop}(hd:(d==Ko)=false)(ho:s.heap.get? d=some od)(hc:od.ExactDict)(Sk:od.data=.dict es ep)
  (hQ:Q (.ref s.heap.objs.size) {s with heap:=s.heap.push {cls:=.type "dict_keyiterator",data:=.fields #[.ref d,.int 0 0,.int es.size 0,.int ep 0] } }):E2 (Fm prog w) A (MV (.ref d)) Q E s:=by
 have tT:s.TypeIs (.ref d) "dict":=⟨od,ho,hc.1⟩;refine JV tT F.slot_dict_iter ?_;refine FP F.slot_dict_iter tT F.entry_dict_iter ?_ (F.args_dict_iter_1 _);unfold Builtin.«dict.__iter__»;refine Ew ?_;unfold Builtin.Dict.dictSlotNone;refine Ew (wpAny_notOrdered_dict tT (Ez ?_));show E2 _ _ (Builtin.Dict.showsAll d >>=_) _ _ _;unfold Builtin.Dict.showsAll;rw[if_neg (by rw[hd];decide)]
 refine Ew (Ez (Ew (Lr ho Sk (Ew (Ot ho Sk (Ew (FZ (Ez ⟨_,rfl,"dict_keyiterator",_,⟨_,EM _ rfl,rfl⟩,F.slot_dict_keyiterator_next.lookup,?_⟩))))))));simpa [Jx] using hQ
theorem pG{Q:Option EG->EE->Prop}(hh:A.handled=none)(kt:s.heap.IsKeyIter it d i es.size ep)(ho:s.heap.get? d=some od)(Sk:od.data=.dict es ep)
  (h1:∀(lt:i<es.size) h',h'.IsKeyIter it d (i+1) es.size ep->HC it s.heap h'->Q (some es[i].key) {s with heap:=h' })
  (h2:es.size<=i->∀h',Qg it s.heap h'->Q none {s with heap:=h' }):E2 (Fm prog w) A (ID (.ref it)) Q E s:=by
 have tT:=kt.typeIs;obtain⟨o,go,gc,gd⟩:=id kt;unfold ID;refine Ew (JA (GN (name:=Str.ofString "__next__") tT F.slot_dict_keyiterator_next (FP F.slot_dict_keyiterator_next tT F.entry_dict_keyiterator_next ?_ (F.args_dict_keyiterator_next_1 _))));refine Ew (Ez (Ew (Ew ?_)));refine Ew (IF tT (Ez (Ew (MY go gd ?_))));rw[show Builtin.Dict_items.ownsTuple "dict_keyiterator"=false by decide]
 simp only[EK,if_false];show E2 _ _ (if (EZ d==Fb)=true then _ else _) _ _ _
 rw[if_neg (show ¬ (EZ d==Fb)=true from nofun)]
 refine Ew (Ez (Ew (Lr ho Sk ?_)));rw[if_neg (by simp)]
 refine Ew (Ez (Ew (Ot ho Sk ?_)));rw[if_neg (by simp)]
 refine Ez ?_;rcases Gy i es.size with lt |ge
 ·simp only[show ¬ ((i:Int)<0) by lia,if_false,G5,F5 lt]
  refine Ew (Ew (IF tT (Ez (Ew (Mp tT ?_)))));show E2 _ _ (setField (.ref it) 1 (Jx ((i:Int)+1)) >>=_) _ _ _;refine Ew (J2 go gd (by simp) ?_)
  have kt':(s.heap.update it (Np (·.setIfInBounds 1 (Jx ((i:Int)+1))))).IsKeyIter it d (i+1) es.size ep:=
   ⟨_,Fp _ go (J9 (Ha gd _)),(Ln ..).trans gc,by rw[Ha gd];simp[Jx]⟩
  refine Ew (FB (Ew (Mp (s:={s with heap:=s.heap.update it (Np (·.setIfInBounds 1 (Jx ((i:Int)+1)))) }) kt'.typeIs ?_)))
  show E2 _ _ (pure es[i].key) _ _ _;exact Ez (Ez ⟨_,rfl,Ez (h1 lt _ kt' (GF ..))⟩)
 ·simp only[show ¬ ((i:Int)<0) by lia,if_false,G5,LZ ge]
  refine Ew (Ew (IF tT (Ez ?_)));show E2 _ _ (setField (.ref it) 0 .none >>=_) _ _ _;refine Ew (J2 go gd (by simp) ?_)
  show E2 _ _ (newExc (.type "StopIteration") [] >>=_) _ _ _;refine Ew ?_;simp only[newExc,Pw];refine Ew (FZ ?_ (by size_fits))
  refine Ew (m:=K5 _ _) (JU (a:=Fb) (by first |rfl | (simp only[K5];rfl)) ?_)
  refine FZ ?_ (by size_fits)
  simp only[raiseNew];refine Ew (wpAny_handled ?_);rw[show A.in1.handled=none from hh]
  refine Ew (Ez (wpAny_throw ?_));refine Ew (GK (T:="StopIteration") (b:=true) ⟨_,EM _ rfl,rfl⟩ K6 ?_);exact Ez (h2 ge _ (((GF ..).extBut.push _).push _))
end
def Itd(hh:K4->Int)(a:ES)(ep n:Nat):It:=
 ⟨λi H=>∃xs x,H a=some (.ext (Sdp hh a ep xs))/\xs.length=n/\xs[i]?=some x,
  λi H v H'=>H'=H/\∀xs,H a=some (.ext (Sdp hh a ep xs))->∃x,xs[i]?=some x/\v=.ref x.2.1,
  λi H=>∃xs,H a=some (.ext (Sdp hh a ep xs))/\xs.length=n/\n<=i⟩
theorem wO{P:E1}{w:Fz}{K:EC}{tg:Expr}{hh:K4->Int}(a it:ES)(ep n:Nat):uF P w K tg (Itd hh a ep n) [it] it (λi h=>h.IsKeyIter it a i n ep) where
 mem:=by simp
 obj:=λi h st b hb=>by
  have e:b=it:=by simpa using hb
  subst e;obtain⟨o,e,c,d⟩:=st;exact⟨o,e,λv z=>by rw[d]at z;cases z⟩
 keep:=λi h h' st k=>st.at λo e=>k it (by simp) o e
 item:=by
  intro X hP hw hK hc i pins s σ H E I hf st hg;subst hP hw hK;obtain⟨xs,x,hq,hl,hx⟩:=hg;obtain⟨⟨_,_,o,es,g1,g2,g3,g4,g5⟩,_⟩:=(show bD X.prog X.w H s.heap a (.ext (Sdp hh a ep xs)) from I.hok a _ hq)
  have hsz:es.size=n:=by rw[<-hl,<-ER,g4,Ex]
  subst hsz;obtain⟨f0,f1,f2,f3,f4,f5⟩:=hf it (by simp)
  refine pG (I.ok.hd hc) st g1 g3 (λlt h' Q6 sb=>?_) λge=>absurd (aw hx) (by lia)
  have I1:Inv X pins σ H {s with heap:=h' }:=I.turned (t':=s.toks) (λb o hb e=>(sb.2 b hb).trans e) f0 f1 f3 f4 f5
  obtain⟨o',e,c,d⟩:=id Q6
  have key:∀ys,H a=some (.ext (Sdp hh a ep ys))->∃y,ys[i]?=some y/\es[i].key=.ref y.2.1:=λys hy=>by
   obtain⟨⟨_,_,o2,es2,k1,k2,k3,k4,_⟩,_⟩:=(show bD X.prog X.w H s.heap a (.ext (Sdp hh a ep ys)) from I.hok a _ hy)
   rw[g1]at k1;cases k1;rw[g3]at k3;cases k3;have q:es.toList[i]?=some es[i]:=by rw[Fy];exact F5 lt
   rw[k4,EI]at q;obtain⟨y,y1,y2⟩:=HK.mp q;exact⟨y,y1,by rw[<-y2]⟩
  obtain⟨y,y1,y2⟩:=key xs hq
  exact⟨_,rfl,oN (s:={s with heap:=h' }) e c d (by decide) ⟨.ref y.2.1,H,I1,y2,⟨rfl,λys hy=>by
   obtain⟨z,z1,z2⟩:=key ys hy;refine⟨z,z1,?_⟩;rw[y2]at z2;exact congrArg V.ref (Value.ref.inj z2)⟩,Q6,λb hb=>(hf b hb).1⟩⟩
 done:=by
  intro X hP hw hK hc i pins s σ H E I hf st hg;subst hP hw hK;obtain⟨xs,hq,hl,hx⟩:=hg;obtain⟨⟨_,_,o,es,g1,g2,g3,g4,g5⟩,_⟩:=(show bD X.prog X.w H s.heap a (.ext (Sdp hh a ep xs)) from I.hok a _ hq)
  have hsz:es.size=n:=by rw[<-hl,<-ER,g4,Ex]
  subst hsz;obtain⟨f0,f1,f2,f3,f4,f5⟩:=hf it (by simp)
  exact pG (I.ok.hd hc) st g1 g3 (λlt=>absurd lt (by lia)) λ_ h' eb=>⟨rfl,I.turned (t':=s.toks) (λb o hb e=>eb b o hb e) f0 f1 f3 f4 f5⟩
 self:=λ_ _ _ _ _ st h=>wpAny_pyIter_keyiter st h
def prU(k:K4):U:=.tup [.tup [.int k.1.1,.int k.1.2],.tup [.int k.2.1,.int k.2.2]]
theorem C8{K:EC}{H:Hp}{b:ES}{k:K4}(h:KPr K H b k):Rp K H (.ref b) (prU k):=by
 obtain⟨p,q,a,b,c⟩:=h;have pt:∀{x:ES}{y:Int×Int},SqT K H x (pV y)->Rp K H (.ref x) (.tup [.int y.1,.int y.2]):=λ{x y} h=>.tup h rfl (Rps.cons (.int _) (Rps.cons (.int _) .nil)).at_
 exact .tup a rfl (Rps.cons (pt b) (Rps.cons (pt c) .nil)).at_
section
variable {X:Cx}{ps:PSt}{o i tg iter:Expr}{hh:K4→Int}{td ty:TE}
theorem CN(ho:PE X iter td):PI X tg iter (λσ H R=>td σ H λx H1=>∃a ep xs,x=.ref a/\H1 a=some (.ext (Sdp hh a ep xs))/\R (Itd hh a ep xs.length) H1):=by
 intro pins s σ H R I h;refine thn (ho pins s σ H _ I h) λv s1 ⟨x,H1,I1,r1,q1⟩=>?_
 obtain⟨a,ep,xs,e,hq,q⟩:=q1;subst e;cases r1;obtain⟨⟨hd,_,o,es,g1,g2,g3,g4,g5⟩,_⟩:=(show bD X.prog X.w H1 s1.heap a (.ext (Sdp hh a ep xs)) from I1.hok a _ hq)
 have hsz:es.size=xs.length:=by rw[<-ER,g4,Ex]
 refine AR hd g1 g2 g3 ?_;refine⟨s1.heap.objs.size,[s1.heap.objs.size],_,_,H1,rfl,I1.kept (t':=s1.toks) λb o e=>EA _ e,wO a _ ep xs.length,⟨_,EM _ rfl,rfl,by rw[hsz];rfl⟩,λb hb=>?_,q⟩
 have e:b=s1.heap.objs.size:=by simpa using hb
 subst e;exact I1.fpOk (EL _) (I1.hok.fresh (EL _))
theorem DQ(he:Ev X H0 O0 ps iter (.ty (.dp hh Qt))):EvI X H0 O0 ps tg iter (Qt.map λy=>prU y.1):=
 PI.mono (CN (hh:=hh) he) λσ H Q ⟨O,R,q⟩=>⟨O,R,λv H' s r=>by
  cases r with
  | @dp a _ ep xs _ hq hk hv=>
   refine⟨a,ep,xs,rfl,ao _ _ hq,q _ H' s λH2 s2=>⟨λi hi=>?_,xs,s2 _ _ hq,rfl,by rw[hv.1,Ex];exact EL _⟩⟩
   rw[Ex]at hi;have QI:i<xs.length:=by rw[hv.1];exact hi
   refine⟨⟨xs,xs[i],s2 _ _ hq,rfl,Ey QI⟩,λz H3 y=>⟨y.1,prU Qt[i].1,by rw[EI,Ey hi];rfl,?_⟩⟩
   obtain⟨x,x1,rfl⟩:=y.2 xs (s2 _ _ hq);rw[<-(hv.2 i x Qt[i] x1 (Ey hi)).1];exact C8 (hk x (EV x1))⟩
theorem zZ{n:Int}{k:K4}(hu:X.A.units+2<GU)(ho:Ev X H0 O0 ps o (.ty (.dp (ST2.hsq X.prog X.w) Qt)))(hi:Ev X H0 O0 ps i (prU k))(hn:cntK Qt k=n)(hm:Qt.any (λx=>decide (x.1=k))=true)(hs:Dr i:=by intro _ _;rfl):
  Ev X H0 O0 ps (.Subscript o i pos) (.int n):=by
 have key:∀{to ti:TE},PE X o to->PE X i ti->PE X (.Subscript o i pos) (λσ H Q=>to σ H λx H1=>ti σ H1 λy H2=>∃a ep xs b Qt k,x=.ref a/\y=.ref b/\H2 a=some (.ext (Sdp (ST2.hsq X.prog X.w) a ep xs))/\KPr X.K H2 b k/\(∀x∈xs,KPr X.K H2 x.2.1 x.1)/\b7 xs Qt/\Qt.any (λx=>decide (x.1=k))=true/\Q (.int (cntK Qt k)) H2):=λ{to ti} h1 h2=>by
  intro pins s σ H Q I h;refine AG PySem.F.slot_dict_getitem.lookup hs (thn (h1 pins s σ H _ I h) λu s1 ⟨x,H1,I1,rx,q1⟩=>thn (h2 pins s1 σ H1 _ I1 q1) λiv s2 ⟨y,H2,I2,ry,a,ep,xs,b,Qt,k,ex,ey,ea,eb,ky,en,hm,q2⟩=>?_)
  subst ex ey;obtain rfl:u=EZ a:=rx;obtain rfl:iv=EZ b:=ry;obtain⟨hd,hz,dd⟩:=kg I2 ea ky;refine⟨dd.typeIs,?_⟩;rcases en.find (k:=k) with ⟨_,z,_⟩ |⟨b',t',h1,_⟩
  ·rw[z]at hm;cases hm
  ·exact wpAny_getItem_heap hu (jj I2 eb) dd h1 ⟨.int (cntK Qt k),H2,I2.tok _,⟨t',rfl⟩,q2⟩
 refine PE.mono (key ho hi) λσ H Q ⟨O,R,q⟩=>⟨O,R,λv H1 s1 r1=>⟨O,R.go s1,λw H2 s2 r2=>?_⟩⟩
 obtain⟨b,rfl,kb⟩:=A6 (a:=k.1) (b:=k.2) r2;cases r1.same (aT s2) with
 | @dp a _ ep xs _ hq hk hv=>
  exact⟨a,ep,xs,b,Qt,k,rfl,rfl,ao _ _ hq,kb.same ao,λx hx=>(hk x hx).same ao,hv,hm,by rw[hn];exact q _ H2 (s1.trans s2) (.int _)⟩
theorem zl{prog:E1}{w:Fz}{A:FQ}{E:EG->EE->Prop}{s:EE}{d:ES}{od:Obj}{es:Array PL}{ep:Nat}{Q:EG->EE->Prop}(hd:(d==Ko)=false)(ho:s.heap.get? d=some od)(hc:od.ExactDict)(Sk:od.data=.dict es ep)(hz:es.size<=sizeLine)
  (h:Q (.int es.size (s.toks+1)) {s with toks:=s.toks+1+1 }):E2 (Fm prog w) A (call (.builtin "len") [.ref d]) Q E s:=by
 have hz:(es.size:Int)<2 ^ 63:=by rw[F3]at hz;lia
 have tT:s.TypeIs (.ref d) "dict":=⟨od,ho,hc.1⟩;refine K9 kind_len plain_len entry_len (args_len1 _) ?_;unfold Builtin.«len»;refine Ew (m:=oneArg "len" _) (Ez (Ew (m:=callSpecial? (.ref d) (Str.ofString "__len__")) (GN (name:=Str.ofString "__len__") tT F.slot_dict_len (FP F.slot_dict_len tT F.entry_dict_len ?_ (F.args_dict_len_1 _)))));show E2 _ _ (dictSize d >>=_) _ _ _;unfold dictSize;refine Ew (Ew (Lr ho Sk (Ez ?_)));show E2 _ _ (Builtin.Dict.pendingCount d >>=_) _ _ _;refine Ew (wpAny_pendingCount_other hd (Os ?_));rw[show ((es.size:Int)+((0:Nat):Int))=es.size by lia]
 refine Ew (FB (Ez (Ew (Ia ?_))));show E2 _ _ (if (es.size:Int)<0 then _ else _) _ _ _
 rw[if_neg (by lia)]
 show E2 _ _ (if (es.size:Int) ≥ 2 ^ 63 then _ else _) _ _ _
 rw[if_neg (by lia)]
 exact Ew (wpAny_mkInt (Ez ⟨_,rfl,h⟩))
theorem CV:dr X (.builtin "len") [.ty (.dp hh Qt)] (.int Qt.length):=by
 intro pins s σ H vs us Q I r hq;obtain⟨O,d,rs,q⟩:=hq;obtain⟨v,rfl,h⟩:=bQ rs;cases h with
 | @dp a _ ep xs _ hq hk hv=>
  obtain⟨u,rfl,ru⟩:=c9 r;obtain rfl:u=EZ a:=ru;obtain⟨⟨hd,hz,o,es,g1,g2,g3,g4,g5⟩,_⟩:=(show bD X.prog X.w H s.heap a (.ext (Sdp hh a ep xs)) from I.hok a _ (ao _ _ hq))
  have hsz:es.size=Qt.length:=by rw[<-hv.1,<-ER,g4,Ex]
  exact zl hd g1 g2 g3 (by rw[hsz,<-hv.1];exact hz) ⟨.int Qt.length,H,I.tok _,⟨_,by rw[hsz]⟩,q _ H (.refl H) (.int _)⟩
end
theorem nd_lenL{α:Type}[DecidableEq α]:∀{l m:List α},l.Nodup->(∀x∈l,x∈m)->l.length<=m.length
 |[],m,_,_=>FH _
 |a::l,m,h,s=>by
  obtain⟨h1,h2⟩:=Gh.mp h;have hm:=s a (by simp)
  have e:=nd_lenL (l:=l) (m:=m.erase a) h2 λx hx=>(Kj (a:=x) (b:=a) (λz=>h1 (by rw[<-z];exact hx))).mpr (s x (EB _ hx))
  rw[Jw hm]at e;have:=F_ hm;rw[E9];lia
section
variable {X:Cx}{ps:PSt}{pts:List P2}{QF p p':Pos}
theorem fB(hc:X.calm=true)(hu:X.A.units+10<GU)(hg:Gl X "sorted")(hm:X.mg "sorted"=none)(hgs:Gl X "set")(Tr:X.mg "set"=none)(ha:Ev X H0 O0 ps e (lp pts))(QL:pts.length<1000∧(ST.srt pts).length<64)
  (he:EO [e] X.env=(false,Io e X.env)::EO [] X.env:=by rfl):EvN X H0 O0 ps (.Call (.Name "sorted" p) [.Call (.Name "set" p') [e] [] QF] [] pos) ((ST.srt pts).map pu):=by
 obtain⟨hl,h64⟩:=QL;rintro pins s σ H Q I ⟨O,R,q⟩;have hh:X.A.handled=none:=I.ok.hd hc;refine F0 (cg I hg hm boot_sorted ?_);refine callWith_builtin1 (e:=.Call (.Name "set" p') [e] [] QF) (rest:=[]) ?_ rfl rfl;show E2 _ _ (Nw ((false,Io (.Call (.Name "set" p') [e] [] QF) X.env)::Ie pos (EO [] X.env))) _ _ s;refine G8 ?_;refine F0 (cg I hgs Tr jN ?_);refine callWith_type1 (thn (cI ha eI he QF pins s σ H (λvs H1=>∃v,vs=[v]/\aI H H1/\Rp X.K (hid H1 O) v (lp pts)) I ⟨O,R,λv H1 s1 r1=>⟨v,rfl,s1,r1⟩⟩) λus s1 hx=>?_) he rfl
 obtain⟨vs,H1,I1,rv,v,rfl,sm,rp⟩:=hx;obtain⟨u,rfl,ru⟩:=c9 rv;cases rp with
 | @lst a ws _ hq S1 hwi=>
  cases ru;obtain⟨Qs,RK,pl,hz⟩:=I1.list (SqL.of (ao _ _ hq));have hlp:ws.length=pts.length:=by rw[S1,Ex]
  have TJ:Qs.length=pts.length:=by rw[<-RK.length,hlp]
  have item:∀i,i<pts.length->∃b,Qs[i]?=some (.ref b)/\Rp X.K (hid H1 O) (.ref b) (pu (pts.getD i (0,0)))/\ST.TK X.prog X.w s1.heap [(pts.getD i (0,0)).1,(pts.getD i (0,0)).2] b:=λi hi=>by
   have hw:ws[i]?=some ws[i]:=Ey (by lia)
   have hp:(pts.map pu)[i]?=some (pu (pts.getD i (0,0))):=by rw[EI,Ey hi];simp[hi]
   have r:=hwi i _ _ hw hp;obtain⟨u',e1,e2⟩:=RK.get hw;generalize ws[i]=z at *;cases r with
   | @tup b zs _ hs Sw hsi=>
    cases e2;refine⟨b,e1,Rp.tup hs Sw hsi,?_⟩;obtain⟨jts,rj,ht,_⟩:=I1.tuple (by exact ao.tup hs)
    have z0:zs.length=2:=Sw
    match zs,z0,hsi,rj with
    |[z1,z2],_,hsi,rj=>
     have q1:=hsi 0 z1 _ rfl rfl;have q2:=hsi 1 z2 _ rfl rfl;cases q1;cases q2;obtain⟨u1,u2,rfl,r1,r2⟩:=fY rj;obtain⟨t1,rfl⟩:=r1;obtain⟨t2,rfl⟩:=r2;obtain⟨o,ho,Sq,n,Tq⟩:=ht;exact⟨o,_,n,ho,Sq,Tq,.cons (GO _ _ _ _) (.cons (GO _ _ _ _) .nil)⟩
  obtain⟨Rx,R0⟩:=Ep item;have hsz:Qs.toArray.size=pts.length:=by simp[TJ]
  refine ST.call_set_pts (λi=>([(pts.getD i (0,0)).1,(pts.getD i (0,0)).2],Rx i)) hh (by show X.A.units+1+1+1<GU;lia) pl.isList (λi z ez=>?_) (λi hi=>?_) (by rw[hsz];lia) λh2 tk kb sp SK keep=>?_
  ·have hi:i<pts.length:=by have:=aw (show Qs[i]?=some z by simpa using ez);lia
   have:=(R0 i hi).1;rw[show Qs.toArray[i]?=Qs[i]? by simp,this]at ez
   cases ez;rfl
  ·exact (R0 i (by rw[hsz]at hi;exact hi)).2.2
  ·rw[hsz]at SK;have I2:Inv X pins σ H1 {s1 with heap:=h2,toks:=tk }:=I1.kept (t':=tk) keep
   refine HF ?_
   have hkl:kb.length<64:=by
    have knd:(kb.map (·.1)).Nodup:=by obtain⟨_,_,z⟩:=id sp;exact z
    have:=nd_lenL knd (m:=(ST.srt pts).map λp=>[p.1,p.2]) λx hx=>by
     obtain⟨z,hz,rfl⟩:=ED.mp hx;obtain⟨j,hj,rfl⟩:=SK.src z hz;refine ED.mpr ⟨pts.getD j (0,0),(ST.srt_mem _ _).mpr ?_,rfl⟩;rw[E4,Ey hj];exact Jk hj
    rw[Ex,Ex]at this;lia
   refine ST.call_sorted_set (s:={s1 with heap:=h2,toks:=tk }) hh sp hkl (λz hz=>by obtain⟨j,_,rfl⟩:=SK.src z hz;rfl) λh3 h4 tk2 pb ep pm so k1 k2 hD=>?_
   have I3:Inv X pins σ H1 {s1 with heap:=h3,toks:=tk2 }:=I2.kept (t':=tk2) k1
   have src:∀z∈pb,∃j,j<pts.length/\z=(pts.getD j (0,0),Rx j):=λz hz=>by
    obtain⟨y,hy,rfl⟩:=ED.mp (pm.mem_iff.mp hz);obtain⟨j,hj,rfl⟩:=SK.src y hy;exact⟨j,hj,rfl⟩
   have epts:pb.map (·.1)=ST.srt pts:=by
    refine ST.asc_one so (ST.srt_asc pts) λz=>?_
    rw[ST.srt_mem];constructor
    ·intro hz;obtain⟨y,hy,rfl⟩:=ED.mp hz;obtain⟨j,hj,rfl⟩:=src y hy;simp[hj]
    ·intro hz;obtain⟨j,hj⟩:=FO.mp hz;have hjl:=aw hj;have hk:=SK.all j hjl;obtain⟨y,hy,ey⟩:=ED.mp hk;have RZ:((y.1.getD 0 0,y.1.getD 1 0),y.2)∈ST.ptsOf kb:=ED.mpr ⟨y,hy,rfl⟩;have hin':=pm.mem_iff.mpr RZ;refine ED.mpr ⟨_,hin',?_⟩;rw[ey];have:pts.getD j (0,0)=z:=by rw[E4,hj];rfl
     show ((pts.getD j (0,0)).1,(pts.getD j (0,0)).2)=z;rw[this]
   have fr:H1 h3.objs.size=none:=I3.hok.fresh (EL _);refine⟨.ref h3.objs.size,upd H1 h3.objs.size (.lst (pb.map λz=>V.ref z.2)),?_,rfl,?_⟩
   ·refine I3.laid (t':=tk2) k2 (EL _) ⟨?_,(ST.refs pb),ep,?_,hD⟩
    ·rw[Ex,<-Ex (f:=(·.1)),epts,F3];have:=ST.srt_len pts;lia
    ·have all:∀l:ST.PB,aO (l.map λz=>V.ref z.2) (ST.refs l):=λl=>by
      induction l with
      |nil=>exact .nil
      |cons z r ih=>exact .cons rfl ih
     exact all pb
   ·refine q _ _ _ (sm.trans (aL fr _)) (sm.free fr) aJ ⟨?_,λi z x e1 e2=>?_⟩
    ·rw[Ex,<-epts,Ex,Ex]
    ·rw[<-epts,Fn,EI]at e2;rw[EI]at e1;cases hpi:pb[i]? with
     |none=>rw[hpi]at e1;cases e1
     |some y=>
      rw[hpi]at e1 e2;cases e1;cases e2;obtain⟨j,hj,rfl⟩:=src y (EV hpi);exact (R0 j hj).2.1.same (bu (aL fr _) fr)
end
theorem nT{pts:List P2}(h:pts.length<64):pts.length<1000/\(ST.srt pts).length<64:=⟨by lia,HS (ST.srt_len pts) h⟩
end L2
namespace ST
open PySem PySem.Calls
section
variable {prog:E1}{w:Fz}{A:FQ}{E:EG→EE→Prop}{s:EE}
theorem call_min2G{a b:EG}{G:GS->Prop}{bt:Nat->Nat->Bool}{Q:EG->EE->Prop}(hh:A.handled=none)(hc:o_ prog w A.in1 .Lt G (λi v=>#[a,b][i]?=some v) bt)
  (g:G s.heap) (stay:∀h h':GS,G h->(∀b o,s.heap.get? b=some o->h.get? b=some o)->(∀b o,s.heap.get? b=some o->h'.get? b=some o)->G h')
  (hQ:∀v h' tk,#[a,b][Gc bt 1]?=some v→(∀b o,s.heap.get? b=some o→h'.get? b=some o)→Q v {s with heap:=h',toks:=tk }):E2 (Fm prog w) A (call (.builtin "min") [a,b]) Q E s:=by
 refine JC N3 NF NG (PySem.F.args_min2 _ _) ?_;show E2 _ _ (Builtin.Builtins.bindParams "min" ["key","default"] 0 ⟨[],[]⟩ >>=_) _ _ _;refine Ew (JU (a:=[none,none]) rfl ?_);show E2 _ _ (Pw [a,b] >>=_) _ _ _;refine Ew (FZ ?_);have ht:(s.heap.push {cls:=.type "tuple",data:=.seq #[a,b] }).IsTuple s.heap.objs.size #[a,b]:=⟨_,EM _ rfl,rfl,_,rfl⟩;have sz:(s.heap.push {cls:=.type "tuple",data:=.seq #[a,b] }).objs.size=s.heap.objs.size+1:=Ga ..;have up0:∀c o,s.heap.get? c=some o→(s.heap.push {cls:=.type "tuple",data:=.seq #[a,b] }).get? c=some o:=λc o e=>EA _ e
 generalize s.heap.push {cls:=.type "tuple",data:=.seq #[a,b] }=h1 at *;refine Ew (KF ht (Ew (FZ ?_)));have W:=Walks.tuple (prog:=prog) (w:=w) (A:=A.in1) hh h1.objs.size s.heap.objs.size (Fe (by rw[sz];exact F8 _)) #[a,b]
 have sI:(h1.push {cls:=.type "tuple_iterator",data:=.fields #[.ref s.heap.objs.size,.int 0 0] }).objs.size=h1.objs.size+1:=Ga ..;have up:∀b o,s.heap.get? b=some o→((h1.push {cls:=.type "tuple_iterator",data:=.fields #[.ref s.heap.objs.size,.int 0 0] }).push {cls:=.type "list",data:=.seq #[] }).get? b=some o:=λb o e=>EA _ (EA _ (up0 b o e))
 have lt:∀b o,s.heap.get? b=some o→b ∉ [h1.objs.size]∧b≠(h1.push {cls:=.type "tuple_iterator",data:=.fields #[.ref s.heap.objs.size,.int 0 0] }).objs.size:=λb o e=>by
  have h:=EN e;refine⟨λz=>?_,λz=>?_⟩
  ·rw[EJ.mp z,sz]at h;exact Fl _ (Hk h)
  ·rw[z,sI,sz]at h;exact Fl _ (Hk (Hk h))
 rw[show (Iz "min"++Iz ".loop":String)="min.loop" by decide]
 refine Ez ⟨Gk Gz _,kG (G:=λh=>G h/\∀b o,s.heap.get? b=some o->h.get? b=some o) W (λi j vi vj s' Q' E' g'=>hc i j vi vj s' Q' E' g'.1) (λh h' g' kp=>?_) (λz=>?_) Qi ⟨stay _ _ g (λ_ _ e=>e) up,up⟩ ⟨⟨_,EA _ (EM _ rfl),rfl,rfl⟩,(ht.push _).push _⟩ (EM _ rfl) λv h' tk pv kp=>?_⟩
 ·have k2:∀b o,s.heap.get? b=some o->h'.get? b=some o:=λb o e=>kp b o (lt b o e).1 (lt b o e).2 (g'.2 b o e)
  exact⟨stay _ _ g'.1 g'.2 k2,k2⟩
 ·rcases EH.mp z with z |z
  ·rw[sI]at z;exact Kg _ z
  ·have e:=EJ.mp z;rw[sI,sz]at e;exact (show ¬ (s.heap.objs.size+1+1:Nat)=s.heap.objs.size by lia) e
 ·exact hQ v h' tk pv λb o e=>kp b o (lt b o e).1 (lt b o e).2 (up b o e)
theorem call_max2G{a b:EG}{G:GS->Prop}{bt:Nat->Nat->Bool}{Q:EG->EE->Prop}(hh:A.handled=none)(hc:o_ prog w A.in1 .Gt G (λi v=>#[a,b][i]?=some v) bt)
  (g:G s.heap) (stay:∀h h':GS,G h->(∀b o,s.heap.get? b=some o->h.get? b=some o)->(∀b o,s.heap.get? b=some o->h'.get? b=some o)->G h')
  (hQ:∀v h' tk,#[a,b][Gc bt 1]?=some v→(∀b o,s.heap.get? b=some o→h'.get? b=some o)→Q v {s with heap:=h',toks:=tk }):E2 (Fm prog w) A (call (.builtin "max") [a,b]) Q E s:=by
 refine JC N5 NH NI (PySem.F.args_max2 _ _) ?_;show E2 _ _ (Builtin.Builtins.bindParams "max" ["key","default"] 0 ⟨[],[]⟩ >>=_) _ _ _;refine Ew (JU (a:=[none,none]) rfl ?_);show E2 _ _ (Pw [a,b] >>=_) _ _ _;refine Ew (FZ ?_);have ht:(s.heap.push {cls:=.type "tuple",data:=.seq #[a,b] }).IsTuple s.heap.objs.size #[a,b]:=⟨_,EM _ rfl,rfl,_,rfl⟩;have sz:(s.heap.push {cls:=.type "tuple",data:=.seq #[a,b] }).objs.size=s.heap.objs.size+1:=Ga ..;have up0:∀c o,s.heap.get? c=some o→(s.heap.push {cls:=.type "tuple",data:=.seq #[a,b] }).get? c=some o:=λc o e=>EA _ e
 generalize s.heap.push {cls:=.type "tuple",data:=.seq #[a,b] }=h1 at *;refine Ew (KF ht (Ew (FZ ?_)));have W:=Walks.tuple (prog:=prog) (w:=w) (A:=A.in1) hh h1.objs.size s.heap.objs.size (Fe (by rw[sz];exact F8 _)) #[a,b]
 have sI:(h1.push {cls:=.type "tuple_iterator",data:=.fields #[.ref s.heap.objs.size,.int 0 0] }).objs.size=h1.objs.size+1:=Ga ..;have up:∀b o,s.heap.get? b=some o→((h1.push {cls:=.type "tuple_iterator",data:=.fields #[.ref s.heap.objs.size,.int 0 0] }).push {cls:=.type "list",data:=.seq #[] }).get? b=some o:=λb o e=>EA _ (EA _ (up0 b o e))
 have lt:∀b o,s.heap.get? b=some o→b ∉ [h1.objs.size]∧b≠(h1.push {cls:=.type "tuple_iterator",data:=.fields #[.ref s.heap.objs.size,.int 0 0] }).objs.size:=λb o e=>by
  have h:=EN e;refine⟨λz=>?_,λz=>?_⟩
  ·rw[EJ.mp z,sz]at h;exact Fl _ (Hk h)
  ·rw[z,sI,sz]at h;exact Fl _ (Hk (Hk h))
 rw[show (Iz "max"++Iz ".loop":String)="max.loop" by decide]
 refine Ez ⟨Gk GA _,kT (G:=λh=>G h/\∀b o,s.heap.get? b=some o->h.get? b=some o) W (λi j vi vj s' Q' E' g'=>hc i j vi vj s' Q' E' g'.1) (λh h' g' kp=>?_) (λz=>?_) Qi ⟨stay _ _ g (λ_ _ e=>e) up,up⟩ ⟨⟨_,EA _ (EM _ rfl),rfl,rfl⟩,(ht.push _).push _⟩ (EM _ rfl) λv h' tk pv kp=>?_⟩
 ·have k2:∀b o,s.heap.get? b=some o->h'.get? b=some o:=λb o e=>kp b o (lt b o e).1 (lt b o e).2 (g'.2 b o e)
  exact⟨stay _ _ g'.1 g'.2 k2,k2⟩
 ·rcases EH.mp z with z |z
  ·rw[sI]at z;exact Kg _ z
  ·have e:=EJ.mp z;rw[sI,sz]at e;exact (show ¬ (s.heap.objs.size+1+1:Nat)=s.heap.objs.size by lia) e
 ·exact hQ v h' tk pv λb o e=>kp b o (lt b o e).1 (lt b o e).2 (up b o e)
end
end ST
namespace L2
open PySem PySem.Spec PyProof.Rows
section
variable {X:Cx}
theorem AX{a b:P2}(hc:X.calm=true)(hu:X.A.units+10<GU):dr X (.builtin "min") [pu a,pu b] (pu (if ST.ltP b a=true then b else a)):=by
 intro pins s σ H vs us Q I r hq;obtain⟨O,d,rs,q⟩:=hq;obtain⟨v1,v2,rfl,h1,h2⟩:=eS rs;obtain⟨y1,y2,rfl,r1,r2⟩:=fY r;obtain⟨c1,rfl,t1⟩:=eF I (h1.same ao) r1;obtain⟨c2,rfl,t2⟩:=eF I (h2.same ao) r2;refine ST.call_min2G (G:=λh=>ST.TK X.prog X.w h [a.1,a.2] c1/\ST.TK X.prog X.w h [b.1,b.2] c2) (bt:=λi j=>ST.ltP (if i=0 then a else b) (if j=0 then a else b)) (I.ok.hd hc) (λi j vi vj s' Q' E' g hi hj k=>?_) ⟨t1 _ _,t2 _ _⟩ (λh h' _ _ k=>?_) λv h' tk hv kp=>?_
 ·match i,j,hi,hj with
  |0,0,hi,hj=>cases hi;cases hj;exact ST.lt_ptsR (show X.A.units+1<GU by lia) g.1 g.1 k
  |0,1,hi,hj=>cases hi;cases hj;exact ST.lt_ptsR (show X.A.units+1<GU by lia) g.1 g.2 k
  |1,0,hi,hj=>cases hi;cases hj;exact ST.lt_ptsR (show X.A.units+1<GU by lia) g.2 g.1 k
  |1,1,hi,hj=>cases hi;cases hj;exact ST.lt_ptsR (show X.A.units+1<GU by lia) g.2 g.2 k
  |i+2,_,hi,_=>simp at hi
  |_,j+2,_,hj=>simp at hj
 ·obtain⟨o,it,n,ho,z⟩:=t1 X.prog X.w;obtain⟨o',it',n',RG,z'⟩:=t2 X.prog X.w;exact⟨⟨o,it,n,k c1 o ho,z⟩,o',it',n',k c2 o' RG,z'⟩
 ·cases e:ST.ltP b a with
  |true=>
   have eb:Gc (λi j=>ST.ltP (if i=0 then a else b) (if j=0 then a else b)) 1=1:=by simp[Gc,e]
   rw[eb]at hv;cases hv;exact⟨v2,H,I.kept (t':=tk) kp,r2,q _ H (.refl H) (by rw[if_pos e];exact h2)⟩
  |false=>
   have eb:Gc (λi j=>ST.ltP (if i=0 then a else b) (if j=0 then a else b)) 1=0:=by simp[Gc,e]
   rw[eb]at hv;cases hv;exact⟨v1,H,I.kept (t':=tk) kp,r1,q _ H (.refl H) (by rw[if_neg (by rw[e];decide)];exact h1)⟩
theorem zI{a b:P2}(hc:X.calm=true)(hu:X.A.units+10<GU):dr X (.builtin "max") [pu a,pu b] (pu (if ST.ltP a b=true then b else a)):=by
 intro pins s σ H vs us Q I r hq;obtain⟨O,d,rs,q⟩:=hq;obtain⟨v1,v2,rfl,h1,h2⟩:=eS rs;obtain⟨y1,y2,rfl,r1,r2⟩:=fY r;obtain⟨c1,rfl,t1⟩:=eF I (h1.same ao) r1;obtain⟨c2,rfl,t2⟩:=eF I (h2.same ao) r2;refine ST.call_max2G (G:=λh=>ST.TK X.prog X.w h [a.1,a.2] c1/\ST.TK X.prog X.w h [b.1,b.2] c2) (bt:=λi j=>ST.ltP (if j=0 then a else b) (if i=0 then a else b)) (I.ok.hd hc) (λi j vi vj s' Q' E' g hi hj k=>?_) ⟨t1 _ _,t2 _ _⟩ (λh h' _ _ k=>?_) λv h' tk hv kp=>?_
 ·match i,j,hi,hj with
  |0,0,hi,hj=>cases hi;cases hj;exact ST.gt_ptsR (show X.A.units+1<GU by lia) g.1 g.1 k
  |0,1,hi,hj=>cases hi;cases hj;exact ST.gt_ptsR (show X.A.units+1<GU by lia) g.1 g.2 k
  |1,0,hi,hj=>cases hi;cases hj;exact ST.gt_ptsR (show X.A.units+1<GU by lia) g.2 g.1 k
  |1,1,hi,hj=>cases hi;cases hj;exact ST.gt_ptsR (show X.A.units+1<GU by lia) g.2 g.2 k
  |i+2,_,hi,_=>simp at hi
  |_,j+2,_,hj=>simp at hj
 ·obtain⟨o,it,n,ho,z⟩:=t1 X.prog X.w;obtain⟨o',it',n',RG,z'⟩:=t2 X.prog X.w;exact⟨⟨o,it,n,k c1 o ho,z⟩,o',it',n',k c2 o' RG,z'⟩
 ·cases e:ST.ltP a b with
  |true=>
   have eb:Gc (λi j=>ST.ltP (if j=0 then a else b) (if i=0 then a else b)) 1=1:=by simp[Gc,e]
   rw[eb]at hv;cases hv;exact⟨v2,H,I.kept (t':=tk) kp,r2,q _ H (.refl H) (by rw[if_pos e];exact h2)⟩
  |false=>
   have eb:Gc (λi j=>ST.ltP (if j=0 then a else b) (if i=0 then a else b)) 1=0:=by simp[Gc,e]
   rw[eb]at hv;cases hv;exact⟨v1,H,I.kept (t':=tk) kp,r1,q _ H (.refl H) (by rw[if_neg (by rw[e];decide)];exact h1)⟩
end
end L2
local macro_rules | `(tactic|walk_at"sz")=>`(tactic|first |with_reducible assumption | ((with_reducible apply L2.Sz.sub') <;>walk_at"sz") | ((with_reducible apply L2.Sz.add') <;>walk_at"sz") | ((with_reducible apply L2.Sz.mul) <;>walk_at"sz") | ((with_reducible apply L2.Sz.neg) <;>walk_at"sz") | ((with_reducible apply L2.Sz.ediv) <;>walk_at"sz") | ((with_reducible apply L2.Sz.abs) <;>walk_at"sz") |exact L2.Sz.lit (m:=8) (by decide) |exact L2.Sz.emod (m:=250) (by decide) (by decide) |exact L2.Sz.lit (m:=250) (by decide))
local macro_rules | `(tactic|walk_at"mul")=>`(tactic|exact L2.Sz.ok (by walk_at"sz") (by walk_at"sz") (by decide))
local macro_rules | `(tactic|walk_at"div")=>`(tactic|first |exact⟨by decide,L2.Sz.mono (m:=250) (by decide) (by decide)⟩ |exact⟨by lia,L2.Sz.mono (by walk_at"sz") (by decide)⟩)
local macro_rules | `(tactic|walk_at"mod")=>`(tactic|first |decide |lia)
local macro_rules | `(tactic|walk_at"szb")=>`(tactic|exact L2.Sz.mono (by walk_at"sz") (by decide))
local macro_rules | `(tactic|walk_at"kit")=>`(tactic|first |exact L2.kit_int_int _ |exact L2.kit_int_bool _ |exact L2.kit_tuple_tuple _ |exact L2.kit_list_list _ |exact L2.kit_bool_int _ |exact L2.kit_list_tuple _ |rfl)
local macro_rules | `(tactic|walk_at"ok")=>`(tactic|first |rfl |decide)
local macro_rules | `(tactic|walk_at"sub")=>`(tactic|first |exact trivial | (refine⟨rfl,?_⟩;walk_at"sub") | (with_reducible apply L2.SubP.skip;walk_at"sub"))
local macro_rules | `(tactic|walk_at"len")=>`(tactic|first |decide | (simp only[List.length_append,List.length_cons,List.length_nil,List.length_map];decide))
namespace My
open PySem PySem.Spec PyProof.Rows L2
def top(i:Nat):HL:=PySem.Challenge.pw_stakefield_k29_whole_faces_tell_counts.main.body.getD i (.Pass ⟨0,0,0,0⟩)
abbrev kH:HL:=top 7
abbrev xK:HL:=top 8
abbrev pA:HL:=top 9
abbrev xG:HL:=top 11
abbrev iG:HL:=top 12
abbrev i3:HL:=top 13
abbrev o8:HL:=top 14
abbrev tR:HL:=top 15
abbrev kX:HL:=top 16
abbrev rY:HL:=top 17
abbrev sY:HL:=top 18
abbrev yk:HL:=top 20
abbrev im:HL:=top 21
abbrev t_:HL:=top 22
abbrev r8:HL:=top 23
abbrev e9:HL:=top 24
abbrev yL:HL:=top 25
abbrev eX:HL:=top 26
abbrev qE:HL:=top 28
abbrev j9:HL:=top 30
abbrev iY:HL:=top 31
abbrev bv:HL:=top 32
abbrev eR:HL:=top 33
abbrev kq:HL:=top 36
abbrev gC:HL:=top 37
abbrev oY:HL:=top 38
abbrev l9:HL:=top 39
abbrev pf:HL:=top 40
abbrev jm:HL:=top 41
abbrev gu:HL:=top 43
abbrev ip:HL:=top 44
abbrev fT:HL:=top 45
abbrev h9:HL:=top 46
abbrev f8:HL:=top 47
abbrev i_:HL:=top 48
abbrev jF:HL:=top 49
abbrev f6:HL:=top 50
abbrev i5:HL:=top 51
abbrev gK:HL:=top 52
abbrev lP:HL:=top 53
abbrev ic:HL:=top 54
abbrev i6:HL:=top 55
abbrev Bg:HL:=top 56
theorem qj:au ["thing"] ["thing"] (aj kH):=by walk_at"sC"
theorem AL:au ["number"] ["number"] (aj xK):=by walk_at"sC"
theorem bA:au ["a","b","high","high_times","low","low_times","fits","rest","rest_times","s"] ["a","b"] (aj pA):=by walk_at"sC"
theorem A4:au ["move"] ["move"] (aj xG):=by walk_at"sC"
theorem jM:au ["thing","number"] ["thing"] (aj iG):=by walk_at"sC"
theorem oh:au ["thing"] ["thing"] (aj i3):=by walk_at"sC"
theorem vy:au ["P","move"] ["P","move"] (aj o8):=by walk_at"sC"
theorem oU:au ["P","move","place"] ["P","move"] (aj tR):=by walk_at"sC"
theorem cT:au ["move","side","a","b","c","d"] ["move"] (aj kX):=by walk_at"sC"
theorem xz:au ["P","Q"] ["P","Q"] (aj rY):=by walk_at"sC"
theorem eG:au ["P","Q","far","u","v","parts","s","t"] ["P","Q"] (aj sY):=by walk_at"sC"
theorem zH:au ["P","Q","R"] ["P","Q","R"] (aj yk):=by walk_at"sC"
theorem eV:au ["row","kept","P"] ["row"] (aj im):=by walk_at"sC"
theorem f9:au ["points","row","there","back"] ["points"] (aj t_):=by walk_at"sC"
theorem xn:au ["land"] ["land"] (aj r8):=by walk_at"sC"
theorem ef:au ["land","A","B"] ["land"] (aj e9):=by walk_at"sC"
theorem rL:au ["land","A","B"] ["land"] (aj yL):=by walk_at"sC"
theorem gv:au ["land","move","P"] ["land","move"] (aj eX):=by walk_at"sC"
theorem sA:au ["land","k","P"] ["land","k"] (aj qE):=by walk_at"sC"
theorem pB:au ["land","k"] ["land","k"] (aj j9):=by walk_at"sC"
theorem nF:au ["land"] ["land"] (aj iY):=by walk_at"sC"
theorem kE:au ["land","k"] ["land","k"] (aj bv):=by walk_at"sC"
theorem oA:au ["land","k","many"] ["land","k"] (aj eR):=by walk_at"sC"
theorem cx:au ["land","y","begins","ends","A","B","rise","run"] ["land","y"] (aj kq):=by walk_at"sC"
theorem bR:au ["land","move","levelled","back","found","y","ends","x","P"] ["land"] (aj gC):=by walk_at"sC"
theorem vM:au ["land"] ["land"] (aj oY):=by walk_at"sC"
theorem fq:au ["row","hand","kept","cut","P"] ["row","hand"] (aj l9):=by walk_at"sC"
theorem mh:au ["land","row"] ["land"] (aj pf):=by walk_at"sC"
theorem dI:au ["some","points","pairs","piece","P","Q","triangles"] ["some"] (aj jm):=by walk_at"sC"
theorem jf:au ["script","k"] ["script","k"] (aj gu):=by walk_at"sC"
theorem k7:au ["found"] ["found"] (aj ip):=by walk_at"sC"
theorem iS:au ["found"] ["found"] (aj fT):=by walk_at"sC"
theorem gP:au ["one","two","three","made"] ["one","two","three"] (aj h9):=by walk_at"sC"
theorem bq:au ["points","row","found","way","half","spot"] ["points"] (aj f8):=by walk_at"sC"
theorem mW:au ["cell","small"] ["cell","small"] (aj i_):=by walk_at"sC"
theorem bG:au ["spot","script","x","y","shape","right","above"] ["spot","script"] (aj jF):=by walk_at"sC"
theorem bS:au ["script","shape","wide","high","cells","cell"] ["script"] (aj f6):=by walk_at"sC"
theorem fu:au ["found","size","piece","spot"] ["found","size"] (aj i5):=by walk_at"sC"
theorem bO:au ["found","owners","piece","k","j","side"] ["found"] (aj gK):=by walk_at"sC"
theorem q_:au ["many","k"] ["many","k"] (aj lP):=by walk_at"sC"
theorem b6:au ["owners","spots","threes","outer","inner","side"] ["owners","spots","threes"] (aj ic):=by walk_at"sC"
theorem nG:au ["found","due"] ["found","due"] (aj i6):=by walk_at"sC"
theorem df:au ["script","ends","k","found","spots","piece","owners","many","shown","inner"] ["script"] (aj Bg):=by walk_at"sC"
set_option genInjectivity false in
set_option genSizeOf false in
set_option genSizeOfSpec false in
structure Txt(w:Fz)(K:EC)(mg:Str->Option EG) where
 aaC:Dfn K mg "is_whole" kH ["thing"]
 aaN:Dfn K mg "sign" xK ["number"]
 aaA:Dfn K mg "shares" pA ["a","b"]
 aaO:Dfn K mg "hand" xG ["move"]
 aaG:Dfn K mg "is_move" iG ["thing"]
 aah:Dfn K mg "need_move" i3 ["thing"]
 aaK:Dfn K mg "turned" o8 ["P","move"]
 aaJ:Dfn K mg "moved" tR ["P","move"]
 aaD:Dfn K mg "way_back" kX ["move"]
 aaw:Dfn K mg "steps" rY ["P","Q"]
 aaQ:Dfn K mg "level" sY ["P","Q"]
 aaP:Dfn K mg "turn" yk ["P","Q","R"]
 aad:Dfn K mg "left_bends" im ["row"]
 aax:Dfn K mg "field" t_ ["points"]
 aay:Dfn K mg "sides" r8 ["land"]
 aal:Dfn K mg "double_area" e9 ["land"]
 aaU:Dfn K mg "rim" yL ["land"]
 aam:Dfn K mg "field_moved" eX ["land","move"]
 aaT:Dfn K mg "fold" qE ["land","k"]
 aan:Dfn K mg "multiple" j9 ["land","k"]
 aai:Dfn K mg "points_in" iY ["land"]
 aao:DfD K mg "inner_count" bv ["land","k"] 1
 aaz:DfD K mg "count" eR ["land","k"] 1
 aaE:Dfn K mg "row_ends" kq ["land","y"]
 aaH:Dfn K mg "by_rows" gC ["land"]
 aaB:Dfn K mg "stakes" oY ["land"]
 aas:Dfn K mg "cut_off" l9 ["row","hand"]
 aaL:Dfn K mg "pieces" pf ["land"]
 aaR:Dfn K mg "faces" jm ["some"]
 aaa:Dfn K mg "_law_cell_at" gu ["script","k"]
 aab:Dfn K mg "_law_whole" ip ["found"]
 aaf:Dfn K mg "_law_is_point" fT ["found"]
 aaq:Dfn K mg "_law_cross" h9 ["one","two","three"]
 aak:Dfn K mg "_law_corners" f8 ["points"]
 aaj:Dfn K mg "_law_lean" i_ ["cell","small"]
 aaF:Dfn K mg "_law_put" jF ["spot","script"]
 aau:Dfn K mg "_law_ends" f6 ["script"]
 aav:Dfn K mg "_law_good" i5 ["found","size"]
 aap:Dfn K mg "_law_owners" gK ["found"]
 aat:Dfn K mg "_law_at" lP ["many","k"]
 aar:Dfn K mg "_law_inner" ic ["owners","spots","threes"]
 aac:Dfn K mg "_law_same" i6 ["found","due"]
 aaY:Dfn K mg "law" Bg ["script"]
 aa3:mg "abs"=none
 aa7:mg "all"=none
 aa2:mg "bool"=none
 aa4:mg "int"=none
 aae:mg "isinstance"=none
 aag:mg "len"=none
 aaI:mg "list"=none
 aa0:mg "max"=none
 aa1:mg "min"=none
 aaV:mg "range"=none
 aaZ:mg "reversed"=none
 aaX:mg "set"=none
 aaM:mg "sorted"=none
 aa5:mg "sum"=none
 aaS:mg "tuple"=none
 aa6:mg "zip"=none
 aaW:∃t,mg "MOST_STAKES"=some (.int 100 t)
section
variable {P:E1}{w:Fz}{K:EC}{mg:Str→Option EG}{base:GS}
def sgn(n:Int):Int:=if 0<n then 1 else if n<0 then -1 else 0
def bU(b:Int):Int:=if b<0 then -b else b
theorem dG(b:Int):bU b=(b.natAbs:Int):=by unfold bU;split <;>lia
theorem g8{b:Int}(h:b≠0):0<bU b:=by unfold bU;split <;>lia
theorem dF(d b:Int):d ∣ bU b↔d ∣ b:=by
 unfold bU;split
 ·exact M6
 ·exact Iff.rfl
theorem yE(d b:Int):bU b ∣ d↔b ∣ d:=by
 unfold bU;split
 ·exact Int.neg_dvd
 ·exact Iff.rfl
structure i9(a b high ht low lt:Int):Prop where
 hp:0<high
 lo0:0<=low
 lolt:low<high
 dv:∀d,(d ∣ high/\d ∣ low)↔(d ∣ a/\d ∣ b)
 ch:b ∣ ht*a-high
 cl:b ∣ lt*a-low
 bd:ht.natAbs*low.natAbs+lt.natAbs*high.natAbs<=b.natAbs
 hi:high.natAbs<=b.natAbs
theorem qi{a b:Int}(hb:b≠0):i9 a b (bU b) 0 (a%bU b) 1:=by
 have h0:=g8 hb;refine⟨h0,G_ _ (by lia),GC _ h0,λd=>?_,?_,?_,?_,by rw[dG];simp⟩
 ·rw[dF];constructor
  ·rintro ⟨h1,h2⟩;refine⟨?_,h1⟩;have e:=HX a (bU b);rw[<-e];exact IV h2 (FR ((dF d b).mpr h1) (HH _ _))
  ·rintro ⟨h1,h2⟩;refine⟨h2,?_⟩;have e:a%bU b=a-bU b*(a/bU b):=by have:=HX a (bU b);lia
   rw[e];exact LJ h1 (FR ((dF d b).mpr h2) (HH _ _))
 ·rw[GH,Int.zero_sub,M6];exact (dF b b).mpr (KS b)
 ·have e:1*a-a%bU b=bU b*(a/bU b):=by have:=HX a (bU b);lia
  rw[e];exact FR ((dF b b).mpr (KS b)) (HH _ _)
 ·rw[dG];simp
theorem sH{a b high ht low lt:Int}(I:i9 a b high ht low lt)(h:low≠0):i9 a b low lt (high-high/low*low) (ht-high/low*lt)/\high-high/low*low<low:=by
 obtain⟨hp,lo0,lolt,dv,ch,cl,bd,hi⟩:=I;have hl:0<low:=by lia
 have e:=HX high low;have r0:=G_ high h;have r1:=GC high hl;have hf:0<=high/low:=Int.ediv_nonneg (by lia) (by lia)
 have er:high-high/low*low=high%low:=by rw[Mq];lia
 rw[er];refine⟨⟨hl,r0,r1,λd=>?_,cl,?_,?_,by lia⟩,r1⟩
 ·rw[<-dv d];constructor
  ·rintro ⟨h1,h2⟩;refine⟨?_,h1⟩;rw[<-e];exact IV h2 (FR h1 (HH _ _))
  ·rintro ⟨h1,h2⟩;refine⟨h2,?_⟩;rw[show high%low=high-low*(high/low) by lia]
   exact LJ h1 (FR h2 (HH _ _))
 ·have e2:(ht-high/low*lt) *a-high%low=(ht*a-high)-(high/low) *(lt*a-low):=by grind
  rw[e2];exact LJ ch (FR cl (FW _ _))
 ·have n1:(ht-high/low*lt).natAbs<=ht.natAbs+(high/low).natAbs*lt.natAbs:=by
   have:=Int.natAbs_sub_le ht (high/low*lt);rw[J0]at this;exact this
  have n2:high.natAbs=(high%low).natAbs+low.natAbs*(high/low).natAbs:=by
   have:(high.natAbs:Int)=((high%low).natAbs+low.natAbs*(high/low).natAbs:Nat):=by
    push_cast
    rw[Ih r0,Ih hf,Ih (by lia:0<=high),Ih lo0]
    lia
   lia
  have n3:(ht-high/low*lt).natAbs*low.natAbs<=(ht.natAbs+(high/low).natAbs*lt.natAbs) *low.natAbs:=MM _ n1;rw[n2]at bd;refine Gg ?_ bd;generalize (ht-high/low*lt).natAbs=A at *;generalize ht.natAbs=B at *;generalize lt.natAbs=C at *;generalize low.natAbs=D at *;generalize (high/low).natAbs=E at *;generalize (high%low).natAbs=F at *;grind
structure fN(a b g s t:Int):Prop where
 g0:0<=g
 eq:s*a+t*b=g
 da:g ∣ a
 db:g ∣ b
 z:b=0->t=0/\s=sgn a/\g=bU a
 nz:b≠0->0<g/\0<=s/\s<bU b/g
theorem mw(a:Int):fN a 0 (bU a) (sgn a) 0:=by
 refine⟨by unfold bU;split <;>lia,?_,(yE a a).mpr (KS a),P1 _,λ_=>⟨rfl,rfl,rfl⟩,λh=>absurd rfl h⟩
 unfold sgn bU;split
 ·split <;>lia
 ·split
  ·lia
  ·lia
theorem xL{a b high ht lt:Int}(hb:b≠0)(I:i9 a b high ht 0 lt):fN a b high (ht%(bU b/high)) ((high-ht%(bU b/high) *a).fdiv b):=by
 obtain⟨hp,lo0,lolt,dv,ch,cl,bd,hi⟩:=I;obtain⟨ga,gb⟩:=(dv high).mp ⟨KS _,P1 _⟩;obtain⟨a',rfl⟩:=ga;have gb2:high ∣ bU b:=(dF _ _).mpr gb;obtain⟨b',SV⟩:=gb2;have hb0:=g8 hb;have hq:bU b/high=b':=by rw[SV,Fs _ (by lia)]
 have hb1:0<b':=by
  have:0<high*b':=by lia
  exact G7 this (by lia)
 rw[hq];have es:=HX ht b'
 have key:b ∣ high-ht%b'*(high*a'):=by
  have e:high-ht%b'*(high*a')=-(ht*(high*a')-high)+bU b*(a'*(ht/b')):=by
   rw[SV,show ht%b'=ht-b'*(ht/b') by lia];grind
  rw[e];refine IV (M6.mpr ch) (FR ((dF b b).mpr (KS b)) (HH _ _))
 refine⟨by lia,?_,HH _ _,gb,λh=>absurd h hb,λ_=>⟨hp,G_ _ (by lia),?_⟩⟩
 ·obtain⟨c,hc⟩:=key;rw[hc,Int.mul_fdiv_cancel_left _ hb,Mq c b];lia
 ·rw[hq];exact GC _ hb1
theorem Dy{a b high ht low lt:Int}(I:i9 a b high ht low lt):lt.natAbs<=b.natAbs:=by
 have h1:1<=high.natAbs:=by have:=I.hp;lia
 have h2:lt.natAbs*1<=lt.natAbs*high.natAbs:=Nat.mul_le_mul_left _ h1;have:=I.bd;lia
theorem ym{a b g s t g' s' t':Int}(h:fN a b g s t)(h':fN a b g' s' t'):g=g'/\s=s'/\t=t':=by
 have d1:g ∣ g':=by rw[<-h'.eq];exact IV (FR h.da (FW _ _)) (FR h.db (FW _ _))
 have d2:g' ∣ g:=by rw[<-h.eq];exact IV (FR h'.da (FW _ _)) (FR h'.db (FW _ _))
 have eg:g=g':=N6 h.g0 h'.g0 d1 d2;subst eg;by_cases hb:b=0
 ·obtain⟨h1,h2,_⟩:=h.z hb;obtain⟨k1,k2,_⟩:=h'.z hb;exact⟨rfl,by lia,by lia⟩
 ·obtain⟨p,s0,s1⟩:=h.nz hb;obtain⟨_,s0',s1'⟩:=h'.nz hb;obtain⟨a',ha⟩:=h.da;obtain⟨b',SV⟩:=(dF g b).mpr h.db;obtain⟨b'',Ts⟩:=h.db;have hq:bU b/g=b':=by rw[SV,Fs _ (by lia)]
  rw[hq]at s1 s1';have e1:=h.eq;have e2:=h'.eq;have bz:b''≠0:=by intro z;rw[z,HE]at Ts;exact hb Ts
  have k1:s*a'+t*b''=1:=by
   have:g*(s*a'+t*b'')=g*1:=by rw[ha,Ts]at e1;grind
   exact FX (by lia) this
  have k2:s'*a'+t'*b''=1:=by
   have:g*(s'*a'+t'*b'')=g*1:=by rw[ha,Ts]at e2;grind
   exact FX (by lia) this
  have k3:b'' ∣ s-s':=by
   refine⟨s*(t'-t)+t*(s-s'),?_⟩;grind
  have k4:b' ∣ s-s':=by
   have:b'.natAbs=b''.natAbs:=by
    have q1:(bU b).natAbs=b.natAbs:=by rw[dG];simp
    rw[SV,Ts]at q1;rw[J0,J0]at q1;exact Nat.eq_of_mul_eq_mul_left (by lia) q1
   exact J_.mp (by rw[this];exact J_.mpr k3)
  have k5:s=s':=by
   have:s-s'=0:=Int.eq_zero_of_dvd_of_natAbs_lt_natAbs k4 (by lia)
   lia
  subst k5;refine⟨rfl,rfl,?_⟩;have:b*t=b*t':=by grind
  exact FX hb this
theorem Bw{a b:Int}(hb:b≠0):∀(n:Nat) (high ht low lt:Int),low.toNat<=n->i9 a b high ht low lt->∃high' ht' lt',i9 a b high' ht' 0 lt'
 |0,high,ht,low,lt,hn,I=>by
  have:low=0:=by have:=I.lo0;lia
  subst this;exact⟨_,_,_,I⟩
 |n+1,high,ht,low,lt,hn,I=>by
  by_cases h:low=0
  ·subst h;exact⟨_,_,_,I⟩
  ·obtain⟨I2,less⟩:=sH I h;have:=I2.lo0;exact Bw hb n _ _ _ _ (by have:=I.lo0;lia) I2
theorem jh(a b:Int):∃g s t,fN a b g s t:=by
 by_cases hb:b=0
 ·subst hb;exact⟨_,_,_,mw a⟩
 ·obtain⟨h,ht,lt,I⟩:=Bw hb _ _ _ _ _ (EL _) (qi (a:=a) hb);exact⟨_,_,_,xL hb I⟩
theorem mM{m:Nat}{a b g s t:Int}(G:fN a b g s t)(sa:Sz m a)(sb:Sz m b):Sz (m+8) g/\Sz (m+8) s/\Sz (2*m+8) t:=by
 by_cases hb:b=0
 ·subst hb;obtain⟨h1,h2,h3⟩:=G.z rfl;rw[h1,h2,h3];have s1:Sz 8 (sgn a):=by unfold Sz sgn;split;decide;split <;>decide
  exact⟨(Sz.abs sa).mono (by lia),s1.mono (by lia),Sz.mono (m:=8) (by decide) (by lia)⟩
 ·obtain⟨g0,s0,s1⟩:=G.nz hb;have h1:bU b/g<=bU b:=N7 _ (by have:=g8 hb;lia)
  have h2:=dG b
  have sg:Sz m g:=by
   refine sb.natle ?_;exact Nat.le_of_dvd (by lia) (J_.mpr G.db)
  have ss:Sz m s:=sb.natle (by lia)
  refine⟨sg.mono (by lia),ss.mono (by lia),?_⟩
  have e:t*b=g-s*a:=by have:=G.eq;lia
  have q:Sz (2*m+1) (t*b):=by
   rw[e];have:Sz (m+m) (s*a):=ss.mul sa;have h3:=(sg.mono (show m<=m+m by lia)).sub this
   exact h3.mono (by lia)
  refine (Sz.mono (m:=2*m+1) ?_ (by lia))
  unfold Sz at *;rw[J0]at q;have:1<=b.natAbs:=by lia
  exact HS (Nat.le_mul_of_pos_right _ this) q
def uB:List U->Out->Prop:=λus o=>∃n:Int,us=[.int n]/\o=.val (.int (sgn n))
theorem sW(T:Txt w K mg):aZ P w K mg base (CXF P w) 1 T.aaN.a T.aaN.d ["number"] (spU K (uB)):=by
 refine a9 T.aaN.F AL (λus o h=>?_) (λQA A outer s H E O us o hr h=>?_)
 ·obtain⟨n,rfl,rfl⟩:=h;rfl
 obtain⟨n,rfl,rfl⟩:=h;refine Ws.nox ?_;refine af (lh (aK gD (aa 0 rfl) ag) (λhT=>?_) (λhF=>(aH ?_)))
 ·refine af (ba ag ?_);exact vIO (by unfold sgn;rw[if_pos (dTb hT)])
 ·refine af (lh (aK iC (aa 0 rfl) ag) (λhT=>?_) (λhF=>(aH ?_)))
  ·refine af (ba (cu ag) ?_);exact vIO (by unfold sgn;rw[if_neg (dFb hF),if_pos (dTb hT)])
  ·rename_i hF2
   refine af (ba ag ?_);exact vIO (by unfold sgn;rw[if_neg (dFb hF),if_neg (dFb hF2)])
def pw:List U->Out->Prop:=λus o=>∃a b g s t:Int,us=[.int a,.int b]/\Sz 4000 a/\Sz 4000 b/\fN a b g s t/\o=.val (.tup [.int g,.int s,.int t])
theorem pL{a b g s t g' s' t':Int}(G:fN a b g s t)(G':fN a b g' s' t'):Out.val (.tup [.int g,.int s,.int t])=Out.val (.tup [.int g',.int s',.int t']):=by
 obtain⟨rfl,rfl,rfl⟩:=ym G G';rfl
theorem lV(T:Txt w K mg):aZ P w K mg base (CXF P w) 2 T.aaA.a T.aaA.d ["a","b"] (spU K (pw)):=by
 refine a9 T.aaA.F bA (λus o h=>?_) (λQA A outer s H E O us o hr h=>?_)
 ·obtain⟨a,b,g,s,t,rfl,sa,sb,G,rfl⟩:=h;rfl
 obtain⟨a,b,g,s,t,rfl,sa,sb,G,rfl⟩:=h;refine Ws.nox ?_;refine af (lh (aK cY (aa 1 rfl) ag) (λhT=>?_) (λhF=>(aH ?_)))
 ·have hb:b=0:=dTb hT;subst hb;refine af (ba (b8 (ax (aq xo rfl T.aa3 PyProof.Rows.boot_abs (ae (aa 0 rfl) ak ah)) (ax (aB ((sW T).mono (by decide)) hr rfl T.aaN.m T.aaN.F.kp T.aaN.b aA (ae (aa 0 rfl) ak ah) ⟨_,rfl,rfl⟩) (ax ag bi dj) aQ) aQ)) ?_)
  exact pL (mw a) G
 ·have hb:b≠0:=dFb hF;have hp0:=g8 hb;have sab:Sz 4000 (bU b):=Sz.abs sb;refine af (aE (i:=2) bA.nd rfl (Or.inl rfl) (aq xo rfl T.aa3 PyProof.Rows.boot_abs (ae (aa 1 rfl) ak ah)) ?_);refine af (aE (i:=3) bA.nd rfl (Or.inl rfl) ag ?_);refine af (aE (i:=4) bA.nd rfl (Or.inl rfl) (eO (aa 0 rfl) (aa 2 rfl) hp0) ?_);refine af (aE (i:=5) bA.nd rfl (Or.inl rfl) ag ?_);refine af (ix (λm:Int×Int×Int×Int=>[some (.val (.int a)),some (.val (.int b)),some (.val (.int m.1)),some (.val (.int m.2.1)),some (.val (.int m.2.2.1)),some (.val (.int m.2.2.2)),none,none,none,none]) (λn m=>n=m.2.2.1.toNat/\i9 a b m.1 m.2.1 m.2.2.1 m.2.2.2) PassesOwn.never ?h0 ?hs)
  case h0=>exact⟨_,(_,_,_,_),⟨rfl,qi hb⟩,rfl,rfl,rfl,rfl,rfl,rfl,trivial⟩
  case hs=>
   rintro m ⟨high,ht,low,lt⟩ ⟨rfl,I⟩;dsimp only at I |-;have hl0:=I.lo0;have QZ:=I.lolt;have sh:Sz 4000 high:=sb.natle I.hi;have sl:Sz 4000 low:=sh.natle (by lia)
   have slt:Sz 4000 lt:=sb.natle (Dy I);refine⟨_,(aK x_ (aa 4 rfl) ag),λh=>?_,λh ps QM=>?_⟩
   ·have hl:low≠0:=nTb h;obtain⟨I2,less⟩:=sH I hl;have Qx:(high-high/low*low).toNat<low.toNat:=by clear h;lia
    refine af (aE (i:=6) bA.nd rfl (Or.inl rfl) (e_ (aa 2 rfl) (aa 4 rfl) (by walk_at"div")) ?_)
    have sf:Sz 4000 (high/low):=sh.ediv;refine af (aE (i:=7) bA.nd rfl (Or.inl rfl) (bm (aa 2 rfl) (be (aa 6 rfl) (aa 4 rfl) (by walk_at"mul"))) ?_)
    refine af (aE (i:=8) bA.nd rfl (Or.inl rfl) (bm (aa 3 rfl) (be (aa 6 rfl) (aa 5 rfl) (by walk_at"mul"))) ?_)
    refine af (aE (i:=2) bA.nd rfl (Or.inl rfl) (aa 4 rfl) ?_);refine af (aE (i:=3) bA.nd rfl (Or.inl rfl) (aa 5 rfl) ?_);refine af (aE (i:=4) bA.nd rfl (Or.inl rfl) (aa 7 rfl) ?_);refine af (aE (i:=5) bA.nd rfl (Or.inl rfl) (aa 8 rfl) (aH ?_));exact⟨_,(_,_,_,_),Qx,⟨rfl,I2⟩,rfl,rfl,rfl,rfl,rfl,rfl,trivial⟩
   ·have hl:low=0:=nFb h;subst hl;refine c8 ?_ QM;have G2:=xL hb I;obtain⟨g0,s0,s1⟩:=G2.nz hb;have hm:0<bU b/high:=by lia
    have hg:0<high:=I.hp
    have ss:Sz 4000 (ht%(bU b/high)):=by
     refine sb.natle ?_;have h1:bU b/high<=bU b:=N7 _ (by lia)
     have h2:=dG b;lia
    refine af (aE (i:=9) bA.nd rfl (Or.inl rfl) (eO (aa 3 rfl) (e_ (aq xo rfl T.aa3 PyProof.Rows.boot_abs (ae (aa 1 rfl) ak ah)) (aa 2 rfl) ⟨hg,sh.mono (by decide)⟩) hm) ?_)
    refine af (ba (b8 (ax (aa 2 rfl) (ax (aa 9 rfl) (ax (B7 (bm (aa 2 rfl) (be (aa 9 rfl) (aa 0 rfl) (Sz.ok ss sa (by decide)))) (aa 1 rfl) ⟨hb,sb.mono (by decide)⟩) bi bK) ah) ah)) ?_)
    exact pL G2 G
abbrev mv(a b c d e f:Int):U:=.tup [.int a,.int b,.int c,.int d,.int e,.int f]
structure Mv(a b c d e f:Int):Prop where
 u:a*d-b*c=1\/a*d-b*c=-1
 a:Sz 30000 a
 b:Sz 30000 b
 c:Sz 30000 c
 d:Sz 30000 d
 e:Sz 30000 e
 f:Sz 30000 f
def qu:List U->Out->Prop:=λus o=>∃n:Int,us=[.int n]/\o=.val (.bl true)
theorem oZ(T:Txt w K mg):aZ P w K mg base (CXF P w) 1 T.aaC.a T.aaC.d ["thing"] (spU K (qu)):=by
 refine a9 T.aaC.F qj (λus o h=>?_) (λQA A outer s H E O us o hr h=>?_)
 ·obtain⟨n,rfl,rfl⟩:=h;rfl
 obtain⟨n,rfl,rfl⟩:=h;refine Ws.nox ?_;refine af (ba (lM (aq (cX (by intro _ h;cases h) (by walk_at"kit")) rfl T.aae Hr (ae (aa 0 rfl) (ae (mR rfl T.aa4 boot_int) ak ah) ah)) (λhz=>(rT (Bs (aq (cX (by intro _ h;cases h) (by walk_at"kit")) rfl T.aae Hr (ae (aa 0 rfl) (ae (mR rfl T.aa2 boot_bool) ak ah) ah)))))) ?_);exact rfl
def uN:List U->Out->Prop:=λus o=>∃a b c d e f,us=[mv a b c d e f]/\Sz 30000 a/\Sz 30000 b/\Sz 30000 c/\Sz 30000 d/\o=.val (.int (a*d-b*c))
theorem sr(T:Txt w K mg):aZ P w K mg base (CXF P w) 1 T.aaO.a T.aaO.d ["move"] (spU K (uN)):=by
 refine a9 T.aaO.F A4 (λus o h=>?_) (λQA A outer s H E O us o hr h=>?_)
 ·obtain⟨a,b,c,d,e,f,rfl,sa,sb,sc,sd,rfl⟩:=h;rfl
 obtain⟨a,b,c,d,e,f,rfl,sa,sb,sc,sd,rfl⟩:=h;refine Ws.nox ?_;refine af (ba (bm (be (aF (aa 0 rfl) ag rfl rfl) (aF (aa 0 rfl) ag rfl rfl) (by walk_at"mul")) (be (aF (aa 0 rfl) ag rfl rfl) (aF (aa 0 rfl) ag rfl rfl) (by walk_at"mul"))) ?_);exact rfl
def nL:List U->Out->Prop:=λus o=>∃a b c d e f,us=[mv a b c d e f]/\Mv a b c d e f/\o=.val (.bl true)
theorem qK(T:Txt w K mg):aZ P w K mg base (CXF P w) 2 T.aaG.a T.aaG.d ["thing"] (spU K (nL)):=by
 refine a9 T.aaG.F jM (λus o h=>?_) (λQA A outer s H E O us o hr h=>?_)
 ·obtain⟨a,b,c,d,e,f,rfl,M,rfl⟩:=h;rfl
 obtain⟨a,b,c,d,e,f,rfl,M,rfl⟩:=h;refine Ws.nox ?_;refine af (ce (Tw.t (yf (gN (fU (aq (cX (by intro _ h;cases h) rfl) rfl T.aae Hr (ae (aa 0 rfl) (ae (mR rfl T.aaS MH) ak ah) ah)))) (λhz=>(tp (aK x_ (aq (bM rfl) rfl T.aag Fj (ae (aa 0 rfl) ak ah)) ag))))) rfl (aH ?_))
 refine af (ce (gN (fU (aq (DA rfl (bs:=[true,true,true,true,true,true])) rfl T.aa7 boot_all (ae (EvN.ev (gr  rfl (blk (aj iG) ["thing","number"] [1] rfl rfl rfl rfl (by decide+kernel)) (tj (aa 0 rfl)) (λ_ _ _ _=>bC (i:=1) jM.nd rfl (Or.inl rfl)) (dM (by decide)) ?clen ?csz (λ_ _=>trivial) ?celt)) ak fH)))) rfl (aH ?_))
 case clen=>rfl
 case csz=>show 6<=sizeLine;decide
 case celt=>
  intro C s' H' fp i x y hx hy
  have k:∃n:Int,x=.int n/\y=.bl true:=by
   match i,hx,hy with
   |0,hx,hy=>cases hx;cases hy;exact⟨a,rfl,rfl⟩
   |1,hx,hy=>cases hx;cases hy;exact⟨b,rfl,rfl⟩
   |2,hx,hy=>cases hx;cases hy;exact⟨c,rfl,rfl⟩
   |3,hx,hy=>cases hx;cases hy;exact⟨d,rfl,rfl⟩
   |4,hx,hy=>cases hx;cases hy;exact⟨e,rfl,rfl⟩
   |5,hx,hy=>cases hx;cases hy;exact⟨f,rfl,rfl⟩
   |i+6,hx,hy=>cases hx
  obtain⟨n,rfl,rfl⟩:=k;exact (aB ((oZ T).mono (by decide)) hr rfl T.aaC.m T.aaC.F.kp T.aaC.b aA (ae (aa 1 rfl) ak ah) ⟨n,rfl,rfl⟩)
 refine af (ba (lW (El rfl rfl rfl) (aB ((sr T).mono (by decide)) hr rfl T.aaO.m T.aaO.F.kp T.aaO.b aA (ae (aa 0 rfl) ak ah) ⟨a,b,c,d,e,f,rfl,M.a,M.b,M.c,M.d,rfl⟩) (b8 (ax ag (ax (cu ag) bi jA) dj))) ?_)
 refine vB ?_;show inV (fl (.int (a*d-b*c))) ([U.int 1,.int (-1)].map fl)=_;rcases M.u with h |h <;>rw[h] <;>rfl
def vQ:List U->Out->Prop:=λus o=>∃a b c d e f,us=[mv a b c d e f]/\Mv a b c d e f/\o=.val .non
theorem iA(T:Txt w K mg):aZ P w K mg base (CXF P w) 3 T.aah.a T.aah.d ["thing"] (spU K (vQ)):=by
 refine a9 T.aah.F oh (λus o h=>?_) (λQA A outer s H E O us o hr h=>?_)
 ·obtain⟨a,b,c,d,e,f,rfl,M,rfl⟩:=h;rfl
 obtain⟨a,b,c,d,e,f,rfl,M,rfl⟩:=h;refine Ws.nox ?_;refine af (ce (gN (fU (aB ((qK T).mono (by decide)) hr rfl T.aaG.m T.aaG.F.kp T.aaG.b aA (ae (aa 0 rfl) ak ah) ⟨a,b,c,d,e,f,rfl,M,rfl⟩))) rfl (aH (aH ?_)))
 exact rfl
def pT:List U->Out->Prop:=λus o=>∃x y a b c d e f,us=[pt x y,mv a b c d e f]/\(Sz 30000 x/\Sz 30000 y/\Sz 30000 a/\Sz 30000 b/\Sz 30000 c/\Sz 30000 d)/\o=.val (pt (a*x+b*y) (c*x+d*y))
theorem vt(T:Txt w K mg):aZ P w K mg base (CXF P w) 1 T.aaK.a T.aaK.d ["P","move"] (spU K (pT)):=by
 refine a9 T.aaK.F vy (λus o h=>?_) (λQA A outer s H E O us o hr h=>?_)
 ·obtain⟨x,y,a,b,c,d,e,f,rfl,⟨sx,sy,sa,sb,sc,sd⟩,rfl⟩:=h;rfl
 obtain⟨x,y,a,b,c,d,e,f,rfl,⟨sx,sy,sa,sb,sc,sd⟩,rfl⟩:=h;refine Ws.nox ?_;refine af (ba (b8 (ax (ca (be (aF (aa 1 rfl) ag rfl rfl) (aF (aa 0 rfl) ag rfl rfl) (by walk_at"mul")) (be (aF (aa 1 rfl) ag rfl rfl) (aF (aa 0 rfl) ag rfl rfl) (by walk_at"mul"))) (ax (ca (be (aF (aa 1 rfl) ag rfl rfl) (aF (aa 0 rfl) ag rfl rfl) (by walk_at"mul")) (be (aF (aa 1 rfl) ag rfl rfl) (aF (aa 0 rfl) ag rfl rfl) (by walk_at"mul"))) bi bK) bK)) ?_);exact rfl
def qr:List U->Out->Prop:=λus o=>∃x y a b c d e f,us=[pt x y,mv a b c d e f]/\Mv a b c d e f/\Sz 30000 x/\Sz 30000 y/\o=.val (pt (a*x+b*y+e) (c*x+d*y+f))
theorem qb(T:Txt w K mg):aZ P w K mg base (CXF P w) 4 T.aaJ.a T.aaJ.d ["P","move"] (spU K (qr)):=by
 refine a9 T.aaJ.F oU (λus o h=>?_) (λQA A outer s H E O us o hr h=>?_)
 ·obtain⟨x,y,a,b,c,d,e,f,rfl,M,sx,sy,rfl⟩:=h;rfl
 obtain⟨x,y,a,b,c,d,e,f,rfl,M,sx,sy,rfl⟩:=h;refine Ws.nox ?_;refine af (wx (aB ((iA T).mono (by decide)) hr rfl T.aah.m T.aah.F.kp T.aah.b aA (ae (aa 1 rfl) ak ah) ⟨a,b,c,d,e,f,rfl,M,rfl⟩) ?_)
 refine af (aE (i:=2) oU.nd rfl (Or.inl rfl) (aB ((vt T).mono (by decide)) hr rfl T.aaK.m T.aaK.F.kp T.aaK.b aA (ae (aa 0 rfl) (ae (aa 1 rfl) ak ah) ah) ⟨x,y,a,b,c,d,e,f,rfl,⟨sx,sy,M.a,M.b,M.c,M.d⟩,rfl⟩) ?_)
 refine af (ba (b8 (ax (ca (aF (aa 2 rfl) ag rfl rfl) (aF (aa 1 rfl) ag rfl rfl)) (ax (ca (aF (aa 2 rfl) ag rfl rfl) (aF (aa 1 rfl) ag rfl rfl)) bi bK) bK)) ?_);exact rfl
def BP(a b c d e f:Int):U:=
 mv ((a*d-b*c) *d) (-(a*d-b*c) *b) (-(a*d-b*c) *c) ((a*d-b*c) *a) (-((a*d-b*c) *d*e+-(a*d-b*c) *b*f)) (-(-(a*d-b*c) *c*e+(a*d-b*c) *a*f))
def uD:List U->Out->Prop:=λus o=>∃a b c d e f,us=[mv a b c d e f]/\Mv a b c d e f/\o=.val (BP a b c d e f)
theorem o6(T:Txt w K mg):aZ P w K mg base (CXF P w) 4 T.aaD.a T.aaD.d ["move"] (spU K (uD)):=by
 refine a9 T.aaD.F cT (λus o h=>?_) (λQA A outer s H E O us o hr h=>?_)
 ·obtain⟨a,b,c,d,e,f,rfl,M,rfl⟩:=h;rfl
 obtain⟨a,b,c,d,e,f,rfl,M,rfl⟩:=h;refine Ws.nox ?_;obtain⟨hd,sa,sb,sc,sd,se,sf⟩:=M;have M:Mv a b c d e f:=⟨hd,sa,sb,sc,sd,se,sf⟩;have sh:Sz 8 (a*d-b*c):=by rcases hd with h |h <;>rw[h] <;>decide
 refine af (wx (aB ((iA T).mono (by decide)) hr rfl T.aah.m T.aah.F.kp T.aah.b aA (ae (aa 0 rfl) ak ah) ⟨a,b,c,d,e,f,rfl,M,rfl⟩) ?_)
 refine af (aE (i:=1) cT.nd rfl (Or.inl rfl) (aB ((sr T).mono (by decide)) hr rfl T.aaO.m T.aaO.F.kp T.aaO.b aA (ae (aa 0 rfl) ak ah) ⟨a,b,c,d,e,f,rfl,sa,sb,sc,sd,rfl⟩) ?_)
 refine af (aE (i:=2) cT.nd rfl (Or.inl rfl) (be (aa 1 rfl) (aF (aa 0 rfl) ag rfl rfl) (by walk_at"mul")) ?_)
 refine af (aE (i:=3) cT.nd rfl (Or.inl rfl) (be (cu (aa 1 rfl)) (aF (aa 0 rfl) ag rfl rfl) (by walk_at"mul")) ?_)
 refine af (aE (i:=4) cT.nd rfl (Or.inl rfl) (be (cu (aa 1 rfl)) (aF (aa 0 rfl) ag rfl rfl) (by walk_at"mul")) ?_)
 refine af (aE (i:=5) cT.nd rfl (Or.inl rfl) (be (aa 1 rfl) (aF (aa 0 rfl) ag rfl rfl) (by walk_at"mul")) ?_)
 refine af (ba (b8 (ax (aa 2 rfl) (ax (aa 3 rfl) (ax (aa 4 rfl) (ax (aa 5 rfl) (ax (cu (ca (be (aa 2 rfl) (aF (aa 0 rfl) ag rfl rfl) (by walk_at"mul")) (be (aa 3 rfl) (aF (aa 0 rfl) ag rfl rfl) (by walk_at"mul")))) (ax (cu (ca (be (aa 4 rfl) (aF (aa 0 rfl) ag rfl rfl) (by walk_at"mul")) (be (aa 5 rfl) (aF (aa 0 rfl) ag rfl rfl) (by walk_at"mul")))) bi jA) jA) ah) ah) ah) ah)) ?_)
 exact rfl
theorem xq{a b g s t:Int}(G:fN a b g s t):g=((IA a b:Nat):Int):=by
 have h1:g ∣ ((IA a b:Nat):Int):=Mr G.da G.db
 have h2:((IA a b:Nat):Int) ∣ g:=by
  rw[<-G.eq];exact IV (FR (Kh ..) (FW _ _)) (FR (JW ..) (FW _ _))
 exact N6 G.g0 (Int.natCast_nonneg _) h1 h2
theorem kr(a b:Int):∃s t,fN a b ((IA a b:Nat):Int) s t:=by
 obtain⟨g,s,t,G⟩:=jh a b;have e:=xq G;subst e;exact⟨s,t,G⟩
theorem vd{a b g s t g' s' t':Int}(G:fN a b g s t)(gp:0<g)(G':fN (a/g) (b/g) g' s' t'):g'=1:=by
 obtain⟨a',ha⟩:=G.da;obtain⟨b',hb⟩:=G.db;have ea:a/g=a':=by rw[ha,Fs _ (by lia)]
 have eb:b/g=b':=by rw[hb,Fs _ (by lia)]
 rw[ea,eb]at G';have e:=G.eq
 have k1:s*a'+t*b'=1:=by
  have:g*(s*a'+t*b')=g*1:=by rw[ha,hb]at e;grind
  exact FX (by lia) this
 have d:g' ∣ 1:=by rw[<-k1];exact IV (FR G'.da (FW _ _)) (FR G'.db (FW _ _))
 have:=Int.le_of_dvd (by decide) d
 have h0:=G'.g0;rcases GR h0 with h |h
 ·lia
 ·rw[<-h]at d;exact absurd (NT.mp d) (by decide)
theorem vw{x0 y0 x1 y1 g s t:Int}(G:fN (x1-x0) (y1-y0) g s t)(h:g=0):x0=x1/\y0=y1:=by
 subst h;have h1:=NT.mp G.da;have h2:=NT.mp G.db;lia
structure A2(x0 y0 x1 y1:Int):Prop where
 s0:Sz 3000 x0
 t0:Sz 3000 y0
 s1:Sz 3000 x1
 t1:Sz 3000 y1
def qU:List U->Out->Prop:=λus o=>∃x0 y0 x1 y1 g s t:Int,us=[pt x0 y0,pt x1 y1]/\A2 x0 y0 x1 y1/\fN (x1-x0) (y1-y0) g s t/\o=.val (.int g)
theorem jD(T:Txt w K mg):aZ P w K mg base (CXF P w) 3 T.aaw.a T.aaw.d ["P","Q"] (spU K (qU)):=by
 refine a9 T.aaw.F xz (λus o h=>?_) (λQA A outer s H E O us o hr h=>?_)
 ·obtain⟨x0,y0,x1,y1,g,s,t,rfl,⟨s0,t0,s1,t1⟩,G,rfl⟩:=h;rfl
 obtain⟨x0,y0,x1,y1,g,s,t,rfl,⟨s0,t0,s1,t1⟩,G,rfl⟩:=h;refine Ws.nox ?_;refine af (ba (aF (aB ((lV T).mono (by decide)) hr rfl T.aaA.m T.aaA.F.kp T.aaA.b aA (ae (bm (aF (aa 1 rfl) ag rfl rfl) (aF (aa 0 rfl) ag rfl rfl)) (ae (bm (aF (aa 1 rfl) ag rfl rfl) (aF (aa 0 rfl) ag rfl rfl)) ak bK) bK) ⟨_,_,g,s,t,rfl,by walk_at"szb",by walk_at"szb",G,rfl⟩) ag rfl rfl) ?_)
 exact rfl
def qz:List U->Out->Prop:=λus o=>∃x0 y0 x1 y1 g a b s t:Int,us=[pt x0 y0,pt x1 y1]/\A2 x0 y0 x1 y1/\fN (x1-x0) (y1-y0) g a b/\g≠0/\fN ((x1-x0)/g) ((y1-y0)/g) 1 s t/\
  o=.val (mv s t (-((y1-y0)/g)) ((x1-x0)/g) (-s*x0-t*y0) ((y1-y0)/g*x0-(x1-x0)/g*y0))
theorem zg(T:Txt w K mg):aZ P w K mg base (CXF P w) 4 T.aaQ.a T.aaQ.d ["P","Q"] (spU K (qz)):=by
 refine a9 T.aaQ.F eG (λus o h=>?_) (λQA A outer s H E O us o hr h=>?_)
 ·obtain⟨x0,y0,x1,y1,g,a,b,s,t,rfl,two,G,gn,G1,rfl⟩:=h;rfl
 obtain⟨x0,y0,x1,y1,g,a,b,s,t,rfl,two,G,gn,G1,rfl⟩:=h;refine Ws.nox ?_;have gp:0<g:=by have:=G.g0;lia
 obtain⟨s0,t0,s1,t1⟩:=two;have two:A2 x0 y0 x1 y1:=⟨s0,t0,s1,t1⟩;have sx:Sz 3001 (x1-x0):=by walk_at"szb"
 have sy:Sz 3001 (y1-y0):=by walk_at"szb"
 obtain⟨sg,_,_⟩:=mM G sx sy;have su:Sz 3001 ((x1-x0)/g):=sx.ediv;have sv:Sz 3001 ((y1-y0)/g):=sy.ediv;obtain⟨_,ss,st⟩:=mM G1 su sv;refine af (aE (i:=2) eG.nd rfl (Or.inl rfl) (aB ((jD T).mono (by decide)) hr rfl T.aaw.m T.aaw.F.kp T.aaw.b aA (ae (aa 0 rfl) (ae (aa 1 rfl) ak ah) ah) ⟨x0,y0,x1,y1,g,a,b,rfl,two,G,rfl⟩) ?_)
 refine af (ce (aK cY (aa 2 rfl) ag) (decide_eq_false gn) (aH ?_));refine af (aE (i:=3) eG.nd rfl (Or.inl rfl) (e_ (bm (aF (aa 1 rfl) ag rfl rfl) (aF (aa 0 rfl) ag rfl rfl)) (aa 2 rfl) ⟨gp,sg.mono (by decide)⟩) ?_)
 refine af (aE (i:=4) eG.nd rfl (Or.inl rfl) (e_ (bm (aF (aa 1 rfl) ag rfl rfl) (aF (aa 0 rfl) ag rfl rfl)) (aa 2 rfl) ⟨gp,sg.mono (by decide)⟩) ?_)
 refine af (aE (i:=5) eG.nd rfl (Or.inl rfl) (aB ((lV T).mono (by decide)) hr rfl T.aaA.m T.aaA.F.kp T.aaA.b aA (ae (aa 3 rfl) (ae (aa 4 rfl) ak ah) ah) ⟨_,_,1,s,t,rfl,su.mono (by decide),sv.mono (by decide),G1,rfl⟩) ?_)
 refine af (aE (i:=6) eG.nd rfl (Or.inl rfl) (aF (aa 5 rfl) ag rfl rfl) ?_);refine af (aE (i:=7) eG.nd rfl (Or.inl rfl) (aF (aa 5 rfl) ag rfl rfl) ?_);refine af (ba (b8 (ax (aa 6 rfl) (ax (aa 7 rfl) (ax (cu (aa 4 rfl)) (ax (aa 3 rfl) (ax (bm (be (cu (aa 6 rfl)) (aF (aa 0 rfl) ag rfl rfl) (by walk_at"mul")) (be (aa 7 rfl) (aF (aa 0 rfl) ag rfl rfl) (by walk_at"mul"))) (ax (bm (be (aa 4 rfl) (aF (aa 0 rfl) ag rfl rfl) (by walk_at"mul")) (be (aa 3 rfl) (aF (aa 0 rfl) ag rfl rfl) (by walk_at"mul"))) bi bK) bK) ah) jA) ah) ah)) ?_)
 exact rfl
abbrev Pt:=Int×Int
def plt(p q:Pt):Prop:=p.1<q.1\/(p.1=q.1/\p.2<q.2)
def ac(a b p:Pt):Int:=(b.1-a.1) *(p.2-a.2)-(b.2-a.2) *(p.1-a.1)
theorem aN{a b c:Pt}(h1:plt a b)(h2:plt b c):plt a c:=by unfold plt at *;lia
theorem aY(a:Pt):¬ plt a a:=by unfold plt;lia
theorem dq(a b:Pt):plt a b\/a=b\/plt b a:=by
 unfold plt;by_cases h1:a.1=b.1
 ·by_cases h2:a.2=b.2
  ·exact .inr (.inl (GD h1 h2))
  ·lia
 ·lia
def bF(x y:Int):Prop:=0<x\/(x=0/\0<y)
theorem ay{a b:Pt}(h:plt a b):bF (b.1-a.1) (b.2-a.2):=by unfold plt bF at *;lia
theorem dw{u1 u2 v1 v2 w1 w2:Int}(hu:bF u1 u2)(hv:bF v1 v2)(hw:bF w1 w2)(h1:0<=u1*v2-u2*v1)(h2:0<=v1*w2-v2*w1):0<=u1*w2-u2*w1:=by
 unfold bF at *;by_cases hv1:v1=0
 ·subst hv1;have Uk:0<v2:=by lia
  have hw1:w1=0:=by
   have:v2*w1<=0:=by rw[GH]at h2;lia
   by_cases hz:0<w1
   ·have:=Fx Uk hz;lia
   ·lia
  subst hw1;have hw2:0<w2:=by lia
  have:=E_ (show 0<=u1 by lia) (show 0<=w2 by lia)
  simp;lia
 ·have hv':0<v1:=by lia
  have e:v1*(u1*w2-u2*w1)=u1*(v1*w2-v2*w1)+w1*(u1*v2-u2*v1):=by grind
  have p1:=E_ (show 0<=u1 by lia) h2
  have p2:=E_ (show 0<=w1 by lia) h1
  have:0<=v1*(u1*w2-u2*w1):=by lia
  exact Hs this hv'
theorem eB{u1 u2 v1 v2 w1 w2:Int}(hu:bF u1 u2)(hv:bF v1 v2)(hw:bF w1 w2)(h1:0<u1*v2-u2*v1)(h2:0<=v1*w2-v2*w1):0<u1*w2-u2*w1:=by
 unfold bF at *;by_cases hv1:v1=0
 ·subst hv1;have Uk:0<v2:=by lia
  have hw1:w1=0:=by
   have:v2*w1<=0:=by rw[GH]at h2;lia
   by_cases hz:0<w1
   ·have:=Fx Uk hz;lia
   ·lia
  subst hw1;have hw2:0<w2:=by lia
  have QD:0<u1:=by
   rcases hu with h |⟨h,_⟩
   ·exact h
   ·subst h;simp at h1
  have:=Fx QD hw2;simp;lia
 ·have hv':0<v1:=by lia
  have e:v1*(u1*w2-u2*w1)=u1*(v1*w2-v2*w1)+w1*(u1*v2-u2*v1):=by grind
  have p1:=E_ (show 0<=u1 by lia) h2
  by_cases hw1:w1=0
  ·subst hw1;have hw2:0<w2:=by lia
   have QD:0<u1:=by
    rcases hu with h |⟨h,h'⟩
    ·exact h
    ·subst h;have:=Fx h' hv';simp at h1;lia
   have:=Fx QD hw2;simp;lia
  ·have p2:=Fx (show 0<w1 by lia) h1
   have:0<v1*(u1*w2-u2*w1):=by lia
   exact G7 this (by lia)
def eK:List Pt->Prop
 |b::a::r=>plt a b/\eK (a::r)
 |_=>True
def i0:List Pt->Prop
 |c::b::a::r=>0<ac a b c/\i0 (b::a::r)
 |_=>True
def gh(done:List Pt):List Pt->Prop
 |b::a::r=>(∀q∈done,0<=ac a b q)/\gh done (a::r)
 |_=>True
theorem i0.tail:∀{b:Pt}{st:List Pt},i0 (b::st)->i0 st
 |_,[],_=>trivial
 |_,[_],_=>trivial
 |_,_::_::_,h=>h.2
theorem eK.tail:∀{b:Pt}{st:List Pt},eK (b::st)->eK st
 |_,[],_=>trivial
 |_,_::_,h=>h.2
theorem gh.tail{done:List Pt}:∀{b:Pt}{st:List Pt},gh done (b::st)->gh done st
 |_,[],_=>trivial
 |_,_::_,h=>h.2
def aM(P:Pt):List Pt->List Pt
 |b::a::r=>if ac a b P<=0 then aM P (a::r) else b::a::r
 |st=>st
def ai(row:List Pt):List Pt:=row.foldl (λst P=>P::aM P st) []
structure Kept(done st:List Pt):Prop where
 ne:st≠[]
 desc:eK st
 turns:i0 st
 cover:gh done st
 sub:∀p∈st,p∈done
structure vY(done st:List Pt)(P:Pt):Prop extends Kept done st where
 pend:∀h r,st=h::r->∀q∈done,plt h q->0<=ac h P q
theorem uH{done:List Pt}{P b a:Pt}{r:List Pt}(hP:∀q∈done,plt q P)(D:vY done (b::a::r) P)(h:ac a b P<=0):vY done (a::r) P:=by
 refine⟨⟨by simp,D.desc.tail,D.turns.tail,D.cover.tail,λp hp=>D.sub p (EB _ hp)⟩,?_⟩
 intro h' r' e q hq Qx;cases e;have RB:=D.desc.1;have QJ:=D.cover.1 q hq;have hbP:=hP b (D.sub b EF);have hqP:=hP q hq;rcases dq q b with z |z |z
 ·have l1:=ay Qx;have l2:=ay RB;have l3:=ay (aN RB hbP);have:=dw (u1:=P.1-a.1) (u2:=P.2-a.2) (v1:=b.1-a.1) (v2:=b.2-a.2) (w1:=q.1-a.1) (w2:=q.2-a.2) l3 l2 l1 (by unfold ac at h;grind) (by unfold ac at QJ;grind)
  unfold ac;grind
 ·subst z;unfold ac at *;grind
 ·have p:=D.pend b _ rfl q hq z;unfold ac at *;grind
theorem pK{done:List Pt}{P:Pt}(hP:∀q∈done,plt q P):∀st:List Pt,vY done st P->vY done (aM P st) P/\(∀b a r,aM P st=b::a::r->0<ac a b P)/\(st.getLast?=(aM P st).getLast?)
 |[],D=>absurd rfl D.ne
 |[b],D=>⟨D,λ_ _ _ e=>by simp[aM]at e,rfl⟩
 |b::a::r,D=>by
  by_cases h:ac a b P<=0
  ·rw[aM,if_pos h];obtain⟨h1,h2,h3⟩:=pK hP (a::r) (uH hP D h);exact⟨h1,h2,by rw[<-h3];simp⟩
  ·rw[aM,if_neg h];refine⟨D,λb' a' r' e=>?_,rfl⟩
   cases e;lia
theorem uP{done st:List Pt}{P:Pt}(hP:∀q∈done,plt q P)(D:vY done st P)(ht:∀b a r,st=b::a::r->0<ac a b P)(hmin:∀x,st=[x]->∀q∈done,q=x\/plt x q):Kept (done++[P]) (P::st):=by
 have up:∀(b:Pt) (r:List Pt),eK (b::r)->i0 (b::r)->gh done (b::r)->plt b P->(∀a r',r=a::r'->0<=ac a b P)->gh (done++[P]) (b::r):=by
  intro b r
  induction r generalizing b with
  |nil=>intro _ _ _ _ _;trivial
  |cons a r ih=>
   intro hd htn hc hbP hl;refine⟨λq hq=>?_,?_⟩
   ·rcases EX.mp hq with z |z
    ·exact hc.1 q z
    ·rw[EJ.mp z];exact hl a r rfl
   ·refine ih a hd.tail htn.tail hc.tail (aN hd.1 hbP) (λc r' e=>?_)
    subst e;have t:=htn.1;have g:=hl a _ rfl;have l1:=ay hd.2.1;have l2:=ay hd.1;have l3:=ay (aN hd.1 hbP);have:=dw (u1:=a.1-c.1) (u2:=a.2-c.2) (v1:=b.1-a.1) (v2:=b.2-a.2) (w1:=P.1-a.1) (w2:=P.2-a.2) l1 l2 l3 (by unfold ac at t;grind) (by unfold ac at g;grind)
    unfold ac;grind
 obtain⟨h,r,e⟩:∃h r,st=h::r:=by
  cases Rj:st with
  |nil=>exact absurd Rj D.ne
  |cons h r=>exact⟨h,r,rfl⟩
 subst e;have hhP:=hP h (D.sub h EF);refine⟨by simp,⟨hhP,D.desc⟩,?_,⟨λq hq=>?_,?_⟩,λp hp=>?_⟩
 ·cases r with
  |nil=>trivial
  |cons a r'=>exact⟨ht h a r' rfl,D.turns⟩
 ·rcases EX.mp hq with z |z
  ·rcases dq q h with y |y |y
   ·cases r with
    |nil=>
     rcases hmin h rfl q z with w |w
     ·subst w;exact absurd y (aY _)
     ·exact absurd (aN y w) (aY _)
    |cons a r'=>
     have t:=ht h a r' rfl;have c:=D.cover.1 q z;have l1:=ay D.desc.1;have l2:=ay y;have l3:=ay hhP;have:=dw (u1:=h.1-q.1) (u2:=h.2-q.2) (v1:=h.1-a.1) (v2:=h.2-a.2) (w1:=P.1-h.1) (w2:=P.2-h.2) l2 l1 l3 (by unfold ac at c;grind) (by unfold ac at t;grind)
     unfold ac;grind
   ·subst y;unfold ac;grind
   ·exact D.pend h r rfl q z y
  ·rw[EJ.mp z];unfold ac;grind
 ·exact up h r D.desc D.turns D.cover hhP (λa r' e=>NU (ht h a r' (by rw[e])))
 ·rcases EH.mp hp with z |z
  ·subst z;exact EW _ EF
  ·exact E8 _ (D.sub p z)
theorem kO(row:List Pt)(P:Pt):ai (row++[P])=P::aM P (ai row):=by
 unfold ai;rw[Im];rfl
theorem kc{row:List Pt}(hs:row.Pairwise plt):∀n,0<n->n<=row.length->Kept (row.take n) (ai (row.take n))/\(ai (row.take n)).getLast?=row.head?/\(ai (row.take n)).head?=row[n-1]?
 |0,h,_=>absurd h (by decide)
 |1,_,h=>by
  cases row with
  |nil=>simp at h
  |cons a r=>
   simp only[List.take_succ_cons,MX];exact⟨⟨by simp[ai],trivial,trivial,trivial,λp hp=>by simpa [ai,aM] using hp⟩,rfl,rfl⟩
 |n+2,_,h=>by
  obtain⟨K,hl,hh⟩:=kc hs (n+1) (by lia) (by lia)
  have hn:n+1<row.length:=by lia
  have et:row.take (n+2)=row.take (n+1)++[row[n+1]]:=by rw[List.take_succ_eq_append_getElem hn]
  have hP:∀q∈row.take (n+1),plt q row[n+1]:=λq hq=>by
   obtain⟨i,hi,e⟩:=Ji.mp hq;subst e;exact FA.mp hs i (n+1) (by lia) hn (by lia)
  have D:vY (row.take (n+1)) (ai (row.take (n+1))) row[n+1]:=⟨K,λh' r e q hq Qx=>by
   exfalso
   rw[e]at hh;simp only[Ou,Nr]at hh;have TC:n<row.length:=by lia
   rw[Ey TC]at hh;have hh':=Fk hh;obtain⟨i,hi,e2⟩:=Ji.mp hq;subst e2;rw[hh']at Qx;rcases Gy i n with z |z
   ·exact aY _ (aN Qx (FA.mp hs i n (by lia) TC z))
   ·have:i=n:=by lia
    subst this;exact aY _ Qx⟩
  obtain⟨D2,ht,Q5⟩:=pK hP _ D;rw[et,kO];refine⟨uP hP D2 ht (λx e q hq=>?_),?_,?_⟩
  ·rw[e,hl]at Q5;simp at Q5;obtain⟨i,hi,e2⟩:=Ji.mp hq;have h0:0<row.length:=by lia
   have e3:row[0]=x:=by
    rw[GB,Ey h0]at Q5;exact Fk Q5
   subst e2;rcases KM i with z |z
   ·subst z;exact .inl e3
   ·right;rw[<-e3];exact FA.mp hs 0 i h0 (by lia) z
  ·rw[List.getLast?_cons,<-Q5,hl];cases row with
   |nil=>simp at hn
   |cons a r=>rfl
  ·simp only[Ou,Nr];rw[show n+2-1=n+1 by lia,Ey hn]
theorem bY{row:List Pt}(hs:row.Pairwise plt)(h:row≠[]):Kept row (ai row)/\(ai row).getLast?=row.head?/\(ai row).head?=row.getLast?:=by
 have h0:0<row.length:=FJ.mpr h;obtain⟨h1,h2,h3⟩:=kc hs row.length h0 (EL _);rw[Gd]at h1 h2 h3;exact⟨h1,h2,by rw[h3,FY]⟩
theorem jc{u1 u2 v1 v2 w1 w2:Int}(hu:bF u1 u2)(hv:bF v1 v2)(hw:bF w1 w2)(h1:0<=u1*v2-u2*v1)(h2:0<v1*w2-v2*w1):0<u1*w2-u2*w1:=by
 unfold bF at *;by_cases hv1:v1=0
 ·subst hv1;have Uk:0<v2:=by lia
  have:=E_ (show 0<=v2 by lia) (show 0<=w1 by lia)
  simp at h2;lia
 ·have hv':0<v1:=by lia
  have QD:0<u1:=by
   rcases hu with h |⟨h,h'⟩
   ·exact h
   ·subst h;have:=Fx h' hv';simp at h1;lia
  have e:v1*(u1*w2-u2*w1)=u1*(v1*w2-v2*w1)+w1*(u1*v2-u2*v1):=by grind
  have p1:=Fx QD h2;have p2:=E_ (show 0<=w1 by lia) h1
  have q:0<v1*(u1*w2-u2*w1):=by lia
  exact G7 q hv'
def low(row:List Pt)(p:Pt):Prop:=∀a∈row,∀b∈row,plt a p->plt p b->0<ac a p b
theorem Be{row:List Pt}{p:Pt}:∀(st:List Pt) (n:Pt),eK (n::st)->i0 (n::st)->gh row (n::st)->p∈st->(∀l,(n::st).getLast?=some l->plt l p)->
  ∃n' q,0<ac q p n'/\plt q p/\plt p n'/\(∀x∈row,0<=ac p n' x)/\(∀x∈row,0<=ac q p x)
 |[],n,_,_,_,hp,_=>by simp at hp
 |h::r,n,D,T,C,hp,hl=>by
  by_cases e:h=p
  ·subst e;cases r with
   |nil=>exact absurd (hl h (by simp)) (aY h)
   |cons q r'=>exact⟨n,q,T.1,D.2.1,D.1,C.1,C.2.1⟩
  ·have QW:p∈r:=by
    rcases EH.mp hp with z |z
    ·exact absurd z.symm e
    ·exact z
   exact Be r h D.tail T.tail C.tail QW (λl QG=>hl l (by rw[FC];exact QG))
theorem nD{row:List Pt}(hs:row.Pairwise plt){p:Pt}(hp:p∈ai row):low row p:=by
 intro a ha b hb hap TL;have Qv:row≠[]:=λz=>by rw[z]at ha;simp at ha
 obtain⟨K,Q5,RY⟩:=bY hs Qv
 have mn:∀x∈row,∀m,row.head?=some m->x=m\/plt m x:=λx hx m hm=>by
  cases row with
  |nil=>simp at hx
  |cons y r=>
   cases hm;rcases EH.mp hx with z |z
   ·exact .inl z
   ·exact .inr ((Fq.mp hs).1 x z)
 have mx:∀x∈row,∀m,row.getLast?=some m->x=m\/plt x m:=λx hx m hm=>by
  obtain⟨i,hi⟩:=FO.mp hx;have TJ:=(ET.mp hi).1;rw[FY]at hm;have hml:=(ET.mp hm).1;rcases Fg (show i<=row.length-1 by lia) with z |z
  ·right
   have h1:=FA.mp hs i (row.length-1) TJ hml z;rw[(ET.mp hi).2,(ET.mp hm).2]at h1;exact h1
  ·left;rw[z,hm]at hi;exact (Fk hi).symm
 cases Rj:ai row with
 |nil=>exact absurd Rj K.ne
 |cons n st=>
  rw[Rj]at K Q5 RY hp;have hn:row.getLast?=some n:=by rw[<-RY];rfl
  have hpn:p∈st:=by
   rcases EH.mp hp with z |z
   ·rcases mx b hb n hn with y |y
    ·rw[y,<-z]at TL;exact absurd TL (aY p)
    ·rw[z]at TL;exact absurd (aN TL y) (aY n)
   ·exact z
  obtain⟨n',q,t,qp,pn,c1,c2⟩:=Be st n K.desc K.turns K.cover hpn (λl hl=>by
   rw[Q5]at hl;rcases mn a ha l hl with y |y
   ·rw[<-y];exact hap
   ·exact aN y hap)
  have g1:=c2 a ha;have g2:=c1 b hb;unfold ac at *;have k1:0<=(p.1-a.1) *(p.2-q.2)-(p.2-a.2) *(p.1-q.1):=by grind
  have k2:0<(p.1-q.1) *(n'.2-p.2)-(p.2-q.2) *(n'.1-p.1):=by grind
  have k3:0<=(n'.1-p.1) *(b.2-p.2)-(n'.2-p.2) *(b.1-p.1):=by grind
  have k4:=eB (ay qp) (ay pn) (ay TL) k2 k3;have k5:=jc (ay hap) (ay qp) (ay TL) k1 k4;grind
theorem xU{row:List Pt}{p:Pt}:∀(st:List Pt) (h:Pt),eK (h::st)->gh row (h::st)->p∈row->p ∉ h::st->plt p h->(∀l,(h::st).getLast?=some l->plt l p)->∃a∈h::st,∃b∈h::st,plt a p/\plt p b/\0<=ac a b p
 |[],h,_,_,_,_,hp,hl=>absurd (aN hp (hl h (by simp))) (aY p)
 |a::r,h,D,C,hr,Rg,hp,hl=>by
  rcases dq p a with z |z |z
  ·obtain⟨x,hx,y,hy,k⟩:=xU r a D.tail C.tail hr (λw=>Rg (EB _ w)) z (λl QG=>hl l (by rw[FC];exact QG))
   exact⟨x,EB _ hx,y,EB _ hy,k⟩
  ·exact absurd (by rw[z];simp) Rg
  ·exact⟨a,by simp,h,by simp,z,hp,C.1 p hr⟩
theorem gap{row:List Pt}(hs:row.Pairwise plt){p:Pt}(hp:p∈row)(Rg:p ∉ ai row):∃a∈ai row,∃b∈ai row,plt a p/\plt p b/\ac a p b<=0:=by
 have Qv:row≠[]:=λz=>by rw[z]at hp;simp at hp
 obtain⟨K,Q5,RY⟩:=bY hs Qv;cases Rj:ai row with
 |nil=>exact absurd Rj K.ne
 |cons n st=>
  rw[Rj]at K Q5 RY Rg;have hn:row.getLast?=some n:=by rw[<-RY];rfl
  have pn:plt p n:=by
   obtain⟨i,hi⟩:=FO.mp hp;have TJ:=(ET.mp hi).1;rw[FY]at hn;have hml:=(ET.mp hn).1;rcases Fg (show i<=row.length-1 by lia) with z |z
   ·have h1:=FA.mp hs i (row.length-1) TJ hml z;rw[(ET.mp hi).2,(ET.mp hn).2]at h1;exact h1
   ·rw[z,hn]at hi;exact absurd (by rw[<-Fk hi];simp) Rg
  obtain⟨a,ha,b,hb,k1,k2,k3⟩:=xU st n K.desc K.cover hp Rg pn (λl hl=>by
   have QG:=hl;rw[Q5]at hl;cases row with
   |nil=>simp at hp
   |cons y r=>
    cases hl;rcases EH.mp hp with z |z
    ·exact absurd (by rw[z];exact HA QG) Rg
    ·exact (Fq.mp hs).1 p z)
  refine⟨a,ha,b,hb,k1,k2,?_⟩;unfold ac at *;grind
theorem vA{row Rh:List Pt}(hs:row.Pairwise plt)(SU:Rh.Pairwise plt)(h1:∀p∈Rh,p∈row)(h2:∀p∈ai row,p∈Rh)(sub:∀(r:List Pt) (q:Pt),q∈ai r->q∈r)(p:Pt):p∈ai Rh↔p∈ai row:=by
 constructor
 ·intro hp;refine FI λRg=>?_
  obtain⟨a,ha,b,hb,k1,k2,k3⟩:=gap hs (h1 p (sub _ _ hp)) Rg;have:=nD SU hp a (h2 a ha) b (h2 b hb) k1 k2;lia
 ·intro hp;refine FI λRg=>?_
  obtain⟨a,ha,b,hb,k1,k2,k3⟩:=gap SU (h2 p hp) Rg;have:=nD hs hp a (h1 a (sub _ _ ha)) b (h1 b (sub _ _ hb)) k1 k2;lia
abbrev Szp(m:Nat)(p:P2):Prop:=Sz m p.1/\Sz m p.2
theorem uv(b:P2)(r:List P2):atI ((b::r).reverse.map pu) (-1)=some (pu b):=by
 have h:ixN ((b::r).reverse.map pu).length (-1)=some r.length:=by
  unfold ixN;simp;lia
 unfold atI;rw[h];simp
theorem si(b a:P2)(r:List P2):atI ((b::a::r).reverse.map pu) (-2)=some (pu a):=by
 have h:ixN ((b::a::r).reverse.map pu).length (-2)=some r.length:=by
  unfold ixN;simp;lia
 unfold atI;rw[h];simp
theorem jv(P:P2):∀st:List P2,(aM P st).length<=st.length
 |[]=>EL _
 |[_]=>EL _
 |b::a::r=>by
  unfold aM;split
  ·have:=jv P (a::r);simp only[E9]at *;lia
  ·exact EL _
theorem tP(P:P2):∀(st:List P2) (q:P2),q∈aM P st->q∈st
 |[],_,h=>h
 |[_],_,h=>h
 |b::a::r,q,h=>by
  unfold aM at h;split at h
  ·exact EB _ (tP P (a::r) q h)
  ·exact h
theorem fA{row:List P2}{i:Nat}{P:P2}(h:row[i]?=some P):ai (row.take (i+1))=P::aM P (ai (row.take i)):=by
 rw[GJ,h];exact kO _ _
theorem gB(row:List P2):∀i,(ai (row.take i)).length<=i
 |0=>by simp[ai]
 |i+1=>by
  have ih:=gB row i;cases h:row[i]? with
  |none=>rw[GJ,h];simp;lia
  |some P=>
   rw[fA h];have:=jv P (ai (row.take i));simp only[E9];lia
theorem fj(row:List P2):∀i q,q∈ai (row.take i)->q∈row
 |0,q,h=>by simp[ai]at h
 |i+1,q,h=>by
  cases hi:row[i]? with
  |none=>rw[GJ,hi]at h;exact fj row i q (by simpa using h)
  |some P=>
   rw[fA hi]at h;rcases EH.mp h with e |e
   ·rw[e];exact EV hi
   ·exact fj row i q (tP P _ q e)
theorem yc(n:Int):decide (sgn n<1)=decide (n<=0):=by
 have h:sgn n<1↔n<=0:=by
  unfold sgn;split
  ·lia
  ·split <;>lia
 exact decide_eq_decide.mpr h
theorem iI(l:List P2):g7 (l.map pu) none (some (-1))=l.dropLast.map pu:=by
 unfold g7 HT.sIx;rw[Ls,List.dropLast_eq_take];simp
 try lia
def am(pts:List P2):List P2:=if (ST.srt pts).length=1 then ST.srt pts else (ai (ST.srt pts)).reverse.dropLast++(ai (ST.srt pts).reverse).reverse.dropLast
theorem cE(a b:Pt):plt a b↔ST.ltP a b=true:=by unfold plt ST.ltP;simp
theorem iB{l:List Pt}:ST.Asc l↔l.Pairwise plt:=⟨λh=>h.imp λ{a b} k=>(cE a b).mpr k,λh=>h.imp λ{a b} k=>(cE a b).mp k⟩
theorem iN:∀{st:List Pt},eK st->st.Pairwise (λx y=>plt y x)
 |[],_=>IZ
 |[_],_=>by simp
 |b::a::r,h=>by
  have ih:=iN h.2;refine Fq.mpr ⟨λx hx=>?_,ih⟩
  rcases EH.mp hx with z |z
  ·rw[z];exact h.1
  ·exact aN ((Fq.mp ih).1 x z) h.1
theorem bJ(row:List Pt)(q:Pt)(h:q∈ai row):q∈row:=by
 have:=fj row row.length q;rw[Gd]at this;exact this h
theorem dX{row:List Pt}(hs:row.Pairwise plt):ST.Asc (ai row).reverse:=by
 by_cases Qv:row=[]
 ·subst Qv;exact IZ
 ·exact iB.mpr (HY.mpr (iN (bY hs Qv).1.desc))
theorem pP{row Rh:List Pt}(hs:row.Pairwise plt)(SU:Rh.Pairwise plt)(h1:∀p∈Rh,p∈row)(h2:∀p∈ai row,p∈Rh):ai Rh=ai row:=by
 have e:=ST.asc_one (dX SU) (dX hs) λz=>by
  rw[E3,E3];exact vA hs SU h1 h2 bJ z
 exact List.reverse_inj.mp e
def ng(p:Pt):Pt:=(-p.1,-p.2)
theorem gJ(p:Pt):ng (ng p)=p:=by unfold ng;simp
theorem CJ(l:List Pt):(l.map ng).map ng=l:=by
 rw[Fn,show ng ∘ ng=id from funext gJ,Qj]
theorem jR(a b c:Pt):ac (ng a) (ng b) (ng c)=ac a b c:=by unfold ac ng;grind
theorem jK{a b:Pt}(h:plt a b):plt (ng b) (ng a):=by unfold plt ng at *;simp;lia
theorem xu(P:Pt):∀st:List Pt,aM (ng P) (st.map ng)=(aM P st).map ng
 |[]=>rfl
 |[_]=>rfl
 |b::a::r=>by
  show aM (ng P) (ng b::ng a::r.map ng)=_;unfold aM;rw[jR];split
  ·exact xu P (a::r)
  ·rfl
theorem gs:∀row:List Pt,ai (row.map ng)=(ai row).map ng:=λrow=>by
 have key:∀(l:List Pt) (st:List Pt),(l.map ng).foldl (λst P=>P::aM P st) (st.map ng)=(l.foldl (λst P=>P::aM P st) st).map ng:=by
  intro l
  induction l with
  |nil=>intro st;rfl
  |cons p r ih=>
   intro st;rw[Fh,Ho,Ho,xu];exact ih (p::aM p st)
 exact key row []
theorem c6{row:List Pt}(hs:row.Pairwise plt):(row.reverse.map ng).Pairwise plt:=by
 rw[FU,HY];exact hs.imp λ{a b} h=>jK h
theorem bN(row:List Pt):ai row.reverse=(ai (row.reverse.map ng)).map ng:=by rw[gs,CJ]
theorem oe{row Rh:List Pt}(hs:row.Pairwise plt)(SU:Rh.Pairwise plt)(h1:∀p∈Rh,p∈row)(h2:∀p∈ai row.reverse,p∈Rh):ai Rh.reverse=ai row.reverse:=by
 rw[bN row,bN Rh];congr 1;refine pP (c6 hs) (c6 SU) (λp hp=>?_) (λp hp=>?_)
 ·obtain⟨q,hq,rfl⟩:=ED.mp hp;exact ED.mpr ⟨q,E3.mpr (h1 q (E3.mp hq)),rfl⟩
 ·rw[gs]at hp;obtain⟨q,hq,rfl⟩:=ED.mp hp;exact ED.mpr ⟨q,E3.mpr (h2 q hq),rfl⟩
theorem ends{row:List Pt}(hs:row.Pairwise plt)(h2:2<=row.length):∃mn mx t1 t2,ai row=mx::t1/\ai row.reverse=mn::t2/\mn∈t1/\mx∈t2/\(∀p∈row,p=mn\/plt mn p)/\(∀p∈row,p=mx\/plt p mx)/\mn∈row/\mx∈row:=by
 have Qv:row≠[]:=λz=>by rw[z]at h2;simp at h2
 obtain⟨K,hl,hh⟩:=bY hs Qv;have hneR:row.reverse.map ng≠[]:=by simpa using Qv
 obtain⟨KR,hlR,hhR⟩:=bY (c6 hs) hneR;have e1:row.head?=some row[0]:=by rw[GB];exact Ey (by lia)
 have e2:row.getLast?=some row[row.length-1]:=by rw[FY];exact Ey (by lia)
 have l01:plt row[0] row[row.length-1]:=FA.mp hs 0 (row.length-1) (by lia) (by lia) (by lia)
 have mnA:∀p∈row,p=row[0]\/plt row[0] p:=λp hp=>by
  obtain⟨i,hi,rfl⟩:=MR.mp hp;rcases KM i with z |z
  ·left;subst z;rfl
  ·right;exact FA.mp hs 0 i (by lia) hi z
 have mxA:∀p∈row,p=row[row.length-1]\/plt p row[row.length-1]:=λp hp=>by
  obtain⟨i,hi,rfl⟩:=MR.mp hp;rcases Fg (show i<=row.length-1 by lia) with z |z
  ·right;exact FA.mp hs i (row.length-1) hi (by lia) z
  ·left;subst z;rfl
 have ne:row[0]≠row[row.length-1]:=λz=>by rw[z]at l01;exact aY _ l01
 generalize row[0]=mn at *;generalize row[row.length-1]=mx at *;have mmn:mn∈row:=NM e1;have mmx:mx∈row:=HA e2;rw[e1]at hl;rw[e2]at hh
 have Tu:(ai row.reverse).getLast?=some mx:=by
  rw[bN,JX,hlR,La,JD,e2];simp[gJ]
 have T7:(ai row.reverse).head?=some mn:=by
  rw[bN,La,hhR,JX,IW,e1];simp[gJ]
 cases hb:ai row with
 |nil=>rw[hb]at hh;cases hh
 |cons x t1=>
  rw[hb]at hh hl;cases hh;cases hbR:ai row.reverse with
  |nil=>rw[hbR]at T7;cases T7
  |cons y t2=>
   rw[hbR]at T7 Tu;cases T7;refine⟨_,_,t1,t2,rfl,rfl,?_,?_,mnA,mxA,mmn,mmx⟩
   ·cases t1 with
    |nil=>simp at hl;exact absurd hl.symm ne
    |cons z r=>rw[FC]at hl;exact HA hl
   ·cases t2 with
    |nil=>simp at Tu;exact absurd Tu ne
    |cons z r=>rw[FC]at Tu;exact HA Tu
theorem zb(st:List Pt):st.reverse.dropLast=st.tail.reverse:=by
 cases st with
 |nil=>rfl
 |cons h t=>simp
theorem gz{l:List Pt}:l.reverse.Nodup↔l.Nodup:=by
 unfold List.Nodup;rw[HY];exact⟨λh=>h.imp λk=>Ne.symm k,λh=>h.imp λk=>Ne.symm k⟩
theorem dh:∀{l m:List Pt},l.Nodup->(∀x∈l,x∈m)->l.length<=m.length
 |[],_,_,_=>FH _
 |x::l,m,h,hs=>by
  obtain⟨h1,h2⟩:=Gh.mp h;have hx:x∈m:=hs x EF;have ih:=dh (m:=m.erase x) h2 λy hy=>(Kj (λe=>h1 (by rw[<-e];exact hy))).mpr (hs y (EB _ hy))
  rw[Jw hx]at ih;have:=F_ hx;simp only[E9];lia
theorem dS(pts:List Pt):(ST.srt pts).Pairwise plt:=iB.mp (ST.srt_asc pts)
theorem gi{pts:List Pt}(h:2<=(ST.srt pts).length):am pts=(ai (ST.srt pts)).tail.reverse++(ai (ST.srt pts).reverse).tail.reverse:=by
 unfold am;rw[if_neg (by lia),zb,zb]
theorem ij{pts:List Pt}(h:pts≠[]):am pts≠[]:=by
 have hs:ST.srt pts≠[]:=λz=>by
  obtain⟨p,r,rfl⟩:=KB h;have:=(ST.srt_mem p (p::r)).mpr EF;rw[z]at this;simp at this
 by_cases h1:(ST.srt pts).length=1
 ·unfold am;rw[if_pos h1];exact hs
 ·have h2:2<=(ST.srt pts).length:=by have:=FJ.mpr hs;lia
  obtain⟨mn,mx,t1,t2,e1,e2,m1,m2,_⟩:=ends (dS pts) h2;rw[gi h2,e1,e2];intro z;have:t1.reverse=[]:=(List.append_eq_nil_iff.mp z).1;rw[List.reverse_eq_nil_iff.mp this]at m1;simp at m1
theorem cf(pts:List Pt):(am pts).Nodup:=by
 have nd:∀{l:List Pt},l.Pairwise plt->l.Nodup:=λh=>h.imp λ{a b} k e=>by rw[e]at k;exact aY b k
 by_cases h2:2<=(ST.srt pts).length
 ·have hs:=dS pts;obtain⟨mn,mx,t1,t2,e1,e2,m1,m2,SR,hmx,i1,i2⟩:=ends hs h2;have n1:(mx::t1).Nodup:=by rw[<-e1];exact gz.mp (nd (iB.mp (dX hs)))
  have n2:(mn::t2).Nodup:=by
   rw[<-e2,bN];have:=gz.mp (nd (iB.mp (dX (c6 hs))));refine FU.mpr (this.imp λ{a b} RB e=>RB ?_)
   rw[<-gJ a,e,gJ]
  obtain⟨x1,y1⟩:=Gh.mp n1;obtain⟨x2,y2⟩:=Gh.mp n2;rw[gi h2,e1,e2,Ic,Ic,F1];refine⟨gz.mpr y1,gz.mpr y2,λp hp q hq=>?_⟩
  rintro rfl;have p1:p∈t1:=E3.mp hp;have p2:p∈t2:=E3.mp hq;have b1:p∈ai (ST.srt pts):=by rw[e1];exact EB _ p1
  have b2:p∈ai (ST.srt pts).reverse:=by rw[e2];exact EB _ p2
  have pr:=bJ _ _ b1;have l1:plt mn p:=(SR p pr).resolve_left λe=>x2 (by rw[<-e];exact p2)
  have l2:plt p mx:=(hmx p pr).resolve_left λe=>x1 (by rw[<-e];exact p1)
  have d1:=nD hs b1 mn i1 mx i2 l1 l2;have b3:ng p∈ai ((ST.srt pts).reverse.map ng):=by rw[gs];exact ED.mpr ⟨p,b2,rfl⟩
  have d2:=nD (c6 hs) b3 (ng mx) (ED.mpr ⟨mx,E3.mpr i2,rfl⟩) (ng mn) (ED.mpr ⟨mn,E3.mpr i1,rfl⟩) (jK l2) (jK l1);rw[jR]at d2;unfold ac at d1 d2;grind
 ·unfold am;split
  ·exact nd (dS pts)
  ·have e:ST.srt pts=[]:=Gq.mp (by lia)
   rw[e];exact K8
theorem bj(pts:List Pt):∀p∈am pts,p∈pts:=λp hp=>by
 unfold am at hp;split at hp
 ·exact (ST.srt_mem p pts).mp hp
 ·rcases EX.mp hp with h |h
  ·exact (ST.srt_mem p pts).mp (bJ _ _ (E3.mp (MS _ h)))
  ·exact (ST.srt_mem p pts).mp (E3.mp (bJ _ _ (E3.mp (MS _ h))))
theorem iy(pts:List Pt):(am pts).length<=pts.length:=dh (cf pts) (bj pts)
theorem gy(pts:List Pt):am (am pts)=am pts:=by
 by_cases h2:2<=(ST.srt pts).length
 ·have hs:=dS pts;obtain⟨mn,mx,t1,t2,e1,e2,m1,m2,SR,hmx,i1,i2⟩:=ends hs h2;have ec:=gi h2
  have mem1:∀p∈ai (ST.srt pts),p∈am pts:=λp hp=>by
   rw[ec,e1,e2,Ic,Ic];rw[e1]at hp;rcases EH.mp hp with z |z
   ·rw[z];exact EW _ (E3.mpr m2)
   ·exact E8 _ (E3.mpr z)
  have mem2:∀p∈ai (ST.srt pts).reverse,p∈am pts:=λp hp=>by
   rw[ec,e1,e2,Ic,Ic];rw[e2]at hp;rcases EH.mp hp with z |z
   ·rw[z];exact E8 _ (E3.mpr m1)
   ·exact EW _ (E3.mpr z)
  have SU:=dS (am pts);have sub:∀p∈ST.srt (am pts),p∈ST.srt pts:=λp hp=>(ST.srt_mem p pts).mpr (bj pts p ((ST.srt_mem p _).mp hp))
  have q1:=pP hs SU sub λp hp=>(ST.srt_mem p _).mpr (mem1 p hp)
  have q2:=oe hs SU sub λp hp=>(ST.srt_mem p _).mpr (mem2 p hp)
  have len:2<=(ST.srt (am pts)).length:=by
   have a1:mn∈ST.srt (am pts):=(ST.srt_mem _ _).mpr (mem1 mn (by rw[e1];exact EB _ m1))
   have a2:mx∈ST.srt (am pts):=(ST.srt_mem _ _).mpr (mem1 mx (by rw[e1];exact EF))
   have ne:mn≠mx:=λz=>by
    have nd:=cf pts;rw[ec,e1,e2,Ic,Ic,F1]at nd;exact nd.2.2 mn (E3.mpr m1) mx (E3.mpr m2) z
   have:=dh (l:=[mn,mx]) (m:=ST.srt (am pts)) (by simp[ne]) (λx hx=>by
    rcases EH.mp hx with z |z
    ·rw[z];exact a1
    ·rw[EJ.mp z];exact a2)
   exact this
  rw[gi len,q1,q2,<-ec]
 ·have e:am pts=ST.srt pts:=by
   unfold am;split
   ·rfl
   ·have e:ST.srt pts=[]:=Gq.mp (by lia)
    rw[e];rfl
  rw[e];have e3:ST.srt (ST.srt pts)=ST.srt pts:=ST.asc_srt (ST.srt_asc pts);unfold am;rw[e3];split
  ·rfl
  ·have e:ST.srt pts=[]:=Gq.mp (by lia)
   rw[e];rfl
def uI:List U->Out->Prop:=λus o=>∃P Q R:P2,us=[pu P,pu Q,pu R]/\Szp 5000 P/\Szp 5000 Q/\Szp 5000 R/\o=.val (.int (sgn (ac P Q R)))
theorem t4(T:Txt w K mg):aZ P w K mg base (CXF P w) 2 T.aaP.a T.aaP.d ["P","Q","R"] (spU K (uI)):=by
 refine a9 T.aaP.F zH (λus o h=>?_) (λQA A outer s H E O us o hr h=>?_)
 ·obtain⟨P,Q,R,rfl,⟨p1,p2⟩,⟨q1,q2⟩,⟨r1,r2⟩,rfl⟩:=h;rfl
 obtain⟨P,Q,R,rfl,⟨p1,p2⟩,⟨q1,q2⟩,⟨r1,r2⟩,rfl⟩:=h;refine Ws.nox ?_;refine af (ba (aB ((sW T).mono (by decide)) hr rfl T.aaN.m T.aaN.F.kp T.aaN.b aA (ae (bm (be (bm (aF (aa 1 rfl) ag rfl rfl) (aF (aa 0 rfl) ag rfl rfl)) (bm (aF (aa 2 rfl) ag rfl rfl) (aF (aa 0 rfl) ag rfl rfl)) (by walk_at"mul")) (be (bm (aF (aa 1 rfl) ag rfl rfl) (aF (aa 0 rfl) ag rfl rfl)) (bm (aF (aa 2 rfl) ag rfl rfl) (aF (aa 0 rfl) ag rfl rfl)) (by walk_at"mul"))) ak bK) ⟨_,rfl,rfl⟩) ?_)
 exact rfl
def qS:List U->Out->Prop:=λus o=>∃row:List P2,us=[lp row]/\(∀p∈row,Szp 5000 p)/\row.length<=900/\o=.new ((ai row).reverse.map pu)
theorem gM(T:Txt w K mg):aZ P w K mg base (CXF P w) 3 T.aad.a T.aad.d ["row"] (spU K (qS)):=by
 refine a9 T.aad.F eV (λus o h=>?_) (λQA A outer s H E O us o hr h=>?_)
 ·obtain⟨row,rfl,sz,hl,rfl⟩:=h;rfl
 obtain⟨row,rfl,sz,hl,rfl⟩:=h;refine Ws.nox ?_;refine af (gI (i:=1) eV.nd rfl (Or.inl rfl) (b9 bi) ?_);refine af (dN (λst:List P2=>[some (.val (lp row)),some (.own (st.reverse.map pu)),none]) (λi st=>st=ai (row.take i)) rfl PassesOwn.never (cF (aa 0 rfl) (.inl rfl)) ?h0 ?hs ?hd)
 case h0=>exact⟨[],rfl,rfl,rfl,trivial⟩
 case hs=>
  rintro H0 i x _ hx rfl;obtain⟨P,hP,mP,rfl⟩:=kn hx;have hi:i<row.length:=aw hP;have sP:=sz P mP;refine⟨_,(d8 (i:=2) eV.nd rfl (Or.inl rfl)),?_⟩;have len0:=gB row i;refine gW (λps=>SubP [some (.val (lp row)),some (.own ((aM P (ai (row.take i))).reverse.map pu)),some (.val (pu P))] ps) (ix (λs2:List P2=>[some (.val (lp row)),some (.own (s2.reverse.map pu)),some (.val (pu P))]) (λm s2=>m=s2.length/\aM P s2=aM P (ai (row.take i))/\(∀p∈s2,p∈row)/\s2.length<=i) PassesOwn.never ?h0 ?hs) ?hj
  case h0=>exact⟨_,_,⟨rfl,rfl,λq hq=>fj row i q hq,len0⟩,rfl,rfl,rfl,trivial⟩
  case hs=>
   rintro m s2 ⟨rfl,e2,sub,RQ⟩
   match s2,e2,sub,RQ with
   |[],e2,sub,RQ=>
    refine⟨false,?_,λh=>(nomatch h),λh ps QM=>e2 ▸ QM⟩
    exact (Tw.t (iO (aK gD (eY 1 rfl rfl T.aag) ag) rfl))
   |[b],e2,sub,RQ=>
    refine⟨false,?_,λh=>(nomatch h),λh ps QM=>e2 ▸ QM⟩
    exact (Tw.t (iO (aK gD (eY 1 rfl rfl T.aag) ag) rfl))
   |b::a::r,e2,sub,RQ=>
    have sa:=sz a (sub a (by simp))
    have sb:=sz b (sub b (by simp))
    have e1:decide ((1:Int)<((((b::a::r).reverse.map pu).length:Nat):Int))=true:=decide_eq_true (by simp;lia)
    refine⟨decide ((1:Int)<((((b::a::r).reverse.map pu).length:Nat):Int)) && decide (sgn (ac a b P)<1),?_,λh=>?_,λh ps QM=>?_⟩
    ·exact (Tw.t (pH (aK gD (eY 1 rfl rfl T.aag) ag) (λhz=>(nU (aK iC (aB ((t4 T).mono (by decide)) hr rfl T.aaP.m T.aaP.F.kp T.aaP.b aA (ae (i7 1 rfl (cu ag) (si b a r)) (ae (i7 1 rfl (cu ag) (uv b (a::r))) (ae (aa 2 rfl) ak ah) bh) bh) ⟨a,b,P,rfl,sa,sb,sP,rfl⟩) ag)))))
    ·rw[e1,Iy,yc]at h;have hd:=dTb h;refine af (y_ 1 rfl (by simp) (aH ?_))
     refine⟨_,a::r,?_,⟨rfl,?_,λq hq=>sub q (EB _ hq),?_⟩,rfl,?_,rfl,trivial⟩
     ·simp
     ·rw[←e2];conv=>rhs;unfold aM
      rw[if_pos hd]
     ·simp only[E9]at *;lia
     ·exact congrArg (λl=>some (Sl.own l)) (by simp)
    ·rw[e1,Iy,yc]at h;have hd:=dFb h
     have e3:aM P (b::a::r)=b::a::r:=by conv=>lhs;unfold aM
                                        rw[if_neg hd]
     rw[<-e2,e3];exact QM
  case hj=>
   intro ps QM;refine c8 ?_ QM;have e4:=fA hP;have T8:=jv P (ai (row.take i));refine af (fh 1 rfl (aa 2 rfl) (by rw[Ex,FD];exact aG (by lia)) (aH ?_))
   refine⟨_,rfl,rfl,?_,trivial⟩;exact congrArg (λl=>some (Sl.own l)) (by rw[e4];simp)
 case hd=>
  rintro st ps Rj QM;refine c8 ?_ QM;refine af (qX 1 rfl ?_);rw[Rj];simp
theorem wH{m:Nat}{pts:List P2}(h:∀p∈pts,Szp m p):∀p∈ST.srt pts,Szp m p:=λp hp=>h p ((ST.srt_mem p pts).mp hp)
theorem gj(row:List P2):(ai row).length<=row.length:=by
 have:=gB row row.length
 rwa [Gd]at this
def q0:List U->Out->Prop:=λus o=>∃pts:List P2,us=[lp pts]/\(∀p∈pts,Szp 5000 p)/\pts.length<64/\pts≠[]/\o=.new ((am pts).map pu)
theorem kI(T:Txt w K mg):aZ P w K mg base (CXF P w) 4 T.aax.a T.aax.d ["points"] (spU K (q0)):=by
 refine a9 T.aax.F f9 (λus o h=>?_) (λQA A outer s H E O us o hr h=>?_)
 ·obtain⟨pts,rfl,sz,hl,Qv,rfl⟩:=h;rfl
 obtain⟨pts,rfl,sz,hl,Qv,rfl⟩:=h;refine Ws.nox ?_;have hml:((pts.map pu).length:Int)=(pts.length:Int):=by rw[Ex]
 have hpos:0<pts.length:=FJ.mpr Qv;refine af (ce (aK cY (aq (bM rfl) rfl T.aag Fj (ae (aa 0 rfl) ak ah)) ag) (by rw[hml];exact decide_eq_false (by lia)) (aH ?_))
 have sl:=ST.srt_len pts;have Tr:(((ST.srt pts).map pu).length:Int)=((ST.srt pts).length:Int):=by rw[Ex]
 have szs:=wH sz;by_cases h1:(ST.srt pts).length=1
 ·refine af (gI (i:=1) f9.nd rfl (Or.inl rfl) (fB rfl (fL hr) rfl T.aaM rfl T.aaX (aa 0 rfl) (nT hl) ah) ?_);refine af (gG (aK cY (eY 1 rfl rfl T.aag) ag) (by rw[Tr];exact decide_eq_true (by lia)) ?_)
  refine af (qX 1 rfl ?_);show Out.new _=Out.new _;unfold am;rw[if_pos h1]
 ·refine af (aE (i:=1) f9.nd rfl (Or.inl rfl) (EvN.ev (fB rfl (fL hr) rfl T.aaM rfl T.aaX (aa 0 rfl) (nT hl) ah)) ?_);refine af (ce (aK cY (aq (bM rfl) rfl T.aag Fj (ae (aa 1 rfl) ak ah)) ag) (by rw[Tr];exact decide_eq_false (by lia)) (aH ?_))
  have b1:=gj (ST.srt pts);have b2:=gj (ST.srt pts).reverse;rw[FD]at b2;refine af (aE (i:=2) f9.nd rfl (Or.inl rfl) (EvN.ev (b_ ((gM T).mono (by decide)) hr rfl T.aad.m T.aad.F.kp T.aad.b aA (ae (aa 1 rfl) ak ah) ⟨ST.srt pts,rfl,szs,by lia,rfl⟩)) ?_)
  refine af (aE (i:=3) f9.nd rfl (Or.inl rfl) (EvN.ev (b_ ((gM T).mono (by decide)) hr rfl T.aad.m T.aad.F.kp T.aad.b aA (ae (EvN.ev (DK (aa 1 rfl) (cu ag) (.inl rfl))) ak bh) ⟨(ST.srt pts).reverse,by rw[lp,Hd],λp hp=>szs p (E3.mp hp),by rw[FD];lia,rfl⟩)) ?_)
  refine af (d6 (l5 (EvN.ev (fG (aa 2 rfl) iH (gf (cu ag)) (.inl rfl))) (EvN.ev (fG (aa 3 rfl) iH (gf (cu ag)) (.inl rfl))) (by rw[iI,iI,Ex,Ex,Hy,Hy,FD,FD];exact F4 (aG (by lia)))) ?_)
  show Out.new _=Out.new _;unfold am;rw[if_neg h1,iI,iI,<-Fi]
def ap(a b c d e f:Int)(p:P2):P2:=(a*p.1+b*p.2+e,c*p.1+d*p.2+f)
theorem Bi{m:Nat}{a b c d e f:Int}{p:P2}(sa:Sz 500 a)(sb:Sz 500 b)(sc:Sz 500 c)(sd:Sz 500 d)(se:Sz 500 e)(sf:Sz 500 f)(hm:m<=3000)(s:Szp m p):Szp (m+510) (ap a b c d e f p):=by
 have key:∀{x y z:Int},Sz 500 x->Sz 500 y->Sz 500 z->Sz (m+510) (x*p.1+y*p.2+z):=λsx sy sz=>by
  have h1:=L2.Sz.add' (L2.Sz.mul sx s.1) (L2.Sz.mul sy s.2);have h2:=L2.Sz.add' h1 sz;exact h2.mono (by lia)
 exact⟨key sa sb se,key sc sd sf⟩
def Ay:List U->Out->Prop:=λus o=>∃(pts:List P2) (a b c d e f:Int),us=[lp pts,mv a b c d e f]/\Mv a b c d e f/\(∀p∈pts,Szp 3000 p)/\(∀p∈pts,Szp 5000 (ap a b c d e f p))/\pts≠[]/\pts.length<64/\o=.new ((am (pts.map (ap a b c d e f))).map pu)
theorem kC(T:Txt w K mg):aZ P w K mg base (CXF P w) 5 T.aam.a T.aam.d ["land","move"] (spU K (Ay)):=by
 refine a9 T.aam.F gv (λus o h=>?_) (λQA A outer s H E O us o hr h=>?_)
 ·obtain⟨pts,a,b,c,d,e,f,rfl,M,sz,sy,Qv,hl,rfl⟩:=h;rfl
 obtain⟨pts,a,b,c,d,e,f,rfl,M,sz,sy,Qv,hl,rfl⟩:=h;refine Ws.nox ?_;refine af (d6 (b_ ((kI T).mono (by decide)) hr rfl T.aax.m T.aax.F.kp T.aax.b aA (ae (EvN.ev (gr (ys:=(pts.map λp=>pu (ap a b c d e f p))) rfl (blk (aj eX) ["land","move","P"] [2] rfl rfl rfl rfl (by decide+kernel)) (cF (aa 0 rfl) (.inl rfl)) (λ_ _ _ _=>bC (i:=2) gv.nd rfl (Or.inl rfl)) (dM (by decide)) ?clen ?csz (λ_ _=>trivial) ?celt)) ak fH) ⟨pts.map (ap a b c d e f),by rw[lp,Fn];rfl,λp hp=>by obtain⟨q,hq,rfl⟩:=ED.mp hp;exact sy q hq,by rw[Ex];exact hl,by simpa using Qv,rfl⟩) ?_)
 case clen=>simp
 case csz=>rw[Ex];exact F4 (aG (by lia))
 case celt=>
  intro C s' H' fp j x y hx hy;obtain⟨p,hp,mp,rfl,rfl⟩:=hV hx hy;exact (aB ((qb T).mono (by decide)) hr rfl T.aaJ.m T.aaJ.F.kp T.aaJ.b aA (ae (aa 2 rfl) (ae (aa 1 rfl) ak ah) ah) ⟨p.1,p.2,a,b,c,d,e,f,rfl,M,(sz p mp).1.mono (by decide),(sz p mp).2.mono (by decide),rfl⟩)
 exact rfl
theorem kQ{l m:List Pt}(h:ST.srt l=ST.srt m):am l=am m:=by unfold am;rw[h]
theorem iD{l m:List Pt}(h:∀z,z∈l↔z∈m):ST.srt l=ST.srt m:=ST.asc_one (ST.srt_asc l) (ST.srt_asc m) λz=>by rw[ST.srt_mem,ST.srt_mem];exact h z
theorem cN{pts:List Pt}(h:¬ 2<=(ST.srt pts).length):am pts=ST.srt pts:=by
 unfold am;split
 ·rfl
 ·have e:ST.srt pts=[]:=Gq.mp (by lia)
  rw[e];rfl
section
variable {f:Pt→Pt}
theorem A5(hf:∀a b,plt a b->plt (f a) (f b))(l:List Pt):ST.srt (l.map f)=(ST.srt l).map f:=by
 refine ST.asc_one (ST.srt_asc _) (iB.mpr (FU.mpr ((dS l).imp λ{a b} h=>hf a b h))) λz=>?_
 rw[ST.srt_mem,ED,ED];exact⟨λ⟨x,hx,e⟩=>⟨x,(ST.srt_mem x l).mpr hx,e⟩,λ⟨x,hx,e⟩=>⟨x,(ST.srt_mem x l).mp hx,e⟩⟩
theorem tq(hd:∀a b c,ac (f a) (f b) (f c)<=0↔ac a b c<=0)(P:Pt):∀st:List Pt,aM (f P) (st.map f)=(aM P st).map f
 |[]=>rfl
 |[_]=>rfl
 |b::a::r=>by
  show aM (f P) (f b::f a::r.map f)=_;unfold aM;by_cases h:ac a b P<=0
  ·rw[if_pos h,if_pos ((hd a b P).mpr h)];exact tq hd P (a::r)
  ·rw[if_neg h,if_neg λz=>h ((hd a b P).mp z)];rfl
theorem lL(hd:∀a b c,ac (f a) (f b) (f c)<=0↔ac a b c<=0)(row:List Pt):ai (row.map f)=(ai row).map f:=by
 have key:∀(l:List Pt) (st:List Pt),(l.map f).foldl (λst P=>P::aM P st) (st.map f)=(l.foldl (λst P=>P::aM P st) st).map f:=by
  intro l
  induction l with
  |nil=>intro st;rfl
  |cons p r ih=>
   intro st;rw[Fh,Ho,Ho,tq hd];exact ih (p::aM p st)
 exact key row []
theorem qa(hf:∀a b,plt a b->plt (f a) (f b))(hd:∀a b c,ac (f a) (f b) (f c)<=0↔ac a b c<=0)(l:List Pt):am (l.map f)=(am l).map f:=by
 unfold am;rw[A5 hf,Ex,<-Hd,lL hd,lL hd];split
 ·rfl
 ·rw[Fi,Ls,Ls,Hd,Hd]
end
def scl(k:Int)(p:Pt):Pt:=(k*p.1,k*p.2)
theorem AF{k:Int}(hk:0<k)(a b:Pt)(h:plt a b):plt (scl k a) (scl k b):=by
 unfold plt scl at *;rcases h with h |⟨h1,h2⟩
 ·exact .inl (KC h hk)
 ·exact .inr ⟨by rw[h1],KC h2 hk⟩
theorem A1{k:Int}(hk:0<k)(a b c:Pt):ac (scl k a) (scl k b) (scl k c)<=0↔ac a b c<=0:=by
 have e:ac (scl k a) (scl k b) (scl k c)=(k*k) *ac a b c:=by unfold ac scl;grind
 have kk:0<k*k:=Fx hk hk;rw[e];constructor
 ·intro h;refine FI λz=>?_
  have:=Fx kk (show 0<ac a b c by lia)
  lia
 ·intro h;have:=E_ (show 0<=k*k by lia) (show 0<=- ac a b c by lia)
  rw[M7]at this;lia
theorem nu(p:Pt):scl 1 p=p:=by unfold scl;simp
def qQ:List Int->Int
 |[]=>0
 |a::l=>l.foldl min a
theorem gR:∀(l:List Int) (a:Int),l.foldl min a∈a::l
 |[],a=>by simp
 |b::l,a=>by
  have:=gR l (min a b);rw[Ho];rcases EH.mp this with e |e
  ·rw[e];rcases Ms a b with h |h
   ·rw[Int.min_eq_left h];simp
   ·rw[Int.min_eq_right h];simp
  ·exact EB _ (EB _ e)
theorem iu:∀(l:List Int) (a:Int),∀x∈a::l,l.foldl min a<=x
 |[],a,x,h=>by simp at h;rw[h];exact Kt _
 |b::l,a,x,h=>by
  have ih:=iu l (min a b);rw[Ho];have h0:=ih (min a b) EF;rcases EH.mp h with rfl |h
  ·lia
  ·rcases EH.mp h with rfl |h
   ·lia
   ·exact ih x (EB _ h)
theorem cJ{l:List Int}(h:l≠[]):qQ l∈l/\∀a∈l,qQ l<=a:=by
 cases l with
 |nil=>exact absurd rfl h
 |cons a l=>exact⟨gR l a,iu l a⟩
abbrev gp(l:List P2)(i:Nat):P2:=l.getD i (0,0)
def nxt(l:List P2)(i:Nat):P2:=gp l ((i+1)%l.length)
def sdl(l:List P2):List (P2×P2):=(Fw l.length).map λi=>(gp l i,nxt l i)
abbrev pq(s:P2×P2):U:=.tup [pu s.1,pu s.2]
theorem du{l:List P2}{i:Nat}(h:i<l.length):l[i]?=some (gp l i):=by simp[gp,h]
theorem fI{l:List P2}{i:Nat}(h:i<l.length):gp l i∈l:=EV (du h)
theorem uc(l:List U):g7 l (some 1) none=l.drop 1:=by
 unfold g7 HT.sIx;cases l with
 |nil=>simp
 |cons a l=>simp
theorem Bf(l:List U):g7 l none (some 1)=l.take 1:=by
 unfold g7 HT.sIx;cases l with
 |nil=>simp
 |cons a l=>simp
theorem xS(l:List P2):KO (λa b=>U.tup [a,b]) (l.map pu) (g7 (l.map pu) (some 1) none++g7 (l.map pu) none (some 1))=(sdl l).map pq:=by
 rw[uc,Bf];apply Hj;intro i;unfold sdl;by_cases hi:i<l.length
 ·have e1:(l.map pu)[i]?=some (pu (gp l i)):=by rw[EI,du hi];rfl
  have e2:((l.map pu).drop 1++(l.map pu).take 1)[i]?=some (pu (nxt l i)):=by
   unfold nxt;by_cases hj:i+1<l.length
   ·rw[E6 (by simp;lia),HU,Nat.add_comm,FN hj,EI,du hj];rfl
   ·have e:i+1=l.length:=by lia
    rw[E7 (by simp;lia),e,Mt]
    rw[show i-((l.map pu).drop 1).length=0 by simp;lia,G0 (by lia),EI,du (by lia)];rfl
  rw[Hx.mpr ⟨_,_,e1,e2,rfl⟩,Fn,EI,Iq hi];rfl
 ·rw[Fo (by simp;lia),Fo (by simp;lia)]
theorem n_(l:List P2):(sdl l).length=l.length:=by simp[sdl]
theorem c7{l:List P2}{s:P2×P2}(h:s∈sdl l):s.1∈l/\s.2∈l:=by
 obtain⟨i,hi,rfl⟩:=ED.mp h;have QI:=E5.mp hi;exact⟨fI QI,fI (Ik _ (by lia))⟩
def qR:List U->Out->Prop:=λus o=>∃l:List P2,us=[lp l]/\l.length<=900/\o=.new ((sdl l).map pq)
theorem ka(T:Txt w K mg):aZ P w K mg base (CXF P w) 1 T.aay.a T.aay.d ["land"] (spU K (qR)):=by
 refine a9 T.aay.F xn (λus o h=>?_) (λQA A outer s H E O us o hr h=>?_)
 ·obtain⟨l,rfl,hl,rfl⟩:=h;rfl
 obtain⟨l,rfl,hl,rfl⟩:=h;refine Ws.nox ?_;have Qz:(g7 (l.map pu) (some 1) none++g7 (l.map pu) none (some 1)).length=l.length:=by rw[uc,Bf];simp;lia
 refine af (d6 (vC rfl rfl T.aaI rfl T.aa6 (aa 0 rfl) (.inl rfl) (EvN.ev (l5 (EvN.ev (fG (aa 0 rfl) (gf ag) iH (.inl rfl))) (EvN.ev (fG (aa 0 rfl) iH (gf ag) (.inl rfl))) (by rw[<-EY,Qz];exact F4 (aG (by lia))))) (.inl rfl) (by rw[Qz,Ex]) (by rw[Ex];lia) ah bK) ?_)
 rw[xS]
theorem Ed{l:List P2}(h:0<l.length):atI (l.map pu) 0=some (pu (gp l 0)):=xB (i:=0) rfl (by rw[EI,du h];rfl)
theorem At{l:List P2}(h:0<l.length):atI (l.map pu) (-1)=some (pu (gp l (l.length-1))):=by
 have e:ixN (l.map pu).length (-1)=some (l.length-1):=by
  unfold ixN;simp;lia
 unfold atI;rw[e];show (l.map pu)[l.length-1]?=_;rw[EI,du (by lia)];rfl
def gst(s:P2×P2):Int:=((IA (s.2.1-s.1.1) (s.2.2-s.1.2):Nat):Int)
def crs(s:P2×P2):Int:=s.1.1*s.2.2-s.1.2*s.2.1
def area(l:List P2):Int:=((sdl l).map crs).sum
def mT(l:List P2):Int:=((sdl l).map gst).sum
def pin(l:List P2):Int:=if l.length<3 then 0 else (area l-mT l+2)/2
theorem dQ{s:P2×P2}(h:s.1≠s.2):0<gst s:=by
 unfold gst
 have:IA (s.2.1-s.1.1) (s.2.2-s.1.2)≠0:=λe=>by
  have:=Int.gcd_eq_zero_iff.mp e;exact h (GD (by lia) (by lia))
 lia
def ev(p:P2):Int:=if p.1%2=0/\p.2%2=0 then 1 else 0
theorem tF(l:List P2):(sdl l).map (·.1)=l:=by
 apply Hj;intro i;unfold sdl;rw[Fn];by_cases hi:i<l.length
 ·rw[EI,Iq hi,du hi];rfl
 ·rw[Fo (by simp;lia),Fo (by lia)]
theorem sV(l:List P2):(sdl l).map (·.2)=l.drop 1++l.take 1:=by
 apply Hj;intro i;unfold sdl;rw[Fn];by_cases hi:i<l.length
 ·rw[EI,Iq hi];show some (nxt l i)=_;unfold nxt;by_cases hj:i+1<l.length
  ·rw[E6 (by simp;lia),HU,show 1+i=i+1 by lia,FN hj,du hj]
  ·have e:i+1=l.length:=by lia
   rw[E7 (by simp;lia),e,Mt]
   rw[show i-(l.drop 1).length=0 by simp;lia,G0 (by lia),du (by lia)]
 ·rw[Fo (by simp;lia),Fo (by simp;lia)]
theorem C0{l:List P2}(hn:l.Nodup)(h2:2<=l.length):∀s∈sdl l,s.1≠s.2:=λs hs e=>by
 obtain⟨i,hi,rfl⟩:=ED.mp hs;have QI:=E5.mp hi;have hj:(i+1)%l.length<l.length:=Ik _ (by lia)
 have e':gp l i=gp l ((i+1)%l.length):=e;have:l[i]?=l[(i+1)%l.length]?:=by rw[du QI,du hj,e']
 have:=(Jb QI hn).mp this;by_cases hk:i+1<l.length
 ·rw[FN hk]at this;lia
 ·have e:i+1=l.length:=by lia
  rw[e,Mt]at this;lia
theorem nN{m n:Nat}{l:List P2}(h:m<=n)(k:∀p∈l,Szp m p):∀p∈l,Szp n p:=λp hp=>⟨(k p hp).1.mono h,(k p hp).2.mono h⟩
def ve:List U->Out->Prop:=λus o=>∃l:List P2,us=[lp l]/\l.length<=900/\(∀p∈l,Szp 2500 p)/\o=.val (.int (area l))
theorem jz(T:Txt w K mg):aZ P w K mg base (CXF P w) 2 T.aal.a T.aal.d ["land"] (spU K (ve)):=by
 refine a9 T.aal.F ef (λus o h=>?_) (λQA A outer s H E O us o hr h=>?_)
 ·obtain⟨l,rfl,hl,sz,rfl⟩:=h;rfl
 obtain⟨l,rfl,hl,sz,rfl⟩:=h;refine Ws.nox ?_;refine af (ba (aq (yW rfl ) rfl T.aa5 boot_sum (ae (EvN.ev (gr (ys:=(((sdl l).map crs).map U.int)) rfl (blk (aj e9) ["land","A","B"] [1,2] rfl rfl rfl rfl (by decide+kernel)) (cF (EvN.ev (b_ ((ka T).mono (by decide)) hr rfl T.aay.m T.aay.F.kp T.aay.b aA (ae (aa 0 rfl) ak ah) ⟨l,rfl,hl,rfl⟩)) (.inl rfl)) (λ_ _ _ _=>qI rfl (dE (bC (i:=1) ef.nd rfl (Or.inl rfl)) (dE (bC (i:=2) ef.nd rfl (Or.inl rfl)) jr))) (sn (js:=[1,2]) (by decide)) ?clen ?csz ?dom ?celt)) ak fH)) ?_)
 case clen=>simp
 case csz=>simp only[n_,Ex];exact F4 (aG (by lia))
 case dom=>
  intro x hx;obtain⟨s,_,rfl⟩:=ED.mp hx;exact⟨_,rfl,rfl⟩
 case celt=>
  intro C s' H' fp j x y hx hy;rw[Fn]at hy;obtain⟨s,hs,ms,rfl,rfl⟩:=hV hx hy;obtain⟨m1,m2⟩:=c7 ms;have z1:=(sz _ m1).1;have z2:=(sz _ m1).2;have z3:=(sz _ m2).1;have z4:=(sz _ m2).2;exact (bm (be (aF (aa 1 rfl) ag rfl rfl) (aF (aa 2 rfl) ag rfl rfl) (by walk_at"mul")) (be (aF (aa 1 rfl) ag rfl rfl) (aF (aa 2 rfl) ag rfl rfl) (by walk_at"mul")))
 exact rfl
theorem pE{done:List Pt}:∀{st:List Pt},gh done st->∀(k:Nat) {a b:Pt},st[k]?=some b->st[k+1]?=some a->∀q∈done,0<=ac a b q
 |[],_,k,_,_,h,_=>by simp at h
 |[_],_,k,_,_,_,h=>by simp at h
 |x::y::r,C,0,a,b,h1,h2=>by
  simp at h1 h2;subst h1;subst h2;exact C.1
 |x::y::r,C,k+1,a,b,h1,h2=>pE C.2 k (by simpa using h1) (by simpa using h2)
theorem pR:∀{st:List Pt},i0 st->∀(k:Nat) {a b c:Pt},st[k]?=some c->st[k+1]?=some b->st[k+2]?=some a->0<ac a b c
 |[],_,k,_,_,_,h,_,_=>by simp at h
 |[_],_,k,_,_,_,_,h,_=>by simp at h
 |[_,_],_,k,_,_,_,_,_,h=>by simp at h
 |x::y::z::r,C,0,a,b,c,h1,h2,h3=>by
  simp at h1 h2 h3;subst h1;subst h2;subst h3;exact C.1
 |x::y::z::r,C,k+1,a,b,c,h1,h2,h3=>pR C.2 k (by simpa using h1) (by simpa using h2) (by simpa using h3)
theorem x8{st:List Pt}{i:Nat}{a b:Pt}(h1:st.reverse[i]?=some a)(h2:st.reverse[i+1]?=some b):∃k,st[k]?=some b/\st[k+1]?=some a:=by
 have l2:i+1<st.length:=by have:=(ET.mp h2).1;simpa using this
 rw[GG (by lia)]at h1
 rw[GG l2]at h2;exact⟨st.length-1-(i+1),h2,by rw[<-h1];congr 1;lia⟩
theorem vg{st:List Pt}{i:Nat}{a b c:Pt}(h1:st.reverse[i]?=some a)(h2:st.reverse[i+1]?=some b)(h3:st.reverse[i+2]?=some c):∃k,st[k]?=some c/\st[k+1]?=some b/\st[k+2]?=some a:=by
 have l3:i+2<st.length:=by have:=(ET.mp h3).1;simpa using this
 rw[GG (by lia)]at h1
 rw[GG (by lia)]at h2
 rw[GG l3]at h3;exact⟨st.length-1-(i+2),h3,by rw[<-h2];congr 1;lia,by rw[<-h1];congr 1;lia⟩
theorem gl{row:List Pt}(hs:row.Pairwise plt)(h:row≠[]){i:Nat}{a b:Pt}(h1:(ai row).reverse[i]?=some a)(h2:(ai row).reverse[i+1]?=some b):∀q∈row,0<=ac a b q:=by
 obtain⟨k,e1,e2⟩:=x8 h1 h2;exact pE (bY hs h).1.cover k e1 e2
theorem gV{row:List Pt}(hs:row.Pairwise plt)(h:row≠[]){i:Nat}{a b c:Pt}(h1:(ai row).reverse[i]?=some a)(h2:(ai row).reverse[i+1]?=some b)(h3:(ai row).reverse[i+2]?=some c):0<ac a b c:=by
 obtain⟨k,e1,e2,e3⟩:=vg h1 h2 h3;exact pR (bY hs h).1.turns k e1 e2 e3
theorem fE{row:List Pt}{i:Nat}{a:Pt}(h1:(ai row.reverse).reverse[i]?=some a):(ai (row.reverse.map ng)).reverse[i]?=some (ng a):=by
 rw[bN,<-Hd,EI]at h1;cases e:(ai (row.reverse.map ng)).reverse[i]? with
 |none=>rw[e]at h1;cases h1
 |some z=>rw[e]at h1;cases h1;rw[gJ]
theorem gX{row:List Pt}(hs:row.Pairwise plt)(h:row≠[]){i:Nat}{a b:Pt}(h1:(ai row.reverse).reverse[i]?=some a)(h2:(ai row.reverse).reverse[i+1]?=some b):∀q∈row,0<=ac a b q:=λq hq=>by
 have:=gl (c6 hs) (by simpa using h) (fE h1) (fE h2) (ng q) (FL (E3.mpr hq))
 rwa [jR]at this
theorem lH{row:List Pt}(hs:row.Pairwise plt)(h:row≠[]){i:Nat}{a b c:Pt}(h1:(ai row.reverse).reverse[i]?=some a)(h2:(ai row.reverse).reverse[i+1]?=some b)(h3:(ai row.reverse).reverse[i+2]?=some c):0<ac a b c:=by
 have:=gV (c6 hs) (by simpa using h) (fE h1) (fE h2) (fE h3)
 rwa [jR]at this
theorem xM{u1 u2 v1 v2 w1 w2:Int}(hu:bF u1 u2)(hv:bF v1 v2)(h0:u1*v2-u2*v1=0)(h1:u1*w2-u2*w1<=0)(h2:0<=v1*w2-v2*w1):u1*w2-u2*w1=0/\v1*w2-v2*w1=0:=by
 have e1:v1*(u1*w2-u2*w1)=u1*(v1*w2-v2*w1):=by grind
 have e2:v2*(u1*w2-u2*w1)=u2*(v1*w2-v2*w1):=by grind
 have QN:∀{s t A B:Int},0<s->0<t->s*A=t*B->A<=0->0<=B->A=0/\B=0:=λ{s t A B} hs ht e ha hb=>by
  have k1:s*A<=0:=Gw (by lia) ha
  have k2:0<=t*B:=E_ (by lia) hb
  have z1:s*A=0:=by lia
  have z2:t*B=0:=by lia
  refine⟨(Ft.mp z1).resolve_left (by lia),(Ft.mp z2).resolve_left (by lia)⟩
 rcases hu with hu |⟨hu,hu2⟩
 ·rcases hv with hv |⟨hv,Uk⟩
  ·exact QN hv hu e1 h1 h2
  ·rw[hv]at h0;have:=Fx hu Uk;lia
 ·rcases hv with hv |⟨hv,Uk⟩
  ·rw[hu]at h0;have:=Fx hu2 hv;lia
  ·exact QN Uk hu2 e2 h1 h2
theorem vI{a m c:Pt}(ha:plt a m)(hc:plt c m)(h:ac a m c=0){q:Pt}(h1:0<=ac a m q)(h2:0<=ac m c q):ac a m q=0/\ac m c q=0:=by
 have k:=xM (w1:=m.1-q.1) (w2:=m.2-q.2) (ay ha) (ay hc) (by unfold ac at h;grind) (by unfold ac at h1;grind) (by unfold ac at h2;grind)
 unfold ac;exact⟨by grind,by grind⟩
theorem zW(a b c:Pt):ac a b c=ac b c a:=by unfold ac;grind
theorem Dw{row:List Pt}(hs:row.Pairwise plt)(Qv:row≠[]){i:Nat}{a m c:Pt}(h1:(ai row).reverse[i]?=some a)(h2:(ai row).reverse[i+1]?=some m)(hl:(ai row).length=i+2)
  (h3:(ai row.reverse).reverse[0]?=some m) (h4:(ai row.reverse).reverse[1]?=some c) (ha:plt a m) (hc:plt c m) (big:2<(ai row).length\/2<(ai row.reverse).length):0<ac a m c:=by
 have mem:∀{j:Nat}{p:Pt},(ai row).reverse[j]?=some p->p∈row:=λh=>bJ row _ (E3.mp (EV h))
 have memR:∀{j:Nat}{p:Pt},(ai row.reverse).reverse[j]?=some p->p∈row:=λh=>E3.mp (bJ _ _ (E3.mp (EV h)))
 have cv:=gl hs Qv h1 h2;have cb:=gX hs Qv h3 h4;have h0:=cv c (memR h4);rcases GR h0 with z |z
 ·exact z
 ·exfalso
  have flat:∀q∈row,ac a m q=0/\ac m c q=0:=λq hq=>vI ha hc z.symm (cv q hq) (cb q hq)
  rcases big with b |b
  ·have hi:0<i:=by lia
   have hx:i-1<(ai row).reverse.length:=by simp;lia
   have e:=Ey hx;have t:=gV hs Qv e (by rw[Nat.sub_add_cancel hi];exact h1) (by rw[show i-1+2=i+1 by lia];exact h2)
   rw[zW,(flat _ (mem e)).1]at t;lia
  ·have hx:2<(ai row.reverse).reverse.length:=by simpa using b
   have e:=Ey hx;have t:=lH hs Qv h3 h4 e;rw[(flat _ (memR e)).2]at t;lia
structure Cc(row T B:List Pt)(mn mx:Pt):Prop where
 t0:T[0]?=some mn
 t1:T[T.length-1]?=some mx
 b0:B[0]?=some mx
 b1:B[B.length-1]?=some mn
 lt:2<=T.length
 lb:2<=B.length
 least:∀p∈row,p=mn\/plt mn p
 most:∀p∈row,p=mx\/plt p mx
theorem Bd{l:List Pt}:l.reverse[0]?=l.getLast?:=by rw[List.getLast?_eq_head?_reverse,GB]
theorem Bn{l:List Pt}:l.reverse[l.reverse.length-1]?=l.head?:=by rw[<-FY,IW]
theorem Cn{row:List Pt}(hs:row.Pairwise plt)(h2:2<=row.length):∃mn mx,Cc row (ai row).reverse (ai row.reverse).reverse mn mx:=by
 have Qv:row≠[]:=λz=>by rw[z]at h2;simp at h2
 obtain⟨mn,mx,t1,t2,e1,e2,m1,m2,least,most,_,_⟩:=ends hs h2;obtain⟨K,hl,hh⟩:=bY hs Qv;obtain⟨KR,hlR,hhR⟩:=bY (c6 hs) (by simpa using Qv)
 have l1:2<=(ai row).length:=by rw[e1];have:=F_ m1;simp;lia
 have l2:2<=(ai row.reverse).length:=by rw[e2];have:=F_ m2;simp;lia
 have hd:row.head?=some row[0]:=by rw[GB];exact Ey (by lia)
 have ld:row.getLast?=some row[row.length-1]:=by rw[FY];exact Ey (by lia)
 have q1:row[0]=mn:=by
  have hb:=hhR;rw[JX,IW,hd]at hb;have:(ai row.reverse).head?=some row[0]:=by rw[bN,La,hb];simp[gJ]
  rw[e2]at this;exact (Fk this).symm
 have q2:row[row.length-1]=mx:=by
  rw[ld,e1]at hh;exact (Fk hh).symm
 refine⟨mn,mx,?_,?_,?_,?_,by simpa using l1,by simpa using l2,least,most⟩
 ·rw[Bd,hl,hd,q1]
 ·rw[Bn,hh,ld,q2]
 ·rw[Bd,bN,JX,hlR,La,JD,ld,q2];simp[gJ]
 ·rw[Bn,e2];rfl
section
variable {row T B:List Pt}{mn mx:Pt}
theorem eJ(W:Cc row T B mn mx){k:Nat}(hk:k<=T.length-1):(T.dropLast++B.dropLast)[k%(T.dropLast++B.dropLast).length]?=T[k]?:=by
 have h1:=W.lt;have h2:=W.lb;have hn:(T.dropLast++B.dropLast).length=T.length-1+(B.length-1):=by simp
 rw[hn,FN (by lia)]
 by_cases h:k<T.length-1
 ·rw[E6 (by simpa using h),IJ,if_pos h]
 ·obtain rfl:k=T.length-1:=by lia
  rw[E7 (by simp),Hy,PZ,IJ,if_pos (by lia),W.b0,W.t1]
theorem jn(W:Cc row T B mn mx){k:Nat}(h0:T.length-1<=k)(hk:k<=T.length-1+(B.length-1)):(T.dropLast++B.dropLast)[k%(T.dropLast++B.dropLast).length]?=B[k-(T.length-1)]?:=by
 have h1:=W.lt;have h2:=W.lb;have hn:(T.dropLast++B.dropLast).length=T.length-1+(B.length-1):=by simp
 by_cases h:k<T.length-1+(B.length-1)
 ·rw[hn,FN h,E7 (by simpa using h0),Hy,IJ,if_pos (by lia)]
 ·obtain rfl:k=T.length-1+(B.length-1):=by lia
  have:=eJ W (k:=0) (by lia)
  rw[P3]at this;rw[hn,Mt,this,W.t0,show T.length-1+(B.length-1)-(T.length-1)=B.length-1 by lia,W.b1]
end
theorem eQ{l:List Pt}{i:Nat}(h:i<l.length):∃a,l[i]?=some a:=⟨_,Ey h⟩
theorem gY{pts:List Pt}(h2:2<=(ST.srt pts).length){i:Nat}(hi:i<(am pts).length):∃a b,(am pts)[i]?=some a/\(am pts)[(i+1)%(am pts).length]?=some b/\(∀p∈pts,0<=ac a b p)/\(2<(am pts).length->∃c,(am pts)[(i+2)%(am pts).length]?=some c/\0<ac a b c):=by
 have hs:=dS pts;have Qv:ST.srt pts≠[]:=λz=>by rw[z]at h2;simp at h2
 obtain⟨mn,mx,W⟩:=Cn hs h2;have Tv:∀p∈pts,p∈ST.srt pts:=λp hp=>(ST.srt_mem p pts).mpr hp
 have hc:am pts=(ai (ST.srt pts)).reverse.dropLast++(ai (ST.srt pts).reverse).reverse.dropLast:=by
  unfold am;rw[if_neg (by lia)]
 have tc:∀{j:Nat}{a b:Pt},(ai (ST.srt pts)).reverse[j]?=some a->(ai (ST.srt pts)).reverse[j+1]?=some b->∀q∈ST.srt pts,0<=ac a b q:=λh h'=>gl hs Qv h h'
 have tt:∀{j:Nat}{a b c:Pt},(ai (ST.srt pts)).reverse[j]?=some a->(ai (ST.srt pts)).reverse[j+1]?=some b->(ai (ST.srt pts)).reverse[j+2]?=some c->0<ac a b c:=λh h' h''=>gV hs Qv h h' h''
 have bc:∀{j:Nat}{a b:Pt},(ai (ST.srt pts).reverse).reverse[j]?=some a->(ai (ST.srt pts).reverse).reverse[j+1]?=some b->∀q∈ST.srt pts,0<=ac a b q:=λh h'=>gX hs Qv h h'
 have bt:∀{j:Nat}{a b c:Pt},(ai (ST.srt pts).reverse).reverse[j]?=some a->(ai (ST.srt pts).reverse).reverse[j+1]?=some b->(ai (ST.srt pts).reverse).reverse[j+2]?=some c->0<ac a b c:=λh h' h''=>lH hs Qv h h' h''
 have T9:∀{j:Nat}{p:Pt},(ai (ST.srt pts)).reverse[j]?=some p->p∈ST.srt pts:=λh=>bJ _ _ (E3.mp (EV h))
 have memB:∀{j:Nat}{p:Pt},(ai (ST.srt pts).reverse).reverse[j]?=some p->p∈ST.srt pts:=λh=>E3.mp (bJ _ _ (E3.mp (EV h)))
 have ndT:(ai (ST.srt pts)).reverse.Nodup:=(dX hs).imp λ{a b} h e=>by subst e;exact aY _ ((cE _ _).mpr h)
 have ndB:(ai (ST.srt pts).reverse).reverse.Nodup:=by
  rw[bN,<-Hd];have ndR:(ai ((ST.srt pts).reverse.map ng)).reverse.Nodup:=(dX (c6 hs)).imp λ{a b} h e=>by subst e;exact aY _ ((cE _ _).mpr h)
  exact HG _ (λa b (h:a≠b) e=>h (by have:=congrArg ng e;rwa [gJ,gJ]at this)) ndR
 have m1:∀{j:Nat}{a m c:Pt},(ai (ST.srt pts)).reverse[j]?=some a->(ai (ST.srt pts)).reverse[j+1]?=some m->(ai (ST.srt pts)).length=j+2->(ai (ST.srt pts).reverse).reverse[0]?=some m->(ai (ST.srt pts).reverse).reverse[1]?=some c->plt a m->plt c m->2<(ai (ST.srt pts)).length\/2<(ai (ST.srt pts).reverse).length->0<ac a m c:=λa1 a2 a3 a4 a5 a6 a7 a8=>Dw hs Qv a1 a2 a3 a4 a5 a6 a7 a8
 have m2:∀{j:Nat}{a m c:Pt},(ai (ST.srt pts).reverse).reverse[j]?=some a->(ai (ST.srt pts).reverse).reverse[j+1]?=some m->(ai (ST.srt pts).reverse).length=j+2->(ai (ST.srt pts)).reverse[0]?=some m->(ai (ST.srt pts)).reverse[1]?=some c->plt m a->plt m c->2<(ai (ST.srt pts)).length\/2<(ai (ST.srt pts).reverse).length->0<ac a m c:=λ{j a m c} a1 a2 a3 a4 a5 a6 a7 a8=>by
  have er:((ST.srt pts).reverse.map ng).reverse=(ST.srt pts).map ng:=by rw[<-Hd,Je]
  have fw:∀{k:Nat}{p:Pt},(ai (ST.srt pts)).reverse[k]?=some p->(ai ((ST.srt pts).reverse.map ng).reverse).reverse[k]?=some (ng p):=λ{k p} h=>by
   rw[er,gs,<-Hd,EI,h];rfl
  have lb:(ai ((ST.srt pts).reverse.map ng)).length=(ai (ST.srt pts).reverse).length:=by rw[bN,Ex]
  have lt:(ai ((ST.srt pts).reverse.map ng).reverse).length=(ai (ST.srt pts)).length:=by rw[er,gs,Ex]
  have:=Dw (c6 hs) (by simpa using Qv) (fE a1) (fE a2) (by rw[lb];exact a3) (fw a4) (fw a5) (jK a6) (jK a7) (by rw[lb,lt];exact a8.symm)
  rwa [jR]at this
 rw[hc]at hi |-;have lT:(ai (ST.srt pts)).reverse.length=(ai (ST.srt pts)).length:=FD;have lB:(ai (ST.srt pts).reverse).reverse.length=(ai (ST.srt pts).reverse).length:=FD;generalize (ai (ST.srt pts)).reverse=T at *;generalize (ai (ST.srt pts).reverse).reverse=B at *;have h1:=W.lt;have h3:=W.lb;have hn:(T.dropLast++B.dropLast).length=T.length-1+(B.length-1):=by simp
 have own:∀k,k<(T.dropLast++B.dropLast).length->(T.dropLast++B.dropLast)[k]?=(T.dropLast++B.dropLast)[k%(T.dropLast++B.dropLast).length]?:=λk hk=>by rw[FN hk]
 have tne:∀{j k:Nat}{p q:Pt},T[j]?=some p->T[k]?=some q->j≠k->p≠q:=λ{j k p q} a1 a2 a3 e=>a3 ((Jb (aw a1) ndT).mp (by rw[a1,a2,e]))
 have bne:∀{j k:Nat}{p q:Pt},B[j]?=some p->B[k]?=some q->j≠k->p≠q:=λ{j k p q} a1 a2 a3 e=>a3 ((Jb (aw a1) ndB).mp (by rw[a1,a2,e]))
 by_cases c1:i<T.length-1
 ·obtain⟨a,ea⟩:=eQ (l:=T) (i:=i) (by lia)
  obtain⟨b,eb⟩:=eQ (l:=T) (i:=i+1) (by lia)
  refine⟨a,b,by rw[own i hi,eJ W (by lia)];exact ea,by rw[eJ W (by lia)];exact eb,λp hp=>tc ea eb p (Tv p hp),λbig=>?_⟩
  by_cases c2:i+2<=T.length-1
  ·obtain⟨c,ec⟩:=eQ (l:=T) (i:=i+2) (by lia)
   exact⟨c,by rw[eJ W c2];exact ec,tt ea eb ec⟩
  ·have e:i+1=T.length-1:=by lia
   obtain⟨c,ec⟩:=eQ (l:=B) (i:=1) (by lia)
   have emx:b=mx:=by have:=W.t1;rw[<-e,eb]at this;exact Fk this
   subst emx;refine⟨c,by rw[jn W (by lia) (by lia),show i+2-(T.length-1)=1 by lia];exact ec,m1 ea eb (by lia) W.b0 ec ?_ ?_ (by lia)⟩
   ·exact (W.most a (T9 ea)).resolve_left (tne ea eb (by lia))
   ·exact (W.most c (memB ec)).resolve_left (bne ec W.b0 (by lia))
 ·obtain⟨a,ea⟩:=eQ (l:=B) (i:=i-(T.length-1)) (by lia)
  obtain⟨b,eb⟩:=eQ (l:=B) (i:=i-(T.length-1)+1) (by lia)
  refine⟨a,b,by rw[own i hi,jn W (by lia) (by lia)];exact ea,by rw[jn W (by lia) (by lia),show i+1-(T.length-1)=i-(T.length-1)+1 by lia];exact eb,λp hp=>bc ea eb p (Tv p hp),λbig=>?_⟩
  by_cases c2:i+2<=T.length-1+(B.length-1)
  ·obtain⟨c,ec⟩:=eQ (l:=B) (i:=i-(T.length-1)+2) (by lia)
   exact⟨c,by rw[jn W (by lia) c2,show i+2-(T.length-1)=i-(T.length-1)+2 by lia];exact ec,bt ea eb ec⟩
  ·have e:i-(T.length-1)+1=B.length-1:=by lia
   obtain⟨c,ec⟩:=eQ (l:=T) (i:=1) (by lia)
   have emn:b=mn:=by have:=W.b1;rw[<-e,eb]at this;exact Fk this
   subst emn;refine⟨c,?_,m2 ea eb (by lia) W.t0 ec ?_ ?_ (by lia)⟩
   ·have:=eJ W (k:=1) (by lia)
    rw[show (i+2)%(T.dropLast++B.dropLast).length=1%(T.dropLast++B.dropLast).length by rw[hn,show i+2=1+(T.length-1+(B.length-1)) by lia,NN],this]
    exact ec
   ·exact (W.least a (memB ea)).resolve_left (bne ea eb (by lia))
   ·exact (W.least c (T9 ec)).resolve_left (tne ec W.t0 (by lia))
def cd(n q:Int):Int:=-(-n/q)
def unc:List Int->Int×Int
 |[]=>(1,0)
 |b::l=>(b*(unc l).1-(unc l).2,(unc l).1)
structure Lvl(a b:Pt)(g u v s t:Int):Prop where
 g0:0<g
 e1:b.1-a.1=g*u
 e2:b.2-a.2=g*v
 st:s*u+t*v=1
def tx(a c:Pt)(s t:Int):Int:=s*(c.1-a.1)+t*(c.2-a.2)
def ty(a c:Pt)(u v:Int):Int:=u*(c.2-a.2)-v*(c.1-a.1)
def bk(a:Pt)(u v s t x y:Int):Pt:=(u*x-t*y+a.1,v*x+s*y+a.2)
theorem Lvl.area{a b:Pt}{g u v s t:Int}(L:Lvl a b g u v s t)(c:Pt):ac a b c=g*ty a c u v:=by
 have:=L.e1;have:=L.e2;unfold ac ty;grind
theorem Lvl.back{a b:Pt}{g u v s t:Int}(L:Lvl a b g u v s t)(c:Pt):c.1=u*tx a c s t-t*ty a c u v+a.1/\c.2=v*tx a c s t+s*ty a c u v+a.2:=by
 have:=L.st;unfold tx ty;constructor <;>grind
def wth(a b:Int)(p:Pt):Int:=a*p.1+b*p.2
theorem BI{a b:Int}{u p v:Pt}(hb:b<=0)(h1:plt u p)(h2:plt p v)(h:ac u p v<=0):wth a b p<=wth a b u\/wth a b p<=wth a b v:=by
 rcases F6 (wth a b u) (wth a b p) with c1 |c1
 ·rcases F6 (wth a b v) (wth a b p) with c2 |c2
  ·exfalso
   have e:(v.1-p.1) *(wth a b p-wth a b u)+(p.1-u.1) *(wth a b p-wth a b v)=-((-b) *(-(ac u p v))):=by unfold wth ac;grind
   have n1:0<=(-b) *(-(ac u p v)):=E_ (by lia) (by lia)
   have d1:0<=p.1-u.1:=by unfold plt at h1;lia
   have d2:0<=v.1-p.1:=by unfold plt at h2;lia
   have m1:0<=(v.1-p.1) *(wth a b p-wth a b u):=E_ d2 (by lia)
   have m2:0<=(p.1-u.1) *(wth a b p-wth a b v):=E_ d1 (by lia)
   rcases F6 0 (p.1-u.1) with d |d
   ·have:=Fx d (show 0<wth a b p-wth a b v by lia)
    lia
   ·have ex:u.1=p.1:=by lia
    have ey:u.2<p.2:=by unfold plt at h1;lia
    have:0<=(-b) *(p.2-u.2):=E_ (by lia) (by lia)
    have e2:wth a b p-wth a b u=-((-b) *(p.2-u.2)):=by unfold wth;rw[ex];grind
    lia
  ·exact .inr c2
 ·exact .inl c1
theorem ui{row:List Pt}(hs:row.Pairwise plt){a b:Int}(hb:b<=0){p:Pt}(hp:p∈row):∃c∈ai row,wth a b p<=wth a b c:=by
 by_cases h:p∈ai row
 ·exact⟨p,h,Kt _⟩
 ·obtain⟨u,hu,v,hv,k1,k2,k3⟩:=gap hs hp h;rcases BI (a:=a) hb k1 k2 k3 with e |e
  ·exact⟨u,hu,e⟩
  ·exact⟨v,hv,e⟩
theorem CF(a b:Int)(p:Pt):wth (-a) (-b) (ng p)=wth a b p:=by unfold wth ng;grind
theorem zC(a b:Int)(p:Pt):wth a b (ng p)=wth (-a) (-b) p:=by unfold wth ng;grind
theorem yT{row:List Pt}(hs:row.Pairwise plt){a b:Int}(hb:0<=b){p:Pt}(hp:p∈row):∃c∈ai row.reverse,wth a b p<=wth a b c:=by
 obtain⟨c,hc,k⟩:=ui (c6 hs) (a:=-a) (b:=-b) (by lia) (p:=ng p) (ED.mpr ⟨p,E3.mpr hp,rfl⟩)
 refine⟨ng c,by rw[bN];exact ED.mpr ⟨c,hc,rfl⟩,?_⟩
 rw[CF]at k;rw[zC];exact k
theorem p9{pts:List Pt}(a b:Int){p:Pt}(hp:p∈pts):∃c∈am pts,wth a b p<=wth a b c:=by
 have QW:p∈ST.srt pts:=(ST.srt_mem p pts).mpr hp;by_cases h2:2<=(ST.srt pts).length
 ·have hs:=dS pts;obtain⟨mn,mx,t1,t2,e1,e2,m1,m2,_⟩:=ends hs h2;have big:=gi h2;rw[e1,e2]at big;rcases Ms b 0 with hb |hb
  ·obtain⟨c,hc,k⟩:=ui hs (a:=a) hb QW;refine⟨c,?_,k⟩;rw[big];rw[e1]at hc;rcases EH.mp hc with rfl |hc
   ·exact EW _ (E3.mpr m2)
   ·exact E8 _ (E3.mpr hc)
  ·obtain⟨c,hc,k⟩:=yT hs (a:=a) hb QW;refine⟨c,?_,k⟩;rw[big];rw[e2]at hc;rcases EH.mp hc with rfl |hc
   ·exact E8 _ (E3.mpr m1)
   ·exact EW _ (E3.mpr hc)
 ·exact⟨p,by rw[cN h2];exact QW,Kt _⟩
def hiL:List Int->Int
 |[]=>0
 |a::l=>l.foldl max a
theorem eZ:∀(l:List Int) (a:Int),l.foldl max a∈a::l
 |[],a=>by simp
 |b::l,a=>by
  have:=eZ l (max a b);rw[Ho];rcases EH.mp this with e |e
  ·rw[e];rcases Ms a b with h |h
   ·rw[Int.max_eq_right h];simp
   ·rw[Int.max_eq_left h];simp
  ·exact EB _ (EB _ e)
theorem fK:∀(l:List Int) (a:Int),∀x∈a::l,x<=l.foldl max a
 |[],a,x,h=>by simp at h;rw[h];exact Kt _
 |b::l,a,x,h=>by
  have ih:=fK l (max a b);rw[Ho];have h0:=ih (max a b) EF;rcases EH.mp h with rfl |h
  ·lia
  ·rcases EH.mp h with rfl |h
   ·lia
   ·exact ih x (EB _ h)
def hiW(a b:Int)(l:List Pt):Int:=hiL (l.map (wth a b))
theorem jx{l:List Pt}(a b:Int)(h:l≠[]):(∃p∈l,wth a b p=hiW a b l)/\∀p∈l,wth a b p<=hiW a b l:=by
 cases l with
 |nil=>exact absurd rfl h
 |cons q l=>
  refine⟨?_,λp hp=>?_⟩
  ·have:=eZ (l.map (wth a b)) (wth a b q);rw[<-Fh]at this;obtain⟨p,hp,e⟩:=ED.mp this;exact⟨p,hp,e⟩
  ·exact fK (l.map (wth a b)) (wth a b q) _ (by rw[<-Fh];exact FL hp)
theorem lY{l:List P2}(h3:3<=(am l).length):2<=(ST.srt l).length:=by
 rcases Gy (ST.srt l).length 2 with h |h
 ·rw[cN (by lia)]at h3;lia
 ·exact h
theorem sJ{l:List P2}{i:Nat}(h:i<l.length):(gp l i,gp l ((i+1)%l.length))∈sdl l:=ED.mpr ⟨i,E5.mpr h,rfl⟩
theorem iX{l:List P2}{i:Nat}{a:P2}(h:l[i]?=some a):gp l i=a:=by simp[gp,h]
theorem wy{n i:Nat}:((i+1)%n+1)%n=(i+2)%n:=by rw[L_]
theorem dH{l:List P2}(h3:3<=(am l).length){s:P2×P2}(hs:s∈sdl (am l)):∀q∈l,0<=ac s.1 s.2 q:=by
 obtain⟨i,hi,rfl⟩:=ED.mp hs;obtain⟨a,b,e1,e2,cov,_⟩:=gY (lY h3) (E5.mp hi);show ∀q∈l,0<=ac (gp (am l) i) (gp (am l) ((i+1)%(am l).length)) q;rw[iX e1,iX e2];exact cov
theorem jl{l:List P2}(h3:3<=(am l).length){A B:P2}(hs:(A,B)∈sdl (am l)):∃C,(B,C)∈sdl (am l)/\0<ac A B C:=by
 obtain⟨i,hi,e⟩:=ED.mp hs;have QI:=E5.mp hi;obtain⟨a,b,e1,e2,_,tu⟩:=gY (lY h3) QI;obtain⟨c,e3,pos⟩:=tu (by lia)
 have ea:A=a:=by rw[<-iX e1];exact (congrArg LK e).symm
 have eb:B=b:=by rw[<-iX e2];exact (congrArg Nt e).symm
 refine⟨c,?_,by rw[ea,eb];exact pos⟩
 have:=sJ (l:=am l) (i:=(i+1)%(am l).length) (Ik _ (by lia))
 rw[wy,iX e2,iX e3]at this;rw[eb];exact this
theorem Dn{l:List P2}{A:P2}(h:A∈l):∃B,(A,B)∈sdl l:=by
 obtain⟨i,hi⟩:=FO.mp h;have QI:=(ET.mp hi).1;have:=sJ QI;rw[iX hi]at this;exact⟨_,this⟩
theorem wJ{l:List P2}{A:P2}(h:A∈l):∃Z,(Z,A)∈sdl l:=by
 obtain⟨i,hi⟩:=FO.mp h;have QI:=(ET.mp hi).1;have hj:(i+l.length-1)%l.length<l.length:=Ik _ (by lia)
 have:=sJ hj
 have e:((i+l.length-1)%l.length+1)%l.length=i:=by
  rw[L_,show i+l.length-1+1=i+l.length by lia,NN,FN QI]
 rw[e,iX hi]at this;exact⟨_,this⟩
theorem CQ{l:List P2}(hn:l.Nodup){A B C:P2}(h1:(A,B)∈sdl l)(h2:(A,C)∈sdl l):B=C:=by
 obtain⟨i,hi,e⟩:=ED.mp h1;obtain⟨j,hj,e'⟩:=ED.mp h2;have QI:=E5.mp hi;have Ui:=E5.mp hj;have ea:gp l i=gp l j:=(congrArg LK e).trans (congrArg LK e').symm;have:i=j:=(Jb QI hn).mp (by rw[du QI,du Ui,ea])
 subst this;exact (congrArg Nt e).symm.trans (congrArg Nt e')
theorem Cr{u1 u2 v1 v2 w1 w2:Int}(hd:0<u1*v2-u2*v1)(h1:u1*w2-u2*w1=0)(h2:v1*w2-v2*w1=0):w1=0/\w2=0:=by
 have e1:(u1*v2-u2*v1) *w1=0:=by
  have:(u1*v2-u2*v1) *w1=v1*(u1*w2-u2*w1)-u1*(v1*w2-v2*w1):=by grind
  rw[this,h1,h2];simp
 have e2:(u1*v2-u2*v1) *w2=0:=by
  have:(u1*v2-u2*v1) *w2=v2*(u1*w2-u2*w1)-u2*(v1*w2-v2*w1):=by grind
  rw[this,h1,h2];simp
 refine⟨?_,?_⟩
 ·rcases Ft.mp e1 with h |h
  ·lia
  ·exact h
 ·rcases Ft.mp e2 with h |h
  ·lia
  ·exact h
def vp(l:List P2)(p:P2):Prop:=p∈l/\∃a b:Int,∀q∈l,q≠p->wth a b q<wth a b p
theorem eT{l:List P2}{p:P2}(h:vp l p):p∈am l:=by
 obtain⟨hp,a,b,k⟩:=h;obtain⟨c,hc,e⟩:=p9 a b hp;by_cases hcp:c=p
 ·rw[<-hcp];exact hc
 ·have:=k c (bj _ c hc) hcp;lia
theorem cS{l:List P2}(h3:3<=(am l).length){p:P2}(hp:p∈am l):vp l p:=by
 obtain⟨Z,hZ⟩:=wJ hp;obtain⟨B,hB,pos⟩:=jl h3 hZ;refine⟨bj _ p hp,B.2-Z.2,Z.1-B.1,λq hq Qv=>?_⟩
 have c1:=dH h3 hZ q hq;have c2:=dH h3 hB q hq;dsimp only at c1 c2;have e:wth (B.2-Z.2) (Z.1-B.1) q-wth (B.2-Z.2) (Z.1-B.1) p=-(ac Z p q+ac p B q):=by unfold wth ac;grind
 rcases GR (OV c1 c2) with h |h
 ·lia
 ·exfalso
  have z1:ac Z p q=0:=by lia
  have z2:ac p B q=0:=by lia
  have:=Cr (u1:=p.1-Z.1) (u2:=p.2-Z.2) (v1:=B.1-p.1) (v2:=B.2-p.2) (w1:=q.1-p.1) (w2:=q.2-p.2) (by rw[<-(show ac Z p B=(p.1-Z.1) *(B.2-p.2)-(p.2-Z.2) *(B.1-p.1) by unfold ac;grind)];exact pos) (by rw[<-z1];unfold ac;grind) (by rw[<-z2];unfold ac;grind)
  exact Qv (GD (by lia) (by lia))
theorem BZ{u1 u2 v1 v2 w1 w2:Int}(h:u1*w2-u2*w1=0):(u1*v2-u2*v1) *w1=(w1*v2-w2*v1) *u1/\(u1*v2-u2*v1) *w2=(w1*v2-w2*v1) *u2:=by
 constructor
 ·have:(u1*v2-u2*v1) *w1-(w1*v2-w2*v1) *u1=v1*(u1*w2-u2*w1):=by grind
  rw[h]at this;simp at this;lia
 ·have:(u1*v2-u2*v1) *w2-(w1*v2-w2*v1) *u2=v2*(u1*w2-u2*w1):=by grind
  rw[h]at this;simp at this;lia
theorem gU{l:List P2}(h3:3<=(am l).length){A B:P2}:(A,B)∈sdl (am l)↔A∈am l/\B∈am l/\A≠B/\∀q∈am l,0<=ac A B q:=by
 constructor
 ·intro h;exact⟨(c7 h).1,(c7 h).2,C0 (cf l) (by lia) _ h,λq hq=>dH h3 h q (bj _ q hq)⟩
 ·rintro ⟨hA,hB,Qv,cov⟩;obtain⟨C,hC⟩:=Dn hA;obtain⟨Z,hZ⟩:=wJ hA;by_cases hBC:B=C
  ·rw[hBC];exact hC
  ·exfalso
   obtain⟨D,hD,pD⟩:=jl h3 hC;obtain⟨C',hC',pC⟩:=jl h3 hZ;have:C'=C:=CQ (cf l) hC' hC;subst this;have mC:=(c7 hC).2;have mD:=(c7 hD).2;have lB:=bj _ B hB;have k1:=dH h3 hC B lB;have k2:=cov C' mC;have k3:=dH h3 hZ B lB;have k4:=dH h3 hD B lB;dsimp only at k1 k3 k4 mC mD
   have z:(C'.1-A.1) *(B.2-A.2)-(C'.2-A.2) *(B.1-A.1)=0:=by
    have e1:ac A C' B=(C'.1-A.1) *(B.2-A.2)-(C'.2-A.2) *(B.1-A.1):=rfl;have e2:ac A B C'=-((C'.1-A.1) *(B.2-A.2)-(C'.2-A.2) *(B.1-A.1)):=by unfold ac;grind
    omega
   obtain⟨p1,p2⟩:=BZ (v1:=Z.1-A.1) (v2:=Z.2-A.2) z
   have dpos:0<(C'.1-A.1) *(Z.2-A.2)-(C'.2-A.2) *(Z.1-A.1):=by
    rw[<-(show ac Z A C'=(C'.1-A.1) *(Z.2-A.2)-(C'.2-A.2) *(Z.1-A.1) by unfold ac;grind)];exact pC
   have SD:0<=(B.1-A.1) *(Z.2-A.2)-(B.2-A.2) *(Z.1-A.1):=by
    rw[<-(show ac Z A B=(B.1-A.1) *(Z.2-A.2)-(B.2-A.2) *(Z.1-A.1) by unfold ac;grind)];exact k3
   generalize (C'.1-A.1) *(Z.2-A.2)-(C'.2-A.2) *(Z.1-A.1)=d at *;generalize (B.1-A.1) *(Z.2-A.2)-(B.2-A.2) *(Z.1-A.1)=s at *
   have s0:s≠0:=λe=>by
    rw[e,GH]at p1 p2;have q1:=(Ft.mp p1).resolve_left (by lia)
    have q2:=(Ft.mp p2).resolve_left (by lia)
    exact Qv (GD (by lia) (by lia))
   have s1:s≠d:=λe=>by
    rw[e]at p1 p2;have q1:=FX (by lia) p1
    have q2:=FX (by lia) p2
    exact hBC (GD (by lia) (by lia))
   have s2:s<=d:=by
    have e:d*ac C' D B=(d-s) *ac A C' D:=by
     have e1:d*ac C' D B=(D.1-C'.1) *(d*(B.2-A.2)-d*(C'.2-A.2))-(D.2-C'.2) *(d*(B.1-A.1)-d*(C'.1-A.1)):=by unfold ac;grind
     rw[e1,p1,p2];unfold ac;grind
    have:0<=d*ac C' D B:=E_ (by lia) k4
    rcases F6 d s with h |h
    ·have:0<(s-d) *ac A C' D:=Fx (by lia) pD
     have e3:(d-s) *ac A C' D=-((s-d) *ac A C' D):=by grind
     lia
    ·exact h
   obtain⟨_,a,b,top⟩:=cS h3 hB;have t1:=top A (bj _ A hA) Qv;have t2:=top C' (bj _ C' mC) (λe=>hBC e.symm)
   have w1:d*(wth a b B-wth a b A)=s*(wth a b C'-wth a b A):=by
    have e1:d*(wth a b B-wth a b A)=a*(d*(B.1-A.1))+b*(d*(B.2-A.2)):=by unfold wth;grind
    rw[e1,p1,p2];unfold wth;grind
   have g1:0<d*(wth a b B-wth a b A):=Fx (by lia) (by lia)
   have g2:0<wth a b C'-wth a b A:=by
    rcases F6 0 (wth a b C'-wth a b A) with h |h
    ·exact h
    ·have:0<=s* -(wth a b C'-wth a b A):=E_ (by lia) (by lia)
     have e3:s*(wth a b C'-wth a b A)=-(s* -(wth a b C'-wth a b A)):=by grind
     lia
   have g3:0<(d-s) *(wth a b C'-wth a b A):=Fx (by lia) g2
   have w2:d*(wth a b B-wth a b C')=-((d-s) *(wth a b C'-wth a b A)):=by
    have:d*(wth a b B-wth a b C')=d*(wth a b B-wth a b A)-d*(wth a b C'-wth a b A):=by grind
    rw[this,w1];grind
   have g4:0<d*(wth a b B-wth a b C'):=Fx (by lia) (by lia)
   lia
structure Lin(f:P2->P2)(d:Int):Prop where
 one:d=1\/d=-1
 ex:∃a b c e:Int,a*e-b*c=d/\∀p,f p=(a*p.1+b*p.2,c*p.1+e*p.2)
theorem Lin.det{f:P2->P2}{d:Int}(L:Lin f d)(A B q:P2):ac (f A) (f B) (f q)=d*ac A B q:=by
 obtain⟨a,b,c,e,h,k⟩:=L.ex;rw[k,k,k,<-h];unfold ac;grind
theorem nq{f:P2->P2}{d:Int}(L:Lin f d)(x y:Int):∃x' y':Int,∀p,wth x' y' (f p)=wth x y p:=by
 obtain⟨a,b,c,e,h,k⟩:=L.ex;refine⟨d*(x*e-y*c),d*(y*a-x*b),λp=>?_⟩
 rw[k];have dd:d*d=1:=by rcases L.one with z |z <;>rw[z] <;>rfl
 have:wth (d*(x*e-y*c)) (d*(y*a-x*b)) (a*p.1+b*p.2,c*p.1+e*p.2)=d*(a*e-b*c) *wth x y p:=by unfold wth;grind
 rw[this,h,dd,Ku]
theorem Lin.inj{f:P2->P2}{d:Int}(L:Lin f d){p q:P2}(e:f p=f q):p=q:=by
 obtain⟨x,y,h⟩:=nq L 1 0;obtain⟨x',y',h'⟩:=nq L 0 1;have h1:wth 1 0 p=wth 1 0 q:=by rw[<-h,<-h,e]
 have h2:wth 0 1 p=wth 0 1 q:=by rw[<-h',<-h',e]
 unfold wth at h1 h2;exact GD (by lia) (by lia)
theorem tL{f:P2->P2}{d:Int}(L:Lin f d){l:List P2}{p:P2}(h:vp l p):vp (l.map f) (f p):=by
 obtain⟨hp,a,b,k⟩:=h;obtain⟨x,y,e⟩:=nq L a b;refine⟨FL hp,x,y,λq hq Qv=>?_⟩
 obtain⟨r,hr,rfl⟩:=ED.mp hq;rw[e,e];exact k r hr λz=>Qv (by rw[z])
theorem yY{f:P2->P2}{d:Int}(L:Lin f d){l:List P2}{p:P2}(hp:p∈l)(h:vp (l.map f) (f p)):vp l p:=by
 obtain⟨_,a,b,k⟩:=h;obtain⟨u,v,w,z,_,kf⟩:=L.ex;refine⟨hp,a*u+b*w,a*v+b*z,λq hq Qv=>?_⟩
 have e:∀r:P2,wth (a*u+b*w) (a*v+b*z) r=wth a b (f r):=λr=>by rw[kf];unfold wth;grind
 rw[e,e];exact k (f q) (FL hq) λz=>Qv (L.inj z)
theorem gx{f:P2->P2}{d:Int}(L:Lin f d){l:List P2}(h3:3<=(am l).length):3<=(am (l.map f)).length:=by
 have nd:((am l).map f).Nodup:=HG _ (λa b (h:a≠b) e=>h (L.inj e)) (cf l)
 have:=dh nd (m:=am (l.map f)) λx hx=>by
  obtain⟨p,hp,rfl⟩:=ED.mp hx;exact eT (tL L (cS h3 hp))
 rw[Ex]at this;lia
theorem dA{f:P2->P2}{d:Int}(L:Lin f d){l:List P2}(h3:3<=(am l).length)(x:P2):x∈am (l.map f)↔∃p∈am l,f p=x:=by
 constructor
 ·intro h;obtain⟨p,hp,rfl⟩:=ED.mp (bj _ x h);exact⟨p,eT (yY L hp (cS (gx L h3) h)),rfl⟩
 ·rintro ⟨p,hp,rfl⟩;exact eT (tL L (cS h3 hp))
def sdf(f:P2->P2)(d:Int)(s:P2×P2):P2×P2:=if d=1 then (f s.1,f s.2) else (f s.2,f s.1)
theorem wV{f:P2->P2}{d:Int}(L:Lin f d){l:List P2}(h3:3<=(am l).length)(t:P2×P2):t∈sdl (am (l.map f))↔∃s∈sdl (am l),sdf f d s=t:=by
 have R7:=gx L h3;have sw:∀A B q:P2,ac B A q=-ac A B q:=λA B q=>by unfold ac;grind
 constructor
 ·intro h;obtain⟨x,y⟩:=t;obtain⟨hx,hy,ne,cov⟩:=(gU R7).mp h;obtain⟨A,hA,rfl⟩:=(dA L h3 x).mp hx;obtain⟨B,hB,rfl⟩:=(dA L h3 y).mp hy
  have cv:∀q∈am l,0<=d*ac A B q:=λq hq=>by
   have:=cov (f q) ((dA L h3 _).mpr ⟨q,hq,rfl⟩)
   rwa [L.det]at this
  rcases L.one with z |z
  ·refine⟨(A,B),(gU h3).mpr ⟨hA,hB,λe=>ne (by rw[e]),λq hq=>?_⟩,by unfold sdf;rw[if_pos z]⟩
   have:=cv q hq;rw[z]at this;lia
  ·refine⟨(B,A),(gU h3).mpr ⟨hB,hA,λe=>ne (by rw[e]),λq hq=>?_⟩,by unfold sdf;rw[if_neg (by lia)]⟩
   have:=cv q hq;rw[sw];rw[z]at this;lia
 ·rintro ⟨⟨A,B⟩,hs,rfl⟩;obtain⟨hA,hB,ne,cov⟩:=(gU h3).mp hs
  have cv:∀q∈am (l.map f),0<=d*ac (f A) (f B) q:=λq hq=>by
   obtain⟨p,hp,rfl⟩:=(dA L h3 q).mp hq;have:=cov p hp;rw[L.det,<-Int.mul_assoc,show d*d=1 by rcases L.one with z |z <;>rw[z] <;>rfl]
   lia
  unfold sdf;rcases L.one with z |z
  ·rw[if_pos z];refine (gU R7).mpr ⟨(dA L h3 _).mpr ⟨A,hA,rfl⟩,(dA L h3 _).mpr ⟨B,hB,rfl⟩,λe=>ne (L.inj e),λq hq=>?_⟩
   have:=cv q hq;dsimp only;rw[z]at this;lia
  ·rw[if_neg (by lia)]
   refine (gU R7).mpr ⟨(dA L h3 _).mpr ⟨B,hB,rfl⟩,(dA L h3 _).mpr ⟨A,hA,rfl⟩,λe=>ne (L.inj e.symm),λq hq=>?_⟩
   have:=cv q hq;dsimp only;rw[sw];rw[z]at this;lia
def ub(s:P2×P2):Int:=(s.2.1-s.1.1)/gst s
def vb(s:P2×P2):Int:=(s.2.2-s.1.2)/gst s
def onS(s:P2×P2)(k:Int):P2:=(s.1.1+k*ub s,s.1.2+k*vb s)
theorem gQ(s:P2×P2):s.2.1-s.1.1=gst s*ub s:=by
 unfold ub;have h:gst s ∣ s.2.1-s.1.1:=Kh ..;rw[Jf h]
theorem gL(s:P2×P2):s.2.2-s.1.2=gst s*vb s:=by
 unfold vb;have h:gst s ∣ s.2.2-s.1.2:=JW ..;rw[Jf h]
theorem xF{s:P2×P2}(h:s.1≠s.2):∃cs ct,Lvl s.1 s.2 (gst s) (ub s) (vb s) cs ct:=by
 have g0:=dQ h;obtain⟨cs,ct,G⟩:=kr (s.2.1-s.1.1) (s.2.2-s.1.2);have Ge:cs*(s.2.1-s.1.1)+ct*(s.2.2-s.1.2)=gst s:=G.eq;refine⟨cs,ct,g0,gQ s,gL s,?_⟩
 have e:gst s*(cs*ub s+ct*vb s)=gst s*1:=by
  rw[JQ];have:gst s*(cs*ub s+ct*vb s)=cs*(gst s*ub s)+ct*(gst s*vb s):=by grind
  rw[this,<-gQ,<-gL];exact Ge
 exact FX (by lia) e
theorem rX{s:P2×P2}(h:s.1≠s.2){p:P2}(hp:ac s.1 s.2 p=0):∃k,p=onS s k:=by
 obtain⟨cs,ct,L⟩:=xF h
 have z:ty s.1 p (ub s) (vb s)=0:=by
  rw[L.area]at hp;exact (Ft.mp hp).resolve_left (by have:=L.g0;lia)
 obtain⟨b1,b2⟩:=L.back p;rw[z]at b1 b2;refine⟨tx s.1 p cs ct,GD ?_ ?_⟩
 ·show p.1=s.1.1+tx s.1 p cs ct*ub s;grind
 ·show p.2=s.1.2+tx s.1 p cs ct*vb s;grind
theorem rQ(s:P2×P2)(k:Int)(X Y:P2):gst s*ac X Y (onS s k)=(gst s-k) *ac X Y s.1+k*ac X Y s.2:=by
 have h1:=gQ s;have h2:=gL s;have e1:s.2.1=s.1.1+gst s*ub s:=by lia
 have e2:s.2.2=s.1.2+gst s*vb s:=by lia
 unfold onS ac;dsimp only;rw[e1,e2];grind
theorem BY{s:P2×P2}(h:s.1≠s.2){j k:Int}(e:onS s j=onS s k):j=k:=by
 obtain⟨cs,ct,L⟩:=xF h;have st:=L.st;have e1:s.1.1+j*ub s=s.1.1+k*ub s:=congrArg LK e;have e2:s.1.2+j*vb s=s.1.2+k*vb s:=congrArg Nt e
 have a1:(j - k) *ub s=0:=by have:(j - k) *ub s=j*ub s - k*ub s:=by grind
                             omega
 have a2:(j - k) *vb s=0:=by have:(j - k) *vb s=j*vb s - k*vb s:=by grind
                             omega
 have:(j-k) *(cs*ub s+ct*vb s)=cs*((j-k) *ub s)+ct*((j-k) *vb s):=by grind
 rw[st,a1,a2]at this;simp at this;lia
theorem bZ{a b:Int}(ha:0<a)(h:0<=a*b):0<=b:=by
 rcases F6 b 0 with z |z
 ·have:=Fx ha (show 0 < -b by lia)
  have e:a* -b=-(a*b):=by grind
  lia
 ·exact z
theorem gw{A B p:P2}(h:ST.ltP A B=true):(ac A B p=0/\ST.leP A p=true/\ST.leP p B=true)↔∃k:Int,0<=k/\k<=gst (A,B)/\p=onS (A,B) k:=by
 have Qv:(A,B).1≠(A,B).2:=λe=>by
  dsimp only at e;subst e;unfold ST.ltP at h;simp at h
 have g0:=dQ Qv;have h1:=gQ (A,B);have h2:=gL (A,B);dsimp only at h1 h2;unfold ST.ltP at h;have h:=of_decide_eq_true h
 have lex:0<ub (A,B)\/(ub (A,B)=0/\0<vb (A,B)):=by
  rcases h with z |⟨z,w⟩
  ·left
   have:0<gst (A,B) *ub (A,B):=by lia
   exact G7 this (by lia)
  ·right
   have e:gst (A,B) *ub (A,B)=0:=by lia
   have:0<gst (A,B) *vb (A,B):=by lia
   exact⟨(Ft.mp e).resolve_left (by lia),G7 this (by lia)⟩
 have sg:∀k:Int,(ST.leP A (onS (A,B) k)=true↔0<=k)/\(ST.leP (onS (A,B) k) B=true↔k<=gst (A,B)):=λk=>by
  have r:∀m:Int,(0<m*ub (A,B)\/(m*ub (A,B)=0/\0<=m*vb (A,B)))↔0<=m:=λm=>by
   rcases lex with u |⟨u,v⟩
   ·constructor
    ·rintro (z |⟨z,_⟩)
     ·exact NU (Int.pos_of_mul_pos_left z (by lia))
     ·rcases Ft.mp z with w |w <;>lia
    ·intro hm;rcases GR hm with z |z
     ·left;exact Fx z u
     ·right;rw[<-z];simp
   ·rw[u,HE];constructor
    ·rintro (z |⟨_,z⟩)
     ·lia
     ·rw[Mq]at z;exact bZ v z
    ·intro hm;exact .inr ⟨rfl,E_ hm (by lia)⟩
  have e1:(gst (A,B)-k) *ub (A,B)=B.1-(A.1+k*ub (A,B)):=by
   have:(gst (A,B)-k) *ub (A,B)=gst (A,B) *ub (A,B)-k*ub (A,B):=by grind
   lia
  have e2:(gst (A,B)-k) *vb (A,B)=B.2-(A.2+k*vb (A,B)):=by
   have:(gst (A,B)-k) *vb (A,B)=gst (A,B) *vb (A,B)-k*vb (A,B):=by grind
   lia
  have r1:=r k;have r2:=r (gst (A,B)-k);rw[e1,e2]at r2;unfold ST.leP onS;rw[decide_eq_true_eq,decide_eq_true_eq];dsimp only;constructor
  ·rw[<-r1];omega
  ·rw[show k<=gst (A,B)↔0<=gst (A,B)-k by lia,<-r2];lia
 constructor
 ·rintro ⟨d,a,b⟩;obtain⟨k,rfl⟩:=rX Qv d;exact⟨k,(sg k).1.mp a,(sg k).2.mp b,rfl⟩
 ·rintro ⟨k,k0,k1,rfl⟩;refine⟨?_,(sg k).1.mpr k0,(sg k).2.mpr k1⟩;have m:=rQ (A,B) k A B;have z1:ac A B A=0:=by unfold ac;grind
  have z2:ac A B B=0:=by unfold ac;grind
  dsimp only at m;rw[z1,z2,HE,HE,P4]at m;exact (Ft.mp m).resolve_left (by lia)
theorem Ao{a b c e x y:Int}(h:a*e-b*c=1\/a*e-b*c=-1):IA (a*x+b*y) (c*x+e*y)=IA x y:=by
 apply Nat.dvd_antisymm
 ·have h1:((IA (a*x+b*y) (c*x+e*y):Nat):Int) ∣ a*x+b*y:=Kh ..;have h2:((IA (a*x+b*y) (c*x+e*y):Nat):Int) ∣ c*x+e*y:=JW ..;generalize IA (a*x+b*y) (c*x+e*y)=g at *
  have k1:(g:Int) ∣ (a*e-b*c) *x:=by
   have:(a*e-b*c) *x=e*(a*x+b*y)-b*(c*x+e*y):=by grind
   rw[this];exact LJ (FR h1 (FW ..)) (FR h2 (FW ..))
  have k2:(g:Int) ∣ (a*e-b*c) *y:=by
   have:(a*e-b*c) *y=a*(c*x+e*y)-c*(a*x+b*y):=by grind
   rw[this];exact LJ (FR h2 (FW ..)) (FR h1 (FW ..))
  have up:∀z:Int,(g:Int) ∣ (a*e-b*c) *z->(g:Int) ∣ z:=λz k=>by
   rcases h with w |w <;>rw[w]at k
   ·rwa [Ku]at k
   ·rw[Int.neg_one_mul]at k;exact M6.mp k
  exact Py.mp (Mr (up x k1) (up y k2))
 ·have h1:((IA x y:Nat):Int) ∣ x:=Kh ..;have h2:((IA x y:Nat):Int) ∣ y:=JW ..;exact Py.mp (Mr (IV (FR h1 (FW ..)) (FR h2 (FW ..))) (IV (FR h1 (FW ..)) (FR h2 (FW ..))))
theorem dL(A B:P2):gst (B,A)=gst (A,B):=by
 unfold gst;dsimp only;rw[show A.1-B.1=-(B.1-A.1) by lia,show A.2-B.2=-(B.2-A.2) by lia,Int.gcd_neg,Int.neg_gcd]
theorem AC{f:P2->P2}{d:Int}(L:Lin f d)(s:P2×P2):gst (sdf f d s)=gst s:=by
 obtain⟨A,B⟩:=s
 have key:gst (f A,f B)=gst (A,B):=by
  obtain⟨a,b,c,e,h,k⟩:=L.ex;unfold gst;rw[k,k];dsimp only;rw[show a*B.1+b*B.2-(a*A.1+b*A.2)=a*(B.1-A.1)+b*(B.2-A.2) by grind,show c*B.1+e*B.2-(c*A.1+e*A.2)=c*(B.1-A.1)+e*(B.2-A.2) by grind]
  rw[Ao (by rw[h];exact L.one)]
 unfold sdf;split
 ·exact key
 ·exact (dL _ _).trans key
theorem rZ(l:List P2):sdl l=Oa l (l.drop 1++l.take 1):=by
 have h1:=tF l;have h2:=sV l
 have:sdl l=Oa ((sdl l).map (·.1)) ((sdl l).map (·.2)):=by
  generalize sdl l=s
  induction s with
  |nil=>rfl
  |cons x r ih=>simp only[Fh,Hb];rw[<-ih]
 rw[h1,h2]at this;exact this
theorem lJ{l:List P2}{k:Int}{i:Nat}(e:k=(i:Int))(h:i<l.length):atI (l.map pu) k=some (pu (gp l i)):=xB e (by rw[EI,du h];rfl)
theorem Szp.mono{m n:Nat}{p:P2}(h:Szp m p)(le:m<=n):Szp n p:=⟨h.1.mono le,h.2.mono le⟩
theorem zP(Z P B q:P2)(a b:Int):ac Z P B*(wth a b q-wth a b P)=-(ac P B q*(wth a b P-wth a b Z))-ac Z P q*(wth a b P-wth a b B):=by unfold ac wth;grind
theorem uj{l:List P2}(h3:3<=(am l).length)(a b:Int):∃Z P B,(Z,P)∈sdl (am l)/\(P,B)∈sdl (am l)/\0<ac Z P B/\wth a b P=hiW a b (am l)/\wth a b Z<=wth a b P/\wth a b B<=wth a b P:=by
 obtain⟨⟨P,hP,e⟩,k⟩:=jx a b (l:=am l) (λz=>by rw[z]at h3;simp at h3)
 obtain⟨Z,hZ⟩:=wJ hP;obtain⟨B,hB,pos⟩:=jl h3 hZ;refine⟨Z,P,B,hZ,hB,pos,e,?_,?_⟩
 ·rw[e];exact k Z (c7 hZ).1
 ·rw[e];exact k B (c7 hB).2
theorem BE{l:List P2}(h3:3<=(am l).length)(a b:Int){q:P2}(hq:∀s∈sdl (am l),0<=ac s.1 s.2 q):wth a b q<=hiW a b (am l):=by
 obtain⟨Z,P,B,hZ,hB,pos,e,k1,k2⟩:=uj h3 a b;rw[<-e];have i1:0<=ac P B q*(wth a b P-wth a b Z):=E_ (hq _ hB) (by lia)
 have i2:0<=ac Z P q*(wth a b P-wth a b B):=E_ (hq _ hZ) (by lia)
 have pe:=zP Z P B q a b;rcases F6 (wth a b P) (wth a b q) with h |h
 ·have:=Fx pos (show 0<wth a b q-wth a b P by lia)
  lia
 ·exact h
def mN(l:List P2):Int:=if l.length<3 then gst (gp l 0,gp l (l.length-1))+1 else mT l
def nI(a:Int)(n:Nat):List Int:=(Fw n).map λ(i:Nat)=>a+(i:Int)
def yy(x:Int)(n:Nat)(y:Int)(m:Nat):List P2:=((nI x n).map λa=>(nI y m).map λb=>(a,b)).flatten
theorem fi{a:Int}{n:Nat}{x:Int}:x∈nI a n↔a<=x/\x<a+n:=by
 unfold nI;rw[ED];constructor
 ·rintro ⟨i,hi,rfl⟩;have:=E5.mp hi;lia
 ·rintro ⟨h1,h2⟩;exact⟨(x-a).toNat,E5.mpr (by lia),by lia⟩
theorem nR(a:Int)(n:Nat):(nI a n).Nodup:=by
 unfold nI;exact HG _ (λi j (h:i≠j) e=>h (by lia)) Ke
theorem xA{x y:Int}{n m:Nat}{p:P2}:p∈yy x n y m↔(x<=p.1/\p.1<x+n)/\y<=p.2/\p.2<y+m:=by
 unfold yy;rw[LM];constructor
 ·rintro ⟨q,hq,hp⟩;obtain⟨a,ha,rfl⟩:=ED.mp hq;obtain⟨b,hb,rfl⟩:=ED.mp hp;exact⟨fi.mp ha,fi.mp hb⟩
 ·rintro ⟨h1,h2⟩;exact⟨_,ED.mpr ⟨p.1,fi.mpr h1,rfl⟩,ED.mpr ⟨p.2,fi.mpr h2,rfl⟩⟩
theorem zL(x:Int)(n:Nat)(y:Int)(m:Nat):(yy x n y m).Nodup:=by
 unfold yy;refine List.pairwise_flatten.mpr ⟨λq hq=>?_,?_⟩
 ·obtain⟨a,_,rfl⟩:=ED.mp hq;exact HG _ (λi j (h:i≠j) e=>h (congrArg Nt e)) (nR y m)
 ·refine FU.mpr ((nR x n).imp λ{a b} h p hp q hq e=>?_)
  obtain⟨_,_,rfl⟩:=ED.mp hp;obtain⟨_,_,rfl⟩:=ED.mp hq;exact h (congrArg LK e)
def loX(l:List P2):Int:=qQ (l.map (·.1))
def hiX(l:List P2):Int:=hiL (l.map (·.1))
def loY(l:List P2):Int:=qQ (l.map (·.2))
def hiY(l:List P2):Int:=hiL (l.map (·.2))
theorem de{l:List Int}(h:l≠[]):hiL l∈l/\∀a∈l,a<=hiL l:=by
 cases l with
 |nil=>exact absurd rfl h
 |cons a l=>exact⟨eZ l a,fK l a⟩
def bxN(l:List P2):Nat:=(hiX l+1-loX l).toNat
def byN(l:List P2):Nat:=(hiY l+1-loY l).toNat
def box(l:List P2):List P2:=yy (loX l) (bxN l) (loY l) (byN l)
theorem fM{l:List P2}(Qv:l≠[]){p:P2}:p∈box l↔(loX l<=p.1/\p.1<=hiX l)/\loY l<=p.2/\p.2<=hiY l:=by
 unfold box bxN byN;rw[xA];lia
theorem rh{A B:List P2}(hA:A.Nodup)(hB:B.Nodup)(h:∀p,p∈A↔p∈B):A.length=B.length:=((Gb hA hB).mpr h).length_eq
theorem yR{l:List P2}(h3:3<=(am l).length){p:P2}(h:∀s∈sdl (am l),0<=ac s.1 s.2 p):p∈box (am l):=by
 have Qv:am l≠[]:=λz=>by rw[z]at h3;simp at h3
 have key:∀a b:Int,∃q∈am l,wth a b p<=wth a b q:=λa b=>by
  obtain⟨⟨q,hq,e⟩,_⟩:=jx a b Qv;exact⟨q,hq,by rw[e];exact BE h3 a b h⟩
 have hx:(am l).map (·.1)≠[]:=by simpa using Qv
 have hy:(am l).map (·.2)≠[]:=by simpa using Qv
 obtain⟨q1,m1,k1⟩:=key 1 0;obtain⟨q2,m2,k2⟩:=key (-1) 0;obtain⟨q3,m3,k3⟩:=key 0 1;obtain⟨q4,m4,k4⟩:=key 0 (-1);have a1:=(de hx).2 q1.1 (FL m1);have a2:=(cJ hx).2 q2.1 (FL m2);have a3:=(de hy).2 q3.2 (FL m3);have a4:=(cJ hy).2 q4.2 (FL m4);unfold wth at k1 k2 k3 k4;rw[fM Qv];unfold loX hiX loY hiY;lia
theorem Au(A:P2):box [A]=[A]:=by
 have h:∀p,p∈box [A]↔p∈[A]:=λp=>by
  rw[fM (by simp),EJ]
  unfold loX hiX loY hiY qQ hiL;simp only[Fh,NQ,List.foldl_nil];constructor
  ·intro h;exact GD (by lia) (by lia)
  ·rintro rfl;lia
 have hp:=(Gb (zL _ _ _ _) (by simp:[A].Nodup)).mpr h
 exact List.perm_singleton.mp hp
theorem AQ{A B p:P2}(h:ST.ltP A B=true):(p∈box [A,B]/\ac A B p=0)↔∃k:Int,0<=k/\k<=gst (A,B)/\p=onS (A,B) k:=by
 rw[<-gw h,fM (by simp)]
 have lt:=h;unfold ST.ltP at lt;have lt:=of_decide_eq_true lt;have e1:loX [A,B]=A.1:=by show min A.1 B.1=A.1;lia
 have e2:hiX [A,B]=B.1:=by show max A.1 B.1=B.1;lia
 have e3:loY [A,B]=min A.2 B.2:=rfl;have e4:hiY [A,B]=max A.2 B.2:=rfl;rw[e1,e2,e3,e4];unfold ST.leP;rw[decide_eq_true_eq,decide_eq_true_eq];constructor
 ·rintro ⟨⟨⟨a1,a2⟩,b1,b2⟩,d⟩;refine⟨d,?_,?_⟩
  ·rcases GR a1 with z |z
   ·exact .inl z
   ·right
    refine⟨z,?_⟩;rcases lt with w |⟨w,w'⟩
    ·unfold ac at d;rw[<-z,Int.sub_self,HE,Mu]at d;have:=(Ft.mp d).resolve_left (by lia)
     lia
    ·lia
  ·rcases GR a2 with z |z
   ·exact .inl z
   ·right
    refine⟨z,?_⟩;rcases lt with w |⟨w,w'⟩
    ·have d':(B.1-A.1) *(p.2-B.2)=0:=by
      have:ac A B p=(B.1-A.1) *(p.2-B.2):=by unfold ac;rw[z];grind
      lia
     have:=(Ft.mp d').resolve_left (by lia)
     lia
    ·lia
 ·rintro ⟨d,a,b⟩;refine⟨⟨⟨by lia,by lia⟩,?_⟩,d⟩
  rcases lt with w |⟨w,w'⟩
  ·have hd:(B.1-A.1) *(p.2-A.2)=(B.2-A.2) *(p.1-A.1):=by unfold ac at d;lia
   have RT:(B.1-A.1) *(B.2-p.2)=(B.2-A.2) *(B.1-p.1):=by grind
   rcases Ms A.2 B.2 with u |u
   ·have x1:=E_ (show 0<=B.2-A.2 by lia) (show 0<=p.1-A.1 by lia)
    have x2:=E_ (show 0<=B.2-A.2 by lia) (show 0<=B.1-p.1 by lia)
    rw[<-hd]at x1;rw[<-RT]at x2;have y1:=bZ (by lia) x1
    have y2:=bZ (by lia) x2
    lia
   ·have x1:=E_ (show 0<=A.2-B.2 by lia) (show 0<=p.1-A.1 by lia)
    have x2:=E_ (show 0<=A.2-B.2 by lia) (show 0<=B.1-p.1 by lia)
    have f1:(A.2-B.2) *(p.1-A.1)=(B.1-A.1) *(A.2-p.2):=by grind
    have f2:(A.2-B.2) *(B.1-p.1)=(B.1-A.1) *(p.2-B.2):=by grind
    rw[f1]at x1;rw[f2]at x2;have y1:=bZ (by lia) x1
    have y2:=bZ (by lia) x2
    lia
  ·lia
theorem zk(A B:P2):sdl [A,B]=[(A,B),(B,A)]:=by
 unfold sdl nxt;simp[JE]
theorem uG{A B:P2}(h:am [A,B]=[A,B]):ST.ltP A B=true:=by
 have nd:[A,B].Nodup:=by rw[<-h];exact cf _
 have ne:A≠B:=by simpa using nd
 have asc:=ST.srt_asc [A,B];have hm:=λz=>ST.srt_mem z [A,B]
 match e:ST.srt [A,B],asc,hm with
 |[],_,hm=>have:=(hm A).mpr (by simp);simp at this
 |[X],_,hm=>
  have a:=(hm A).mpr (by simp)
  have b:=(hm B).mpr (by simp)
  rw[EJ]at a b;exact absurd (a.trans b.symm) ne
 |X::Y::[],asc,_=>
  have c:am [A,B]=[X,Y]:=by unfold am;rw[e];simp[ai,aM]
  rw[h]at c;injection c with c1 c2
  injection c2 with c2 _
  subst c1 c2;exact (Fq.mp asc).1 _ (by simp)
 |X::Y::Z::r,_,_=>
  have:=ST.srt_len [A,B];rw[e]at this;simp at this
def iq(l:List P2):Int:=pin l+mN l
def TP:List P2->Prop
 |[]=>True
 |a::v=>(v.Pairwise λx y=>0<ac a x y)/\TP v
theorem nj(f:P2->P2)(l:List P2):sdl (l.map f)=(sdl l).map λs=>(f s.1,f s.2):=by
 rw[rZ,rZ,<-Nk,<-Nj,<-Fi];generalize l.drop 1++l.take 1=m
 induction l generalizing m with
 |nil=>rfl
 |cons a l ih=>
  cases m with
  |nil=>simp
  |cons b m=>simp only[Fh,Hb];rw[ih]
theorem zu(k:Int)(s:P2×P2):crs (scl k s.1,scl k s.2)=k*k*crs s:=by unfold crs scl;grind
theorem ug{k:Int}(hk:0<=k)(s:P2×P2):gst (scl k s.1,scl k s.2)=k*gst s:=by
 unfold gst scl;dsimp only;rw[show k*s.2.1-k*s.1.1=k*(s.2.1-s.1.1) by grind,show k*s.2.2-k*s.1.2=k*(s.2.2-s.1.2) by grind,LN]
 rw[Int.natCast_mul,Ih hk]
theorem qh(k:Int)(l:List Int):(l.map λx=>k*x).sum=k*l.sum:=by
 induction l with
 |nil=>simp
 |cons a l ih=>rw[Fh,Kn,Kn,ih];grind
theorem o7(k:Int)(l:List P2):area (l.map (scl k))=k*k*area l:=by
 unfold area;rw[nj,Fn,<-qh,Fn];congr 1;exact GW λs _=>zu k s
theorem tN{k:Int}(hk:0<=k)(l:List P2):mT (l.map (scl k))=k*mT l:=by
 unfold mT;rw[nj,Fn,<-qh,Fn];congr 1;exact GW λs _=>ug hk s
def cntK(l:List P2)(k:Int):Int:=iq (am (l.map (scl k)))
theorem o9{k:Int}(hk:0<k)(l:List P2):am (l.map (scl k))=(am l).map (scl k):=qa (λa b=>AF hk a b) (λa b c=>A1 hk a b c) l
theorem lZ{l:List P2}(Qv:l≠[]):am (l.map (scl 0))=[(0,0)]:=by
 have Ul:l.map (scl 0)≠[]:=by simpa using Qv
 have h0:∀q∈l.map (scl 0),q=(0,0):=λq hq=>by
  obtain⟨p,_,rfl⟩:=ED.mp hq;unfold scl;simp
 have:ST.srt (l.map (scl 0))=ST.srt [(0,0)]:=iD λz=>by
  rw[EJ];constructor
  ·exact h0 z
  ·rintro rfl;obtain⟨a,r,e⟩:=KB Ul;rw[e];have:=h0 a (by rw[e];simp)
   rw[this];simp
 rw[kQ this];rfl
theorem mf{a b:P2}(h:ST.ltP a b=true):am [a,b]=[a,b]:=by
 have e:ST.srt [a,b]=[a,b]:=ST.asc_srt (by simp[ST.Asc,h])
 unfold am;rw[e];simp[ai,aM]
def dy(l:List P2)(p:P2):Bool:=if l.length=1 then decide (p=gp l 0) else if l.length=2 then (decide (ac (gp l 0) (gp l 1) p=0) && (ST.leP (gp l 0) p && ST.leP p (gp l 1))) else (sdl l).all λs=>decide (0<=ac s.1 s.2 p)
theorem fP{l:List P2}(h3:3<=l.length)(p:P2):dy l p=true↔∀s∈sdl l,0<=ac s.1 s.2 p:=by
 unfold dy;rw[if_neg (by lia),if_neg (by lia),Kd]
 simp only[decide_eq_true_eq]
theorem jH(A B p:P2):dy [A,B] p=true↔ac A B p=0/\ST.leP A p=true/\ST.leP p B=true:=by
 unfold dy;rw[if_neg (by simp),if_pos (by simp),GI,GI,decide_eq_true_eq]
 rfl
theorem iJ(A p:P2):dy [A] p=true↔p=A:=by
 unfold dy;rw[if_pos (by simp),decide_eq_true_eq];rfl
theorem BK{A B:P2}(h:ST.ltP A B=true):A.1<B.1\/(A.1=B.1/\A.2<B.2):=by
 unfold ST.ltP at h;exact of_decide_eq_true h
theorem yZ{A B:P2}(h:ST.ltP A B=true):loX [A,B]=A.1/\hiX [A,B]=B.1/\loY [A,B]=min A.2 B.2/\hiY [A,B]=max A.2 B.2:=by
 have:=BK h;exact⟨(by show min A.1 B.1=A.1;lia),(by show max A.1 B.1=B.1;lia),rfl,rfl⟩
theorem AH{A B:P2}(h:ST.ltP A B=true){p:P2}(hp:dy [A,B] p=true):p∈box [A,B]:=by
 have:=(jH A B p).mp hp;exact ((AQ h).mpr ((gw h).mp this)).1
structure Fld(l:List P2):Prop where
 ne:l≠[]
 cr:am l=l
theorem Fld.cases{l:List P2}(F:Fld l):(∃A,l=[A])\/(∃A B,l=[A,B]/\ST.ltP A B=true)\/3<=(am l).length:=by
 match l,F with
 |[],F=>exact absurd rfl F.ne
 |[A],_=>exact .inl ⟨A,rfl⟩
 |[A,B],F=>exact .inr (.inl ⟨A,B,rfl,uG F.cr⟩)
 |A::B::C::r,F=>exact .inr (.inr (by rw[F.cr];simp))
theorem Fld.in_box{l:List P2}(F:Fld l){p:P2}(h:dy l p=true):p∈box l:=by
 rcases F.cases with ⟨A,rfl⟩ |⟨A,B,rfl,lt⟩ |h3
 ·rw[(iJ A p).mp h,Au];simp
 ·exact AH lt h
 ·rw[<-F.cr]at h |-;exact yR h3 ((fP h3 p).mp h)
def shf(s a b:Int)(p:P2):P2:=(p.1+a,p.2+s*p.1+b)
theorem Aw(s a b:Int)(p q:P2)(h:plt p q):plt (shf s a b p) (shf s a b q):=by
 unfold plt shf at *;dsimp only;rcases h with h |⟨h,k⟩
 ·left;lia
 ·right;rw[h];lia
theorem ou(s a b:Int)(p q r:P2):ac (shf s a b p) (shf s a b q) (shf s a b r)=ac p q r:=by unfold ac shf;grind
theorem AU{s a b:Int}{p q:P2}(e:shf s a b p=shf s a b q):p=q:=by
 have e1:p.1+a=q.1+a:=congrArg LK e;have e2:p.2+s*p.1+b=q.2+s*q.1+b:=congrArg Nt e;have e1:p.1=q.1:=by lia
 rw[e1]at e2;exact GD e1 (by lia)
theorem qc(s a b:Int)(l:List P2):am (l.map (shf s a b))=(am l).map (shf s a b):=qa (Aw s a b) (λp q r=>by rw[ou]) l
theorem uq(s a b:Int)(p q:P2):ST.leP (shf s a b p) (shf s a b q)=ST.leP p q:=by
 unfold ST.leP shf;dsimp only;rw[Hm,decide_eq_true_eq,decide_eq_true_eq];constructor
 ·rintro (h |⟨h,k⟩)
  ·left;lia
  ·right
   have:p.1=q.1:=by lia
   rw[this]at k;lia
 ·rintro (h |⟨h,k⟩)
  ·left;lia
  ·right;rw[h];lia
theorem qG{f:P2->P2}{l:List P2}{i:Nat}(h:i<l.length):gp (l.map f) i=f (gp l i):=by simp[gp,h]
theorem BN(s a b:Int)(l:List P2)(Qv:l≠[])(p:P2):dy (l.map (shf s a b)) (shf s a b p)=dy l p:=by
 have h0:0<l.length:=FJ.mpr Qv;unfold dy;rw[Ex];by_cases h1:l.length=1
 ·rw[if_pos h1,if_pos h1,qG h0];exact decide_eq_decide.mpr ⟨AU,λe=>by rw[e]⟩
 ·rw[if_neg h1,if_neg h1];by_cases h2:l.length=2
  ·rw[if_pos h2,if_pos h2,qG h0,qG (show 1<l.length by lia),ou,uq,uq]
  ·rw[if_neg h2,if_neg h2,nj,PR];congr 1
   funext t
   show decide (0<=ac (shf s a b t.1) (shf s a b t.2) (shf s a b p))=_;rw[ou]
theorem vf{pts:List P2}(Qv:pts≠[]):∃mn mx,(am pts)[0]?=some mn/\mn∈pts/\mx∈pts/\(∀q∈pts,ST.ltP q mn=false)/\(∀q∈pts,ST.ltP mx q=false)/\(¬ 2<(am pts).length->(am pts)[(am pts).length-1]?=some mx):=by
 have no:∀{a b:P2},(a=b\/plt a b)->ST.ltP b a=false:=λ{a b} h=>by
  rw[ST.ltP_no];rcases h with rfl |h
  ·lia
  ·unfold plt at h;lia
 by_cases h2:2<=(ST.srt pts).length
 ·have hs:=dS pts;obtain⟨mn,mx,W⟩:=Cn hs h2
  have hc:am pts=(ai (ST.srt pts)).reverse.dropLast++(ai (ST.srt pts).reverse).reverse.dropLast:=by
   unfold am;rw[if_neg (by lia)]
  have T9:mn∈ST.srt pts:=bJ _ _ (E3.mp (EV W.t0));have memX:mx∈ST.srt pts:=bJ _ _ (E3.mp (EV W.t1));refine⟨mn,mx,?_,(ST.srt_mem _ _).mp T9,(ST.srt_mem _ _).mp memX,λq hq=>no ((W.least q ((ST.srt_mem _ _).mpr hq)).imp (λe=>e.symm) id),λq hq=>no (W.most q ((ST.srt_mem _ _).mpr hq)),λh=>?_⟩
  ·have:=eJ W (k:=0) (by lia)
   rw[P3]at this;rw[hc,this];exact W.t0
  ·rw[hc]at h |-;have h1:=W.lt;have h3:=W.lb;have hn:((ai (ST.srt pts)).reverse.dropLast++(ai (ST.srt pts).reverse).reverse.dropLast).length=(ai (ST.srt pts)).reverse.length-1+((ai (ST.srt pts).reverse).reverse.length-1):=by simp
   have:=eJ W (k:=(ai (ST.srt pts)).reverse.length-1) (EL _);rw[W.t1,FN (by lia)]at this
   rw[<-this];congr 1;lia
 ·have h1:(ST.srt pts).length=1:=by
   obtain⟨x,hx⟩:=List.exists_mem_of_ne_nil pts Qv;have:=F_ ((ST.srt_mem x pts).mpr hx);lia
  obtain⟨x,hx⟩:=JO.mp h1;have all:∀q∈pts,q=x:=λq hq=>by have:=(ST.srt_mem q pts).mpr hq;rw[hx]at this;simpa using this
  have mx:x∈pts:=(ST.srt_mem _ _).mp (by rw[hx];simp)
  rw[cN h2,hx];exact⟨x,x,rfl,mx,mx,λq hq=>no (.inl (all q hq).symm),λq hq=>no (.inl (all q hq)),λ_=>rfl⟩
theorem tG{f:P2->P2}{d:Int}(L:Lin f d)(A B:P2):gst (f A,f B)=gst (A,B):=by
 have:=AC L (A,B);unfold sdf at this;split at this
 ·exact this
 ·rw[<-dL];exact this
theorem yg{f:P2->P2}{d:Int}(L:Lin f d){A B:P2}(h:A≠B)(k:Int):onS (f A,f B) k=f (onS (A,B) k):=by
 have g0:0<gst (A,B):=dQ h;have e1:=gQ (A,B);have e2:=gL (A,B);have eg:=tG L A B;obtain⟨a,b,c,e,_,hf⟩:=L.ex
 have u1:ub (f A,f B)=a*ub (A,B)+b*vb (A,B):=by
  unfold ub;rw[eg];dsimp only at *;rw[hf,hf];dsimp only
  rw[show a*B.1+b*B.2-(a*A.1+b*A.2)=gst (A,B) *(a*ub (A,B)+b*vb (A,B)) by
   have:a*B.1+b*B.2-(a*A.1+b*A.2)=a*(B.1-A.1)+b*(B.2-A.2):=by grind
   rw[this,e1,e2];grind]
  rw[Fs _ (by lia)]
  rfl
 have v1:vb (f A,f B)=c*ub (A,B)+e*vb (A,B):=by
  unfold vb;rw[eg];dsimp only at *;rw[hf,hf];dsimp only
  rw[show c*B.1+e*B.2-(c*A.1+e*A.2)=gst (A,B) *(c*ub (A,B)+e*vb (A,B)) by
   have:c*B.1+e*B.2-(c*A.1+e*A.2)=c*(B.1-A.1)+e*(B.2-A.2):=by grind
   rw[this,e1,e2];grind]
  rw[Fs _ (by lia)]
  rfl
 unfold onS;rw[u1,v1];dsimp only;rw[hf,hf];dsimp only;exact GD (by dsimp only;grind) (by dsimp only;grind)
theorem AK{A B:P2}(h:A≠B)(k:Int):onS (B,A) k=onS (A,B) (gst (A,B)-k):=by
 have e1:=gQ (A,B);have e2:=gL (A,B);have e3:=gQ (B,A);have e4:=gL (B,A);have g0:0<gst (A,B):=dQ h;rw[dL]at e3 e4;dsimp only at *;have u:ub (B,A)=-ub (A,B):=FX (a:=gst (A,B)) (by lia) (by rw[M7];lia)
 have v:vb (B,A)=-vb (A,B):=FX (a:=gst (A,B)) (by lia) (by rw[M7];lia)
 unfold onS;rw[u,v];dsimp only;exact GD (by dsimp only;grind) (by dsimp only;grind)
def oG(A B p:P2):Prop:=∃k:Int,0<=k/\k<=gst (A,B)/\p=onS (A,B) k
theorem yC{A B:P2}(h:A≠B)(p:P2):oG B A p↔oG A B p:=by
 have key:∀{A B:P2},A≠B->oG B A p->oG A B p:=λ{A B} h ⟨k,k0,k1,e⟩=>by
  rw[dL]at k1;exact⟨gst (A,B)-k,by lia,by lia,by rw[e,AK h]⟩
 exact⟨key h,key h.symm⟩
theorem AY{f:P2->P2}{d:Int}(L:Lin f d){A B:P2}(h:A≠B)(p:P2):oG (f A) (f B) (f p)↔oG A B p:=by
 unfold oG;rw[tG L];constructor
 ·rintro ⟨k,k0,k1,e⟩;exact⟨k,k0,k1,L.inj (by rw[e,yg L h])⟩
 ·rintro ⟨k,k0,k1,e⟩;exact⟨k,k0,k1,by rw[e,yg L h]⟩
theorem qZ{A B:P2}(h:ST.ltP A B=true)(p:P2):dy [A,B] p=true↔oG A B p:=by rw[jH,gw h];rfl
theorem km{A B:P2}(h:A≠B):(ST.ltP A B=true/\am [A,B]=[A,B])\/(ST.ltP B A=true/\am [A,B]=[B,A]):=by
 by_cases hl:ST.ltP A B=true
 ·exact .inl ⟨hl,mf hl⟩
 ·have hb:=ST.ltP_tot h (by simpa using hl)
  refine .inr ⟨hb,?_⟩;rw[kQ (iD (m:=[B,A]) λz=>by simp[or_comm]),mf hb]
theorem Ce{f:P2->P2}{d:Int}(L:Lin f d){l:List P2}(F:Fld l)(p:P2):dy (am (l.map f)) (f p)=dy l p:=by
 rw[Hm];rcases F.cases with ⟨A,rfl⟩ |⟨A,B,rfl,lt⟩ |h3
 ·have e:am ([A].map f)=[f A]:=rfl;rw[e,iJ,iJ];exact⟨λh=>L.inj h,λh=>by rw[h]⟩
 ·have ne:A≠B:=λe=>by rw[e,ST.asc_irr]at lt;cases lt
  have ne':f A≠f B:=λe=>ne (L.inj e)
  rw[qZ lt,<-AY L ne];show dy (am [f A,f B]) (f p)=true↔_;rcases km ne' with ⟨h,e⟩ |⟨h,e⟩
  ·rw[e,qZ h]
  ·rw[e,qZ h,yC ne']
 ·have l3:=gx L h3;have R7:3<=l.length:=by rw[<-F.cr];exact h3
  rw[fP l3,fP R7];constructor
  ·intro h s hs;have:=h _ ((wV L h3 _).mpr ⟨s,by rw[F.cr];exact hs,rfl⟩)
   unfold sdf at this;rcases L.one with e |e
   ·rw[if_pos e]at this;dsimp only at this;rw[L.det,e,Ku]at this;exact this
   ·rw[if_neg (by lia)]at this
    dsimp only at this;rw[L.det,e]at this;have sw:ac s.2 s.1 p=-ac s.1 s.2 p:=by unfold ac;grind
    lia
  ·intro h t ht;obtain⟨s,hs,rfl⟩:=(wV L h3 t).mp ht;have k:=h s (by rw[F.cr]at hs;exact hs)
   unfold sdf;rcases L.one with e |e
   ·rw[if_pos e];dsimp only;rw[L.det,e,Ku];exact k
   ·rw[if_neg (by lia)]
    dsimp only;rw[L.det,e];have sw:ac s.2 s.1 p=-ac s.1 s.2 p:=by unfold ac;grind
    lia
theorem yV{a b c d:Int}(h:a*d-b*c=1\/a*d-b*c=-1):Lin (λp:P2=>(a*p.1+b*p.2,c*p.1+d*p.2)) (a*d-b*c):=⟨h,a,b,c,d,rfl,λ_=>rfl⟩
theorem oW(a b c d e f:Int)(l:List P2):l.map (ap a b c d e f)=(l.map λp:P2=>(a*p.1+b*p.2,c*p.1+d*p.2)).map (shf 0 e f):=by
 rw[Fn];refine GW λp _=>?_
 unfold ap shf;exact GD rfl (by dsimp only[Function.comp];lia)
theorem C3{a b c d:Int}(e f:Int)(h:a*d-b*c=1\/a*d-b*c=-1){l:List P2}(F:Fld l)(p:P2):dy (am (l.map (ap a b c d e f))) (ap a b c d e f p)=dy l p:=by
 rw[oW,qc]
 have hp:ap a b c d e f p=shf 0 e f (a*p.1+b*p.2,c*p.1+d*p.2):=by
  unfold ap shf;exact GD rfl (by dsimp only;lia)
 rw[hp,BN _ _ _ _ (ij (by simpa using F.ne))]
 exact Ce (yV h) F p
theorem Cj{a b c d:Int}(e f:Int){l:List P2}(F:Fld l):Fld (am (l.map (ap a b c d e f))):=⟨ij (by simpa using F.ne),gy _⟩
theorem BG{a b c d e f:Int}(h:a*d-b*c=1\/a*d-b*c=-1)(q:P2):∃p,ap a b c d e f p=q:=by
 rcases h with h |h
 ·refine⟨(d*(q.1-e)-b*(q.2-f),a*(q.2-f)-c*(q.1-e)),?_⟩;unfold ap;refine GD ?_ ?_
  ·dsimp only;have:a*(d*(q.1-e)-b*(q.2-f))+b*(a*(q.2-f)-c*(q.1-e))=(a*d-b*c) *(q.1-e):=by grind
   rw[this,h];lia
  ·dsimp only;have:c*(d*(q.1-e)-b*(q.2-f))+d*(a*(q.2-f)-c*(q.1-e))=(a*d-b*c) *(q.2-f):=by grind
   rw[this,h];lia
 ·refine⟨(-(d*(q.1-e)-b*(q.2-f)),-(a*(q.2-f)-c*(q.1-e))),?_⟩;unfold ap;refine GD ?_ ?_
  ·dsimp only;have:a* -(d*(q.1-e)-b*(q.2-f))+b* -(a*(q.2-f)-c*(q.1-e))=-((a*d-b*c) *(q.1-e)):=by grind
   rw[this,h];lia
  ·dsimp only;have:c* -(d*(q.1-e)-b*(q.2-f))+d* -(a*(q.2-f)-c*(q.1-e))=-((a*d-b*c) *(q.2-f)):=by grind
   rw[this,h];lia
def j7(s:P2×P2)(y:Int):Int:=(s.2.1-s.1.1) *(y-s.1.2)
def yh(y:Int)(s:P2×P2):Int:=s.1.1+j7 s y/(s.2.2-s.1.2)
def xO(y:Int)(s:P2×P2):Int:=s.1.1-j7 s y / -(s.2.2-s.1.2)
def cV(l:List P2)(ss:List (P2×P2))(y:Int):List Int:=hiX l::(ss.filter λs=>decide (0<s.2.2-s.1.2)).map (yh y)
def cZ(l:List P2)(ss:List (P2×P2))(y:Int):List Int:=loX l::(ss.filter λs=>decide (s.2.2-s.1.2<0)).map (xO y)
def k_(l:List P2)(y:Int):Int:=qQ (cV l (sdl l) y)
def fW(l:List P2)(y:Int):Int:=hiL (cZ l (sdl l) y)
theorem ju(s:P2×P2)(x y:Int):ac s.1 s.2 (x,y)=j7 s y-(s.2.2-s.1.2) *(x-s.1.1):=by unfold ac j7;grind
theorem t6{s:P2×P2}{x y:Int}(h:0<s.2.2-s.1.2):0<=ac s.1 s.2 (x,y)↔x<=yh y s:=by
 rw[ju];unfold yh;have k:x-s.1.1<=j7 s y/(s.2.2-s.1.2)↔(x-s.1.1) *(s.2.2-s.1.2)<=j7 s y:=L0 h;rw[Mq]at k;lia
theorem sF{s:P2×P2}{x y:Int}(h:s.2.2-s.1.2<0):0<=ac s.1 s.2 (x,y)↔xO y s<=x:=by
 rw[ju];unfold xO;have k:s.1.1-x<=j7 s y / -(s.2.2-s.1.2)↔(s.1.1-x) * -(s.2.2-s.1.2)<=j7 s y:=L0 (by lia)
 have e:(s.1.1-x) * -(s.2.2-s.1.2)=(s.2.2-s.1.2) *(x-s.1.1):=by grind
 rw[e]at k;lia
theorem sO{l:List P2}{ss:List (P2×P2)}{x y:Int}:x<=qQ (cV l ss y)↔x<=hiX l/\∀s∈ss,0<s.2.2-s.1.2->x<=yh y s:=by
 have ok:=cJ (l:=cV l ss y) (by unfold cV;simp)
 constructor
 ·intro h;refine⟨Mw h (ok.2 _ (by unfold cV;simp)),λs hs hr=>Mw h (ok.2 _ ?_)⟩
  unfold cV;exact EB _ (FL (FE.mpr ⟨hs,decide_eq_true hr⟩))
 ·rintro ⟨h1,h2⟩;have m:=ok.1;unfold cV at m;rcases EH.mp m with e |e
  ·unfold cV;rw[e];exact h1
  ·obtain⟨s,hs,e2⟩:=ED.mp e;obtain⟨hs,hr⟩:=FE.mp hs;unfold cV;rw[<-e2];exact h2 s hs (of_decide_eq_true hr)
theorem tU{l:List P2}{ss:List (P2×P2)}{x y:Int}:hiL (cZ l ss y)<=x↔loX l<=x/\∀s∈ss,s.2.2-s.1.2<0->xO y s<=x:=by
 have ok:=de (l:=cZ l ss y) (by unfold cZ;simp)
 constructor
 ·intro h;refine⟨Mw (ok.2 _ (by unfold cZ;simp)) h,λs hs hr=>Mw (ok.2 _ ?_) h⟩
  unfold cZ;exact EB _ (FL (FE.mpr ⟨hs,decide_eq_true hr⟩))
 ·rintro ⟨h1,h2⟩;have m:=ok.1;unfold cZ at m;rcases EH.mp m with e |e
  ·unfold cZ;rw[e];exact h1
  ·obtain⟨s,hs,e2⟩:=ED.mp e;obtain⟨hs,hr⟩:=FE.mp hs;unfold cZ;rw[<-e2];exact h2 s hs (of_decide_eq_true hr)
theorem wm{l:List P2}(Qv:l≠[]):∃q∈l,q.2=loY l:=by
 obtain⟨q,hq,e⟩:=ED.mp (cJ (l:=l.map (·.2)) (by simpa using Qv)).1
 exact⟨q,hq,e⟩
theorem wk{l:List P2}(Qv:l≠[]):∃q∈l,q.2=hiY l:=by
 obtain⟨q,hq,e⟩:=ED.mp (de (l:=l.map (·.2)) (by simpa using Qv)).1
 exact⟨q,hq,e⟩
theorem yD{l:List P2}(F:Fld l)(h3:3<=l.length){x y:Int}(y0:loY l<=y)(y1:y<=hiY l):dy l (x,y)=true↔fW l y<=x/\x<=k_ l y:=by
 have hc:=F.cr;have c3:3<=(am l).length:=by rw[hc];exact h3
 unfold fW k_;rw[sO,tU];constructor
 ·intro h;have d:=(fP h3 _).mp h;have b:=(fM F.ne).mp (F.in_box h);exact⟨⟨b.1.1,λs hs hr=>(sF hr).mp (d s hs)⟩,b.1.2,λs hs hr=>(t6 hr).mp (d s hs)⟩
 ·rintro ⟨⟨_,hb⟩,_,he⟩;refine (fP h3 _).mpr λs hs=>?_
  rcases F6 0 (s.2.2-s.1.2) with z |z
  ·exact (t6 z).mpr (he s hs z)
  ·rcases F6 (s.2.2-s.1.2) 0 with w |w
   ·exact (sF w).mpr (hb s hs w)
   ·have e0:s.2.2-s.1.2=0:=by lia
    have cov:∀q∈l,0<=(s.2.1-s.1.1) *(q.2-s.1.2):=λq hq=>by
     have k:=dH c3 (by rw[hc];exact hs) q hq
     have:=ju s q.1 q.2;rw[e0,GH,Mu]at this;rw[<-show j7 s q.2=(s.2.1-s.1.1) *(q.2-s.1.2) from rfl,<-this]
     exact k
    rw[ju,e0,GH,Mu];show 0<=(s.2.1-s.1.1) *(y-s.1.2);rcases F6 0 (s.2.1-s.1.1) with u |u
    ·obtain⟨q,hq,eq⟩:=wm F.ne;have k:=Hs (cov q hq) u;exact E_ (by lia) (by lia)
    ·rcases F6 (s.2.1-s.1.1) 0 with v |v
     ·obtain⟨q,hq,eq⟩:=wk F.ne;have c:=cov q hq;have e2:(s.2.1-s.1.1) *(q.2-s.1.2)=(-(s.2.1-s.1.1)) *(s.1.2-q.2):=by grind
      rw[e2]at c;have k:=Hs c (by lia)
      have e3:(s.2.1-s.1.1) *(y-s.1.2)=(-(s.2.1-s.1.1)) *(s.1.2-y):=by grind
      rw[e3];exact E_ (by lia) (by lia)
     ·rw[show s.2.1-s.1.1=0 by lia,GH];exact Kt _
theorem m8{a b:P2}:ST.leP a b=true↔a.1<b.1\/(a.1=b.1/\a.2<=b.2):=by unfold ST.leP;exact decide_eq_true_iff
theorem xT{A B:P2}(lt:ST.ltP A B=true)(h:A.2=B.2){x y:Int}(hy:y=A.2):dy [A,B] (x,y)=true↔fW [A,B] y<=x/\x<=k_ [A,B] y:=by
 obtain⟨b1,b2,_,_⟩:=yZ lt;unfold fW k_;rw[sO,tU,jH,zk,b1,b2];have hl:=BK lt;constructor
 ·rintro ⟨_,h1,h2⟩;rw[m8]at h1 h2;dsimp only at h1 h2;refine⟨⟨by lia,λs hs hr=>?_⟩,by lia,λs hs hr=>?_⟩
  ·simp at hs;rcases hs with rfl |rfl <;>dsimp only at hr <;>lia
  ·simp at hs;rcases hs with rfl |rfl <;>dsimp only at hr <;>lia
 ·rintro ⟨⟨h1,_⟩,h2,_⟩;rw[m8,m8];dsimp only;refine⟨?_,by lia,by lia⟩
  unfold ac;rw[hy,<-h];grind
def jW(l:List P2)(y:Int):List P2:=(nI (fW l y) (k_ l y+1-fW l y).toNat).map λx=>(x,y)
def dP(l:List P2)(n:Nat):List P2:=((Fw n).map λy:Nat=>jW l (0+(y:Int))).flatten
theorem fg{l:List P2}{y:Int}{p:P2}:p∈jW l y↔p.2=y/\fW l y<=p.1/\p.1<=k_ l y:=by
 unfold jW;rw[ED];constructor
 ·rintro ⟨x,hx,rfl⟩;have:=fi.mp hx;exact⟨rfl,by lia,by lia⟩
 ·rintro ⟨e,h1,h2⟩;exact⟨p.1,fi.mpr ⟨h1,by lia⟩,by rw[<-e]⟩
theorem dZ{l:List P2}{n:Nat}{p:P2}:p∈dP l n↔(0<=p.2/\p.2<n)/\fW l p.2<=p.1/\p.1<=k_ l p.2:=by
 unfold dP;rw[LM];constructor
 ·rintro ⟨r,hr,hp⟩;obtain⟨y,hy,rfl⟩:=ED.mp hr;have:=E5.mp hy;obtain⟨e,h1,h2⟩:=fg.mp hp;rw[<-e]at h1 h2;exact⟨by lia,h1,h2⟩
 ·rintro ⟨h0,h1,h2⟩;exact⟨_,ED.mpr ⟨p.2.toNat,E5.mpr (by lia),rfl⟩,fg.mpr ⟨by lia,by rw[show 0+(p.2.toNat:Int)=p.2 by lia];exact⟨h1,h2⟩⟩⟩
theorem sX(l:List P2)(y:Int):(jW l y).Nodup:=HG _ (λa b h e=>h (congrArg LK e)) (nR _ _)
theorem j4(l:List P2)(n:Nat):dP l (n+1)=dP l n++jW l (0+(n:Int)):=by
 unfold dP;rw[JE,Fi,M8];simp
theorem kj(l:List P2):∀n,(dP l n).Nodup
 |0=>by unfold dP;simp
 |n+1=>by
  rw[j4];refine F1.mpr ⟨kj l n,sX l _,λa ha b hb e=>?_⟩
  have h1:=dZ.mp ha;have h2:=(fg.mp hb).1;rw[<-e]at h2;lia
structure Lev(l:List P2):Prop where
 F:Fld l
 y0:loY l=0
 two:l.length=2->hiY l=0
 ne1:2<=l.length
theorem kW{l:List P2}(L:Lev l)(p:P2):p∈dP l (hiY l+1).toNat↔dy l p=true:=by
 obtain⟨q,hq,eq⟩:=wm L.F.ne
 have hh:0<=hiY l:=by
  have:=(de (l:=l.map (·.2)) (by simpa using L.F.ne)).2 q.2 (FL hq)
  have e:=L.y0;unfold hiY;lia
 rw[dZ]
 have key:0<=p.2->p.2<=hiY l->(dy l (p.1,p.2)=true↔fW l p.2<=p.1/\p.1<=k_ l p.2):=λh0 h1=>by
  rcases L.F.cases with ⟨A,rfl⟩ |⟨A,B,e,lt⟩ |h3
  ·have:=L.ne1;simp at this
  ·subst e;obtain⟨_,_,b3,b4⟩:=yZ lt;have t:=L.two rfl;have y0:=L.y0;exact xT lt (by lia) (by lia)
  ·exact yD L.F (by rw[<-L.F.cr];exact h3) (by rw[L.y0];exact h0) h1
 constructor
 ·rintro ⟨h0,h1⟩;exact (key h0.1 (by lia)).mpr h1
 ·intro h;have b:=(fM L.F.ne).mp (L.F.in_box h);rw[L.y0]at b;exact⟨by lia,(key b.2.1 b.2.2).mp h⟩
structure LvP(a b:P2)(g u v s t:Int):Prop where
 gp:0<g
 hu:g*u=b.1-a.1
 hv:g*v=b.2-a.2
 st:s*u+t*v=1
abbrev lvF(a:P2)(u v s t:Int):P2->P2:=ap s t (-v) u (-s*a.1-t*a.2) (v*a.1-u*a.2)
abbrev bkF(a:P2)(u v s t:Int):P2->P2:=ap u (-t) v s a.1 a.2
theorem sL{a b:P2}{g u v s t:Int}(L:LvP a b g u v s t)(p:P2):bkF a u v s t (lvF a u v s t p)=p/\lvF a u v s t (bkF a u v s t p)=p:=by
 have h:=L.st;unfold bkF lvF ap;refine⟨GD ?_ ?_,GD ?_ ?_⟩ <;>dsimp only
 ·have:u*(s*p.1+t*p.2+(-s*a.1-t*a.2))+-t*(-v*p.1+u*p.2+(v*a.1-u*a.2))+a.1=(s*u+t*v) *p.1-(s*u+t*v) *a.1+a.1:=by grind
  rw[this,h];lia
 ·have:v*(s*p.1+t*p.2+(-s*a.1-t*a.2))+s*(-v*p.1+u*p.2+(v*a.1-u*a.2))+a.2=(s*u+t*v) *p.2-(s*u+t*v) *a.2+a.2:=by grind
  rw[this,h];lia
 ·have:s*(u*p.1+-t*p.2+a.1)+t*(v*p.1+s*p.2+a.2)+(-s*a.1-t*a.2)=(s*u+t*v) *p.1:=by grind
  rw[this,h];lia
 ·have:-v*(u*p.1+-t*p.2+a.1)+u*(v*p.1+s*p.2+a.2)+(v*a.1-u*a.2)=(s*u+t*v) *p.2:=by grind
  rw[this,h];lia
theorem B5{a b:P2}{g u v s t:Int}(L:LvP a b g u v s t)(q:P2):g*(lvF a u v s t q).2=ac a b q:=by
 unfold lvF ap ac;dsimp only;rw[<-L.hu,<-L.hv];grind
theorem xV{l:List P2}(F:Fld l)(h2:2<=l.length){g u v s t:Int}(L:LvP (gp l 0) (gp l 1) g u v s t):Lev (am (l.map (lvF (gp l 0) u v s t))):=by
 have hd:s*u-t* -v=1:=by have:=L.st;grind
 have F':=Cj (a:=s) (b:=t) (c:=-v) (d:=u) (-s*(gp l 0).1-t*(gp l 0).2) (v*(gp l 0).1-u*(gp l 0).2) F;have hg:=L.gp;have im0:lvF (gp l 0) u v s t (gp l 0)=(0,0):=by unfold lvF ap;refine GD ?_ ?_ <;>dsimp only <;>grind
 have up:∀q∈l,0<=(lvF (gp l 0) u v s t q).2:=λq hq=>by
  have e:=B5 L q
  have k:0<=ac (gp l 0) (gp l 1) q:=by
   rcases F.cases with ⟨A,rfl⟩ |⟨A,B,rfl,lt⟩ |h3
   ·simp at h2
   ·simp at hq;rcases hq with rfl |rfl
    ·show 0<=ac q B q;unfold ac;grind
    ·show 0<=ac A q q;unfold ac;grind
   ·have c3:3<=l.length:=by rw[<-F.cr];exact h3
    have hs:=sJ (l:=l) (i:=0) (by lia)
    rw[show (0+1)%l.length=1 from FN (by lia)]at hs
    exact dH h3 (by rw[F.cr];exact hs) q hq
  rw[<-e]at k;exact Hs k hg
 have g0:gp l 0∈l:=fI (by lia)
 have yb:∀q∈am (l.map (lvF (gp l 0) u v s t)),0<=q.2:=λq hq=>by
  obtain⟨p,hp,rfl⟩:=ED.mp (bj _ q hq);exact up p hp
 have T8:3<=l.length->3<=(am (l.map (lvF (gp l 0) u v s t))).length:=λh3=>by
  unfold lvF;rw[oW,qc,Ex];exact gx (yV (.inl hd)) (by rw[F.cr];exact h3)
 have two:∀A B,l=[A,B]->ST.ltP A B=true->am (l.map (lvF (gp l 0) u v s t))=[(0,0),(g,0)]:=λA B e lt=>by
  subst e
  have im1:lvF A u v s t B=(g,0):=by
   have k1:=L.hu;have k2:=L.hv;have k3:=L.st;have k1':g*u=B.1-A.1:=k1;have k2':g*v=B.2-A.2:=k2;unfold lvF ap;refine GD ?_ ?_ <;>dsimp only
   ·have:s*B.1+t*B.2+(-s*A.1-t*A.2)=s*(B.1-A.1)+t*(B.2-A.2):=by grind
    rw[this,<-k1',<-k2'];have:s*(g*u)+t*(g*v)=g*(s*u+t*v):=by grind
    rw[this,k3,JQ]
   ·have:-v*B.1+u*B.2+(v*A.1-u*A.2)=u*(B.2-A.2)-v*(B.1-A.1):=by grind
    rw[this,<-k1',<-k2'];grind
  have im0':lvF A u v s t A=(0,0):=im0;show am [lvF A u v s t A,lvF A u v s t B]=_;rw[im0',im1];rcases km (A:=(0,0)) (B:=(g,0)) (λe=>by have:=congrArg LK e;dsimp only at this;lia) with ⟨_,e⟩ |⟨z,_⟩
  ·exact e
  ·have:=BK z;dsimp only at this;lia
 refine⟨F',?_,λe=>?_,?_⟩
 ·obtain⟨c,hc,k⟩:=p9 0 (-1) (FL (f:=lvF (gp l 0) u v s t) g0);rw[im0]at k;unfold wth at k;dsimp only at k;have c0:=yb c hc;have ok:=cJ (l:=(am (l.map (lvF (gp l 0) u v s t))).map (·.2)) (by simpa using F'.ne)
  have le:=ok.2 c.2 (FL (f:=λp:P2=>p.2) hc)
  obtain⟨d,RT,ed⟩:=ED.mp ok.1;have:=yb d RT;unfold loY;lia
 ·rcases F.cases with ⟨A,rfl⟩ |⟨A,B,e2,lt⟩ |h3
  ·simp at h2
  ·rw[two A B e2 lt];rfl
  ·have:=T8 (by rw[<-F.cr];exact h3);lia
 ·rcases F.cases with ⟨A,rfl⟩ |⟨A,B,e2,lt⟩ |h3
  ·simp at h2
  ·rw[two A B e2 lt];exact EL _
  ·have:=T8 (by rw[<-F.cr];exact h3);lia
def yd(l:List P2)(u v s t:Int):List P2:=(dP (am (l.map (lvF (gp l 0) u v s t))) (hiY (am (l.map (lvF (gp l 0) u v s t)))+1).toNat).map (bkF (gp l 0) u v s t)
theorem uo{l:List P2}(F:Fld l)(h2:2<=l.length){g u v s t:Int}(L:LvP (gp l 0) (gp l 1) g u v s t)(p:P2):p∈yd l u v s t↔dy l p=true:=by
 have hd:s*u-t* -v=1:=by have:=L.st;grind
 have iw:=λq=>C3 (a:=s) (b:=t) (c:=-v) (d:=u) (-s*(gp l 0).1-t*(gp l 0).2) (v*(gp l 0).1-u*(gp l 0).2) (.inl hd) F q
 have V:=xV F h2 L;unfold yd;rw[ED];constructor
 ·rintro ⟨q,hq,rfl⟩;have k:=(kW V q).mp hq;rw[<-(sL L q).2]at k;rw[<-iw];exact k
 ·intro h;exact⟨lvF (gp l 0) u v s t p,(kW V _).mpr (by rw[iw];exact h),(sL L p).1⟩
theorem xy{l:List P2}{g u v s t:Int}(L:LvP (gp l 0) (gp l 1) g u v s t):(yd l u v s t).Nodup:=
 HG _ (λa b h e=>h (by rw[<-(sL L a).2,<-(sL L b).2,e])) (kj _ _)
def aC(l:List P2):List P2:=ST.srt ((box l).filter λp=>dy l p)
theorem dt{l:List P2}(F:Fld l)(p:P2):p∈aC l↔dy l p=true:=by
 unfold aC;rw[ST.srt_mem,FE];exact⟨λh=>h.2,λh=>⟨F.in_box h,h⟩⟩
theorem jt{l R:List P2}(F:Fld l)(h:∀p,p∈R↔dy l p=true):ST.srt R=aC l:=by
 unfold aC;refine iD λp=>?_
 rw[h,FE];exact⟨λk=>⟨F.in_box k,k⟩,λk=>k.2⟩
def ya:List U->Out->Prop:=λus o=>∃l:List P2,us=[lp l]/\0<l.length/\l.length<=900/\(∀p∈l,Szp 2500 p)/\o=.val (.int (mN l))
theorem ye(T:Txt w K mg):aZ P w K mg base (CXF P w) 4 T.aaU.a T.aaU.d ["land"] (spU K (ya)):=by
 refine a9 T.aaU.F rL (λus o h=>?_) (λQA A outer s H E O us o hr h=>?_)
 ·obtain⟨l,rfl,h0,hl,sz,rfl⟩:=h;rfl
 obtain⟨l,rfl,h0,hl,sz,rfl⟩:=h;refine Ws.nox ?_;have hm:((l.map pu).length:Int)=(l.length:Int):=by rw[Ex]
 unfold mN;by_cases h3:l.length<3
 ·rw[if_pos h3];refine af (gG (aK iC (aq (bM rfl) rfl T.aag Fj (ae (aa 0 rfl) ak ah)) ag) (by rw[hm];exact decide_eq_true (by lia)) ?_)
  have z0:=sz _ (fI h0);have z1:=sz _ (fI (l:=l) (i:=l.length-1) (by lia))
  obtain⟨cs,ct,G⟩:=kr ((gp l (l.length-1)).1-(gp l 0).1) ((gp l (l.length-1)).2-(gp l 0).2);refine af (ba (ca (aB ((jD T).mono (by decide)) hr rfl T.aaw.m T.aaw.F.kp T.aaw.b aA (ae (aF (aa 0 rfl) ag rfl (Ed h0)) (ae (aF (aa 0 rfl) (cu ag) rfl (At h0)) ak bh) bh) ⟨_,_,_,_,_,cs,ct,rfl,⟨z0.1.mono (by decide),z0.2.mono (by decide),z1.1.mono (by decide),z1.2.mono (by decide)⟩,G,rfl⟩) ag) ?_)
  exact rfl
 ·rw[if_neg h3];refine af (ce (aK iC (aq (bM rfl) rfl T.aag Fj (ae (aa 0 rfl) ak ah)) ag) (by rw[hm];exact decide_eq_false (by lia)) (aH ?_))
  refine af (ba (aq (yW rfl ) rfl T.aa5 boot_sum (ae (EvN.ev (gr (ys:=(((sdl l).map gst).map U.int)) rfl (blk (aj yL) ["land","A","B"] [1,2] rfl rfl rfl rfl (by decide+kernel)) (cF (EvN.ev (b_ ((ka T).mono (by decide)) hr rfl T.aay.m T.aay.F.kp T.aay.b aA (ae (aa 0 rfl) ak ah) ⟨l,rfl,hl,rfl⟩)) (.inl rfl)) (λ_ _ _ _=>qI rfl (dE (bC (i:=1) rL.nd rfl (Or.inl rfl)) (dE (bC (i:=2) rL.nd rfl (Or.inl rfl)) jr))) (sn (js:=[1,2]) (by decide)) ?clen ?csz ?dom ?celt)) ak fH)) ?_)
  case clen=>simp
  case csz=>simp only[n_,Ex];exact F4 (aG (by lia))
  case dom=>
   intro x hx;obtain⟨s,_,rfl⟩:=ED.mp hx;exact⟨_,rfl,rfl⟩
  case celt=>
   intro C s' H' fp j x y hx hy;rw[Fn]at hy;obtain⟨s,hs,ms,rfl,rfl⟩:=hV hx hy;obtain⟨m1,m2⟩:=c7 ms;obtain⟨cs,ct,G⟩:=kr (s.2.1-s.1.1) (s.2.2-s.1.2);exact (aB ((jD T).mono (by decide)) hr rfl T.aaw.m T.aaw.F.kp T.aaw.b aA (ae (aa 1 rfl) (ae (aa 2 rfl) ak ah) ah) ⟨_,_,_,_,_,cs,ct,rfl,⟨(sz _ m1).1.mono (by decide),(sz _ m1).2.mono (by decide),(sz _ m2).1.mono (by decide),(sz _ m2).2.mono (by decide)⟩,G,rfl⟩)
  exact rfl
theorem wo{m n:Nat}{k:Int}{p:P2}(sk:Sz n k)(s:Szp m p):Szp (n+m) (scl k p):=⟨L2.Sz.mul sk s.1,L2.Sz.mul sk s.2⟩
def u9:List U->Out->Prop:=λus o=>∃(pts:List P2) (k:Int),us=[lp pts,.int k]/\Sz 1000 k/\(∀p∈pts,Szp 3000 p)/\pts≠[]/\pts.length<64/\o=.new ((am (pts.map (scl k))).map pu)
theorem Av(T:Txt w K mg):aZ P w K mg base (CXF P w) 5 T.aaT.a T.aaT.d ["land","k"] (spU K (u9)):=by
 refine a9 T.aaT.F sA (λus o h=>?_) (λQA A outer s H E O us o hr h=>?_)
 ·obtain⟨pts,k,rfl,sk,sz,Qv,hl,rfl⟩:=h;rfl
 obtain⟨pts,k,rfl,sk,sz,Qv,hl,rfl⟩:=h;refine Ws.nox ?_;refine af (d6 (b_ ((kI T).mono (by decide)) hr rfl T.aax.m T.aax.F.kp T.aax.b aA (ae (EvN.ev (gr (ys:=(pts.map λp=>pu (scl k p))) rfl (blk (aj qE) ["land","k","P"] [2] rfl rfl rfl rfl (by decide+kernel)) (cF (aa 0 rfl) (.inl rfl)) (λ_ _ _ _=>bC (i:=2) sA.nd rfl (Or.inl rfl)) (dM (by decide)) ?clen ?csz (λ_ _=>trivial) ?celt)) ak fH) ⟨pts.map (scl k),by rw[lp,Fn];rfl,λp hp=>by obtain⟨q,hq,rfl⟩:=ED.mp hp;have z:=wo sk (sz q hq);exact⟨z.1.mono (by decide),z.2.mono (by decide)⟩,by rw[Ex];exact hl,by simpa using Qv,rfl⟩) ?_)
 case clen=>simp
 case csz=>rw[Ex];exact F4 (aG (by lia))
 case celt=>
  intro C s' H' fp j x y hx hy;obtain⟨p,hp,mp,rfl,rfl⟩:=hV hx hy;have s1:=(sz p mp).1;have s2:=(sz p mp).2;exact (b8 (ax (be (aa 1 rfl) (aF (aa 2 rfl) ag rfl rfl) (by walk_at"mul")) (ax (be (aa 1 rfl) (aF (aa 2 rfl) ag rfl rfl) (by walk_at"mul")) bi bK) bK))
 exact rfl
def u6:List U->Out->Prop:=λus o=>∃(pts:List P2) (k:Int),us=[lp pts,.int k]/\0<=k/\Sz 1000 k/\(∀p∈pts,Szp 3000 p)/\pts≠[]/\pts.length<64/\o=.new ((am (pts.map (scl k))).map pu)
theorem i4(T:Txt w K mg):aZ P w K mg base (CXF P w) 6 T.aan.a T.aan.d ["land","k"] (spU K (u6)):=by
 refine a9 T.aan.F pB (λus o h=>?_) (λQA A outer s H E O us o hr h=>?_)
 ·obtain⟨pts,k,rfl,k0,sk,sz,Qv,hl,rfl⟩:=h;rfl
 obtain⟨pts,k,rfl,k0,sk,sz,Qv,hl,rfl⟩:=h;refine Ws.nox ?_;refine af (ce (aK iC (aa 1 rfl) ag) (decide_eq_false (by lia)) (aH ?_))
 refine af (d6 (b_ ((Av T).mono (by decide)) hr rfl T.aaT.m T.aaT.F.kp T.aaT.b aA (ae (aa 0 rfl) (ae (aa 1 rfl) ak ah) ah) ⟨pts,k,rfl,sk,sz,Qv,hl,rfl⟩) ?_)
 exact rfl
def yx:List U->Out->Prop:=λus o=>∃l:List P2,us=[lp l]/\l.length<=900/\(∀p∈l,Szp 2500 p)/\o=.val (.int (pin l))
theorem il(T:Txt w K mg):aZ P w K mg base (CXF P w) 5 T.aai.a T.aai.d ["land"] (spU K (yx)):=by
 refine a9 T.aai.F nF (λus o h=>?_) (λQA A outer s H E O us o hr h=>?_)
 ·obtain⟨l,rfl,hl,sz,rfl⟩:=h;rfl
 obtain⟨l,rfl,hl,sz,rfl⟩:=h;refine Ws.nox ?_;have hm:((l.map pu).length:Int)=(l.length:Int):=by rw[Ex]
 by_cases h3:l.length<3
 ·refine af (gG (aK iC (aq (bM rfl) rfl T.aag Fj (ae (aa 0 rfl) ak ah)) ag) (by rw[hm];exact decide_eq_true (by lia)) ?_)
  refine af (ba ag ?_);exact vIO (by unfold pin;rw[if_pos h3])
 ·refine af (ce (aK iC (aq (bM rfl) rfl T.aag Fj (ae (aa 0 rfl) ak ah)) ag) (by rw[hm];exact decide_eq_false (by lia)) (aH ?_))
  have er:mN l=mT l:=by unfold mN;rw[if_neg h3]
  refine af (ba (e_ (ca (bm (aB ((jz T).mono (by decide)) hr rfl T.aal.m T.aal.F.kp T.aal.b aA (ae (aa 0 rfl) ak ah) ⟨l,rfl,hl,sz,rfl⟩) (aB ((ye T).mono (by decide)) hr rfl T.aaU.m T.aaU.F.kp T.aaU.b aA (ae (aa 0 rfl) ak ah) ⟨l,rfl,by lia,hl,sz,rfl⟩)) ag) ag (by walk_at"div")) ?_)
  exact vIO (by unfold pin;rw[if_neg h3,er])
theorem rP{pts:List P2}{k:Int}(sk:Sz 1000 k)(sz:∀p∈pts,Szp 1500 p):∀p∈am (pts.map (scl k)),Szp 2500 p:=λp hp=>by
 obtain⟨q,hq,rfl⟩:=ED.mp (bj _ p hp);exact wo sk (sz q hq)
def ki:List U->Out->Prop:=λus o=>∃(pts:List P2) (k:Int),us=[lp pts,.int k]/\0<=k/\Sz 1000 k/\(∀p∈pts,Szp 1500 p)/\pts≠[]/\pts.length<64/\o=.val (.int (iq (am (pts.map (scl k)))))
theorem kS(T:Txt w K mg):aZ P w K mg base (CXF P w) 7 T.aaz.a T.aaz.d ["land","k"] (spU K (ki)):=by
 refine xf T.aaz.F oA (λus o h=>?_) (λQA A outer s H E O us o hr h=>?_)
 ·obtain⟨pts,k,rfl,k0,sk,sz,Qv,hl,rfl⟩:=h;rfl
 obtain⟨pts,k,rfl,k0,sk,sz,Qv,hl,rfl⟩:=h;refine Ws.nox ?_;have cl:(am (pts.map (scl k))).length<=900:=Gg (iy _) (by rw[Ex];lia)
 have cn:0<(am (pts.map (scl k))).length:=FJ.mpr (ij (by simpa using Qv))
 refine af (aE (i:=2) oA.nd rfl (Or.inl rfl) (EvN.ev (b_ ((i4 T).mono (by decide)) hr rfl T.aan.m T.aan.F.kp T.aan.b aA (ae (aa 0 rfl) (ae (aa 1 rfl) ak ah) ah) ⟨pts,k,rfl,k0,sk,nN (by decide) sz,Qv,hl,rfl⟩)) ?_)
 refine af (ba (ca (aB ((il T).mono (by decide)) hr rfl T.aai.m T.aai.F.kp T.aai.b aA (ae (aa 2 rfl) ak ah) ⟨_,rfl,cl,rP sk sz,rfl⟩) (aB ((ye T).mono (by decide)) hr rfl T.aaU.m T.aaU.F.kp T.aaU.b aA (ae (aa 2 rfl) ak ah) ⟨_,rfl,cn,cl,rP sk sz,rfl⟩)) ?_)
 exact rfl
theorem qB(l:List P2)(L:List (P2×P2))(s:P2×P2)(y:Int):cV l (L++[s]) y=cV l L y++(if 0<s.2.2-s.1.2 then [yh y s] else []):=by
 unfold cV;rw[KU,Fi];by_cases h:0<s.2.2-s.1.2
 ·rw[if_pos h,IB (by simpa using h)];rfl
 ·rw[if_neg h,IC (by simpa using h)];rfl
theorem rD(l:List P2)(L:List (P2×P2))(s:P2×P2)(y:Int):cZ l (L++[s]) y=cZ l L y++(if s.2.2-s.1.2<0 then [xO y s] else []):=by
 unfold cZ;rw[KU,Fi];by_cases h:s.2.2-s.1.2<0
 ·rw[if_pos h,IB (by simpa using h)];rfl
 ·rw[if_neg h,IC (by simpa using h)];rfl
theorem wd(l:List P2)(y:Int)(L:List (P2×P2)):(cV l L y).length<=L.length+1/\(cZ l L y).length<=L.length+1:=by
 unfold cV cZ;simp only[E9,Ex];exact⟨N8 (Ht _ _),N8 (Ht _ _)⟩
def rA:List U->Out->Prop:=λus o=>∃(l:List P2) (y:Int),us=[lp l,.int y]/\l≠[]/\l.length<=900/\(∀q∈l,Szp 1000 q)/\Sz 1001 y/\o=.val (.tup [.int (fW l y),.int (k_ l y)])
theorem oK(T:Txt w K mg):aZ P w K mg base (CXF P w) 2 T.aaE.a T.aaE.d ["land","y"] (spU K (rA)):=by
 refine a9 T.aaE.F cx (λus o h=>?_) (λQA A outer s H E O us o hr h=>?_)
 ·obtain⟨l,y,rfl,Qv,hl,sz,sy,rfl⟩:=h;rfl
 obtain⟨l,y,rfl,Qv,hl,sz,sy,rfl⟩:=h;refine Ws.nox ?_;obtain⟨mn,mx,_,m1,m2,q1,q2,_⟩:=vf Qv;have hx:l.map (·.1)≠[]:=by simpa using Qv
 have e1:mn.1=loX l:=by
  have ok:=cJ hx;obtain⟨q,hq,e⟩:=ED.mp ok.1;have a:=ok.2 mn.1 (FL (f:=λp:P2=>p.1) m1)
  have b:=q1 q hq;rw[ST.ltP_no]at b;unfold loX;lia
 have e2:mx.1=hiX l:=by
  have ok:=de hx;obtain⟨q,hq,e⟩:=ED.mp ok.1;have a:=ok.2 mx.1 (FL (f:=λp:P2=>p.1) m2)
  have b:=q2 q hq;rw[ST.ltP_no]at b;unfold hiX;lia
 refine af (gI (i:=2) cx.nd rfl (Or.inl rfl) (b9 (ax (aF (aq (BU rfl (fL hr) m1 q1) rfl T.aa1 Pz (ae (aa 0 rfl) ak ah)) ag rfl rfl) bi bh)) ?_);refine af (gI (i:=3) cx.nd rfl (Or.inl rfl) (b9 (ax (aF (aq (BQ rfl (fL hr) m2 q2) rfl T.aa0 PF (ae (aa 0 rfl) ak ah)) ag rfl rfl) bi bh)) ?_);rw[e1,e2];refine af (dN (λi:Nat=>[some (.val (lp l)),some (.val (.int y)),some (.own ((cZ l ((sdl l).take i) y).map U.int)),some (.own ((cV l ((sdl l).take i) y).map U.int)),none,none,none,none]) (λi j=>i=j) rfl PassesOwn.never (cF (EvN.ev (b_ ((ka T).mono (by decide)) hr rfl T.aay.m T.aay.F.kp T.aay.b aA (ae (aa 0 rfl) ak ah) ⟨l,rfl,hl,rfl⟩)) (.inl rfl)) ?h0 ?hs ?hd)
 case h0=>exact⟨0,rfl,rfl,rfl,rfl,rfl,trivial⟩
 case hs=>
  rintro H0 i x _ SW rfl
  have hq:∃s,(sdl l)[i]?=some s/\x=pq s:=by
   rw[EI]at SW;cases e:(sdl l)[i]? with
   |none=>rw[e]at SW;cases SW
   |some s=>rw[e]at SW;cases SW;exact⟨s,rfl,rfl⟩
  obtain⟨s,hs,rfl⟩:=hq;obtain⟨n1,n2⟩:=c7 (EV hs);have hi:i<(sdl l).length:=aw hs;rw[n_]at hi;have z1:=(sz _ n1).1;have z2:=(sz _ n1).2;have z3:=(sz _ n2).1;have z4:=(sz _ n2).2;have tk:(sdl l).take (i+1)=(sdl l).take i++[s]:=by rw[GJ,hs];rfl
  have bE:=qB l ((sdl l).take i) s y;have bB:=rD l ((sdl l).take i) s y;rw[<-tk]at bE bB;obtain⟨r1,r2⟩:=wd l y ((sdl l).take i);have r0:((sdl l).take i).length<=i:=by simp;lia
  refine⟨_,(Bl [4,5] rfl (dE (bC (i:=4) cx.nd rfl (Or.inl rfl)) (dE (bC (i:=5) cx.nd rfl (Or.inl rfl)) jr)) rfl),?_⟩;refine af (aE (i:=6) cx.nd rfl (Or.inl rfl) (bm (aF (aa 5 rfl) ag rfl rfl) (aF (aa 4 rfl) ag rfl rfl)) ?_);refine af (aE (i:=7) cx.nd rfl (Or.inl rfl) (be (bm (aF (aa 5 rfl) ag rfl rfl) (aF (aa 4 rfl) ag rfl rfl)) (bm (aa 1 rfl) (aF (aa 4 rfl) ag rfl rfl)) (by walk_at"mul")) ?_)
  rw[show (s.2.1-s.1.1) *(y-s.1.2)=j7 s y from rfl]
  have rz:Sz 1001 (s.2.2-s.1.2):=(L2.Sz.sub' z4 z2).mono (by decide)
  have rn:Sz 1001 (-(s.2.2-s.1.2)):=rz.natle (by lia)
  show Ws _ _ _ _ _ _ [some (.val (lp l)),some (.val (.int y)),some (.own ((cZ l ((sdl l).take i) y).map U.int)),some (.own ((cV l ((sdl l).take i) y).map U.int)),some (.val (pu s.1)),some (.val (pu s.2)),some (.val (.int (s.2.2-s.1.2))),some (.val (.int (j7 s y)))];by_cases p:0<s.2.2-s.1.2
  ·rw[if_pos p]at bE;rw[if_neg (by lia),Hn]at bB
   refine af (gG (aK gD (aa 6 rfl) ag) (decide_eq_true p) ?_);refine af (fh 3 rfl (ca (aF (aa 4 rfl) ag rfl rfl) (e_ (aa 7 rfl) (aa 6 rfl) ⟨p,rz.mono (by decide)⟩)) (by rw[Ex];exact aG (by lia)) (aH ?_))
   refine af (ce (aK iC (aa 6 rfl) ag) (decide_eq_false (by lia)) (aH (aH ?_)))
   refine⟨i+1,rfl,rfl,rfl,?_,?_,trivial⟩
   ·exact congrArg (λl=>some (Sl.own l)) (by rw[bB])
   ·exact congrArg (λl=>some (Sl.own l)) (by rw[bE,Fi];rfl)
  ·rw[if_neg p,Hn]at bE;refine af (ce (aK gD (aa 6 rfl) ag) (decide_eq_false p) (aH ?_));by_cases n:s.2.2-s.1.2<0
   ·rw[if_pos n]at bB;refine af (gG (aK iC (aa 6 rfl) ag) (decide_eq_true n) ?_);refine af (fh 2 rfl (bm (aF (aa 4 rfl) ag rfl rfl) (e_ (aa 7 rfl) (cu (aa 6 rfl)) ⟨by lia,rn.mono (by decide)⟩)) (by rw[Ex];exact aG (by lia)) (aH (aH ?_)))
    refine⟨i+1,rfl,rfl,rfl,?_,?_,trivial⟩
    ·exact congrArg (λl=>some (Sl.own l)) (by rw[bB,Fi];rfl)
    ·exact congrArg (λl=>some (Sl.own l)) (by rw[bE])
   ·rw[if_neg n,Hn]at bB;refine af (ce (aK iC (aa 6 rfl) ag) (decide_eq_false n) (aH (aH ?_)));refine⟨i+1,rfl,rfl,rfl,?_,?_,trivial⟩
    ·exact congrArg (λl=>some (Sl.own l)) (by rw[bB])
    ·exact congrArg (λl=>some (Sl.own l)) (by rw[bE])
 case hd=>
  rintro q ps hq QM;refine c8 ?_ QM;have e:q=(sdl l).length:=by rw[<-hq,Ex]
  subst e;rw[Gd];refine iV 2 rfl (iV 3 rfl ?_);show Ws _ _ _ _ _ _ [some (.val (lp l)),some (.val (.int y)),some (.val (.lst ((cZ l (sdl l) y).map U.int))),some (.val (.lst ((cV l (sdl l) y).map U.int))),none,none,none,none];refine af (ba (b8 (ax (aq (wv rfl (de (l:=cZ l (sdl l) y) (by unfold cZ;simp))) rfl T.aa0 PF (ae (aa 2 rfl) ak ah)) (ax (aq (Cv rfl (cJ (l:=cV l (sdl l) y) (by unfold cV;simp))) rfl T.aa1 Pz (ae (aa 3 rfl) ak ah)) bi aQ) aQ)) ?_)
  exact rfl
theorem DR{a b c d e f a' b' c' d' e' f':Int}(h1:a=a')(h2:b=b')(h3:c=c')(h4:d=d')(h5:e=e')(h6:f=f'):mv a b c d e f=mv a' b' c' d' e' f':=by rw[h1,h2,h3,h4,h5,h6]
theorem BC{a b:P2}(h:a≠b):∃g s1 t1 s t:Int,fN (b.1-a.1) (b.2-a.2) g s1 t1/\g≠0/\fN ((b.1-a.1)/g) ((b.2-a.2)/g) 1 s t/\LvP a b g ((b.1-a.1)/g) ((b.2-a.2)/g) s t:=by
 obtain⟨g,s1,t1,G⟩:=jh (b.1-a.1) (b.2-a.2)
 have gn:g≠0:=λe=>h (by
  obtain⟨h1,h2⟩:=vw G e;exact GD h1 h2)
 have gp:0<g:=by have:=G.g0;lia
 obtain⟨g',s,t,G'⟩:=jh ((b.1-a.1)/g) ((b.2-a.2)/g);have:=vd G gp G';subst this;exact⟨g,s1,t1,s,t,G,gn,G',gp,Jf G.da,Jf G.db,G'.eq⟩
theorem zR{a:P2}{u v s t:Int}(h:s*u+t*v=1):BP s t (-v) u (-s*a.1-t*a.2) (v*a.1-u*a.2)=mv u (-t) v s a.1 a.2:=by
 have k:s*u-t* -v=1:=by grind
 unfold BP;rw[k];refine DR (by lia) (by lia) (by lia) (by lia) ?_ ?_
 ·have:-(1*u*(-s*a.1-t*a.2)+-1*t*(v*a.1-u*a.2))=(s*u+t*v) *a.1:=by grind
  rw[this,h,Ku]
 ·have:-(-1* -v*(-s*a.1-t*a.2)+1*s*(v*a.1-u*a.2))=(s*u+t*v) *a.2:=by grind
  rw[this,h,Ku]
theorem zm{l:List P2}(F:Fld l)(h2:2<=l.length):gp l 0≠gp l 1:=λe=>by
 have nd:l.Nodup:=by rw[<-F.cr];exact cf l
 have:l[0]?=l[1]?:=by rw[du (by lia),du (by lia),e]
 have:=(Jb (by lia) nd).mp this
 lia
theorem Al{l:List P2}{n y:Nat}(h:y<n):(jW l (0+(y:Int))).length<=(dP l n).length:=dh (sX _ _) λp hp=>by
 have k:=fg.mp hp;refine dZ.mpr ⟨by lia,?_⟩
 rw[k.1];exact k.2
theorem wf{l:List P2}{n y:Nat}(h:y<=n):(dP l y).length<=(dP l n).length:=dh (kj _ _) λp hp=>by
 have k:=dZ.mp hp;exact dZ.mpr ⟨by lia,k.2⟩
theorem B1(l:List P2):SG.srt ST3.KP l=ST.srt l:=ST.asc_one (SG.srt_asc ST3.KP l) (ST.srt_asc l) λz=>by rw[SG.srt_mem,ST.srt_mem]
def pF:List U->Out->Prop:=λus o=>∃l:List P2,us=[lp l]/\Fld l/\2<=l.length/\l.length<64/\(∀p∈l,Szp 150 p)/\(iq l<=100/\(aC l).length<=60)/\o=.new ((aC l).map pu)
theorem xE{l:List P2}(F:Fld l)(h2:2<=l.length){g u v s t:Int}(L:LvP (gp l 0) (gp l 1) g u v s t):(yd l u v s t).length=(aC l).length:=rh (xy L) ((ST.srt_asc _).imp λ{a b} h e=>by subst e;rw[ST.asc_irr]at h;cases h) λp=>by rw[uo F h2 L,dt F]
theorem ri(T:Txt w K mg):aZ P w K mg base (CXF P w) 6 T.aaH.a T.aaH.d ["land"] (spU K (pF)):=by
 refine a9 T.aaH.F bR (λus o h=>?_) (λQA A outer s H E O us o hr h=>?_)
 ·obtain⟨l,rfl,F,h2,hl,sz,⟨_,hc⟩,rfl⟩:=h;rfl
 obtain⟨l,rfl,F,h2,hl,sz,⟨_,hc⟩,rfl⟩:=h;refine Ws.nox ?_;obtain⟨g,s1,t1,s,t,G,gn,G1,L⟩:=BC (zm F h2);have z0:=sz _ (fI (l:=l) (i:=0) (by lia))
 have z1:=sz _ (fI (l:=l) (i:=1) (by lia))
 have zx:Sz 151 ((gp l 1).1-(gp l 0).1):=(L2.Sz.sub' z1.1 z0.1).mono (by decide)
 have zy:Sz 151 ((gp l 1).2-(gp l 0).2):=(L2.Sz.sub' z1.2 z0.2).mono (by decide)
 have two:A2 (gp l 0).1 (gp l 0).2 (gp l 1).1 (gp l 1).2:=⟨z0.1.mono (by decide),z0.2.mono (by decide),z1.1.mono (by decide),z1.2.mono (by decide)⟩
 have su:Sz 151 (((gp l 1).1-(gp l 0).1)/g):=zx.ediv;have sv:Sz 151 (((gp l 1).2-(gp l 0).2)/g):=zy.ediv;obtain⟨_,ss,st⟩:=mM G1 su sv;refine af (aE (i:=1) bR.nd rfl (Or.inl rfl) (aB ((zg T).mono (by decide)) hr rfl T.aaQ.m T.aaQ.F.kp T.aaQ.b aA (ae (aF (aa 0 rfl) ag rfl (lJ (i:=0) (by decide) (by lia))) (ae (aF (aa 0 rfl) ag rfl (lJ (i:=1) (by decide) (by lia))) ak bh) bh) ⟨_,_,_,_,g,s1,t1,s,t,rfl,two,G,gn,G1,rfl⟩) ?_)
 have V:=xV F h2 L;have Qz:=xE F h2 L;have Tv:=uo F h2 L;have Ru:=xy L;generalize hu:((gp l 1).1-(gp l 0).1)/g=u at *;generalize hv:((gp l 1).2-(gp l 0).2)/g=v at *;have hd:s*u-t* -v=1:=by have:=L.st;grind
 have a5:Sz 500 s:=ss.mono (by decide)
 have b5:Sz 500 t:=st.mono (by decide)
 have c5:Sz 500 (-v):=(sv.natle (by lia):Sz 151 (-v)).mono (by decide)
 have d5:Sz 500 u:=su.mono (by decide)
 have ns:Sz 310 (-s):=(ss.natle (by lia):Sz _ (-s)).mono (by decide)
 have e5:Sz 500 (-s*(gp l 0).1-t*(gp l 0).2):=(L2.Sz.sub' (L2.Sz.mul ns z0.1) (L2.Sz.mul (st.mono (n:=310) (by decide)) z0.2)).mono (by decide)
 have f5:Sz 500 (v*(gp l 0).1-u*(gp l 0).2):=(L2.Sz.sub' (L2.Sz.mul sv z0.1) (L2.Sz.mul su z0.2)).mono (by decide)
 have k5:500<=30000:=by decide
 have M:Mv s t (-v) u (-s*(gp l 0).1-t*(gp l 0).2) (v*(gp l 0).1-u*(gp l 0).2):=⟨.inl hd,a5.mono k5,b5.mono k5,c5.mono k5,d5.mono k5,e5.mono k5,f5.mono k5⟩;refine af (aE (i:=2) bR.nd rfl (Or.inl rfl) (EvN.ev (b_ ((kC T).mono (by decide)) hr rfl T.aam.m T.aam.F.kp T.aam.b aA (ae (aa 0 rfl) (ae (aa 1 rfl) ak ah) ah) ⟨l,_,_,_,_,_,_,rfl,M,nN (by decide) sz,λp hp=>by have z:=Bi a5 b5 c5 d5 e5 f5 (by decide) (sz p hp);exact⟨z.1.mono (by decide),z.2.mono (by decide)⟩,F.ne,hl,rfl⟩)) ?_)
 have mz:∀p∈am (l.map (lvF (gp l 0) u v s t)),Szp 1000 p:=λp hp=>by
  obtain⟨q,hq,rfl⟩:=ED.mp (bj _ p hp);have z:=Bi a5 b5 c5 d5 e5 f5 (by decide) (sz q hq)
  exact⟨z.1.mono (by decide),z.2.mono (by decide)⟩
 have ml:(am (l.map (lvF (gp l 0) u v s t))).length<=900:=Gg (iy _) (by rw[Ex];lia)
 refine af (aE (i:=3) bR.nd rfl (Or.inr rfl) (aB ((o6 T).mono (by decide)) hr rfl T.aaD.m T.aaD.F.kp T.aaD.b aA (ae (aa 1 rfl) ak ah) ⟨_,_,_,_,_,_,rfl,M,rfl⟩) ?_)
 rw[zR L.st];unfold yd at Qz Tv Ru;rw[Ex]at Qz;have hbk:∀p:P2,pu (bkF (gp l 0) u v s t p)=pt (u*p.1+-t*p.2+(gp l 0).1) (v*p.1+s*p.2+(gp l 0).2):=λp=>rfl
 have nt:Sz 30000 (-t):=(st.natle (by lia):Sz _ (-t)).mono (by decide)
 have MB:Mv u (-t) v s (gp l 0).1 (gp l 0).2:=⟨.inl (by have:=L.st;grind),d5.mono k5,nt,sv.mono (by decide),a5.mono k5,z0.1.mono (by decide),z0.2.mono (by decide)⟩
 have Ul:=V.F.ne;have hY:=de (l:=(am (l.map (lvF (gp l 0) u v s t))).map (·.2)) (by simpa using Ul)
 have zY:Sz 1000 (hiY (am (l.map (lvF (gp l 0) u v s t)))):=by
  obtain⟨q,hq,e⟩:=wk Ul;rw[<-e];exact (mz q hq).2
 show Ws _ _ _ _ _ _ [some (.val (lp l)),some (.val (mv s t (-v) u (-s*(gp l 0).1-t*(gp l 0).2) (v*(gp l 0).1-u*(gp l 0).2))),some (.val (lp (am (l.map (lvF (gp l 0) u v s t))))),some (.val (mv u (-t) v s (gp l 0).1 (gp l 0).2)),none,none,none,none,none];generalize hM:am (l.map (lvF (gp l 0) u v s t))=m at *;refine af (gI (i:=4) bR.nd rfl (Or.inl rfl) (b9 bi) ?_);refine af (dN (λi:Nat=>[some (.val (lp l)),some (.val (mv s t (-v) u (-s*(gp l 0).1-t*(gp l 0).2) (v*(gp l 0).1-u*(gp l 0).2))),some (.val (lp m)),some (.val (mv u (-t) v s (gp l 0).1 (gp l 0).2)),some (.own (((dP m i).map (bkF (gp l 0) u v s t)).map pu)),none,none,none,none]) (λi j=>i=j) rfl PassesOwn.never (uR rfl T.aaV (ae (ca (aq (wv rfl hY) rfl T.aa0 PF (ae (EvN.ev (gr (ys:=((m.map (·.2)).map U.int)) rfl (blk (aj gC) ["land","move","levelled","back","found","y","ends","x","P"] [8] rfl rfl rfl rfl (by decide+kernel)) (cF (aa 2 rfl) (.inl rfl)) (λ_ _ _ _=>bC (i:=8) bR.nd rfl (Or.inl rfl)) (dM (by decide)) ?clen ?csz (λ_ _=>trivial) ?celt)) ak fH)) ag) ak bK)) ?h0 ?hs ?hd)
 case clen=>simp
 case csz=>rw[Ex];exact F4 (aG (by lia))
 case celt=>
  intro C s' H' fp j x y hx hy;rw[Fn]at hy;obtain⟨p,hp,mp,rfl,rfl⟩:=hV hx hy;exact (aF (aa 8 rfl) ag rfl rfl)
 case h0=>exact⟨0,rfl,rfl,rfl,rfl,rfl,rfl,trivial⟩
 case hs=>
  rintro H0 i x _ hx rfl;obtain⟨hi,rfl⟩:=fO hx
  have QI:i<(hiY m+1).toNat:=by
   have:hiL (m.map (·.2))=hiY m:=rfl;rw[this]at hi;lia
  have rf:=Al (l:=m) QI;have rg:=wf (l:=m) (F4 QI)
  have iz:Sz 1001 (0+(i:Int)):=by
   have one:Sz 1000 (1:Int):=Sz.mono (m:=8) (by decide) (by decide)
   exact Sz.le (by lia) (L2.Sz.add' zY one)
  have rl:(jW m (0+(i:Int))).length=(k_ m (0+(i:Int))+1-fW m (0+(i:Int))).toNat:=by unfold jW nI;simp
  refine⟨_,(d8 (i:=5) bR.nd rfl (Or.inr rfl)),?_⟩;refine af (aE (i:=6) bR.nd rfl (Or.inl rfl) (aB ((oK T).mono (by decide)) hr rfl T.aaE.m T.aaE.F.kp T.aaE.b aA (ae (aa 2 rfl) (ae (aa 5 rfl) ak ah) ah) ⟨m,_,rfl,Ul,ml,mz,iz,rfl⟩) ?_)
  refine af (pU 4 rfl (EvN.ev (gr (ys:=(((jW m (0+(i:Int))).map (bkF (gp l 0) u v s t)).map pu)) rfl (blk (aj gC) ["land","move","levelled","back","found","y","ends","x","P"] [7] rfl rfl rfl rfl (by decide+kernel)) (v3 rfl T.aaV (ae (aF (aa 6 rfl) ag rfl rfl) (ae (ca (aF (aa 6 rfl) ag rfl rfl) ag) ak bK) bh)) (λ_ _ _ _=>bC (i:=7) bR.nd rfl (Or.inl rfl)) (dM (by decide)) ?clen ?csz (λ_ _=>trivial) ?celt)) (by simp only[Ex];exact F4 (aG (by lia))) (aH ?_))
  case clen=>rw[cL,Ex,Ex,rl]
  case csz=>rw[cL];exact F4 (aG (by lia))
  case celt=>
   intro C s' H' fp j x y hx hy;obtain⟨hj,rfl⟩:=fO hx
   have ey:y=pu (bkF (gp l 0) u v s t (fW m (0+(i:Int))+(j:Int),0+(i:Int))):=by
    unfold jW nI at hy;rw[Fn,Fn,Fn,EI,Iq hj]at hy;cases hy;rfl
   have hp:(fW m (0+(i:Int))+(j:Int),0+(i:Int))∈jW m (0+(i:Int)):=fg.mpr ⟨rfl,by dsimp only;lia,by dsimp only;lia⟩
   have hq:(fW m (0+(i:Int))+(j:Int),0+(i:Int))∈dP m (hiY m+1).toNat:=by
    have k:=fg.mp hp;exact dZ.mpr ⟨by dsimp only;lia,k.2⟩
   have bx:=(fM Ul).mp (V.F.in_box ((kW V _).mp hq))
   have zX:Sz 30000 (fW m (0+(i:Int))+(j:Int)):=by
    obtain⟨q1,m1,e1⟩:=ED.mp (cJ (l:=m.map (·.1)) (by simpa using Ul)).1
    obtain⟨q2,m2,e2⟩:=ED.mp (de (l:=m.map (·.1)) (by simpa using Ul)).1
    have y1:=(mz q1 m1).1;have y2:=(mz q2 m2).1;have b1:q1.1<=fW m (0+(i:Int))+(j:Int):=by have:=bx.1.1;unfold loX at this;rw[<-e1]at this;exact this
    have b2:fW m (0+(i:Int))+(j:Int)<=q2.1:=by have:=bx.1.2;unfold hiX at this;rw[<-e2]at this;exact this
    rcases F6 (fW m (0+(i:Int))+(j:Int)) 0 with z |z
    ·exact (y1.natle (by lia):Sz 1000 _).mono (by decide)
    ·exact (y2.natle (by lia):Sz 1000 _).mono (by decide)
   rw[ey,hbk];exact (aB ((qb T).mono (by decide)) hr rfl T.aaJ.m T.aaJ.F.kp T.aaJ.b aA (ae (b8 (ax (aa 7 rfl) (ax (aa 5 rfl) bi ah) ah)) (ae (aa 3 rfl) ak ah) rJ) ⟨_,_,_,_,_,_,_,_,rfl,MB,zX,iz.mono (by decide),rfl⟩)
  refine⟨i+1,rfl,rfl,rfl,rfl,rfl,?_,trivial⟩;exact congrArg (λl=>some (Sl.own l)) (by rw[j4,Fi,Fi])
 case hd=>
  rintro q ps hq QM;refine c8 ?_ QM;rw[cL]at hq;have e:q=(hiY m+1).toNat:=by rw[<-hq];show (hiY m+1-0).toNat=_;lia
  subst e;refine iV 4 rfl ?_;have fs:=jt F Tv;have n64:((dP m (hiY m+1).toNat).map (bkF (gp l 0) u v s t)).length<64:=by rw[Ex];lia
  refine af (d6 (tH ST3.KP pu (0,0) (trs:=(dP m (hiY m+1).toNat).map (bkF (gp l 0) u v s t)) Em rfl T.aaM (fL hr) (aa 4 rfl) ⟨n64,Ru⟩ ah) ?_);rw[B1,fs]
def p8:List U->Out->Prop:=λus o=>∃l:List P2,us=[lp l]/\Fld l/\l.length<64/\(∀p∈l,Szp 150 p)/\(iq l<=100/\(aC l).length<=60)/\o=.new ((aC l).map pu)
theorem l7(T:Txt w K mg):aZ P w K mg base (CXF P w) 8 T.aaB.a T.aaB.d ["land"] (spU K (p8)):=by
 refine a9 T.aaB.F vM (λus o h=>?_) (λQA A outer s H E O us o hr h=>?_)
 ·obtain⟨l,rfl,F,hl,sz,hc,rfl⟩:=h;rfl
 obtain⟨l,rfl,F,hl,sz,hc,rfl⟩:=h;refine Ws.nox ?_;have hm:((l.map pu).length:Int)=(l.length:Int):=by rw[Ex]
 have one:am (l.map (scl 1))=l:=by rw[show scl 1=id from funext nu,Qj];exact F.cr
 have cs:ki [lp l,.int 1] (.val (.int (iq l))):=⟨l,1,rfl,by decide,Sz.mono (m:=8) (by decide) (by decide),nN (by decide) sz,F.ne,hl,by rw[one]⟩
 have l0:0<l.length:=FJ.mpr F.ne;have hc1:=hc.1;refine af (ce (aK gD (tY ((kS T).mono (by decide)) hr rfl T.aaz.m T.aaz.F.kp T.aaz.bd aA (ae (aa 0 rfl) ak ah) cs) (Df rfl T.aaW)) (decide_eq_false (by lia)) (aH ?_))
 by_cases h1:l.length=1
 ·refine af (gG (aK cY (aq (bM rfl) rfl T.aag Fj (ae (aa 0 rfl) ak ah)) ag) (by rw[hm];exact decide_eq_true (by lia)) ?_)
  refine af (d6 (dU (fQ rfl) rfl T.aaI IT (ae (aa 0 rfl) ak ah)) ?_);obtain⟨A,rfl⟩:=JO.mp h1
  have:aC [A]=[A]:=by
   rw[<-jt (R:=[A]) F λp=>by rw[iJ];simp]
   exact cN (pts:=[A]) (by have:=ST.srt_len [A];simp at this;lia) ▸ F.cr
  rw[this]
 ·refine af (ce (aK cY (aq (bM rfl) rfl T.aag Fj (ae (aa 0 rfl) ak ah)) ag) (by rw[hm];exact decide_eq_false (by lia)) (aH ?_))
  refine af (d6 (b_ ((ri T).mono (by decide)) hr rfl T.aaH.m T.aaH.F.kp T.aaH.b aA (ae (aa 0 rfl) ak ah) ⟨l,rfl,F,by lia,hl,sz,hc,rfl⟩) ?_)
  exact rfl
theorem tE{A B C:P2}(hD:0<ac A B C)(h:∀p,0<=ac A B p->0<=ac B C p->0<=ac C A p->p=A\/p=B\/p=C):ac A B C=1:=by
 refine FI λn1=>?_
 obtain⟨g,s,t,G⟩:=jh (B.1-A.1) (B.2-A.2);obtain⟨u,hu⟩:=G.da;obtain⟨v,hv⟩:=G.db;have ge:=G.eq;have g0:=G.g0
 have gn:g≠0:=λe=>by
  rw[e,GH]at hu hv;have:ac A B C=0:=by unfold ac;rw[hu,hv];lia
  lia
 have gp:0<g:=by lia
 have no:∀p:P2,0<=ac A B p->0<=ac B C p->0<=ac C A p->p≠A->p≠B->p≠C->False:=λp h1 h2 h3 a b c=>by
  rcases h p h1 h2 h3 with e |e |e
  ·exact a e
  ·exact b e
  ·exact c e
 have suv:s*u+t*v=1:=by
  have:g*(s*u+t*v)=g*1:=by rw[JQ];rw[hu,hv]at ge;rw[<-ge];grind
  exact FX gn this
 have eD:ac A B C=g*(u*(C.2-A.2)-v*(C.1-A.1)):=by unfold ac;rw[hu,hv];grind
 by_cases g1:g=1
 ·subst g1;have hx:ac A B C=u*(C.2-A.2)-v*(C.1-A.1):=by rw[eD];lia
  generalize hd:ac A B C=d at *;obtain⟨x,hx0⟩:∃x,x=s*(C.1-A.1)+t*(C.2-A.2):=⟨_,rfl⟩
  have c1:C.1-A.1=x*u-d*t:=by
   have:x*u-d*t=(s*u+t*v) *(C.1-A.1):=by rw[hx0,hx];grind
   rw[this,suv];lia
  have c2:C.2-A.2=x*v+d*s:=by
   have:x*v+d*s=(s*u+t*v) *(C.2-A.2):=by rw[hx0,hx];grind
   rw[this,suv];lia
  have q1:=G_ (-x) (show d≠0 by lia)
  have q2:=GC (-x) hD;have q3:=Int.mul_ediv_add_emod (-x) d;generalize -x/d=m at *;generalize -x%d=r at *;have er:r=-x-d*m:=by lia
  have b1:B.1=A.1+u:=by lia
  have b2:B.2=A.2+v:=by lia
  have d1:ac A B (A.1-m*u-t,A.2-m*v+s)=1:=by
   unfold ac;dsimp only;rw[b1,b2,<-suv];grind
  have d3:ac C A (A.1-m*u-t,A.2-m*v+s)=r:=by
   have:ac C A (A.1-m*u-t,A.2-m*v+s)=(-m*u-t) *(C.2-A.2)-(-m*v+s) *(C.1-A.1):=by unfold ac;dsimp only;grind
   rw[this,c1,c2,er];have:(-m*u-t) *(x*v+d*s)-(-m*v+s) *(x*u-d*t)=(s*u+t*v) *(-x-d*m):=by grind
   rw[this,suv];lia
  have d2:ac B C (A.1-m*u-t,A.2-m*v+s)=d-1-r:=by
   have:ac A B (A.1-m*u-t,A.2-m*v+s)+ac B C (A.1-m*u-t,A.2-m*v+s)+ac C A (A.1-m*u-t,A.2-m*v+s)=ac A B C:=by unfold ac;dsimp only;grind
   lia
  have z:∀p q:P2,ac p q p=0/\ac p q q=0:=λp q=>by unfold ac;constructor <;>grind
  refine no (A.1-m*u-t,A.2-m*v+s) (by lia) (by lia) (by lia) (λe=>?_) (λe=>?_) (λe=>?_)
  ·rw[e,(z A B).1]at d1;lia
  ·rw[e,(z A B).2]at d1;lia
  ·rw[e,hd]at d1;lia
 ·have d1:ac A B (A.1+u,A.2+v)=0:=by unfold ac;dsimp only;rw[hu,hv];grind
  generalize hy:u*(C.2-A.2)-v*(C.1-A.1)=y at *;have yp:0<y:=by rw[eD]at hD;exact G7 hD gp
  have d3:ac C A (A.1+u,A.2+v)=y:=by unfold ac;dsimp only;rw[<-hy];grind
  have d2:ac B C (A.1+u,A.2+v)=(g-1) *y:=by
   have:ac A B (A.1+u,A.2+v)+ac B C (A.1+u,A.2+v)+ac C A (A.1+u,A.2+v)=ac A B C:=by unfold ac;dsimp only;grind
   rw[eD]at this;have e:(g-1) *y=g*y-y:=by grind
   rw[e];lia
  have d2':0<=(g-1) *y:=E_ (by lia) (by lia)
  have z:∀p q:P2,ac p q q=0/\ac p q p=0:=λp q=>by unfold ac;constructor <;>grind
  refine no (A.1+u,A.2+v) (by lia) (by lia) (by lia) (λe=>?_) (λe=>?_) (λe=>?_)
  ·rw[e,(z C A).1]at d3;lia
  ·rw[e,(z B C).2]at d2;have:=Fx (show 0<g-1 by lia) yp
   lia
  ·rw[e]at d1;lia
def bV(s:Int)(P:P2):List P2->List P2
 |b::a::r=>if 0<s*ac a b P then bV s P (a::r) else b::a::r
 |st=>st
def cA(s:Int)(P:P2):List P2->List (P2×P2×P2)
 |b::a::r=>if 0<s*ac a b P then (a,b,P)::cA s P (a::r) else []
 |_=>[]
def ny(s:Int)(done:List P2):List P2->Prop
 |b::a::r=>(∀q∈done,s*ac a b q<=0/\(s*ac a b q=0->plt a q->plt q b->False))/\ny s done (a::r)
 |_=>True
theorem t7{s:Int}(hs:s=1\/s=-1){u1 u2 v1 v2 w1 w2:Int}(hu:bF u1 u2)(hv:bF v1 v2)(hw:bF w1 w2)(h1:s*(u1*v2-u2*v1)<=0)(h2:s*(v1*w2-v2*w1)<=0):s*(u1*w2-u2*w1)<=0:=by
 rcases hs with e |e <;>subst e
 ·have:=dw hw hv hu (by grind) (by grind)
  grind
 ·have:=dw hu hv hw (by lia) (by lia)
  lia
theorem Dj{s:Int}(hs:s=1\/s=-1){u1 u2 p1 p2 w1 w2:Int}(hu:bF u1 u2)(hp:bF p1 p2)(hw:bF w1 w2)(h1:0<s*(u1*p2-u2*p1))(h2:s*(u1*w2-u2*w1)<0):s*(p1*w2-p2*w1)<0:=by
 rcases hs with e |e <;>subst e
 ·have:=eB hw hu hp (by grind) (by lia)
  grind
 ·have:=eB hp hu hw (by grind) (by lia)
  lia
structure KW(s:Int)(done st:List P2):Prop where
 ne:st≠[]
 desc:eK st
 cov:ny s done st
 sub:∀p∈st,p∈done
 bot:∀z,st.getLast?=some z->∀q∈done,¬ plt q z
structure DW(s:Int)(done st:List P2)(P:P2):Prop extends KW s done st where
 pend:∀h r,st=h::r->∀q∈done,plt h q->s*ac h P q<0
theorem nP{s:Int}(hs:s=1\/s=-1){done:List P2}{P b a:P2}{r:List P2}(hP:∀q∈done,plt q P)(D:DW s done (b::a::r) P)(h:0<s*ac a b P):DW s done (a::r) P:=by
 refine⟨⟨by simp,D.desc.tail,D.cov.2,λp hp=>D.sub p (EB _ hp),λz hz=>D.bot z (by rw[FC];exact hz)⟩,?_⟩
 intro h' r' e q hq Qx;cases e;have RB:=D.desc.1;obtain⟨c1,c2⟩:=D.cov.1 q hq;have hbP:=hP b (D.sub b EF);rcases dq q b with z |z |z
 ·have RV:s*ac a b q<0:=by
   rcases GR c1 with y |y
   ·exact y
   ·exact (c2 y Qx z).elim
  have:=Dj hs (u1:=b.1-a.1) (u2:=b.2-a.2) (p1:=P.1-a.1) (p2:=P.2-a.2) (w1:=q.1-a.1) (w2:=q.2-a.2) (ay RB) (ay (aN RB hbP)) (ay Qx) (by unfold ac at h;exact h) (by unfold ac at RV;exact RV)
  unfold ac;exact this
 ·subst z;have:ac a P q=- ac a q P:=by unfold ac;grind
  rw[this,M7];lia
 ·have p:=D.pend b _ rfl q hq z;have:ac a P q=ac a b q-ac a b P+ac b P q:=by unfold ac;grind
  rw[this];have e:s*(ac a b q-ac a b P+ac b P q)=s*ac a b q-s*ac a b P+s*ac b P q:=by grind
  lia
theorem wG{s:Int}(hs:s=1\/s=-1){done:List P2}{P:P2}(hP:∀q∈done,plt q P):∀st:List P2,DW s done st P->DW s done (bV s P st) P/\(∀b a r,bV s P st=b::a::r->s*ac a b P<=0)
 |[],D=>absurd rfl D.ne
 |[b],D=>⟨D,λ_ _ _ e=>by simp[bV]at e⟩
 |b::a::r,D=>by
  by_cases h:0<s*ac a b P
  ·rw[bV,if_pos h];exact wG hs hP (a::r) (nP hs hP D h)
  ·rw[bV,if_neg h];refine⟨D,λb' a' r' e=>?_⟩
   cases e;lia
theorem oC{s:Int}(hs:s=1\/s=-1){done:List P2}{P:P2}(hP:∀q∈done,plt q P):∀{st:List P2},eK st->ny s done st->(∀p∈st,p∈done)->(∀b a r,st=b::a::r->s*ac a b P<=0)->ny s (done++[P]) st
 |[],_,_,_,_=>trivial
 |[_],_,_,_,_=>trivial
 |b::a::r,d,c,sub,h=>by
  have h0:=h b a r rfl;have mb:=sub b EF;refine⟨λq hq=>?_,oC hs hP d.tail c.2 (λp hp=>sub p (EB _ hp)) λb' a' r' e=>?_⟩
  ·rcases EX.mp hq with k |k
   ·exact c.1 q k
   ·rw[EJ.mp k];refine⟨h0,λ_ _ k2=>?_⟩
    have:=hP b mb;unfold plt at *;lia
  ·cases e;have d2:=d.tail.1;have c2:=(c.2.1 b mb).1;have hb:=hP b mb
   have:=t7 hs (u1:=a.1-a'.1) (u2:=a.2-a'.2) (v1:=b.1-a.1) (v2:=b.2-a.2) (w1:=P.1-b.1) (w2:=P.2-b.2) (ay d2) (ay d.1) (ay hb) (by
    have:ac a' a b=(a.1-a'.1) *(b.2-a.2)-(a.2-a'.2) *(b.1-a.1):=by unfold ac;grind
    rw[<-this];exact c2) (by
    have:ac a b P=(b.1-a.1) *(P.2-b.2)-(b.2-a.2) *(P.1-b.1):=by unfold ac;grind
    rw[<-this];exact h0)
   have e:s*ac a' a P=s*ac a' a b+s*((a.1-a'.1) *(P.2-b.2)-(a.2-a'.2) *(P.1-b.1)):=by unfold ac;grind
   lia
theorem BW{s:Int}(hs:s=1\/s=-1){done st:List P2}{P:P2}(hP:∀q∈done,plt q P)(K:KW s done st)(top:∀h r,st=h::r->∀q∈done,¬ plt h q):KW s (done++[P]) (P::bV s P st):=by
 obtain⟨D,stop⟩:=wG hs hP st ⟨K,λh r e q hq Qx=>absurd Qx (top h r e q hq)⟩
 generalize bV s P st=t at *;have hPn:¬ plt P P:=by unfold plt;lia
 have Tx:∀b a r,t=b::a::r->s*ac a b P<=0:=stop;have cm:=oC hs hP D.desc D.cov D.sub Tx
 match t,D,Tx,cm with
 |[],D,_,_=>exact absurd rfl D.ne
 |[b],D,Tx,cm=>
  have mb:=D.sub b EF;refine⟨by simp,⟨hP b mb,trivial⟩,⟨λq hq=>?_,trivial⟩,λp hp=>?_,λz hz q hq=>?_⟩
  ·rcases EX.mp hq with k |k
   ·rcases dq q b with y |y |y
    ·exact absurd y (D.bot b rfl q k)
    ·subst y;exact⟨by unfold ac;grind,λ_ k1 _=>by unfold plt at k1;lia⟩
    ·have:=D.pend b _ rfl q k y;exact⟨by lia,λe _ _=>by lia⟩
   ·rw[EJ.mp k];exact⟨by unfold ac;grind,λ_ _ k2=>hPn k2⟩
  ·rcases EH.mp hp with k |k
   ·rw[k];simp
   ·exact E8 _ (D.sub p k)
  ·have ez:z=b:=by simpa using hz.symm
   subst ez;rcases EX.mp hq with k |k
   ·exact D.bot z rfl q k
   ·rw[EJ.mp k];have:=hP z mb;unfold plt at *;lia
 |b::a::r,D,Tx,cm=>
  have mb:=D.sub b EF;have h0:=Tx b a r rfl;refine⟨by simp,⟨hP b mb,D.desc⟩,⟨λq hq=>?_,cm⟩,λp hp=>?_,λz hz q hq=>?_⟩
  ·rcases EX.mp hq with k |k
   ·rcases dq q b with y |y |y
    ·have c1:=(D.cov.1 q k).1;have hb:=hP b mb
     have:=t7 hs (u1:=b.1-q.1) (u2:=b.2-q.2) (v1:=b.1-a.1) (v2:=b.2-a.2) (w1:=P.1-b.1) (w2:=P.2-b.2) (ay y) (ay D.desc.1) (ay hb) (by
      have:(b.1-q.1) *(b.2-a.2)-(b.2-q.2) *(b.1-a.1)=ac a b q:=by unfold ac;grind
      rw[this];exact c1) (by
      have:ac a b P=(b.1-a.1) *(P.2-b.2)-(b.2-a.2) *(P.1-b.1):=by unfold ac;grind
      rw[<-this];exact h0)
     have e:ac b P q=(b.1-q.1) *(P.2-b.2)-(b.2-q.2) *(P.1-b.1):=by unfold ac;grind
     rw[e];exact⟨this,λ_ k1 _=>by unfold plt at *;lia⟩
    ·subst y;exact⟨by unfold ac;grind,λ_ k1 _=>by unfold plt at k1;lia⟩
    ·have:=D.pend b _ rfl q k y;exact⟨by lia,λe _ _=>by lia⟩
   ·rw[EJ.mp k];exact⟨by unfold ac;grind,λ_ _ k2=>hPn k2⟩
  ·rcases EH.mp hp with k |k
   ·rw[k];simp
   ·exact E8 _ (D.sub p k)
  ·have hz':(b::a::r).getLast?=some z:=by rw[FC]at hz;exact hz
   rcases EX.mp hq with k |k
   ·exact D.bot z hz' q k
   ·rw[EJ.mp k];have:=hP z (D.sub z (HA hz'));unfold plt at *;lia
abbrev Tri:=P2×P2×P2
def jQ(t:Tri):Int:=ac t.1 t.2.1 t.2.2
def wst(s:Int)(z:List P2×List Tri)(P:P2):List P2×List Tri:=(P::bV s P z.1,z.2++cA s P z.1)
def av(s:Int)(row:List P2):List P2×List Tri:=row.foldl (wst s) ([],[])
theorem bX(s:Int)(row:List P2)(P:P2):av s (row++[P])=wst s (av s row) P:=by unfold av;rw[Im];rfl
theorem cq{Q:List P2->Prop}(h0:Q [])(h1:∀l P,Q l->Q (l++[P])):∀l,Q l:=λl=>by
 have key:∀m:List P2,Q m.reverse:=λm=>by
  induction m with
  |nil=>exact h0
  |cons a m ih=>rw[Ja];exact h1 _ _ ih
 have:=key l.reverse
 rwa [Je]at this
theorem ci{l:List P2}{P:P2}(h:(l++[P]).Pairwise plt):l.Pairwise plt/\∀q∈l,plt q P:=by
 rw[List.pairwise_append]at h;exact⟨h.1,λq hq=>h.2.2 q hq P (by simp)⟩
theorem nQ(s:Int)(row:List P2)(P:P2):(av s (row++[P])).1.head?=some P:=by rw[bX];rfl
theorem ja{s:Int}(hs:s=1\/s=-1):∀row:List P2,row.Pairwise plt->row≠[]->KW s row (av s row).1:=by
 refine cq (λ_ h=>absurd rfl h) λl P ih hs2 _=>?_
 obtain⟨h1,h2⟩:=ci hs2;rw[bX];show KW s (l++[P]) (P::bV s P (av s l).1);by_cases hl:l=[]
 ·subst hl;show KW s [P] [P];refine⟨by simp,trivial,trivial,λp hp=>by simpa using hp,λz hz q hq=>?_⟩
  have e1:q=P:=by simpa using hq
  have e2:P=z:=by simpa using hz
  rw[e1,<-e2];unfold plt;lia
 ·have K:=ih h1 hl;refine BW hs h2 K λh r e q hq=>?_
  have:l=l.dropLast++[l.getLast hl]:=(FG hl).symm;have hd:=nQ s l.dropLast (l.getLast hl);rw[<-this,e]at hd;have eh:h=l.getLast hl:=by simpa using hd
  rw[eh];rw[this]at h1 hq;rcases EX.mp hq with k |k
  ·have:=(ci h1).2 q k;unfold plt at *;lia
  ·rw[EJ.mp k];unfold plt;lia
def chS:List P2->Int
 |b::a::r=>crs (a,b)+chS (a::r)
 |_=>0
theorem tf(s:Int)(P:P2):∀st:List P2,chS (P::bV s P st)+((cA s P st).map jQ).sum=chS (P::st)
 |[]=>by simp[bV,cA]
 |[b]=>by simp[bV,cA]
 |b::a::r=>by
  by_cases h:0<s*ac a b P
  ·rw[bV,cA,if_pos h,if_pos h,Fh,Kn];have ih:=tf s P (a::r);show _+(ac a b P+_)=crs (b,P)+(crs (a,b)+chS (a::r));have e:chS (P::a::r)=crs (a,P)+chS (a::r):=rfl;rw[e]at ih;have d:ac a b P=crs (a,b)+crs (b,P)-crs (a,P):=by unfold ac crs;grind
   lia
  ·rw[bV,cA,if_neg h,if_neg h];simp
theorem oS{P t:P2}{st:List P2}(h:st.head?=some t):chS (P::st)=crs (t,P)+chS st:=by
 cases st with
 |nil=>cases h
 |cons a r=>cases h;rfl
theorem r_(s:Int):∀row:List P2,((av s row).2.map jQ).sum=chS row.reverse-chS (av s row).1:=by
 refine cq rfl λl P ih=>?_
 rw[bX,Kv];show (((av s l).2++cA s P (av s l).1).map jQ).sum=chS (P::l.reverse)-chS (P::bV s P (av s l).1);have h:=tf s P (av s l).1;rw[Fi,List.sum_append,ih];by_cases hl:l=[]
 ·subst hl;simp[av,bV,cA,chS]
 ·have e:l=l.dropLast++[l.getLast hl]:=(FG hl).symm;have hd:=nQ s l.dropLast (l.getLast hl);rw[<-e]at hd;have hr:l.reverse.head?=some (l.getLast hl):=by rw[JD,Hv hl]
  rw[oS hd]at h;rw[oS hr];lia
def qH(s:Int)(W:List P2):List P2->Prop
 |b::a::r=>(∀q∈W,s*ac a b q<=0)/\qH s W (a::r)
 |_=>True
theorem ny.weak{s:Int}{W:List P2}:∀{st:List P2},ny s W st->qH s W st
 |[],_=>trivial
 |[_],_=>trivial
 |b::a::r,h=>⟨λq hq=>(h.1 q hq).1,ny.weak h.2⟩
theorem rM{s:Int}{a m b q:P2}(h1:plt a m)(h2:plt a b)(h0:ac a b m=0)(h:s*ac a b q<=0):s*ac a m q<=0:=by
 have l1:=ay h1;have l2:=ay h2;unfold bF at l1 l2;unfold ac at *;generalize b.1-a.1=u1 at *;generalize b.2-a.2=u2 at *;generalize m.1-a.1=v1 at *;generalize m.2-a.2=v2 at *;generalize q.1-a.1=w1 at *;generalize q.2-a.2=w2 at *;rcases l2 with k |⟨k,k2⟩
 ·have e:u1*(s*(v1*w2-v2*w1))=v1*(s*(u1*w2-u2*w1)):=by grind
  have v0:0<=v1:=by lia
  have r:v1*(s*(u1*w2-u2*w1))<=0:=Gw v0 h;rw[<-e]at r;rcases F6 0 (s*(v1*w2-v2*w1)) with z |z
  ·have:=Fx k z;lia
  ·exact z
 ·subst k
  have v10:v1=0:=by
   have:u2*v1=0:=by grind
   rcases Ft.mp this with z |z
   ·lia
   ·exact z
  subst v10;have e:u2*(s*(0*w2-v2*w1))=v2*(s*(0*w2-u2*w1)):=by grind
  have v0:0<=v2:=by lia
  have r:v2*(s*(0*w2-u2*w1))<=0:=Gw v0 h;rw[<-e]at r;rcases F6 0 (s*(0*w2-v2*w1)) with z |z
  ·have:=Fx k2 z;lia
  ·exact z
theorem iU:∀{b a:P2}{r:List P2},eK (b::a::r)->∀z,(b::a::r).getLast?=some z->plt z b
 |b,a,[],d,z,h=>by
  have e:a=z:=by simpa using h
  rw[<-e];exact d.1
 |b,a,c::r,d,z,h=>aN (iU (b:=a) d.tail z (by rw[FC]at h;exact h)) d.1
theorem lS(P:P2):∀st:List P2,Mx (aM P st) st
 |[]=>Jc _
 |[_]=>Jc _
 |b::a::r=>by
  rw[aM];split
  ·exact (lS P (a::r)).trans (List.sublist_cons_self _ _)
  ·exact Jc _
theorem qT:∀r:List P2,Mx (ai r).reverse r:=by
 refine cq (Jc _) λl P ih=>?_
 have e:ai (l++[P])=P::aM P (ai l):=by unfold ai;rw[Im];rfl
 rw[e,Ja];exact ((lS P (ai l)).reverse.trans ih).append (Jc _)
theorem nO:∀{l:List P2},l.Pairwise (λx y=>plt y x)->eK l
 |[],_=>trivial
 |[_],_=>trivial
 |b::a::r,h=>⟨(Fq.mp h).1 a (by simp),nO (Fq.mp h).2⟩
theorem sG{s:Int}{W:List P2}:∀{L:List P2},(∀(i:Nat) (a b:P2),L[i]?=some b->L[i+1]?=some a->∀q∈W,s*ac a b q<=0)->qH s W L
 |[],_=>trivial
 |[_],_=>trivial
 |b::a::r,h=>⟨h 0 a b rfl rfl,sG λi x y h1 h2=>h (i+1) x y h1 h2⟩
def chG(g:P2×P2->Int):List P2->Int
 |a::b::r=>g (a,b)+chG g (b::r)
 |_=>0
theorem qs(g:P2×P2->Int)(m:P2):∀u v:List P2,chG g (u++m::v)=chG g (u++[m])+chG g (m::v)
 |[],v=>by simp[chG]
 |[a],v=>by simp[chG]
 |a::b::u,v=>by
  have ih:=qs g m (b::u) v;show g (a,b)+chG g (b::u++m::v)=g (a,b)+chG g (b::u++[m])+chG g (m::v);rw[ih];exact (Int.add_assoc ..).symm
theorem pI(g:P2×P2->Int)(a:P2):∀(x:P2) (r:List P2),((Oa (x::r) (r++[a])).map g).sum=chG g (x::r++[a])
 |x,[]=>by simp[chG]
 |x,y::r=>by
  have ih:=pI g a y r;rw[Jn,Hb,Fh,Kn,ih];rfl
theorem xQ(a:P2)(r:List P2):sdl (a::r)=Oa (a::r) (r++[a]):=by
 have key:∀l:List (P2×P2),l=Oa (l.map (·.1)) (l.map (·.2)):=λl=>by
  induction l with
  |nil=>rfl
  |cons x l ih=>rw[Fh,Fh,Hb,<-ih]
 rw[key (sdl (a::r)),tF,sV];rfl
theorem cj(a:P2):¬ plt a a:=by unfold plt;lia
theorem nJ{a b:P2}(h:plt a b):¬ plt b a:=by unfold plt at *;lia
theorem ff(s:Int){row:List P2}(h:row≠[]):∃b r,(av s row).1=b::r/\row.getLast?=some b:=by
 obtain⟨l,P,rfl⟩:∃l P,row=l++[P]:=⟨row.dropLast,row.getLast h,(FG h).symm⟩;rw[bX];exact⟨P,_,rfl,by simp⟩
def Ad(g:P2×P2->Int):Prop:=∀a m b:P2,plt a m->plt m b->ac a b m=0->g (a,b)=g (a,m)+g (m,b)
def chD(g:P2×P2->Int):List P2->Int
 |b::a::r=>g (a,b)+chD g (a::r)
 |_=>0
theorem g9{g:P2×P2->Int}(hg:Ad g){s:Int}(hs:s=1\/s=-1){W:List P2}:∀(n:Nat) (C D:List P2),C.length+D.length<=n->C≠[]->D≠[]->eK C->eK D->C.head?=D.head?->C.getLast?=D.getLast?->qH s W C->qH s W D->(∀p∈C,p∈W)->(∀p∈D,p∈W)->chD g C=chD g D
 |n,[x],[y],_,_,_,_,_,_,_,_,_,_,_=>rfl
 |n,[x],y::a::r,_,_,_,_,dD,hh,hl,_,_,_,_=>by
  have e:x=y:=by simpa using hh
  have:=iU dD x (by rw[<-hl];rfl)
  rw[e]at this;exact absurd this (cj _)
 |n,y::a::r,[x],_,_,_,dC,_,hh,hl,_,_,_,_=>by
  have e:y=x:=by simpa using hh
  have:=iU dC x (by rw[hl];rfl)
  rw[e]at this;exact absurd this (cj _)
 |0,b::a::r,_::_::_,hn,_,_,_,_,_,_,_,_,_,_=>by simp at hn
 |n+1,b::a::r,b'::a'::r',hn,_,_,dC,dD,hh,hl,cC,cD,sC,sD=>by
  have e:b=b':=by simpa using hh
  subst e;have ma:=sC a (by simp)
  have ma':=sD a' (by simp)
  have k1:=cC.1 a' ma';have k2:=cD.1 a ma;have ee:ac a' b a=- ac a b a':=by unfold ac;grind
  have z0:ac a b a'=0:=by
   rw[ee]at k2;rcases hs with e |e <;>subst e <;>lia
  have z0':ac a' b a=0:=by rw[ee,z0];rfl
  have t1:(a::r).getLast?=(a'::r').getLast?:=by rw[FC,FC]at hl;exact hl
  have sC':∀p∈a::r,p∈W:=λp hp=>sC p (EB _ hp)
  have sD':∀p∈a'::r',p∈W:=λp hp=>sD p (EB _ hp)
  simp only[E9]at hn;show g (a,b)+chD g (a::r)=g (a',b)+chD g (a'::r');rcases dq a a' with y |y |y
  ·have ih:=g9 hg hs n (a'::a::r) (a'::r') (by simp only[E9];lia) (by simp) (by simp) ⟨y,dC.tail⟩ dD.tail rfl (by rw[FC];exact t1) ⟨λq hq=>rM y dC.1 z0 (cC.1 q hq),cC.2⟩ cD.2 (λp hp=>by
    rcases EH.mp hp with k |k
    ·rw[k];exact ma'
    ·exact sC' p k) sD'
   have e1:chD g (a'::a::r)=g (a,a')+chD g (a::r):=rfl;have e2:=hg a a' b y dD.1 z0;lia
  ·subst y;have ih:=g9 hg hs n (a::r) (a::r') (by simp only[E9];lia) (by simp) (by simp) dC.tail dD.tail rfl t1 cC.2 cD.2 sC' sD'
   lia
  ·have ih:=g9 hg hs n (a::r) (a::a'::r') (by simp only[E9];lia) (by simp) (by simp) dC.tail ⟨y,dD.tail⟩ rfl (by rw[FC];exact t1) cC.2 ⟨λq hq=>rM y dD.1 z0' (cD.1 q hq),cD.2⟩ sC' (λp hp=>by
    rcases EH.mp hp with k |k
    ·rw[k];exact ma
    ·exact sD' p k)
   have e1:chD g (a::a'::r')=g (a',a)+chD g (a'::r'):=rfl;have e2:=hg a' a b y dC.1 z0';lia
 |_,[],_,_,h,_,_,_,_,_,_,_,_,_=>absurd rfl h
 |_,_::_,[],_,_,h,_,_,_,_,_,_,_,_=>absurd rfl h
theorem yG(g:P2×P2->Int):∀l:List P2,chG g l=chD (λs=>g (s.2,s.1)) l
 |[]=>rfl
 |[_]=>rfl
 |a::b::r=>by rw[chG,chD,yG g (b::r)]
theorem v_(g:P2×P2->Int):∀l:List P2,chG g l.reverse=chD g l
 |[]=>rfl
 |[_]=>rfl
 |b::a::r=>by
  have e:(b::a::r).reverse=r.reverse++a::[b]:=by simp
  rw[e,qs,chD,<-v_ g (a::r),Ja];show _+(g (a,b)+0)=_;lia
theorem y8{g:P2×P2->Int}(hg:Ad g)(hg':Ad λs=>g (s.2,s.1)){pts:List P2}(h2:2<=(ST.srt pts).length):((sdl (am pts)).map g).sum=chD g (av (-1) (ST.srt pts)).1+chD (λs=>g (s.2,s.1)) (av 1 (ST.srt pts)).1:=by
 have asc:(ST.srt pts).Pairwise plt:=(ST.srt_asc pts).imp λ{a b} h=>by
  unfold ST.ltP at h;unfold plt;simpa using h
 have ec:am pts=(ai (ST.srt pts)).reverse.dropLast++(ai (ST.srt pts).reverse).reverse.dropLast:=by unfold am;rw[if_neg (by lia)]
 generalize ST.srt pts=row at *;have Qv:row≠[]:=λz=>by rw[z]at h2;simp at h2
 obtain⟨mn,mx,Wy⟩:=Cn asc h2;obtain⟨kb,kl,kh⟩:=bY asc Qv;have bc:=@gX row asc Qv;have bs:=qT row.reverse;generalize hT:(ai row).reverse=T at *;generalize hB:(ai row.reverse).reverse=B at *;have bT:ai row=T.reverse:=by rw[<-hT,Je]
 have mxr:row.getLast?=some mx:=by
  rw[<-kh,bT,JD,FY];exact Wy.t1
 have mnr:row.head?=some mn:=by
  rw[<-kl,bT,IW,GB];exact Wy.t0
 have bots:∀s,s=1\/s=-1->(av s row).1≠[]/\eK (av s row).1/\(av s row).1.head?=some mx/\(av s row).1.getLast?=some mn/\qH s row (av s row).1/\∀p∈(av s row).1,p∈row:=λs hs=>by
  have K:=ja hs row asc Qv;obtain⟨b,r,e,hb⟩:=ff s Qv;refine⟨K.ne,K.desc,by rw[e,<-mxr,hb];rfl,?_,K.cov.weak,K.sub⟩
  obtain⟨z,hz⟩:∃z,(av s row).1.getLast?=some z:=⟨_,Hv K.ne⟩;have zr:=K.sub z (HA hz);have hm:mn∈row:=NM mnr;have:=K.bot z hz mn hm;rcases Wy.least z zr with y |y
  ·rw[hz,y]
  ·exact absurd y this
 obtain⟨p1,p2,p3,p4,p5,p6⟩:=bots 1 (.inl rfl);obtain⟨n1,n2,n3,n4,n5,n6⟩:=bots (-1) (.inr rfl)
 have low:chD g (av (-1) row).1=chD g (ai row):=by
  refine g9 hg (.inr rfl) (W:=row) _ _ _ (EL _) n1 kb.ne n2 kb.desc (by rw[n3,kh,mxr]) (by rw[n4,kl,mnr]) n5 ?_ n6 kb.sub
  have conv:∀{st:List P2},gh row st→qH (-1) row st:=λ{st}=>by
   induction st with
   |nil=>intro _;trivial
   |cons b st ih=>
    cases st with
    |nil=>intro _;trivial
    |cons a r=>exact λc=>⟨λq hq=>by have:=c.1 q hq;lia,ih c.2⟩
  exact conv kb.cover
 have bne:B≠[]:=λe=>by have:=Wy.lb;rw[e]at this;simp at this
 have tne:T≠[]:=λe=>by have:=Wy.lt;rw[e]at this;simp at this
 have up:chD (λs=>g (s.2,s.1)) (av 1 row).1=chD (λs=>g (s.2,s.1)) B:=by
  refine g9 hg' (.inl rfl) (W:=row) _ _ _ (EL _) p1 bne p2 ?_ ?_ ?_ p5 ?_ p6 ?_
  ·refine nO (P5 bs ?_);rw[HY];exact asc
  ·rw[p3,GB];exact Wy.b0.symm
  ·rw[p4,FY];exact Wy.b1.symm
  ·refine sG λi a b h1 h2 q hq=>?_
   have:=bc h1 h2 q hq;have e:ac a b q=- ac b a q:=by unfold ac;grind
   rw[e];lia
  ·exact λp hp=>E3.mp (bs.subset hp)
 rw[low,up,bT,<-v_,Je,<-yG,ec]
 have key:∀{L:List P2}{x y:P2},2<=L.length->L.head?=some x->L.getLast?=some y->∃t,L=x::t++[y]/\L.dropLast=x::t:=λ{L x y} hl hh hy=>by
  have ln:L≠[]:=λe=>by rw[e]at hl;simp at hl
  have e:L=L.dropLast++[y]:=by
   have h:L.getLast ln=y:=by rw[Hv ln]at hy;exact Fk hy
   rw[<-h];exact (FG ln).symm
  match L,hl,hh,e with
  |a::b::r,_,hh,e=>cases hh;exact⟨(b::r).dropLast,e,rfl⟩
 obtain⟨t,e1,d1⟩:=key Wy.lt (by rw[GB];exact Wy.t0) (by rw[FY];exact Wy.t1)
 obtain⟨v,e2,d2⟩:=key Wy.lb (by rw[GB];exact Wy.b0) (by rw[FY];exact Wy.b1)
 rw[d1,d2,Jn,xQ,pI,e1,e2];rw[show mn::(t++mx::v)++[mn]=(mn::t)++mx::(v++[mn]) by simp,qs]
 rfl
theorem xm:∀l:List P2,chS l=chD crs l
 |[]=>rfl
 |[_]=>rfl
 |b::a::r=>by rw[chS,chD,xm (a::r)]
theorem yn:∀l:List P2,chD (λs=>crs (s.2,s.1)) l=- chS l
 |[]=>rfl
 |[_]=>rfl
 |b::a::r=>by
  have e:crs (b,a)=- crs (a,b):=by unfold crs;grind
  rw[chS,chD,yn (a::r),e,Int.neg_add]
theorem uY{pts:List P2}(h2:2<=(ST.srt pts).length):area (am pts)=chS (av (-1) (ST.srt pts)).1-chS (av 1 (ST.srt pts)).1:=by
 have h:=y8 (g:=crs) (λa m b _ _ h=>by unfold ac at h;unfold crs;grind) (λa m b _ _ h=>by unfold ac at h;unfold crs;grind) h2
 rw[yn,<-xm]at h;unfold area;rw[h];lia
structure TOk(s:Int)(row:List P2)(t:Tri):Prop where
 ma:t.1∈row
 mb:t.2.1∈row
 mP:t.2.2∈row
 ab:plt t.1 t.2.1
 bP:plt t.2.1 t.2.2
 d:0<s*jQ t
 cov:∀q∈row,plt q t.2.2->s*ac t.1 t.2.1 q<=0/\(s*ac t.1 t.2.1 q=0->plt t.1 q->plt q t.2.1->False)
theorem A9{s:Int}(hs:s=1\/s=-1){done:List P2}{P:P2}(hP:∀q∈done,plt q P):∀st:List P2,DW s done st P->∀t∈cA s P st,TOk s (done++[P]) t
 |[],_,t,h=>by cases h
 |[_],_,t,h=>by cases h
 |b::a::r,D,t,h=>by
  rw[cA]at h;split at h
  ·rename_i k
   rcases EH.mp h with e |e
   ·subst e;have ma:=D.sub a (by simp)
    have mb:=D.sub b (by simp)
    refine⟨E8 _ ma,E8 _ mb,by simp,D.desc.1,hP b mb,k,λq hq Qx=>?_⟩
    rcases EX.mp hq with y |y
    ·exact D.cov.1 q y
    ·rw[EJ.mp y]at Qx;have hlt':plt P P:=Qx;unfold plt at hlt';lia
   ·exact A9 hs hP (a::r) (nP hs hP D k) t e
  ·cases h
theorem ww{s:Int}{row:List P2}{P:P2}(hP:∀q∈row,plt q P){t:Tri}(h:TOk s row t):TOk s (row++[P]) t:=by
 refine⟨E8 _ h.ma,E8 _ h.mb,E8 _ h.mP,h.ab,h.bP,h.d,λq hq Qx=>?_⟩
 rcases EX.mp hq with y |y
 ·exact h.cov q y Qx
 ·rw[EJ.mp y]at Qx;have:=hP _ h.mP;unfold plt at *;lia
theorem fD{s:Int}(hs:s=1\/s=-1):∀row:List P2,row.Pairwise plt->∀t∈(av s row).2,TOk s row t:=by
 refine cq (λ_ t h=>by cases h) λl P ih hs2 t ht=>?_
 obtain⟨h1,h2⟩:=ci hs2;rw[bX]at ht;rcases EX.mp (show t∈(av s l).2++cA s P (av s l).1 from ht) with k |k
 ·exact ww h2 (ih h1 t k)
 ·by_cases hl:l=[]
  ·subst hl;cases k
  ·refine A9 hs h2 _ ⟨ja hs l h1 hl,λh r e q hq Qx=>?_⟩ t k
   have e2:l=l.dropLast++[l.getLast hl]:=(FG hl).symm;have hd:=nQ s l.dropLast (l.getLast hl);rw[<-e2,e]at hd;have eh:h=l.getLast hl:=by simpa using hd
   rw[eh]at Qx;rw[e2]at h1 hq
   exfalso
   rcases EX.mp hq with k |k
   ·have:=(ci h1).2 q k;unfold plt at *;lia
   ·rw[EJ.mp k]at Qx;unfold plt at Qx;lia
theorem mF{s:Int}(hs:s=1\/s=-1){row:List P2}{t:Tri}(h:TOk s row t){p:P2}(hp:p∈row)(h1:0<=s*ac t.1 t.2.1 p)(h2:0<=s*ac t.2.1 t.2.2 p)(h3:0<=s*ac t.2.2 t.1 p):p=t.1\/p=t.2.1\/p=t.2.2:=by
 obtain⟨a,b,P⟩:=t;have ab:=h.ab;have bP:=h.bP;have d:=h.d;have cv:=h.cov p hp;dsimp only at *;unfold jQ at d;dsimp only at d;have sum:s*ac a b p+s*ac b P p+s*ac P a p=s*ac a b P:=by unfold ac;grind
 have x1:s*ac a b P*(P.1-p.1)=s*ac b P p*(P.1-a.1)+s*ac P a p*(P.1-b.1):=by unfold ac;grind
 have x2:s*ac a b P*(P.2-p.2)=s*ac b P p*(P.2-a.2)+s*ac P a p*(P.2-b.2):=by unfold ac;grind
 have y1:s*ac a b P*(p.1-a.1)=s*ac P a p*(b.1-a.1)+s*ac a b p*(P.1-a.1):=by unfold ac;grind
 have y2:s*ac a b P*(p.2-a.2)=s*ac P a p*(b.2-a.2)+s*ac a b p*(P.2-a.2):=by unfold ac;grind
 have z1:s*ac a b P*(b.1-p.1)=s*ac b P p*(b.1-a.1)-s*ac a b p*(P.1-b.1):=by unfold ac;grind
 have z2:s*ac a b P*(b.2-p.2)=s*ac b P p*(b.2-a.2)-s*ac a b p*(P.2-b.2):=by unfold ac;grind
 generalize s*ac a b P=D at *;generalize s*ac b P p=α at *;generalize s*ac P a p=β at *;generalize s*ac a b p=γ at *;have aP:=aN ab bP
 have zero:∀{x:Int},D*x=0->x=0:=λ{x} e=>by
  rcases Ft.mp e with k |k
  ·lia
  ·exact k
 have neg:∀{x:Int},0<=D*x->0<=x:=λ{x} e=>by
  rcases F6 x 0 with k |k
  ·have:=Int.mul_neg_of_pos_of_neg d k;lia
  ·exact k
 have Ua:∀{x:Int},0<D*x->0<x:=λ{x} e=>by
  rcases F6 0 x with k |k
  ·exact k
  ·have:=Gw (show 0<=D by lia) k
   lia
 have lex:∀{u1 u2 v1 v2:Int},bF u1 u2->bF v1 v2->∀{m n:Int},0<=m->0<=n->(m*u1+n*v1=0/\m*u2+n*v2=0/\m=0/\n=0)\/bF (m*u1+n*v1) (m*u2+n*v2):=λ{u1 u2 v1 v2} hu hv {m n} hm hn=>by
  by_cases m0:m=0
  ·by_cases n0:n=0
   ·subst m0;subst n0;left;simp
   ·subst m0
    right
    unfold bF at *;rcases hv with k |⟨k1,k2⟩
    ·left;have:=Fx (show 0<n by lia) k;lia
    ·right;rw[k1];have:=Fx (show 0<n by lia) k2;exact⟨by lia,by lia⟩
  ·right
   unfold bF at *;have mp:0<m:=by lia
   rcases hu with k |⟨k1,k2⟩
   ·left
    have:=Fx mp k;have:0<=n*v1:=E_ hn (by lia)
    lia
   ·rcases hv with j |⟨j1,j2⟩
    ·by_cases n0:n=0
     ·subst n0;right;rw[k1];have:=Fx mp k2;exact⟨by lia,by lia⟩
     ·left;rw[k1];have:=Fx (show 0<n by lia) j;lia
    ·right
     rw[k1,j1];have:=Fx mp k2;have:0<=n*v2:=E_ hn (by lia)
     exact⟨by lia,by lia⟩
 by_cases hpP:p=P
 ·exact .inr (.inr hpP)
 have ltP:plt p P:=by
  rcases lex (ay aP) (ay bP) h2 h3 with ⟨e1,e2,_⟩ |k
  ·rw[<-x1]at e1;rw[<-x2]at e2;have e1:=zero e1;have e2:=zero e2;exact absurd (GD (by lia) (by lia)) hpP
  ·rw[<-x1,<-x2]at k;unfold bF at k;unfold plt;rcases k with k |⟨k1,k2⟩
   ·have:=Ua k;lia
   ·have:=zero k1;have:=Ua k2;lia
 obtain⟨g1,g2⟩:=cv ltP;have g0:γ=0:=by lia
 rw[g0]at y1 y2 z1 z2;simp only[GH,P4,Mu]at y1 y2 z1 z2;by_cases b0:β=0
 ·rw[b0,GH]at y1 y2;have e1:=zero y1;have e2:=zero y2;exact .inl (GD (by lia) (by lia))
 by_cases a0:α=0
 ·rw[a0,GH]at z1 z2;have e1:=zero z1;have e2:=zero z2;exact .inr (.inl (GD (by lia) (by lia)))
 have l:=ay ab
 have mid:∀{m x1 x2:Int},0<m->D*x1=m*(b.1-a.1)->D*x2=m*(b.2-a.2)->bF x1 x2:=λ{m x1 x2} hm e1 e2=>by
  unfold bF at l |-;rcases l with k |⟨k1,k2⟩
  ·left;apply Ua;rw[e1];exact Fx hm k
  ·right
   rw[k1,HE]at e1;exact⟨zero e1,Ua (by rw[e2];exact Fx hm k2)⟩
 have m1:=mid (show 0<β by lia) y1 y2
 have m2:=mid (show 0<α by lia) z1 z2
 refine (g2 g0 ?_ ?_).elim
 ·unfold bF at m1;unfold plt;lia
 ·unfold bF at m2;unfold plt;lia
theorem tM {s:Int} (hs:s=1∨s=-1) {row:List P2} (hr:row.Pairwise plt) (conv:∀a b c p:P2,a∈row→b∈row→c∈row→0<ac a b c→0≤ac a b p→0≤ac b c p→0≤ac c a p→p∈row):∀t∈(av s row).2,jQ t=s:=λt ht=>by
 have K:=fD hs row hr t ht;have d:=K.d;rcases hs with e |e <;>subst e
 ·have d1:0<ac t.1 t.2.1 t.2.2:=by unfold jQ at d;lia
  refine tE d1 λp h1 h2 h3=>?_
  exact mF (.inl rfl) K (conv _ _ _ p K.ma K.mb K.mP d1 h1 h2 h3) (by lia) (by lia) (by lia)
 ·have e1:ac t.2.1 t.1 t.2.2=- jQ t:=by unfold jQ ac;grind
  have d1:0<ac t.2.1 t.1 t.2.2:=by rw[e1];lia
  have:=tE d1 λp h1 h2 h3=>by
   have mp:=conv _ _ _ p K.mb K.ma K.mP d1 h1 h2 h3
   have f1:ac t.1 t.2.1 p=- ac t.2.1 t.1 p:=by unfold ac;grind
   have f2:ac t.2.1 t.2.2 p=- ac t.2.2 t.2.1 p:=by unfold ac;grind
   have f3:ac t.2.2 t.1 p=- ac t.1 t.2.2 p:=by unfold ac;grind
   rcases mF (.inr rfl) K mp (by rw[f1];lia) (by rw[f2];lia) (by rw[f3];lia) with k |k |k
   ·exact .inr (.inl k)
   ·exact .inl k
   ·exact .inr (.inr k)
  rw[e1]at this;lia
theorem iF{c:Int}:∀{l:List Tri},(∀t∈l,jQ t=c)->(l.map jQ).sum=c*(l.length:Int)
 |[],_=>by simp
 |t::l,h=>by
  rw[Fh,Kn,h t EF,iF λx hx=>h x (EB _ hx),E9]
  grind
theorem vW {pts:List P2} (h2:2≤(ST.srt pts).length) (conv:∀a b c p:P2,a∈ST.srt pts→b∈ST.srt pts→c∈ST.srt pts→0<ac a b c→0≤ac a b p→0≤ac b c p→0≤ac c a p→p∈ST.srt pts):
  (((av 1 (ST.srt pts)).2.length+(av (-1) (ST.srt pts)).2.length:Nat):Int)=area (am pts):=by
 have asc:(ST.srt pts).Pairwise plt:=(ST.srt_asc pts).imp λ{a b} h=>by
  unfold ST.ltP at h;unfold plt;simpa using h
 have a:=uY h2;have c1:=r_ 1 (ST.srt pts);have c2:=r_ (-1) (ST.srt pts)
 rw[iF (tM (.inl rfl) asc conv)]at c1
 rw[iF (tM (.inr rfl) asc conv)]at c2
 lia
theorem nX(s:Int)(P:P2):∀st:List P2,(cA s P st).map (λt=>t.2.1)++bV s P st=st
 |[]=>rfl
 |[_]=>rfl
 |b::a::r=>by
  by_cases h:0<s*ac a b P
  ·rw[bV,cA,if_pos h,if_pos h,Fh,Jn,nX s P (a::r)]
  ·rw[bV,cA,if_neg h,if_neg h];rfl
theorem nW(s:Int):∀row:List P2,Hz ((av s row).2.map (λt=>t.2.1)++(av s row).1) row:=by
 refine cq (K3 _) λl P ih=>?_
 rw[bX];show Hz (((av s l).2++cA s P (av s l).1).map (λt=>t.2.1)++(P::bV s P (av s l).1)) (l++[P])
 have e:=nX s P (av s l).1;rw[Fi,Gp]
 have k:Hz ((cA s P (av s l).1).map (λt=>t.2.1)++(P::bV s P (av s l).1)) ((av s l).1++[P]):=by
  refine Jl.trans ?_;rw[e];exact (Kz P _).symm
 refine (J8 _ k).trans ?_;rw[<-Gp];exact ih.append_right [P]
theorem wc(s:Int){row:List P2}(h:row.Nodup):((av s row).2.map (λt=>t.2.1)).Nodup:=by
 have:=(nW s row).nodup_iff.mpr h;exact (F1.mp this).1
theorem AZ{row:List P2}(hr:row.Pairwise plt)(hn:row.Nodup):((av 1 row).2++(av (-1) row).2).Nodup:=by
 refine F1.mpr ⟨?_,?_,λt h1 u h2 e=>?_⟩
 ·exact (FU.mp (wc 1 hn)).imp λ{a b} k e=>k (by rw[e])
 ·exact (FU.mp (wc (-1) hn)).imp λ{a b} k e=>k (by rw[e])
 ·subst e;have d1:=(fD (.inl rfl) row hr t h1).d;have d2:=(fD (.inr rfl) row hr t h2).d;lia
theorem xY(s n:Int)(hs:s=1\/s=-1):decide (sgn n=s)=decide (0<s*n):=by
 refine decide_eq_decide.mpr ?_;unfold sgn;rcases hs with rfl |rfl <;>(repeat' split) <;>lia
def d9(t:Tri):ST3.TR:=if 0<ac t.1 t.2.1 t.2.2 then (t.1,t.2.1,t.2.2) else (t.1,t.2.2,t.2.1)
theorem yK{a b c:P2}(h1:plt a b)(h2:plt b c)(h:ac a b c≠0):am [a,b,c]=[(d9 (a,b,c)).1,(d9 (a,b,c)).2.1,(d9 (a,b,c)).2.2]:=by
 have h13:=aN h1 h2
 have hs:ST.srt [a,b,c]=[a,b,c]:=ST.asc_srt (by
  refine .cons (λx hx=>?_) (.cons (λx hx=>?_) (.cons (λx hx=>by simp at hx) .nil))
  ·simp at hx;rcases hx with rfl |rfl
   ·exact (cE _ _).mp h1
   ·exact (cE _ _).mp h13
  ·simp at hx;rw[hx];exact (cE _ _).mp h2)
 have hd:ac c b a=-ac a b c:=by unfold ac;grind
 unfold am;rw[hs];unfold d9;by_cases k:0<ac a b c
 ·simp[ai,aM,hd,k,show ¬ ac a b c<=0 by lia,show -ac a b c<=0 by lia]
 ·simp[ai,aM,hd,k,show ac a b c<=0 by lia,show ¬ -ac a b c<=0 by lia]
theorem dR(s:Int)(row:List P2):(av s row).2.length+(av s row).1.length=row.length:=by
 have:=(nW s row).length_eq;rw[EY,Ex]at this;exact this
theorem AV(s:Int)(row:List P2):∀q∈(av s row).1,q∈row:=λq hq=>(nW s row).mem_iff.mp (EW _ hq)
def xN:List U->Out->Prop:=λus o=>∃(row:List P2) (s:Int),us=[lp row,.int s]/\(s=1\/s=-1)/\row.Pairwise plt/\(∀p∈row,Szp 2500 p)/\row.length<=200/\o=.new ((av s row).2.map λt=>trU (d9 t))
theorem jP(T:Txt w K mg):aZ P w K mg base (CXF P w) 5 T.aas.a T.aas.d ["row","hand"] (spU K (xN)):=by
 refine a9 T.aas.F fq (λus o h=>?_) (λQA A outer s H E O us o hr h=>?_)
 ·obtain⟨row,s,rfl,hs,hr',sz,hl,rfl⟩:=h;rfl
 obtain⟨row,s,rfl,hs,hr',sz,hl,rfl⟩:=h;refine Ws.nox ?_;refine af (gI (i:=2) fq.nd rfl (Or.inl rfl) (b9 bi) ?_);refine af (gI (i:=3) fq.nd rfl (Or.inl rfl) (b9 bi) ?_);refine af (dN (λz:List P2×List Tri=>[some (.val (lp row)),some (.val (.int s)),some (.own (z.1.reverse.map pu)),some (.own (z.2.map λt=>trU (d9 t))),none]) (λi z=>z=av s (row.take i)) rfl PassesOwn.never (cF (aa 0 rfl) (.inl rfl)) ?h0 ?hs ?hd)
 case h0=>exact⟨([],[]),rfl,rfl,rfl,rfl,rfl,trivial⟩
 case hs=>
  rintro H0 i x _ hx rfl;obtain⟨P,hP,mP,rfl⟩:=kn hx;have hi:i<row.length:=aw hP;have sP:=sz P mP;refine⟨_,(d8 (i:=4) fq.nd rfl (Or.inl rfl)),?_⟩;have tk:row.take (i+1)=row.take i++[P]:=by rw[GJ,hP];rfl
  have hp:(row.take i++[P]).Pairwise plt:=by rw[<-tk];exact hr'.sublist (NA _ _)
  obtain⟨hp1,hp2⟩:=ci hp;have lz:=dR s (row.take i);rw[Hw]at lz
  have sub:∀q∈(av s (row.take i)).1,q∈row/\plt q P:=λq hq=>by
   have:=AV s _ q hq;exact⟨Ii this,hp2 q this⟩
  have hdesc:eK (av s (row.take i)).1:=by
   by_cases h0:row.take i=[]
   ·rw[h0];exact trivial
   ·exact (ja hs _ hp1 h0).desc
  have suc:av s (row.take (i+1))=wst s (av s (row.take i)) P:=by rw[tk,bX]
  generalize av s (row.take i)=z at *;refine gW (λps=>SubP [some (.val (lp row)),some (.val (.int s)),some (.own ((bV s P z.1).reverse.map pu)),some (.own ((z.2++cA s P z.1).map λt=>trU (d9 t))),some (.val (pu P))] ps) (ix (λy:List P2×List Tri=>[some (.val (lp row)),some (.val (.int s)),some (.own (y.1.reverse.map pu)),some (.own (y.2.map λt=>trU (d9 t))),some (.val (pu P))]) (λn y=>n=y.1.length/\bV s P y.1=bV s P z.1/\y.2++cA s P y.1=z.2++cA s P z.1/\(∀q∈y.1,q∈row/\plt q P)/\eK y.1/\y.2.length+y.1.length<=i) PassesOwn.never ?h0 ?hs) ?hj
  case h0=>exact⟨_,z,⟨rfl,rfl,rfl,sub,hdesc,by lia⟩,rfl,rfl,rfl,rfl,rfl,trivial⟩
  case hs=>
   rintro m ⟨y1,y2⟩ ⟨rfl,e1,e2,sb,ds,le⟩;dsimp only at e1 e2 sb ds le |-
   match y1,e1,e2,sb,ds,le with
   |[],e1,e2,sb,ds,le=>
    refine⟨false,?_,λh=>(nomatch h),λh ps QM=>?_⟩
    ·exact (Tw.t (iO (aK gD (eY 2 rfl rfl T.aag) ag) rfl))
    ·rw[<-e1,<-e2];simpa [bV,cA] using QM
   |[b],e1,e2,sb,ds,le=>
    refine⟨false,?_,λh=>(nomatch h),λh ps QM=>?_⟩
    ·exact (Tw.t (iO (aK gD (eY 2 rfl rfl T.aag) ag) rfl))
    ·rw[<-e1,<-e2];simpa [bV,cA] using QM
   |b::a::r,e1,e2,sb,ds,le=>
    have sa:=sz a (sb a (by simp)).1
    have sbb:=sz b (sb b (by simp)).1
    have pbP:=(sb b (by simp)).2
    have pab:plt a b:=ds.1;have l1:decide ((1:Int)<((((b::a::r).reverse.map pu).length:Nat):Int))=true:=decide_eq_true (by simp;lia)
    have up:∀{p:P2},Szp 2500 p->Szp 5000 p:=λh=>⟨h.1.mono (by decide),h.2.mono (by decide)⟩
    refine⟨decide ((1:Int)<((((b::a::r).reverse.map pu).length:Nat):Int)) && decide (sgn (ac a b P)=s),?_,λh=>?_,λh ps QM=>?_⟩
    ·exact (Tw.t (pH (aK gD (eY 2 rfl rfl T.aag) ag) (λhz=>(nU (aK cY (aB ((t4 T).mono (by decide)) hr rfl T.aaP.m T.aaP.F.kp T.aaP.b aA (ae (i7 2 rfl (cu ag) (si b a r)) (ae (i7 2 rfl (cu ag) (uv b (a::r))) (ae (aa 4 rfl) ak ah) bh) bh) ⟨a,b,P,rfl,up sa,up sbb,up sP,rfl⟩) (aa 1 rfl))))))
    ·rw[l1,Iy,xY s _ hs]at h;have hd:=dTb h;have hd0:ac a b P≠0:=λz=>by rw[z]at hd;simp at hd
     have ct:=yK pab pbP hd0
     refine af (fh 3 rfl (tS (zE (.inl rfl)) rfl T.aaS MH (ae (EvN.ev (b_ ((kI T).mono (by decide)) hr rfl T.aax.m T.aax.F.kp T.aax.b aA (ae (EvN.ev (b9 (ax (i7 2 rfl (cu ag) (si b a r)) (ax (i7 2 rfl (cu ag) (uv b (a::r))) (ax (aa 4 rfl) bi ah) bh) bh))) ak BB) ⟨[a,b,P],rfl,λp hp=>by
      simp only[EH,Jo,or_false]at hp;rcases hp with rfl |rfl |rfl
      ·exact up sa
      ·exact up sbb
      ·exact up sP,by simp,by simp,by rw[ct]⟩)) ak aQ)) (by rw[Ex];exact aG (by simp at le;lia)) ?_)
     refine af (y_ 2 rfl (by simp) (aH ?_))
     refine⟨_,(a::r,y2++[(a,b,P)]),?_,⟨rfl,?_,?_,λq hq=>sb q (EB _ hq),ds.2,?_⟩,rfl,rfl,?_,?_,rfl,trivial⟩
     ·simp
     ·rw[←e1];conv=>rhs;unfold bV
      rw[if_pos hd]
     ·rw[←e2];conv=>rhs;unfold cA
      rw[if_pos hd];simp
     ·simp at le |-;lia
     ·exact congrArg (λl=>some (Sl.own l)) (by simp)
     ·exact congrArg (λl=>some (Sl.own l)) (by simp)
    ·rw[l1,Iy,xY s _ hs]at h;have hd:=dFb h
     have k1:bV s P (b::a::r)=b::a::r:=by conv=>lhs;unfold bV
                                          rw[if_neg hd]
     have k2:cA s P (b::a::r)=[]:=by conv=>lhs;unfold cA
                                     rw[if_neg hd]
     rw[<-e1,<-e2,k1,k2,Hn];exact QM
  case hj=>
   intro ps QM;refine c8 ?_ QM
   have kl:(bV s P z.1).length<=z.1.length:=by
    have:∀st:List P2,(bV s P st).length<=st.length:=λst=>by
     have:=congrArg Qd (nX s P st);rw[EY]at this;lia
    exact this _
   refine af (fh 2 rfl (aa 4 rfl) (by rw[Ex,FD];exact aG (by lia)) (aH ?_))
   refine⟨_,rfl,rfl,rfl,?_,?_,trivial⟩
   ·exact congrArg (λl=>some (Sl.own l)) (by rw[suc];simp[wst])
   ·exact congrArg (λl=>some (Sl.own l)) (by rw[suc];rfl)
 case hd=>
  rintro q ps hq QM;refine c8 ?_ QM;rw[Ex]at hq;subst hq;rw[Gd];refine af (qX 3 rfl ?_);exact rfl
theorem yQ{n:Nat}{x a b:Int}(ha:Sz n a)(hb:Sz n b)(h1:a<=x)(h2:x<=b):Sz n x:=by
 rcases F6 x 0 with z |z
 ·exact ha.natle (by lia)
 ·exact hb.natle (by lia)
theorem zo{l:List P2}(Qv:l≠[])(h:∀p∈l,Szp 150 p):loX l<=hiX l/\loY l<=hiY l/\Sz 150 (loX l)/\Sz 150 (hiX l)/\Sz 150 (loY l)/\Sz 150 (hiY l):=by
 have hx:l.map (·.1)≠[]:=by simpa using Qv
 have hy:l.map (·.2)≠[]:=by simpa using Qv
 obtain⟨q1,m1,e1⟩:=ED.mp (cJ hx).1;obtain⟨q2,m2,e2⟩:=ED.mp (de hx).1;obtain⟨q3,m3,e3⟩:=ED.mp (cJ hy).1;obtain⟨q4,m4,e4⟩:=ED.mp (de hy).1;have l1:=(cJ hx).2 _ (de hx).1;have l2:=(cJ hy).2 _ (de hy).1;refine⟨l1,l2,?_,?_,?_,?_⟩
 ·unfold loX;rw[<-e1];exact (h q1 m1).1
 ·unfold hiX;rw[<-e2];exact (h q2 m2).1
 ·unfold loY;rw[<-e3];exact (h q3 m3).2
 ·unfold hiY;rw[<-e4];exact (h q4 m4).2
theorem vV{Z P B q:P2}(hD:0<ac Z P B)(h1:ac Z P q=0)(h2:ac P B q=0):q=P:=by
 have f1:ac Z P B*(q.1-P.1)=0:=by
  have:ac Z P B*(q.1-P.1)=(B.1-P.1) *ac Z P q-(P.1-Z.1) *ac P B q:=by unfold ac;grind
  rw[this,h1,h2];simp
 have f2:ac Z P B*(q.2-P.2)=0:=by
  have:ac Z P B*(q.2-P.2)=(B.2-P.2) *ac Z P q-(P.2-Z.2) *ac P B q:=by unfold ac;grind
  rw[this,h1,h2];simp
 have g1:=(Ft.mp f1).resolve_left (by lia)
 have g2:=(Ft.mp f2).resolve_left (by lia)
 exact GD (by lia) (by lia)
theorem CC{l:List P2}(h3:3<=(am l).length){p q:P2}{a b:Int}(hp:p∈am l)(hw:∀r∈am l,r≠p->wth a b r<wth a b p)(hq:∀s∈sdl (am l),0<=ac s.1 s.2 q)(ne:q≠p):wth a b q<wth a b p:=by
 obtain⟨Z,P,B,hZ,hB,pos,e,k1,k2⟩:=uj h3 a b;have mZ:=c7 hZ;have mB:=c7 hB;dsimp only at mZ mB
 have hP:P=p:=FI λz=>by
  have w1:=hw P mZ.2 z;obtain⟨_,kk⟩:=jx a b (l:=am l) (λz=>by rw[z]at h3;simp at h3)
  have:=kk p hp;lia
 subst hP
 have nZ:Z≠P:=fun z=>by subst z;have:ac Z Z B=0:=by unfold ac;grind
                        lia
 have nB:B≠P:=fun z=>by subst z;have:ac Z B B=0:=by unfold ac;grind
                        lia
 have wZ:=hw Z mZ.1 nZ;have wB:=hw B mB.2 nB;have i1:=hq _ hB;have i2:=hq _ hZ;dsimp only at i1 i2;have id:ac Z P B*(wth a b P-wth a b q)=ac P B q*(wth a b P-wth a b Z)+ac Z P q*(wth a b P-wth a b B):=by unfold ac wth;grind
 rcases F6 (wth a b q) (wth a b P) with z |z
 ·exact z
 ·exfalso
  have t1:0<=ac P B q*(wth a b P-wth a b Z):=E_ i1 (by lia)
  have t2:0<=ac Z P q*(wth a b P-wth a b B):=E_ i2 (by lia)
  have t3:ac Z P B*(wth a b P-wth a b q)<=0:=by
   have:=E_ (show 0<=ac Z P B by lia) (show 0<=wth a b q-wth a b P by lia)
   have e2:ac Z P B*(wth a b q-wth a b P)=-(ac Z P B*(wth a b P-wth a b q)):=by grind
   lia
  have z1:ac P B q*(wth a b P-wth a b Z)=0:=by omega
  have z2:ac Z P q*(wth a b P-wth a b B)=0:=by omega
  have d1:=(Ft.mp z1).resolve_right (by lia)
  have d2:=(Ft.mp z2).resolve_right (by lia)
  exact ne (vV pos d2 d1)
theorem uE{A B:List P2}(h:∀p,p∈A↔p∈B):am A=am B:=by
 have:ST.srt A=ST.srt B:=ST.asc_one (ST.srt_asc _) (ST.srt_asc _) λz=>by rw[ST.srt_mem,ST.srt_mem,h]
 unfold am;rw[this]
theorem mE{l:List P2}(F:Fld l)(h3:3<=l.length):am (aC l)=l:=by
 have hc:=F.cr;have R7:3<=(am l).length:=by rw[hc];exact h3
 have inl:∀q,q∈aC l↔∀s∈sdl (am l),0<=ac s.1 s.2 q:=λq=>by rw[dt F,fP h3,hc]
 have sub:∀p∈l,p∈aC l:=λp hp=>(inl p).mpr λs hs=>((gU R7).mp hs).2.2.2 p (by rw[hc];exact hp)
 have up:∀p∈l,p∈am (aC l):=λp hp=>by
  obtain⟨_,a,b,hw⟩:=cS R7 (p:=p) (by rw[hc];exact hp)
  refine eT ⟨sub p hp,a,b,λq hq ne=>?_⟩
  exact CC R7 (by rw[hc];exact hp) (λr hr=>hw r (bj _ r hr)) ((inl q).mp hq) ne
 have c3:3<=(am (aC l)).length:=by
  have nd:l.Nodup:=by rw[<-hc];exact cf l
  exact Gg h3 (L2.nd_len nd up)
 have dn:∀p∈am (aC l),p∈l:=λp hp=>FI λz=>by
  obtain⟨hm,a,b,hw⟩:=cS c3 hp;have pk:=BE R7 a b ((inl p).mp hm);obtain⟨⟨q,hq,e⟩,_⟩:=jx a b (l:=am l) (λz=>by rw[z]at R7;simp at R7)
  rw[hc]at hq;have:=hw q (sub q hq) λe=>z (e ▸ hq)
  lia
 rw[<-gy (aC l),uE λp=>⟨dn p,up p⟩,hc]
theorem vq{l:List P2}(F:Fld l)(h3:3<=l.length):∀a b c p:P2,a∈aC l->b∈aC l->c∈aC l->0<ac a b c->0<=ac a b p->0<=ac b c p->0<=ac c a p->p∈aC l:=λa b c p ha hb hc hd h1 h2 h4=>by
 have inl:∀q,q∈aC l↔∀s∈sdl l,0<=ac s.1 s.2 q:=λq=>by rw[dt F,fP h3]
 rw[inl]at *;intro s hs;have a1:=ha s hs;have b1:=hb s hs;have c1:=hc s hs;have id:ac a b c*ac s.1 s.2 p=ac s.1 s.2 a*ac b c p+ac s.1 s.2 b*ac c a p+ac s.1 s.2 c*ac a b p:=by unfold ac;grind
 have t1:=E_ a1 h2;have t2:=E_ b1 h4;have t3:=E_ c1 h1;rcases F6 (ac s.1 s.2 p) 0 with z |z
 ·exfalso
  have:=Fx hd (show 0 < -ac s.1 s.2 p by lia)
  have e:ac a b c* -ac s.1 s.2 p=-(ac a b c*ac s.1 s.2 p):=by grind
  lia
 ·exact z
theorem cH(l:List P2):(aC l).Pairwise plt:=(ST.srt_asc _).imp λ{a b} h=>(cE a b).mpr h
def cU(l:List P2):List Tri:=(av 1 (aC l)).2++(av (-1) (aC l)).2
def pcs(l:List P2):List ST3.TR:=(cU l).map d9
theorem xI(l:List P2):(pcs l).Nodup:=by
 have hp:=cH l;have nd:(aC l).Nodup:=hp.imp λ{a b} h e=>by subst e;exact aY a h
 unfold pcs;refine FU.mpr ((AZ hp nd).imp_of_mem λ{x y} hx hy ne e=>ne ?_)
 have key:∀t,t∈cU l->plt t.1 t.2.1/\plt t.2.1 t.2.2:=λt ht=>by
  rcases EX.mp ht with h |h
  ·have:=fD (.inl rfl) _ hp t h;exact⟨this.ab,this.bP⟩
  ·have:=fD (.inr rfl) _ hp t h;exact⟨this.ab,this.bP⟩
 obtain⟨x1,x2⟩:=key x hx;obtain⟨y1,y2⟩:=key y hy;obtain⟨a,b,c⟩:=x;obtain⟨a',b',c'⟩:=y;unfold d9 at e;dsimp only at *;split at e <;>split at e <;>simp only[Nq]at e
 ·obtain⟨rfl,rfl,rfl⟩:=e;rfl
 ·obtain⟨rfl,rfl,rfl⟩:=e;exact absurd (aN x2 y2) (aY _)
 ·obtain⟨rfl,rfl,rfl⟩:=e;exact absurd (aN x2 y2) (aY _)
 ·obtain⟨rfl,rfl,rfl⟩:=e;rfl
theorem mL(l:List P2):(cU l).length<=2*(aC l).length:=by
 unfold cU;have h1:=dR 1 (aC l);have h2:=dR (-1) (aC l);rw[EY];lia
def cP:List P2->List (List P2)
 |a::b::r=>[a,b]::cP (b::r)
 |_=>[]
def bI(l:List P2):List (List P2):=if l.length=1 then [[gp l 0]] else if l.length=2 then cP (aC l) else (SG.srt ST3.KT (pcs l)).map λt=>[t.1,t.2.1,t.2.2]
abbrev plU(q:List P2):U:=.tup (q.map pu)
theorem mG:∀r:List P2,KO (λa b=>U.tup [a,b]) (r.map pu) ((r.map pu).drop 1)=(cP r).map plU
 |[]=>rfl
 |[_]=>rfl
 |a::b::r=>by
  have ih:=mG (b::r);simp only[Fh,List.drop_succ_cons,List.drop_zero,List.zipWith_cons_cons,cP]at ih |-;rw[ih];rfl
theorem jO{A:P2}(F:Fld [A]):aC [A]=[A]:=by
 rw[<-jt (R:=[A]) F λp=>by rw[iJ];simp]
 exact cN (pts:=[A]) (by have:=ST.srt_len [A];simp at this;lia) ▸ F.cr
structure C6(l:List P2):Prop where
 F:Fld l
 l64:l.length<64
 sz:∀p∈l,Szp 150 p
 cnt:iq l<=100
 np:(aC l).length<=60
 few:3<=l.length->(pcs l).length<64
def wt:List U->Out->Prop:=λus o=>∃l:List P2,us=[lp l]/\C6 l/\o=.new ((bI l).map plU)
theorem uC(T:Txt w K mg):aZ P w K mg base (CXF P w) 9 T.aaL.a T.aaL.d ["land"] (spU K (wt)):=by
 refine a9 T.aaL.F mh (λus o h=>?_) (λQA A outer s H E O us o hr h=>?_)
 ·obtain⟨l,rfl,⟨F,hl,sz,hc,fl,few⟩,rfl⟩:=h;rfl
 obtain⟨l,rfl,⟨F,hl,sz,hc,fl,few⟩,rfl⟩:=h;refine Ws.nox ?_;have hm:((l.map pu).length:Int)=(l.length:Int):=by rw[Ex]
 have l0:0<l.length:=FJ.mpr F.ne;refine af (aE (i:=1) mh.nd rfl (Or.inl rfl) (EvN.ev (b_ ((l7 T).mono (by decide)) hr rfl T.aaB.m T.aaB.F.kp T.aaB.b aA (ae (aa 0 rfl) ak ah) ⟨l,rfl,F,hl,sz,⟨hc,fl⟩,rfl⟩)) ?_)
 by_cases h1:l.length=1
 ·obtain⟨A,rfl⟩:=JO.mp h1;rw[jO F];refine af (gG (aK cY (aq (bM rfl) rfl T.aag Fj (ae (aa 0 rfl) ak ah)) ag) rfl ?_);refine af (d6 (b9 (ax (b8 (ax (aF (aa 1 rfl) ag rfl rfl) bi bh)) bi rJ)) ?_);exact rfl
 refine af (ce (aK cY (aq (bM rfl) rfl T.aag Fj (ae (aa 0 rfl) ak ah)) ag) (by rw[hm];exact decide_eq_false (by lia)) (aH ?_))
 by_cases h2:l.length=2
 ·refine af (gG (aK cY (aq (bM rfl) rfl T.aag Fj (ae (aa 0 rfl) ak ah)) ag) (by rw[hm];exact decide_eq_true (by lia)) ?_)
  refine af (d6 (kM rfl rfl T.aaI rfl T.aa6 (aa 1 rfl) (.inl rfl) (EvN.ev (fG (aa 1 rfl) (gf ag) iH (.inl rfl))) (.inl rfl) (by rw[uc,NW];lia) (by rw[Ex];lia) ah bh) ?_)
  rw[uc,mG];unfold bI;rw[if_neg h1,if_pos h2]
 refine af (ce (aK cY (aq (bM rfl) rfl T.aag Fj (ae (aa 0 rfl) ak ah)) ag) (by rw[hm];exact decide_eq_false (by lia)) (aH ?_))
 have rl:=mL l
 have fz:∀p∈aC l,Szp 2500 p:=λp hp=>by
  have q:=(fM F.ne).mp (F.in_box ((dt F p).mp hp));obtain⟨_,_,w1,w2,w3,w4⟩:=zo F.ne sz;exact⟨(yQ w1 w2 q.1.1 q.1.2).mono (by decide),(yQ w3 w4 q.2.1 q.2.2).mono (by decide)⟩
 have hpc:U.lst (((av 1 (aC l)).2.map λt=>trU (d9 t))++((av (-1) (aC l)).2.map λt=>trU (d9 t)))=U.lst ((pcs l).map trU):=by
  unfold pcs cU;rw[Fn,Fi];rfl
 refine af (d6 (tH ST3.KT trU t0 (trs:=pcs l) Eb rfl T.aaM (fL hr) (zB hpc (EvN.ev (l5 (EvN.ev (b_ ((jP T).mono (by decide)) hr rfl T.aas.m T.aas.F.kp T.aas.b aA (ae (aa 1 rfl) (ae ag ak dj) ah) ⟨aC l,1,rfl,.inl rfl,cH l,fz,by lia,rfl⟩)) (EvN.ev (b_ ((jP T).mono (by decide)) hr rfl T.aas.m T.aas.F.kp T.aas.b aA (ae (aa 1 rfl) (ae (cu ag) ak jA) ah) ⟨aC l,-1,rfl,.inr rfl,cH l,fz,by lia,rfl⟩)) (by rw[Ex,Ex];exact F4 (aG (by unfold cU at rl;rw[EY]at rl;lia)))))) ⟨few (by lia),xI l⟩ bK) ?_)
 unfold bI;rw[if_neg h1,if_neg h2,Fn];exact rfl
def rH:List U->Out->Prop:=λus o=>∃(pts:List P2) (k:Int),us=[lp pts,.int k]/\0<=k/\Sz 1000 k/\(∀p∈pts,Szp 1500 p)/\pts≠[]/\pts.length<64/\o=.val (.int (pin (am (pts.map (scl k)))))
theorem kL(T:Txt w K mg):aZ P w K mg base (CXF P w) 7 T.aao.a T.aao.d ["land","k"] (spU K (rH)):=by
 refine xf T.aao.F kE (λus o h=>?_) (λQA A outer s H E O us o hr h=>?_)
 ·obtain⟨pts,k,rfl,k0,sk,sz,Qv,hl,rfl⟩:=h;rfl
 obtain⟨pts,k,rfl,k0,sk,sz,Qv,hl,rfl⟩:=h;refine Ws.nox ?_;have cl:(am (pts.map (scl k))).length<=900:=Gg (iy _) (by rw[Ex];lia)
 refine af (ba (aB ((il T).mono (by decide)) hr rfl T.aai.m T.aai.F.kp T.aai.b aA (ae (EvN.ev (b_ ((i4 T).mono (by decide)) hr rfl T.aan.m T.aan.F.kp T.aan.b aA (ae (aa 0 rfl) (ae (aa 1 rfl) ak ah) ah) ⟨pts,k,rfl,k0,sk,nN (by decide) sz,Qv,hl,rfl⟩)) ak aQ) ⟨_,rfl,cl,rP sk sz,rfl⟩) ?_)
 exact rfl
abbrev tpU(l:List P2):U:=.tup (l.map pu)
def iW(l m:List P2):List (P2×P2):=m.flatMap λP=>(l.filter λQ=>ST.ltP P Q).map λQ=>(P,Q)
def gF(ls:List (List P2)):List (P2×P2):=ls.flatMap λl=>iW l l
def ddp:List (P2×P2)->List (P2×P2)
 |[]=>[]
 |a::l=>if a∈l then ddp l else a::ddp l
theorem jo(z:P2×P2):∀l,z∈ddp l↔z∈l
 |[]=>Iff.rfl
 |a::l=>by
  rw[ddp];have ih:=jo z l;split
  ·rename_i h
   rw[ih,EH];exact⟨.inr,λk=>k.elim (λe=>by rw[e];exact h) id⟩
  ·rw[EH,EH,ih]
theorem m7:∀l,(ddp l).Nodup
 |[]=>K8
 |a::l=>by
  rw[ddp];split
  ·exact m7 l
  ·rename_i h
   exact Gh.mpr ⟨λk=>h ((jo a l).mp k),m7 l⟩
def uO(ls:List (List P2)):Nat:=(ls.filter λl=>l.length=3).length
def og(ls:List (List P2)):U:=.tup [.int ((ST.srt ls.flatten).length:Nat),.int ((ddp (gF ls)).length:Nat),.int (uO ls:Nat)]
theorem ig{ls:List (List P2)}(h:∀l∈ls,l.length<=3):ls.flatten.length<=3*ls.length:=by
 induction ls with
 |nil=>simp
 |cons a ls ih=>
  have h1:=h a EF;have h2:=ih λl hl=>h l (EB _ hl)
  rw[NO,EY,E9];lia
theorem kK(l:List P2):∀m,(iW l m).length<=l.length*m.length
 |[]=>by simp[iW]
 |P::m=>by
  have ih:=kK l m;unfold iW at *;rw[GP,EY,Ex,E9,Nat.mul_succ];have:=Ht (λQ=>ST.ltP P Q) l
  lia
theorem oQ{ls:List (List P2)}(h:∀l∈ls,l.length<=3):(gF ls).length<=9*ls.length:=by
 induction ls with
 |nil=>simp[gF]
 |cons a ls ih=>
  have h1:=h a EF;have h2:=ih λl hl=>h l (EB _ hl)
  unfold gF at *;rw[GP,EY,E9];have h3:=kK a a;have:a.length*a.length<=3*3:=OW h1 h1;lia
theorem uV{ls:List (List P2)}{i:Nat}{l:List P2}(h:ls[i]?=some l):gF (ls.take (i+1))=gF (ls.take i)++iW l l:=by
 unfold gF;rw[GJ,h,GX];simp
theorem l4{ls:List (List P2)}{i:Nat}{l:List P2}(h:ls[i]?=some l):(ls.take (i+1)).flatten=(ls.take i).flatten++l:=by
 rw[GJ,h,M8];simp
theorem vU{l m:List P2}{j:Nat}{P:P2}(h:m[j]?=some P):iW l (m.take (j+1))=iW l (m.take j)++(l.filter λQ=>ST.ltP P Q).map λQ=>(P,Q):=by
 unfold iW;rw[GJ,h,GX];simp
theorem l8{ls:List (List P2)}{i:Nat}{x:U}(h:(ls.map tpU)[i]?=some x):∃l,ls[i]?=some l/\l∈ls/\x=tpU l:=by
 rw[EI]at h;obtain⟨l,hl,rfl⟩:=HK.mp h;exact⟨l,hl,EV hl,rfl⟩
theorem wA(l:List P2)(P:P2):(l.map λQ=>if ST.ltP P Q=true then some (pqU (P,Q)) else none).filterMap id=((l.filter λQ=>ST.ltP P Q).map λQ=>(P,Q)).map pqU:=by
 induction l with
 |nil=>rfl
 |cons Q l ih=>
  rw[Fh];cases h:ST.ltP P Q with
  |true=>
   rw[if_pos rfl,Lu (by rfl),ih,IB (by exact h)]
   rfl
  |false=>
   rw[if_neg (by decide),Lv (by rfl),ih,IC (by rw[h];decide)]
theorem wT(ls:List (List P2)):(ls.map λl=>if l.length=3 then some (tpU l) else none).filterMap id=(ls.filter λl=>l.length=3).map tpU:=by
 induction ls with
 |nil=>rfl
 |cons l ls ih=>
  rw[Fh];by_cases h:l.length=3
  ·rw[if_pos h,Lu (by rfl),ih,IB (by simpa using h)]
   rfl
  ·rw[if_neg h,Lv (by rfl),ih,IC (by simpa using h)]
def qC:List U->Out->Prop:=λus o=>∃ls:List (List P2),us=[.lst (ls.map tpU)]/\ls.length<=60/\(∀l∈ls,l.length<=3)/\o=.val (og ls)
theorem xZ(T:Txt w K mg):aZ P w K mg base (CXF P w) 1 T.aaR.a T.aaR.d ["some"] (spU K (qC)):=by
 refine a9 T.aaR.F dI (λus o h=>?_) (λQA A outer s H E O us o hr h=>?_)
 ·obtain⟨ls,rfl,hl,h3,rfl⟩:=h;rfl
 obtain⟨ls,rfl,hl,h3,rfl⟩:=h;refine Ws.nox ?_;have fl:=ig h3;have pl:=oQ h3;have t3:∀i,∀l∈ls.take i,l.length<=3:=λi l h=>h3 l (Ii h)
 refine af (gI (i:=1) dI.nd rfl (Or.inl rfl) (b9 bi) ?_);refine af (gI (i:=2) dI.nd rfl (Or.inl rfl) (b9 bi) ?_);refine af (dN (λi:Nat=>[some (.val (.lst (ls.map tpU))),some (.own ((ls.take i).flatten.map pu)),some (.own ((gF (ls.take i)).map pqU)),none,none,none,none]) (λi j=>i=j) rfl PassesOwn.never (cF (aa 0 rfl) (.inl rfl)) ?h0 ?hs ?hd)
 case h0=>exact⟨0,rfl,rfl,rfl,rfl,trivial⟩
 case hs=>
  rintro H0 i x _ hx rfl;obtain⟨l,QG,ml,rfl⟩:=l8 hx;have hi:=aw QG;have ll:=h3 l ml;have f1:=ig (t3 i);have p1:=oQ (t3 i);have tl:(ls.take i).length<=60:=by rw[Hw];lia
  refine⟨_,(d8 (i:=3) dI.nd rfl (Or.inl rfl)),?_⟩;refine af (vS 1 rfl (aa 3 rfl) (by rw[Ex,Ex];exact F4 (aG (by lia))) ?_)
  show Ws _ _ _ _ _ _ [some (.val (.lst (ls.map tpU))),some (.own ((ls.take i).flatten.map pu++l.map pu)),some (.own ((gF (ls.take i)).map pqU)),some (.val (tpU l)),none,none,none];refine af (dN (λj:Nat=>[some (.val (.lst (ls.map tpU))),some (.own ((ls.take i).flatten.map pu++l.map pu)),some (.own ((gF (ls.take i)++iW l (l.take j)).map pqU)),some (.val (tpU l)),none,none,none]) (λi j=>i=j) rfl PassesOwn.never (tj (aa 3 rfl)) ?h02 ?hs2 ?hd2)
  case h02=>exact⟨0,rfl,rfl,rfl,congrArg (λz=>some (Sl.own z)) (by simp[iW]),rfl,trivial⟩
  case hs2=>
   rintro H1 j y _ hy rfl;obtain⟨P,hP,mP,rfl⟩:=kn hy;have hj:=aw hP;have p2:=kK l (l.take j);have p3:l.length*(l.take j).length<=3*3:=OW ll (by rw[Hw];lia)
   have p4:=Ht (λQ=>ST.ltP P Q) l
   refine⟨_,(d8 (i:=4) dI.nd rfl (Or.inr rfl)),?_⟩;refine af (pU 2 rfl (EvN.ev (zV (l.map λQ=>if ST.ltP P Q=true then some (pqU (P,Q)) else none) rfl (blk (aj jm) ["some","points","pairs","piece","P","Q","triangles"] [5] rfl rfl rfl rfl (by decide+kernel)) (tj (aa 3 rfl)) (λ_ _ _ _=>bC (i:=5) dI.nd rfl (Or.inl rfl)) (dM (by decide)) ?clen ?csz (λ_ _=>trivial) ?ctest ?celt)) (by rw[wA,Ex,Ex,EY,Ex];exact F4 (aG (by lia))) (aH ?_))
   case clen=>simp
   case csz=>rw[Ex];exact F4 (aG (by lia))
   case ctest=>
    intro C s' H' fp k x o hx ho;obtain⟨Q,hQ,mQ,rfl⟩:=kn hx;rw[EI,hQ]at ho;have e:(if ST.ltP P Q=true then some (pqU (P,Q)) else none)=o:=Fk ho
    rw[<-e,show (if ST.ltP P Q=true then some (pqU (P,Q)) else none).isSome=ST.ltP P Q by cases ST.ltP P Q <;>rfl]
    exact (aK (Do (fL hr)) (aa 4 rfl) (aa 5 rfl))
   case celt=>
    intro C s' H' fp k x y hx hy;obtain⟨Q,hQ,mQ,rfl⟩:=kn hx;rw[EI,hQ]at hy;have e:(if ST.ltP P Q=true then some (pqU (P,Q)) else none)=some y:=Fk hy
    by_cases h:ST.ltP P Q=true
    ·rw[if_pos h]at e;cases e;exact (b8 (ax (aa 4 rfl) (ax (aa 5 rfl) bi ah) ah))
    ·rw[if_neg h]at e;cases e
   refine⟨j+1,rfl,rfl,rfl,?_,rfl,trivial⟩;exact congrArg (λz=>some (Sl.own z)) (by rw[wA,vU hP,<-Gp,Fi,Fi,Fi])
  case hd2=>
   rintro j ps hj QM;rw[Ex]at hj;subst hj;refine aH ?_;refine⟨i+1,rfl,SubP.trans ?_ QM⟩;refine⟨rfl,?_,?_,trivial⟩
   ·exact congrArg (λz=>some (Sl.own z)) (by rw[l4 QG,Fi])
   ·exact congrArg (λz=>some (Sl.own z)) (by rw[uV QG,Gd])
 case hd=>
  rintro i ps hq QM;refine c8 ?_ QM;rw[Ex]at hq;subst hq;rw[Gd];refine iV 1 rfl ?_;refine iV 2 rfl ?_;refine af (rc (ls.map λl=>if l.length=3 then some (tpU l) else none) (j:=6) false rfl dI.nd rfl (Or.inl rfl) (blk (aj jm) ["some","points","pairs","piece","P","Q","triangles"] [3] rfl rfl rfl rfl (by decide+kernel)) (cF (aa 0 rfl) (.inl rfl)) (λ_ _ _ _=>bC (i:=3) dI.nd rfl (Or.inl rfl)) (dM (by decide)) ?clen ?csz (λ_ _=>trivial) ?ctest ?celt ?_)
  case clen=>simp
  case csz=>rw[Ex];exact F4 (aG (by lia))
  case ctest=>
   intro C s' H' fp k x o hx ho;obtain⟨l,QG,ml,rfl⟩:=l8 hx;rw[EI,QG]at ho;have e:(if l.length=3 then some (tpU l) else none)=o:=Fk ho
   rw[<-e,show (if l.length=3 then some (tpU l) else none).isSome=decide (((l.map pu).length:Int)=3) by rw[Ex];by_cases k:l.length=3 <;>simp[k];lia]
   exact (aK cY (aq (bM rfl) rfl T.aag Fj (ae (aa 3 rfl) ak ah)) ag)
  case celt=>
   intro C s' H' fp k x y hx hy;obtain⟨l,QG,ml,rfl⟩:=l8 hx;rw[EI,QG]at hy;have e:(if l.length=3 then some (tpU l) else none)=some y:=Fk hy
   by_cases h:l.length=3
   ·rw[if_pos h]at e;cases e;exact (aa 3 rfl)
   ·rw[if_neg h]at e;cases e
  rw[wT];show Ws _ _ _ _ _ _ [some (.val (.lst (ls.map tpU))),some (.val (lp ls.flatten)),some (.val (.lst ((gF ls).map pqU))),none,none,none,some (.val (.lst ((ls.filter λl=>l.length=3).map tpU)))]
  refine af (ba (b8 (ax (by exact lU rfl (fL hr) rfl T.aag rfl T.aaX (aa 1 rfl) (by lia) ah) (ax (show Ev _ _ _ _ _ (.int ((ddp (gF ls)).length:Nat)) from vR rfl (fL hr) rfl T.aag rfl T.aaX (aa 2 rfl) (by lia) (m7 (gF ls)) (λz=>jo z (gF ls)) ah) (ax (aq (bM rfl) rfl T.aag Fj (ae (aa 6 rfl) ak ah)) bi aQ) aQ) aQ)) ?_)
  show Out.val _=Out.val _;unfold og uO;rw[Ex]
def fR(s:Int)(P:P2):List P2->List (P2×P2)
 |b::a::r=>if 0<s*ac a b P then (b,P)::fR s P (a::r) else [(b,P)]
 |[b]=>[(b,P)]
 |[]=>[]
def ar:List P2->List (P2×P2)
 |b::a::r=>(a,b)::ar (a::r)
 |_=>[]
def evr(s:Int)(row:List P2):List P2×List (P2×P2):=row.foldl (λz P=>(P::bV s P z.1,z.2++fR s P z.1)) ([],[])
def evE(s:Int)(row:List P2):List (P2×P2):=(evr s row).2
theorem Ab(s:Int):∀row:List P2,(evr s row).1=(av s row).1:=cq rfl λl P ih=>by
 rw[bX];unfold evr at *;rw[Im];show P::bV s P _=_;rw[ih];rfl
theorem ii(s:Int)(row:List P2)(P:P2):evE s (row++[P])=evE s row++fR s P (av s row).1:=by
 rw[<-Ab];unfold evE evr;rw[Im];rfl
def kF(t:Tri):List (P2×P2):=[(t.1,t.2.1),(t.2.1,t.2.2)]
def kB(t:Tri):P2×P2:=(t.1,t.2.2)
theorem qo(s:Int)(P:P2):∀(b:P2) (r:List P2),fR s P (b::r)=(b,P)::(cA s P (b::r)).map kB
 |b,[]=>rfl
 |b,a::r=>by
  by_cases h:0<s*ac a b P
  ·rw[fR,cA,if_pos h,if_pos h,qo s P a r];rfl
  ·rw[fR,cA,if_neg h,if_neg h];rfl
theorem qe(s:Int)(P:P2):∀(b:P2) (r:List P2),Hz (ar (b::r)++fR s P (b::r)) ((cA s P (b::r)).flatMap kF++ar (P::bV s P (b::r)))
 |b,[]=>.refl _
 |b,a::r=>by
  by_cases h:0<s*ac a b P
  ·rw[fR,cA,bV,if_pos h,if_pos h,if_pos h];have ih:=qe s P a r;rw[GP];show Hz ((a,b)::(ar (a::r)++(b,P)::fR s P (a::r))) ((a,b)::(b,P)::((cA s P (a::r)).flatMap kF++_));exact .cons _ (Jl.trans (.cons _ ih))
  ·rw[fR,cA,bV,if_neg h,if_neg h,if_neg h];exact Mz
theorem ro(s:Int):∀row:List P2,Hz (evE s row) ((av s row).2.flatMap kF++ar (av s row).1):=cq (.refl _) λl P ih=>by
 rw[ii,bX];by_cases h0:l=[]
 ·subst h0;exact .refl _
 obtain⟨b,r,e,_⟩:=ff s h0;show Hz _ (((av s l).2++cA s P (av s l).1).flatMap kF++ar (P::bV s P (av s l).1));rw[e]at ih |-;rw[GX,Gp];exact (ih.append_right _).trans (by rw[Gp];exact (qe s P b r).append_left _)
theorem j6(l:List P2)(b P:P2):ar ((l++[b])++[P]).reverse=(b,P)::ar (l++[b]).reverse:=by
 rw[Kv,Kv];rfl
theorem fC(s:Int):∀row:List P2,Hz (evE s row) ((av s row).2.map kB++ar row.reverse):=cq (.refl _) λl P ih=>by
 rw[ii,bX];by_cases h0:l=[]
 ·subst h0;exact .refl _
 obtain⟨b,r,e,hb⟩:=ff s h0;obtain⟨l',P',e'⟩:∃l' P',l=l'++[P']:=⟨l.dropLast,l.getLast h0,(FG h0).symm⟩;have:P'=b:=by rw[e']at hb;simpa using hb
 subst this;show Hz _ (((av s l).2++cA s P (av s l).1).map kB++ar (l++[P]).reverse);have es:ar (l++[P]).reverse=(P',P)::ar l.reverse:=by rw[e'];exact j6 l' P' P
 rw[es,e,qo,Fi,Gp];refine (ih.append_right _).trans ?_;rw[Gp];refine J8 _ ?_;refine Mz.trans ?_;rw[Jn];exact Jl.symm
theorem dk:∀l:List P2,(ar l).length=l.length-1
 |[]=>rfl
 |[_]=>rfl
 |b::a::r=>by rw[ar,E9,dk (a::r)];rfl
structure SdO(s:Int)(row:List P2)(e:P2×P2):Prop where
 m1:e.1∈row
 m2:e.2∈row
 lt:plt e.1 e.2
 hand:∀q∈row,plt e.1 q->plt q e.2->s*ac e.1 e.2 q<0
theorem mS{s:Int}(hs:s=1\/s=-1){l:List P2}{P:P2}(hP:∀q∈l,plt q P):∀st:List P2,DW s l st P->∀e∈fR s P st,e.2=P/\SdO s (l++[P]) e
 |[],D,_,h=>absurd rfl D.ne
 |b::r,D,e,h=>by
  have one:e=(b,P)->e.2=P/\SdO s (l++[P]) e:=λz=>by
   subst z;have mb:=D.sub b EF;refine⟨rfl,E8 _ mb,by simp,hP b mb,λq hq h1 h2=>?_⟩
   rcases EX.mp hq with k |k
   ·exact D.pend b r rfl q k h1
   ·rw[EJ.mp k]at h2;exact absurd h2 (cj _)
  cases r with
  |nil=>exact one (by simpa [fR] using h)
  |cons a r=>
   by_cases c:0<s*ac a b P
   ·rw[fR,if_pos c]at h;rcases EH.mp h with z |z
    ·exact one z
    ·exact mS hs hP (a::r) (nP hs hP D c) e z
   ·rw[fR,if_neg c]at h;exact one (by simpa using h)
theorem A7{s:Int}(hs:s=1\/s=-1){l:List P2}(hl:l.Pairwise plt)(h0:l≠[])(P:P2):DW s l (av s l).1 P:=
 {ja hs l hl h0 with
  pend:=λh r e q hq Qx=>by
   obtain⟨b,r',e',hb⟩:=ff s h0;rw[e']at e;have eh:b=h:=(List.cons.inj e).1;subst eh
   have hc:l=l.dropLast++[b]:=by
    have:l.getLast h0=b:=by rw[IG h0]at hb;exact Fk hb
    rw[<-this];exact (FG h0).symm
   rw[hc]at hl hq;rcases EX.mp hq with k |k
   ·exact absurd Qx (nJ ((ci hl).2 q k))
   ·rw[EJ.mp k]at Qx;exact absurd Qx (cj _) }
theorem jS{s:Int}(hs:s=1\/s=-1):∀row:List P2,row.Pairwise plt->∀e∈evE s row,SdO s row e:=cq (λ_ e h=>by simp[evE,evr]at h) λl P ih hp e he=>by
 obtain⟨h1,h2⟩:=ci hp;rw[ii]at he;rcases EX.mp he with k |k
 ·have z:=ih h1 e k;refine⟨E8 _ z.m1,E8 _ z.m2,z.lt,λq hq g1 g2=>?_⟩
  rcases EX.mp hq with y |y
  ·exact z.hand q y g1 g2
  ·rw[EJ.mp y]at g2;exact absurd g2 (nJ (h2 _ z.m2))
 ·by_cases h0:l=[]
  ·subst h0;simp[av,fR]at k
  ·exact (mS hs h2 _ (A7 hs h1 h0 P) e k).2
theorem p0(s:Int)(P:P2):∀st:List P2,Mx ((fR s P st).map (·.1)) st
 |[]=>.slnil
 |[b]=>.refl _
 |b::a::r=>by
  by_cases c:0<s*ac a b P
  ·rw[fR,if_pos c];exact (p0 s P (a::r)).cons_cons _
  ·rw[fR,if_neg c];exact (N9 _).cons_cons _
theorem jX{l:List P2}(h:l.Pairwise plt):l.Nodup:=h.imp λ{a b} (z:plt a b) (e:a=b)=>cj b (e ▸ z)
theorem oy{l:List P2}(h:eK l):l.Nodup:=(iN h).imp λ{a b} (z:plt b a) (e:a=b)=>cj b (e ▸ z)
theorem ux{s:Int}(hs:s=1\/s=-1):∀row:List P2,row.Pairwise plt->(evE s row).Nodup:=cq (λ_=>.nil) λl P ih hp=>by
 obtain⟨h1,h2⟩:=ci hp;rw[ii];by_cases h0:l=[]
 ·subst h0;simp[evE,evr,av,fR]
 refine F1.mpr ⟨ih h1,?_,λa ha b hb e=>?_⟩
 ·exact MT _ (λa b (z:a.1≠b.1) (e:a=b)=>z (by rw[e])) ((oy (ja hs l h1 h0).desc).sublist (p0 s P _))
 ·subst e;have z:=(mS hs h2 _ (A7 hs h1 h0 P) a hb).1;have y:=h2 _ (jS hs l h1 a ha).m2;rw[z]at y;exact cj _ y
theorem AJ:∀row:List P2,row.Pairwise plt->∀a b:P2,a∈row->b∈row->plt a b->(∀q∈row,plt a q->plt q b->False)->(a,b)∈ar row.reverse:=cq (λ_ a b h=>by simp at h) λl P ih hp a b ha hb RB no=>by
 obtain⟨h1,h2⟩:=ci hp
 have ha':a∈l:=by
  rcases EX.mp ha with k |k
  ·exact k
  ·rw[EJ.mp k]at RB;rcases EX.mp hb with y |y
   ·exact absurd RB (nJ (h2 b y))
   ·rw[EJ.mp y]at RB;exact absurd RB (cj _)
 have h0:l≠[]:=Nu ha';have e:l=l.dropLast++[l.getLast h0]:=(FG h0).symm
 have es:ar (l++[P]).reverse=(l.getLast h0,P)::ar l.reverse:=by
  have:=j6 l.dropLast (l.getLast h0) P;rw[<-e]at this;exact this
 rw[es];rcases EX.mp hb with y |y
 ·exact EB _ (ih h1 a b ha' y RB λq hq=>no q (E8 _ hq))
 ·have eb:=EJ.mp y;subst eb
  have:a=l.getLast h0:=by
   rw[e]at ha' h1;rcases EX.mp ha' with k |k
   ·exact (no (l.getLast h0) (E8 _ (LO h0)) ((ci h1).2 a k) (h2 _ (LO h0))).elim
   ·exact EJ.mp k
  rw[this];exact EF
theorem rS{row:List P2}(hp:row.Pairwise plt){e:P2×P2}(h1:e∈evE 1 row)(h2:e∈evE (-1) row):e∈ar row.reverse:=by
 have a:=jS (.inl rfl) row hp e h1;have b:=jS (.inr rfl) row hp e h2
 exact AJ row hp e.1 e.2 a.m1 a.m2 a.lt λq hq g1 g2=>by
  have:=a.hand q hq g1 g2;have:=b.hand q hq g1 g2;lia
theorem Er{u v a b c:P2}(h:plt u v)(ha:ac u v a=0)(hb:ac u v b=0)(hc:ac u v c=0):ac a b c=0:=by
 have l:=ay h;unfold bF at l
 have key:(v.1-u.1) *ac a b c=0/\(v.2-u.2) *ac a b c=0:=by
  unfold ac at *;constructor
  ·grind
  ·grind
 rcases l with k |⟨k,k2⟩
 ·exact (Ft.mp key.1).resolve_left (by lia)
 ·exact (Ft.mp key.2).resolve_left (by lia)
def sd3(t:Tri):List (P2×P2):=kF t++[kB t]
def j3(row:List P2):List (P2×P2):=(av 1 row).2.flatMap sd3++(av (-1) row).2.flatMap sd3
theorem sB(f:P2×P2):∀C:List Tri,(C.flatMap sd3).count f=(C.flatMap kF).count f+(C.map kB).count f
 |[]=>rfl
 |t::C=>by
  rw[GP,GP,Fh,HI,HI,sB f C,Ov];have:(sd3 t).count f=(kF t).count f+if kB t==f then 1 else 0:=by rw[sd3,HI,Ov,List.count_nil];lia
  lia
theorem xg(s:Int)(row:List P2)(f:P2×P2):((av s row).2.flatMap sd3).count f+(ar (av s row).1).count f+(ar row.reverse).count f=2*(evE s row).count f:=by
 have a:=(ro s row).count_eq f;have b:=(fC s row).count_eq f;rw[HI]at a b;rw[sB];lia
theorem eo{s:Int}{W:List P2}:∀{st:List P2},eK st->ny s W st->∀e∈ar st,e.1∈st/\e.2∈st/\plt e.1 e.2/\∀q∈W,s*ac e.1 e.2 q<=0
 |[],_,_,e,h=>by simp[ar]at h
 |[_],_,_,e,h=>by simp[ar]at h
 |b::a::r,d,c,e,h=>by
  rcases EH.mp h with z |z
  ·rw[z];exact⟨by simp,by simp,d.1,λq hq=>(c.1 q hq).1⟩
  ·obtain⟨h1,h2,h3⟩:=eo d.tail c.2 e z;exact⟨EB _ h1,EB _ h2,h3⟩
structure c_(row:List P2):Prop where
 asc:row.Pairwise plt
 nc:∃a b c,a∈row/\b∈row/\c∈row/\ac a b c≠0
theorem c_.ne{row:List P2}(R:c_ row):row≠[]:=by obtain⟨a,_,_,h,_⟩:=R.nc;exact Nu h
theorem c_.kw{row:List P2}(R:c_ row){s:Int}(hs:s=1\/s=-1):KW s row (av s row).1:=ja hs row R.asc R.ne
theorem c_.apart{row:List P2}(R:c_ row){u v:P2}(h:plt u v)(h1:∀q∈row,(1:Int) *ac u v q<=0)(h2:∀q∈row,(-1:Int) *ac u v q<=0):False:=by
 obtain⟨a,b,c,ha,hb,hc,n⟩:=R.nc;have z:∀q∈row,ac u v q=0:=λq hq=>by have:=h1 q hq;have:=h2 q hq;lia
 exact n (Er h (z a ha) (z b hb) (z c hc))
theorem c_.kk{row:List P2}(R:c_ row){f:P2×P2}(h1:f∈ar (av 1 row).1)(h2:f∈ar (av (-1) row).1):False:=by
 have a:=eo (R.kw (.inl rfl)).desc (R.kw (.inl rfl)).cov f h1;have b:=eo (R.kw (.inr rfl)).desc (R.kw (.inr rfl)).cov f h2;exact R.apart a.2.2.1 a.2.2.2 b.2.2.2
theorem jI{l:List (P2×P2)}(h:l.Nodup)(f:P2×P2):(f∈l/\l.count f=1)\/(f ∉ l/\l.count f=0):=by
 by_cases m:f∈l
 ·exact .inl ⟨m,Qq h ▸ by simp[m]⟩
 ·exact .inr ⟨m,HZ.mpr m⟩
theorem cQ:∀{st:List P2},eK st->(ar st).Nodup
 |[],_=>.nil
 |[_],_=>.nil
 |b::a::r,d=>Gh.mpr ⟨λh=>by
   have:∀st:List P2,∀e∈ar st,e.2∈st:=λst=>by
    induction st with
    |nil=>intro e h;simp[ar]at h
    |cons x t ih=>
     cases t with
     |nil=>intro e h;simp[ar]at h
     |cons y t=>
      intro e h;rcases EH.mp h with z |z
      ·rw[z];simp
      ·exact EB _ (ih e z)
   have:=this _ _ h;have nd:=oy d;exact (Gh.mp nd).1 this,cQ d.tail⟩
theorem c_.sp_nd{row:List P2}(R:c_ row):(ar row.reverse).Nodup:=cQ (nO (HY.mpr R.asc))
theorem c_.cnt{row:List P2}(R:c_ row)(f:P2×P2):((f∈evE 1 row\/f∈evE (-1) row)/\(j3 row).count f+(ar (av 1 row).1).count f+(ar (av (-1) row).1).count f=2/\1<=(j3 row).count f)\/
  ((f ∉ evE 1 row/\f ∉ evE (-1) row)/\(j3 row).count f=0/\f ∉ ar (av 1 row).1/\f ∉ ar (av (-1) row).1):=by
 have e1:=xg 1 row f;have e2:=xg (-1) row f;have ea:(j3 row).count f=((av 1 row).2.flatMap sd3).count f+((av (-1) row).2.flatMap sd3).count f:=HI;have s1:f∈ar (av 1 row).1->f∈evE 1 row:=λh=>(ro 1 row).mem_iff.mpr (EW _ h)
 have s2:f∈ar (av (-1) row).1->f∈evE (-1) row:=λh=>(ro (-1) row).mem_iff.mpr (EW _ h)
 have t1:f∈ar row.reverse->f∈evE 1 row:=λh=>(fC 1 row).mem_iff.mpr (EW _ h)
 have t2:f∈ar row.reverse->f∈evE (-1) row:=λh=>(fC (-1) row).mem_iff.mpr (EW _ h)
 have bo:=rS R.asc (e:=f);have kk:=R.kk (f:=f)
 rcases jI (ux (.inl rfl) row R.asc) f with ⟨a1,a2⟩ |⟨a1,a2⟩ <;>rcases jI (ux (.inr rfl) row R.asc) f with ⟨b1,b2⟩ |⟨b1,b2⟩ <;>
  rcases jI (cQ (R.kw (.inl rfl)).desc) f with ⟨c1,c2⟩ |⟨c1,c2⟩ <;>rcases jI (cQ (R.kw (.inr rfl)).desc) f with ⟨d1,d2⟩ |⟨d1,d2⟩ <;>rcases jI R.sp_nd f with ⟨g1,g2⟩ |⟨g1,g2⟩
 all_goals first
  |exact (kk c1 d1).elim
  |exact (a1 (s1 c1)).elim
  |exact (b1 (s2 d1)).elim
  |exact (a1 (t1 g1)).elim
  |exact (b1 (t2 g1)).elim
  |exact (g1 (bo a1 b1)).elim
  |exact .inl ⟨.inl a1,by lia,by lia⟩
  |exact .inl ⟨.inr b1,by lia,by lia⟩
  |exact .inr ⟨⟨a1,b1⟩,by lia,c1,d1⟩
theorem c_.kdd{row:List P2}(R:c_ row):((av 1 row).2.map kB++((av (-1) row).2.map kB++ar row.reverse)).Nodup:=by
 have n1:=(fC 1 row).nodup_iff.mp (ux (.inl rfl) row R.asc);have n2:=(fC (-1) row).nodup_iff.mp (ux (.inr rfl) row R.asc);obtain⟨x1,x2,x3⟩:=F1.mp n1;refine F1.mpr ⟨x1,n2,λa ha b hb e=>?_⟩
 subst e;have:=rS R.asc ((fC 1 row).mem_iff.mpr (E8 _ ha)) ((fC (-1) row).mem_iff.mpr hb);exact x3 a ha a this rfl
theorem c_.kmem{row:List P2}(R:c_ row)(f:P2×P2):f∈j3 row↔f∈(av 1 row).2.map kB++((av (-1) row).2.map kB++ar row.reverse):=by
 have e1:=(fC 1 row).mem_iff (a:=f);have e2:=(fC (-1) row).mem_iff (a:=f);rw[EX]at e1;rw[EX,<-e2];rcases R.cnt f with ⟨h,_,c⟩ |⟨⟨h1,h2⟩,c,_⟩
 ·refine⟨λ_=>?_,λ_=>Nv.mp (by lia)⟩
  rcases h with h |h
  ·rcases e1.mp h with k |k
   ·exact .inl k
   ·exact .inr (e2.mpr (EW _ k))
  ·exact .inr h
 ·refine⟨λh=>absurd h (HZ.mp c),λh=>?_⟩
  rcases h with h |h
  ·exact absurd (e1.mpr (.inl h)) h1
  ·exact absurd h h2
theorem c_.one{row:List P2}(R:c_ row)(f:P2×P2):(j3 row).count f=1↔f∈ar (av 1 row).1++ar (av (-1) row).1:=by
 rw[EX];rcases R.cnt f with ⟨_,c,p⟩ |⟨_,c,h1,h2⟩
 ·rcases jI (cQ (R.kw (.inl rfl)).desc) f with ⟨c1,c2⟩ |⟨c1,c2⟩ <;>rcases jI (cQ (R.kw (.inr rfl)).desc) f with ⟨d1,d2⟩ |⟨d1,d2⟩ <;>simp only[c1,d1,true_or,or_true,or_self,iff_true,iff_false] <;>lia
 ·simp only[h1,h2,or_self,iff_false];lia
theorem c_.ond{row:List P2}(R:c_ row):(ar (av 1 row).1++ar (av (-1) row).1).Nodup:=
 F1.mpr ⟨cQ (R.kw (.inl rfl)).desc,cQ (R.kw (.inr rfl)).desc,λa ha b hb e=>R.kk ha (e ▸ hb)⟩
theorem nY:∀{st:List P2}{x h z:P2},x∈st->st.head?=some h->st.getLast?=some z->x≠h->x≠z->∃a b,(a,x)∈ar st/\(x,b)∈ar st
 |[y],x,h,z,hx,hh,_,n,_=>by
  simp at hx hh;exact absurd (hx.trans hh) n
 |b::a::r,x,h,z,hx,hh,hz,n1,n2=>by
  have eh:b=h:=by simpa using hh
  rcases EH.mp hx with k |k
  ·exact absurd (k.trans eh) n1
  ·rw[FC]at hz;by_cases e:x=a
   ·subst e;cases r with
    |nil=>exact absurd (by simpa using hz) n2
    |cons y r=>exact⟨y,b,EB _ EF,EF⟩
   ·obtain⟨a',b',h1,h2⟩:=nY (h:=a) k rfl hz e n2;exact⟨a',b',EB _ h1,EB _ h2⟩
theorem c_.cross{row:List P2}(R:c_ row){x a b a' b':P2}(h1:(a,x)∈ar (av 1 row).1)(h2:(x,b)∈ar (av 1 row).1)(h3:(a',x)∈ar (av (-1) row).1)(h4:(x,b')∈ar (av (-1) row).1):False:=by
 have K1:=R.kw (.inl rfl);have K2:=R.kw (.inr rfl);have s1:=eo K1.desc K1.cov _ h1;have s2:=eo K1.desc K1.cov _ h2;have s3:=eo K2.desc K2.cov _ h3;have s4:=eo K2.desc K2.cov _ h4;dsimp only at s1 s2 s3 s4;have ma:=K1.sub _ s1.1;have mb:=K1.sub _ s2.2.1;have ma':=K2.sub _ s3.1;have q1:=s1.2.2.2 a' ma';have q2:=s1.2.2.2 b mb;have q3:=s3.2.2.2 b mb;have lu:=ay s1.2.2.1;have lv:=ay s3.2.2.1;have lw:=ay s2.2.2.1;have d1:ac a x a'=- ((x.1-a.1) *(x.2-a'.2)-(x.2-a.2) *(x.1-a'.1)):=by unfold ac;grind
 have d2:ac a x b=(x.1-a.1) *(b.2-x.2)-(x.2-a.2) *(b.1-x.1):=by unfold ac;grind
 have d3:ac a' x b=(x.1-a'.1) *(b.2-x.2)-(x.2-a'.2) *(b.1-x.1):=by unfold ac;grind
 have d4:(b.1-x.1) *(x.2-a'.2)-(b.2-x.2) *(x.1-a'.1)=- ac a' x b:=by unfold ac;grind
 have t1:=t7 (.inr rfl) lu lv lw (by lia) (by lia)
 have t2:=t7 (.inl rfl) lu lw lv (by lia) (by lia)
 have z:ac a x a'=0:=by lia
 refine R.apart s1.2.2.1 s1.2.2.2 λq hq=>?_
 have g:=rM (s:=-1) (a:=x) (m:=(2*x.1-a.1,2*x.2-a.2)) (b:=(2*x.1-a'.1,2*x.2-a'.2)) (q:=q) (by unfold plt at *;dsimp only;lia) (by have:=s3.2.2.1;unfold plt at *;dsimp only;lia) (by unfold ac at *;dsimp only;grind) (by
  have:=s3.2.2.2 q hq;have e:ac x (2*x.1-a'.1,2*x.2-a'.2) q=ac a' x q:=by unfold ac;dsimp only;grind
  rw[e];exact this)
 have e:ac x (2*x.1-a.1,2*x.2-a.2) q=ac a x q:=by unfold ac;dsimp only;grind
 rw[e]at g;exact g
theorem s_{a b:Int}(ha:0<a)(h:0<a*b):0<b:=by
 rcases F6 0 b with z |z
 ·exact z
 ·have:=Gw (NU ha) z;lia
theorem pX{k u v:Int}(hu:bF u v)(hk:bF (k*u) (k*v)):0<k:=by
 unfold bF at *;rcases Int.lt_trichotomy k 0 with z |z |z
 ·exfalso
  rcases hu with a |⟨a,b⟩
  ·have:=Lb z a;lia
  ·subst a;have:=Lb z b;simp only[HE]at hk;lia
 ·subst z;simp only[GH]at hk;lia
 ·exact z
theorem oR{u v:Int}(h:IA u v=1){k:Int}(hk:0<k):((IA (k*u) (k*v):Nat):Int)=k:=by
 rw[LN,h];lia
theorem yt:Ad gst:=λa m b h1 h2 h0=>by
 have h3:=aN h1 h2;have Qv:((a,b):P2×P2).1≠((a,b):P2×P2).2:=λe=>cj _ (by have e':a=b:=e;rw[e']at h3;exact h3)
 obtain⟨k,rfl⟩:=rX Qv h0;have eu:=gQ (a,b);have ev:=gL (a,b);have gp:=dQ Qv;generalize hG:gst (a,b)=G at *
 have c1:IA (ub (a,b)) (vb (a,b))=1:=by
  have:gst (a,b)=((IA (G*ub (a,b)) (G*vb (a,b)):Nat):Int):=by
   conv=>lhs;unfold gst
   rw[eu,ev]
  rw[LN,hG]at this
  have e:G=G*((IA (ub (a,b)) (vb (a,b)):Nat):Int):=by
   conv=>lhs;rw[this]
   push_cast
   congr 1;lia
  have:((IA (ub (a,b)) (vb (a,b)):Nat):Int)=1:=by
   have z:G*(((IA (ub (a,b)) (vb (a,b)):Nat):Int)-1)=0:=by rw[Int.mul_sub,<-e];lia
   rcases Ft.mp z with y |y <;>lia
  lia
 unfold onS at *;dsimp only at *;have l3:=ay h3;have l1:=ay h1;have l2:=ay h2;dsimp only at l1 l2;generalize ub (a,b)=u at *;generalize vb (a,b)=v at *;have q1:a.1+k*u-a.1=k*u:=by lia
 have q2:a.2+k*v-a.2=k*v:=by lia
 have q3:b.1-(a.1+k*u)=(G-k) *u:=by rw[M9];lia
 have q4:b.2-(a.2+k*v)=(G-k) *v:=by rw[M9];lia
 rw[q1,q2]at l1;rw[q3,q4]at l2;rw[eu,ev]at l3
 have lu:bF u v:=by
  unfold bF at l3 |-;rcases l3 with x |⟨x,y⟩
  ·left;exact s_ gp x
  ·right;exact⟨(Ft.mp x).resolve_left (by lia),s_ gp y⟩
 have k0:=pX lu l1;have k1:=pX lu l2;have g1:gst (a,((a.1+k*u,a.2+k*v):P2))=k:=by unfold gst;dsimp only;rw[q1,q2];exact oR c1 k0
 have g2:gst (((a.1+k*u,a.2+k*v):P2),b)=G-k:=by unfold gst;dsimp only;rw[q3,q4];exact oR c1 k1
 rw[g1,g2];lia
theorem zi:Ad λs=>gst (s.2,s.1):=λa m b h1 h2 h0=>by
 dsimp only;rw[dL,dL a m,dL m b];exact yt a m b h1 h2 h0
def Seg(row:List P2):Prop:=∀a b m:P2,a∈row->b∈row->plt a m->plt m b->ac a b m=0->m∈row
theorem j5{s:Int}{row:List P2}(sg:Seg row):∀{st:List P2},eK st->ny s row st->(∀p∈st,p∈row)->chD gst st=((ar st).length:Int)/\chD (λs=>gst (s.2,s.1)) st=((ar st).length:Int)
 |[],_,_,_=>⟨rfl,rfl⟩
 |[_],_,_,_=>⟨rfl,rfl⟩
 |b::a::r,d,c,m=>by
  have ih:=j5 sg d.tail c.2 λp hp=>m p (EB _ hp)
  have g1:gst (a,b)=1:=by
   have Qv:((a,b):P2×P2).1≠((a,b):P2×P2).2:=λe=>cj b (by have e':a=b:=e;have:=d.1;rw[e']at this;exact this)
   have gp:=dQ Qv;rcases F6 1 (gst (a,b)) with z |z
   ·exfalso
    have h0:ac a b (onS (a,b) 1)=0:=by
     have:=rQ (a,b) 1 a b;have e1:ac a b a=0:=by unfold ac;grind
     have e2:ac a b b=0:=by unfold ac;grind
     rw[e1,e2,HE,HE]at this;exact (Ft.mp this).resolve_left (by lia)
    have l3:=ay d.1;have eu:=gQ (a,b);have ev:=gL (a,b);dsimp only at eu ev;rw[eu,ev]at l3
    have lu:bF (ub (a,b)) (vb (a,b)):=by
     unfold bF at l3 |-;rcases l3 with x |⟨x,y⟩
     ·left;exact s_ gp x
     ·right;exact⟨(Ft.mp x).resolve_left (by lia),s_ gp y⟩
    have lw:bF ((gst (a,b)-1) *ub (a,b)) ((gst (a,b)-1) *vb (a,b)):=by
     unfold bF at lu |-;rcases lu with x |⟨x,y⟩
     ·left;exact Fx (by lia) x
     ·right;exact⟨by rw[x,HE],Fx (by lia) y⟩
    have p1:plt a (onS (a,b) 1):=by unfold plt onS;unfold bF at lu;dsimp only;lia
    have p2:plt (onS (a,b) 1) b:=by
     unfold plt onS;unfold bF at lw;rw[M9,M9,<-eu,<-ev]at lw;dsimp only;lia
    have mm:=sg a b _ (m a (by simp)) (m b (by simp)) p1 p2 h0
    exact (c.1 _ mm).2 (by rw[h0,HE]) p1 p2
   ·lia
  have e1:chD gst (b::a::r)=gst (a,b)+chD gst (a::r):=rfl;have e2:chD (λs=>gst (s.2,s.1)) (b::a::r)=gst (b,a)+chD (λs=>gst (s.2,s.1)) (a::r):=rfl
  have e3:(ar (b::a::r)).length=(ar (a::r)).length+1:=rfl;rw[e1,e2,e3,dL a b,g1,ih.1,ih.2];constructor <;>lia
theorem vJ{pts:List P2}(h2:2<=(ST.srt pts).length)(sg:Seg (ST.srt pts)):mT (am pts)=((ar (av 1 (ST.srt pts)).1).length:Int)+((ar (av (-1) (ST.srt pts)).1).length:Int):=by
 have asc:(ST.srt pts).Pairwise plt:=(ST.srt_asc pts).imp λ{a b} h=>by
  unfold ST.ltP at h;unfold plt;simpa using h
 have Qv:ST.srt pts≠[]:=λz=>by rw[z]at h2;simp at h2
 have K1:=ja (.inl rfl) _ asc Qv;have K2:=ja (.inr rfl) _ asc Qv;have:=y8 yt zi h2;rw[(j5 sg K2.desc K2.cov K2.sub).1,(j5 sg K1.desc K1.cov K1.sub).2]at this;unfold mT;rw[this];lia
theorem gA:∀{st:List P2},2<=st.length->∀x,x∈st↔∃e∈ar st,x=e.1\/x=e.2
 |[],h,_=>by simp at h
 |[_],h,_=>by simp at h
 |[b,a],_,x=>by simp[ar,or_comm]
 |b::a::c::r,_,x=>by
  have ih:=gA (st:=a::c::r) (by simp) x
  constructor
  ·intro h;rcases EH.mp h with z |z
   ·exact⟨(a,b),EF,.inr z⟩
   ·obtain⟨e,he,k⟩:=ih.mp z;exact⟨e,EB _ he,k⟩
  ·rintro ⟨e,he,k⟩;rcases EH.mp he with z |z
   ·rw[z]at k;rcases k with k |k <;>rw[k] <;>simp
   ·exact EB _ (ih.mpr ⟨e,z,k⟩)
theorem c_.ends{row:List P2}(R:c_ row):∃lo hi:P2,lo≠hi/\∀s,s=1\/s=-1->∃t,(av s row).1=hi::(t++[lo]):=by
 have e1:∀s,s=1\/s=-1->∃z,(av s row).1.getLast?=some z/\z∈row/\∀q∈row,¬ plt q z:=λs hs=>
  ⟨_,Hv (R.kw hs).ne,(R.kw hs).sub _ (LO _),(R.kw hs).bot _ (Hv (R.kw hs).ne)⟩
 obtain⟨z,z1,z2,z3⟩:=e1 1 (.inl rfl);obtain⟨b,r,eb,hb⟩:=ff 1 R.ne
 have nb:z≠b:=λe=>by
  obtain⟨p,q,c,hp,hq,hc,n⟩:=R.nc
  have all:∀x∈row,x=b:=λx hx=>by
   rcases dq x b with y |y |y
   ·rw[<-e]at y;exact absurd y (z3 x hx)
   ·exact y
   ·have h0:=R.ne
    have hc:row=row.dropLast++[b]:=by
     have:row.getLast h0=b:=by rw[IG h0]at hb;exact Fk hb
     rw[<-this];exact (FG h0).symm
    have as:=R.asc;rw[hc]at as hx;rcases EX.mp hx with k |k
    ·exact absurd y (nJ ((ci as).2 x k))
    ·exact EJ.mp k
  rw[all p hp,all q hq,all c hc]at n;exact n (by unfold ac;grind)
 refine⟨z,b,nb,λs hs=>?_⟩
 obtain⟨z',y1,y2,y3⟩:=e1 s hs
 have ez:z'=z:=by
  rcases dq z' z with y |y |y
  ·exact absurd y (z3 _ y2)
  ·exact y
  ·exact absurd y (y3 _ z2)
 subst ez;obtain⟨b',r',eb',SV⟩:=ff s R.ne;have:b'=b:=Fk (SV.symm.trans hb);subst this;rw[eb']at y1 |-;have rn:r'≠[]:=λe=>by rw[e]at y1;exact nb (by simpa using y1.symm)
 refine⟨r'.dropLast,?_⟩
 have:r'.getLast rn=z':=by
  have h:(b'::r').getLast?=r'.getLast?:=by
   cases r' with
   |nil=>exact absurd rfl rn
   |cons x y=>rw[FC]
  rw[h,IG rn]at y1;exact Fk y1
 rw[<-this,FG]
theorem c_.rimL{row:List P2}(R:c_ row):∃L:List P2,L.Nodup/\(L.length+2=(av 1 row).1.length+(av (-1) row).1.length)/\(∀p∈L,p∈row)/\∀x,x∈L↔∃e∈ar (av 1 row).1++ar (av (-1) row).1,x=e.1\/x=e.2:=by
 obtain⟨lo,hi,ne,h⟩:=R.ends;obtain⟨t,et⟩:=h 1 (.inl rfl);obtain⟨v,ev⟩:=h (-1) (.inr rfl);have K1:=R.kw (.inl rfl);have K2:=R.kw (.inr rfl);have n1:=oy K1.desc;have n2:=oy K2.desc;have l1:2<=(av 1 row).1.length:=by rw[et];simp
 have l2:2<=(av (-1) row).1.length:=by rw[ev];simp
 have m2:∀x,x∈(av (-1) row).1↔x=hi\/x∈v\/x=lo:=λx=>by rw[ev];simp
 have m1:hi∈(av 1 row).1/\lo∈(av 1 row).1:=by rw[et];simp
 have nv:v.Nodup/\hi ∉ v/\lo ∉ v:=by
  rw[ev,Gh,F1]at n2;refine⟨n2.2.1,λk=>n2.1 (E8 _ k),λk=>n2.2.2.2 lo k lo (by simp) rfl⟩
 refine⟨(av 1 row).1++v,F1.mpr ⟨n1,nv.1,λa ha b hb e=>?_⟩,?_,?_,λx=>?_⟩
 ·subst e;have x1:a≠hi:=λe=>nv.2.1 (e ▸ hb)
  have x2:a≠lo:=λe=>nv.2.2 (e ▸ hb)
  obtain⟨p,q,h1,h2⟩:=nY ha (by rw[et];rfl) (by rw[et];exact MU (l:=hi::t)) x1 x2
  obtain⟨p',q',h3,h4⟩:=nY ((m2 a).mpr (.inr (.inl hb))) (by rw[ev];rfl) (by rw[ev];exact MU (l:=hi::v)) x1 x2
  exact R.cross h1 h2 h3 h4
 ·rw[ev,EY];simp;lia
 ·intro p hp;rcases EX.mp hp with k |k
  ·exact K1.sub p k
  ·exact K2.sub p ((m2 p).mpr (.inr (.inl k)))
 ·have s1:=gA l1 x;have s2:=gA l2 x
  have:x∈(av 1 row).1++v↔x∈(av 1 row).1\/x∈(av (-1) row).1:=by
   rw[EX,m2];constructor
   ·rintro (k |k)
    ·exact .inl k
    ·exact .inr (.inr (.inl k))
   ·rintro (k |k |k |k)
    ·exact .inl k
    ·rw[k];exact .inl m1.1
    ·exact .inr k
    ·rw[k];exact .inl m1.2
  rw[this,s1,s2];constructor
  ·rintro (⟨e,he,k⟩ |⟨e,he,k⟩)
   ·exact⟨e,E8 _ he,k⟩
   ·exact⟨e,EW _ he,k⟩
  ·rintro ⟨e,he,k⟩;rcases EX.mp he with z |z
   ·exact .inl ⟨e,z,k⟩
   ·exact .inr ⟨e,z,k⟩
theorem AN{l:List P2}(h:2<=(am l).length):2<=(ST.srt l).length:=FI λz=>by
 rw[cN z]at h;exact z h
theorem wX(l:List P2):ST.srt (aC l)=aC l:=ST.asc_srt (ST.srt_asc _)
theorem n8{l:List P2}(F:Fld l)(h3:3<=l.length):c_ (aC l):=by
 refine⟨cH l,?_⟩;have R7:3<=(am l).length:=by rw[F.cr];exact h3
 have h2:2<=(ST.srt l).length:=AN (by lia)
 obtain⟨a,b,ha,hb,_,hc⟩:=gY h2 (i:=0) (by lia)
 obtain⟨c,hc,hd⟩:=hc (by lia)
 have m:∀{i:Nat}{p:P2},(am l)[i]?=some p->p∈aC l:=λ{i p} h=>by
  have:p∈l:=by have:=EV h;rw[F.cr]at this;exact this
  exact bj (aC l) p (by rw[mE F h3];exact this)
 exact⟨a,b,c,m ha,m hb,m hc,by lia⟩
theorem sN{a b:P2}(h:plt a b):ST.leP a b=true:=by
 unfold plt at h;unfold ST.leP;simp;lia
theorem CS{l:List P2}(F:Fld l)(h3:3<=l.length):Seg (aC l):=λa b m ha hb h1 h2 h0=>by
 rw[dt F,fP h3]at *;have Qv:((a,b):P2×P2).1≠((a,b):P2×P2).2:=λe=>cj b (by have e':a=b:=e;have:=aN h1 h2;rw[e']at this;exact this)
 have lt:ST.ltP a b=true:=(cE a b).mp (aN h1 h2);obtain⟨k,k0,k1,rfl⟩:=(gw lt).mp ⟨h0,sN h1,sN h2⟩;intro s hs;have e:=rQ (a,b) k s.1 s.2;dsimp only at e;refine bZ (dQ Qv) ?_;rw[e];exact OV (E_ (by lia) (ha s hs)) (E_ k0 (hb s hs))
theorem io{l:List P2}(F:Fld l)(h3:3<=l.length):area l=((cU l).length:Int)/\mT l=2*(((aC l).length:Int)-1)-((cU l).length:Int)/\3<=(aC l).length:=by
 have hc:=mE F h3;have hs:=wX l;have n3:3<=(aC l).length:=by have:=iy (aC l);rw[hc]at this;lia
 have h2:2<=(ST.srt (aC l)).length:=by rw[hs];lia
 have c:=vW h2 (by rw[hs];exact vq F h3)
 have r:=vJ h2 (by rw[hs];exact CS F h3)
 rw[hs,hc]at c r;have l1:=dR 1 (aC l);have l2:=dR (-1) (aC l);have R:=n8 F h3;have w1:=FJ.mpr (R.kw (.inl rfl)).ne;have w2:=FJ.mpr (R.kw (.inr rfl)).ne;rw[dk,dk]at r;unfold cU;rw[EY];refine⟨c.symm,?_,n3⟩;rw[r];lia
theorem oH{A B:P2}(F:Fld [A,B])(lt:ST.ltP A B=true):((aC [A,B]).length:Int)=gst (A,B)+1:=by
 have Qv:((A,B):P2×P2).1≠((A,B):P2×P2).2:=λe=>cj B (by have e':A=B:=e;have:=(cE A B).mpr lt;rw[e']at this;exact this)
 have gp:=dQ Qv;have nd:(aC [A,B]).Nodup:=jX (cH _)
 have nd2:((Fw ((gst (A,B)).toNat+1)).map λ(k:Nat)=>onS (A,B) (k:Int)).Nodup:=by
  refine FU.mpr (Ke.imp λ{x y} h e=>h ?_)
  have:=BY Qv e;lia
 have p:=((Gb nd nd2).mpr λq=>by
  rw[dt F,jH,gw lt,ED];constructor
  ·rintro ⟨k,k0,k1,rfl⟩;exact⟨k.toNat,E5.mpr (by lia),by rw[show ((k.toNat:Nat):Int)=k by lia]⟩
  ·rintro ⟨k,hk,rfl⟩;have:=E5.mp hk;exact⟨(k:Int),by lia,by lia,rfl⟩).length_eq
 rw[p,Ex,I0];lia
theorem qm(A:P2):gst (A,A)=0:=by unfold gst;simp
theorem Bo{l:List P2}(F:Fld l){k:Int}(k0:0<=k):iq (am (l.map (scl k)))=if l.length<3 then (((aC l).length:Int)-1) *k+1 else (((aC l).length:Int)-1) *k+1+((cU l).length:Int) *(k*(k-1)/2):=by
 rcases GR k0 with kp |kz
 ·rw[o9 kp,F.cr];rcases F.cases with ⟨A,rfl⟩ |⟨A,B,rfl,lt⟩ |h3
  ·rw[if_pos (by simp),jO F]
   unfold iq pin mN;simp[gp,qm]
  ·rw[if_pos (by simp),oH F lt]
   have:=ug k0 (A,B);unfold iq pin mN;simp[gp]at this |-;rw[this];grind
  ·rw[F.cr]at h3;obtain⟨a,r,n3⟩:=io F h3;rw[if_neg (by lia)]
   unfold iq pin mN;rw[if_neg (by rw[Ex];lia),if_neg (by rw[Ex];lia),o7,tN k0,a,r]
   generalize ((cU l).length:Int)=t;generalize ((aC l).length:Int)=n
   have e:k*(k-1)%2=0:=by
    rcases (show k%2=0\/k%2=1 by lia) with z |z
    ·rw[IX,z,GH];rfl
    ·rw[IX,P6,z];rfl
   obtain⟨m,hm⟩:∃m,k*(k-1)=2*m:=⟨k*(k-1)/2,by lia⟩
   rw[hm,Fs _ (by decide)]
   have e2:k*k*t-k*(2*(n-1)-t)+2=2*(t*m+t*k-k*(n-1)+1):=by grind
   rw[e2,Fs _ (by decide)]
   grind
 ·subst kz;rw[lZ F.ne];unfold iq pin mN;simp[gp,qm]
theorem sK{l:List P2}(F:Fld l):iq l=((aC l).length:Int):=by
 have:=Bo F (show (0:Int)<=1 by decide)
 rw[show l.map (scl 1)=l by rw[GW (λp _=>nu p),P7],F.cr]at this
 rw[this];split <;>simp
theorem Bp{l:List P2}(F:Fld l){k:Int}(k0:0<=k):pin (am (l.map (scl k)))=if l.length<3\/k=0 then 0 else ((cU l).length:Int) *(k*(k+1)/2)-k*(((aC l).length:Int)-1)+1:=by
 rcases GR k0 with kp |kz
 ·rw[o9 kp,F.cr];unfold pin;rw[Ex];by_cases h3:l.length<3
  ·rw[if_pos h3,if_pos (.inl h3)]
  ·obtain⟨a,r,n3⟩:=io F (by lia)
   rw[if_neg h3,if_neg (by lia),o7,tN k0,a,r]
   generalize ((cU l).length:Int)=t;generalize ((aC l).length:Int)=n
   have e:k*(k+1)%2=0:=by
    rcases (show k%2=0\/k%2=1 by lia) with z |z
    ·rw[IX,z,GH];rfl
    ·rw[IX,P8,z];rfl
   obtain⟨m,hm⟩:∃m,k*(k+1)=2*m:=⟨k*(k+1)/2,by lia⟩
   rw[hm,Fs _ (by decide)]
   have e2:k*k*t-k*(2*(n-1)-t)+2=2*(t*m-k*(n-1)+1):=by grind
   rw[e2,Fs _ (by decide)]
 ·subst kz;rw[lZ F.ne,if_pos (.inr rfl)];unfold pin;simp
def s2(a b:P2):K4:=(if ST.ltP b a=true then b else a,if ST.ltP a b=true then b else a)
def eE(q:List P2)(k:Nat):List K4:=(Fw k).map λj=>s2 (gp q j) (gp q k)
def e7(q:List P2):List K4:=(Fw q.length).flatMap (eE q)
def bg(ls:List (List P2)):List K4:=ls.flatMap e7
def fc(ss:List K4):List (K4×Int):=ss.foldl bump []
theorem u5(ss:List K4)(x:K4):fc (ss++[x])=bump (fc ss) x:=by unfold fc;rw[Im];rfl
structure Ow(Qt:List (K4×Int))(ss:List K4):Prop where
 nd:(Qt.map (·.1)).Nodup
 ct:∀x∈Qt,x.2=(ss.count x.1:Int)
 mem:∀f,f∈Qt.map (·.1)↔f∈ss
theorem Ow.bump{Qt:List (K4×Int)}{ss:List K4}(h:Ow Qt ss)(k:K4):Ow (L2.bump Qt k) (ss++[k]):=by
 unfold L2.bump;by_cases c:Qt.any (λx=>decide (x.1=k))=true
 ·rw[if_pos c]
  have e:(Qt.map λx=>if x.1=k then (x.1,x.2+1) else x).map (·.1)=Qt.map (·.1):=by
   rw[Fn];refine GW λx _=>?_
   simp only[Function.comp];split <;>rfl
  obtain⟨y,hy,ey⟩:=LP.mp c;have ey':y.1=k:=by simpa using ey
  have mk:k∈ss:=(h.mem k).mp (ED.mpr ⟨y,hy,ey'⟩);refine⟨by rw[e];exact h.nd,λx hx=>?_,λf=>?_⟩
  ·obtain⟨z,hz,rfl⟩:=ED.mp hx;have:=h.ct z hz;rw[HI];split
   ·rename_i q
    show z.2+1=_;rw[this,q];simp
   ·rename_i q
    rw[this,HZ.mpr (show z.1 ∉ [k] by simpa using q)];simp
  ·rw[e,h.mem,EX];exact⟨.inl,λz=>z.elim id λz=>by rw[EJ.mp z];exact mk⟩
 ·rw[if_neg c]
  have nk:k ∉ Qt.map (·.1):=λz=>c (by
   obtain⟨y,hy,e⟩:=ED.mp z;exact LP.mpr ⟨y,hy,by simpa using e⟩)
  refine⟨by rw[Fi];exact F1.mpr ⟨h.nd,by simp,λa ha b hb e=>nk (by rw[<-show b=k by simpa using hb,<-e];exact ha)⟩,λx hx=>?_,λf=>?_⟩
  ·rw[HI];rcases EX.mp hx with z |z
   ·have ne:x.1 ∉ [k]:=λe=>nk (ED.mpr ⟨x,z,by simpa using e⟩)
    rw[HZ.mpr ne,h.ct x z];simp
   ·rw[EJ.mp z,HZ.mpr (λm=>nk ((h.mem k).mpr m))];simp
  ·rw[Fi,EX,EX,h.mem];simp
theorem iQ(ss:List K4):Ow (fc ss) ss:=by
 have:∀(xs:List K4) (Qt:List (K4×Int)) (ys:List K4),Ow Qt ys->Ow (xs.foldl L2.bump Qt) (ys++xs):=λxs=>by
  induction xs with
  |nil=>intro Qt ys h;simpa using h
  |cons x xs ih=>
   intro Qt ys h;have:=ih _ _ (h.bump x);rw[Gp]at this;exact this
 have:=this ss [] [] ⟨.nil,λx h=>(by cases h),λf=>by simp⟩
 simpa [fc] using this
theorem rV(ss:List K4):(fc ss).length<=ss.length:=by
 have:=L2.nd_lenL (iQ ss).nd λx hx=>((iQ ss).mem x).mp hx
 rw[Ex]at this;exact this
theorem kU{ss dd:List K4}(nd:dd.Nodup)(h:∀f,f∈ss↔f∈dd):(fc ss).length=dd.length:=by
 have:=((Gb (iQ ss).nd nd).mpr λf=>by rw[(iQ ss).mem,h]).length_eq
 rwa [Ex]at this
theorem f7{a b:P2}(h:plt a b):s2 a b=(a,b)/\s2 b a=(a,b):=by
 have h1:=(cE a b).mp h;have h2:ST.ltP b a=false:=ST.ltP_asy h1;unfold s2;rw[h1,h2];exact⟨rfl,rfl⟩
theorem qs3(a b c:P2):e7 [a,b,c]=[s2 a b,s2 a c,s2 b c]:=rfl
theorem qs2(a b:P2):e7 [a,b]=[s2 a b]:=rfl
theorem uy{t:Tri}(h1:plt t.1 t.2.1)(h2:plt t.2.1 t.2.2):Hz (e7 [(d9 t).1,(d9 t).2.1,(d9 t).2.2]) (sd3 t):=by
 obtain⟨a,b,c⟩:=t;dsimp only at h1 h2;have h3:=aN h1 h2;unfold d9;split
 ·rw[qs3,(f7 h1).1,(f7 h3).1,(f7 h2).1];exact .cons _ (.swap _ _ _)
 ·rw[qs3,(f7 h3).1,(f7 h1).1,(f7 h2).2];show Hz [(a,c),(a,b),(b,c)] [(a,b),(b,c),(a,c)];exact (List.Perm.swap _ _ _).trans (.cons _ (.swap _ _ _))
theorem v9{l:List P2}{t:Tri}(ht:t∈cU l):plt t.1 t.2.1/\plt t.2.1 t.2.2:=by
 have hp:=cH l;rcases EX.mp ht with h |h
 ·have:=fD (.inl rfl) _ hp t h;exact⟨this.ab,this.bP⟩
 ·have:=fD (.inr rfl) _ hp t h;exact⟨this.ab,this.bP⟩
theorem mH{α β γ:Type}{f:α->List γ}{g:β->List γ}(k:α->β):∀{l:List α},(∀x∈l,Hz (g (k x)) (f x))->Hz ((l.map k).flatMap g) (l.flatMap f)
 |[],_=>.refl _
 |x::l,h=>by
  rw[Fh,GP,GP];exact (h x EF).append (mH k λy hy=>h y (EB _ hy))
theorem oE(l:List P2):Hz (SG.srt ST3.KT (pcs l)) (pcs l):=
 (Gb ((SG.srt_asc ST3.KT (pcs l)).imp λ{a b} h e=>by
  subst e;have:=ST3.KT.asy h;rw[h]at this;cases this) (xI l)).mpr λt=>SG.srt_mem _ _ _
theorem rK{l:List P2}(h3:3<=l.length):Hz (bg (bI l)) (j3 (aC l)):=by
 unfold bI bg;rw[if_neg (by lia),if_neg (by lia)]
 refine (((oE l).map _).flatMap_right _).trans ?_;unfold pcs;rw[Fn];refine (mH (f:=sd3) _ λt ht=>?_).trans ?_
 ·obtain⟨a,b⟩:=v9 ht;exact uy a b
 ·unfold cU j3;rw[GX]
theorem yX{l:List P2}(F:Fld l)(h3:3<=l.length)(p:P2):p∈(bI l).flatten↔p∈aC l:=by
 have R:=n8 F h3;obtain⟨_,_,n3⟩:=io F h3
 have e1:p∈(bI l).flatten↔∃f∈j3 (aC l),p=f.1\/p=f.2:=by
  have es:∀f,f∈j3 (aC l)↔∃t∈cU l,f∈sd3 t:=λf=>by
   unfold j3 cU;rw[<-GX,IH]
  rw[LM];unfold bI;rw[if_neg (by lia),if_neg (by lia)]
  constructor
  ·rintro ⟨q,hq,hp⟩;obtain⟨T,hT,rfl⟩:=ED.mp hq;obtain⟨t,ht,rfl⟩:=ED.mp ((SG.srt_mem _ _ _).mp hT)
   have:p=t.1\/p=t.2.1\/p=t.2.2:=by
    unfold d9 at hp;split at hp <;>simp only[EH,Jo,or_false]at hp <;>rcases hp with h |h |h <;>simp[h]
   rcases this with h |h |h
   ·exact⟨(t.1,t.2.1),(es _).mpr ⟨t,ht,by simp[sd3,kF]⟩,.inl h⟩
   ·exact⟨(t.1,t.2.1),(es _).mpr ⟨t,ht,by simp[sd3,kF]⟩,.inr h⟩
   ·exact⟨(t.2.1,t.2.2),(es _).mpr ⟨t,ht,by simp[sd3,kF]⟩,.inr h⟩
  ·rintro ⟨f,hf,hp⟩;obtain⟨t,ht,hs⟩:=(es f).mp hf;refine⟨[(d9 t).1,(d9 t).2.1,(d9 t).2.2],ED.mpr ⟨d9 t,(SG.srt_mem _ _ _).mpr (ED.mpr ⟨t,ht,rfl⟩),rfl⟩,?_⟩
   have:p=t.1\/p=t.2.1\/p=t.2.2:=by
    simp only[sd3,kF,kB,Jn,List.nil_append,EH,Jo,or_false]at hs;rcases hs with h |h |h <;>rw[h]at hp <;>rcases hp with k |k <;>simp[k]
   unfold d9;split <;>simp only[EH,Jo,or_false] <;>rcases this with h |h |h <;>simp[h]
 rw[e1];constructor
 ·rintro ⟨f,hf,hp⟩;have:=(R.kmem f).mp hf
  have ok:f.1∈aC l/\f.2∈aC l:=by
   rcases R.cnt f with ⟨h |h,_⟩ |⟨_,c,_⟩
   ·exact⟨(jS (.inl rfl) _ R.asc f h).m1,(jS (.inl rfl) _ R.asc f h).m2⟩
   ·exact⟨(jS (.inr rfl) _ R.asc f h).m1,(jS (.inr rfl) _ R.asc f h).m2⟩
   ·exact absurd hf (HZ.mp c)
  rcases hp with h |h <;>rw[h]
  ·exact ok.1
  ·exact ok.2
 ·intro hp;obtain⟨e,he,k⟩:=(gA (st:=(aC l).reverse) (by rw[FD];lia) p).mp (E3.mpr hp)
  exact⟨e,(R.kmem e).mpr (EW _ (EW _ he)),k⟩
def kP(Qt:List (K4×Int)):List P2:=(Qt.filter λx=>decide (x.2=1)).flatMap λx=>[x.1.1,x.1.2]
def mU(Qt:List (K4×Int)):Nat:=(Qt.filter λx=>!decide (x.2=1)).length
theorem qJ{L M:List P2}(nd:M.Nodup)(h:∀p,p∈L↔p∈M):(ST.srt L).length=M.length:=
 ((Gb (jX ((ST.srt_asc L).imp λ{a b} h=>(cE a b).mpr h)) nd).mpr λp=>by rw[ST.srt_mem,h]).length_eq
theorem lR{l:List P2}(F:Fld l)(h3:3<=l.length):((fc (bg (bI l))).length:Int)=((aC l).length:Int)-1+((cU l).length:Int)/\
  ((ST.srt (kP (fc (bg (bI l))))).length:Int)=2*(((aC l).length:Int)-1)-((cU l).length:Int)/\
  (mU (fc (bg (bI l))):Int)=2*((cU l).length:Int)-(((aC l).length:Int)-1):=by
 have R:=n8 F h3;have P:=rK h3;obtain⟨_,_,n3⟩:=io F h3;have l1:=dR 1 (aC l);have l2:=dR (-1) (aC l);have w1:=FJ.mpr (R.kw (.inl rfl)).ne;have w2:=FJ.mpr (R.kw (.inr rfl)).ne;have rl:(cU l).length=(av 1 (aC l)).2.length+(av (-1) (aC l)).2.length:=by unfold cU;rw[EY]
 have e1:(fc (bg (bI l))).length=(av 1 (aC l)).2.length+((av (-1) (aC l)).2.length+((aC l).length-1)):=by
  rw[kU R.kdd λf=>by rw[P.mem_iff,R.kmem],EY,EY,Ex,Ex,dk,FD]
 have O:=iQ (bg (bI l));generalize fc (bg (bI l))=kv at *
 have one:∀f,f∈(kv.filter λx=>decide (x.2=1)).map (·.1)↔f∈ar (av 1 (aC l)).1++ar (av (-1) (aC l)).1:=λf=>by
  rw[<-R.one f,<-P.count_eq f,ED];constructor
  ·rintro ⟨x,hx,rfl⟩;obtain⟨m,e⟩:=FE.mp hx;have:=O.ct x m;have e':x.2=1:=by simpa using e
   lia
  ·intro h;have m:f∈bg (bI l):=Nv.mp (by lia)
   obtain⟨x,hx,rfl⟩:=ED.mp ((O.mem f).mpr m);exact⟨x,FE.mpr ⟨hx,by have:=O.ct x hx;simp;lia⟩,rfl⟩
 have s1:(kv.filter λx=>decide (x.2=1)).length=((av 1 (aC l)).1.length-1)+((av (-1) (aC l)).1.length-1):=by
  have nd:((kv.filter λx=>decide (x.2=1)).map (·.1)).Nodup:=O.nd.sublist (List.filter_sublist.map _)
  have:=((Gb nd R.ond).mpr one).length_eq;rw[Ex,EY,dk,dk]at this;exact this
 have s2:=(List.filter_append_perm (λx:K4×Int=>decide (x.2=1)) kv).length_eq
 rw[EY]at s2;obtain⟨L,Lnd,Ll,_,Lm⟩:=R.rimL
 have e2:(ST.srt (kP kv)).length=L.length:=qJ Lnd λp=>by
  rw[Lm];unfold kP;rw[IH];constructor
  ·rintro ⟨x,hx,hp⟩;refine⟨x.1,(one x.1).mp (ED.mpr ⟨x,hx,rfl⟩),?_⟩;simpa using hp
  ·rintro ⟨e,he,hp⟩;obtain⟨x,hx,rfl⟩:=ED.mp ((one e).mpr he);exact⟨x,hx,by simpa using hp⟩
 unfold mU;refine⟨by lia,by lia,by lia⟩
def vT:List P2->List K4
 |a::b::r=>(a,b)::vT (b::r)
 |_=>[]
theorem ur:∀r:List P2,(vT r).length=r.length-1
 |[]=>rfl
 |[_]=>rfl
 |a::b::r=>by rw[vT,E9,ur (b::r)];rfl
theorem sT:∀r:List P2,Mx ((vT r).map (·.1)) r
 |[]=>.slnil
 |[_]=>N9 _
 |a::b::r=>(sT (b::r)).cons_cons a
theorem kN:∀{r:List P2},r.Pairwise plt->bg (cP r)=vT r
 |[],_=>rfl
 |[_],_=>rfl
 |a::b::r,h=>by
  obtain⟨h1,h2⟩:=Fq.mp h;have ih:=kN h2;unfold bg at *;rw[cP,GP,ih,qs2,(f7 (h1 b EF)).1];rfl
theorem pS:∀r:List P2,(cP r).length=r.length-1
 |[]=>rfl
 |[_]=>rfl
 |a::b::r=>by rw[cP,E9,pS (b::r)];rfl
theorem lI:∀{r:List P2},2<=r.length->∀p,p∈(cP r).flatten↔p∈r
 |[],h,_=>by simp at h
 |[_],h,_=>by simp at h
 |[a,b],_,p=>by simp[cP]
 |a::b::c::r,_,p=>by
  have ih:=lI (r:=b::c::r) (by simp) p
  rw[cP,NO,EX,ih];simp only[EH,Jo,or_false];constructor
  ·rintro ((h |h) |h) <;>simp_all
  ·rintro (h |h) <;>simp_all
theorem o5:∀{r:List P2},r.Pairwise plt->∀q∈cP r,q.length=2/\q.Nodup
 |[],_,q,h=>by simp[cP]at h
 |[_],_,q,h=>by simp[cP]at h
 |a::b::r,hp,q,h=>by
  obtain⟨h1,h2⟩:=Fq.mp hp;rcases EH.mp h with z |z
  ·rw[z];exact⟨rfl,jX (Fq.mpr ⟨λx hx=>by rw[EJ.mp hx];exact h1 b EF,List.pairwise_singleton _ _⟩)⟩
  ·exact o5 h2 q z
theorem sq{q:List P2}{i:Nat}(h:i<q.length):gp q i=q[i]:=by
 have:=du h;rw[Ey h]at this;exact (Fk this).symm
theorem wN{q:List P2}(nd:q.Nodup)(f:K4):f∈e7 q↔f∈iW q q:=by
 have pm:f∈iW q q↔f.1∈q/\f.2∈q/\ST.ltP f.1 f.2=true:=by
  unfold iW;rw[IH];constructor
  ·rintro ⟨P,hP,h⟩;obtain⟨Q,hQ,rfl⟩:=ED.mp h;obtain⟨q1,q2⟩:=FE.mp hQ;exact⟨hP,q1,q2⟩
  ·rintro ⟨h1,h2,h3⟩;exact⟨f.1,h1,ED.mpr ⟨f.2,FE.mpr ⟨h2,h3⟩,rfl⟩⟩
 rw[pm];unfold e7 eE;rw[IH];constructor
 ·rintro ⟨k,hk,h⟩;obtain⟨j,hj,rfl⟩:=ED.mp h;have hk:=E5.mp hk;have hj:=E5.mp hj
  have ne:gp q j≠gp q k:=λe=>by
   rw[sq hk,sq (by lia)]at e
   exact (FA.mp nd j k (by lia) hk hj) e
  have m1:=fI (l:=q) (i:=j) (by lia)
  have m2:=fI (l:=q) (i:=k) hk;rcases dq (gp q j) (gp q k) with z |z |z
  ·rw[(f7 z).1];exact⟨m1,m2,(cE _ _).mp z⟩
  ·exact absurd z ne
  ·rw[(f7 z).2];exact⟨m2,m1,(cE _ _).mp z⟩
 ·rintro ⟨h1,h2,h3⟩;obtain⟨i,hi,e1⟩:=Ir h1;obtain⟨j,hj,e2⟩:=Ir h2;have lt:=(cE f.1 f.2).mpr h3;have g1:gp q i=f.1:=by rw[sq hi,e1]
  have g2:gp q j=f.2:=by rw[sq hj,e2]
  rcases Hg i j with z |z |z
  ·exact⟨j,E5.mpr hj,ED.mpr ⟨i,E5.mpr z,by rw[g1,g2,(f7 lt).1]⟩⟩
  ·subst z;rw[e1]at e2;rw[e2]at lt;exact absurd lt (cj _)
  ·exact⟨i,E5.mpr hi,ED.mpr ⟨j,E5.mpr z,by rw[g1,g2,(f7 lt).2]⟩⟩
theorem BR{ls:List (List P2)}(h:∀q∈ls,q.Nodup):(ddp (gF ls)).length=(fc (bg ls)).length:=
 (kU (m7 _) λf=>by
  rw[jo];unfold bg gF;rw[IH,IH];exact⟨λ⟨q,hq,k⟩=>⟨q,hq,(wN (h q hq) f).mp k⟩,λ⟨q,hq,k⟩=>⟨q,hq,(wN (h q hq) f).mpr k⟩⟩).symm
def gg(l:List P2):Int:=if l.length<3 then 0 else ((cU l).length:Int)
structure PcF(l:List P2):Prop where
 sp:ST.srt (bI l).flatten=aC l
 kl:((fc (bg (bI l))).length:Int)=((aC l).length:Int)-1+gg l
 q:∀q∈bI l,q.length=min 3 l.length/\q.Nodup
 c3:(uO (bI l):Int)=gg l
 ln:3<=l.length->((bI l).length:Int)=gg l
 le:(aC l).length<=31->(bI l).length<=60
theorem qg{ls:List (List P2)}{m:Nat}(h:∀q∈ls,q.length=m):uO ls=if m=3 then ls.length else 0:=by
 unfold uO;by_cases e:m=3
 ·rw[if_pos e,List.filter_eq_self.mpr λq hq=>by simpa using (h q hq).trans e]
 ·rw[if_neg e,List.filter_eq_nil_iff.mpr λq hq=>by simpa using λz=>e ((h q hq).symm.trans z)];rfl
theorem pcf{l:List P2}(F:Fld l):PcF l:=by
 have fm:=dt F;have spo:(∀p,p∈(bI l).flatten↔p∈aC l)->ST.srt (bI l).flatten=aC l:=λh=>jt F λp=>by rw[h,fm]
 rcases F.cases with ⟨A,rfl⟩ |⟨A,B,rfl,lt⟩ |h3
 ·have e:bI [A]=[[A]]:=rfl;have f1:=jO F;rw[f1]at spo;refine⟨by rw[f1];exact spo (by rw[e];simp),by rw[f1,e];rfl,by rw[e];simp,by rw[e];rfl,λh=>by simp at h,λ_=>by rw[e];simp⟩
 ·have e:bI [A,B]=cP (aC [A,B]):=rfl;have f2:=oH F lt;have Qv:((A,B):P2×P2).1≠((A,B):P2×P2).2:=λe=>cj B (by have e':A=B:=e;have:=(cE A B).mpr lt;rw[e']at this;exact this)
  have gp:=dQ Qv;have n2:2<=(aC [A,B]).length:=by lia
  have qq:=o5 (cH [A,B]);refine⟨spo (by rw[e];exact lI n2),?_,by rw[e];exact qq,?_,λh=>by simp at h,λh=>by rw[e,pS];lia⟩
  ·rw[e,kN (cH _),kU (dd:=vT (aC [A,B])) (MT _ (λa b (z:a.1≠b.1) (e:a=b)=>z (by rw[e])) ((jX (cH _)).sublist (sT _))) λ_=>Iff.rfl,ur]
   unfold gg;rw[if_pos (by simp)];lia
  ·rw[e,qg λq hq=>(qq q hq).1];rfl
 ·rw[F.cr]at h3
  have len:(bI l).length=(cU l).length:=by
   unfold bI;rw[if_neg (by lia),if_neg (by lia),Ex,(oE l).length_eq]
   unfold pcs;rw[Ex]
  have tn:gg l=((cU l).length:Int):=by unfold gg;rw[if_neg (by lia)]
  have qq:∀q∈bI l,q.length=3/\q.Nodup:=λq hq=>by
   unfold bI at hq;rw[if_neg (by lia),if_neg (by lia)]at hq
   obtain⟨T,hT,rfl⟩:=ED.mp hq;obtain⟨t,ht,rfl⟩:=ED.mp ((SG.srt_mem _ _ _).mp hT);obtain⟨a,b⟩:=v9 ht;refine⟨rfl,?_⟩;have n1:t.1≠t.2.1:=λe=>cj _ (e ▸ a)
   have n2:t.2.1≠t.2.2:=λe=>cj _ (e ▸ b)
   have n3:t.1≠t.2.2:=λe=>cj _ (e ▸ aN a b)
   unfold d9;split <;>simp[n1,n2,n3,Ne.symm n2]
  have tl:=mL l;refine⟨spo (yX F h3),?_,λq hq=>?_,?_,λ_=>by rw[len,tn],λh=>?_⟩
  ·rw[tn];exact (lR F h3).1
  ·rw[MA h3];exact qq q hq
  ·rw[qg λq hq=>(qq q hq).1,if_pos rfl,len,tn]
  ·have l1:=dR 1 (aC l);have l2:=dR (-1) (aC l);have R:=n8 F h3;have w1:=FJ.mpr (R.kw (.inl rfl)).ne;have w2:=FJ.mpr (R.kw (.inr rfl)).ne;rw[len];unfold cU;rw[EY];lia
def fV(ns:List Int)(k:Int):Int:=if k<(ns.length:Int) then ns.getD k.toNat 0 else 0
theorem nM{ns:List Int}(h:∀m∈ns,Sz 1048576 m)(k:Int):Sz 1048576 (fV ns k):=by
 unfold fV;split
 ·exact Ag h _
 ·exact Sz.mono (m:=8) (by decide) (by decide)
def vv:List U->Out->Prop:=λus o=>∃(ns:List Int) (k:Int),us=[.scr (ns.map U.int),.int k]/\0<=k/\o=.val (.int (fV ns k))
theorem br(T:Txt w K mg):aZ P w K mg base (CXF P w) 1 T.aaa.a T.aaa.d ["script","k"] (spU K (vv)):=by
 refine a9 T.aaa.F jf (λus o h=>?_) (λQA A outer s H E O us o hr h=>?_)
 ·obtain⟨ns,k,rfl,h0,rfl⟩:=h;rfl
 obtain⟨ns,k,rfl,h0,rfl⟩:=h;refine Ws.nox ?_;have hm:((ns.map U.int).length:Int)=(ns.length:Int):=by rw[Ex]
 refine af (lh (aK iC (aa 1 rfl) (aq (bM rfl) rfl T.aag Fj (ae (aa 0 rfl) ak ah))) (λhT=>?_) (λhF=>(aH ?_)))
 ·rw[hm]at hT;have hk:=dTb hT;refine af (ba (aF (aa 0 rfl) (aa 1 rfl) rfl (xw h0 hk)) ?_);exact vIO (by unfold fV;rw[if_pos hk])
 ·rw[hm]at hF;have hk:=dFb hF;refine af (ba ag ?_);exact vIO (by unfold fV;rw[if_neg hk])
def Aj:List U->Out->Prop:=λus o=>∃n:Int,us=[.int n]/\o=.val (.bl true)
theorem eU(T:Txt w K mg):aZ P w K mg base (CXF P w) 1 T.aab.a T.aab.d ["found"] (spU K (Aj)):=by
 refine a9 T.aab.F k7 (λus o h=>?_) (λQA A outer s H E O us o hr h=>?_)
 ·obtain⟨n,rfl,rfl⟩:=h;rfl
 obtain⟨n,rfl,rfl⟩:=h;refine Ws.nox ?_;refine af (ba (lM (aq (cX (by intro _ h;cases h) (by walk_at"kit")) rfl T.aae Hr (ae (aa 0 rfl) (ae (mR rfl T.aa4 boot_int) ak ah) ah)) (λhz=>(rT (Bs (aq (cX (by intro _ h;cases h) (by walk_at"kit")) rfl T.aae Hr (ae (aa 0 rfl) (ae (mR rfl T.aa2 boot_bool) ak ah) ah)))))) ?_)
 exact rfl
def uA:List U->Out->Prop:=λus o=>∃p:P2,us=[pu p]/\o=.val (.bl true)
theorem iR(T:Txt w K mg):aZ P w K mg base (CXF P w) 2 T.aaf.a T.aaf.d ["found"] (spU K (uA)):=by
 refine a9 T.aaf.F iS (λus o h=>?_) (λQA A outer s H E O us o hr h=>?_)
 ·obtain⟨p,rfl,rfl⟩:=h;rfl
 obtain⟨p,rfl,rfl⟩:=h;refine Ws.nox ?_;refine af (ba (lM (aq (cX (by intro _ h;cases h) (by walk_at"kit")) rfl T.aae Hr (ae (aa 0 rfl) (ae (mR rfl T.aaS MH) ak ah) ah)) (λhz=>(lM (lW cY (aq (bM rfl) rfl T.aag Fj (ae (aa 0 rfl) ak ah)) ag) (λhz=>(lM (aB ((eU T).mono (by decide)) hr rfl T.aab.m T.aab.F.kp T.aab.b aA (ae (aF (aa 0 rfl) ag rfl rfl) ak bh) ⟨_,rfl,rfl⟩) (λhz=>(rT (aB ((eU T).mono (by decide)) hr rfl T.aab.m T.aab.F.kp T.aab.b aA (ae (aF (aa 0 rfl) ag rfl rfl) ak bh) ⟨_,rfl,rfl⟩)))))))) ?_)
 exact rfl
def qM:List U->Out->Prop:=λus o=>∃P Q R:P2,us=[pu P,pu Q,pu R]/\Szp 5000 P/\Szp 5000 Q/\Szp 5000 R/\o=.val (.int (ac P Q R))
theorem lf(T:Txt w K mg):aZ P w K mg base (CXF P w) 1 T.aaq.a T.aaq.d ["one","two","three"] (spU K (qM)):=by
 refine a9 T.aaq.F gP (λus o h=>?_) (λQA A outer s H E O us o hr h=>?_)
 ·obtain⟨P,Q,R,rfl,⟨p1,p2⟩,⟨q1,q2⟩,⟨r1,r2⟩,rfl⟩:=h;rfl
 obtain⟨P,Q,R,rfl,⟨p1,p2⟩,⟨q1,q2⟩,⟨r1,r2⟩,rfl⟩:=h;refine Ws.nox ?_;refine af (aE (i:=3) gP.nd rfl (Or.inl rfl) (be (bm (aF (aa 1 rfl) ag rfl rfl) (aF (aa 0 rfl) ag rfl rfl)) (bm (aF (aa 2 rfl) ag rfl rfl) (aF (aa 0 rfl) ag rfl rfl)) (by walk_at"mul")) ?_)
 refine af (ba (bm (aa 3 rfl) (be (bm (aF (aa 1 rfl) ag rfl rfl) (aF (aa 0 rfl) ag rfl rfl)) (bm (aF (aa 2 rfl) ag rfl rfl) (aF (aa 0 rfl) ag rfl rfl)) (by walk_at"mul"))) ?_)
 exact rfl
theorem zd{pts:List P2}(h:(ST.srt pts).length=2):am pts=ST.srt pts:=by
 match e:ST.srt pts,h with
 |[a,b],_=>
  unfold am;rw[e];simp[ai,aM]
def hJ(row:List P2)(j:Nat):List P2:=if j=0 then [] else if j=1 then (ai row).reverse.dropLast else (ai row).reverse.dropLast++(ai row.reverse).reverse.dropLast
def lj:List U->Out->Prop:=λus o=>∃pts:List P2,us=[lp pts]/\(∀p∈pts,Szp 5000 p)/\pts.length<64/\o=.val (lp (am pts))
theorem jb(T:Txt w K mg):aZ P w K mg base (CXF P w) 2 T.aak.a T.aak.d ["points"] (spU K (lj)):=by
 refine a9 T.aak.F bq (λus o h=>?_) (λQA A outer s H E O us o hr h=>?_)
 ·obtain⟨pts,rfl,sz,hl,rfl⟩:=h;rfl
 obtain⟨pts,rfl,sz,hl,rfl⟩:=h;refine Ws.nox ?_;have sl:=ST.srt_len pts;have Tr:(((ST.srt pts).map pu).length:Int)=((ST.srt pts).length:Int):=by rw[Ex]
 have szs:=wH sz;have b1:=gj (ST.srt pts);have b2:=gj (ST.srt pts).reverse;rw[FD]at b2;refine af (aE (i:=1) bq.nd rfl (Or.inl rfl) (EvN.ev (fB rfl (fL hr) rfl T.aaM rfl T.aaX (aa 0 rfl) (nT hl) ah)) ?_);by_cases h1:(ST.srt pts).length<3
 ·have ec:am pts=ST.srt pts:=by
   by_cases h2:(ST.srt pts).length=2
   ·exact zd h2
   ·exact cN (by lia)
  refine af (gG (aK iC (aq (bM rfl) rfl T.aag Fj (ae (aa 1 rfl) ak ah)) ag) (by rw[Tr];exact decide_eq_true (by lia)) ?_)
  refine af (ba (aa 1 rfl) ?_);rw[ec]
 ·have ec:am pts=hJ (ST.srt pts) 2:=by unfold am hJ;rw[if_neg (by lia)];rfl
  rw[ec];refine af (ce (aK iC (aq (bM rfl) rfl T.aag Fj (ae (aa 1 rfl) ak ah)) ag) (by rw[Tr];exact decide_eq_false (by lia)) (aH ?_))
  generalize ST.srt pts=row at *;refine af (aE (i:=2) bq.nd rfl (Or.inl rfl) (EvN.ev (b9 bi)) ?_);refine af (dN (λj:Nat=>[some (.val (lp pts)),some (.val (lp row)),some (.val (lp (hJ row j))),none,none,none]) (λi j=>i=j) rfl PassesOwn.never (cF (EvN.ev (b9 (ax (aa 1 rfl) (ax (EvN.ev (vK rfl rfl T.aaI rfl T.aaZ (aa 1 rfl) ah)) bi aQ) ah))) (.inl rfl)) ?h0 ?hs ?hd)
  case h0=>exact⟨0,rfl,rfl,rfl,rfl,trivial⟩
  case hs=>
   rintro H0 j x _ hx rfl
   have hz:∃w:List P2,x=lp w/\(∀p∈w,Szp 5000 p)/\w.length<=63/\hJ row (j+1)=hJ row j++(ai w).reverse.dropLast/\(hJ row j).length<=63:=by
    match j,hx with
    |0,hx=>
     cases hx;exact⟨row,rfl,szs,by lia,by simp[hJ],by simp[hJ]⟩
    |1,hx=>
     have e:x=U.lst ((row.map pu).reverse):=by cases hx;rfl
     subst e;exact⟨row.reverse,by rw[lp,Hd],λp hp=>szs p (E3.mp hp),by rw[FD];lia,by simp[hJ],by simp[hJ];lia⟩
    |j+2,hx=>simp at hx
   obtain⟨w,rfl,wz,wl,SJ,Rw⟩:=hz;refine⟨_,(d8 (i:=3) bq.nd rfl (Or.inl rfl)),?_⟩;have bw:=gj w;refine af (gI (i:=4) bq.nd rfl (Or.inl rfl) (b9 bi) ?_);refine gW (λps=>SubP [some (.val (lp pts)),some (.val (lp row)),some (.val (lp (hJ row j))),some (.val (lp w)),some (.own ((ai w).reverse.map pu)),none] ps) (dN (λst:List P2=>[some (.val (lp pts)),some (.val (lp row)),some (.val (lp (hJ row j))),some (.val (lp w)),some (.own (st.reverse.map pu)),none]) (λi st=>st=ai (w.take i)) rfl PassesOwn.never (cF (aa 3 rfl) (.inl rfl)) ?h02 ?hs2 ?hd2) ?hj
   case h02=>exact⟨[],rfl,rfl,rfl,rfl,rfl,rfl,trivial⟩
   case hs2=>
    rintro H0 i x _ hx rfl;obtain⟨P,hP,mP,rfl⟩:=kn hx;have hi:i<w.length:=aw hP;have sP:=wz P mP;refine⟨_,(d8 (i:=5) bq.nd rfl (Or.inl rfl)),?_⟩;have len0:=gB w i;refine gW (λps=>SubP [some (.val (lp pts)),some (.val (lp row)),some (.val (lp (hJ row j))),some (.val (lp w)),some (.own ((aM P (ai (w.take i))).reverse.map pu)),some (.val (pu P))] ps) (ix (λs2:List P2=>[some (.val (lp pts)),some (.val (lp row)),some (.val (lp (hJ row j))),some (.val (lp w)),some (.own (s2.reverse.map pu)),some (.val (pu P))]) (λm s2=>m=s2.length/\aM P s2=aM P (ai (w.take i))/\(∀p∈s2,p∈w)/\s2.length<=i) PassesOwn.never ?h03 ?hs3) ?hj3
    case h03=>exact⟨_,_,⟨rfl,rfl,λq hq=>fj w i q hq,len0⟩,rfl,rfl,rfl,rfl,rfl,rfl,trivial⟩
    case hs3=>
     rintro m s2 ⟨rfl,e2,sub,RQ⟩
     match s2,e2,sub,RQ with
     |[],e2,sub,RQ=>
      refine⟨false,?_,λh=>(nomatch h),λh ps QM=>e2 ▸ QM⟩
      exact (Tw.t (iO (aK gD (eY 4 rfl rfl T.aag) ag) rfl))
     |[b],e2,sub,RQ=>
      refine⟨false,?_,λh=>(nomatch h),λh ps QM=>e2 ▸ QM⟩
      exact (Tw.t (iO (aK gD (eY 4 rfl rfl T.aag) ag) rfl))
     |b::a::r,e2,sub,RQ=>
      have sa:=wz a (sub a (by simp))
      have sb:=wz b (sub b (by simp))
      have e1:decide ((1:Int)<((((b::a::r).reverse.map pu).length:Nat):Int))=true:=decide_eq_true (by simp;lia)
      refine⟨decide ((1:Int)<((((b::a::r).reverse.map pu).length:Nat):Int)) && decide (ac a b P<=0),?_,λh=>?_,λh ps QM=>?_⟩
      ·exact (Tw.t (pH (aK gD (eY 4 rfl rfl T.aag) ag) (λhz=>(nU (aK D7 (aB ((lf T).mono (by decide)) hr rfl T.aaq.m T.aaq.F.kp T.aaq.b aA (ae (i7 4 rfl (cu ag) (si b a r)) (ae (i7 4 rfl (cu ag) (uv b (a::r))) (ae (aa 5 rfl) ak ah) bh) bh) ⟨a,b,P,rfl,sa,sb,sP,rfl⟩) ag)))))
      ·rw[e1,Iy]at h;have hd:=dTb h;refine af (y_ 4 rfl (by simp) (aH ?_))
       refine⟨_,a::r,?_,⟨rfl,?_,λq hq=>sub q (EB _ hq),?_⟩,rfl,rfl,rfl,rfl,?_,rfl,trivial⟩
       ·simp
       ·rw[←e2];conv=>rhs;unfold aM
        rw[if_pos hd]
       ·simp only[E9]at *;lia
       ·exact congrArg (λl=>some (Sl.own l)) (by simp)
      ·rw[e1,Iy]at h;have hd:=dFb h
       have e3:aM P (b::a::r)=b::a::r:=by conv=>lhs;unfold aM
                                          rw[if_neg hd]
       rw[<-e2,e3];exact QM
    case hj3=>
     intro ps QM;refine c8 ?_ QM;have e4:=fA hP;have T8:=jv P (ai (w.take i));refine af (fh 4 rfl (aa 5 rfl) (by rw[Ex,FD];exact aG (by lia)) (aH ?_))
     refine⟨_,rfl,rfl,rfl,rfl,rfl,?_,trivial⟩;exact congrArg (λl=>some (Sl.own l)) (by rw[e4];simp)
   case hd2=>
    rintro st ps Rj QM;rw[Rj]at QM;rw[Ex,Gd]at QM;exact QM
   case hj=>
    intro ps QM;refine c8 ?_ QM;refine iV 4 rfl ?_;refine af (aE (i:=2) bq.nd rfl (Or.inl rfl) (EvN.ev (l5 (aa 2 rfl) (EvN.ev (fG (aa 4 rfl) iH (gf (cu ag)) (.inl rfl))) (by rw[iI,Ex,Ex,Hy,FD];exact F4 (aG (by lia))))) (aH ?_))
    rw[iI,<-Fi,<-SJ];exact⟨j+1,rfl,rfl,rfl,rfl,trivial⟩
  case hd=>
   rintro q ps hq QM;refine c8 ?_ QM;have:q=2:=by rw[<-hq];rfl
   subst this;refine af (ba (aa 2 rfl) ?_);exact rfl
def lnF(c:Int)(b:Bool):Int:=if b=true then c%9-4 else c%(2*10 ^ (20:Int).toNat+1)-10 ^ (20:Int).toNat
theorem nA(c:Int)(b:Bool):Sz 67 (lnF c b):=by
 unfold lnF;split
 ·exact Sz.mono (m:=8) (by unfold Sz;lia) (by decide)
 ·have h1:=G_ c (show (2*10 ^ (20:Int).toNat+1:Int)≠0 by decide+kernel)
  have h2:=GC c (show (0:Int)<2*10 ^ (20:Int).toNat+1 by decide+kernel)
  have z:Sz 67 ((10:Int) ^ (20:Int).toNat):=by decide+kernel
  exact z.natle (by lia)
def vD:List U->Out->Prop:=λus o=>∃(c:Int) (b:Bool),us=[.int c,.bl b]/\Sz 1048576 c/\o=.val (.int (lnF c b))
theorem hX(T:Txt w K mg):aZ P w K mg base (CXF P w) 1 T.aaj.a T.aaj.d ["cell","small"] (spU K (vD)):=by
 refine a9 T.aaj.F mW (λus o h=>?_) (λQA A outer s H E O us o hr h=>?_)
 ·obtain⟨c,b,rfl,sc,rfl⟩:=h;rfl
 obtain⟨c,b,rfl,sc,rfl⟩:=h;refine Ws.nox ?_;unfold lnF;cases b with
 |true=>
  refine af (gG (fU (aa 1 rfl)) rfl ?_);refine af (ba (bm (eO (aa 0 rfl) ag (by walk_at"mod")) ag) ?_)
  exact rfl
 |false=>
  refine af (ce (fU (aa 1 rfl)) rfl (aH ?_));refine af (ba (bm (eO (aa 0 rfl) (ca (be ag (jB ag ag ⟨by decide,by decide,by decide⟩) (by walk_at"mul")) ag) (by decide+kernel)) (jB ag ag ⟨by decide,by decide,by decide⟩)) ?_)
  exact rfl
def shp(ns:List Int):Int:=fV ns 0/30
def lA(ns:List Int):Int:=lnF (fV ns 1) (decide (shp ns/2%2=1))
def lB(ns:List Int):Int:=lnF (fV ns 2) (decide (shp ns/4%2=1))
def sR(ns:List Int):Int:=fV ns 3%(2*10 ^ (40:Int).toNat+1)-10 ^ (40:Int).toNat
def sU(ns:List Int):Int:=fV ns 4%(2*10 ^ (40:Int).toNat+1)-10 ^ (40:Int).toNat
def swF(ns:List Int)(p:P2):P2:=if shp ns%2=1 then (p.2,p.1) else p
def yF(ns:List Int)(p:P2):Int:=(swF ns p).2+lA ns*(swF ns p).1
def putF(ns:List Int)(p:P2):P2:=((swF ns p).1+lB ns*yF ns p+sR ns,yF ns p+sU ns)
theorem s40(c:Int):Sz 134 (c%(2*10 ^ (40:Int).toNat+1)-10 ^ (40:Int).toNat):=by
 have h1:=G_ c (show (2*10 ^ (40:Int).toNat+1:Int)≠0 by decide+kernel)
 have h2:=GC c (show (0:Int)<2*10 ^ (40:Int).toNat+1 by decide+kernel)
 have z:Sz 134 ((10:Int) ^ (40:Int).toNat):=by decide+kernel
 exact z.natle (by lia)
theorem ul{m:Nat}{ns:List Int}{p:P2}(h:Szp m p):Szp m (swF ns p):=by
 unfold swF;split
 ·exact⟨h.2,h.1⟩
 ·exact h
theorem xJ{ns:List Int}{p:P2}(h:Szp 8 p):Sz 76 (yF ns p):=(L2.Sz.add' ((ul (ns:=ns) h).2.mono (n:=75) (by decide)) (L2.Sz.mul (nA _ _) (ul (ns:=ns) h).1)).mono (by decide)
theorem Ct{ns:List Int}{p:P2}(h:Szp 8 p):Szp 150 (putF ns p):=
 ⟨(L2.Sz.add' (L2.Sz.add' ((ul (ns:=ns) h).1.mono (n:=143) (by decide)) (L2.Sz.mul (nA _ _) (xJ h))) ((s40 _).mono (n:=144) (by decide))).mono (by decide),(L2.Sz.add' ((xJ h).mono (n:=134) (by decide)) (s40 _)).mono (by decide)⟩
theorem Cf(ns:List Int):∃a b c d e f:Int,(a*d-b*c=1\/a*d-b*c=-1)/\putF ns=ap a b c d e f:=by
 by_cases h:shp ns%2=1
 ·refine⟨lB ns,1+lA ns*lB ns,1,lA ns,sR ns,sU ns,.inr (by grind),funext λp=>?_⟩
  unfold putF yF swF ap;rw[if_pos h];refine GD ?_ ?_ <;>dsimp only <;>grind
 ·refine⟨1+lA ns*lB ns,lB ns,lA ns,1,sR ns,sU ns,.inl (by grind),funext λp=>?_⟩
  unfold putF yF swF ap;rw[if_neg h];refine GD ?_ ?_ <;>dsimp only <;>grind
def wC:List U->Out->Prop:=λus o=>∃(p:P2) (ns:List Int),us=[pu p,.scr (ns.map U.int)]/\(∀m∈ns,Sz 1048576 m)/\Szp 8 p/\o=.val (pu (putF ns p))
theorem pY(T:Txt w K mg):aZ P w K mg base (CXF P w) 2 T.aaF.a T.aaF.d ["spot","script"] (spU K (wC)):=by
 refine a9 T.aaF.F bG (λus o h=>?_) (λQA A outer s H E O us o hr h=>?_)
 ·obtain⟨p,ns,rfl,hB,sp,rfl⟩:=h;rfl
 obtain⟨p,ns,rfl,hB,sp,rfl⟩:=h;refine Ws.nox ?_;have c1:=nM hB 1;have c2:=nM hB 2;have w:=ul (ns:=ns) sp;have w1:=w.1;have w2:=w.2;have yz:=xJ (ns:=ns) sp;have az:Sz 67 (lA ns):=nA _ _;have bz:Sz 67 (lB ns):=nA _ _;refine af (DH (aa 0 rfl) (Bl [2,3] rfl (dE (bC (i:=2) bG.nd rfl (Or.inl rfl)) (dE (bC (i:=3) bG.nd rfl (Or.inl rfl)) jr)) rfl) ?_);refine af (aE (i:=4) bG.nd rfl (Or.inl rfl) (e_ (aB ((br T).mono (by decide)) hr rfl T.aaa.m T.aaa.F.kp T.aaa.b aA (ae (aa 1 rfl) (ae ag ak dj) ah) ⟨ns,_,rfl,by decide,rfl⟩) ag (by walk_at"div")) ?_)
 rw[show fV ns 0/30=shp ns from rfl]
 refine gW (λps=>SubP [some (.val (pu p)),some (.val (.scr (ns.map U.int))),some (.val (.int (swF ns p).1)),some (.val (.int (swF ns p).2)),some (.val (.int (shp ns))),none,none] ps) (lh (aK cY (eO (aa 4 rfl) ag (by walk_at"mod")) ag) (λhT=>?_) (λhF=>(aH ?_))) ?hj
 ·have e:swF ns p=(p.2,p.1):=by unfold swF;rw[if_pos (dTb hT)]
  refine af (C9 (i:=2) (j:=3) rfl bG.nd rfl rfl (by decide) rfl rfl (ae (aa 3 rfl) (ae (aa 2 rfl) ak ah) ah) rfl (aH ?_))
  rw[e];exact⟨rfl,rfl,rfl,rfl,rfl,trivial⟩
 ·have e:swF ns p=p:=by unfold swF;rw[if_neg (dFb hF)]
  rw[e];exact⟨rfl,rfl,rfl,rfl,rfl,trivial⟩
 case hj=>
  intro ps QM;refine c8 ?_ QM;refine af (aE (i:=3) bG.nd rfl (Or.inl rfl) (ca (aa 3 rfl) (be (aB ((hX T).mono (by decide)) hr rfl T.aaj.m T.aaj.F.kp T.aaj.b aA (ae (aB ((br T).mono (by decide)) hr rfl T.aaa.m T.aaa.F.kp T.aaa.b aA (ae (aa 1 rfl) (ae ag ak dj) ah) ⟨ns,_,rfl,by decide,rfl⟩) (ae (lW cY (eO (e_ (aa 4 rfl) ag (by walk_at"div")) ag (by walk_at"mod")) ag) ak rq) aQ) ⟨_,_,rfl,c1,rfl⟩) (aa 2 rfl) (L2.Sz.ok az w1 (by decide)))) ?_)
  refine af (aE (i:=2) bG.nd rfl (Or.inl rfl) (ca (aa 2 rfl) (be (aB ((hX T).mono (by decide)) hr rfl T.aaj.m T.aaj.F.kp T.aaj.b aA (ae (aB ((br T).mono (by decide)) hr rfl T.aaa.m T.aaa.F.kp T.aaa.b aA (ae (aa 1 rfl) (ae ag ak dj) ah) ⟨ns,_,rfl,by decide,rfl⟩) (ae (lW cY (eO (e_ (aa 4 rfl) ag (by walk_at"div")) ag (by walk_at"mod")) ag) ak rq) aQ) ⟨_,_,rfl,c2,rfl⟩) (aa 3 rfl) (L2.Sz.ok bz yz (by decide)))) ?_)
  refine af (aE (i:=5) bG.nd rfl (Or.inl rfl) (bm (eO (aB ((br T).mono (by decide)) hr rfl T.aaa.m T.aaa.F.kp T.aaa.b aA (ae (aa 1 rfl) (ae ag ak dj) ah) ⟨ns,_,rfl,by decide,rfl⟩) (ca (be ag (jB ag ag ⟨by decide,by decide,by decide⟩) (by walk_at"mul")) ag) (by decide+kernel)) (jB ag ag ⟨by decide,by decide,by decide⟩)) ?_)
  refine af (aE (i:=6) bG.nd rfl (Or.inl rfl) (bm (eO (aB ((br T).mono (by decide)) hr rfl T.aaa.m T.aaa.F.kp T.aaa.b aA (ae (aa 1 rfl) (ae ag ak dj) ah) ⟨ns,_,rfl,by decide,rfl⟩) (ca (be ag (jB ag ag ⟨by decide,by decide,by decide⟩) (by walk_at"mul")) ag) (by decide+kernel)) (jB ag ag ⟨by decide,by decide,by decide⟩)) ?_)
  refine af (ba (b8 (ax (ca (aa 2 rfl) (aa 5 rfl)) (ax (ca (aa 3 rfl) (aa 6 rfl)) bi bK) bK)) ?_);exact rfl
theorem CI(l:List U):g7 l (some 6) (some 60)=(l.drop 6).take 54:=by
 unfold g7;rw[show HT.sIx l.length 0 (some 6)=min 6 l.length from rfl,show HT.sIx l.length l.length (some 60)=min 60 l.length from rfl]
 by_cases h5:6<=l.length
 ·rw[MA h5];by_cases h60:60<=l.length
  ·rw[MA h60]
  ·rw[Nat.min_eq_right (by lia),JH (by simp),JH (by simp;lia)]
 ·rw[L1 (by lia),L1 (by lia)];simp
def eC(ns:List Int):List Int:=if (ns.drop 6).take 54=[] then [0] else (ns.drop 6).take 54
def eW(ns:List Int):Int:=1+fV ns 0%6
def eH(ns:List Int):Int:=1+fV ns 0/6%5
def e0(ns:List Int):List P2:=(eC ns).map λc=>(c%eW ns,c/eW ns%eH ns)
def eP(ns:List Int):List P2:=(e0 ns).map (putF ns)
theorem Bt{ns:List Int}(hB:∀m∈ns,Sz 1048576 m):(eC ns).length<=54/\eC ns≠[]/\∀c∈eC ns,Sz 1048576 c:=by
 unfold eC;split
 ·exact⟨by simp,by simp,λc hc=>by simp at hc;rw[hc];exact Sz.mono (m:=8) (by decide) (by decide)⟩
 ·rename_i h
  exact⟨by simp;lia,h,λc hc=>hB c (List.mem_of_mem_drop (Ii hc))⟩
theorem eWH(ns:List Int):(0<eW ns/\eW ns<=6)/\0<eH ns/\eH ns<=5:=by unfold eW eH;lia
def W5(p:P2):Prop:=(0<=p.1/\p.1<=5)/\0<=p.2/\p.2<=4
theorem C2(ns:List Int):∀p∈e0 ns,W5 p:=λp hp=>by
 obtain⟨c,_,rfl⟩:=ED.mp hp;obtain⟨w0,h0⟩:=eWH ns;have a1:=G_ c (show eW ns≠0 by lia)
 have a2:=GC c w0.1;have b1:=G_ (c/eW ns) (show eH ns≠0 by lia)
 have b2:=GC (c/eW ns) h0.1;unfold W5;dsimp only;lia
theorem A_{p:P2}(h:W5 p):Szp 8 p:=by unfold W5 at h;exact⟨by unfold Sz;lia,by unfold Sz;lia⟩
theorem wn{l:List P2}(F:Fld l){p:P2}(h:dy l p=true)(a b:Int):∃q∈l,wth a b p<=wth a b q:=by
 rcases F.cases with ⟨A,rfl⟩ |⟨A,B,rfl,lt⟩ |h3
 ·rw[(iJ A p).mp h];exact⟨A,by simp,Kt _⟩
 ·obtain⟨k,k0,k1,rfl⟩:=(gw lt).mp ((jH A B p).mp h);have e1:wth a b (onS (A,B) k)=wth a b A+k*(a*ub (A,B)+b*vb (A,B)):=by unfold wth onS;grind
  have e2:wth a b B=wth a b A+gst (A,B) *(a*ub (A,B)+b*vb (A,B)):=by
   have q1:=gQ (A,B);have q2:=gL (A,B);dsimp only at q1 q2;have:gst (A,B) *(a*ub (A,B)+b*vb (A,B))=a*(gst (A,B) *ub (A,B))+b*(gst (A,B) *vb (A,B)):=by grind
   rw[this,<-q1,<-q2];unfold wth;grind
  rcases F6 (a*ub (A,B)+b*vb (A,B)) 0 with z |z
  ·refine⟨A,by simp,?_⟩
   rw[e1];have:=E_ k0 (show 0<=-(a*ub (A,B)+b*vb (A,B)) by lia)
   have e3:k* -(a*ub (A,B)+b*vb (A,B))=-(k*(a*ub (A,B)+b*vb (A,B))):=by grind
   lia
  ·refine⟨B,by simp,?_⟩
   rw[e1,e2];have:=Int.mul_le_mul_of_nonneg_right k1 z;lia
 ·have hc:=F.cr;have w:=BE h3 a b (q:=p) (by rw[hc];exact (fP (by rw[<-hc];exact h3) p).mp h)
  rw[hc]at w;obtain⟨⟨q,hq,e⟩,_⟩:=jx a b F.ne;exact⟨q,hq,by lia⟩
def W30:List P2:=(Fw 30).map λk=>(((k%6:Nat):Int),((k/6:Nat):Int))
theorem A3{p:P2}(h:W5 p):p∈W30:=by
 unfold W5 at h;unfold W30;refine ED.mpr ⟨(p.1+6*p.2).toNat,E5.mpr (by lia),GD (by dsimp only;lia) (by dsimp only;lia)⟩
theorem D8{P0:List P2}(Qv:P0≠[])(hw:∀p∈P0,W5 p){a b c d:Int}(e f:Int)(h:a*d-b*c=1\/a*d-b*c=-1):(aC (am (P0.map (ap a b c d e f)))).length<=30:=by
 have F:Fld (am (P0.map (ap a b c d e f))):=⟨ij (by simpa using Qv),gy _⟩
 have DD:(a*d-b*c) *(a*d-b*c)=1:=by rcases h with h |h <;>rw[h] <;>rfl
 have:=dh (jX (cH (am (P0.map (ap a b c d e f))))) (m:=W30.map (ap a b c d e f)) λq hq=>by
  obtain⟨p,rfl⟩:=BG (e:=e) (f:=f) h q;refine ED.mpr ⟨p,A3 ?_,rfl⟩;have RZ:=(dt F _).mp hq
  have kx:∀s:Int,∃p'∈P0,s*p.1<=s*p'.1:=λs=>by
   obtain⟨q,hq,Sy⟩:=wn F RZ (s*(a*d-b*c) *d) (-(s*(a*d-b*c) *b));obtain⟨p',QW,rfl⟩:=ED.mp (bj _ q hq);refine⟨p',QW,?_⟩;have key:∀r:P2,wth (s*(a*d-b*c) *d) (-(s*(a*d-b*c) *b)) (ap a b c d e f r)=s*((a*d-b*c) *(a*d-b*c)) *r.1+s*(a*d-b*c) *(d*e-b*f):=λr=>by unfold wth ap;grind
   rw[key,key,DD,JQ]at Sy;lia
  have ky:∀s:Int,∃p'∈P0,s*p.2<=s*p'.2:=λs=>by
   obtain⟨q,hq,Sy⟩:=wn F RZ (-(s*(a*d-b*c) *c)) (s*(a*d-b*c) *a);obtain⟨p',QW,rfl⟩:=ED.mp (bj _ q hq);refine⟨p',QW,?_⟩;have key:∀r:P2,wth (-(s*(a*d-b*c) *c)) (s*(a*d-b*c) *a) (ap a b c d e f r)=s*((a*d-b*c) *(a*d-b*c)) *r.2+s*(a*d-b*c) *(a*f-c*e):=λr=>by unfold wth ap;grind
   rw[key,key,DD,JQ]at Sy;lia
  obtain⟨x1,m1,h1⟩:=kx 1;obtain⟨x2,m2,h2⟩:=kx (-1);obtain⟨x3,m3,h3⟩:=ky 1;obtain⟨x4,m4,h4⟩:=ky (-1);have w1:=hw x1 m1;have w2:=hw x2 m2;have w3:=hw x3 m3;have w4:=hw x4 m4;unfold W5 at *;lia
 rw[Ex]at this;have e:W30.length=30:=by decide
 lia
theorem tW(l:List Int):eqW (.lst (l.map U.int)) (.lst [])=decide (l=[]):=by
 cases l with
 |nil=>rfl
 |cons a l=>simp[eqW,eqWs]
theorem Bv(ns:List Int):∀p∈eP ns,Szp 150 p:=λp hp=>by
 obtain⟨q,hq,rfl⟩:=ED.mp hp;exact Ct (A_ (C2 ns q hq))
structure K29(l:List P2):Prop where
 O:C6 l
 np:(aC l).length<=30
theorem Cy{ns:List Int}(hB:∀m∈ns,Sz 1048576 m):K29 (am (eP ns)):=by
 obtain⟨k1,k2,k3⟩:=Bt hB;have ene:eP ns≠[]:=by unfold eP e0;simpa using k2
 have el:(eP ns).length<=54:=by unfold eP e0;rw[Ex,Ex];exact k1
 have F:Fld (am (eP ns)):=⟨ij ene,gy _⟩;have cl:(am (eP ns)).length<=54:=Gg (iy _) el
 have np:(aC (am (eP ns))).length<=30:=by
  obtain⟨a,b,c,d,e,f,hd,hp⟩:=Cf ns;unfold eP;rw[hp];exact D8 (by unfold e0;simpa using k2) (C2 ns) e f hd
 refine⟨⟨F,by lia,λp hp=>Bv ns p (bj _ p hp),by rw[sK F];lia,by lia,λh3=>?_⟩,np⟩
 have:=mL (am (eP ns));unfold pcs;rw[Ex];lia
def vZ:List U->Out->Prop:=λus o=>∃ns:List Int,us=[.scr (ns.map U.int)]/\(∀m∈ns,Sz 1048576 m)/\o=.val (lp (am (eP ns)))
theorem oj(T:Txt w K mg):aZ P w K mg base (CXF P w) 3 T.aau.a T.aau.d ["script"] (spU K (vZ)):=by
 refine a9 T.aau.F bS (λus o h=>?_) (λQA A outer s H E O us o hr h=>?_)
 ·obtain⟨ns,rfl,hB,rfl⟩:=h;rfl
 obtain⟨ns,rfl,hB,rfl⟩:=h;refine Ws.nox ?_;obtain⟨w0,h0⟩:=eWH ns;have wz:Sz 9000 (eW ns):=Sz.mono (m:=8) (by unfold Sz;lia) (by decide)
 obtain⟨k1,k2,k3⟩:=Bt hB;have ew:=C2 ns;refine af (aE (i:=1) bS.nd rfl (Or.inl rfl) (aB ((br T).mono (by decide)) hr rfl T.aaa.m T.aaa.F.kp T.aaa.b aA (ae (aa 0 rfl) (ae ag ak dj) ah) ⟨ns,_,rfl,by decide,rfl⟩) ?_)
 refine af (aE (i:=2) bS.nd rfl (Or.inr rfl) (ca ag (eO (aa 1 rfl) ag (by walk_at"mod"))) ?_)
 refine af (aE (i:=3) bS.nd rfl (Or.inr rfl) (ca ag (eO (e_ (aa 1 rfl) ag (by walk_at"div")) ag (by walk_at"mod"))) ?_)
 rw[show 1+fV ns 0%6=eW ns from rfl,show 1+fV ns 0/6%5=eH ns from rfl]
 refine af (aE (i:=4) bS.nd rfl (Or.inl rfl) (EvN.ev (fG (aa 0 rfl) (gf ag) (gf ag) (.inr rfl))) ?_);rw[CI,<-Nk,<-Nj];refine gW (λps=>SubP [some (.val (.scr (ns.map U.int))),some (.val (.int (fV ns 0))),some (.val (.int (eW ns))),some (.val (.int (eH ns))),some (.val (.lst ((eC ns).map U.int))),none] ps) (lh (aK (D9 (fL hr) (qd λ_=>rfl) rfl) (aa 4 rfl) (EvN.ev (b9 bi))) (λhT=>?_) (λhF=>(aH ?_))) ?hj
 ·rw[tW]at hT;have e:eC ns=[0]:=by unfold eC;rw[if_pos (dTb hT)]
  refine af (aE (i:=4) bS.nd rfl (Or.inl rfl) (EvN.ev (b9 (ax ag bi dj))) (aH ?_));rw[e];exact⟨rfl,rfl,rfl,rfl,rfl,trivial⟩
 ·rw[tW]at hF;have e:eC ns=(ns.drop 6).take 54:=by unfold eC;rw[if_neg (dFb hF)]
  rw[e];exact⟨rfl,rfl,rfl,rfl,rfl,trivial⟩
 case hj=>
  intro ps QM;refine c8 ?_ QM;refine af (ba (aB ((jb T).mono (by decide)) hr rfl T.aak.m T.aak.F.kp T.aak.b aA (ae (EvN.ev (gr (ys:=((eP ns).map pu)) rfl (blk (aj f6) ["script","shape","wide","high","cells","cell"] [5] rfl rfl rfl rfl (by decide+kernel)) (cF (aa 4 rfl) (.inl rfl)) (λ_ _ _ _=>bC (i:=5) bS.nd rfl (Or.inl rfl)) (dM (by decide)) ?clen ?csz (λ_ _=>trivial) ?celt)) ak fH) ⟨eP ns,rfl,λp hp=>Szp.mono (Bv ns p hp) (by decide),by unfold eP e0;rw[Ex,Ex];lia,rfl⟩) ?_)
  case clen=>unfold eP e0;simp
  case csz=>rw[Ex];exact F4 (aG (by lia))
  case celt=>
   intro C s' H' fp j x y hx hy;unfold eP e0 at hy;rw[Fn,Fn]at hy;rw[EI]at hx hy;cases e:(eC ns)[j]? with
   |none=>rw[e]at hx;cases hx
   |some c=>
    rw[e]at hx hy;cases hx;cases hy;have cz:=k3 c (EV e);have cw:W5 (c%eW ns,c/eW ns%eH ns):=ew _ (ED.mpr ⟨c,EV e,rfl⟩);exact (aB ((pY T).mono (by decide)) hr rfl T.aaF.m T.aaF.F.kp T.aaF.b aA (ae (b8 (ax (eO (aa 5 rfl) (aa 2 rfl) w0.1) (ax (eO (e_ (aa 5 rfl) (aa 2 rfl) ⟨w0.1,wz⟩) (aa 3 rfl) h0.1) bi bK) bK)) (ae (aa 0 rfl) ak ah) rJ) ⟨(c%eW ns,c/eW ns%eH ns),ns,rfl,hB,A_ cw,rfl⟩)
  exact rfl
def v6:List U->Out->Prop:=λus o=>∃(ls:List (List P2)) (m:Nat),us=[.lst (ls.map tpU),.int (m:Int)]/\ls.length<=60/\m<=3/\(∀q∈ls,q.length=m)/\o=.val (.bl true)
theorem mJ(T:Txt w K mg):aZ P w K mg base (CXF P w) 3 T.aav.a T.aav.d ["found","size"] (spU K (v6)):=by
 refine a9 T.aav.F fu (λus o h=>?_) (λQA A outer s H E O us o hr h=>?_)
 ·obtain⟨ls,m,rfl,hl,hm,hq,rfl⟩:=h;rfl
 obtain⟨ls,m,rfl,hl,hm,hq,rfl⟩:=h;refine Ws.nox ?_;refine af (ce (gN (fU (aq (cX (by intro _ h;cases h) (L2.kit_list_list _)) rfl T.aae Hr (ae (aa 0 rfl) (ae (mR rfl T.aaI IT) ak ah) ah)))) (by rfl) (aH ?_))
 refine af (dN (λ_:Nat=>[some (.val (.lst (ls.map tpU))),some (.val (.int (m:Int))),none,none]) (λi j=>i=j) rfl PassesOwn.never (cF (aa 0 rfl) (.inl rfl)) ?h0 ?hs ?hd)
 case h0=>exact⟨0,rfl,rfl,rfl,trivial⟩
 case hs=>
  rintro H0 i x _ hx rfl;obtain⟨q,QJ,mq,rfl⟩:=l8 hx;have ql:=hq q mq;refine⟨_,(d8 (i:=2) fu.nd rfl (Or.inl rfl)),?_⟩;refine af (ce (Tw.t (yf (gN (fU (aq (cX (by intro _ h;cases h) (L2.kit_tuple_tuple _)) rfl T.aae Hr (ae (aa 2 rfl) (ae (mR rfl T.aaS MH) ak ah) ah)))) (λhz=>(tp (aK x_ (aq (bM rfl) rfl T.aag Fj (ae (aa 2 rfl) ak ah)) (aa 1 rfl)))))) (by rw[Ex,ql];simp) (aH ?_))
  refine af (dN (λ_:Nat=>[some (.val (.lst (ls.map tpU))),some (.val (.int (m:Int))),some (.val (tpU q)),none]) (λi j=>i=j) rfl PassesOwn.never (tj (aa 2 rfl)) ?h02 ?hs2 ?hd2)
  case h02=>exact⟨0,rfl,rfl,rfl,rfl,trivial⟩
  case hs2=>
   rintro H1 j y _ hy rfl;obtain⟨P,hP,mP,rfl⟩:=kn hy;refine⟨_,(d8 (i:=3) fu.nd rfl (Or.inl rfl)),?_⟩;refine af (ce (gN (fU (aB ((iR T).mono (by decide)) hr rfl T.aaf.m T.aaf.F.kp T.aaf.b aA (ae (aa 3 rfl) ak ah) ⟨P,rfl,rfl⟩))) (by rfl) (aH (aH ?_)))
   exact⟨j+1,rfl,rfl,rfl,rfl,trivial⟩
  case hd2=>
   rintro j ps hj QM;refine aH ?_;refine⟨i+1,rfl,SubP.trans ?_ QM⟩;exact⟨rfl,rfl,trivial⟩
 case hd=>
  rintro i ps hi QM;refine c8 ?_ QM;refine af (ba D_ ?_);exact rfl
theorem Az(q:List P2)(k j:Nat):(Fw (j+1)).map (λj=>s2 (gp q j) (gp q k))=(Fw j).map (λj=>s2 (gp q j) (gp q k))++[s2 (gp q j) (gp q k)]:=by rw[JE,Fi];rfl
theorem AA(q:List P2)(k:Nat):(Fw (k+1)).flatMap (eE q)=(Fw k).flatMap (eE q)++eE q k:=by rw[JE,GX];simp
theorem zT{ls:List (List P2)}{i:Nat}{q:List P2}(h:ls[i]?=some q):bg (ls.take (i+1))=bg (ls.take i)++e7 q:=by
 unfold bg;rw[GJ,h,GX];simp
theorem wL{ls:List (List P2)}(h:∀q∈ls,q.length<=3):(bg ls).length<=3*ls.length:=by
 induction ls with
 |nil=>simp[bg]
 |cons q ls ih=>
  have h2:=ih λl hl=>h l (EB _ hl)
  have h1:(e7 q).length<=3:=by
   have:=h q EF
   match q,this with
   |[],_=>simp[e7]
   |[_],_=>simp[e7,eE]
   |[_,_],_=>rw[qs2];simp
   |[_,_,_],_=>rw[qs3];simp
   |_::_::_::_::_,h=>simp at h
  unfold bg at *;rw[GP,EY,E9];lia
def yS(P:E1)(w:Fz):List U->Out->Prop:=λus o=>∃ls:List (List P2),us=[.lst (ls.map tpU)]/\ls.length<=60/\(∀q∈ls,q.length<=3)/\o=.val (.ty (.dp (ST2.hsq P w) (fc (bg ls))))
theorem kD(T:Txt w K mg):aZ P w K mg base (CXF P w) 1 T.aap.a T.aap.d ["found"] (spU K ((yS P w))):=by
 refine a9 T.aap.F bO (λus o h=>?_) (λQA A outer s H E O us o hr h=>?_)
 ·obtain⟨ls,rfl,hl,h3,rfl⟩:=h;rfl
 obtain⟨ls,rfl,hl,h3,rfl⟩:=h;refine Ws.nox ?_
 have hll:∀i,(bg (ls.take i)).length<=180:=λi=>by
  have:=wL (ls:=ls.take i) λq hq=>h3 q (Ii hq)
  rw[Hw]at this;lia
 refine Cw (j:=1) (m:=fc (bg ls)) bO.nd rfl (Or.inl rfl) rfl ?hv (rF (kk:=2) (λi=>fc (bg (ls.take i))) rfl PassesOwn.never bO.nd rfl (Or.inl rfl) (by decide) (cF (aa 0 rfl) (.inl rfl)) rfl ?b1 ⟨SubP.rfl' _,by rw[Ex,Gd]⟩) ?_
 case hv=>
  intro i s h
  match i,h with
  |0,h=>cases h;exact⟨_,rfl⟩
  |1,h=>cases h
  |2,h=>cases h
  |3,h=>cases h
  |4,h=>cases h
  |5,h=>cases h
  |i+6,h=>cases h
 case b1=>
  intro H1 i x hx;obtain⟨q,hq,mq,rfl⟩:=l8 hx;have q3:=h3 q mq;have ql:((q.map pu).length:Int)=(q.length:Int):=by rw[Ex]
  have l1:=hll i;refine ze (rF (kk:=3) (λk=>fc (bg (ls.take i)++(Fw k).flatMap (eE q))) rfl PassesOwn.never bO.nd rfl (Or.inl rfl) (by decide) (pN rfl T.aaV (ae (aq (bM rfl) rfl T.aag Fj (ae (aa 2 rfl) ak ah)) ak aQ) (by rw[ql];lia) (by rw[ql];lia)) (by simp) ?b2 ⟨⟨rfl,trivial⟩,?e2⟩)
  case e2=>
   rw[cL,ql,zT hq];rfl
  case b2=>
   intro H2 k y hy;obtain⟨hk,rfl⟩:=fO hy;have SE:k<q.length:=by rw[ql]at hk;lia
   have l2:((Fw k).flatMap (eE q)).length<=3:=by
    match k,(show k<3 by lia) with
    |0,_=>simp
    |1,_=>simp[eE]
    |2,_=>simp[JE,eE]
   refine ze (rF (kk:=4) (λj=>fc (bg (ls.take i)++(Fw k).flatMap (eE q)++(Fw j).map λj=>s2 (gp q j) (gp q k))) rfl PassesOwn.never bO.nd rfl (Or.inl rfl) (by decide) (pN rfl T.aaV (ae (aa 3 rfl) ak ah) (by lia) (by lia)) (by simp) ?b3 ⟨⟨rfl,rfl,trivial⟩,?e3⟩)
   case e3=>
    rw[cL,AA,<-Gp,show (0+(k:Int)).toNat=k by lia]
    rfl
   case b3=>
    intro H3 j z hz;obtain⟨hj,rfl⟩:=fO hz;have Ui:j<k:=by lia
    refine BJ (zz:=5) (u:=.tup [.tup [.int (s2 (gp q j) (gp q k)).1.1,.int (s2 (gp q j) (gp q k)).1.2],.tup [.int (s2 (gp q j) (gp q k)).2.1,.int (s2 (gp q j) (gp q k)).2.2]]) bO.nd rfl (Or.inl rfl) (by decide) ?es ?_
    case es=>
     exact (b8 (ax (aq (AX rfl (fL hr)) rfl T.aa1 Pz (ae (aF (aa 2 rfl) (aa 4 rfl) rfl (lJ (i:=j) (by lia) (by lia))) (ae (aF (aa 2 rfl) (aa 3 rfl) rfl (lJ (i:=k) (by lia) SE)) ak bh) bh)) (ax (aq (zI rfl (fL hr)) rfl T.aa0 PF (ae (aF (aa 2 rfl) (aa 4 rfl) rfl (lJ (i:=j) (by lia) (by lia))) (ae (aF (aa 2 rfl) (aa 3 rfl) rfl (lJ (i:=k) (by lia) SE)) ak bh) bh)) bi aQ) aQ))
    refine CL (zz:=5) (a:=(s2 (gp q j) (gp q k)).1) (b:=(s2 (gp q j) (gp q k)).2) (HS (M_ (show 2<=10 by decide) _) (fL hr)) rfl rfl rfl ?hz (Cg ⟨⟨rfl,rfl,rfl,trivial⟩,?ez⟩)
    case hz=>
     refine aG (Gg (rV _) ?_);rw[EY,EY,Ex,I0];lia
    case ez=>rw[Az,<-Gp,u5]
 refine af (ba (aa 1 rfl) ?_);exact rfl
def atF(a b c k:Int):Int:=a+b*(k-1)+c*(k-1) *(k-2)/2
def zG:List U->Out->Prop:=λus o=>∃a b c k:Int,us=[.tup [.int a,.int b,.int c],.int k]/\Sz 20 b/\Sz 20 c/\Sz 210 k/\o=.val (.int (atF a b c k))
theorem kR(T:Txt w K mg):aZ P w K mg base (CXF P w) 1 T.aat.a T.aat.d ["many","k"] (spU K (zG)):=by
 refine a9 T.aat.F q_ (λus o h=>?_) (λQA A outer s H E O us o hr h=>?_)
 ·obtain⟨a,b,c,k,rfl,sb,sc,sk,rfl⟩:=h;rfl
 obtain⟨a,b,c,k,rfl,sb,sc,sk,rfl⟩:=h;refine Ws.nox ?_;have z1:Sz 210 (1:Int):=Sz.mono (m:=8) (by decide) (by decide)
 have z2:Sz 210 (2:Int):=Sz.mono (m:=8) (by decide) (by decide)
 have k1:Sz 211 (k-1):=L2.Sz.sub' sk z1;have k2:Sz 211 (k-2):=L2.Sz.sub' sk z2;have ck:=L2.Sz.mul sc k1;refine af (ba (ca (ca (aF (aa 0 rfl) ag rfl rfl) (be (aF (aa 0 rfl) ag rfl rfl) (bm (aa 1 rfl) ag) (L2.Sz.ok sb k1 (by decide)))) (e_ (be (be (aF (aa 0 rfl) ag rfl rfl) (bm (aa 1 rfl) ag) (L2.Sz.ok sc k1 (by decide))) (bm (aa 1 rfl) ag) (L2.Sz.ok ck k2 (by decide))) ag (by walk_at"div"))) ?_)
 exact rfl
def uT:List U->Out->Prop:=λus o=>∃a:Int,us=[.int a,.int a]/\o=.val (.bl true)
theorem ft(T:Txt w K mg):aZ P w K mg base (CXF P w) 2 T.aac.a T.aac.d ["found","due"] (spU K (uT)):=by
 refine a9 T.aac.F nG (λus o h=>?_) (λQA A outer s H E O us o hr h=>?_)
 ·obtain⟨a,rfl,rfl⟩:=h;rfl
 obtain⟨a,rfl,rfl⟩:=h;refine Ws.nox ?_;refine af (ba (lM (aB ((eU T).mono (by decide)) hr rfl T.aab.m T.aab.F.kp T.aab.b aA (ae (aa 0 rfl) ak ah) ⟨_,rfl,rfl⟩) (λhz=>(rT (lW cY (aa 0 rfl) (aa 1 rfl))))) ?_)
 exact vB (by simp)
theorem x6{Qt:List (K4×Int)}{i:Nat}{x:K4×Int}(h:Qt[i]?=some x):kP (Qt.take (i+1))=kP (Qt.take i)++(if x.2=1 then [x.1.1,x.1.2] else [])/\mU (Qt.take (i+1))=mU (Qt.take i)+(if x.2=1 then 0 else 1):=by
 unfold kP mU;rw[GJ,h];simp only[KI,KU,GX,EY];by_cases e:x.2=1 <;>simp[e]
theorem tQ(Qt:List (K4×Int)):(kP Qt).length<=2*Qt.length:=by
 unfold kP
 induction Qt with
 |nil=>simp
 |cons x Qt ih=>
  rw[NY];split
  ·rw[GP,EY];simp only[E9,IQ];lia
  ·rw[E9];lia
def yq(P:E1)(w:Fz):List U->Out->Prop:=λus o=>∃(Qt:List (K4×Int)) (sp:List P2) (t:Int),us=[.ty (.dp (ST2.hsq P w) Qt),lp sp,.int t]/\Qt.length<=200/\(Qt.map (·.1)).Nodup/\o=.val (.tup [.int ((sp.length:Int)-((ST.srt (kP Qt)).length:Int)),.int (mU Qt:Int),.int t])
theorem k9(T:Txt w K mg):aZ P w K mg base (CXF P w) 1 T.aar.a T.aar.d ["owners","spots","threes"] (spU K ((yq P w))):=by
 refine a9 T.aar.F b6 (λus o h=>?_) (λQA A outer s H E O us o hr h=>?_)
 ·obtain⟨Qt,sp,t,rfl,hl,nd,rfl⟩:=h;rfl
 obtain⟨Qt,sp,t,rfl,hl,nd,rfl⟩:=h;refine Ws.nox ?_;refine af (aE (i:=3) b6.nd rfl (Or.inl rfl) (EvN.ev (b9 bi)) ?_);refine af (aE (i:=4) b6.nd rfl (Or.inl rfl) ag ?_);refine af (dN (λi:Nat=>[some (.val (.ty (.dp (ST2.hsq P w) Qt))),some (.val (lp sp)),some (.val (.int t)),some (.val (lp (kP (Qt.take i)))),some (.val (.int (mU (Qt.take i):Int))),none]) (λi j=>i=j) rfl PassesOwn.never (DQ (aa 0 rfl)) ?h0 ?hs ?hd)
 case h0=>exact⟨0,rfl,rfl,rfl,rfl,rfl,rfl,trivial⟩
 case hs=>
  rintro H0 i x _ hx rfl;rw[EI]at hx;obtain⟨y,hy,rfl⟩:=HK.mp hx;have my:=EV hy;have ct:=xr nd my;have ha:Qt.any (λx=>decide (x.1=y.1))=true:=LP.mpr ⟨y,my,by simp⟩
  obtain⟨o1,o2⟩:=x6 hy;have ol:=tQ (Qt.take i);rw[Hw]at ol;refine⟨_,(d8 (i:=5) b6.nd rfl (Or.inl rfl)),?_⟩;refine af (lh (aK cY (zZ (HS (M_ (show 2<=10 by decide) _) (fL hr)) (aa 0 rfl) (aa 5 rfl) ct ha) ag) (λhT=>?_) (λhF=>?_))
  ·have e:=dTb hT;rw[if_pos e]at o1 o2;refine af (aE (i:=3) b6.nd rfl (Or.inl rfl) (EvN.ev (l5 (aa 3 rfl) (EvN.ev (dU (fQ rfl) rfl T.aaI IT (ae (aa 5 rfl) ak ah))) (by have:=aG (show (kP (Qt.take i)).length+2<=1000 by lia);simp;lia))) (aH (aH ?_)))
   refine⟨i+1,rfl,rfl,rfl,rfl,?_,?_,trivial⟩
   ·exact congrArg (λz=>some (Sl.val z)) (by show U.lst _=U.lst _;rw[o1,Fi];rfl)
   ·rw[o2];rfl
  ·have e:=dFb hF;rw[if_neg e]at o1 o2;refine af (aE (i:=4) b6.nd rfl (Or.inl rfl) (ca (aa 4 rfl) ag) (aH (aH ?_)));refine⟨i+1,rfl,rfl,rfl,rfl,?_,?_,trivial⟩
   ·rw[o1,Hn]
   ·exact congrArg (λz=>some (Sl.val (.int z))) (by rw[o2];lia)
 case hd=>
  rintro i ps hi QM;refine c8 ?_ QM;rw[Ex]at hi;subst hi;rw[Gd];have ol:=tQ Qt;refine af (ba (b8 (ax (bm (aq (bM rfl) rfl T.aag Fj (ae (aa 1 rfl) ak ah)) (by exact lU rfl (fL hr) rfl T.aag rfl T.aaX (aa 3 rfl) (by lia) ah)) (ax (aa 4 rfl) (ax (aa 2 rfl) bi ah) ah) bK)) ?_)
  rw[Ex]
theorem Cm{l:List P2}(F:Fld l){k:Int}(k0:0<=k):iq (am (l.map (scl k)))=atF ((aC l).length:Int) (((aC l).length:Int)-1+gg l) (gg l) k:=by
 rw[Bo F k0];unfold gg atF;by_cases h3:l.length<3
 ·rw[if_pos h3,if_pos h3];simp;grind
 ·rw[if_neg h3,if_neg h3];generalize ((cU l).length:Int)=t;generalize ((aC l).length:Int)=n
  have e:k*(k-1)%2=0:=by
   rcases (show k%2=0\/k%2=1 by lia) with z |z
   ·rw[IX,z,GH];rfl
   ·rw[IX,P6,z];rfl
  obtain⟨m,hm⟩:∃m,k*(k-1)=2*m:=⟨k*(k-1)/2,by lia⟩
  rw[hm,Fs _ (by decide)]
  have e2:t*(k-1) *(k-2)=2*(t*(m-(k-1))):=by grind
  rw[e2,Fs _ (by decide)]
  grind
theorem B4{l:List P2}(F:Fld l){k:Int}(k0:0<k)(h3:3<=l.length):atF (((aC l).length:Int)-(2*(((aC l).length:Int)-1)-((cU l).length:Int))) (2*((cU l).length:Int)-(((aC l).length:Int)-1)) (gg l) k=pin (am (l.map (scl k))):=by
 rw[Bp F (by lia),if_neg (by lia)]
 unfold gg atF;rw[if_neg (by lia)]
 generalize ((cU l).length:Int)=t;generalize ((aC l).length:Int)=n
 have e:k*(k+1)%2=0:=by
  rcases (show k%2=0\/k%2=1 by lia) with z |z
  ·rw[IX,z,GH];rfl
  ·rw[IX,P8,z];rfl
 obtain⟨m,hm⟩:∃m,k*(k+1)=2*m:=⟨k*(k+1)/2,by lia⟩
 rw[hm,Fs _ (by decide)]
 have e2:t*(k-1) *(k-2)=2*(t*(m-2*k+1)):=by grind
 rw[e2,Fs _ (by decide)]
 grind
theorem k60(c:Int):0<=c%10 ^ (60:Int).toNat/\Sz 210 (c%10 ^ (60:Int).toNat):=by
 have h1:=G_ c (show (10 ^ (60:Int).toNat:Int)≠0 by decide+kernel)
 have h2:=GC c (show (0:Int)<10 ^ (60:Int).toNat by decide+kernel)
 have z:Sz 210 ((10:Int) ^ (60:Int).toNat):=by decide+kernel
 exact⟨h1,z.natle (by lia)⟩
theorem BX(T:Txt w K mg):aZ P w K mg base (CXF P w) 10 T.aaY.a T.aaY.d ["script"] (spU K (g_)):=by
 refine a9 T.aaY.F df (λus o h=>?_) (λQA A outer s H E O us o hr h=>?_)
 ·obtain⟨ns,rfl,h63,hB,rfl⟩:=h;rfl
 obtain⟨ns,rfl,h63,hB,rfl⟩:=h;refine Ws.nox ?_;have K:=Cy hB;refine af (aE (i:=1) df.nd rfl (Or.inl rfl) (aB ((oj T).mono (by decide)) hr rfl T.aau.m T.aau.F.kp T.aau.b aA (ae (aa 0 rfl) ak ah) ⟨ns,rfl,hB,rfl⟩) ?_)
 generalize am (eP ns)=l at *;obtain⟨O,np⟩:=K;have F:=O.F;have L:=pcf F;have l0:0<l.length:=FJ.mpr F.ne;have hl:=O.l64;have hm:((l.map pu).length:Int)=(l.length:Int):=by rw[Ex]
 have sz:∀p∈l,Szp 1500 p:=λp hp=>(O.sz p hp).mono (by decide)
 have pl:=L.le (by lia)
 have q3:∀q∈bI l,q.length<=3:=λq hq=>by rw[(L.q q hq).1];lia
 have fl:=ig q3;have cz:=nM hB 5;obtain⟨k0,sk⟩:=k60 (fV ns 5);refine af (aE (i:=2) df.nd rfl (Or.inl rfl) (eO (aB ((br T).mono (by decide)) hr rfl T.aaa.m T.aaa.F.kp T.aaa.b aA (ae (aa 0 rfl) (ae ag ak dj) ah) ⟨ns,_,rfl,by decide,rfl⟩) (jB ag ag ⟨by decide,by decide,by decide⟩) (by decide+kernel)) ?_)
 generalize fV ns 5%10 ^ (60:Int).toNat=k at *;refine af (aE (i:=3) df.nd rfl (Or.inl rfl) (EvN.ev (b_ ((uC T).mono (by decide)) hr rfl T.aaL.m T.aaL.F.kp T.aaL.b aA (ae (EvN.ev (dU (fQ rfl) rfl T.aaI IT (ae (aa 1 rfl) ak ah))) ak aQ) ⟨l,rfl,O,rfl⟩)) ?_)
 have hmin:(if ((l.map pu).length:Int)<3 then ((l.map pu).length:Int) else 3)=((min 3 l.length:Nat):Int):=by rw[hm];split <;>lia
 refine af (ce (gN (fU (aB ((mJ T).mono (by decide)) hr rfl T.aav.m T.aav.F.kp T.aav.b aA (ae (aa 3 rfl) (ae (aq (Dz rfl) rfl T.aa1 Pz (ae ag (ae (aq (bM rfl) rfl T.aag Fj (ae (aa 1 rfl) ak ah)) ak aQ) dj)) ak aQ) ah) ⟨bI l,min 3 l.length,by rw[hmin],pl,by lia,λq hq=>(L.q q hq).1,rfl⟩))) (by rfl) (aH ?_))
 refine af (aE (i:=4) df.nd rfl (Or.inl rfl) (EvN.ev (b9 bi)) ?_);refine af (dN (λi:Nat=>[some (.val (.scr (ns.map U.int))),some (.val (lp l)),some (.val (.int k)),some (.val (.lst ((bI l).map tpU))),some (.val (lp ((bI l).take i).flatten)),none,none,none,none,none]) (λi j=>i=j) rfl PassesOwn.never (cF (aa 3 rfl) (.inl rfl)) ?h0 ?hs ?hd)
 case h0=>exact⟨0,rfl,rfl,rfl,rfl,rfl,rfl,trivial⟩
 case hs=>
  rintro H0 i x _ hx rfl;obtain⟨q,hq,mq,rfl⟩:=l8 hx;have f1:=ig (ls:=(bI l).take i) λq hq=>q3 q (Ii hq)
  rw[Hw]at f1;have:=q3 q mq;refine⟨_,(d8 (i:=5) df.nd rfl (Or.inl rfl)),?_⟩;refine af (aE (i:=4) df.nd rfl (Or.inl rfl) (EvN.ev (l5 (aa 4 rfl) (EvN.ev (dU (fQ rfl) rfl T.aaI IT (ae (aa 5 rfl) ak ah))) (by have:=aG (show ((bI l).take i).flatten.length+q.length<=1000 by lia);rw[Ex,Ex];lia))) (aH ?_))
  refine⟨i+1,rfl,rfl,rfl,rfl,rfl,?_,trivial⟩;exact congrArg (λz=>some (Sl.val z)) (by show U.lst _=U.lst _;rw[l4 hq,Fi])
 case hd=>
  rintro i ps hi QM;refine c8 ?_ QM;rw[Ex]at hi;subst hi;rw[Gd];have s30:(ST.srt (bI l).flatten).length<64:=by rw[L.sp];lia
  refine af (aE (i:=4) df.nd rfl (Or.inl rfl) (EvN.ev (fB rfl (fL hr) rfl T.aaM rfl T.aaX (aa 4 rfl) ⟨by lia,s30⟩ ah)) ?_)
  rw[L.sp];refine af (aE (i:=6) df.nd rfl (Or.inl rfl) (aB ((kD T).mono (by decide)) hr rfl T.aap.m T.aap.F.kp T.aap.b aA (ae (aa 3 rfl) ak ah) ⟨bI l,rfl,pl,q3,rfl⟩) ?_)
  have kl:=L.kl;have ow:=iQ (bg (bI l));generalize hkv:fc (bg (bI l))=kv at *;have kvl:kv.length<=180:=by rw[<-hkv];exact Gg (rV _) (Gg (wL q3) (by lia))
  have RN:atI [U.int 0,U.int (((bI l).map tpU).length:Int)] (if decide ((2:Int)<((l.map pu).length:Int))=true then 1 else 0)=some (U.int (gg l)):=by
   rw[hm];by_cases h3:l.length<3
   ·rw[if_neg (by simp;lia)]
    unfold gg;rw[if_pos h3];rfl
   ·rw[if_pos (by simp;lia),Ex,L.ln (by lia)];rfl
  refine af (aE (i:=7) df.nd rfl (Or.inl rfl) (b8 (ax (aq (bM rfl) rfl T.aag Fj (ae (aa 4 rfl) ak ah)) (ax (aq CV rfl T.aag boot_len (ae (aa 6 rfl) ak ah)) (ax (aF (EvN.ev (b9 (ax ag (ax (aq (bM rfl) rfl T.aag Fj (ae (aa 3 rfl) ak ah)) bi aQ) dj))) (tS BD rfl T.aa4 boot_int (ae (lW gD (aq (bM rfl) rfl T.aag Fj (ae (aa 1 rfl) ak ah)) ag) ak rq)) rfl RN) bi bh) aQ) aQ)) ?_);rw[Ex];show Ws _ _ _ _ _ _ [some (.val (.scr (ns.map U.int))),some (.val (lp l)),some (.val (.int k)),some (.val (.lst ((bI l).map tpU))),some (.val (lp (aC l))),none,some (.val (.ty (.dp (ST2.hsq P w) kv))),some (.val (.tup [.int ((aC l).length:Int),.int (kv.length:Int),.int (gg l)])),none,none];refine af (aE (i:=8) df.nd rfl (Or.inl rfl) (aB ((xZ T).mono (by decide)) hr rfl T.aaR.m T.aaR.F.kp T.aaR.b aA (ae (EvN.ev (dU (fQ rfl) rfl T.aaI IT (ae (aa 3 rfl) ak ah))) ak aQ) ⟨bI l,rfl,pl,q3,rfl⟩) ?_)
  have hf:og (bI l)=.tup [.int ((aC l).length:Int),.int (kv.length:Int),.int (gg l)]:=by
   unfold og;rw[L.sp,BR λq hq=>(L.q q hq).2,hkv,L.c3]
  rw[hf];have he:eqW (lp (aC l)) (lp (aC l))=true:=by rw[Cu];simp
  refine af (ce (Tw.t (yf (gN (fU (aq (cX (by intro _ h;cases h) (L2.kit_tuple_tuple _)) rfl T.aae Hr (ae (aa 8 rfl) (ae (mR rfl T.aaS MH) ak ah) ah)))) (λhz=>(yf (aK (DL (fL hr) (by first |rfl |exact um _) (by first |rfl |exact um _)) (aa 8 rfl) (aa 7 rfl)) (λhz=>(tp (aK (DL (fL hr) (by first |rfl |exact um _) (by first |rfl |exact um _)) (EvN.ev (b_ ((l7 T).mono (by decide)) hr rfl T.aaB.m T.aaB.F.kp T.aaB.b aA (ae (EvN.ev (dU (fQ rfl) rfl T.aaI IT (ae (aa 1 rfl) ak ah))) ak aQ) ⟨l,rfl,F,hl,O.sz,⟨O.cnt,O.np⟩,rfl⟩)) (aa 4 rfl)))))))) (by simp only[he];simp[eqW,eqWs]) (aH ?_))
  have tz:Sz 20 (gg l):=by
   have:=L.c3;have h1:uO (bI l)<=60:=Gg (Ht _ _) pl;rw[<-this];exact Sz.mono (m:=8) (by unfold Sz;lia) (by decide)
  have bz:Sz 20 (kv.length:Int):=Sz.mono (m:=8) (by unfold Sz;lia) (by decide)
  have hc:=Cm F k0;have h1:=sK F;rw[<-kl]at hc;have e1:l.map (scl 1)=l:=by rw[GW (λp _=>nu p),P7]
  have h11:iq (am (l.map (scl 1)))=((aC l).length:Int):=by rw[e1,F.cr,h1]
  refine af (ce (Tw.t (yf (gN (fU (aB ((ft T).mono (by decide)) hr rfl T.aac.m T.aac.F.kp T.aac.b aA (ae (aB ((kS T).mono (by decide)) hr rfl T.aaz.m T.aaz.F.kp T.aaz.b aA (ae (EvN.ev (dU (fQ rfl) rfl T.aaI IT (ae (aa 1 rfl) ak ah))) (ae (aa 2 rfl) ak ah) aQ) ⟨l,k,rfl,k0,sk.mono (by decide),sz,F.ne,hl,rfl⟩) (ae (aB ((kR T).mono (by decide)) hr rfl T.aat.m T.aat.F.kp T.aat.b aA (ae (aa 7 rfl) (ae (aa 2 rfl) ak ah) ah) ⟨_,_,_,k,rfl,bz,tz,sk,rfl⟩) ak aQ) aQ) ⟨_,by rw[hc],rfl⟩))) (λhz=>(tp (gN (fU (aB ((ft T).mono (by decide)) hr rfl T.aac.m T.aac.F.kp T.aac.b aA (ae (tY ((kS T).mono (by decide)) hr rfl T.aaz.m T.aaz.F.kp T.aaz.bd aA (ae (EvN.ev (dU (fQ rfl) rfl T.aaI IT (ae (aa 1 rfl) ak ah))) ak aQ) ⟨l,1,rfl,by decide,Sz.mono (m:=8) (by decide) (by decide),sz,F.ne,hl,rfl⟩) (ae (aF (aa 7 rfl) ag rfl rfl) ak bh) aQ) ⟨_,by rw[h11],rfl⟩))))))) (by rfl) (aH ?_))
  refine af (aE (i:=9) df.nd rfl (Or.inl rfl) ag ?_);refine gW (λps=>SubP [some (.val (.scr (ns.map U.int))),some (.val (lp l)),some (.val (.int k)),none,none,none,none,none,none,some (.val (.int (pin (am (l.map (scl k))))))] ps) (lh (Tw.t (pH (aK gD (aa 2 rfl) ag) (λhz=>(nU (aK gD (aq (bM rfl) rfl T.aag Fj (ae (aa 1 rfl) ak ah)) ag))))) (λhT=>?_) (λhF=>(aH ?_))) ?hj
  ·have hT':0<k/\3<=l.length:=by simp at hT;lia
   obtain⟨a1,a2,a3⟩:=lR F hT'.2;rw[hkv]at a1 a2 a3
   have iz:Sz 20 (mU kv:Int):=by
    have:mU kv<=kv.length:=Ht _ _;exact Sz.mono (m:=8) (by unfold Sz;lia) (by decide)
   refine af (aE (i:=9) df.nd rfl (Or.inl rfl) (aB ((kR T).mono (by decide)) hr rfl T.aat.m T.aat.F.kp T.aat.b aA (ae (aB ((k9 T).mono (by decide)) hr rfl T.aar.m T.aar.F.kp T.aar.b aA (ae (aa 6 rfl) (ae (aa 4 rfl) (ae (aF (aa 7 rfl) ag rfl rfl) ak bh) ah) ah) ⟨kv,aC l,gg l,rfl,by lia,ow.nd,rfl⟩) (ae (aa 2 rfl) ak ah) aQ) ⟨_,_,_,k,rfl,iz,tz,sk,rfl⟩) (aH ?_))
   refine⟨rfl,rfl,rfl,?_,trivial⟩;refine congrArg (λz=>some (Sl.val (.int z))) ?_
   rw[a2,a3];exact B4 F hT'.1 hT'.2
  ·have hF':l.length<3\/k=0:=by simp at hF;lia
   refine⟨rfl,rfl,rfl,?_,trivial⟩;refine congrArg (λz=>some (Sl.val (.int z))) ?_
   rw[Bp F k0,if_pos hF']
  case hj=>
   intro ps QM;refine c8 ?_ QM;refine af (ba (aB ((ft T).mono (by decide)) hr rfl T.aac.m T.aac.F.kp T.aac.b aA (ae (aB ((kL T).mono (by decide)) hr rfl T.aao.m T.aao.F.kp T.aao.b aA (ae (EvN.ev (dU (fQ rfl) rfl T.aaI IT (ae (aa 1 rfl) ak ah))) (ae (aa 2 rfl) ak ah) aQ) ⟨l,k,rfl,k0,sk.mono (by decide),sz,F.ne,hl,rfl⟩) (ae (aa 9 rfl) ak ah) aQ) ⟨_,rfl,rfl⟩) ?_)
   exact rfl
end
theorem ar1{fd:G9}{ps:List Str}{us:List EG}(h:us.length=1)(q:∀a0,KH fd ⟨[a0],[]⟩=pure (ps.zip [a0])):KH fd ⟨us,[]⟩=pure (ps.zip us):=match us,h with |[a0],_=>q a0
theorem ar2{fd:G9}{ps:List Str}{us:List EG}(h:us.length=2)(q:∀a0 a1,KH fd ⟨[a0,a1],[]⟩=pure (ps.zip [a0,a1])):KH fd ⟨us,[]⟩=pure (ps.zip us):=match us,h with |[a0,a1],_=>q a0 a1
theorem ar3{fd:G9}{ps:List Str}{us:List EG}(h:us.length=3)(q:∀a0 a1 a2,KH fd ⟨[a0,a1,a2],[]⟩=pure (ps.zip [a0,a1,a2])):KH fd ⟨us,[]⟩=pure (ps.zip us):=match us,h with |[a0,a1,a2],_=>q a0 a1 a2
theorem bd_inner_count{K:EC}{D:ES}{x1 x2 x3 t:_}(q:K.lookup D=some ⟨.type "tuple",x1,.seq #[.int 1 t] x2,x3⟩)(kV dc pm:EG)(an:Option ES)(cd ct:EG):dB K (Hc "inner_count" "inner_count" (bL bv) (bn bv) (aj bv) (.ref D) kV dc pm an cd ct) ["land","k"] []∧∃t,dB K (Hc "inner_count" "inner_count" (bL bv) (bn bv) (aj bv) (.ref D) kV dc pm an cd ct) ["land","k"] [.int 1 t]:=
 ⟨λs us X hl=>match us,hl with |[_,_],_=>BindsTo.of_defaults rfl (X _ _ q) rfl rfl rfl,t,λs us X hl=>match us,(show us.length=1 by simpa using hl) with |[_],_=>BindsTo.of_defaults rfl (X _ _ q) rfl rfl rfl⟩
theorem bd_count{K:EC}{D:ES}{x1 x2 x3 t:_}(q:K.lookup D=some ⟨.type "tuple",x1,.seq #[.int 1 t] x2,x3⟩)(kV dc pm:EG)(an:Option ES)(cd ct:EG):dB K (Hc "count" "count" (bL eR) (bn eR) (aj eR) (.ref D) kV dc pm an cd ct) ["land","k"] []∧∃t,dB K (Hc "count" "count" (bL eR) (bn eR) (aj eR) (.ref D) kV dc pm an cd ct) ["land","k"] [.int 1 t]:=
 ⟨λs us X hl=>match us,hl with |[_,_],_=>BindsTo.of_defaults rfl (X _ _ q) rfl rfl rfl,t,λs us X hl=>match us,(show us.length=1 by simpa using hl) with |[_],_=>BindsTo.of_defaults rfl (X _ _ q) rfl rfl rfl⟩
abbrev spLaw(K:EC):Sp:=spU K g_
theorem law_start(K:EC)(H:Hp)(a:ES)(ns:List Int)(h1:ns.length<=63)(h2:∀m∈ns,Sz 1048576 m)(_:AE H)(h3:SqL K H a (ns.map V.int)):spLaw K [.ref a] H (λv _=>v=.bl true) λ_ _ _=>False:=uJ h1 h2 h3
theorem law_ok{P:E1}{w:Fz}{K:EC}{mg:Str→Option EG}{fa:ES}(hfa:mg "law"=some (.ref fa))(T:Txt w K mg):
  ∃fd:G9,(∀(s:EE) (u:EG),Pl s fd ⟨[u],[]⟩ [("script",u)])∧∀base:GS,K.In base→base.Ns GT mg→aZ P w K mg base CX0 10 fa fd ["script"] (spLaw K):=by
 cases hfa.symm.trans T.aaY.m;obtain⟨_,_,_,_,_,_,_,_,_,hd,_⟩:=T.aaY.F.ex;exact⟨T.aaY.d,λs v=>by rw[hd];exact .of_eq rfl,λbase _ _=>(BX T).calm wK⟩
end My
namespace PySem.W.Fast
theorem tw4083462268432465411:True:=trivial
theorem tw13873457336909555501:True:=trivial
theorem tw2664370809692873452:True:=trivial
theorem tw16991225310749310334:True:=trivial
theorem tw13985226534679243742:True:=trivial
theorem tw15662053121393855836:True:=trivial
theorem tw9208038330462803033:True:=trivial
theorem tw15753422637330870394:True:=trivial
theorem tw1132822942373566010:True:=trivial
theorem tw3673937310843566420:True:=trivial
theorem tw14743138472966770172:True:=trivial
theorem tw3322324440789118823:True:=trivial
theorem tw14381688512628098660:True:=trivial
theorem tw5837430138523476141:True:=trivial
theorem tw11948752541089994915:True:=trivial
theorem tw10278588635633721134:True:=trivial
theorem tw4792807349878781839:True:=trivial
theorem tw2917964550771572162:True:=trivial
theorem tw10751906299896698118:True:=trivial
theorem tw248347074437458120:True:=trivial
theorem tw7201202522454911622:True:=trivial
theorem tw4561390164157489173:True:=trivial
theorem tw13680647071345677628:True:=trivial
theorem tw6142679674574342100:True:=trivial
theorem tw7499822665256524360:True:=trivial
theorem tw9889094776863717952:True:=trivial
theorem tw15263470842855822358:True:=trivial
theorem tw106002204908375322:True:=trivial
theorem tw14350625551573000933:True:=trivial
theorem tw3607725466164874155:True:=trivial
theorem tw12605790233329995751:True:=trivial
theorem tw642203568975175992:True:=trivial
theorem tw2920662385506407914:True:=trivial
theorem tw14754121384763559482:True:=trivial
theorem tw3994245266533948912:True:=trivial
theorem tw917834106967706587:True:=trivial
theorem tw16086108080520917478:True:=trivial
theorem tw16825470012575761967:True:=trivial
theorem tw17978678171276739853:True:=trivial
theorem tw6366732677661454558:True:=trivial
theorem tw17780999878668364188:True:=trivial
theorem tw6849636371932178074:True:=trivial
theorem tw10195051317270628705:True:=trivial
theorem tw4956316061292682534:True:=trivial
theorem tw17766003425602141801:True:=trivial
theorem tw6854866020441105028:True:=trivial
theorem tw10207745547263485337:True:=trivial
theorem tw1184578043881352884:True:=trivial
theorem tw18045976580802423107:True:=trivial
theorem tw2037367014316900231:True:=trivial
theorem tw13113149190424555120:True:=trivial
theorem tw6413616504419117806:True:=trivial
theorem tw9473283291705524673:True:=trivial
theorem tw10884735353199724389:True:=trivial
theorem tw12200729754817574600:True:=trivial
theorem tw16716695600762921605:True:=trivial
theorem tw12361579521208808058:True:=trivial
theorem tw11108847322932099636:True:=trivial
theorem tw771789922152612315:True:=trivial
theorem tw1973341549949872016:True:=trivial
theorem tw4114908566565442198:True:=trivial
theorem tw9354386534748343359:True:=trivial
theorem tw10005783455691974642:True:=trivial
theorem tw283927572175021280:True:=trivial
theorem tw15004950917652085073:True:=trivial
theorem tw8623918695897072165:True:=trivial
theorem tw13803579438420259936:True:=trivial
theorem tw18445921345061200748:True:=trivial
theorem tw8532943730711951421:True:=trivial
theorem tw2655713452173109991:True:=trivial
theorem tw9586433356851363743:True:=trivial
theorem tw17508874423929108447:True:=trivial
theorem tw11810343073571750871:True:=trivial
theorem tw12799388180477570246:True:=trivial
theorem tw1521215646230738304:True:=trivial
theorem tw17071453518402259822:True:=trivial
theorem tw9543482496286223719:True:=trivial
theorem tw14426787091300695780:True:=trivial
theorem tw17245478118545061852:True:=trivial
theorem tw2519949428629638266:True:=trivial
theorem tw211735787009186947:True:=trivial
theorem tw11131066600931506835:True:=trivial
theorem tw13875538249995246629:True:=trivial
theorem tw15833266288925868233:True:=trivial
theorem tw3717213759513318746:True:=trivial
theorem tw11034600908674572485:True:=trivial
theorem tw10019892844130281692:True:=trivial
theorem tw5049905665720719310:True:=trivial
theorem tw8948105862580983941:True:=trivial
theorem tw14988201776249318798:True:=trivial
theorem tw1432048669145936665:True:=trivial
theorem tw14494066081800297526:True:=trivial
theorem tw16917345243108236689:True:=trivial
theorem tw8309718891118483325:True:=trivial
theorem tw1933921586746770577:True:=trivial
theorem tw11275776722002335789:True:=trivial
theorem tw7006601695466716000:True:=trivial
theorem tw5876591485523452137:True:=trivial
theorem tw10532290463459184063:True:=trivial
theorem tw8012632688432324844:True:=trivial
theorem tw11231618107680184024:True:=trivial
theorem tw10688102823992527137:True:=trivial
theorem tw10625958118622857808:True:=trivial
theorem tw6393754522467224975:True:=trivial
theorem tw12591260029868649221:True:=trivial
theorem tw11474529974388671477:True:=trivial
theorem tw9347736800212023754:True:=trivial
theorem tw4883132584536994052:True:=trivial
theorem tw3931282130968305370:True:=trivial
theorem tw4175953658468373152:True:=trivial
end PySem.W.Fast
open PySem PySem.W PyProof.Rows L2
set_option maxRecDepth 100000 in
set_option maxHeartbeats 0 in
set_option maxHeartbeats 0 in
theorem PySem.Challenge.cw_stakefield_k29_whole_faces_tell_counts_holds : PySem.Challenge.rw_stakefield_k29_whole_faces_tell_counts.Holds := by
 w_on;o_law;k_head;(case hw=>w_witness2)
 k_fill
 refine L2.walk_ofB (l:=PySem.Challenge.rw_stakefield_k29_whole_faces_tell_counts) (n:=63) (k:=10) (x:="script") (CX:=CX0) (sp:=My.spLaw) rfl (by decide) rfl ⟨rfl,by decide,by decide⟩ (λw h Y=>by first |exact ON Y |exact PySem.W.km_in_of Y) ?F My.law_start (λ_ _ _ _ z=>z)
 case F=>
  intro w mg fa h KX G hmg
  refine' My.law_ok hmg ⟨L2.dfn KX G (by walk_at"b1") ?_ ?_ ?_ ?_,L2.dfn KX G (by walk_at"b1") ?_ ?_ ?_ ?_,L2.dfn KX G (by walk_at"b2") ?_ ?_ ?_ ?_,L2.dfn KX G (by walk_at"b1") ?_ ?_ ?_ ?_,L2.dfn KX G (by walk_at"b1") ?_ ?_ ?_ ?_,L2.dfn KX G (by walk_at"b1") ?_ ?_ ?_ ?_,L2.dfn KX G (by walk_at"b2") ?_ ?_ ?_ ?_,L2.dfn KX G (by walk_at"b2") ?_ ?_ ?_ ?_,L2.dfn KX G (by walk_at"b1") ?_ ?_ ?_ ?_,L2.dfn KX G (by walk_at"b2") ?_ ?_ ?_ ?_,L2.dfn KX G (by walk_at"b2") ?_ ?_ ?_ ?_,L2.dfn KX G (λ_ _ _ _ _ _ _ h=>My.ar3 h λ_ _ _=>rfl) ?_ ?_ ?_ ?_,L2.dfn KX G (by walk_at"b1") ?_ ?_ ?_ ?_,L2.dfn KX G (by walk_at"b1") ?_ ?_ ?_ ?_,L2.dfn KX G (by walk_at"b1") ?_ ?_ ?_ ?_,L2.dfn KX G (by walk_at"b1") ?_ ?_ ?_ ?_,L2.dfn KX G (by walk_at"b1") ?_ ?_ ?_ ?_,L2.dfn KX G (by walk_at"b2") ?_ ?_ ?_ ?_,L2.dfn KX G (by walk_at"b2") ?_ ?_ ?_ ?_,L2.dfn KX G (by walk_at"b2") ?_ ?_ ?_ ?_,L2.dfn KX G (by walk_at"b1") ?_ ?_ ?_ ?_,L2.dfD KX G My.bd_inner_count ?_ ?_ ?_ ?_ ?_,L2.dfD KX G My.bd_count ?_ ?_ ?_ ?_ ?_,L2.dfn KX G (by walk_at"b2") ?_ ?_ ?_ ?_,L2.dfn KX G (by walk_at"b1") ?_ ?_ ?_ ?_,L2.dfn KX G (by walk_at"b1") ?_ ?_ ?_ ?_,L2.dfn KX G (by walk_at"b2") ?_ ?_ ?_ ?_,L2.dfn KX G (by walk_at"b1") ?_ ?_ ?_ ?_,L2.dfn KX G (by walk_at"b1") ?_ ?_ ?_ ?_,L2.dfn KX G (by walk_at"b2") ?_ ?_ ?_ ?_,L2.dfn KX G (by walk_at"b1") ?_ ?_ ?_ ?_,L2.dfn KX G (by walk_at"b1") ?_ ?_ ?_ ?_,L2.dfn KX G (λ_ _ _ _ _ _ _ h=>My.ar3 h λ_ _ _=>rfl) ?_ ?_ ?_ ?_,L2.dfn KX G (by walk_at"b1") ?_ ?_ ?_ ?_,L2.dfn KX G (by walk_at"b2") ?_ ?_ ?_ ?_,L2.dfn KX G (by walk_at"b2") ?_ ?_ ?_ ?_,L2.dfn KX G (by walk_at"b1") ?_ ?_ ?_ ?_,L2.dfn KX G (by walk_at"b2") ?_ ?_ ?_ ?_,L2.dfn KX G (by walk_at"b1") ?_ ?_ ?_ ?_,L2.dfn KX G (by walk_at"b2") ?_ ?_ ?_ ?_,L2.dfn KX G (λ_ _ _ _ _ _ _ h=>My.ar3 h λ_ _ _=>rfl) ?_ ?_ ?_ ?_,L2.dfn KX G (by walk_at"b2") ?_ ?_ ?_ ?_,L2.dfn KX G (by walk_at"b1") ?_ ?_ ?_ ?_,FM KX G ?_,FM KX G ?_,FM KX G ?_,FM KX G ?_,FM KX G ?_,FM KX G ?_,FM KX G ?_,FM KX G ?_,FM KX G ?_,FM KX G ?_,FM KX G ?_,FM KX G ?_,FM KX G ?_,FM KX G ?_,FM KX G ?_,FM KX G ?_,L2.g_i KX G ?_⟩
  all_goals try first |k_is | (dsimp only[L2.exn];first |k_is |k_exc |kit_is)
