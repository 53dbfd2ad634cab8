import PyProof.Rows.All
import Wide.All
import OpenK.AllK
import Wide.FinOn
import Lean
import PyProof.EqAt
import PyProof.EqKinds
import PyProof.NeKinds
import PyProof.TupleCall
import KE.KDictSum
import KE.KSortTup
import KE.KRevIter
import KE.KRevSl
import PySem.Challenge.RW_stakefield_k27_whole_pieces_fill
open PySem renaming wpAny_bind->Fi,wpAny_pure->Fl,Shared->Fp,Value->Fq,starEach->FH,Addr->FI,Program->FK,wpAny->FX,model->F7,boot_len->Gd,World->Gj,Around->Gs,wpAny_call_entry->GJ,wpAny_holding->GS,wpAny_seqItems->G6,wpAny_isInstance->Hb,wpAny_updateSeq->Hc,wpAny_newObj_type->He,compareOp->Hj,wpAny_Call_Name_kw->Hk,plainId_quiet->Hl,codeAny_builtin->Ho,argBest->Hs,foldedSetIterable->Hw,wpAny_eqBool_tuple->HA,wpAny_tupleItemsOf->HB,Heap->HF,mainGlobals->HJ,mem_of_lookup->HK,bootBuiltins->HL,wpAny_truthy_bool->HM,intKind_is->HQ,behindInMarks->HZ,sizeLine_eq->H_,FuncData->Ia,wpAny_specialOf->Ig,wpAny_callSpecial?_slot->Ii,cLine->Ip,wpAny_pyIter_list->Iu,wpAny_setState_of->Iy,builtinLookup_eq_fast->IE,isSubtype_tuple_tuple->IF,wpAny_richCompare_same_room->IZ,Stmt->I_,wpAny_rule->Jb,wpAny_forIn_list->Je,wpAny_tryCatch->Jk,wpAny_passesOwn->Jq,wpAny_ite_split->Js,wpAny_letGo->Jw,wpAny_typeNameOfWhole_keyiter->Jz,wpAny_mono->JA,swapsWith->JF,pyNext->JG,typeLookup_type->JL,GenState->JP,eval->JQ,wpAny_attempt->JV,backTo->J5,codeAny->J6,updateSeq->J_,wpAny_askSetting->Kg,wpAny_field->Kj,assignEach->Km,rawInt->Ku,wpAny_nextOf_list_item->KG,sliceBounds->KO,ofAClassStatement->KS,wpAny_pyIter_slot->KZ,binaryOp->K6,isSubtype_type->K_,wpAny_setField->La,ZipApart->Lb,codeAny_mono->Ld,intKind->Lm,NameKind->Lx,attributeBase->Lz,wpAny_setEntries_of->LC,IsPair->LD,Scope->LH,bindArgs->LO,wpAny_pyHash_tuple->LR,firstArgMember->LY,isSubtype_stop->LZ,sysModules->L6,PassesOwn->L8,wpAny_getItem_list_slice->Ma,wpAny_comprehension_free->Mc,seqItems?->Md,isInstance->Mg,swapsWithSole->Mm,swappedStores->Mn,setSearchFrom->Mq,wpAny_of_eq->Mr,richCompare->Mu,Builtin->Mz,codeAny_compStart_list->MN,wpAny_isTrue_Compare1->MW,wpAny_execs_nil->MX,letOwnedTupleGo->MY,wpAny_typeOf->M7,wpAny_eqIsQuiet_tuple->M8,wpAny_nextOf_list_end->Nc,wpAny_isOneOf_keyiter->Ni,typeIs_int->Nr,compEnvC->Nt,wpAny_newFunctionEnv->Nw,codeAny_extend_loopS->Nz,wpAny_fieldsOf->NG,hashByValue->NJ,assignInOrder->NQ,wpAny_standAt->NR,pyIter->NS,wpAny_pyIter_range->NT,evalPart_none->NV,pickOrder->N4,call_function_tree->N7,wpAny_newList->Ob,typeLookup->Oh,Keyword->Oi,callerA->Oj,searchCouldBeSeen->Ol,wpAny_storeSet_of->Om,richCompare_gives->Oq,wpAny_dictEntries->Ot,Result->Ow,CmpOp->OT,holding->OU,IsRangeIter->OV,cellsFrom->OW,keywordEach->OX,relabel->O1,theTreesLotGoes->O4,putSet_of->O7,codeAny_of_tree->O8,Fin->O_,eqIsQuiet->Pc,wpAny_dictEpoch->Pf,wpAny_Compare1->Pj,wpAny_bindName->Pk,recursionLimit->Py,entryFor_alias->PJ,callType_codes->PL,wpAny_newTuple->PM,builtinsNs->PY,wpAny_Name->PZ,call_meets->Qf,closureFor->Qg,setsByText->Qh,spliced->Qk,bindName->Ql,Operator->Qm,BindsTo->Qn,compPost->Qq,Within->Qu,bindL->QF,bindC->QG,atKey->QL,revObj->QP,Model->QS,call->QT
open List renaming getElem?_eq_getElem->Fj,length_map->Fk,mem_cons_of_mem->Fn,mem_map->Fs,getElem?_map->Ft,mem_cons_self->Fv,mem_cons->Fw,mem_singleton->Fy,getElem?_eq_some_iff->FA,mem_append->FB,mem_of_getElem?->FD,append_assoc->FF,mem_append_right->FG,mem_append_left->FJ,size_toArray->FL,mem_reverse->FM,pairwise_iff_getElem->FO,getD_eq_getElem?_getD->FP,getElem?_append_left->FR,getElem?_append_right->FS,length_append->FT,map_cons->FU,mem_range->FV,getElem?_set_ne->FZ,map_map->F5,length_cons->F8,getElem?_eq_none->F9,pairwise_map->Gb,take_append_drop->Gc,pairwise_cons->Gg,nodup_append->Gm,drop_eq_getElem_cons->Gp,map_append->Gr,length_reverse->Gx,getLast?_cons_cons->Gy,mem_map_of_mem->Gz,getElem_mem->GD,range->GG,dropLast_concat_getLast->GI,getLast?_eq_getElem?->GM,mem_filter->GP,pairwise_append->GQ,length_pos_of_mem->GV,mem_iff_getElem?->GZ,length_pos_iff->G0,length_eq_zero_iff->G8,getElem?_range->G9,getElem_of_mem->G_,head?_eq_getElem?->Hi,getElem?_reverse->Hr,reverse_append->Ht,take_length->Hv,perm_ext_iff_of_nodup->Hy,nodup_cons->HG,getElem?_take_of_lt->HN,perm_append_comm->HS,pairwise_reverse->HU,flatMap_cons->HX,append_nil->Ib,foldl_cons->Ic,Perm->Ik,zip_cons_cons->Il,mem_of_mem_drop->Im,map_reverse->Io,take_of_length_le->Iq,ext_getElem?->IA,take_succ->IB,length_take->IJ,getElem?_zipWith_eq_some->IK,length_dropLast->IL,reverse_reverse->IM,mem_of_getLast?->IP,getElem?_replicate->IR,filterMap_cons->IY,length_drop->Jc,cons_append->Jf,length_replicate->Jg,getElem?_drop->Jh,tail_cons->Jl,take_succ_eq_append_getElem->Jm,mem_of_mem_take->Jp,forIn_cons->Jr,drop_sublist->Jt,getElem_append_left->Ju,perm_middle->Jy,range_succ_eq_map->JB,getElem?_dropLast->JC,length_set->JH,length_nil->JI,getElem?_toArray->JK,getLast?_reverse->JO,reverse_cons->JW,getElem_drop->JY,foldl_append->J1,getElem?_inj->J2,forIn_nil->Ka,getElem_append_right->Kb,mem_take_iff_getElem->Kc,flatMap_append->Kl,length_erase_of_mem->Kq,getLast?_eq_getLast->Kt,getElem?_cons_succ->Kx,head?_reverse->KC,pairwise_lt_range->KF,length_eq_one_iff->KL,length_range->KY,getElem_take->K3,getLast?_map->K5,lookup_cons->Ln,all_eq_true->Lo,nodup_range->Lp,not_mem_nil->Lq,getLast?_eq_some_getLast->Lr,mem_erase_of_ne->Lv,all_cons->Ly,take_succ_cons->LF,nodup_iff_pairwise_ne->LJ,perm_append_singleton->LK,mem_filterMap->LN,zipWith->LS,head?_map->L3,take_sublist->L_,getElem?_set->Mb,zip_nil_left->Mh,reverse_perm->Mi,map_dropLast->Mj,length->Mp,sum_cons->MC,filter_cons_of_pos->MD,filter_cons_of_neg->ME,getElem_inj->MF,mem_flatMap->MJ,getElem?_set_self->MK,drop_eq_nil_of_le->MU,of_mem_zip->MZ,length_singleton->M3,map_nil->M4,filterMap_append->M5,set_append_right->Nh,pairwise_flatten->Nm,length_filter_le->Nq,getElem_reverse->NA,mem_iff_getElem->NB,dropLast_subset->NC,take_zero->NF,nodup_nil->NH,any_cons->NY,map_take->N2,map_drop->N3,filter_append->Od,ne_nil_of_mem->Oe,mem_of_head?->Ou,Sublist->OB,drop_length->OJ,mem_flatten->OO,getLast_mem->OQ,zip->OS,head?_cons->Pg,range_succ->Ph,replicate->Pz,drop_drop->PN,all_map->Qx,map_id->QM
open PySem.W renaming Frag->Fm,mg_none_of->GA,kia_one->Ha,fnOf->IS,keepIn->Jj,kitOne->J9,cellsFrom_some->KD,codeIn->K7,methodObj->L7,kitx_list->L9,instObj->MV,lookIn->ND,kitx_tuple->NU,kitx_dict->Og,plainGet->OC,OpenLaw->OZ,findIn->Px,kIn_of->PF,WalkO->Qp
open PySem.Heap renaming get?_push_of_some->Fo,lt_size->FC,get?_push_size->FE,get?_update_other->F3,get?_update_self->Gk,size_push->HH,SameBut->JE,get?_none_of_le->Ls,ExtBut->QK
open Nat renaming le_refl->Fu,mod_eq_of_lt->F0,lt_or_eq_of_le->F2,lt_of_lt_of_le->F6,ne_of_lt->Ga,lt_irrefl->Gh,zero_le->GN,le_of_lt->GW,lt_or_ge->G7,le_trans->Hh,le_of_lt_succ->Hx,lt_succ_self->HI,lt_succ_of_lt->HP,mod_lt->Iw,pow_succ->IT,lt_of_le_of_lt->JD,add_zero->JJ,lt_trichotomy->JS,lt_of_succ_lt->JX,add_mod_right->J3,pow_le_pow_right->J7,le_of_not_lt->Ke,eq_zero_or_pos->Kz,ne_of_gt->Lc,zero_add->Lh,mod_self->Lk,lt_trans->LP,mod_eq_sub_mod->LQ,add_mul_mod_self_left->LW,div_div_eq_div_mul->MP,mod_add_mod->M6,sub_zero->Ng,mul_le_mul_right->Ny,mul_le_mul_left->NM,add_le_add_left->NP,mod_mod_of_dvd->N1,add_sub_cancel->Oc,le_succ_of_le->Os,sub_self->Oy,le_max_right->OD,div_eq_of_lt->OE,succ_ne_self->OG,not_lt_of_gt->OH,succ_le_succ->OP,le_max_left->OY,not_lt_zero->O6,one_pos->Pb,min_eq_left->Pi,sub_lt->Qi,add_assoc->Qr,le_of_eq->Qw,min_self->Qy,zero_mod->QA,gcd_comm->QC,add_mod->QJ,sub_le->QU
open Array renaming length_toList->Fx,getElem?_eq_getElem->Gf,toList_append->Gq,getElem?_toList->GC,getD_eq_getD_getElem?->Hn,forIn_toList->Ie,toList_push->IV,getElem?_eq_some_iff->Ja,toList_reverse->Jo,getD->JT,toList_inj->Kf,getElem?_replicate->Kp,mem_toList_iff->Lu,toList_setIfInBounds->LL,toList_map->MH,getElem?_eq_none->MQ,toList_zip->OK,size_map->PH,toList->Qv
open Bool renaming false_eq_true->Fz,false_ne_true->F1,not_true->Gw,and_eq_true->Hu,not_false->HY,eq_iff_iff->IC,true_and->JU,and_false->K8,beq_eq_decide_eq->Le,and_eq_true_iff->Nx,and_true->NZ,or_eq_true->O5,or_false->Qs
open PyProof.Rows renaming wpS_bind->FN,wpS_pure->FY,arrOf->Gu,Keyed->GE,SortSt->HC,boot_isinstance->IH,wpS_forRange->IU,pendingOf->I0,wpS_mono->Jn,SortKind->Kh,wpS_modify->K0,failedOf->LA,assignInOrder_cons->LM,wpS_get->L1,AllBare->Ml,subscriptTail_builtinR->ML,envOfC->M0,boot_tuple->Nu,subscriptTail->NX,boot_list->N6,gallopOf->N9,seqObj->N_,listUpdate_at->Oa,assignInOrder_nil->Of,tuples'->O9,seqEpoch_at->Pd,entry_list_sort->Pe,slot_list_sort->PR,args_list_sort->PU,sortedHeap_old->PV,boot_range->P1,Subscript_->Qe,mirror->Qj,IntsAre->Qo,bubble->QQ,IsTup->QR
open Int renaming mul_nonneg->FQ,mul_eq_zero->F_,mul_pos->Gi,dvd_trans->GH,dvd_mul_left->GK,eq_of_mul_eq_mul_left->GL,lt_or_le->GO,mul_nonpos_of_nonneg_of_nonpos->GY,mul_zero->G5,toNat_natCast->Hf,lt_or_eq_of_le->Hm,emod_lt_of_pos->Hz,mul_ediv_cancel_left->HV,pos_of_mul_pos_right->HW,emod_nonneg->ID,zero_mul->IG,nonneg_of_mul_nonneg_right->II,mul_ediv_cancel'->IQ,dvd_mul_right->IW,emod_add_mul_ediv->Ji,gcd->Jv,eq_ofNat_of_zero_le->Jx,dvd_add->JN,gcd_dvd_right->J0,natAbs_of_nonneg->J8,gcd_dvd_left->Ki,one_mul->Kk,natAbs_mul->K9,mul_comm->Li,natAbs_dvd_natAbs->Lj,zero_add->Ll,le_refl->LG,dvd_refl->LU,mul_neg_of_pos_of_neg->L4,mul_neg_of_neg_of_pos->L5,mul_one->Mo,dvd_sub->MA,le_ediv_iff_mul_le->MT,dvd_coe_gcd->Nj,le_total->Nk,add_zero->Nl,sub_zero->Nn,le_trans->Np,add_nonneg->NI,dvd_neg->NL,mul_neg->NN,sub_mul->NO,lt_trichotomy->Ov,zero_dvd->Oz,le_of_lt->OA,dvd_antisymm->OM,ediv_le_self->ON,gcd_mul_left->OR,mul_le_mul->PX,ofNat_dvd->Qt,dvd_zero->Qz
open PySem.Value renaming ref->FW,none->F4,int->GB,bool->GF,str->GT,type->Hd,isInt_shape->KM,isInt->QD,float->QE
open Classical renaming byContradiction->Gn,choose_spec->Nb,choose->OF
open Option.some renaming inj->Gv
open PySem.Obj renaming mapSeq->GR,data_mapFields->Ij,putSet->KU,isFreed_of_fields->Lg,cls_mapFields->Me,mapFields->N5
open Prod renaming ext->GU,fst->LB,snd->Nv
open PySem.Around renaming under_plainId->GX
open PySem.F renaming plain_extend_loop->Hg,plain_min_loop->HD,plain_max_loop->HE,slot_zip_next->HR,called_set->Ih,slot_tuple_lt->JM,plainAttrs_list->Kw,args_zip_next_1->KA,entry_zip_next->KH,entry_min_loop->KI,entry_max_loop->KJ,entry_extend_loop->L0,args_list_init_2->Mf,typeCall_list_1->Ms,entry_list_init->Mt,args_tuple_lt_2->Mx,entry_tuple_lt->MR,plain_set_new->M9,slot_set_iter->M_,slot_zip_iter->Nd,slot_tuple_gt->Nf,called_list->NK
open List.Perm renaming append_left->Hq,refl->LX,append_right->MS,trans->Pa
open Option renaming map_eq_some_iff->Ir,getD_some->Jd,isSome_iff_exists->Kn,getD_none->MG,toList_some->N0,map->Oo,none->QH
open PySem.Heap.SameBut renaming update->Iz,refl->On
open List.Pairwise renaming map->IX,nil->JR,imp_of_mem->Ko,of_map->Lw,sublist->QB
open List.cons renaming inj->JZ,injEq->Na
open List.Sublist renaming refl->J4
open PySem.Calls renaming spliced_cons->Kv,spliced_nil->KN,Name_function_global->LI,callWith_builtin->MM
open ToString renaming toString->KB
open PySem.Value.type renaming inj->LV
open MonadExcept renaming tryCatch->Mw
open PySem.Heap.IsSliceOf renaming new->NW
open Prod.mk renaming injEq->N8
open List.Nodup renaming length_le_of_subset->Ox
open PySem.EqNone renaming eq_none_none->Pl,eq_none_bool->Pm,eq_bool_none->Pn,ne_none_none->Pq,ne_none_bool->Pr,ne_bool_none->Pu,eq_none_int->P3,eq_none_str->P4,eq_int_none->P5,eq_str_none->P7,ne_none_int->P9,ne_none_str->P_,ne_int_none->Qa,ne_str_none->Qc
open PySem.EqMixed renaming eq_bool_str->Po,eq_str_bool->Pp,ne_bool_str->Pv,ne_str_bool->Pw,eq_int_str->P6,eq_str_int->P8,ne_int_str->Qb,ne_str_int->Qd
open ForIn renaming forIn->QI
open PySem.W.Dflts renaming none->QN,noKw->QO
set_option hygiene false
set_option hygiene true
set_option hygiene false
local macro_rules|`(tactic|walk_at"sC")=>`(tactic|exact⟨rfl,rfl,rfl,by decide+kernel,rfl,by decide+kernel,by decide+kernel⟩)
local macro_rules|`(tactic|walk_at"b1")=>`(tactic|exact λ_ _ _ _ _ _ _ h=>My.ar1 h λ_=>rfl)
local macro_rules|`(tactic|walk_at"b2")=>`(tactic|exact λ_ _ _ _ _ _ _ h=>My.ar2 h λ_ _=>rfl)
set_option hygiene true
set_option maxHeartbeats 8000000
set_option Elab.async false
set_option linter.all false
set_option maxRecDepth 100000
namespace L2
open PySem PySem.Spec PyProof.Rows
abbrev Key:=Sum Int Str
def BW:Key->Fq->Bool
 | .inl k,v=>QD k v
 | .inr x,v=>Value.isStrOf x v
def EW(w:Gj):Key->Int
 | .inl k=>hashInt k
 | .inr x=>hashStr w x
theorem bL:∀{k:Key}{v:Fq},BW k v=true->(∃i t,k=Sum.inl i/\v=GB i t)\/(∃x t,k=Sum.inr x/\v=GT x t)
 | .inl i,v,h=>by
  obtain⟨t,e⟩:=KM (k:=i) (v:=v) h;exact .inl ⟨i,t,rfl,e⟩
 | .inr x,v,h=>by
  obtain⟨t,e⟩:=Value.isStrOf_shape (x:=x) (v:=v) h;exact .inr ⟨x,t,rfl,e⟩
theorem Dr(a b:Int):decide ((Sum.inl a:Key)=Sum.inl b)=(a==b):=by
 by_cases e:a=b
 ·subst e;simp
 ·have h:¬ (Sum.inl a:Key)=Sum.inl b:=λq=>e (Sum.inl.inj q)
  rw[decide_eq_false h];exact (beq_eq_false_iff_ne.mpr e).symm
theorem CQ(a b:Str):decide ((Sum.inr a:Key)=Sum.inr b)=decide (a=b):=by
 by_cases e:a=b
 ·subst e;simp
 ·have h:¬ (Sum.inr a:Key)=Sum.inr b:=λq=>e (Sum.inr.inj q)
  rw[decide_eq_false h,decide_eq_false e]
theorem C8(a:Int)(b:Str):decide ((Sum.inl a:Key)=Sum.inr b)=false:=decide_eq_false (λq=>nomatch q)
theorem DF(a:Str)(b:Int):decide ((Sum.inr a:Key)=Sum.inl b)=false:=decide_eq_false (λq=>nomatch q)
noncomputable def uA(prog:FK)(w:Gj):PySem.KeyKind prog w Key where
 is:=BW
 hash:=EW w
 inj:=λv a b ha hb=>by
  rcases bL ha with ⟨i,t,rfl,rfl⟩ |⟨x,t,rfl,rfl⟩
  ·rcases bL hb with ⟨j,u,rfl,e⟩ |⟨y,u,rfl,e⟩
   ·injection e with e1 _;rw[e1]
   ·exact nomatch e
  ·rcases bL hb with ⟨j,u,rfl,e⟩ |⟨y,u,rfl,e⟩
   ·exact nomatch e
   ·injection e with e1 _;rw[e1]
 byValue:=λk v h=>by
  rcases bL h with ⟨i,t,rfl,rfl⟩ |⟨x,t,rfl,rfl⟩ <;>rfl
 pyHash:=λhv h=>by
  rcases bL hv with ⟨i,t,rfl,rfl⟩ |⟨x,t,rfl,rfl⟩
  ·exact wpAny_pyHash_int h
  ·exact wpAny_pyHash_str h
 eqBool:=λhu hv h=>by
  rcases bL hu with ⟨i,t,rfl,rfl⟩ |⟨x,t,rfl,rfl⟩
  ·rcases bL hv with ⟨j,u,rfl,rfl⟩ |⟨y,u,rfl,rfl⟩
   ·rw[Dr]at h;exact wpAny_eqBool_int h
   ·rw[C8]at h;exact SeqAt.EqAt.int_str i t y u _ _ _ _ h
  ·rcases bL hv with ⟨j,u,rfl,rfl⟩ |⟨y,u,rfl,rfl⟩
   ·rw[DF]at h;exact SeqAt.EqAt.str_int x t j u _ _ _ _ h
   ·rw[CQ]at h;exact wpAny_eqBool_str h
 «strs»:=λk x t v h=>by
  rcases bL h with ⟨i,u,rfl,e⟩ |⟨y,u,rfl,e⟩
  ·exact nomatch e
  ·injection e with e1 _
   subst e1;cases v <;>rfl
inductive V where
 |non |bl (b:Bool) |int (i:Int) |str (x:Str) |byt (b:Array UInt8) |flt (b:UInt64) |ref (a:FI) |ty (n:String)
 deriving DecidableEq
noncomputable def a9:V->Fq->Prop
 | .non,u=>u=F4
 | .bl b,u=>u=GF b
 | .int i,u=>∃t,u=GB i t
 | .str x,u=>∃t,u=GT x t
 | .byt b,u=>∃t,u=Value.bytes b t
 | .flt b,u=>∃t,u=QE b t
 | .ref a,u=>u=FW a
 | .ty n,u=>u=Hd n
abbrev aT:List V->List Fq->Prop:=Paired a9
theorem aT.length{xs:List V}{us:List Fq}(r:aT xs us):xs.length=us.length:=Paired.length r
theorem aT.get:∀{xs:List V}{us:List Fq}{i:Nat}{x:V},aT xs us->xs[i]?=some x->∃u,us[i]?=some u/\a9 x u
 |_,_,_,_,.nil,e=>by simp at e
 |_,_,0,_,.cons r _,e=>by simp at e;subst e;exact⟨_,rfl,r⟩
 |_,_,i+1,x,.cons _ t,e=>by
  obtain⟨u,h1,h2⟩:=aT.get (i:=i) (x:=x) t (by simpa using e)
  exact⟨u,by simpa using h1,h2⟩
theorem aT.append:∀{xs ys:List V}{us ws:List Fq},aT xs us->aT ys ws->aT (xs++ys) (us++ws)
 |_,_,_,_,.nil,s=>s
 |_,_,_,_,.cons r t,s=>.cons r (aT.append t s)
theorem aT.take:∀{xs:List V}{us:List Fq} (n:Nat),aT xs us->aT (xs.take n) (us.take n)
 |_,_,0,_=>.nil
 |_,_,_+1,.nil=>.nil
 |_,_,n+1,.cons r t=>.cons r (aT.take n t)
theorem aT.drop:∀{xs:List V}{us:List Fq} (n:Nat),aT xs us->aT (xs.drop n) (us.drop n)
 |_,_,0,r=>r
 |_,_,_+1,.nil=>.nil
 |_,_,n+1,.cons _ t=>aT.drop n t
noncomputable def CJ:Option V->Option Fq->Prop
 |some v,some u=>a9 v u
 |none,none=>True
 |_,_=>False
def KV{κ:Type}:List (κ×V)->List (κ×Fq)->Prop:=Paired λ(p:κ×V) (q:κ×Fq)=>p.1=q.1/\a9 p.2 q.2
def kV:Key->V
 | .inl i=>.int i
 | .inr x=>.str x
inductive HO where
 /-- a list -/
 |lst (xs:List V)
 /-- a tuple (never changes) -/
 |tup (xs:List V)
 /-- a dict whose keys are ints and texts;one whose keys are tuples of ints and texts (the empty one is both) -/
 |dK (QZ:List (Key×V)) |dT (QZ:List (List Key×V))
 /-- a set of ints:QW members,QW size -/
 |set (S:Int->Bool) (n:Nat)
 /-- an instance of the class at C,QW dict at dx,QW attributes -/
 |ins (C dx:FI) (fs:List (Str×V))
 /-- the dict of the instance at x -/
 |own (x:FI)
 /-- the dict of an exception -/
 |xd (fs:List (Str×V))
 /-- a bound method,f of x -/
 |met (f x:FI)
 /-- a range object lo,lo+1,.. below hi -/
 |rng (lo hi:Int)
 /-- a thing that is known to the object (the script;a dict while a loop walks it):read,never written while it is so -/
 |frz (o:Obj) (u:HO)
 /-- a code object's table -/
 |tbl (ps:Array Fq)
 /-- any other thing,by what is true of QW one object (a def of one's own:SetO a S n:=HO.ext λh=>..) -/
 |ext (φ:HF->Prop)
abbrev Hp:=FI->Option HO
def upd(H:Hp)(a:FI)(o:HO):Hp:=λb=>if b=a then some o else H b
theorem aO{H:Hp}{a:FI}{o:HO}:upd H a o a=some o:=by unfold upd;rw[if_pos rfl]
theorem ba{H:Hp}{a b:FI}{o:HO}(h:b≠a):upd H a o b=H b:=by unfold upd;rw[if_neg h]
theorem cQ{H:Hp}{a b:FI}{o:HO}(h:H a=some o)(h':H b=none):a≠b:=by
 intro e;subst e;rw[h]at h';cases h'
section
variable (P:FK) (w:Gj)
noncomputable def bS(H:Hp)(h:HF)(a:FI):HO->Prop
 | .lst xs=>xs.length≤sizeLine∧∃(QW:List Fq) (n:Nat),aT xs QW∧h.get? a=some {cls:=.type "list",data:=.seq QW.toArray n }
 | .tup xs=>xs.length<=sizeLine/\∃QW:List Fq,aT xs QW/\QR h a QW.toArray
 | .dK QZ=>QZ.length<=sizeLine/\(a==L6)=false/\∃vs,KV QZ vs/\h.DictOf (uA P w) a vs
 | .dT QZ=>QZ.length<=sizeLine/\(a==L6)=false/\∃xs:List (List Key×FI×Fq),
   Paired (λ(p:List Key×V) (q:List Key×FI×Fq)=>p.1=q.1/\H q.2.1=some (.tup (p.1.map kV))/\a9 p.2 q.2.2) QZ xs/\
   ∃o es ep,h.get? a=some o/\o.ExactDict/\o.data=.dict es ep/\es.toList=xs.map (entryOfKey (tupleKind (uA P w)))/\(xs.map (·.1)).Nodup
 | .set S n=>h.SetOf (Lm P w) a S n
 | .ins C dx fs=>H dx=some (.own a)/\fs.length<=1000/\dx≠a/\h.get? a=some (MV C dx)/\
   ∃mA,h.Ns1 dx mA/\(∀f,CJ (fs.lookup f) (mA f))/\Qu mA (fs.map (·.1))
 | .own _=>∃o,h.get? a=some o
 | .xd fs=>∃mA,h.Ns1 a mA/\∀f,CJ (fs.lookup f) (mA f)
 | .rng lo hi=>∃t u v,h.get? a=some {cls:=.type "range",data:=.fields #[.int lo t,.int hi u,.int 1 v] }
 | .frz o u=>h.get? a=some o/\bS H h a u
 | .tbl ps=>h.get? a=some {cls:=.none,data:=.fields ps }
 | .met f x=>h.get? a=some (L7 (.ref f) (.ref x))
 | .ext φ=>φ h/\(∃o,h.get? a=some o)/\∀h1 h2:HF,φ h1->(∀o,h1.get? a=some o->h2.get? a=some o)->φ h2
def HOk(H:Hp)(h:HF):Prop:=∀a o,H a=some o->bS P w H h a o
end
variable {H:Hp}{H':Hp}{h':HF}
section
variable {P:FK}{w:Gj}{h:HF}{a:FI}{o:HO}
theorem bS.lt(x:bS P w H h a o):a<h.objs.size:=by
 cases o with
 |lst xs=>obtain⟨_,_,_,_,e⟩:=x;exact FC e
 |tup xs=>obtain⟨_,_,_,p⟩:=x;exact p.lt
 |dK QZ=>obtain⟨_,_,_,_,o,_,_,e,_⟩:=x;exact FC e
 |dT QZ=>obtain⟨_,_,_,_,o,_,_,e,_⟩:=x;exact FC e
 |set S n=>obtain⟨o,_,_,_,e,_⟩:=x;exact FC e
 |ins C dx fs=>obtain⟨_,_,_,e,_⟩:=x;exact FC e
 |own y=>obtain⟨_,e⟩:=x;exact FC e
 |xd fs=>obtain⟨_,⟨_,_,_,e,_⟩,_⟩:=x;exact FC e
 |rng lo hi=>obtain⟨_,_,_,e⟩:=x;exact FC e
 |frz ob u=>obtain⟨e,_⟩:=x;exact FC e
 |tbl ps=>exact FC (show h.get? a=some _ from x)
 |met f y=>exact FC (show h.get? a=some _ from x)
 |ext φ=>obtain⟨_,⟨_,e⟩,_⟩:=x;exact FC e
theorem Paired.mapP{α β:Type}{F G:α->β->Prop}:∀{l₁:List α}{l₂:List β},Paired F l₁ l₂->(∀a b,F a b->G a b)->Paired G l₁ l₂
 |_,_,.nil,_=>.nil
 |_,_,.cons r t,f=>.cons (f _ _ r) (Paired.mapP t f)
theorem bS.stay(x:bS P w H h a o)(k:∀b u,(b=a\/H b=some (.own a))->h.get? b=some u->h'.get? b=some u)
  (ho:∀b,H b=some (.own a)->H' b=some (.own a)) (ht:∀b xs,H b=some (.tup xs)->H' b=some (.tup xs)):bS P w H' h' a o:=by
 induction o with
 |lst xs=>obtain⟨z,QW,n,r,e⟩:=x;exact⟨z,QW,n,r,k _ _ (.inl rfl) e⟩
 |tup xs=>obtain⟨z,QW,r,ob,e,c⟩:=x;exact⟨z,QW,r,ob,k _ _ (.inl rfl) e,c⟩
 |dK QZ=>obtain⟨z,y,vs,r,ob,es,ep,e,c⟩:=x;exact⟨z,y,vs,r,ob,es,ep,k _ _ (.inl rfl) e,c⟩
 |dT QZ=>
  obtain⟨z,y,xs,r,ob,es,ep,e,c⟩:=x;exact⟨z,y,xs,Paired.mapP r λp q z=>⟨z.1,ht _ _ z.2.1,z.2.2⟩,ob,es,ep,k _ _ (.inl rfl) e,c⟩
 |set S n=>obtain⟨ob,es,ep,t,e,c⟩:=x;exact⟨ob,es,ep,t,k _ _ (.inl rfl) e,c⟩
 |ins C dx fs=>
  obtain⟨d,z,ne,e,mA,⟨od,es,ep,e2,c⟩,r⟩:=x;exact⟨ho _ d,z,ne,k _ _ (.inl rfl) e,mA,⟨od,es,ep,k _ _ (.inr d) e2,c⟩,r⟩
 |own y=>obtain⟨ob,e⟩:=x;exact⟨ob,k _ _ (.inl rfl) e⟩
 |xd fs=>obtain⟨mA,⟨od,es,ep,e,c⟩,r⟩:=x;exact⟨mA,⟨od,es,ep,k _ _ (.inl rfl) e,c⟩,r⟩
 |rng lo hi=>obtain⟨t,u,v,e⟩:=x;exact⟨t,u,v,k _ _ (.inl rfl) e⟩
 |frz ob u ih=>obtain⟨e,q⟩:=x;exact⟨k _ _ (.inl rfl) e,ih q⟩
 |tbl ps=>
  have e:h.get? a=some {cls:=.none,data:=.fields ps }:=x;show h'.get? a=some {cls:=.none,data:=.fields ps };exact k a _ (.inl rfl) e
 |met f y=>
  have e:h.get? a=some (L7 (.ref f) (.ref y)):=x;show h'.get? a=some (L7 (.ref f) (.ref y));exact k a _ (.inl rfl) e
 |ext φ=>obtain⟨p,⟨o,e⟩,st⟩:=x;exact⟨st _ _ p λo q=>k _ _ (.inl rfl) q,⟨o,k _ _ (.inl rfl) e⟩,st⟩
theorem HOk.lt(x:HOk P w H h)(e:H a=some o):a<h.objs.size:=(x a o e).lt
theorem HOk.fresh(x:HOk P w H h)(e:h.objs.size<=a):H a=none:=by
 cases q:H a with
 |none=>rfl
 |some u=>exact absurd (F6 (x.lt q) e) (Gh _)
theorem HOk.kept(x:HOk P w H h)(k:∀b u,h.get? b=some u->h'.get? b=some u):HOk P w H h':=λa o e=>
 (x a o e).stay (λb u _ q=>k b u q) (λ_ q=>q) λ_ _ q=>q
theorem HOk.laid(x:HOk P w H h)(k:∀b u,h.get? b=some u->h'.get? b=some u)(hp:h.objs.size<=a)(new:bS P w (upd H a o) h' a o):HOk P w (upd H a o) h':=λb u e=>by
 have hn:=x.fresh hp;by_cases hb:b=a
 ·subst hb;rw[aO]at e;cases e;exact new
 ·rw[ba hb]at e;exact (x b u e).stay (λc v _ q=>k c v q) (λc q=>by rw[ba (cQ q hn)];exact q) λc xs q=>by rw[ba (cQ q hn)];exact q
end
def Rd(H:Hp)(a:FI)(u:HO):Prop:=H a=some u\/∃o,H a=some (.frz o u)
theorem Rd.ok{P:FK}{w:Gj}{H:Hp}{h:HF}{a:FI}{u:HO}(r:Rd H a u)(x:HOk P w H h):bS P w H h a u:=by
 rcases r with r |⟨o,r⟩
 ·exact x a u r
 ·obtain⟨_,q⟩:=x a _ r;exact q
noncomputable def Mut:Option HO->Prop
 |some (.lst _)=>True
 |some (.dK _)=>True
 |some (.dT _)=>True
 |some (.set _ _)=>True
 |some (.ins _ _ _)=>True
 |some (.ext _)=>True
 |_=>False
section
variable {P:FK}{w:Gj}{h:HF}{x e:FI}{o':HO}
theorem HOk.write(ok:HOk P w H h)(mu:Mut (H x))(he:e=x\/H e=some (.own x))(k:∀b u,b≠e->h.get? b=some u->h'.get? b=some u)(heo:∃u,h'.get? e=some u)
  (new:bS P w (upd H x o') h' x o'):HOk P w (upd H x o') h':=λb u q=>by
 have nown:∀c y,H c=some (.own y)->c≠x:=λc y r z=>by subst z;rw[r]at mu;exact mu
 have ntup:∀c xs,H c=some (.tup xs)->c≠x:=λc xs r z=>by subst z;rw[r]at mu;exact mu
 by_cases hb:b=x
 ·subst hb;rw[aO]at q;cases q;exact new
 ·rw[ba hb]at q;by_cases hbe:b=e
  ·have q':H b=some (.own x):=by
    rcases he with z |z
    ·exact absurd (hbe.trans z) hb
    ·rw[hbe];exact z
   rw[q]at q';cases q';obtain⟨v,hv⟩:=heo;exact⟨v,by rw[hbe];exact hv⟩
  ·refine (ok b u q).stay (λc v hc r=>k c v ?_ r) (λc r=>by rw[ba (nown c b r)];exact r) λc xs r=>by rw[ba (ntup c xs r)];exact r
   rcases hc with rfl |hc
   ·exact hbe
   ·rintro rfl;rcases he with z |z
    ·exact nown c b hc z
    ·rw[hc]at z;cases z;exact hb rfl
end
structure Un(fs ex:List FI)(H H':Hp)(h h':HF):Prop where
 keep:∀b o,h.get? b=some o->H b=none->b ∉ fs->b ∉ ex->h'.get? b=some o
 slot:∀b o,h.get? b=some o->H b=none->b∈fs->b ∉ ex->∃sl,h'.get? b=some {o with slots:=sl }
 free:∀b o,h.get? b=some o->H b=none->b ∉ ex->H' b=none
 there:∀b o,h.get? b=some o->b ∉ ex->∃o',h'.get? b=some o'
 tups:∀b xs,H b=some (.tup xs)->H' b=some (.tup xs)
 frzs:∀b o u,H b=some (.frz o u)->H' b=some (.frz o u)
 tbls:∀b ps,H b=some (.tbl ps)->∃more,H' b=some (.tbl (ps++more))
section
variable {fs fs' ex ex':List FI}{H1 H2:Hp}{h h1 h2:HF}{a x e:FI}{o:HO}
theorem Un.any(u:Un fs ex H H1 h h1){b:FI}{ob:Obj}(q:h.get? b=some ob)(n:H b=none)(hx:b ∉ ex):∃sl,h1.get? b=some {ob with slots:=sl }:=by
 by_cases hb:b∈fs
 ·exact u.slot b ob q n hb hx
 ·exact⟨ob.slots,u.keep b ob q n hb hx⟩
theorem Un.kept(k:∀b u,h.get? b=some u->h'.get? b=some u):Un fs ex H H h h':=
 ⟨λb ob q _ _ _=>k b ob q,λb ob q _ _ _=>⟨ob.slots,k b ob q⟩,λ_ _ _ n _=>n,λb ob q _=>⟨ob,k b ob q⟩,λ_ _ q=>q,λ_ _ _ q=>q,λ_ ps q=>⟨#[],by rw[q];simp⟩⟩
theorem Un.refl:Un fs ex H H h h:=Un.kept λ_ _ q=>q
theorem Un.laid(k:∀b u,h.get? b=some u->h'.get? b=some u)(hp:h.objs.size<=a)(hn:H a=none):Un fs ex H (upd H a o) h h' where
 keep:=λb u q _ _ _=>k b u q
 slot:=λb u q _ _ _=>⟨u.slots,k b u q⟩
 free:=λb u q n _=>by rw[ba (Ga (F6 (FC q) hp))];exact n
 there:=λb u q _=>⟨u,k b u q⟩
 tups:=λb xs q=>by rw[ba (cQ q hn)];exact q
 frzs:=λb u xs q=>by rw[ba (cQ q hn)];exact q
 tbls:=λb ps q=>⟨#[],by rw[ba (cQ q hn),q];simp⟩
theorem Un.write(mu:Mut (H x))(he:e=x\/H e=some (.own x))(k:∀b u,b≠e->h.get? b=some u->h'.get? b=some u)(heo:∃u,h'.get? e=some u):Un fs ex H (upd H x o) h h':=by
 have hx:∀b,H b=none->b≠x:=λb n z=>by subst z;rw[n]at mu;exact mu
 have hb:∀b,H b=none->b≠e:=λb n z=>by
  subst z;rcases he with r |r
  ·exact hx b n r
  ·rw[n]at r;cases r
 have hm:∀b u,H b=some u->¬ Mut (some u)->b≠x:=λb u q nm z=>by subst z;rw[q]at mu;exact nm mu
 refine⟨λb u q n _ _=>k b u (hb b n) q,λb u q n _ _=>⟨u.slots,k b u (hb b n) q⟩,λb u q n _=>by rw[ba (hx b n)];exact n,λb u q _=>?_,
  λb xs q=>by rw[ba (hm b _ q λz=>z)];exact q,λb u xs q=>by rw[ba (hm b _ q λz=>z)];exact q,λb ps q=>⟨#[],by rw[ba (hm b _ q λz=>z),q];simp⟩⟩
 by_cases hbe:b=e
 ·subst hbe;exact heo
 ·exact⟨u,k b u hbe q⟩
end
def trk(h:HF)(H:Hp):List FI:=(GG h.objs.size).filter λa=>(H a).isSome
def nJ(h:HF)(H:Hp):HF:=PySem.W.hideAll h (trk h H)
theorem u6(h:HF)(H:Hp):(nJ h H).objs.size=h.objs.size:=PySem.W.hideAll_size _ _
theorem x_{h:HF}{H:Hp}{b:FI}{o:Obj}(e:h.get? b=some o)(n:H b=none):(nJ h H).get? b=some o:=
 PySem.W.hideAll_get _ e λhm=>by
  have q:(H b).isSome=true:=(GP.mp hm).2;rw[n]at q;simp at q
theorem AA{h:HF}{H:Hp}{b:FI}{o:Obj}(e:(nJ h H).get? b=some o):h.get? b=some o/\H b=none:=by
 have e':h.get? b=some o:=PySem.W.of_hideAll (trk h H) e;refine⟨e',?_⟩;cases q:H b with
 |none=>rfl
 |some x=>
  have hm:b∈trk h H:=GP.mpr ⟨FV.mpr (FC e'),by simp[q]⟩
  have z:(nJ h H).get? b=none:=PySem.W.hideAll_none (trk h H) hm;rw[z]at e;cases e
noncomputable def Bn(g h:HF)(L:FI):List (FI×Obj):=(GG h.objs.size).filterMap λa=>if a=L\/(g.get? a).isSome=true then none else (h.get? a).map λo=>(a,o)
noncomputable def rest(g h:HF)(L d:FI):List (FI×Obj):=(Bn g h L).filter λp=>decide (p.1≠d)
structure Mod(K:Fm)(mg:Str->Option Fq)(base:HF):Prop where
 kin:K.In base
 glob:base.Ns HJ mg
 blt:∃mb,base.Ns PY mb∧∀x:Str,x≠"__name__"→mb x=HL x
 nolimit:base.NoLimit
structure Cx where
 prog:FK
 w:Gj
 K:Fm
 mg:Str->Option Fq
 base:HF
 A:Gs
 N:List Str
 s₀:Fp
 H₀:Hp
 env:Env
 outer:List Env
 stack:List Env
 ex:List FI
 fn:Str->Bool
 calm:Bool
 pn:List (FI×Obj)
 xe:Fq->Fp->Prop
def frs(l:List Env):List FI:=l.filterMap (·.frame)
abbrev Cx.fs(X:Cx):List FI:=frs X.outer
def Vis(sc:LH)(x:Str):Prop:=sc.names.lookup x=some .local\/sc.names.lookup x=some .cell\/sc.names.lookup x=some .free
def Loc(sc:LH)(x:Str):Prop:=sc.names.lookup x=some .local\/sc.names.lookup x=some .cell
def Fa(env:Env)(h:HF)(m:Str->Option Fq)(x:Str)(u:Fq):Prop:=
 (env.kindOf x=some .local/\m x=some u)\/((env.kindOf x=some .cell\/env.kindOf x=some .free)/\∃c,env.cells.lookup x=some c/\h.IsCell c (some u))
structure Cx.Ok(X:Cx):Prop where
 mod:Mod X.K X.mg X.base
 kind:X.env.scope.kind=.function
 glob:X.env.globals=HJ
 blt:X.env.builtins=PY
 above:X.s₀.heap.objs.size<=X.env.locals
 inj:∀x y c,X.env.cells.lookup x=some c->X.env.cells.lookup y=some c->x=y
 has:∀x,(X.env.kindOf x=some .cell\/X.env.kindOf x=some .free)->∃c,X.env.cells.lookup x=some c
 cab:∀x c,X.fn x=true->X.env.cells.lookup x=some c->X.s₀.heap.objs.size<=c
 hd:X.calm=true->X.A.handled=none
 frames:X.A.frames=some X.stack
 stk:X.stack=X.outer\/(X.stack=X.env::X.outer/\X.env.frame=some X.env.locals)
 exf:∀b∈X.ex,b≠X.env.locals/\∀x c,X.env.cells.lookup x=some c->c≠b
 bs:∀b o,X.base.get? b=some o->X.s₀.heap.get? b=some o/\X.H₀ b=none
 bsz:X.base.objs.size<=X.s₀.heap.objs.size
 noex:∀b o,X.base.get? b=some o->b ∉ X.ex
 exfs:∀b∈X.ex,b ∉ X.fs
 funs:X.s₀.heap.FunFrames X.base X.outer
 frf:∀b∈X.fs,X.H₀ b=none
structure Inv(X:Cx)(pins:List (FI×Obj))(σ:List (Option V))(H:Hp)(s:Fp):Prop where
 ok:X.Ok
 os:s.os=X.s₀.os
 bare:Ml s.gens
 base:Un X.fs X.ex X.H₀ H X.s₀.heap s.heap
 loc:∃m,s.heap.Ns X.env.locals m/\∀(i:Nat) (x:Str) (v:V),X.N[i]?=some x->σ[i]?=some (some v)->Vis X.env.scope x->∃u,a9 v u/\Fa X.env s.heap m x u
 cell:∀x c,X.env.cells.lookup x=some c->∃v,s.heap.IsCell c v
 free:H X.env.locals=none
 freeC:∀x c,X.env.cells.lookup x=some c->H c=none
 pin:∀p∈X.pn++pins,s.heap.get? p.1=some p.2/\H p.1=none/\p.1≠X.env.locals/\p.1 ∉ X.fs/\∀v,p.2.data≠.cell v
 hok:HOk X.prog X.w H s.heap
 len:σ.length=X.N.length
variable {pins:List (FI×Obj)}{s:Fp}
section
variable {X:Cx}{σ:List (Option V)}
theorem Cx.Ok.nofr(ok:X.Ok){b:FI}{o:Obj}(e:X.base.get? b=some o):b ∉ X.fs:=λhb=>by
 have:=(ok.funs.mem hb).1;rw[e]at this;cases this
theorem Inv.bs(I:Inv X pins σ H s):∀b o,X.base.get? b=some o->s.heap.get? b=some o/\H b=none:=λb o e=>
 ⟨I.base.keep b o (I.ok.bs b o e).1 (I.ok.bs b o e).2 (I.ok.nofr e) (I.ok.noex b o e),I.base.free b o (I.ok.bs b o e).1 (I.ok.bs b o e).2 (I.ok.noex b o e)⟩
theorem Inv.bk(I:Inv X pins σ H s):∀b o,X.base.get? b=some o->s.heap.get? b=some o:=λb o e=>(I.bs b o e).1
theorem Inv.mod(I:Inv X pins σ H s):Mod X.K X.mg X.base:=I.ok.mod
theorem Inv.kIn(I:Inv X pins σ H s):X.K.In s.heap:=I.ok.mod.kin.keeps I.bk
theorem Inv.lt(I:Inv X pins σ H s):X.env.locals<s.heap.objs.size:=let ⟨_,hn,_⟩:=I.loc;hn.lt
theorem Inv.sz(I:Inv X pins σ H s):X.s₀.heap.objs.size<=s.heap.objs.size:=Hh I.ok.above (GW I.lt)
theorem Inv.nofs(I:Inv X pins σ H s){a:FI}(h:s.heap.objs.size<=a):a ∉ X.fs:=λhb=>by
 obtain⟨_,o,ho,_⟩:=I.ok.funs.mem hb;exact absurd (F6 (FC ho) (Hh I.sz h)) (Gh _)
theorem Inv.cne(I:Inv X pins σ H s):∀x c,X.env.cells.lookup x=some c->c≠X.env.locals:=λx c e z=>by
 obtain⟨v,o,ho,hd⟩:=I.cell x c e;obtain⟨m,⟨o',es,ep,RY,R9,_⟩,_⟩:=I.loc;rw[z,RY]at ho;cases ho;rw[R9]at hd;cases hd
theorem Inv.funs(I:Inv X pins σ H s):s.heap.FunFrames X.base X.outer:=by
 have all:∀(l:List Env),(∀b∈frs l,b∈X.fs)->X.s₀.heap.FunFrames X.base l->s.heap.FunFrames X.base l:=by
  intro l
  induction l with
  |nil=>intro _ _;trivial
  |cons env r ih=>
   intro hs hl;obtain⟨hk,⟨L,o,hf,hn,ho,hd⟩,hr⟩:=hl;have hL:L∈X.fs:=hs L (by unfold frs;rw[IY,hf];exact Fv)
   obtain⟨sl,e⟩:=I.base.slot L o ho (I.ok.frf L hL) hL λz=>I.ok.exfs L z hL
   exact⟨hk,⟨L,_,hf,hn,e,hd⟩,ih (λb hb=>hs b (by unfold frs;rw[IY,hf];exact Fn _ hb)) hr⟩
 exact all X.outer (λ_ hb=>hb) I.ok.funs
theorem Inv.stack(I:Inv X pins σ H s):s.heap.FunFrames X.base X.stack:=by
 rcases I.ok.stk with e |⟨e,hf⟩
 ·rw[e];exact I.funs
 ·rw[e];obtain⟨m,hn,_⟩:=I.loc;refine .cons (by rw[I.ok.kind];decide) hf hn ?_ I.funs
  exact Ls (Hh I.ok.bsz I.ok.above)
theorem Inv.stkSub(I:Inv X pins σ H s):∀b∈frs X.stack,b∈X.env.locals::X.fs:=λb hb=>by
 rcases I.ok.stk with e |⟨e,hf⟩
 ·rw[e]at hb;exact Fn _ hb
 ·rw[e]at hb;unfold frs at hb;rw[IY,hf]at hb;exact hb
theorem Inv.stkFree(I:Inv X pins σ H s):∀b∈frs X.stack,H b=none:=λb hb=>by
 rcases Fw.mp (I.stkSub b hb) with e |hb
 ·rw[e];exact I.free
 ·obtain⟨_,o,ho,_⟩:=I.ok.funs.mem hb;exact I.base.free b o ho (I.ok.frf b hb) λz=>I.ok.exfs b z hb
theorem Inv.step{g':Array JP}{t':Nat}{d':Drawn}{ch:List FI}(I:Inv X pins σ H s)
  (TX:∀b∈ch,(b∈X.ex\/X.s₀.heap.objs.size<=b)/\b≠X.env.locals/\(∀x c,X.env.cells.lookup x=some c->c≠b)/\∀p∈X.pn++pins,p.1≠b)
  (keep:∀b o,b≠X.env.locals->b ∉ X.fs->b ∉ ch->s.heap.get? b=some o->H b=none->h'.get? b=some o)
  (slot:∀b o,b≠X.env.locals->b∈X.fs->b ∉ ch->s.heap.get? b=some o->H b=none->∃sl,h'.get? b=some {o with slots:=sl }) (free:∀b o,b ∉ ch->s.heap.get? b=some o->H b=none->H' b=none)
  (there:∀b o,b ∉ ch->s.heap.get? b=some o->∃o',h'.get? b=some o')
  (tups:∀b xs,H b=some (.tup xs)->H' b=some (.tup xs)) (frzs:∀b o u,H b=some (.frz o u)->H' b=some (.frz o u)) (tbls:∀b ps,H b=some (.tbl ps)->∃more,H' b=some (.tbl (ps++more)))
  (ns:∀m,s.heap.Ns X.env.locals m->h'.Ns X.env.locals m) (hok:HOk X.prog X.w H' h') (hg:Ml g'):
  Inv X pins σ H' {s with heap:=h',gens:=g',drawn:=d',toks:=t' }:=by
 have neL:∀b o,X.s₀.heap.get? b=some o->b≠X.env.locals:=λb o e=>Ga (F6 (FC e) I.ok.above)
 have neC:∀b o,X.s₀.heap.get? b=some o->b ∉ X.ex->b ∉ ch:=λb o e hx hb=>by
  rcases (TX b hb).1 with z |z
  ·exact hx z
  ·exact absurd (F6 (FC e) z) (Gh _)
 have Uj:∀x c,X.env.cells.lookup x=some c->∀v,s.heap.IsCell c v->h'.IsCell c v:=λx c e v ⟨o,ho,hd⟩=>by
  have nch:c ∉ ch:=λz=>(TX c z).2.2.1 x c e rfl
  by_cases hc:c∈X.fs
  ·obtain⟨sl,q⟩:=slot c o (I.cne x c e) hc nch ho (I.freeC x c e);exact⟨_,q,hd⟩
  ·exact⟨o,keep c o (I.cne x c e) hc nch ho (I.freeC x c e),hd⟩
 refine⟨I.ok,I.os,hg,⟨λb o e n hb hx=>?_,λb o e n hb hx=>?_,λb o e n hx=>?_,λb o e hx=>?_,λb xs e=>tups b xs (I.base.tups b xs e),λb o xs e=>frzs b o xs (I.base.frzs b o xs e),λb ps e=>?_⟩,?_,λx c e=>?_,?_,λx c e=>?_,λp hp=>?_,hok,I.len⟩
 ·exact keep b o (neL b o e) hb (neC b o e hx) (I.base.keep b o e n hb hx) (I.base.free b o e n hx)
 ·obtain⟨sl,e1⟩:=I.base.slot b o e n hb hx;obtain⟨sl',e2⟩:=slot b _ (neL b o e) hb (neC b o e hx) e1 (I.base.free b o e n hx);exact⟨sl',e2⟩
 ·obtain⟨o',e1⟩:=I.base.there b o e hx;exact free b o' (neC b o e hx) e1 (I.base.free b o e n hx)
 ·obtain⟨o',e1⟩:=I.base.there b o e hx;exact there b o' (neC b o e hx) e1
 ·obtain⟨m1,e1⟩:=I.base.tbls b ps e;obtain⟨m2,e2⟩:=tbls b _ e1;exact⟨m1++m2,by rw[e2,Array.append_assoc]⟩
 ·obtain⟨m,hn,hl⟩:=I.loc;refine⟨m,ns m hn,λi x v e1 e2 e3=>?_⟩
  obtain⟨u,r,l⟩:=hl i x v e1 e2 e3;refine⟨u,r,?_⟩;rcases l with l |⟨k,c,e,z⟩
  ·exact .inl l
  ·exact .inr ⟨k,c,e,Uj x c e _ z⟩
 ·obtain⟨v,z⟩:=I.cell x c e;exact⟨v,Uj x c e v z⟩
 ·obtain⟨m,⟨o,_,_,ho,_⟩,_⟩:=I.loc;exact free _ o (λz=>(TX _ z).2.1 rfl) ho I.free
 ·obtain⟨v,o,ho,hd⟩:=I.cell x c e;exact free c o (λz=>(TX c z).2.2.1 x c e rfl) ho (I.freeC x c e)
 ·obtain⟨e,n,ne,nf,d⟩:=I.pin p hp;have nch:p.1 ∉ ch:=λz=>(TX p.1 z).2.2.2 p hp rfl
  exact⟨keep p.1 p.2 ne nf nch e n,free p.1 p.2 nch e n,ne,nf,d⟩
theorem Inv.un{t':Nat}(I:Inv X pins σ H s)(u:Un X.fs [] H H' s.heap h')(hok:HOk X.prog X.w H' h'):Inv X pins σ H' {s with heap:=h',toks:=t' }:=by
 obtain⟨m,⟨o,es,ep,ho,r⟩,_⟩:=id I.loc;obtain⟨sl,hL⟩:=u.any ho I.free (by simp)
 exact I.step (g':=s.gens) (d':=s.drawn) (ch:=[]) (λ_ z=>nomatch z) (λb o _ hb _ e n=>u.keep b o e n hb (by simp)) (λb o _ hb _ e n=>u.slot b o e n hb (by simp)) (λb o _ e n=>u.free b o e n (by simp)) (λb o _ e=>u.there b o e (by simp)) u.tups u.frzs u.tbls (λm' hm=>by
  obtain⟨o',es',TY,RY,r'⟩:=hm;rw[ho]at RY;cases RY;exact⟨_,es',TY,hL,r'⟩) hok I.bare
theorem Inv.call{g':Array JP}{t':Nat}{d':Drawn}{ch:List FI}(I:Inv X pins σ H s)(u:Un (frs X.stack) ch H H' s.heap h')(hok:HOk X.prog X.w H' h')(hg:Ml g')
  (TX:∀b∈ch,(b∈X.ex\/X.s₀.heap.objs.size<=b)/\b≠X.env.locals/\(∀x c,X.env.cells.lookup x=some c->c≠b)/\∀p∈X.pn++pins,p.1≠b):
  Inv X pins σ H' {s with heap:=h',gens:=g',drawn:=d',toks:=t' }:=by
 obtain⟨m,⟨o,es,ep,ho,r⟩,_⟩:=id I.loc;obtain⟨sl,hL⟩:=u.any ho I.free λz=>(TX _ z).2.1 rfl
 exact I.step (ch:=ch) TX (λb o hL hb hc e n=>u.keep b o e n (λz=>(Fw.mp (I.stkSub b z)).elim hL hb) hc) (λb o _ _ hc e n=>u.any e n hc) (λb o hc e n=>u.free b o e n hc) (λb o hc e=>u.there b o e hc) u.tups u.frzs u.tbls (λm' hm=>by
  obtain⟨o',es',TY,RY,r'⟩:=hm;rw[ho]at RY;cases RY;exact⟨_,es',TY,hL,r'⟩) hok hg
theorem Inv.turned{t':Nat}{it:FI}(I:Inv X pins σ H s)(k:∀b o,b≠it->s.heap.get? b=some o->h'.get? b=some o)(hn:H it=none)(hL:it≠X.env.locals)
  (h1:it∈X.ex\/X.s₀.heap.objs.size<=it) (h2:∀x c,X.env.cells.lookup x=some c->c≠it) (h3:∀p∈X.pn++pins,p.1≠it):Inv X pins σ H {s with heap:=h',toks:=t' }:=by
 have nit:∀b u,H b=some u->b≠it:=λb u e z=>by rw[z,hn]at e;cases e
 refine I.step (g':=s.gens) (d':=s.drawn) (ch:=[it]) (λb hb=>?_) (λb o _ _ hc e _=>k b o (λz=>hc (by simp[z])) e) (λb o _ _ hc e _=>⟨o.slots,k b o (λz=>hc (by simp[z])) e⟩) (λ_ _ _ _ n=>n)
  (λb o hc e=>⟨o,k b o (λz=>hc (by simp[z])) e⟩) (λ_ _ e=>e) (λ_ _ _ e=>e) (λb ps e=>⟨#[],by rw[e];simp⟩) (λm hm=>?_) (λb u e=>?_) I.bare
 ·have e:b=it:=by simpa using hb
  subst e;exact⟨h1,hL,h2,h3⟩
 ·obtain⟨o,es,ep,ho,r⟩:=hm;exact⟨o,es,ep,k _ o (Ne.symm hL) ho,r⟩
 ·refine (I.hok b u e).stay (λc v hc q=>k c v ?_ q) (λ_ q=>q) λ_ _ q=>q
  rcases hc with z |z
  ·rw[z];exact nit b u e
  ·exact nit c _ z
theorem Inv.tok(I:Inv X pins σ H s)(t:Nat):Inv X pins σ H {s with toks:=t }:=I.un (h':=s.heap) (t':=t) Un.refl I.hok
theorem Inv.kept{t':Nat}(I:Inv X pins σ H s)(k:∀b u,s.heap.get? b=some u->h'.get? b=some u):Inv X pins σ H {s with heap:=h',toks:=t' }:=I.un (Un.kept k) (I.hok.kept k)
theorem Inv.laid{a:FI}{o:HO}{t':Nat}(I:Inv X pins σ H s)(k:∀b u,s.heap.get? b=some u->h'.get? b=some u)(hp:s.heap.objs.size<=a)(new:bS X.prog X.w (upd H a o) h' a o):
  Inv X pins σ (upd H a o) {s with heap:=h',toks:=t' }:=I.un (Un.laid k hp (I.hok.fresh hp)) (I.hok.laid k hp new)
theorem Inv.write{x e:FI}{o:HO}{t':Nat}(I:Inv X pins σ H s)(mu:Mut (H x))(he:e=x\/H e=some (.own x))(k:∀b u,b≠e->s.heap.get? b=some u->h'.get? b=some u)(heo:∃u,h'.get? e=some u)
  (new:bS X.prog X.w (upd H x o) h' x o):Inv X pins σ (upd H x o) {s with heap:=h',toks:=t' }:=I.un (Un.write mu he k heo) (I.hok.write mu he k heo new)
theorem Inv.weak{Q7:List (Option V)}(I:Inv X pins σ H s)(hl:Q7.length=σ.length)(w:∀(i:Nat) v,Q7[i]?=some (some v)->σ[i]?=some (some v)):Inv X pins Q7 H s:=
 ⟨I.ok,I.os,I.bare,I.base,let ⟨m,hn,Rc⟩:=I.loc;⟨m,hn,λi x v e1 e2 e3=>Rc i x v e1 (w i v e2) e3⟩,I.cell,I.free,I.freeC,I.pin,I.hok,hl.trans I.len⟩
theorem Inv.pins_of{Uk:List (FI×Obj)}(I:Inv X pins σ H s)(h:∀p∈Uk,s.heap.get? p.1=some p.2/\H p.1=none/\p.1≠X.env.locals/\p.1 ∉ X.fs/\∀v,p.2.data≠.cell v):Inv X Uk σ H s:=
 ⟨I.ok,I.os,I.bare,I.base,I.loc,I.cell,I.free,I.freeC,λp hp=>(FB.mp hp).elim (λz=>I.pin p (FJ _ z)) (h p),I.hok,I.len⟩
theorem qg{N:List Str}(hN:N.Nodup){i j:Nat}{x:Str}(a:N[i]?=some x)(b:N[j]?=some x):i=j:=by
 obtain⟨h1,e1⟩:=FA.mp a;obtain⟨h2,e2⟩:=FA.mp b;exact (MF hN).mp (e1.trans e2.symm)
theorem v3{M:QS}{A:Gs}{E:Fq->Fp->Prop}{i:Nat}{x:Str}{v:V}{u:Fq}{Q:Unit->Fp->Prop}(I:Inv X pins σ H s)(hN:X.N.Nodup)(hi:X.N[i]?=some x)(hx:Loc X.env.scope x)(r:a9 v u)
  (h:∀s',Inv X pins (σ.set i (some v)) H s'->(∃a,JE a s.heap s'.heap/\(a=X.env.locals\/X.env.cells.lookup x=some a))->Q () s') (hf:X.fn x=true\/X.env.scope.names.lookup x=some .local:=by first |exact .inl rfl |exact .inr rfl |assumption):FX M A (storeName X.env x u) Q E s:=by
 obtain⟨m,hn,hl⟩:=id I.loc;have hcls:(X.env.scope.kind==.class || (X.env.scope.kind==.module && X.env.locals !=X.env.globals))=false:=by rw[I.ok.kind];rfl
 have hiσ:i<σ.length:=by rw[I.len];exact (FA.mp hi).1
 have cne:=I.cne
 have SR:∀{a:FI}{h':HF},(∃o,s.heap.get? a=some o/\H a=none)->JE a s.heap h'->HOk X.prog X.w H h':=λ{a h'} ha hs b ob e=>by
  obtain⟨_,_,Ul⟩:=ha;refine (I.hok b ob e).stay (λc w' hc q=>(hs.2 c ?_).trans q) (λ_ q=>q) λ_ _ q=>q
  rintro rfl;rcases hc with rfl |hc
  ·rw[Ul]at e;cases e
  ·rw[Ul]at hc;cases hc
 rcases hx with hk |hk
 ·refine wpAny_storeName_local hk hn (λh' hn' hs=>?_) hcls
  obtain⟨oL,_,_,hoL,_⟩:=id hn;refine h _ ⟨I.ok,I.os,I.bare,⟨λb o e n hb hx=>?_,λb o e n hb hx=>?_,I.base.free,λb o e hx=>?_,I.base.tups,I.base.frzs,I.base.tbls⟩,⟨_,hn',λj y v' e1 e2 e3=>?_⟩,λy c e=>?_,I.free,I.freeC,λp hp=>?_,SR ⟨oL,hoL,I.free⟩ hs,by simpa using I.len⟩ ⟨_,hs,.inl rfl⟩
  ·exact (hs.2 b (Ga (F6 (FC e) I.ok.above))).trans (I.base.keep b o e n hb hx)
  ·obtain⟨sl,e1⟩:=I.base.slot b o e n hb hx;exact⟨sl,(hs.2 b (Ga (F6 (FC e) I.ok.above))).trans e1⟩
  ·obtain⟨o',e1⟩:=I.base.there b o e hx;exact⟨o',(hs.2 b (Ga (F6 (FC e) I.ok.above))).trans e1⟩
  ·by_cases hj:j=i
   ·subst hj;rw[hi]at e1;cases e1;rw[MK hiσ]at e2;cases e2;exact⟨u,r,.inl ⟨hk,by simp⟩⟩
   ·rw[FZ (Ne.symm hj)]at e2;obtain⟨u',r',q⟩:=hl j y v' e1 e2 e3;refine⟨u',r',?_⟩;rcases q with ⟨k,e⟩ |⟨k,c,e,z⟩
    ·refine .inl ⟨k,?_⟩;have:y≠x:=λe=>hj (qg hN e1 (e ▸ hi))
     simp[this,e]
    ·exact .inr ⟨k,c,e,z.sameBut hs (cne y c e)⟩
  ·obtain⟨w',z⟩:=I.cell y c e;exact⟨w',z.sameBut hs (cne y c e)⟩
  ·obtain⟨e,n,ne,nf,d⟩:=I.pin p hp;exact⟨(hs.2 p.1 ne).trans e,n,ne,nf,d⟩
 ·have hfn:X.fn x=true:=by
   rcases hf with z |z
   ·exact z
   ·rw[z]at hk;cases hk
  obtain⟨c,hc⟩:=I.ok.has x (.inl hk);obtain⟨w',z⟩:=I.cell x c hc;refine wpAny_storeName_cell I.ok.kind hk hc z (λh' Ua hs=>?_)
  obtain⟨oc,TZ,hocd⟩:=id z;refine h {s with heap:=h' } ⟨I.ok,I.os,I.bare,⟨λb o e n hb hx=>?_,λb o e n hb hx=>?_,I.base.free,λb o e hx=>?_,I.base.tups,I.base.frzs,I.base.tbls⟩,⟨m,hn.sameBut hs (Ne.symm (cne x c hc)),λj y v' e1 e2 e3=>?_⟩,λy c' e=>?_,I.free,I.freeC,λp hp=>?_,SR ⟨oc,TZ,I.freeC x c hc⟩ hs,by simpa using I.len⟩ ⟨c,hs,.inr hc⟩
  ·exact (hs.2 b (Ga (F6 (FC e) (I.ok.cab x c hfn hc)))).trans (I.base.keep b o e n hb hx)
  ·obtain⟨sl,e1⟩:=I.base.slot b o e n hb hx;exact⟨sl,(hs.2 b (Ga (F6 (FC e) (I.ok.cab x c hfn hc)))).trans e1⟩
  ·obtain⟨o',e1⟩:=I.base.there b o e hx;exact⟨o',(hs.2 b (Ga (F6 (FC e) (I.ok.cab x c hfn hc)))).trans e1⟩
  ·by_cases hj:j=i
   ·subst hj;rw[hi]at e1;cases e1;rw[MK hiσ]at e2;cases e2;exact⟨u,r,.inr ⟨.inl hk,c,hc,Ua⟩⟩
   ·rw[FZ (Ne.symm hj)]at e2;obtain⟨u',r',q⟩:=hl j y v' e1 e2 e3;refine⟨u',r',?_⟩;rcases q with q |⟨k,c',e,z'⟩
    ·exact .inl q
    ·refine .inr ⟨k,c',e,z'.sameBut hs ?_⟩;rintro rfl;exact hj (qg hN e1 (I.ok.inj _ _ _ e hc ▸ hi))
  ·by_cases hcc:c'=c
   ·subst hcc;exact⟨_,Ua⟩
   ·obtain⟨w2,z2⟩:=I.cell y c' e;exact⟨w2,z2.sameBut hs hcc⟩
  ·obtain⟨e,n,ne,nf,d⟩:=I.pin p hp;refine⟨(hs.2 p.1 ?_).trans e,n,ne,nf,d⟩;intro q;rw[q,TZ]at e;have q':oc=p.2:=Gv e;exact d w' (by rw[<-q'];exact hocd)
theorem iC{M:QS}{A:Gs}{E:Fq->Fp->Prop}{i:Nat}{x:Str}{v:V}{u:Fq}{Q:Unit->Fp->Prop}(I:Inv X pins σ H s)(hN:X.N.Nodup)(hi:X.N[i]?=some x)(hx:Loc X.env.scope x)(r:a9 v u)
  (h:∀s',Inv X pins (σ.set i (some v)) H s'->Q () s') (hf:X.fn x=true\/X.env.scope.names.lookup x=some .local:=by first |exact .inl rfl |exact .inr rfl |assumption):FX M A (storeName X.env x u) Q E s:=
 v3 I hN hi hx r (λs' I' _=>h s' I') hf
theorem Inv.call'{s':Fp}{ch:List FI}(I:Inv X pins σ H s)(ho:s'.os=s.os)(u:Un (frs X.stack) ch H H' s.heap s'.heap)(hok:HOk X.prog X.w H' s'.heap)(hg:Ml s'.gens)
  (TX:∀b∈ch,(b∈X.ex\/X.s₀.heap.objs.size<=b)/\b≠X.env.locals/\(∀x c,X.env.cells.lookup x=some c->c≠b)/\∀p∈X.pn++pins,p.1≠b):Inv X pins σ H' s':=by
 obtain⟨h',g',d',t',o'⟩:=s';have e:o'=s.os:=ho;subst e;exact I.call (g':=g') (t':=t') (d':=d') u hok hg TX
end
abbrev XK:=Fq->Option FI->Hp->Prop
abbrev St:=List (Option V)
abbrev VK:=V->Hp->Prop
abbrev TE:=St->Hp->VK->Prop
abbrev TT:=St->Hp->(Bool->Hp->Prop)->Prop
abbrev TA:=St->Hp->(List V->Hp->Prop)->Prop
structure oj where
 nx:St->Hp->Prop
 rt:VK
 bk:St->Hp->Prop:=λ_ _=>False
 ct:St->Hp->Prop:=λ_ _=>False
abbrev TS:=oj->St->Hp->Prop
def EP(X:Cx)(pins:List (FI×Obj))(σ:St)(Q:VK)(u:Fq)(s':Fp):Prop:=∃v H',Inv X pins σ H' s'/\a9 v u/\Q v H'
def TP(X:Cx)(pins:List (FI×Obj))(σ:St)(Q:Bool->Hp->Prop)(b:Bool)(s':Fp):Prop:=∃H',Inv X pins σ H' s'/\Q b H'
def AP(X:Cx)(pins:List (FI×Obj))(σ:St)(Q:List V->Hp->Prop)(us:List Fq)(s':Fp):Prop:=∃vs H',Inv X pins σ H' s'/\aT vs us/\Q vs H'
def SP(X:Cx)(pins:List (FI×Obj))(D:oj)(f:Flow)(s':Fp):Prop:=
 match f with
 | .next=>∃Q7 H',Inv X pins Q7 H' s'/\D.nx Q7 H'
 | .brk=>∃Q7 H',Inv X pins Q7 H' s'/\D.bk Q7 H'
 | .cont=>∃Q7 H',Inv X pins Q7 H' s'/\D.ct Q7 H'
 | .ret u=>∃v Q7 H',Inv X pins Q7 H' s'/\a9 v u/\D.rt v H'
def PE(X:Cx)(e:Expr)(t:TE):Prop:=
 ∀(pins:List (FI×Obj)) (s:Fp) (σ:St) (H:Hp) (Q:VK),Inv X pins σ H s->t σ H Q->FX (F7 X.prog X.w) X.A (JQ e X.env) (EP X pins σ Q) X.xe s
def PT(X:Cx)(e:Expr)(t:TT):Prop:=
 ∀(pins:List (FI×Obj)) (s:Fp) (σ:St) (H:Hp) (Q:Bool->Hp->Prop),Inv X pins σ H s->t σ H Q->FX (F7 X.prog X.w) X.A (isTrue e X.env (JQ e X.env)) (TP X pins σ Q) X.xe s
def PW(X:Cx)(e:Expr)(t:TT):Prop:=
 ∀(RZ:Sem Fq) (pins:List (FI×Obj)) (s:Fp) (σ:St) (H:Hp) (Q:Bool->Hp->Prop),Inv X pins σ H s->t σ H Q->FX (F7 X.prog X.w) X.A (isTrue e X.env RZ) (TP X pins σ Q) X.xe s
theorem PW.pt{X:Cx}{e:Expr}{t:TT}(h:PW X e t):PT X e t:=h _
def PA(X:Cx)(es:List Expr)(t:TA):Prop:=
 ∀(pos:Pos) (pins:List (FI×Obj)) (s:Fp) (σ:St) (H:Hp) (Q:List V->Hp->Prop),Inv X pins σ H s->t σ H Q->FX (F7 X.prog X.w) X.A (Qk (J5 pos (FH es X.env))) (AP X pins σ Q) X.xe s
def PS(X:Cx)(st:I_)(t:TS):Prop:=
 ∀(pins:List (FI×Obj)) (s:Fp) (σ:St) (H:Hp) (D:oj),Inv X pins σ H s->t D σ H->FX (F7 X.prog X.w) X.A (exec st X.env) (SP X pins D) X.xe s
def PSs(X:Cx)(st:List I_)(t:TS):Prop:=
 ∀(pins:List (FI×Obj)) (s:Fp) (σ:St) (H:Hp) (D:oj),Inv X pins σ H s->t D σ H->FX (F7 X.prog X.w) X.A (execs st X.env) (SP X pins D) X.xe s
theorem thn{α:Type}{t:Sem α}{Q Q':α->Fp->Prop}{M:QS}{A:Gs}{E:Fq->Fp->Prop}{s:Fp}(h:FX M A t Q E s)(hQ:∀a s,Q a s->Q' a s):FX M A t Q' E s:=JA h hQ λ_ _ x=>x
variable {ta:TE}{tb:TE}{pos:Pos}
section
variable {X:Cx}
def ze(i:Nat):TE:=λσ H Q=>∃v,σ[i]?=some (some v)/\Q v H
def tC(v:V):TE:=λ_ H Q=>Q v H
theorem ef{i:Nat}{x:Str}{pos:Pos}(hN:X.N[i]?=some x)(hv:Vis X.env.scope x)(hd:(x==("__debug__":Str))=false:=by decide)(RR:(x==("__classdict__":Str))=false:=by decide):PE X (.Name x pos) (ze i):=by
 intro pins s σ H Q I h;obtain⟨v,e,h⟩:=h;obtain⟨m,hn,hl⟩:=I.loc;obtain⟨u,r,l⟩:=hl i x v hN e hv;have fin:EP X pins σ Q u s:=⟨v,H,I,r,h⟩;rcases l with ⟨hk,hm⟩ |⟨hk,c,hc,Um⟩
 ·exact PZ (wpAny_loadName_local I.ok.kind hk hn hm fin) hd
 ·rcases hk with hk |hk
  ·exact PZ (wpAny_loadName_cell I.ok.kind hk hc Um fin) hd
  ·exact PZ (wpAny_loadName_free I.ok.kind hk hc Um fin RR) hd
theorem Dw{i j pos}:PE X (.Constant (.int i) j pos) (tC (.int i)):=λ_ _ _ H _ I h=>wpAny_Constant_int ⟨.int i,H,I.tok _,⟨_,rfl⟩,h⟩
theorem BO{b j pos}:PE X (.Constant (.bool b) j pos) (tC (.bl b)):=λ_ _ _ H _ I h=>Constant_bool ⟨.bl b,H,I,rfl,h⟩
def Gl(X:Cx)(x:Str):Prop:=X.env.kindOf x=some .globalImplicit
theorem tK{E:Fq->Fp->Prop}{pins:List (FI×Obj)}{s:Fp}{σ:St}{H:Hp}{x:Str}{u:Fq}{pos:Pos}{Q:Fq->Fp->Prop}(I:Inv X pins σ H s)(hg:Gl X x)(hm:X.mg x=some u)(h:Q u s)
  (hd:(x==("__debug__":Str))=false:=by decide):FX (F7 X.prog X.w) X.A (JQ (.Name x pos) X.env) Q E s:=
 LI I.ok.kind hg (Calls.loadGlobal_global (by rw[I.ok.glob];exact I.mod.glob.keeps I.bk) hm h) hd
theorem df{E:Fq->Fp->Prop}{pins:List (FI×Obj)}{s:Fp}{σ:St}{H:Hp}{x:Str}{u:Fq}{pos:Pos}{Q:Fq->Fp->Prop}(I:Inv X pins σ H s)(hg:Gl X x)(hm:X.mg x=none)(hv:HL x=some u)(h:Q u s)
  (hn:x≠"__name__":=by decide) (hd:(x==("__debug__":Str))=false:=by decide):FX (F7 X.prog X.w) X.A (JQ (.Name x pos) X.env) Q E s:=by
 obtain⟨mb,h1,h2⟩:=I.mod.blt;exact LI I.ok.kind hg (Calls.loadGlobal_builtin (by rw[I.ok.glob];exact I.mod.glob.keeps I.bk) hm (by rw[I.ok.blt];exact h1.keeps I.bk) ((h2 x hn).trans hv) h) hd
theorem Bc{x:Str}{v:V}{u:Fq}{pos:Pos}(hg:Gl X x)(hm:X.mg x=some u)(r:a9 v u)(hd:(x==("__debug__":Str))=false:=by decide):PE X (.Name x pos) (tC v):=
 λ_ _ _ H _ I h=>tK I hg hm ⟨v,H,I,r,h⟩ hd
theorem AE{x:Str}{v:V}{u:Fq}{pos:Pos}(hg:Gl X x)(hm:X.mg x=none)(hv:HL x=some u)(r:a9 v u)(hn:x≠"__name__":=by decide)(hd:(x==("__debug__":Str))=false:=by decide):PE X (.Name x pos) (tC v):=
 λ_ _ _ H _ I h=>df I hg hm hv ⟨v,H,I,r,h⟩ hn hd
variable {a b:Expr}
def PC(X:Cx)(op:OT)(a b:Expr)(t:TE):Prop:=
 ∀(pins:List (FI×Obj)) (s:Fp) (σ:St) (H:Hp) (Q:VK),Inv X pins σ H s->t σ H Q->
  FX (F7 X.prog X.w) X.A (JQ a X.env) (λv Q2=>FX (F7 X.prog X.w) X.A (JQ b X.env) (λu S6=>FX (F7 X.prog X.w) X.A (Hj op v u) (EP X pins σ Q) X.xe S6) X.xe Q2) X.xe s
theorem qj(b:Expr){op:OT}(h:op≠.In)(h2:op≠.NotIn):HZ op b=false:=by
 have e1:(op==CmpOp.In)=false:=by cases op <;>first |rfl |exact absurd rfl h
 have e2:(op==CmpOp.NotIn)=false:=by cases op <;>first |rfl |exact absurd rfl h2
 cases b <;>simp[HZ,e1,e2]
def E5(ta:TE):TE:=λσ H Q=>ta σ H λx H1=>Q (.bl (decide (x=.non))) H1
theorem a9.none_iff{x:V}{v:Fq}(r:a9 x v):(v==F4)=decide (x=.non):=by
 cases x with
 |non=>cases r;rfl
 |bl _=>cases r;rfl
 |int _=>obtain⟨t,rfl⟩:=r;rfl
 |str _=>obtain⟨t,rfl⟩:=r;rfl
 |byt _=>obtain⟨t,rfl⟩:=r;rfl
 |flt _=>obtain⟨t,rfl⟩:=r;rfl
 |ref _=>cases r;rfl
 |ty _=>cases r;rfl
theorem C7{j Rf}(ha:PE X a ta):PC X .Is a (.Constant .none j Rf) (E5 ta):=by
 intro pins s σ H Q I h;refine thn (ha pins s σ H _ I h) λv s1 ⟨x,H1,I1,r1,q1⟩=>?_
 exact Constant_none (is_none_gen ⟨.bl _,H1,I1,by rw[r1.none_iff];rfl,q1⟩)
def tB(t:TE):TT:=λσ H Q=>t σ H λx H1=>∃c,x=.bl c/\Q c H1
theorem DJ{op:OT}{t:TE}(h:PC X op a b t)(h1:HZ op b=false:=by first |exact qj _ (by decide) (by decide) |rfl):PE X (.Compare a [op] [b] pos) t:=λpins s σ H Q I hw=>Pj (h pins s σ H Q I hw) h1
theorem rF{op:OT}{t:TE}(h:PC X op a b t)(h1:HZ op b=false:=by first |exact qj _ (by decide) (by decide) |rfl):PT X (.Compare a [op] [b] pos) (tB t):=by
 intro pins s σ H Q I hw;refine MW (thn (h pins s σ H _ I hw) λv s1 h1=>thn h1 λu s2 h2=>thn h2 λc s3 ⟨x,H1,I1,r1,q1⟩=>?_) h1
 obtain⟨d,rfl,q⟩:=q1;cases r1;exact HM ⟨H1,I1,q⟩
theorem CF{e:Expr}{t:TE}(h:PE X e t)(he:∀RZ,isTrue e X.env RZ=(do let v <-RZ;standAt e.pos;OU [v] (truthy v)):=by intro _;rfl):PT X e (tB t):=by
 intro pins s σ H Q I hw;refine isTrue_plain (thn (h pins s σ H _ I hw) λv s1 ⟨x,H1,I1,r1,q1⟩=>?_) (he _)
 obtain⟨d,rfl,q⟩:=q1;cases r1;exact HM ⟨H1,I1,q⟩
variable {tA tB':TT}{rest:List Expr}
def E3(t u:TT):TT:=λσ H Q=>t σ H λc H1=>if c=true then u σ H1 Q else Q false H1
def tOr(t u:TT):TT:=λσ H Q=>t σ H λc H1=>if c=true then Q true H1 else u σ H1 Q
def EO(t:TT):TT:=λσ H Q=>t σ H λc H1=>Q (!c) H1
theorem AM(ha:PT X a tA):PW X (.BoolOp .And [a] pos) tA:=by
 intro wh pins s σ H Q I h;refine isTrue_and (thn (ha pins s σ H Q I h) λc s1 e=>?_)
 cases c with
 |true=>exact isTrue_and_nil e
 |false=>exact e
theorem Ce(ha:PT X a tA):PW X (.BoolOp .Or [a] pos) tA:=by
 intro wh pins s σ H Q I h;refine isTrue_or (thn (ha pins s σ H Q I h) λc s1 e=>?_)
 cases c with
 |false=>exact isTrue_or_nil e
 |true=>exact e
theorem yV(ha:PT X a tA)(hb:PW X (.BoolOp .And (b::rest) pos) tB'):PW X (.BoolOp .And (a::b::rest) pos) (E3 tA tB'):=by
 intro wh pins s σ H Q I h;refine isTrue_and (thn (ha pins s σ H _ I h) λc s1 ⟨H1,I1,q1⟩=>?_)
 cases c with
 |true=>exact hb wh pins s1 σ H1 Q I1 q1
 |false=>exact⟨H1,I1,q1⟩
theorem B2(ha:PT X a tA)(hb:PW X (.BoolOp .Or (b::rest) pos) tB'):PW X (.BoolOp .Or (a::b::rest) pos) (tOr tA tB'):=by
 intro wh pins s σ H Q I h;refine isTrue_or (thn (ha pins s σ H _ I h) λc s1 ⟨H1,I1,q1⟩=>?_)
 cases c with
 |true=>exact⟨H1,I1,q1⟩
 |false=>exact hb wh pins s1 σ H1 Q I1 q1
theorem Du(ha:PT X a tA):PT X (.UnaryOp .Not a pos) (EO tA):=by
 intro pins s σ H Q I h;exact isTrue_not (ha pins s σ H (λc H1=>Q (!c) H1) I h)
def DM(ta tb:TE):TE:=λσ H Q=>ta σ H λx H1=>∃c,x=.bl c/\if c=true then tb σ H1 Q else Q (.bl false) H1
def Er(ta:TE):TE:=λσ H Q=>ta σ H λx H1=>∃c,x=.bl c/\Q (.bl (!c)) H1
theorem Cr{op}{t:TE}(h:PE X a t):PE X (.BoolOp op [a] pos) t:=λpins s σ H Q I hw=>BoolOp_one (h pins s σ H Q I hw)
theorem wu(ha:PE X a ta)(hb:PE X (.BoolOp .And (b::rest) pos) tb):PE X (.BoolOp .And (a::b::rest) pos) (DM ta tb):=by
 intro pins s σ H Q I h;refine BoolOp_and (thn (ha pins s σ H _ I h) λv s1 ⟨x,H1,I1,r1,q1⟩=>?_)
 obtain⟨c,rfl,q1⟩:=q1;cases r1;refine HM ?_;cases c with
 |true=>exact hb pins s1 σ H1 Q I1 q1
 |false=>exact⟨.bl false,H1,I1,rfl,q1⟩
theorem CP(ha:PE X a ta):PE X (.UnaryOp .Not a pos) (Er ta):=by
 intro pins s σ H Q I h;refine UnaryOp_ (thn (ha pins s σ H _ I h) λv s1 ⟨x,H1,I1,r1,q1⟩=>?_)
 obtain⟨c,rfl,q1⟩:=q1;cases r1;exact not_of (HM ⟨.bl (!c),H1,I1,rfl,q1⟩)
end
def SqL(K:Fm)(H:Hp)(a:FI)(xs:List V):Prop:=
 Rd H a (.lst xs)\/
  ∃(o:Obj) (QW:Array Fq) (n:Nat),K.lookup a=some o∧o.cls=.type "list"∧o.dict=none∧o.data=.seq QW n∧QW.size≤sizeLine∧aT xs QW.toList
def SqT(K:Fm)(H:Hp)(a:FI)(xs:List V):Prop:=
 Rd H a (.tup xs)\/
  ∃(o:Obj) (QW:Array Fq) (n:Nat),K.lookup a=some o∧o.cls=.type "tuple"∧o.data=.seq QW n∧QW.size≤sizeLine∧aT xs QW.toList
noncomputable def EX:Fq->Option V
 | .none=>some .non
 | .bool b=>some (.bl b)
 | .int i _=>some (.int i)
 | .str x _=>some (.str x)
 | .bytes b _=>some (.byt b)
 | .float b _=>some (.flt b)
 | .ref a=>some (.ref a)
 | .type n=>some (.ty n)
 |_=>none
theorem a9.abs{x:V}{u:Fq}(r:a9 x u):EX u=some x:=by
 cases x with
 |non=>cases r;rfl
 |bl _=>cases r;rfl
 |int _=>obtain⟨t,rfl⟩:=r;rfl
 |str _=>obtain⟨t,rfl⟩:=r;rfl
 |byt _=>obtain⟨t,rfl⟩:=r;rfl
 |flt _=>obtain⟨t,rfl⟩:=r;rfl
 |ref _=>cases r;rfl
 |ty _=>cases r;rfl
theorem a9.inj{x y:V}{u:Fq}(r:a9 x u)(q:a9 y u):x=y:=Gv (r.abs.symm.trans q.abs)
theorem aT.inj:∀{xs ys:List V}{us:List Fq},aT xs us->aT ys us->xs=ys
 |_,_,_,.nil,.nil=>rfl
 |_,_,_,.cons r t,.cons r' t'=>by rw[r.inj r',aT.inj t t']
variable {σ:St}
section
variable {X:Cx}{a:FI}{xs ys:List V}
theorem SqL.of{K:Fm}(h:H a=some (.lst xs)):SqL K H a xs:=.inl (.inl h)
theorem SqT.of{K:Fm}(h:H a=some (.tup xs)):SqT K H a xs:=.inl (.inl h)
theorem Inv.list(I:Inv X pins σ H s)(h:SqL X.K H a xs):∃QW:List Fq,aT xs QW/\PlainL s.heap a QW.toArray/\xs.length<=sizeLine:=by
 rcases h with h |⟨o,QW,n,hk,hc,hd,hs,hz,r⟩
 ·obtain⟨z,QW,n,r,e⟩:=h.ok I.hok;exact⟨QW,r,⟨_,n,e,rfl,rfl,rfl⟩,z⟩
 ·refine⟨QW.toList,r,⟨o,n,I.kIn a o hk,hc,hd,by simpa using hs⟩,?_⟩
  have e:=r.length;simp only[Fx]at e;lia
theorem Inv.tuple(I:Inv X pins σ H s)(h:SqT X.K H a xs):∃QW:List Fq,aT xs QW/\QR s.heap a QW.toArray/\xs.length<=sizeLine:=by
 rcases h with h |⟨o,QW,n,hk,hc,hs,hz,r⟩
 ·obtain⟨z,QW,r,p⟩:=h.ok I.hok;exact⟨QW,r,p,z⟩
 ·refine⟨QW.toList,r,⟨o,I.kIn a o hk,hc,n,by simpa using hs⟩,?_⟩
  have e:=r.length;simp only[Fx]at e;lia
theorem Inv.list_inj(I:Inv X pins σ H s)(h:SqL X.K H a xs)(h':SqL X.K H a ys):xs=ys:=by
 obtain⟨QW,r,⟨o,n,e,_,_,d⟩,_⟩:=I.list h;obtain⟨its',r',⟨o',n',e',_,_,d'⟩,_⟩:=I.list h';rw[e]at e';cases e';rw[d]at d';injection d' with d1 _
 have:QW=its':=by simpa using congrArg Qv d1
 subst this;exact r.inj r'
theorem Inv.tuple_inj(I:Inv X pins σ H s)(h:SqT X.K H a xs)(h':SqT X.K H a ys):xs=ys:=by
 obtain⟨QW,r,⟨o,e,_,n,d⟩,_⟩:=I.tuple h;obtain⟨its',r',⟨o',e',_,n',d'⟩,_⟩:=I.tuple h';rw[e]at e';cases e';rw[d]at d';injection d' with d1 _
 have:QW=its':=by simpa using congrArg Qv d1
 subst this;exact r.inj r'
end
abbrev Cx.wish(X:Cx)(E:Fq->Fp->Prop):Cx:={X with xe:=E }
abbrev Cx.nox(X:Cx):Cx:=X.wish λ_ _=>False
theorem Cx.Ok.wish{X:Cx}(ok:X.Ok)(E:Fq->Fp->Prop):(X.wish E).Ok:=
 ⟨ok.mod,ok.kind,ok.glob,ok.blt,ok.above,ok.inj,ok.has,ok.cab,ok.hd,ok.frames,ok.stk,ok.exf,ok.bs,ok.bsz,ok.noex,ok.exfs,ok.funs,ok.frf⟩
theorem Cx.Ok.unwish{X:Cx}{E:Fq->Fp->Prop}(ok:(X.wish E).Ok):X.Ok:=
 ⟨ok.mod,ok.kind,ok.glob,ok.blt,ok.above,ok.inj,ok.has,ok.cab,ok.hd,ok.frames,ok.stk,ok.exf,ok.bs,ok.bsz,ok.noex,ok.exfs,ok.funs,ok.frf⟩
variable {e:Expr}{E:Fq→Fp→Prop}
section
variable {X:Cx}
theorem Inv.wish(I:Inv X pins σ H s)(E:Fq->Fp->Prop):Inv (X.wish E) pins σ H s:=⟨I.ok.wish E,I.os,I.bare,I.base,I.loc,I.cell,I.free,I.freeC,I.pin,I.hok,I.len⟩
theorem Inv.unwish(I:Inv (X.wish E) pins σ H s):Inv X pins σ H s:=⟨I.ok.unwish,I.os,I.bare,I.base,I.loc,I.cell,I.free,I.freeC,I.pin,I.hok,I.len⟩
theorem SP.unwish{D:oj}{f:Flow}{s':Fp}(h:SP (X.wish E) pins D f s'):SP X pins D f s':=by
 cases f with
 |next=>obtain⟨Q7,H',I,q⟩:=h;exact⟨Q7,H',I.unwish,q⟩
 |brk=>obtain⟨Q7,H',I,q⟩:=h;exact⟨Q7,H',I.unwish,q⟩
 |cont=>obtain⟨Q7,H',I,q⟩:=h;exact⟨Q7,H',I.unwish,q⟩
 |ret u=>obtain⟨v,Q7,H',I,r,q⟩:=h;exact⟨v,Q7,H',I.unwish,r,q⟩
theorem PSs.nox{st:List I_}{t:TS}(h:PSs X.nox st t):PSs X st t:=λpins s σ H D I hw=>
 JA (h pins s σ H D (I.wish _) hw) (λ_ _ q=>q.unwish) λ_ _ z=>False.elim z
variable {st:I_}{rest:List I_}{t u:TS}{te:TE}
def DP:TS:=λD σ H=>D.nx σ H
def E7(t u:TS):TS:=λD σ H=>t {D with nx:=u D } σ H
theorem iO:PSs X [] DP:=λ_ _ σ H _ I h=>MX ⟨σ,H,I,h⟩
theorem dt(h1:PS X st t)(h2:PSs X rest u):PSs X (st::rest) (E7 t u):=by
 intro pins s σ H D I h;refine wpAny_execs_cons (thn (h1 pins s σ H {D with nx:=u D } I h) λf s1 q=>?_)
 cases f with
 |next=>
  obtain⟨Q7,H',I',q⟩:=q;exact h2 pins s1 Q7 H' D I' q
 |ret v=>exact q
 |brk=>exact q
 |cont=>exact q
theorem Inv.quiet{pins:List (FI×Obj)}{σ:St}{H:Hp}{s:Fp}(I:Inv X pins σ H s):interactive X.env=false:=by simp[interactive,I.ok.kind]
def Eh(te:TE):TS:=λD σ H=>te σ H λ_ H1=>D.nx σ H1
theorem jN(he:PE X e te)(hs:JF e none pos.line X.env=pure false:=by rfl):PS X (.Expr e pos) (Eh te):=by
 intro pins s σ H D I h;exact wpAny_Expr_any (thn (he pins s σ H _ I h) λv s1 ⟨x,H1,I1,r1,q1⟩=>⟨σ,H1,I1,q1⟩) I.quiet hs
def E_(te:TE):TS:=λD σ H=>te σ H D.rt
theorem qS(he:PE X e te):PS X (.Return (some e) pos) (E_ te):=by
 intro pins s σ H D I h;exact wpAny_Return_some (thn (he pins s σ H _ I h) λv s1 ⟨x,H1,I1,r1,q1⟩=>⟨x,σ,H1,I1,r1,q1⟩)
def E9(c:TT)(t u:TS):TS:=λD σ H=>c σ H λb H1=>if b=true then t D σ H1 else u D σ H1
theorem sH{c:Expr}{a b:List I_}{tc:TT}(hc:PT X c tc)(ha:PSs X a t)(hb:PSs X b u):PS X (.If c a b pos) (E9 tc t u):=by
 intro pins s σ H D I h;refine wpAny_If (thn (hc pins s σ H _ I h) λd s1 ⟨H1,I1,q1⟩=>?_)
 cases d with
 |true=>exact ha pins s1 σ H1 D I1 q1
 |false=>exact hb pins s1 σ H1 D I1 q1
def C6:TS:=λ_ _ _=>False
theorem mM{sts:List I_}:PSs X sts C6:=λ_ _ _ _ _ _ h=>h.elim
end
abbrev TG:=V->St->Hp->(St->Hp->Prop)->Prop
abbrev TGs:=List V->St->Hp->(St->Hp->Prop)->Prop
def PG(X:Cx)(target:Expr)(t:TG):Prop:=
 ∀(pins:List (FI×Obj)) (s:Fp) (σ:St) (H:Hp) (v:V) (u:Fq) (Q:St->Hp->Prop),Inv X pins σ H s->a9 v u->t v σ H Q->
  FX (F7 X.prog X.w) X.A (assign target X.env u) (λ_ s'=>∃Q7 H',Inv X pins Q7 H' s'/\Q Q7 H') X.xe s
def PGs(X:Cx)(ts:List Expr)(t:TGs):Prop:=
 ∀(pins:List (FI×Obj)) (s:Fp) (σ:St) (H:Hp) (vs:List V) (us:List Fq) (Q:St->Hp->Prop),Inv X pins σ H s->aT vs us->t vs σ H Q->
  FX (F7 X.prog X.w) X.A (NQ ((Km ts X.env).map (·.2)) us) (λ_ s'=>∃Q7 H',Inv X pins Q7 H' s'/\Q Q7 H') X.xe s
section
variable {X:Cx}
def sT(i:Nat):TG:=λv σ H Q=>Q (σ.set i (some v)) H
theorem br{i:Nat}{x:Str}(hN:X.N.Nodup)(hi:X.N[i]?=some x)(hx:Loc X.env.scope x)(hf:X.fn x=true\/X.env.scope.names.lookup x=some .local:=by first |exact .inl rfl |exact .inr rfl |assumption):PG X (.Name x pos) (sT i):=by
 intro pins s σ H v u Q I r h;exact wpAny_assign_Name (iC I hN hi hx r (λs' I'=>⟨_,H,I',h⟩) hf)
def DX:TGs:=λvs σ H Q=>vs=[]/\Q σ H
def BH(t:TG)(u:TGs):TGs:=λvs σ H Q=>∃v r,vs=v::r/\t v σ H λQ7 H'=>u r Q7 H' Q
theorem iI:PGs X [] DX:=by
 intro pins s σ H vs us Q I r h;obtain⟨e,h⟩:=h;subst e;cases r;exact Of ⟨σ,H,I,h⟩
theorem cG{e:Expr}{es:List Expr}{t:TG}{u:TGs}(h1:PG X e t)(h2:PGs X es u)
  (hs:(Km (e::es) X.env).map (·.2)=assign e X.env::(Km es X.env).map (·.2):=by rfl):PGs X (e::es) (BH t u):=by
 intro pins s σ H vs us Q I r h;obtain⟨v,vr,e1,h⟩:=h;subst e1;cases r with
 |cons r rr=>
  rw[hs];refine LM (thn (h1 pins s σ H _ _ _ I r h) λ_ s1 ⟨σ1,H1,I1,q1⟩=>?_)
  exact h2 pins s1 σ1 H1 _ _ Q I1 rr q1
def EK(K:Fm)(n:Nat)(t:TGs):TG:=λv σ H Q=>∃a xs,v=.ref a/\SqT K H a xs/\xs.length=n/\t xs σ H Q
theorem qA{es:List Expr}{k:Nat}{t:TGs}{n:Nat}(hc:X.calm=true)(h:PGs X es t)
  (hn:(Km es X.env).length=n:=by rfl) (RB:(Km es X.env).findIdx? (·.1)=none:=by rfl):PG X (.Tuple es k pos) (EK X.K n t):=by
 intro pins s σ H v u Q I r hw;obtain⟨a,xs,e1,hq,hl,hw⟩:=hw;subst e1;cases r;obtain⟨QW,rv,ht,hz⟩:=I.tuple hq;refine assign_Tuple_tuple (I.ok.hd hc) ht (by simp[hn,<-hl,rv.length]) RB λh' hx=>?_
 have I1:Inv X pins σ H {s with heap:=h' }:=I.kept (t':=s.toks) λb o e=>hx b o (Ga (FC e)) e
 exact h pins _ σ H xs _ Q I1 (by simpa using rv) hw
def DK(te:TE)(g:TG):TS:=λD σ H=>te σ H λx H1=>g x σ H1 D.nx
theorem Cp{tg e:Expr}{te:TE}{g:TG}(he:PE X e te)(hg:PG X tg g)(hs:Mm [tg] e pos.line X.env=pure false:=by rfl)(hw:Mn [tg] e X.env=pure none:=by rfl)
  (h1:(Km [tg] X.env).map (·.2)=[assign tg X.env]:=by rfl):PS X (.Assign [tg] e pos) (DK te g):=by
 intro pins s σ H D I h;refine wpAny_Assign_stores (thn (he pins s σ H _ I h) λv s1 ⟨x,H1,I1,r1,q1⟩=>?_) hs hw
 rw[h1];exact thn (hg pins s1 σ H1 x v _ I1 r1 q1) λ_ s2 q=>q
theorem oz{i:Nat}{x:Str}{e:Expr}{te:TE}{Rf:Pos}(hN:X.N.Nodup)(hi:X.N[i]?=some x)(hx:Loc X.env.scope x)(he:PE X e te)(hs:JF e (some (.Name x Rf)) pos.line X.env=pure false:=by rfl)(hf:X.fn x=true\/X.env.scope.names.lookup x=some .local:=by first |exact .inl rfl |exact .inr rfl |assumption):
  PS X (.Assign [.Name x Rf] e pos) (DK te (sT i)):=by
 intro pins s σ H D I h;refine wpAny_Assign_Name (thn (he pins s σ H _ I h) λv s1 ⟨y,H1,I1,r1,q1⟩=>?_) hs
 exact iC I1 hN hi hx r1 (λs2 I2=>⟨_,H1,I2,q1⟩) hf
noncomputable def EU(i j:Nat)(ta:TA):TS:=λD σ H=>ta σ H λvs H1=>∃v w,vs=[v,w]/\D.nx ((σ.set i (some v)).set j (some w)) H1
theorem Do{i j:Nat}{x y:Str}{a b:Expr}{ta:TA}{px py pt:Pos}{kt k2 pt2}(hc:X.calm=true)(hN:X.N.Nodup)(hi:X.N[i]?=some x)(hj:X.N[j]?=some y)(RW:i≠j)
  (hx:X.env.scope.names.lookup x=some .local) (hy:X.env.scope.names.lookup y=some .local) (ha:PA X [a,b] ta)
  (hw:Mn [.Tuple [.Name x px,.Name y py] kt pt] (.Tuple [a,b] k2 pt2) X.env=pure (some [x,y]))
  (hs:Mm [.Tuple [.Name x px,.Name y py] kt pt] (.Tuple [a,b] k2 pt2) pos.line X.env=pure false:=by rfl):
  PS X (.Assign [.Tuple [.Name x px,.Name y py] kt pt] (.Tuple [a,b] k2 pt2) pos) (EU i j ta):=by
 intro pins s σ H D I h;rw[exec_Assign_arm];refine Fi (NR ?_);rw[hs];refine Fi (Fl ?_);rw[if_neg (by decide)]
 refine Fi (Tuple_ (thn (ha _ pins s σ H _ I h) λus s1 ⟨vs,H1,I1,r1,q1⟩=>?_))
 obtain⟨v,w,e1,q1⟩:=q1;subst e1
 obtain⟨u1,u2,rfl,rv,SS⟩:∃u1 u2,us=[u1,u2]/\a9 v u1/\a9 w u2:=by
  cases r1 with
  |cons p q=>
   cases q with
   |cons p' q'=>
    cases q';exact⟨_,_,rfl,p,p'⟩
 refine He ?_ (by show 2<=sizeLine;decide)
 have I2:Inv X pins σ H1 {s1 with heap:=s1.heap.push {cls:=.type "tuple",data:=.seq [u1,u2].toArray } }:=I1.kept (t':=s1.toks) λb o e=>Fo _ e
 rw[hw];refine Fi (Fl ?_);show FX (F7 X.prog X.w) X.A (do rule "assign.swapped-stores";let items ←unpackItems (.ref s1.heap.objs.size) 2 none;NQ [λv=>Ql X.env y v,λv=>Ql X.env x v] items.reverse;pure Flow.next) _ _ _
 refine Fi (Jb (Fi (unpackItems_tuple (items:=#[u1,u2]) (I.ok.hd hc) (IsTup.new s1.heap _) λh' Tg=>?_)))
 have I3:=I2.kept (h':=h') (t':=s1.toks) λb o e=>Tg b o (Ga (FC e)) e
 show FX _ _ (NQ [λv=>Ql X.env y v,λv=>Ql X.env x v] [u2,u1] >>=λ_=>pure Flow.next) _ _ _
 refine Fi (LM (Pk (iC I3 hN hj (.inl hy) SS (λs2 I4=>?_) (.inr hy))))
 refine LM (Pk (iC I4 hN hi (.inl hx) rv (λs3 I5=>Of (Fl ?_)) (.inr hx)))
 rw[List.set_comm _ _ (Ne.symm RW)]at I5;exact⟨_,H1,I5,q1⟩
noncomputable def Cc(c:TT)(tb:TS):TS:=λD σ H=>∃W:Nat->St->Hp->Prop,(∃m,W m σ H)/\∀m σ H,W m σ H->
 c σ H λb H1=>if b=true then ∃N:St->Hp->Prop,(∀Q7 H',N Q7 H'->∃m',m'<m/\W m' Q7 H')/\tb {D with nx:=N,ct:=N,bk:=D.nx } σ H1 else D.nx σ H1
theorem yY{c:Expr}{Rk:List I_}{tc:TT}{tb:TS}(hp:L8 (F7 X.prog X.w) X.A X.env X.xe)(hc:PT X c tc)(hb:PSs X Rk tb):PS X (.While c Rk [] pos) (Cc tc tb):=by
 intro pins s σ H D I h;obtain⟨W,⟨m0,w0⟩,turn⟩:=h;refine wpAny_While (codeAny_whileLoop (λn s'=>∃Q7 H',Inv X pins Q7 H' s'/\W n Q7 H') ?_ m0 ⟨σ,H,I,w0⟩)
 rintro n s1 ⟨σ1,H1,I1,w1⟩;refine Jq hp (thn (hc pins s1 σ1 H1 _ I1 (turn n σ1 H1 w1)) λb s2 ⟨H2,I2,q2⟩=>?_)
 cases b with
 |true=>
  obtain⟨N,hN,q2⟩:=q2;rw[if_pos rfl];refine Jq hp (thn (hb pins s2 σ1 H2 _ I2 q2) λf s3 q3=>?_)
  cases f with
  |next=>
   obtain⟨Th,H3,I3,n3⟩:=q3;obtain⟨m',hm,w3⟩:=hN Th H3 n3;exact⟨m',hm,Th,H3,I3,w3⟩
  |cont=>
   obtain⟨Th,H3,I3,n3⟩:=q3;obtain⟨m',hm,w3⟩:=hN Th H3 n3;exact⟨m',hm,Th,H3,I3,w3⟩
  |brk=>exact q3
  |ret v=>exact q3
 |false=>
  rw[if_neg F1];exact MX ⟨σ1,H2,I2,q2⟩
end
structure It where
 go:Nat->Hp->Prop
 yld:Nat->Hp->V->Hp->Prop
 stop:Nat->Hp->Prop
def kO(X:Cx)(pins:List (FI×Obj))(H:Hp)(b:FI):Prop:=
 H b=none/\b≠X.env.locals/\b ∉ X.fs/\(b∈X.ex\/X.s₀.heap.objs.size<=b)/\(∀x c,X.env.cells.lookup x=some c->c≠b)/\∀p∈X.pn++pins,p.1≠b
theorem Inv.fpOk{X:Cx}{pins:List (FI×Obj)}{σ:St}{H H':Hp}{s:Fp}{b:FI}(I:Inv X pins σ H s)(hb:s.heap.objs.size<=b)(hn:H' b=none):kO X pins H' b:=by
 refine⟨hn,Lc (F6 I.lt hb),I.nofs hb,.inr (Hh I.sz hb),λx c e z=>?_,λp hp z=>?_⟩
 ·obtain⟨v,q⟩:=I.cell x c e;exact absurd (F6 q.lt (by rw[z];exact hb)) (Gh _)
 ·exact absurd (F6 (FC (I.pin p hp).1) (by rw[z];exact hb)) (Gh _)
structure vR(P:FK)(w:Gj)(K:Fm)(tg:Expr)(J:It)(fp:List FI)(it:FI)(tn:Nat->HF->Prop):Prop where
 mem:it∈fp
 obj:∀i h,tn i h->∀b∈fp,∃o,h.get? b=some o/\∀v,o.data≠.cell v
 keep:∀i h h',tn i h->(∀b∈fp,∀o,h.get? b=some o->h'.get? b=some o)->tn i h'
 item:∀(X:Cx),X.prog=P->X.w=w->X.K=K->X.calm=true->∀(i:Nat) (pins:List (FI×Obj)) (s:Fp) (σ:St) (H:Hp) (E:Fq->Fp->Prop),Inv X pins σ H s->(∀b∈fp,kO X pins H b)->tn i s.heap->J.go i H->
  FX (F7 P w) X.A (JG (.ref it)) (λr s1=>∃u,r=some u/\
   FX (F7 P w) X.A (MY tg (.ref it) u) (λ_ s2=>∃x H',Inv X pins σ H' s2/\a9 x u/\J.yld i H x H'/\tn (i+1) s2.heap/\∀b∈fp,H' b=none) E s1) E s
 done:∀(X:Cx),X.prog=P->X.w=w->X.K=K->X.calm=true->∀(i:Nat) (pins:List (FI×Obj)) (s:Fp) (σ:St) (H:Hp) (E:Fq->Fp->Prop),Inv X pins σ H s->(∀b∈fp,kO X pins H b)->tn i s.heap->J.stop i H->
  FX (F7 P w) X.A (JG (.ref it)) (λr s1=>r=none/\Inv X pins σ H s1) E s
 self:∀(A:Gs) (i:Nat) (s:Fp) (Q:Fq->Fp->Prop) (E:Fq->Fp->Prop),tn i s.heap->Q (.ref it) s->FX (F7 P w) A (NS (.ref it)) Q E s
abbrev TI:=St->Hp->(It->Hp->Prop)->Prop
def PIE(X:Cx)(pins:List (FI×Obj))(σ:St)(tg:Expr)(R:It->Hp->Prop)(itv:Fq)(s2:Fp):Prop:=
 ∃(it:FI) (fp:List FI) (tn:Nat->HF->Prop) (J:It) (H':Hp),itv=.ref it/\Inv X pins σ H' s2/\vR X.prog X.w X.K tg J fp it tn/\tn 0 s2.heap/\(∀b∈fp,kO X pins H' b)/\R J H'
def PI(X:Cx)(tg iter:Expr)(wi:TI):Prop:=
 ∀(pins:List (FI×Obj)) (s:Fp) (σ:St) (H:Hp) (R:It->Hp->Prop),Inv X pins σ H s->wi σ H R->
  FX (F7 X.prog X.w) X.A (JQ iter X.env) (λv s1=>FX (F7 X.prog X.w) X.A (NS v) (PIE X pins σ tg R) X.xe s1) X.xe s
theorem pY{M:QS}{A:Gs}{E:Fq->Fp->Prop}{s:Fp}{tg:Expr}{it:FI}{u:Fq}{o:Obj}{n:String}{vs:Array Fq}{Q:Unit->Fp->Prop}(ho:s.heap.get? it=some o)(hc:o.cls=.type n)(hd:o.data=.fields vs)
  (hn:["enumerate","zip","dict_itemiterator","dict_reverseitemiterator","odict_iterator","itertools.zip_longest","itertools.pairwise"].contains n=false) (hQ:Q () s):FX M A (MY tg (.ref it) u) Q E s:=by
 unfold MY
 cases tg <;>first
  |exact Fl hQ
  | (cases u <;>first
    |exact Fl hQ
    | (refine Fi (wpAny_load ho ?_)
       rw[hc,hd];show FX M A (if (["enumerate","zip","dict_itemiterator","dict_reverseitemiterator","odict_iterator","itertools.zip_longest","itertools.pairwise"].contains n && vs[0]?==some (Ku _))=true then _ else _) Q E s
       rw[if_neg (by intro h;rw[hn,Bool.false_and]at h;cases h)]
       exact Fl hQ))
noncomputable def Itl(K:Fm)(a:FI):It:=
 ⟨λi H=>∃xs x,SqL K H a xs/\xs[i]?=some x,λi H x H'=>H'=H/\∀xs,SqL K H a xs->xs[i]?=some x,λi H=>∃xs,SqL K H a xs/\xs.length<=i⟩
noncomputable def Itt(K:Fm)(a:FI):It:=
 ⟨λi H=>∃xs x,SqT K H a xs/\xs[i]?=some x,λi H x H'=>H'=H/\∀xs,SqT K H a xs->xs[i]?=some x,λi H=>∃xs,SqT K H a xs/\xs.length<=i⟩
def Itr(lo:Int)(n:Nat):It:=⟨λi _=>i<n,λi H x H'=>H'=H/\x=.int (lo+i),λi _=>n<=i⟩
theorem vd{P:FK}{w:Gj}{K:Fm}{tg:Expr}(a it:FI):vR P w K tg (Itl K a) [it] it (λi h=>h.IsListIter it a i) where
 mem:=by simp
 obj:=λi h st b hb=>by
  have e:b=it:=by simpa using hb
  subst e;obtain⟨o,e,c,d⟩:=st;exact⟨o,e,λv z=>by rw[d]at z;cases z⟩
 keep:=λi h h' st k=>st.at λo e=>k it (by simp) o e
 item:=by
  intro X hP hw hK hc i pins s σ H E I hf st hg;subst hP hw hK;obtain⟨xs,x,hq,hx⟩:=hg;obtain⟨QW,rv,p,hz⟩:=I.list hq;obtain⟨u,hu,ru⟩:=rv.get hx;obtain⟨f0,f1,f2,f3,f4,f5⟩:=hf it (by simp)
  refine wpAny_pyNext_list_item st p.isList (x:=u) (by simpa using hu) λh' QX sb=>?_
  have I1:Inv X pins σ H {s with heap:=h' }:=I.turned (t':=s.toks) (λb o hb e=>(sb.2 b hb).trans e) f0 f1 f3 f4 f5
  obtain⟨o,e,c,d⟩:=id QX;exact⟨u,rfl,pY (s:={s with heap:=h' }) e c d (by decide) ⟨x,H,I1,ru,⟨rfl,λys hy=>by rw[I.list_inj hy hq];exact hx⟩,QX,λb hb=>(hf b hb).1⟩⟩
 done:=by
  intro X hP hw hK hc i pins s σ H E I hf st hg;subst hP hw hK;obtain⟨xs,hq,hx⟩:=hg;obtain⟨QW,rv,p,hz⟩:=I.list hq;obtain⟨f0,f1,f2,f3,f4,f5⟩:=hf it (by simp)
  have hl:=rv.length;exact wpAny_pyNext_list_end (I.ok.hd hc) st p.isList (by simp;lia) λh' eb=>⟨rfl,I.turned (t':=s.toks) (λb o hb e=>eb b o hb e) f0 f1 f3 f4 f5⟩
 self:=λ_ _ _ _ _ st h=>wpAny_pyIter_listiter st h
theorem qQ{P:FK}{w:Gj}{K:Fm}{tg:Expr}(a it:FI):vR P w K tg (Itt K a) [it] it (λi h=>h.IsTupleIter it a i) where
 mem:=by simp
 obj:=λi h st b hb=>by
  have e:b=it:=by simpa using hb
  subst e;obtain⟨o,e,c,d⟩:=st;exact⟨o,e,λv z=>by rw[d]at z;cases z⟩
 keep:=λi h h' st k=>st.at λo e=>k it (by simp) o e
 item:=by
  intro X hP hw hK hc i pins s σ H E I hf st hg;subst hP hw hK;obtain⟨xs,x,hq,hx⟩:=hg;obtain⟨QW,rv,p,hz⟩:=I.tuple hq;obtain⟨u,hu,ru⟩:=rv.get hx;obtain⟨f0,f1,f2,f3,f4,f5⟩:=hf it (by simp)
  refine wpAny_pyNext_tuple_item st (show s.heap.IsTuple a QW.toArray from p) (x:=u) (by simpa using hu) λh' QX sb=>?_
  have I1:Inv X pins σ H {s with heap:=h' }:=I.turned (t':=s.toks) (λb o hb e=>(sb.2 b hb).trans e) f0 f1 f3 f4 f5
  obtain⟨o,e,c,d⟩:=id QX;exact⟨u,rfl,pY (s:={s with heap:=h' }) e c d (by decide) ⟨x,H,I1,ru,⟨rfl,λys hy=>by rw[I.tuple_inj hy hq];exact hx⟩,QX,λb hb=>(hf b hb).1⟩⟩
 done:=by
  intro X hP hw hK hc i pins s σ H E I hf st hg;subst hP hw hK;obtain⟨xs,hq,hx⟩:=hg;obtain⟨QW,rv,p,hz⟩:=I.tuple hq;obtain⟨f0,f1,f2,f3,f4,f5⟩:=hf it (by simp)
  have hl:=rv.length;exact wpAny_pyNext_tuple_end (I.ok.hd hc) st (show s.heap.IsTuple a QW.toArray from p) (by simp;lia) λh' eb=>⟨rfl,I.turned (t':=s.toks) (λb o hb e=>eb b o hb e) f0 f1 f3 f4 f5⟩
 self:=λ_ _ _ _ _ st h=>wpAny_pyIter_tupleiter st h
theorem j3{P:FK}{w:Gj}{K:Fm}{tg:Expr}(it:FI)(lo:Int)(n:Nat):vR P w K tg (Itr lo n) [it] it (λi h=>OV h it (lo+(i:Nat) *1) ((n:Int)-(i:Nat)) 1) where
 mem:=by simp
 obj:=λi h st b hb=>by
  have e:b=it:=by simpa using hb
  subst e
  exact⟨_,st,λv z=>by
   have z':Data.fields _=Data.cell v:=z;cases z'⟩
 keep:=λi h h' st k=>k it (by simp) _ st
 item:=by
  intro X hP hw hK hc i pins s σ H E I hf st hg;subst hP hw hK;obtain⟨f0,f1,f2,f3,f4,f5⟩:=hf it (by simp)
  have W:=Walks.range (prog:=X.prog) (w:=X.w) (I.ok.hd hc) it lo 1 n;refine W.item i s _ _ hg st λv h' tk hv QX kk=>?_
  obtain⟨t,rfl⟩:=hv;have I1:Inv X pins σ H {s with heap:=h',toks:=tk }:=I.turned (λb o hb e=>kk b o (by simpa using hb) e) f0 f1 f3 f4 f5
  refine⟨_,rfl,pY (s:={s with heap:=h',toks:=tk }) (n:="range_iterator") QX rfl rfl (by decide) ⟨.int (lo+i),H,I1,⟨t,?_⟩,⟨rfl,rfl⟩,QX,λb hb=>(hf b hb).1⟩⟩
  rw[Mo]
 done:=by
  intro X hP hw hK hc i pins s σ H E I hf st hg;subst hP hw hK;obtain⟨f0,f1,f2,f3,f4,f5⟩:=hf it (by simp)
  exact wpAny_pyNext_range_end (I.ok.hd hc) st (by have:n<=i:=hg;lia) λh' eb=>⟨rfl,I.turned (t':=s.toks) (λb o hb e=>eb b o hb e) f0 f1 f3 f4 f5⟩
 self:=λ_ _ _ _ _ st h=>wpAny_pyIter_rangeiter st h
section
variable {X:Cx}{tg:Expr}
noncomputable def EJ(K:Fm)(tl:TE):TI:=λσ H R=>tl σ H λx H1=>∃a,x=.ref a/\(∃xs,SqL K H1 a xs)/\R (Itl K a) H1
noncomputable def Fd(K:Fm)(tl:TE):TI:=λσ H R=>tl σ H λx H1=>∃a,x=.ref a/\(∃xs,SqT K H1 a xs)/\R (Itt K a) H1
theorem Bd{l:Expr}{tl:TE}(hl:PE X l tl):PI X tg l (EJ X.K tl):=by
 intro pins s σ H R I h;refine thn (hl pins s σ H _ I h) λv s1 ⟨x,H1,I1,r1,q1⟩=>?_
 obtain⟨a,e,⟨xs,hq⟩,q⟩:=q1;subst e;cases r1;obtain⟨QW,rv,p,hz⟩:=I1.list hq;refine Iu p.isList ?_;refine⟨s1.heap.objs.size,[s1.heap.objs.size],_,_,H1,rfl,I1.kept (t':=s1.toks) λb o e=>Fo _ e,vd a _,⟨_,FE _ rfl,rfl,rfl⟩,λb hb=>?_,q⟩
 have e:b=s1.heap.objs.size:=by simpa using hb
 subst e;exact I1.fpOk (Fu _) (I1.hok.fresh (Fu _))
theorem CB{l:Expr}{tl:TE}(hl:PE X l tl):PI X tg l (Fd X.K tl):=by
 intro pins s σ H R I h;refine thn (hl pins s σ H _ I h) λv s1 ⟨x,H1,I1,r1,q1⟩=>?_
 obtain⟨a,e,⟨xs,hq⟩,q⟩:=q1;subst e;cases r1;obtain⟨QW,rv,p,hz⟩:=I1.tuple hq;refine wpAny_pyIter_tuple (show s1.heap.IsTuple a QW.toArray from p) ?_
 refine⟨s1.heap.objs.size,[s1.heap.objs.size],_,_,H1,rfl,I1.kept (t':=s1.toks) λb o e=>Fo _ e,qQ a _,⟨_,FE _ rfl,rfl,rfl⟩,λb hb=>?_,q⟩
 have e:b=s1.heap.objs.size:=by simpa using hb
 subst e;exact I1.fpOk (Fu _) (I1.hok.fresh (Fu _))
theorem xA{pins:List (FI×Obj)}{σ:St}{H:Hp}{s:Fp}{R:It->Hp->Prop}{E:Fq->Fp->Prop}{lo hi:Int}{t u v:Tok}{tk:Nat}(I:Inv X pins σ H s)(h1:-(2 ^ 62)<=lo)(h2:lo<2 ^ 62)(h3:-(2 ^ 62)<=hi)(h4:hi<2 ^ 62)
  (q:R (Itr lo (hi-lo).toNat) H):FX (F7 X.prog X.w) X.A (NS (.ref s.heap.objs.size)) (PIE X pins σ tg R) E {s with heap:=s.heap.push {cls:=.type "range",data:=.fields #[.int lo t,.int hi u,.int 1 v] },toks:=tk }:=by
 refine NT (IsRange.new ..) (small_one h1 h2 h3 h4) ?_;have I1:Inv X pins σ H {s with heap:=s.heap.push {cls:=.type "range",data:=.fields #[.int lo t,.int hi u,.int 1 v] },toks:=tk }:=I.kept λb o e=>Fo _ e
 refine⟨(s.heap.push {cls:=.type "range",data:=.fields #[.int lo t,.int hi u,.int 1 v] }).objs.size,[(s.heap.push {cls:=.type "range",data:=.fields #[.int lo t,.int hi u,.int 1 v] }).objs.size],_,_,H,rfl,
  I1.kept (t':=tk) λb o e=>Fo _ e,j3 _ lo (hi-lo).toNat,?_,λb hb=>?_,q⟩
 ·have e1:lo+((0:Nat):Int) *1=lo:=by simp
  have e2:(((hi-lo).toNat:Nat):Int)-((0:Nat):Int)=Builtin.Range.rangeSize lo hi 1:=by rw[rangeSize_one];split <;>lia
  show OV _ _ (lo+((0:Nat):Int) *1) ((((hi-lo).toNat:Nat):Int)-((0:Nat):Int)) 1;rw[e1,e2];exact FE _ rfl
 ·have e:b=(s.heap.push {cls:=.type "range",data:=.fields #[.int lo t,.int hi u,.int 1 v] }).objs.size:=by simpa using hb
  subst e;exact I1.fpOk (Fu _) (I1.hok.fresh (Fu _))
noncomputable def Ex(ta:TA):TI:=λσ H R=>ta σ H λvs H1=>∃j:Int,vs=[.int j]/\-(2 ^ 62)<=j/\j<2 ^ 62/\R (Itr 0 j.toNat) H1
theorem uI{a:Expr}{ta:TA}{p pos:Pos}(hg:Gl X "range")(hm:X.mg "range"=none)(ha:PA X [a] ta)(hs:FH [a] X.env=[(false,JQ a X.env)]:=by rfl):PI X tg (.Call (.Name "range" p) [a] [] pos) (Ex ta):=by
 intro pins s σ H R I h;refine Call_ (df I hg hm P1 (PyProof.Rows.callWith_type1 (thn (ha pos pins s σ H _ I h) λus s1 ⟨vs,H1,I1,r1,q1⟩=>?_) hs rfl))
 obtain⟨j,e,q1,q2,q⟩:=q1;subst e;cases r1 with
 |cons r rr=>
  cases rr;obtain⟨t,rfl⟩:=r;exact call_range_1 (xA I1 (by lia) (by lia) q1 q2 (by simpa using q))
noncomputable def E6(wi:TI)(g:TG)(tb:TS):TS:=λD σ H=>wi σ H λJ H1=>∃W:Nat->Nat->St->Hp->Prop,(∃m,W 0 m σ H1)/\∀i m σ H,W i m σ H->
 (J.stop i H/\D.nx σ H)\/(J.go i H/\∃N:St->Hp->Prop,(∀Q7 H',N Q7 H'->∃m',m'<m/\W (i+1) m' Q7 H')/\∀x H',J.yld i H x H'->g x σ H' λσ2 H2=>tb {D with nx:=N,ct:=N,bk:=D.nx } σ2 H2)
def kG(fp:List FI)(h:HF):List (FI×Obj):=fp.filterMap λb=>(h.get? b).map λo=>(b,o)
theorem c7{fp:List FI}{h:HF}{b:FI}{o:Obj}(hb:b∈fp)(e:h.get? b=some o):(b,o)∈kG fp h:=LN.mpr ⟨b,hb,by rw[e];rfl⟩
theorem v5{fp:List FI}{h:HF}{p:FI×Obj}(hp:p∈kG fp h):p.1∈fp/\h.get? p.1=some p.2:=by
 obtain⟨b,hb,e⟩:=LN.mp hp;cases q:h.get? b with
 |none=>rw[q]at e;cases e
 |some o=>
  rw[q]at e;have e':(b,o)=p:=Gv e;subst e';exact⟨hb,q⟩
theorem Inv.pinned{pins:List (FI×Obj)}{σ:St}{H:Hp}{s:Fp}{fp:List FI}(I:Inv X pins σ H s)(hf:∀b∈fp,kO X pins H b)(ho:∀b∈fp,∃o,s.heap.get? b=some o/\∀v,o.data≠.cell v):Inv X (pins++kG fp s.heap) σ H s:=
 I.pins_of λp hp=>(FB.mp hp).elim (λz=>I.pin p (FG _ z)) λz=>by
  obtain⟨hb,e⟩:=v5 z;obtain⟨f0,f1,f2,_⟩:=hf p.1 hb;obtain⟨o,e',d⟩:=ho p.1 hb;rw[e]at e';cases e';exact⟨e,f0,f1,f2,d⟩
theorem Inv.unpinned{pins pl:List (FI×Obj)}{σ:St}{H:Hp}{s:Fp}(I:Inv X (pins++pl) σ H s):Inv X pins σ H s:=I.pins_of λp hp=>I.pin p (FG _ (FJ _ hp))
theorem yr{iter:Expr}{Rk:List I_}{wi:TI}{g:TG}{tb:TS}{pos:Pos}(hp:L8 (F7 X.prog X.w) X.A X.env X.xe)(hc:X.calm=true)(hi:PI X tg iter wi)(hg:PG X tg g)(hb:PSs X Rk tb)
  (hs:∀x,Hw iter X.env x=pure x:=by intro _;rfl):PS X (.For tg iter Rk [] pos) (E6 wi g tb):=by
 intro pins s σ H D I h;refine wpAny_For (thn (hi pins s σ H _ I h) λv s1 h1=>thn h1 λitv s2 h2=>?_) hs
 obtain⟨it,fp,tn,J,H2,e,I2,T,RF,f2,W,⟨m0,w0⟩,turn⟩:=h2;subst e;have stat:∀{H':Hp},(∀b∈fp,H' b=none)->∀b∈fp,kO X pins H' b:=λhn b hb=>⟨hn b hb,(f2 b hb).2⟩
 refine codeAny_forLoop_any (λn s'=>∃i Q7 H',Inv X pins Q7 H' s'/\tn i s'.heap/\(∀b∈fp,H' b=none)/\W i n Q7 H') ?_ m0 ⟨0,σ,H2,I2,RF,λb hb=>(f2 b hb).1,w0⟩
 rintro n s3 ⟨i,Th,H3,I3,Ss,fr3,w3⟩;rcases turn i n Th H3 w3 with ⟨stop,qn⟩ |⟨go,N,hN,step⟩
 ·refine Jq hp (thn (T.done X rfl rfl rfl hc i pins s3 Th H3 X.xe I3 (stat fr3) Ss stop) λr s4 ⟨hr,I4⟩=>?_)
  subst hr;exact MX ⟨Th,H3,I4,qn⟩
 ·refine Jq hp (thn (T.item X rfl rfl rfl hc i pins s3 Th H3 X.xe I3 (stat fr3) Ss go) λr s4 ⟨u,hr,h4⟩=>?_)
  subst hr;refine Jq hp (thn h4 λ_ s5 ⟨x,H5,I5,r5,y5,Ti,fr5⟩=>?_)
  have I5':=I5.pinned (stat fr5) (T.obj _ _ Ti);refine Jq hp (thn (hg _ s5 Th H5 x u _ I5' r5 (step x H5 y5)) λ_ s6 ⟨σ6,H6,I6,q6⟩=>?_)
  refine Jq hp (thn (hb _ s6 σ6 H6 _ I6 q6) λf s7 q7=>?_)
  have again:∀{Tj:St}{H7:Hp},Inv X (pins++kG fp s5.heap) Tj H7 s7->N Tj H7->∃m,m<n/\∃i Q7 H',Inv X pins Q7 H' s7/\tn i s7.heap/\(∀b∈fp,H' b=none)/\W i m Q7 H':=λ{Tj H7} I7 n7=>by
   obtain⟨m',hm,w7⟩:=hN Tj H7 n7;refine⟨m',hm,i+1,Tj,H7,I7.unpinned,T.keep _ _ _ Ti λb hb o e=>(I7.pin (b,o) (FG _ (FG _ (c7 hb e)))).1,λb hb=>?_,w7⟩
   obtain⟨o,e,d⟩:=T.obj _ _ Ti b hb;exact (I7.pin (b,o) (FG _ (FG _ (c7 hb e)))).2.1
  cases f with
  |next=>obtain⟨Tj,H7,I7,n7⟩:=q7;exact again I7 n7
  |cont=>obtain⟨Tj,H7,I7,n7⟩:=q7;exact again I7 n7
  |brk=>obtain⟨Tj,H7,I7,q7⟩:=q7;exact⟨Tj,H7,I7.unpinned,q7⟩
  |ret v=>obtain⟨x7,Tj,H7,I7,r7,q7⟩:=q7;exact⟨x7,Tj,H7,I7.unpinned,r7,q7⟩
end
abbrev R2:=V->V->Hp->VK->Prop
def OpR(X:Cx)(f:Fq->Fq->Sem Fq)(r:R2):Prop:=
 ∀(pins:List (FI×Obj)) (s:Fp) (σ:St) (H:Hp) (x y:V) (v u:Fq) (Q:VK),Inv X pins σ H s->a9 x v->a9 y u->r x y H Q->
  FX (F7 X.prog X.w) X.A (f v u) (EP X pins σ Q) X.xe s
def UnR(X:Cx)(f:Fq->Sem Fq)(r:V->Hp->VK->Prop):Prop:=
 ∀(pins:List (FI×Obj)) (s:Fp) (σ:St) (H:Hp) (x:V) (v:Fq) (Q:VK),Inv X pins σ H s->a9 x v->r x H Q->
  FX (F7 X.prog X.w) X.A (f v) (EP X pins σ Q) X.xe s
def d_(X:Cx)(f:Fq)(r:List V->Hp->VK->Prop):Prop:=
 ∀(pins:List (FI×Obj)) (s:Fp) (σ:St) (H:Hp) (xs:List V) (us:List Fq) (Q:VK),Inv X pins σ H s->aT xs us->r xs H Q->
  FX (F7 X.prog X.w) X.A (call f us) (EP X pins σ Q) X.xe s
def tOp(r:R2)(ta tb:TE):TE:=λσ H Q=>ta σ H λx H1=>tb σ H1 λy H2=>r x y H2 Q
def tUn(r:V->Hp->VK->Prop)(ta:TE):TE:=λσ H Q=>ta σ H λx H1=>r x H1 Q
def rI(C:Int->Int->Prop)(g:Int->Int->V):R2:=λx y H Q=>∃i j,x=.int i/\y=.int j/\C i j/\Q (g i j) H
def rI0(g:Int->Int->V):R2:=λx y H Q=>∃i j,x=.int i/\y=.int j/\Q (g i j) H
def rU(g:Int->V):V->Hp->VK->Prop:=λx H Q=>∃i,x=.int i/\Q (g i) H
section
variable {X:Cx}{a b c:Expr}{tc:TE}
theorem Cw(ha:PE X a ta)(hb:PE X b tb){pins:List (FI×Obj)}{s:Fp}{σ:St}{H:Hp}{R:V->V->Hp->Prop}(I:Inv X pins σ H s)
  (h:ta σ H λx H1=>tb σ H1 λy H2=>R x y H2) {Q:Fq->Fp->Prop}{f:Fq->Fq->Sem Fq}
  (hf:∀v u s2 x y H2,Inv X pins σ H2 s2->a9 x v->a9 y u->R x y H2->FX (F7 X.prog X.w) X.A (f v u) Q X.xe s2):
  FX (F7 X.prog X.w) X.A (JQ a X.env) (λv Q2=>FX (F7 X.prog X.w) X.A (JQ b X.env) (λu S6=>FX (F7 X.prog X.w) X.A (f v u) Q X.xe S6) X.xe Q2) X.xe s:=by
 refine thn (ha pins s σ H _ I h) λv s1 ⟨x,H1,I1,r1,q1⟩=>?_
 refine thn (hb pins s1 σ H1 _ I1 q1) λu s2 ⟨y,H2,I2,r2,q2⟩=>?_
 exact hf v u s2 x y H2 I2 r1 r2 q2
theorem xg{op:Qm}{r:R2}(ho:OpR X (K6 op) r)(ha:PE X a ta)(hb:PE X b tb):PE X (.BinOp a op b pos) (tOp r ta tb):=by
 intro pins s σ H Q I h;exact wpAny_BinOp (Cw ha hb I h λv u s2 x y H2 I2 rx ry q=>ho pins s2 σ H2 x y v u Q I2 rx ry q)
theorem EE{op:UnaryOp}{r:V->Hp->VK->Prop}(ho:UnR X (unaryOp op) r)(ha:PE X a ta):PE X (.UnaryOp op a pos) (tUn r ta):=by
 intro pins s σ H Q I h;exact UnaryOp_ (thn (ha pins s σ H _ I h) λv s1 ⟨x,H1,I1,r1,q1⟩=>ho pins s1 σ H1 x v Q I1 r1 q1)
theorem opI{f:Fq->Fq->Sem Fq}{C:Int->Int->Prop}{g:Int->Int->Int}
  (rule:∀(i j:Int) (t u:Tok) (s:Fp) (Q:Fq->Fp->Prop) (E:Fq->Fp->Prop),C i j->Q (.int (g i j) s.toks) {s with toks:=s.toks+1 }->FX (F7 X.prog X.w) X.A (f (.int i t) (.int j u)) Q E s):
  OpR X f (rI C λi j=>.int (g i j)):=by
 intro pins s σ H x y v u Q I rx ry h;obtain⟨i,j,rfl,rfl,hc,q⟩:=h;obtain⟨t,rfl⟩:=rx;obtain⟨t',rfl⟩:=ry;exact rule i j t t' s _ _ hc ⟨.int (g i j),H,I.tok _,⟨_,rfl⟩,q⟩
theorem D7{f:Fq->Fq->Sem Fq}{g:Int->Int->Int}
  (rule:∀(i j:Int) (t u:Tok) (s:Fp) (Q:Fq->Fp->Prop) (E:Fq->Fp->Prop),Q (.int (g i j) s.toks) {s with toks:=s.toks+1 }->FX (F7 X.prog X.w) X.A (f (.int i t) (.int j u)) Q E s):
  OpR X f (rI0 λi j=>.int (g i j)):=by
 intro pins s σ H x y v u Q I rx ry h;obtain⟨i,j,rfl,rfl,q⟩:=h;obtain⟨t,rfl⟩:=rx;obtain⟨t',rfl⟩:=ry;exact rule i j t t' s _ _ ⟨.int (g i j),H,I.tok _,⟨_,rfl⟩,q⟩
theorem CM{f:Fq->Fq->Sem Fq}{g:Int->Int->Bool}
  (rule:∀(i j:Int) (t u:Tok) (s:Fp) (Q:Fq->Fp->Prop) (E:Fq->Fp->Prop),Q (.bool (g i j)) s->FX (F7 X.prog X.w) X.A (f (.int i t) (.int j u)) Q E s):
  OpR X f (rI0 λi j=>.bl (g i j)):=by
 intro pins s σ H x y v u Q I rx ry h;obtain⟨i,j,rfl,rfl,q⟩:=h;obtain⟨t,rfl⟩:=rx;obtain⟨t',rfl⟩:=ry;exact rule i j t t' s _ _ ⟨.bl (g i j),H,I,rfl,q⟩
def EG(i j:Int):Prop:=0<=j/\j<=1000000/\i.natAbs<2 ^ 64
theorem CO:OpR X (K6 .Add) (rI0 λi j=>.int (i+j)):=D7 λ_ _ _ _ _ _ _ q=>add_int q
theorem B7:OpR X (K6 .Sub) (rI0 λi j=>.int (i-j)):=D7 λ_ _ _ _ _ _ _ q=>sub_int q
theorem Cn:OpR X (K6 .Mod) (rI (λ_ j=>0<j) λi j=>.int (i%j)):=opI λi j _ _ _ _ _ hc q=>by
 have h1:(0:Int)<j:=hc;exact mod_int' (by lia) (by rw[Int.fmod_eq_emod_of_nonneg i (by lia)];exact q)
theorem CW:OpR X (K6 .Pow) (rI EG λi j=>.int (i ^ j.toNat)):=opI λ_ _ _ _ _ _ _ hc q=>pow_int_small hc.1 hc.2.1 hc.2.2 q
theorem unI{f:Fq->Sem Fq}{g:Int->Int}
  (rule:∀(i:Int) (t:Tok) (s:Fp) (Q:Fq->Fp->Prop) (E:Fq->Fp->Prop),Q (.int (g i) s.toks) {s with toks:=s.toks+1 }->FX (F7 X.prog X.w) X.A (f (.int i t)) Q E s):
  UnR X f (rU λi=>.int (g i)):=by
 intro pins s σ H x v Q I rx h;obtain⟨i,rfl,q⟩:=h;obtain⟨t,rfl⟩:=rx;exact rule i t s _ _ ⟨.int (g i),H,I.tok _,⟨_,rfl⟩,q⟩
theorem CT:UnR X (unaryOp .USub) (rU λi=>.int (-i)):=unI λ_ _ _ _ _ q=>neg_int q
end
noncomputable def Ew:V->V->Bool
 | .non,.non=>true | .non,.int _=>true | .int _,.non=>true | .non,.bl _=>true | .bl _,.non=>true | .non,.str _=>true | .str _,.non=>true
 | .int _,.int _=>true | .bl _,.bl _=>true | .str _,.str _=>true | .byt _,.byt _=>true
 | .int _,.str _=>true | .str _,.int _=>true | .bl _,.str _=>true | .str _,.bl _=>true
 |_,_=>false
noncomputable def rEq:R2:=λx y H Q=>Ew x y=true/\Q (.bl (decide (x=y))) H
noncomputable def rNe:R2:=λx y H Q=>Ew x y=true/\Q (.bl (!decide (x=y))) H
theorem jK{i j:Int}:decide (V.int i=V.int j)=(i==j):=by
 rw[IC];simp
theorem zD{i j:Bool}:decide (V.bl i=V.bl j)=(i==j):=by
 rw[IC];simp
theorem tU{i j:Str}:decide (V.str i=V.str j)=(i==j):=by
 rw[IC];simp
theorem sj{i j:Array UInt8}:decide (V.byt i=V.byt j)=(i.toList==j.toList):=by
 rw[IC];cases i;cases j;simp
section
variable {X:Cx}{a b c:Expr}{tc:TE}
theorem aW{pins:List (FI×Obj)}{σ:St}{H:Hp}{s:Fp}{Q:VK}{k k':Bool}(I:Inv X pins σ H s)(q:Q (.bl k) H)(e:k=k'):EP X pins σ Q (.bool k') s:=by
 subst e;exact⟨.bl k,H,I,rfl,q⟩
theorem Ei:OpR X (Hj .Eq) rEq:=by
 intro pins s σ H x y v u Q I rx ry h;obtain⟨hs,q⟩:=h;cases x with
 |non=>
  cases rx;cases y with
  |non=>cases ry;exact Pl (aW I q (by simp))
  |bl j=>cases ry;exact Pm (aW I q (by simp))
  |int j=>obtain⟨t',rfl⟩:=ry;exact P3 (aW I q (by simp))
  |str j=>obtain⟨t',rfl⟩:=ry;exact P4 (aW I q (by simp))
  |_=>exact absurd (show false=true from hs) F1
 |bl i=>
  cases rx;cases y with
  |non=>cases ry;exact Pn (aW I q (by simp))
  |bl j=>cases ry;exact eq_bool (aW I q zD)
  |str j=>obtain⟨t',rfl⟩:=ry;exact Po (aW I q (by simp))
  |_=>exact absurd (show false=true from hs) F1
 |int i=>
  obtain⟨t,rfl⟩:=rx;cases y with
  |non=>cases ry;exact P5 (aW I q (by simp))
  |int j=>obtain⟨t',rfl⟩:=ry;exact eq_int (aW I q jK)
  |str j=>obtain⟨t',rfl⟩:=ry;exact P6 (aW I q (by simp))
  |_=>exact absurd (show false=true from hs) F1
 |str i=>
  obtain⟨t,rfl⟩:=rx;cases y with
  |non=>cases ry;exact P7 (aW I q (by simp))
  |bl j=>cases ry;exact Pp (aW I q (by simp))
  |int j=>obtain⟨t',rfl⟩:=ry;exact P8 (aW I q (by simp))
  |str j=>obtain⟨t',rfl⟩:=ry;exact eq_str (aW I q tU)
  |_=>exact absurd (show false=true from hs) F1
 |byt i=>
  obtain⟨t,rfl⟩:=rx;cases y with
  |byt j=>obtain⟨t',rfl⟩:=ry;exact PySem.W.eq_bytes (aW I q sj)
  |_=>exact absurd (show false=true from hs) F1
 |_=>cases y <;>exact absurd (show false=true from hs) F1
theorem EC:OpR X (Hj .NotEq) rNe:=by
 intro pins s σ H x y v u Q I rx ry h;obtain⟨hs,q⟩:=h;cases x with
 |non=>
  cases rx;cases y with
  |non=>cases ry;exact Pq (aW I q (by simp))
  |bl j=>cases ry;exact Pr (aW I q (by simp))
  |int j=>obtain⟨t',rfl⟩:=ry;exact P9 (aW I q (by simp))
  |str j=>obtain⟨t',rfl⟩:=ry;exact P_ (aW I q (by simp))
  |_=>exact absurd (show false=true from hs) F1
 |bl i=>
  cases rx;cases y with
  |non=>cases ry;exact Pu (aW I q (by simp))
  |bl j=>cases ry;exact ne_bool (aW I q (congrArg not zD))
  |str j=>obtain⟨t',rfl⟩:=ry;exact Pv (aW I q (by simp))
  |_=>exact absurd (show false=true from hs) F1
 |int i=>
  obtain⟨t,rfl⟩:=rx;cases y with
  |non=>cases ry;exact Qa (aW I q (by simp))
  |int j=>obtain⟨t',rfl⟩:=ry;exact ne_int (aW I q (congrArg not jK))
  |str j=>obtain⟨t',rfl⟩:=ry;exact Qb (aW I q (by simp))
  |_=>exact absurd (show false=true from hs) F1
 |str i=>
  obtain⟨t,rfl⟩:=rx;cases y with
  |non=>cases ry;exact Qc (aW I q (by simp))
  |bl j=>cases ry;exact Pw (aW I q (by simp))
  |int j=>obtain⟨t',rfl⟩:=ry;exact Qd (aW I q (by simp))
  |str j=>obtain⟨t',rfl⟩:=ry;exact ne_str (aW I q (congrArg not tU))
  |_=>exact absurd (show false=true from hs) F1
 |byt i=>
  obtain⟨t,rfl⟩:=rx;cases y with
  |byt j=>obtain⟨t',rfl⟩:=ry;exact PySem.W.ne_bytes (aW I q (congrArg not sj))
  |_=>exact absurd (show false=true from hs) F1
 |_=>cases y <;>exact absurd (show false=true from hs) F1
theorem Ep:OpR X (Hj .Lt) (rI0 λi j=>.bl (decide (i<j))):=CM λ_ _ _ _ _ _ _ q=>lt_int q
theorem DQ:OpR X (Hj .LtE) (rI0 λi j=>.bl (decide (i<=j))):=CM λ_ _ _ _ _ _ _ q=>le_int q
theorem DY:OpR X (Hj .Gt) (rI0 λi j=>.bl (decide (j<i))):=CM λ_ _ _ _ _ _ _ q=>gt_int q
theorem m9(b:Expr){op:OT}(h:op≠.In:=by decide)(h2:op≠.NotIn:=by decide):HZ op b=false:=by
 have e1:(op==CmpOp.In)=false:=by cases op <;>first |rfl |exact absurd rfl h
 have e2:(op==CmpOp.NotIn)=false:=by cases op <;>first |rfl |exact absurd rfl h2
 cases b <;>simp[HZ,e1,e2]
theorem AO{op:OT}{r:R2}(ho:OpR X (Hj op) r)(ha:PE X a ta)(hb:PE X b tb)(hm:HZ op b=false):PE X (.Compare a [op] [b] pos) (tOp r ta tb):=by
 intro pins s σ H Q I h;exact Pj (Cw ha hb I h λv u s2 x y H2 I2 rx ry q=>ho pins s2 σ H2 x y v u Q I2 rx ry q) hm
def EI(t:TE):TT:=λσ H Q=>t σ H λx H'=>∃k,x=.bl k/\Q k H'
theorem z8{op:OT}{r:R2}(ho:OpR X (Hj op) r)(ha:PE X a ta)(hb:PE X b tb)(hm:HZ op b=false):PT X (.Compare a [op] [b] pos) (EI (tOp r ta tb)):=by
 intro pins s σ H Q I h
 refine MW (thn (ha pins s σ H _ I h) λv s1 ⟨x,H1,I1,r1,q1⟩=>thn (hb pins s1 σ H1 _ I1 q1) λu s2 ⟨y,H2,I2,r2,q2⟩=>
  thn (ho pins s2 σ H2 x y v u _ I2 r1 r2 q2) λc s3 ⟨z,H3,I3,r3,k,e,q3⟩=>?_) hm
 subst e;cases r3;exact HM ⟨H3,I3,q3⟩
theorem rM:(sizeLine:Nat)<2 ^ 63:=by rw[H_];decide
theorem fq{x:V}{us:List Fq}(r:aT [x] us):∃u,us=[u]/\a9 x u:=by
 cases r with
 |cons r1 r2=>cases r2;exact⟨_,rfl,r1⟩
theorem l6{x y:V}{us:List Fq}(r:aT [x,y] us):∃u w',us=[u,w']/\a9 x u/\a9 y w':=by
 cases r with
 |cons r1 r2=>
  cases r2 with
  |cons r3 r4=>cases r4;exact⟨_,_,rfl,r1,r3⟩
theorem zk:d_ X (.builtin "abs") (λxs H Q=>∃i,xs=[.int i]∧Q (.int (if i<0 then -i else i)) H):=by
 intro pins s σ H xs us Q I r h;obtain⟨i,rfl,q⟩:=h;obtain⟨u,rfl,t,rfl⟩:=fq r;exact call_abs_int λu tk=>⟨.int (if i<0 then -i else i),H,I.tok _,⟨_,rfl⟩,q⟩
end
structure Dj(h:HF)(x dx C:FI)(mA:Str->Option Fq):Prop where
 obj:h.get? x=some (MV C dx)
 ns:h.Ns1 dx mA
 ne:dx≠x
theorem uV{h:HF}{dx:FI}{mA:Str->Option Fq}(n:h.Ns1 dx mA):∃od,h.get? dx=some od/\∀name,ND name od=some (mA name):=by
 obtain⟨o,es,ep,ho,hd,hk,_,hm⟩:=n;refine⟨o,ho,λname=>?_⟩
 have e:=hm name;unfold nsFind findBy at e;rw[<-Array.find?_toList]at e;unfold ND;rw[hd];dsimp only;split
 ·rename_i y q
  rw[q]at e;exact congrArg some e
 ·rename_i q
  rw[q]at e
  have a:es.toList.any (·.refKey)=false:=by
   rw[List.any_eq_false];intro y hy;obtain⟨z,t,hkey⟩:=hk y (Lu.mp hy);simp[DictEntry.refKey,hkey]
  have a':¬ es.toList.any (·.refKey)=true:=by rw[a];exact F1
  rw[if_neg a'];exact congrArg some e
theorem Dj.look{h:HF}{x dx C:FI}{mA:Str->Option Fq}(I:Dj h x dx C mA):∃od,PySem.W.InstAt h x (MV C dx) C (some od)/\∀name,ND name od=some (mA name):=
 let ⟨od,ho,hl⟩:=uV I.ns
 ⟨od,⟨I.obj,rfl,rfl,ho⟩,hl⟩
def putF(f:Str)(v:V):List (Str×V)->List (Str×V)
 |[]=>[(f,v)]
 | (g,x)::r=>if g=f then (g,v)::r else (g,x)::putF f v r
section
variable {P:FK}{w:Gj}{h:HF}{a C dx:FI}{fs fs':List (Str×V)}
theorem AF(hok:HOk P w H h)(e:H a=some (.ins C dx fs)):∃mA,Dj h a dx C mA/\(∀f,CJ (fs.lookup f) (mA f))/\Qu mA (fs.map (·.1))/\fs.length<=1000/\H dx=some (.own a):=by
 obtain⟨d,z,ne,ob,mA,n,r,q⟩:=(show bS P w H h a (.ins C dx fs) from hok a _ e)
 exact⟨mA,⟨ob,n,ne⟩,r,q,z,d⟩
end
structure Cls(K:Fm)(C:FI):Prop where
 pg:OC K C Str.empty=true
 hd:PySem.W.hasDictIn K C=true
 po:PySem.W.plainOver K C=true
 sa:Px K (.ref C) "__setattr__"=some (some (.builtin "object.__setattr__"))
theorem Cls.get{K:Fm}{C:FI}(c:Cls K C)(f:Str):OC K C f=true:=c.pg
section
variable {X:Cx}{A:Gs}{Q:Fq→Fp→Prop}{c:Fq}{b:Bool}
inductive jF (K:Fm) (H:Hp):V->Fq->Prop where
 |non:jF K H .non (.type "NoneType")
 |bl (x:Bool):jF K H (.bl x) (.type "bool")
 |int (i:Int):jF K H (.int i) (.type "int")
 |str (x:Str):jF K H (.str x) (.type "str")
 |flt (x:UInt64):jF K H (.flt x) (.type "float")
 |lst {a:FI}{xs:List V} (e:H a=some (.lst xs)):jF K H (.ref a) (.type "list")
 |frz {a:FI}{o:Obj}{xs:List V} (e:H a=some (.frz o (.lst xs))):jF K H (.ref a) (.type "list")
 |tup {a:FI}{xs:List V} (e:H a=some (.tup xs)):jF K H (.ref a) (.type "tuple")
 |dK {a:FI}{QZ:List (Key×V)} (e:H a=some (.dK QZ)):jF K H (.ref a) (.type "dict")
 |dT {a:FI}{QZ:List (List Key×V)} (e:H a=some (.dT QZ)):jF K H (.ref a) (.type "dict")
 |ins {a C dx:FI}{fs:List (Str×V)} (e:H a=some (.ins C dx fs)) (cl:Cls K C) (ha:Px K (.ref C) "__class__"=some (some (.builtin "object.__class__")))
   (hn:PySem.W.specialIn K (.builtin "object.__class__") "__get__"=some (some (.builtin "getset_descriptor.__get__"))) (Su:PySem.W.takesIn K (.builtin "object.__class__")=some true)
   (hm:PySem.W.mroIn K C (.type "object")=some true):jF K H (.ref a) (.ref C)
theorem dR{x:V}{u t:Fq}(I:Inv X pins σ H s)(rx:a9 x u)(ty:jF X.K H x t)(e:J9 X.K t c=some b)(h:∀tk,Q (.bool b) {s with toks:=tk }):
  FX (F7 X.prog X.w) A (call (.builtin "isinstance") [u,c]) Q E s:=by
 cases ty with
 |non=>cases (show u=F4 from rx);exact Ha PySem.W.kitx_none I.kIn True.intro e (λz=>nomatch z) h
 |bl y=>cases (show u=GF y from rx);exact Ha PySem.W.kitx_bool I.kIn True.intro e (λz=>nomatch z) h
 |int i=>obtain⟨t,q⟩:=(show ∃t,u=GB i t from rx);cases q;exact Ha PySem.W.kitx_int I.kIn True.intro e (λz=>nomatch z) h
 |str y=>obtain⟨t,q⟩:=(show ∃t,u=GT y t from rx);cases q;exact Ha PySem.W.kitx_str I.kIn True.intro e (λz=>nomatch z) h
 |flt y=>obtain⟨t,q⟩:=(show ∃t,u=QE y t from rx);cases q;exact Ha PySem.W.kitx_float I.kIn True.intro e (λz=>nomatch z) h
 | @lst a xs ea=>
  cases (show u=FW a from rx)
  obtain⟨_,_,n,_,h1⟩:=(show bS X.prog X.w H s.heap a (.lst xs) from I.hok a _ ea)
  exact Ha L9 I.kIn ⟨_,h1,rfl⟩ e (λz=>nomatch z) h
 | @frz a ob xs ea=>
  cases (show u=FW a from rx)
  obtain⟨_,_,_,n,_,h1⟩:=(show bS X.prog X.w H s.heap a (.frz ob (.lst xs)) from I.hok a _ ea)
  exact Ha L9 I.kIn ⟨_,h1,rfl⟩ e (λz=>nomatch z) h
 | @tup a xs ea=>
  cases (show u=FW a from rx)
  obtain⟨_,_,_,p⟩:=(show bS X.prog X.w H s.heap a (.tup xs) from I.hok a _ ea)
  obtain⟨o,h1,h2,_⟩:=p;exact Ha NU I.kIn ⟨o,h1,h2⟩ e (λz=>nomatch z) h
 | @dK a QZ ea=>
  cases (show u=FW a from rx)
  obtain⟨_,_,vs,_,p⟩:=(show bS X.prog X.w H s.heap a (.dK QZ) from I.hok a _ ea)
  obtain⟨o,es,ep,h1,h2,_⟩:=p;exact Ha Og I.kIn ⟨o,h1,h2.1⟩ e (λz=>nomatch z) h
 | @dT a QZ ea=>
  cases (show u=FW a from rx)
  obtain⟨_,_,xs,_,o,es,ep,h1,h2,_⟩:=(show bS X.prog X.w H s.heap a (.dT QZ) from I.hok a _ ea)
  exact Ha Og I.kIn ⟨o,h1,h2.1⟩ e (λz=>nomatch z) h
 | @ins a C dx fs ea cl ha hn Su hm=>
  cases (show u=FW a from rx)
  obtain⟨mA,O,_⟩:=AF I.hok ea;obtain⟨od,J,_⟩:=O.look;exact Ha (PySem.W.kitx_own (cl.get _) cl.hd ha hn Su hm) I.kIn J e (λz=>nomatch z) h
end
structure eE(k:Nat)(A:Gs):Prop where
 hd:A.handled=none
 dp:A.depth+3*k+5<Py
 un:A.units+16*k+200<Ip
theorem eE.mono{j k:Nat}{A:Gs}(r:eE k A)(h:j<=k):eE j A:=⟨r.hd,by have:=r.dp;lia,by have:=r.un;lia⟩
theorem eE.deeper{k:Nat}{A:Gs}(r:eE (k+1) A)(env:Env):eE k (A.deeper env):=
 ⟨r.hd,by have:=r.dp;show A.depth+1+3*k+5<_;lia,by have:=r.un;show A.units+3+16*k+200<_;lia⟩
theorem eE.depth{k:Nat}{A:Gs}(r:eE k A):A.depth<Py:=by have:=r.dp;lia
def EY:TA:=λ_ H Q=>Q [] H
def DL(ta:TE)(tr:TA):TA:=λσ H Q=>ta σ H λx H1=>tr σ H1 λxs H2=>Q (x::xs) H2
variable {es:List Expr}
section
variable {X:Cx}{te:TE}{t:TA}
theorem gB:PA X [] EY:=λ_ _ _ _ H Q I h=>KN ⟨[],H,I,.nil,h⟩
theorem dM(ha:PE X e te)(hr:PA X es t)(hs:FH (e::es) X.env=(false,JQ e X.env)::FH es X.env:=by rfl):PA X (e::es) (DL te t):=by
 intro pos pins s σ H Q I h;rw[hs];show FX _ _ (Qk ((false,JQ e X.env)::J5 pos (FH es X.env))) _ _ s;refine Kv (thn (ha pins s σ H _ I h) λu s1 ⟨x,H1,I1,r1,q1⟩=>?_)
 exact thn (hr pos pins s1 σ H1 _ I1 q1) λus s2 ⟨xs,H2,I2,r2,q2⟩=>⟨x::xs,H2,I2,.cons r1 r2,q2⟩
def EZ(t:TA):TE:=λσ H Q=>t σ H λxs H1=>xs.length<=sizeLine/\∀p,H1 p=none->Q (.ref p) (upd H1 p (.tup xs))
def E8(t:TA):TE:=λσ H Q=>t σ H λxs H1=>xs.length<=sizeLine/\∀p,H1 p=none->Q (.ref p) (upd H1 p (.lst xs))
theorem Cm{x1}(h:PA X es t):PE X (.Tuple es x1 pos) (EZ t):=by
 intro pins s σ H Q I hq;refine wpAny_Tuple_spliced (thn (h pos pins s σ H _ I hq) λus s1 ⟨xs,H1,I1,r,z,q⟩=>⟨by rw[<-r.length];exact z,?_⟩)
 have hf:H1 s1.heap.objs.size=none:=I1.hok.fresh (Fu _);refine⟨.ref s1.heap.objs.size,upd H1 s1.heap.objs.size (.tup xs),I1.laid (t':=s1.toks) (λb u e=>Fo _ e) (Fu _) ?_,rfl,q _ hf⟩
 exact⟨z,us,r,⟨_,FE _ rfl,rfl,_,rfl⟩⟩
theorem DC(h:PA X es t):PE X (.List es pos) (E8 t):=by
 intro pins s σ H Q I hq;refine wpAny_List_spliced (thn (h pos pins s σ H _ I hq) λus s1 ⟨xs,H1,I1,r,z,q⟩=>⟨by rw[<-r.length];exact z,?_⟩)
 have hf:H1 s1.heap.objs.size=none:=I1.hok.fresh (Fu _);refine⟨.ref s1.heap.objs.size,upd H1 s1.heap.objs.size (.lst xs),I1.laid (t':=s1.toks) (λb u e=>Fo _ e) (Fu _) ?_,rfl,q _ hf⟩
 exact⟨z,us,0,r,FE _ rfl⟩
end
abbrev Sp:=List V->Hp->VK->XK->Prop
abbrev CXT:=List Env->Hp->Fp->XK->Fq->Fp->Prop
structure zS(P:FK)(w:Gj)(K:Fm)(mg:Str->Option Fq)(base:HF)(A:Gs)(outer:List Env)(s:Fp)(H:Hp):Prop where
 frames:A.frames=some outer
 mod:Mod K mg base
 bs:∀b o,base.get? b=some o->s.heap.get? b=some o/\H b=none
 bsz:base.objs.size<=s.heap.objs.size
 funs:s.heap.FunFrames base outer
 frf:∀b∈frs outer,H b=none
 hok:HOk P w H s.heap
 bare:Ml s.gens
def CE(outer:List Env)(P:FK)(w:Gj)(H:Hp)(s:Fp)(Q:VK)(u:Fq)(s':Fp):Prop:=
 ∃v H',s'.os=s.os/\Ml s'.gens/\Un (frs outer) [] H H' s.heap s'.heap/\HOk P w H' s'.heap/\a9 v u/\Q v H'
def CR(CX:CXT)(outer:List Env)(P:FK)(w:Gj)(H:Hp)(s:Fp)(Q:VK)(E:XK)(r:Ow)(s':Fp):Prop:=
 match r with
 | .ok (.ret u)=>CE outer P w H s Q u s'
 | .ok _=>False
 | .error e=>CX outer H s E e s'
structure bg(P:FK)(w:Gj)(K:Fm)(mg:Str->Option Fq)(base:HF)(CX:CXT)(k:Nat)(f:FI)(fd:Ia)(ps:List Str)(sp:Sp):Prop where
 len:∀vs H Q E,sp vs H Q E->vs.length=ps.length
 run:∀(A:Gs) (outer:List Env) (s:Fp) (H:Hp) (args:Args) (us:List Fq) (vs:List V) (Q:VK) (E:XK),eE k A->zS P w K mg base A outer s H->Qn s fd args (ps.zip us)->aT vs us->sp vs H Q E->
  J6 (F7 P w) A (.call (.ref f) args) (CR CX outer P w H s Q E) s
theorem bg.mono{P:FK}{w:Gj}{K:Fm}{mg:Str->Option Fq}{base:HF}{CX:CXT}{j k:Nat}{f:FI}{fd:Ia}{ps:List Str}{sp:Sp}(F:bg P w K mg base CX j f fd ps sp)(h:j<=k):
  bg P w K mg base CX k f fd ps sp:=⟨F.len,λA outer s H args us vs Q E hr=>F.run A outer s H args us vs Q E (hr.mono h)⟩
section
variable {X:Cx}{s':Fp}
theorem Inv.env0(I:Inv X pins σ H s):zS X.prog X.w X.K X.mg X.base X.A X.stack s H:=
 ⟨I.ok.frames,I.ok.mod,I.bs,Hh I.ok.bsz I.sz,I.stack,I.stkFree,I.hok,I.bare⟩
theorem Inv.after{Q:VK}{u:Fq}(I:Inv X pins σ H s)(h:CE X.stack X.prog X.w H s Q u s'):EP X pins σ Q u s':=by
 obtain⟨v,H',os,bare,un,hok,r,q⟩:=h;obtain⟨hh,g,d,t,os'⟩:=s';obtain rfl:os'=s.os:=os;exact⟨v,H',I.call (h':=hh) (g':=g) (d':=d) (t':=t) (ch:=[]) un hok bare (λb z=>absurd z (by simp)),r,q⟩
end
def D8(sp:Sp)(Uo:List V)(E:XK)(t:TA):TE:=λσ H Q=>t σ H λvs H1=>sp (vs++Uo) H1 Q E
def dY(K:Fm)(fd:Ia)(ps:List Str)(ds:List Fq):Prop:=
 ∀(s:Fp) (us:List Fq),K.In s.heap->(us++ds).length=ps.length->Qn s fd ⟨us,[]⟩ (ps.zip (us++ds))
theorem dY.all{K:Fm}{fd:Ia}{ps:List Str}(h:∀us:List Fq,us.length=ps.length->LO fd ⟨us,[]⟩=pure (ps.zip us)):dY K fd ps []:=λs us _ hl=>by
 rw[Ib]at hl |-;exact .of_eq (h us hl)
def iZ(CX:CXT)(X:Cx)(E:XK):Prop:=∀(pins:List (FI×Obj)) (σ:St) (H:Hp) (s:Fp) (e:Fq) (s':Fp),Inv X pins σ H s->CX X.stack H s E e s'->X.xe e s'
section
variable {X:Cx}{CX:CXT}{k:Nat}{f C:FI}{fd:Ia}{ps:List Str}{sp:Sp}{Uo:List V}{ds:List Fq}{E:XK}{x m:Str}{p Rv:Pos}{o:Expr}{t:TA}
theorem Cf{pins:List (FI×Obj)}{σ:St}{H:Hp}{s:Fp}{Q:VK}{us:List Fq}{vs:List V}(F:bg X.prog X.w X.K X.mg X.base CX k f fd ps sp)(hr:eE k X.A)(hb:dY X.K fd ps ds)(hd:aT Uo ds)(hx:iZ CX X E)
  (I:Inv X pins σ H s) (r:aT vs us) (h:sp (vs++Uo) H Q E):FX (F7 X.prog X.w) X.A (call (.ref f) us) (EP X pins σ Q) X.xe s:=by
 have r2:aT (vs++Uo) (us++ds):=r.append hd;have hl:(us++ds).length=ps.length:=by rw[<-r2.length];exact F.len _ _ _ _ h
 refine wpAny_call (Ld (F.run X.A X.stack s H ⟨us,[]⟩ (us++ds) (vs++Uo) Q E hr I.env0 (hb s us I.kIn hl) r2 h) λr s' hq=>?_)
 cases r with
 |error e=>exact hx pins σ H s e s' I hq
 |ok fl=>
  cases fl with
  |ret u=>exact I.after hq
  |next=>exact False.elim hq
  |brk=>exact False.elim hq
  |cont=>exact False.elim hq
theorem nj(F:bg X.prog X.w X.K X.mg X.base CX k f fd ps sp)(hr:eE k X.A)(hg:Gl X x)(hm:X.mg x=some (.ref f))(hk:Jj X.K (.ref f)=true)(hb:dY X.K fd ps ds)(hd:aT Uo ds)(hx:iZ CX X E)
  (ha:PA X (e::es) t) (Sk:(x==("__debug__":Str))=false:=by decide) (he:FH (e::es) X.env=(false,JQ e X.env)::FH es X.env:=by rfl) (RH:(J5 pos (FH es X.env)).any (·.1)=false:=by rfl):
  PE X (.Call (.Name x p) (e::es) [] pos) (D8 sp Uo E t):=by
 intro pins s σ H Q I h;refine Hk (tK I hg hm ?_ Sk);refine PySem.W.callWith_K (h₀:=X.base) I.ok.mod.kin hk (thn (ha pos pins s σ H _ I h) λus s1 ⟨vs,H1,I1,r,q⟩=>⟨I1.kIn,?_⟩) he RH
 exact Cf F hr hb hd hx I1 r q
end
structure aw(N P:List Str)(sc:LH):Prop where
 kind:sc.kind=.function
 co:sc.isCoroutine=false
 gen:sc.isGenerator=false
 nd:N.Nodup
 pre:N.take P.length=P
 par:∀x∈P,sc.names.lookup x=some .local\/sc.names.lookup x=some .cell
 nofree:∀y∈sc.names,y.2≠.free
theorem l9{kindOf:Str->Option Lx}{x:Str}:∀{binds:List (Str×Fq)}{m:Str->Option Fq},(∀v,(x,v) ∉ binds)->QF kindOf binds m x=m x
 |[],_,_=>rfl
 | (n,v)::r,m,h=>by
  unfold QF;rw[l9 λw hw=>h w (Fn _ hw)]
  split
  ·have:x≠n:=by rintro rfl;exact h v Fv
   simp[this]
  ·rfl
theorem mH{kindOf:Str->Option Lx}{x:Str}:∀{binds:List (Str×Fq)}{m:Str->Option Fq},(∀v,(x,v) ∉ binds)->QG kindOf binds m x=m x
 |[],_,_=>rfl
 | (n,v)::r,m,h=>by
  unfold QG;rw[mH λw hw=>h w (Fn _ hw)]
  split
  ·rfl
  ·have:x≠n:=by rintro rfl;exact h v Fv
   simp[this]
theorem mO{kindOf:Str->Option Lx}{x:Str}{v:Fq}:∀{P:List Str}{vs:List Fq}{i:Nat}{m:Str->Option Fq},P.Nodup->P[i]?=some x->vs[i]?=some v->kindOf x=some .local->
  QF kindOf (P.zip vs) m x=some v
 |[],_,_,_,_,h,_,_=>by simp at h
 |_::_,[],_,_,_,_,h,_=>by simp at h
 |p::P,w::vs,0,m,nd,h1,h2,hk=>by
  simp at h1 h2;subst h1;subst h2;show QF kindOf ((p,w)::P.zip vs) m p=_;unfold QF;rw[l9 λv hv=>(HG.mp nd).1 (MZ hv).1,if_pos hk]
  simp
 |p::P,w::vs,i+1,m,nd,h1,h2,hk=>by
  show QF kindOf ((p,w)::P.zip vs) m x=_;unfold QF;exact mO (i:=i) (HG.mp nd).2 (by simpa using h1) (by simpa using h2) hk
theorem mr{kindOf:Str->Option Lx}{x:Str}{v:Fq}:∀{P:List Str}{vs:List Fq}{i:Nat}{m:Str->Option Fq},P.Nodup->P[i]?=some x->vs[i]?=some v->kindOf x≠some .local->
  QG kindOf (P.zip vs) m x=some v
 |[],_,_,_,_,h,_,_=>by simp at h
 |_::_,[],_,_,_,_,h,_=>by simp at h
 |p::P,w::vs,0,m,nd,h1,h2,hk=>by
  simp at h1 h2;subst h1;subst h2;show QG kindOf ((p,w)::P.zip vs) m p=_;unfold QG;rw[mH λv hv=>(HG.mp nd).1 (MZ hv).1,if_neg hk]
  simp
 |p::P,w::vs,i+1,m,nd,h1,h2,hk=>by
  show QG kindOf ((p,w)::P.zip vs) m x=_;unfold QG;exact mr (i:=i) (HG.mp nd).2 (by simpa using h1) (by simpa using h2) hk
def start(N:List Str)(vs:List V):St:=vs.map some++Pz (N.length-vs.length) none
noncomputable def nN(CX:CXT)(P:FK)(w:Gj)(K:Fm)(mg:Str->Option Fq)(base:HF)(N:List Str)(Q3:Str)(QV:LH)(f:FI)(cd:Fq)(A:Gs)(outer:List Env)(s:Fp)(H:Hp)(E:XK):Cx where
 prog:=P
 w:=w
 K:=K
 mg:=mg
 base:=base
 A:=A.deeper (M0 Q3 QV s.heap.objs.size f cd)
 N:=N
 s₀:=s
 H₀:=H
 env:=M0 Q3 QV s.heap.objs.size f cd
 outer:=outer
 stack:=M0 Q3 QV s.heap.objs.size f cd::outer
 ex:=[]
 calm:=true
 fn:=λ_=>true
 pn:=[]
 xe:=λe s'=>FX (F7 P w) (A.deeper (M0 Q3 QV s.heap.objs.size f cd)) (leaving (M0 Q3 QV s.heap.objs.size f cd) e) (λ_ s''=>CX outer H s E e s'') (λe' s''=>CX outer H s E e' s'') s'
theorem oO{sc:LH}{n:Nat}{x:Str}(h:sc.names.lookup x=some .cell):∃c,(OW n sc.names []).lookup x=some c:=by
 have q:=KD sc.names n [] (.inl h);exact Kn.mp q
theorem vc{CX:CXT}{P:FK}{w:Gj}{K:Fm}{mg:Str->Option Fq}{base:HF}{N ps:List Str}{Q3:Str}{QV:LH}{f:FI}{cd:Fq}{A:Gs}{outer:List Env}{s s1:Fp}{H:Hp}{E:XK}{us:List Fq}{vs:List V}
  (S:aw N ps QV) (hd:A.handled=none) (e0:zS P w K mg base A outer s H) (hl:vs.length=ps.length) (r:aT vs us)
  (x:InCallC s s.heap.objs.size (QF (M0 Q3 QV s.heap.objs.size f cd).kindOf (ps.zip us) λ_=>none) (OW (s.heap.objs.size+1) QV.names []) (QG (M0 Q3 QV s.heap.objs.size f cd).kindOf (ps.zip us) λ_=>none) s1):
  Inv (nN CX P w K mg base N Q3 QV f cd A outer s H E) [] (start N vs) H s1:=by
 have RH:ps.length<=N.length:=by have:=congrArg Mp S.pre;rw[IJ]at this;lia
 obtain⟨h1,tk,rfl,hk⟩:=x.done;have noA:∀b:FI,b ∉ (nN CX P w K mg base N Q3 QV f cd A outer s H E).ex:=λb z=>absurd (show b∈([]:List FI) from z) (by simp)
 refine⟨⟨e0.mod,S.kind,rfl,rfl,Fu _,λy z c h1 h2=>?_,λy hy=>?_,λy c _ h=>?_,λ_=>hd,Around.frames_deeper e0.frames,.inr ⟨rfl,rfl⟩,λb z=>absurd z (noA b),e0.bs,e0.bsz,λb _ _=>noA b,λb z=>absurd z (noA b),e0.funs,e0.frf⟩,
  rfl,e0.bare,Un.kept hk,⟨_,x.toInCall.ns,λi y v h1 h2 h3=>?_⟩,λy c h=>⟨_,x.cell y c h⟩,e0.hok.fresh (Fu _),λy c h=>?_,λp hp=>absurd (show p∈([]:List (FI×Obj)) from hp) (by simp),e0.hok.kept hk,?_⟩
 ·exact name_of_addr x.apart (HK h1) (HK h2)
 ·have hy:QV.names.lookup y=some .cell\/QV.names.lookup y=some .free:=hy;rcases hy with hy |hy
  ·exact oO hy
  ·exact absurd rfl (S.nofree _ (HK hy))
 ·exact GW (x.above y c (HK h))
 ·have hi:i<vs.length:=by
   unfold start at h2;by_cases hi:i<vs.length
   ·exact hi
   ·rw[FS (by simpa using hi)]at h2
    rw[IR]at h2;split at h2 <;>cases h2
  have ha:vs[i]?=some v:=by
   unfold start at h2;rw[FR (by simpa using hi),Ft]at h2
   cases e:vs[i]? with
   |none=>rw[e]at h2;cases h2
   |some a=>rw[e]at h2;cases h2;rfl
  obtain⟨u,hu,rv⟩:=r.get ha
  have hp:ps[i]?=some y:=by
   rw[<-S.pre,HN (by lia)];exact h1
  have ndP:ps.Nodup:=by rw[<-S.pre];exact S.nd.sublist (L_ _ _)
  refine⟨u,rv,?_⟩;rcases S.par y (FD hp) with k |k
  ·exact .inl ⟨k,mO ndP hp hu k⟩
  ·obtain⟨c,e⟩:=oO (n:=s.heap.objs.size+1) k;refine .inr ⟨.inl k,c,e,?_⟩;have q:=x.cell y c e;rw[mr ndP hp hu (by show QV.names.lookup y≠_;rw[k];decide)]at q
   exact q
 ·exact e0.hok.fresh (GW (x.above y c (HK h)))
 ·unfold start;show _=N.length;rw[FT,Fk,Jg];lia
theorem BB{CX:CXT}{P:FK}{w:Gj}{K:Fm}{mg:Str->Option Fq}{base:HF}{k:Nat}{f:FI}{name Q3:Str}{SI:Arguments}{Rk:List I_}{QV:LH}{dV kV RN pm Q6 ct oc:Fq}{an od:Option FI}
  {SU:Array (Option Fq)}{N ps:List Str}{sp:Sp} (lk:K.lookup f=some ⟨oc,od,.func (IS name Q3 SI Rk QV dV kV RN pm an Q6 ct),SU⟩) (RR:K7 K Q6 Q3=true) (S:aw N ps QV)
  (len:∀vs H Q E,sp vs H Q E->vs.length=ps.length)
  (Ry:∀(A:Gs) (outer:List Env) (s:Fp) (H:Hp) (vs:List V) (Q:VK) (E:XK),eE k (A.deeper (M0 Q3 QV s.heap.objs.size f Q6))->sp vs H Q E->
   ∃t,PSs (nN CX P w K mg base N Q3 QV f Q6 A outer s H E) Rk t/\t {nx:=λ_ H'=>Q .non H',rt:=Q } (start N vs) H):
  bg P w K mg base CX (k+1) f (IS name Q3 SI Rk QV dV kV RN pm an Q6 ct) ps sp:=by
 refine⟨len,λA outer s H args us vs Q E hr e0 hb r Sq=>?_⟩
 have hl:=len _ _ _ _ Sq;have KX:K.In s.heap:=e0.mod.kin.keeps λb o e=>(e0.bs b o e).1
 have lim:s.heap.NoLimit:=e0.mod.nolimit.keeps λb o e=>(e0.bs b o e).1
 have hkind:∀y∈ps.zip us,QV.names.lookup y.1=some .local\/(QV.names.lookup y.1=some .cell/\((OW (s.heap.objs.size+1) QV.names []).lookup y.1).isSome=true):=λ⟨n,v⟩ hy=>by
  rcases S.par n (MZ hy).1 with q |q
  ·exact .inl q
  ·exact .inr ⟨q,KD _ _ _ (.inl q)⟩
 refine codeAny_call_function hr.depth (KX _ _ lk) rfl S.co S.gen rfl (PySem.W.codeRec_of KX RR) (hb _ _ _ _ ?_);refine wpAny_newFunctionEnv_cells S.kind hkind λenv he s1 x=>?_
 subst he;refine⟨lim.keeps x.toInCall.keep,codeAny_func ?_⟩;obtain⟨t,ht,hq⟩:=Ry A outer s H vs Q E (hr.deeper _) Sq;have I:Inv (nN CX P w K mg base N Q3 QV f Q6 A outer s H E) [] (start N vs) H s1:=vc S hr.hd e0 hl r x;refine JA (ht [] s1 (start N vs) H _ I hq) (λfl s' hs=>?_) λe s' hs=>hs
 have fin:∀{Q7:St}{H':Hp}{v:V}{u:Fq},Inv (nN CX P w K mg base N Q3 QV f Q6 A outer s H E) [] Q7 H' s'->a9 v u->Q v H'->CE outer P w H s Q u s':=
  λ{Q7 H' v u} J rv q=>⟨v,H',J.os,J.bare,J.base,J.hok,rv,q⟩
 cases fl with
 |ret u=>
  obtain⟨v,Q7,H',J,rv,q⟩:=hs;exact fin J rv q
 |next=>
  obtain⟨Q7,H',J,q⟩:=hs;exact fin (v:=V.non) (u:=F4) J rfl q
 |brk=>
  obtain⟨_,_,_,q⟩:=hs;exact False.elim q
 |cont=>
  obtain⟨_,_,_,q⟩:=hs;exact False.elim q
section
variable {X:Cx}{x:Str}{p:Pos}{t:TA}{id T:String}{r:List V→Hp→VK→Prop}
def tCB(r:List V->Hp->VK->Prop)(t:TA):TE:=λσ H Q=>t σ H λvs H1=>r vs H1 Q
theorem pQ(hc:d_ X (.builtin id) r)(hg:Gl X x)(hm:X.mg x=none)(hv:HL x=some (.builtin id))(ha:PA X (e::es) t)(hn:x≠"__name__":=by decide)(Sk:(x==("__debug__":Str))=false:=by decide)
  (he:FH (e::es) X.env=(false,JQ e X.env)::FH es X.env:=by rfl) (RH:(J5 pos (FH es X.env)).any (·.1)=false:=by rfl):PE X (.Call (.Name x p) (e::es) [] pos) (tCB r t):=by
 intro pins s σ H Q I h;refine Hk (df I hg hm hv ?_ hn Sk);exact PyProof.Rows.callWith_builtin1 (thn (ha pos pins s σ H _ I h) λus s1 ⟨vs,H1,I1,r1,q1⟩=>hc pins s1 σ H1 vs us Q I1 r1 q1) he RH
theorem lY(hc:d_ X (.type T) r)(hg:Gl X x)(hm:X.mg x=none)(hv:HL x=some (.type T))(ha:PA X (e::es) t)(hn:x≠"__name__":=by decide)(Sk:(x==("__debug__":Str))=false:=by decide)
  (he:FH (e::es) X.env=(false,JQ e X.env)::FH es X.env:=by rfl) (RH:(J5 pos (FH es X.env)).any (·.1)=false:=by rfl):PE X (.Call (.Name x p) (e::es) [] pos) (tCB r t):=by
 intro pins s σ H Q I h;refine Hk (df I hg hm hv ?_ hn Sk);exact PyProof.Rows.callWith_type1 (thn (ha pos pins s σ H _ I h) λus s1 ⟨vs,H1,I1,r1,q1⟩=>hc pins s1 σ H1 vs us Q I1 r1 q1) he RH
end
end L2
namespace HT
open PySem PyProof.Rows
section
variable {prog:FK}{w:Gj}{A:Gs}{E:Fq→Fp→Prop}{s:Fp}
def sIx(n d:Nat):Option Int->Nat
 |none=>d
 |some v=>if v<0 then (v+(n:Int)).toNat else min v.toNat n
end
end HT
namespace L2
open PySem PySem.Spec PyProof.Rows
abbrev TO:=St->Hp->(Option Int->Hp->Prop)->Prop
def PO(X:Cx)(e:Option Expr)(t:TO):Prop:=
 ∀(pins:List (FI×Obj)) (s:Fp) (σ:St) (H:Hp) (Q:Option Int->Hp->Prop),Inv X pins σ H s->t σ H Q->
  FX (F7 X.prog X.w) X.A (evalPart e X.env) (λu s'=>∃o H',Inv X pins σ H' s'/\IsPart u o/\Q o H') X.xe s
def AV:TO:=λ_ H Q=>Q none H
def DZ(t:TE):TO:=λσ H Q=>t σ H λx H1=>∃i,x=.int i/\Q (some i) H1
section
variable {X:Cx}{e:Expr}{te:TE}{lo hi:Option Expr}{tl th:TO}{pos p2:Pos}
theorem Bp:PO X none AV:=by
 intro pins s σ H Q I h;rw[NV];exact Fl ⟨none,H,I,.none,h⟩
theorem Az(h:PE X e te):PO X (some e) (DZ te):=by
 intro pins s σ H Q I hw;rw[evalPart_some];refine thn (h pins s σ H _ I hw) λu s1 ⟨x,H1,I1,r1,q1⟩=>?_
 obtain⟨i,rfl,q⟩:=q1;obtain⟨t,rfl⟩:=r1;exact⟨some i,H1,I1,.int i t,q⟩
def SlR(X:Cx)(r:V->Option Int->Option Int->Hp->VK->Prop):Prop:=
 ∀(pins:List (FI×Obj)) (s:Fp) (σ:St) (H:Hp) (x:V) (v vl vu:Fq) (lo hi:Option Int) (sl:FI) (Q:VK),Inv X pins σ H s->a9 x v->s.heap.IsSliceOf sl vl vu .none->IsPart vl lo->IsPart vu hi->r x lo hi H Q->
  ∃T id,Oh (.type T) "__getitem__"=pure (some (.builtin id))∧s.TypeIs v T∧FX (F7 X.prog X.w) X.A (getItem v (.ref sl)) (EP X pins σ Q) X.xe s
noncomputable def tSl(r:V->Option Int->Option Int->Hp->VK->Prop)(te:TE)(tl th:TO):TE:=λσ H Q=>te σ H λx H1=>tl σ H1 λl H2=>th σ H2 λu H3=>r x l u H3 Q
theorem xG{r:V->Option Int->Option Int->Hp->VK->Prop}(hr:SlR X r)(he:PE X e te)(hl:PO X lo tl)(hu:PO X hi th):PE X (.Subscript e (.Slice lo hi none p2) pos) (tSl r te tl th):=by
 intro pins s σ H Q I h;refine Qe (thn (he pins s σ H _ I h) λv s1 ⟨x,H1,I1,r1,q1⟩=>?_)
 refine wpAny_Slice (thn (hl pins s1 σ H1 _ I1 q1) λvl s2 ⟨l,H2,I2,pl,q2⟩=>thn (hu pins s2 σ H2 _ I2 q2) λvu s3 ⟨u,H3,I3,pu,q3⟩=>?_)
 rw[NV];refine Fl ?_;have I4:Inv X pins σ H3 {s3 with heap:=s3.heap.push {cls:=.type "slice",data:=.fields #[vl,vu,.none] } }:=I3.kept (t':=s3.toks) λb ob q=>Fo _ q
 obtain⟨T,id,hT,ht,hg⟩:=hr pins {s3 with heap:=s3.heap.push {cls:=.type "slice",data:=.fields #[vl,vu,.none] } } σ H3 x v vl vu l u s3.heap.objs.size Q I4 r1 (NW ..) pl pu q3
 show FX (F7 X.prog X.w) X.A (NX e (.Slice lo hi none p2) v (.ref s3.heap.objs.size)) (EP X pins σ Q) X.xe {s3 with heap:=s3.heap.push {cls:=.type "slice",data:=.fields #[vl,vu,.none] } }
 exact tail_any (ops:=[.ref s3.heap.objs.size,v]) ht hT hg (by with_unfolding_all rfl)
noncomputable def uF(xs:List V)(lo hi:Option Int):List V:=(xs.drop (HT.sIx xs.length 0 lo)).take (HT.sIx xs.length xs.length hi-HT.sIx xs.length 0 lo)
theorem p8(xs:List V)(lo hi:Option Int):(uF xs lo hi).length<=xs.length:=by
 unfold uF;rw[IJ,Jc];lia
end
def ixN(n:Nat)(i:Int):Option Nat:=if 0<=i then (if i<n then some i.toNat else none) else if -(n:Int)<=i then some (i+n).toNat else none
def atI{α:Type}(xs:List α)(i:Int):Option α:=(ixN xs.length i).bind λj=>xs[j]?
theorem Bh{n:Nat}{i:Int}{j:Nat}(h:ixN n i=some j):seqIndex? i n=some j/\j<n/\-(n:Int)<=i/\i<n:=by
 unfold ixN at h;by_cases h0:0<=i
 ·rw[if_pos h0]at h;by_cases h1:i<n
  ·rw[if_pos h1]at h;have e:i.toNat=j:=Gv h;exact⟨by rw[seqIndex_of h0 h1,e],by lia,by lia,h1⟩
  ·rw[if_neg h1]at h;cases h
 ·rw[if_neg h0]at h;by_cases h1:-(n:Int)<=i
  ·rw[if_pos h1]at h;have e:(i+n).toNat=j:=Gv h;exact⟨by rw[seqIndex_neg (by lia) h1,e],by lia,h1,by lia⟩
  ·rw[if_neg h1]at h;cases h
theorem t9{α:Type}{xs:List α}{i:Int}{v:α}(h:atI xs i=some v):∃j,seqIndex? i xs.length=some j/\xs[j]?=some v/\j<xs.length/\-(xs.length:Int)<=i/\i<xs.length:=by
 unfold atI at h;cases e:ixN xs.length i with
 |none=>rw[e]at h;cases h
 |some j=>
  rw[e]at h;obtain⟨h1,h2,h3,h4⟩:=Bh e;exact⟨j,h1,h,h2,h3,h4⟩
theorem sn{α:Type}{xs:List α}{j:Nat}{v:α}(h:xs[j]?=some v):atI xs (j:Int)=some v:=by
 have hj:j<xs.length:=(FA.mp h).1
 have e:ixN xs.length (j:Int)=some j:=by
  unfold ixN;rw[if_pos (by lia),if_pos (by lia)];simp
 unfold atI;rw[e];exact h
def oh(b:Expr):Prop:=∀o i,subscripted b false o i=operate [o,i] (getItem o i)
def IxR(X:Cx)(r:R2):Prop:=
 ∀(Rz slice:Expr) (pins:List (FI×Obj)) (s:Fp) (σ:St) (H:Hp) (x y:V) (v u:Fq) (Q:VK),Inv X pins σ H s->a9 x v->a9 y u->r x y H Q->
  subscripted slice false v u=operate [v,u] (getItem v u)->FX (F7 X.prog X.w) X.A (NX Rz slice v u) (EP X pins σ Q) X.xe s
def MtR(X:Cx)(id:String)(r:V->List V->Hp->VK->Prop):Prop:=
 ∀(pins:List (FI×Obj)) (s:Fp) (σ:St) (H:Hp) (x:V) (xs:List V) (v:Fq) (us:List Fq) (Q:VK),Inv X pins σ H s->a9 x v->aT xs us->r x xs H Q->
  FX (F7 X.prog X.w) X.A (call (.builtin id) (v::us)) (EP X pins σ Q) X.xe s
section
variable {X:Cx}{a b:Expr}{ta tb:TE}{pos:Pos}
theorem IxR.or{r r':R2}(h:IxR X r)(h':IxR X r'):IxR X (λx y H Q=>r x y H Q\/r' x y H Q):=by
 intro Rz slice pins s σ H x y v u Q I rx ry q hs;rcases q with q |q
 ·exact h Rz slice pins s σ H x y v u Q I rx ry q hs
 ·exact h' Rz slice pins s σ H x y v u Q I rx ry q hs
theorem BU{r:R2}(hr:IxR X r)(ha:PE X a ta)(hb:PE X b tb)(hs:oh b):PE X (.Subscript a b pos) (tOp r ta tb):=by
 intro pins s σ H Q I h;exact Qe (Cw ha hb I h λv u s2 x y H2 I2 rx ry q=>hr a b pins s2 σ H2 x y v u Q I2 rx ry q (hs _ _))
def ER(K:Fm):R2:=λx y H Q=>∃p xs i v,x=.ref p/\y=.int i/\SqL K H p xs/\atI xs i=some v/\Q v H
def E4(K:Fm):R2:=λx y H Q=>∃p xs i v,x=.ref p/\y=.int i/\SqT K H p xs/\atI xs i=some v/\Q v H
theorem t4:IxR X (ER X.K):=by
 intro Rz slice pins s σ H x y v u Q I rx ry h hs;obtain⟨p,xs,i,z,rfl,rfl,hq,he,q⟩:=h;cases rx;obtain⟨t,rfl⟩:=ry;obtain⟨QW,r,pl,hz⟩:=I.list hq;obtain⟨j,h1,h2,h3,h4,h5⟩:=t9 he;obtain⟨w,ew,SS⟩:=r.get h2;have hl:=r.length;have hn:=rM;have fin:EP X pins σ Q w s:=⟨z,H,I,SS,q⟩;by_cases h0:0<=i
 ·have hj:i.toNat=j:=by
   rw[seqIndex_of h0 h5]at h1;exact Gv h1
  exact item_listR pl.isList h0 (by lia) (by rw[hj];simpa using ew) fin hs
 ·have hj:(i+(QW.toArray.size:Int)).toNat=j:=by
   rw[seqIndex_neg (by lia) h4]at h1
   rw[FL,<-hl];exact Gv h1
  exact ML (x:=w) pl.isList.typeIs slot_list_getitem.lookup
   (wpAny_getItem_list_neg (Q:=λr s'=>r=w/\EP X pins σ Q r s') pl.isList (by lia) (by rw[FL] <;>lia) (by lia) (by rw[hj];simpa using ew) ⟨rfl,fin⟩) hs
theorem CZ:IxR X (E4 X.K):=by
 intro Rz slice pins s σ H x y v u Q I rx ry h hs;obtain⟨p,xs,i,z,rfl,rfl,hq,he,q⟩:=h;cases rx;obtain⟨t,rfl⟩:=ry;obtain⟨QW,r,pl,hz⟩:=I.tuple hq;obtain⟨j,h1,h2,h3,h4,h5⟩:=t9 he;obtain⟨w,ew,SS⟩:=r.get h2;have hl:=r.length;have hn:=rM;have fin:EP X pins σ Q w s:=⟨z,H,I,SS,q⟩
 exact ML (x:=w) pl.typeIs slot_tuple_getitem.lookup
  (getItem_tuple (j:=j) (Q:=λr s'=>r=w/\EP X pins σ Q r s') pl (by lia) (by lia) (by rw[FL,<-hl];exact h1) (by simpa using ew) ⟨rfl,fin⟩) hs
theorem nX(lo hi:Option Int)(n:Nat):(KO lo hi none n).1=((HT.sIx n 0 lo:Nat):Int)/\(KO lo hi none n).2.1=((HT.sIx n n hi:Nat):Int)/\(KO lo hi none n).2.2=1:=by
 refine⟨?_,?_,rfl⟩
 ·cases lo with
  |none=>simp[KO,HT.sIx]
  |some i=>
   simp only[KO,HT.sIx,MG,show (1:Int) >0 by decide,if_true]
   by_cases h:i<0
   ·simp only[h,if_true] <;>lia
   ·simp only[h,if_false] <;>lia
 ·cases hi with
  |none=>simp[KO,HT.sIx]
  |some i=>
   simp only[KO,HT.sIx,MG,show (1:Int) >0 by decide,if_true]
   by_cases h:i<0
   ·simp only[h,if_true] <;>lia
   ·simp only[h,if_false] <;>lia
theorem lQ(QW:List Fq)(lo hi:Option Int):slicePick QW.toArray lo hi none=((QW.drop (HT.sIx QW.length 0 lo)).take (HT.sIx QW.length QW.length hi-HT.sIx QW.length 0 lo)).toArray:=by
 obtain⟨h1,h2,h3⟩:=nX lo hi QW.toArray.size;unfold slicePick;rw[h1,h2,h3];simp only[sliceRange_one,pick_run,FL] <;>rfl
def Fg(K:Fm):V->Option Int->Option Int->Hp->VK->Prop:=λx lo hi H Q=>∃a xs,x=.ref a/\SqL K H a xs/\∀p,H p=none->Q (.ref p) (upd H p (.lst (uF xs lo hi)))
theorem Ah:SlR X (Fg X.K):=by
 intro pins s σ H x v vl vu lo hi sl Q I rx hs pl pu h;obtain⟨a,xs,rfl,hx,q⟩:=h;cases rx;obtain⟨QW,r,ht,hz⟩:=I.list hx;have Q5:=r.length;refine⟨"list",_,slot_list_getitem.lookup,ht.isList.typeIs,?_⟩;refine Ma ht.isList hs pl pu .none (by simp) ?_ (by rw[FL] <;>lia)
 rw[lQ,<-Q5];refine⟨.ref s.heap.objs.size,_,I.laid (t':=s.toks) (o:=.lst (uF xs lo hi)) (λb ob q=>Fo _ q) (Fu _) ?_,rfl,q _ (I.hok.fresh (Fu _))⟩
 exact⟨Hh (p8 xs lo hi) hz,_,0,(r.drop (HT.sIx xs.length 0 lo)).take (HT.sIx xs.length xs.length hi-HT.sIx xs.length 0 lo),FE _ rfl⟩
def gZ:V->Bool
 | .non=>true
 | .bl _=>true
 | .int _=>true
 | .str _=>true
 |_=>false
noncomputable def eqV:V->V->Bool
 | .non,.non=>true
 | .bl a,.bl b=>a==b
 | .bl a,.int b=>(if a then 1 else 0)==b
 | .int a,.bl b=>a==(if b then 1 else 0)
 | .int a,.int b=>a==b
 | .str a,.str b=>a==b
 |_,_=>false
theorem Db{A:Gs}{s:Fp}{y x:V}{u v:Fq}(ry:a9 y u)(rx:a9 x v)(fy:gZ y=true)(fx:gZ x=true):SeqAt.EqAt A s u v (eqV y x):=by
 cases y with
 |non=>
  cases ry;cases x with
  |non=>cases rx;exact SeqAt.EqAt.same _
  |bl b=>cases rx;exact SeqAt.EqAt.none_bool b
  |int b=>obtain⟨t,rfl⟩:=rx;exact SeqAt.EqAt.none_int b t
  |str b=>obtain⟨t,rfl⟩:=rx;exact SeqAt.EqAt.none_str b t
  |_=>exact absurd (show false=true from fx) F1
 |bl a=>
  cases ry;cases x with
  |non=>cases rx;exact SeqAt.EqAt.bool_none a
  |bl b=>cases rx;exact SeqAt.EqAt.bool_bool a b
  |int b=>obtain⟨t,rfl⟩:=rx;exact SeqAt.EqAt.bool_int a b t
  |str b=>obtain⟨t,rfl⟩:=rx;exact SeqAt.EqAt.bool_str a b t
  |_=>exact absurd (show false=true from fx) F1
 |int a=>
  obtain⟨t',rfl⟩:=ry;cases x with
  |non=>cases rx;exact SeqAt.EqAt.int_none a t'
  |bl b=>cases rx;exact SeqAt.EqAt.int_bool a t' b
  |int b=>obtain⟨t,rfl⟩:=rx;exact SeqAt.EqAt.int_int a t' b t
  |str b=>obtain⟨t,rfl⟩:=rx;exact SeqAt.EqAt.int_str a t' b t
  |_=>exact absurd (show false=true from fx) F1
 |str a=>
  obtain⟨t',rfl⟩:=ry;cases x with
  |non=>cases rx;exact SeqAt.EqAt.str_none a t'
  |bl b=>cases rx;exact SeqAt.EqAt.str_bool a t' b
  |int b=>obtain⟨t,rfl⟩:=rx;exact SeqAt.EqAt.str_int a t' b t
  |str b=>obtain⟨t,rfl⟩:=rx;exact SeqAt.EqAt.str_str a t' b t
  |_=>exact absurd (show false=true from fx) F1
 |_=>exact absurd (show false=true from fy) F1
noncomputable def eqU(x:V)(u:Fq):Bool:=match u with
 | .none=>eqV .non x
 | .bool b=>eqV (.bl b) x
 | .int i _=>eqV (.int i) x
 | .str z _=>eqV (.str z) x
 |_=>false
theorem zm{x y:V}{u:Fq}(r:a9 y u)(f:gZ y=true):eqU x u=eqV y x:=by
 cases y with
 |non=>cases r;rfl
 |bl b=>cases r;rfl
 |int i=>obtain⟨t,rfl⟩:=r;rfl
 |str z=>obtain⟨t,rfl⟩:=r;rfl
 |_=>exact absurd (show false=true from f) F1
theorem m_{x:V}:∀{xs:List V}{us:List Fq},aT xs us->xs.all gZ=true->us.any (eqU x)=xs.any λy=>eqV y x
 |_,_,.nil,_=>rfl
 |y::xs,u::us,.cons r t,f=>by
  rw[Ly,Hu]at f;rw[NY,NY,zm r f.1,m_ t f.2]
theorem kU{A:Gs}{s:Fp}{x:V}{v:Fq}(rx:a9 x v)(fx:gZ x=true):∀{xs:List V}{us:List Fq},aT xs us->xs.all gZ=true->∀u∈us,SeqAt.EqAt A s u v (eqU x u)
 |_,_,.nil,_=>λu hu=>by cases hu
 |y::xs,u::us,.cons r t,f=>λu' hu=>by
  rw[Ly,Hu]at f;rcases Fw.mp hu with rfl |hu
  ·rw[zm r f.1];exact Db r rx f.1 fx
  ·exact kU rx fx t f.2 u' hu
noncomputable def inV(x:V)(xs:List V):Bool:=xs.any λy=>eqV y x
noncomputable def rIn(K:Fm)(neg:Bool):R2:=λx y H Q=>∃p xs,y=.ref p/\(SqL K H p xs\/SqT K H p xs)/\gZ x=true/\xs.all gZ=true/\Q (.bl (if neg then !inV x xs else inV x xs)) H
theorem vC:OpR X (Hj .In) (rIn X.K false):=by
 intro pins s σ H x y v u Q I rx ry h;obtain⟨p,xs,rfl,hq,fx,fs,q⟩:=h;cases ry;rcases hq with hq |hq
 ·obtain⟨QW,r,pl,hz⟩:=I.list hq;refine SeqAt.in_listAt (eqU x) pl.isList (λw hw=>kU rx fx r fs w (by simpa using hw)) ⟨.bl _,H,I,rfl,?_⟩
  rw[show QW.toArray.any (eqU x)=QW.any (eqU x) by simp,m_ r fs]
  exact q
 ·obtain⟨QW,r,pl,hz⟩:=I.tuple hq;refine SeqAt.in_tupleAt (eqU x) pl (λw hw=>kU rx fx r fs w (by simpa using hw)) ⟨.bl _,H,I,rfl,?_⟩
  rw[show QW.toArray.any (eqU x)=QW.any (eqU x) by simp,m_ r fs]
  exact q
theorem iy:d_ X (.builtin "len") (λxs H Q=>∃p ys,xs=[.ref p]∧(SqL X.K H p ys∨SqT X.K H p ys)∧Q (.int ys.length) H):=by
 intro pins s σ H xs us Q I r h;obtain⟨p,ys,rfl,hq,q⟩:=h;obtain⟨u,rfl,rx⟩:=fq r;cases rx;have hn:=rM;rcases hq with hq |hq
 ·obtain⟨QW,r',pl,hz⟩:=I.list hq;have Q5:=r'.length;exact Calls.call_len_list pl.isList (by simp only[FL] <;>lia) ⟨.int ys.length,H,I.tok _,⟨s.toks+1,by rw[FL,Q5]⟩,q⟩
 ·obtain⟨QW,r',pl,hz⟩:=I.tuple hq;have Q5:=r'.length;exact len_tuple pl (by simp only[FL] <;>lia) ⟨.int ys.length,H,I.tok _,⟨s.toks+1,by rw[FL,Q5]⟩,q⟩
theorem nV:d_ X (.type "list") (λxs H Q=>∃p ys,xs=[.ref p]∧(SqL X.K H p ys∨SqT X.K H p ys)∧∀l,H l=none→Q (.ref l) (upd H l (.lst ys))):=by
 intro pins s σ H xs us Q I r h;obtain⟨p,ys,rfl,hq,q⟩:=h;obtain⟨u,rfl,rx⟩:=fq r;cases rx
 have fin:∀(QW:List Fq),aT ys QW->ys.length<=sizeLine->∀(h':HF) (c':Nat),(∀b o',s.heap.get? b=some o'->h'.get? b=some o')->
   h'.get? s.heap.objs.size=some {cls:=.type "list",dict:=none,data:=.seq QW.toArray c',slots:=#[] }→EP X pins σ Q (.ref s.heap.objs.size) {s with heap:=h' }:=λQW r' hz h' c' kp e=>
  ⟨.ref s.heap.objs.size,_,I.laid (t':=s.toks) kp (Fu _) (show bS X.prog X.w _ h' _ (.lst ys) from ⟨hz,QW,c',r',e⟩),rfl,q _ (I.hok.fresh (Fu _))⟩
 rcases hq with hq |hq
 ·obtain⟨QW,r',pl,hz⟩:=I.list hq;have Q5:=r'.length;obtain⟨o,ho,hc,n,hd⟩:=pl.isList;exact call_list_seq p (.inl rfl) ho hc hd (λh' c' kp e=>fin QW r' hz h' c' kp e) (by simp only[FL] <;>lia)
 ·obtain⟨QW,r',pl,hz⟩:=I.tuple hq;have Q5:=r'.length;obtain⟨o,ho,hc,n,hd⟩:=pl;exact call_list_seq p (.inr rfl) ho hc hd (λh' c' kp e=>fin QW r' hz h' c' kp e) (by simp only[FL] <;>lia)
theorem lG:d_ X (.type "tuple") (λxs H Q=>∃p ys,xs=[.ref p]∧((SqL X.K H p ys∧∀l,H l=none→Q (.ref l) (upd H l (.tup ys)))∨(SqT X.K H p ys∧Q (.ref p) H))):=by
 intro pins s σ H xs us Q I r h;obtain⟨p,ys,rfl,h⟩:=h;obtain⟨u,rfl,rx⟩:=fq r;cases rx;rcases h with ⟨hq,q⟩ |⟨hq,q⟩
 ·obtain⟨QW,r',pl,hz⟩:=I.list hq;have Q5:=r'.length;refine call_tuple_list pl.isList (λh' kp=>?_) (by simp only[FL] <;>lia)
  have I1:Inv X pins σ H {s with heap:=h' }:=I.kept (t':=s.toks) kp
  have I2:Inv X pins σ (upd H h'.objs.size (.tup ys)) {s with heap:=h'.push {cls:=.type "tuple",data:=.seq QW.toArray } }:=
   I1.laid (t':=s.toks) (λb o e=>Fo _ e) (Fu _) (show bS X.prog X.w _ _ _ (.tup ys) from ⟨hz,QW,r',IsTup.new _ _⟩)
  exact⟨.ref h'.objs.size,_,I2,rfl,q _ (I1.hok.fresh (Fu _))⟩
 ·obtain⟨QW,r',pl,hz⟩:=I.tuple hq;exact call_tuple_same pl ⟨.ref p,H,I,rfl,q⟩
def tyV(K:Fm)(T:String)(x:V)(H:Hp):Prop:=match x with
 | .str _=>T="str"
 | .int _=>T="int"
 | .ref p=>(T="list"∧∃xs,SqL K H p xs)∨(T="tuple"∧∃o,K.lookup p=some o∧o.cls=.type "tuple"∧o.dict=none)∨
   (T="dict"∧((∃QZ,H p=some (.dK QZ))∨∃QZ,H p=some (.dT QZ)))∨(T="set"∧∃S n,H p=some (.set S n))
 |_=>False
theorem v9{pins:List (FI×Obj)}{σ:St}{H:Hp}{s:Fp}{T:String}{x:V}{v:Fq}(I:Inv X pins σ H s)(r:a9 x v)(ty:tyV X.K T x H):
  s.TypeIs v T/\∀a,v=.ref a->∃ob,s.heap.get? a=some ob/\ob.dict=none:=by
 cases x with
 |str z=>
  obtain⟨t,rfl⟩:=r;cases (show T="str" from ty)
  exact⟨typeIs_str s z t,λ_ e=>nomatch e⟩
 |int i=>
  obtain⟨t,rfl⟩:=r;cases (show T="int" from ty)
  exact⟨Nr s i t,λ_ e=>nomatch e⟩
 |ref p=>
  cases r;rcases ty with ⟨rfl,xs,hq⟩ |⟨rfl,o,hk,hc,hd⟩ |⟨rfl,hk⟩ |⟨rfl,S,n,hk⟩
  ·obtain⟨QW,_,pl,_⟩:=I.list hq;refine⟨pl.isList.typeIs,λa e=>?_⟩
   cases e;obtain⟨o,n,e,c,hd,_⟩:=pl;exact⟨o,e,hd⟩
  ·refine⟨⟨o,I.kIn p o hk,hc⟩,λa e=>?_⟩
   cases e;exact⟨o,I.kIn _ o hk,hd⟩
  ·have z:∃o,s.heap.get? p=some o/\o.ExactDict:=by
    rcases hk with ⟨QZ,hk⟩ |⟨QZ,hk⟩
    ·obtain⟨_,_,_,_,o,_,_,e,ex,_⟩:=I.hok p _ hk;exact⟨o,e,ex⟩
    ·obtain⟨_,_,_,_,o,_,_,e,ex,_⟩:=I.hok p _ hk;exact⟨o,e,ex⟩
   obtain⟨o,e,ex⟩:=z;refine⟨⟨o,e,ex.1⟩,λa e2=>?_⟩
   cases e2;exact⟨o,e,ex.2.1⟩
  ·obtain⟨o,_,_,_,e,ex,_⟩:=I.hok p _ hk;refine⟨⟨o,e,ex.1⟩,λa e2=>?_⟩
   cases e2;exact⟨o,e,ex.2.1⟩
 |_=>exact False.elim ty
noncomputable def E1(K:Fm)(T:String)(r:V->List V->Hp->VK->Prop)(to:TE):TE:=λσ H Q=>to σ H λx H1=>tyV K T x H1/\r x [] H1 Q
noncomputable def tBM(K:Fm)(T:String)(r:V->List V->Hp->VK->Prop)(to:TE)(t:TA):TE:=λσ H Q=>to σ H λx H1=>tyV K T x H1/\t σ H1 λxs H2=>r x xs H2 Q
variable {o e:Expr}{es:List Expr}{to:TE}{t:TA}{name:Str}{Rv Rj:Pos}{T id:String}{r:V→List V→Hp→VK→Prop}
theorem Dy(pa:PlainAttrs T)(slot:Slot T name id)(Te:typeOf (.builtin id)=pure (.type "method_descriptor"))(hm:MtR X id r)(ho:PE X o to)
  (RK:Lz o name X.env (JQ o X.env)=JQ o X.env:=by rfl) (RL:(Rv.endLine==Rj.line)=true:=by rfl):PE X (.Call (.Attribute o name Rv) [] [] Rj) (E1 X.K T r to):=by
 intro pins s σ H Q I h;refine wpAny_Call_method0_late RK RL (thn (ho pins s σ H _ I h) λv s1 ⟨x,H1,I1,r1,ty,q1⟩=>?_)
 obtain⟨h1,h2⟩:=v9 I1 r1 ty;exact⟨T,id,pa,slot,Te,h1,h2,MM rfl (PySem.evalArgs_none (hm pins s1 σ H1 x [] v [] Q I1 r1 .nil q1))⟩
theorem B4(pa:PlainAttrs T)(slot:Slot T name id)(Te:typeOf (.builtin id)=pure (.type "method_descriptor"))(hm:MtR X id r)(ho:PE X o to)(ha:PA X (e::es) t)
  (RK:Lz o name X.env (JQ o X.env)=JQ o X.env:=by rfl)
  (Tn:((J5 Rj (FH (e::es) X.env)).all (λx=>!x.1) && (backToKw Rj (OX [] X.env)).all (λx=>x.1.isSome)
   && decide ((e::es).length+([]:List Oi).length+(if ([]:List Oi).isEmpty then 0 else 1)<30))=true:=by rfl)
  (RL:(Rv.endLine==Rj.line)=true:=by rfl) (hs:FH (e::es) X.env=(false,JQ e X.env)::FH es X.env:=by rfl) (R0:(J5 Rj (FH es X.env)).any (·.1)=false:=by rfl):
  PE X (.Call (.Attribute o name Rv) (e::es) [] Rj) (tBM X.K T r to t):=by
 intro pins s σ H Q I h;refine wpAny_Call_method_late RK Tn RL rfl (thn (ho pins s σ H _ I h) λv s1 ⟨x,H1,I1,r1,ty,q1⟩=>?_)
 obtain⟨h1,h2⟩:=v9 I1 r1 ty;refine⟨T,id,pa,slot,Te,h1,h2,?_⟩;have hA:=ha Rj pins s1 σ H1 _ I1 q1;rw[hs]at hA |-;refine MM (by show (false || (J5 Rj (FH es X.env)).any (·.1))=false;rw[R0] <;>rfl) (Calls.evalArgs_plain ?_)
 exact thn hA λus s2 ⟨vs,H2,I2,r2,q2⟩=>hm pins s2 σ H2 x vs v us Q I2 r1 r2 q2
end
def MtM(X:Cx)(id:String)(r:V->List V->Hp->VK->Prop):Prop:=
 ∀(pins:List (FI×Obj)) (s:Fp) (σ:St) (H:Hp) (x:V) (xs:List V) (v:Fq) (us:List Fq) (Q:VK),Inv X pins σ H s->a9 x v->aT xs us->r x xs H Q->
  FX (F7 X.prog X.w) X.A (call (.builtin id) (v::us)) (EP X pins σ Q) X.xe s
theorem aT.one:∀{x:V}{us:List Fq},aT [x] us->∃u,us=[u]/\a9 x u
 |_,_,.cons r .nil=>⟨_,rfl,r⟩
theorem aT.zero:∀{us:List Fq},aT [] us->us=[]
 |_,.nil=>rfl
theorem aT.dropLast{xs:List V}{us:List Fq}(h:aT xs us):aT xs.dropLast us.dropLast:=by
 induction h with
 |nil=>exact .nil
 |cons r t ih=>
  cases t with
  |nil=>exact .nil
  |cons q t'=>exact .cons r ih
theorem ri{α:Type}(l:List α):l.eraseIdx (l.length-1)=l.dropLast:=by
 induction l with
 |nil=>rfl
 |cons a r ih=>
  cases r with
  |nil=>rfl
  |cons b r=>
   have e:(a::b::r).length-1=((b::r).length-1)+1:=by
    have h1:(a::b::r).length=r.length+2:=rfl;have h2:(b::r).length=r.length+1:=rfl;lia
   rw[e,List.eraseIdx_cons_succ,ih]
   all_goals rfl
section
variable {X:Cx}{pins:List (FI×Obj)}{σ:St}{H:Hp}{s:Fp}{l b:FI}{xs ys zs:List V}
theorem Inv.lset{QW its':List Fq}{n:Nat}{f:Array Fq->Array Fq}{t':Nat}(I:Inv X pins σ H s)(hH:H l=some (.lst xs))
  (e:s.heap.get? l=some {cls:=.type "list",data:=.seq QW.toArray n }) (hf:f QW.toArray=its'.toArray) (hv:aT ys its') (hz:ys.length≤sizeLine):
  Inv X pins σ (upd H l (.lst ys)) {s with heap:=s.heap.update l (GR f),toks:=t' }:=by
 have q:=PySem.IsL.update e f;rw[hf]at q;refine I.write (x:=l) (e:=l) (by rw[hH];exact trivial) (.inl rfl) (λb' u hb hu=>(F3 s.heap (GR f) (Ne.symm hb)).trans hu) ⟨_,q⟩ ?_
 exact⟨hz,its',_,hv,q⟩
theorem Inv.lnew{QW:List Fq}{t':Nat}(I:Inv X pins σ H s)(hv:aT ys QW)(hz:ys.length<=sizeLine):
  Inv X pins σ (upd H s.heap.objs.size (.lst ys)) {s with heap:=s.heap.push {cls:=.type "list",data:=.seq QW.toArray },toks:=t' }:=
 I.laid (λ_ _ q=>Fo _ q) (Fu _) ⟨hz,QW,0,hv,FE _ rfl⟩
theorem Inv.fresh(I:Inv X pins σ H s):H s.heap.objs.size=none:=I.hok.fresh (Fu _)
theorem Inv.lstM(I:Inv X pins σ H s)(hH:H l=some (.lst xs)):xs.length≤sizeLine∧∃(QW:List Fq) (n:Nat),aT xs QW∧xs.length=QW.length∧s.heap.get? l=some {cls:=.type "list",data:=.seq QW.toArray n }:=by
 obtain⟨z,QW,n,r,e⟩:=I.hok l _ hH;exact⟨z,QW,n,r,r.length,e⟩
theorem yI{n:Nat}(h:n<=sizeLine):Builtin.List.listTooLong n=false:=by
 unfold Builtin.List.listTooLong;exact decide_eq_false (by lia)
end
section
variable {X:Cx}
def z9:V->List V->Hp->VK->Prop:=λx vs H Q=>∃l xs y,x=.ref l/\vs=[y]/\H l=some (.lst xs)/\xs.length<sizeLine/\Q .non (upd H l (.lst (xs++[y])))
theorem i6:MtM X "list.append" z9:=by
 intro pins s σ H x vs v us Q I rx rv h;obtain⟨l,xs,y,rfl,rfl,hH,hz,q⟩:=h;cases rx;obtain⟨u,rfl,ru⟩:=rv.one;obtain⟨z,QW,n,r,hl,e⟩:=I.lstM hH;refine Qf F.slot_list_append ⟨_,e,rfl⟩ F.entry_list_append (F.args_list_append_2 _ _) (PySem.list_append l QW.toArray n u (by rw[FL];lia)) ⟨e,?_⟩
 refine⟨.non,_,I.lset (its':=QW++[u]) hH e (by simp) (r.append (.cons ru .nil)) ?_,rfl,q⟩
 rw[FT,M3];lia
def Am:V->List V->Hp->VK->Prop:=λx vs H Q=>∃l b xs zs,x=.ref l/\vs=[.ref b]/\H l=some (.lst xs)/\H b=some (.lst zs)/\xs.length+zs.length<=sizeLine/\Q .non (upd H l (.lst (xs++zs)))
theorem vy:MtM X "list.extend" Am:=by
 intro pins s σ H x vs v us Q I rx rv h;obtain⟨l,b,xs,zs,rfl,rfl,hH,hB,hz,q⟩:=h;cases rx;obtain⟨u,rfl,ru⟩:=rv.one;cases ru;obtain⟨z,QW,n,r,hl,e⟩:=I.lstM hH;obtain⟨z2,QY,n2,r2,Ri,e2⟩:=I.lstM hB;have hsz:QW.toArray.size+QY.toArray.size<=sizeLine:=by rw[FL,FL];lia
 have hlong:¬ (!QW.toArray.isEmpty && Builtin.List.listTooLong (QW.toArray.size+QY.toArray.size))=true:=by
  rw[yI hsz,K8];exact F1
 refine Qf F.slot_list_extend ⟨_,e,rfl⟩ F.entry_list_extend (F.args_list_extend_2 _ _)
  (AutoSeq1.list_extend_list_list_0 l QW.toArray n b QY.toArray n2 hlong (by rw[FL];lia) (by lia)) ⟨e,e2,?_⟩
 refine⟨.non,_,I.lset (its':=QW++QY) hH e (by simp) (r.append r2) ?_,rfl,q⟩
 rw[FT];lia
def ES:V->List V->Hp->VK->Prop:=λx vs H Q=>∃l xs y,x=.ref l/\vs=[]/\H l=some (.lst xs)/\xs[xs.length-1]?=some y/\Q y (upd H l (.lst xs.dropLast))
theorem Dp:MtM X "list.pop" ES:=by
 intro pins s σ H x vs v us Q I rx rv h;obtain⟨l,xs,y,rfl,rfl,hH,hy,q⟩:=h;cases rx;have hus:=rv.zero;subst hus;obtain⟨z,QW,n,r,hl,e⟩:=I.lstM hH;obtain⟨u,hu,ru⟩:=r.get hy
 have T3:QW.toArray[QW.toArray.size-1]?=some u:=by
  show QW.toArray[QW.length-1]?=some u;rw[<-GC,<-hl];exact hu
 refine Qf F.slot_list_pop ⟨_,e,rfl⟩ F.entry_list_pop (F.args_list_pop_1 _) (MeetsSeq.list_pop_last l QW.toArray n u T3 (by rw[FL];lia)) ⟨e,?_⟩
 refine⟨y,_,I.lset (its':=QW.dropLast) hH e ?_ r.dropLast ?_,ru,q⟩
 ·show QW.toArray.eraseIdxIfInBounds (QW.toArray.size-1)=QW.dropLast.toArray;rw[FL,List.eraseIdxIfInBounds_toArray,ri]
 ·rw[IL];lia
noncomputable def EQ:R2:=λx y H Q=>∃l b xs zs,x=.ref l/\y=.ref b/\H l=some (.lst xs)/\H b=some (.lst zs)/\xs.length+zs.length<=sizeLine/\∀p,H p=none->Q (.ref p) (upd H p (.lst (xs++zs)))
theorem Cy:OpR X (K6 .Add) EQ:=by
 intro pins s σ H x y v u Q I rx ry h;obtain⟨l,b,xs,zs,rfl,rfl,hH,hB,hz,q⟩:=h;cases rx;cases ry;obtain⟨z,QW,n,r,hl,e⟩:=I.lstM hH;obtain⟨z2,QY,n2,r2,Ri,e2⟩:=I.lstM hB;refine PySem.P.add_list e e2 ?_ (by rw[FL,FL];lia)
 have ea:QW.toArray++QY.toArray=(QW++QY).toArray:=by simp
 rw[ea];exact⟨.ref _,_,I.lnew (t':=s.toks) (r.append r2) (by rw[FT];lia),rfl,q _ I.fresh⟩
end
end L2
namespace Att
open PySem PySem.W PySem.Calls PyProof.Rows
theorem jE{P:Params}{h:HF}:∀(ns:List Int) (vs:List Fq),WellAll P h vs (ns.map WData.int)->Qo vs ns:=by
 intro ns
 induction ns with
 |nil=>
  intro vs w;rw[M4]at w;cases w;exact .nil
 |cons n ns ih=>
  intro vs w;rw[FU]at w;cases w with
  |cons a b=>
   cases a;exact .cons _ _ (ih _ b)
theorem script_of{l:OpenLaw}{n:Nat}(hn:l.most=some n){P:Params}{h:HF}{args:List WData}{vals:List Fq}
  (SJ:l.row.toRowW.claim.pre args=true) (hwl:WellAll P h vals args):
  ∃a vs ns,vals=[FW a]∧args=[WData.list (ns.map WData.int)]∧h.get? a=some {cls:=.type "list",data:=.seq vs.toArray }∧Qo vs ns∧ns.length≤n:=by
 have hsh:WShape.hasAll [] args [.list .int]=true:=(pre_splitW SJ).1;have hc:l.pre.holds [] {args:=args }=true:=(pre_splitW SJ).2;obtain⟨d,r,rfl,h1,h2⟩:=hasAllW_cons hsh;obtain rfl:=hasAllW_nil h2;obtain⟨xs,rfl,h3⟩:=hasW_list h1;obtain⟨ns,rfl⟩:=items_int h3
 have Q5:ns.length<=n:=by
  unfold OpenLaw.pre at hc
  have h4:(WTm.not (.lt (.lit (.int (n:Int))) (.len (.arg 0)))).holds [] {args:=[.list (ns.map .int)] }=true:=by
   have h4:=(holds_andW hc).1;rw[hn]at h4;exact h4
  have h5:=condW_of h4 (w_not (w_lt w_lit (w_len_list (w_arg rfl))));rw[Fk]at h5;refine Ke λq=>?_
  have q':(n:Int)<((ns.length:Nat):Int):=by lia
  first
   | (rw[decide_eq_true q']at h5;exact absurd h5 (by decide))
   | (simp at h5;lia)
 cases hwl with
 |cons w1 w2=>
  cases w2;cases w1 with
  |list ho Rr=>exact⟨_,_,ns,rfl,rfl,ho,jE ns _ Rr,Q5⟩
theorem post_true(l:OpenLaw)(args:List WData):l.row.toRowW.claim.post args (.bool true) args=true:=
 postW_of (r:=l.row.toRowW) (X:=(true==true))
  (show WShape.has [] (.bool true) .bool=true by first |rfl |decide |simp[WShape.has,WShape.arms,WShape.armsAll])
  (show (WTm.eq .res (.lit (.bool true))).value [] {args:=args,res:=some (.bool true),after:=args }=some (.bool (true==true)) from w_eq_bool (w_res rfl) w_lit) rfl
end Att
namespace L2
open PySem PySem.Spec PyProof.Rows
theorem me:∀{vs:List Fq}{ns:List Int},Qo vs ns->aT (ns.map V.int) vs
 |_,_,.nil=>.nil
 |_,_,.cons n t h=>.cons ⟨t,rfl⟩ (me h)
def AI(H:Hp):Prop:=∀b,H b=none\/∃o xs,H b=some (.frz o (.lst xs))
theorem wM{P:FK}{w:Gj}{K:Fm}{mg mb:Str->Option Fq}{CX:CXT}{k:Nat}{fa a:FI}{fd:Ia}{x:Str}{sp:Sp}{Q2:Fp}{vs:List Fq}{ns:List Int}
  (KX:K.In Q2.heap) (hns:Q2.heap.Ns HJ mg) (hb:Q2.heap.Ns PY mb) (hbb:∀x:Str,x≠"__name__"→mb x=HL x) (hlim:Q2.heap.NoLimit) (hg:Q2.gens=#[])
  (ha:Q2.heap.get? a=some {cls:=.type "list",data:=.seq vs.toArray }) (hi:Qo vs ns) (hl:ns.length≤sizeLine) (hr:eE k Oj)
  (F:∀base:HF,K.In base->base.Ns HJ mg->bg P w K mg base CX k fa fd [x] sp) (hbind:∀(s:Fp) (u:Fq),Qn s fd ⟨[u],[]⟩ [(x,u)])
  (Sq:∀H:Hp,AI H->SqL K H a (ns.map V.int)->sp [.ref a] H (λv _=>v=.bl true) λ_ _ _=>False)
  (hCX:∀H e s',CX [] H Q2 (λ_ _ _=>False) e s'->False):
  J6 (F7 P w) Oj (.call (.ref fa) ⟨[.ref a],[]⟩) (λr s'=>r=.ok (.ret (.bool true))/\OldK Q2.heap s'.heap/\s'.os=Q2.os/\Ml s'.gens) Q2:=by
 have rv:=me hi;have lenV:=hi.length
 have core:∀H:Hp,AI H->SqL K H a (ns.map V.int)->HOk P w H Q2.heap->(∀b,H b≠none->b=a)->(H a≠none->K.lookup a=none)->
   J6 (F7 P w) Oj (.call (.ref fa) ⟨[.ref a],[]⟩) (λr s'=>r=.ok (.ret (.bool true))/\OldK Q2.heap s'.heap/\s'.os=Q2.os/\Ml s'.gens) Q2:=by
  intro H hO hS hok hA hK;have SV:∀{b:FI}{o:Obj},Q2.heap.get? b=some o->H b=none->(nJ Q2.heap H).get? b=some o:=λe n=>x_ e n
  have noA:∀{b:FI}{o:Obj}{es:Array DictEntry}{ep:Nat},Q2.heap.get? b=some o->o.data=.dict es ep->H b=none:=λ{b o es ep} e d=>by
   cases q:H b with
   |none=>rfl
   |some u=>
    have e':b=a:=hA b (by rw[q];simp)
    subst e';rw[ha]at e;cases e;have d':Data.seq vs.toArray _=Data.dict es ep:=d;cases d'
  have nsK:∀{b:FI}{m:Str->Option Fq},Q2.heap.Ns b m->(nJ Q2.heap H).Ns b m:=λ{b m} ⟨o,es,ep,e,d,r⟩=>⟨o,es,ep,SV e (noA e d),d,r⟩
  have hKb:K.In (nJ Q2.heap H):=λb o e=>SV (KX b o e) (by
   cases q:H b with
   |none=>rfl
   |some u=>
    have e':b=a:=hA b (by rw[q];simp)
    subst e';rw[hK (by rw[q];simp)]at e;cases e)
  have hM:Mod K mg (nJ Q2.heap H):=⟨hKb,nsK hns,⟨mb,nsK hb,hbb⟩,let ⟨mc,h1,h2⟩:=hlim;⟨mc,nsK h1,h2⟩⟩;have e0:zS P w K mg (nJ Q2.heap H) Oj [] Q2 H:=⟨rfl,hM,λb o e=>AA e,Qw (u6 _ _),trivial,λb hb=>absurd (show b∈([]:List FI) from hb) (by simp),hok,.of_eq hg⟩
  refine Ld ((F _ hKb (nsK hns)).run Oj [] Q2 H ⟨[.ref a],[]⟩ [.ref a] [.ref a] _ _ hr e0 (hbind Q2 (.ref a)) (.cons rfl .nil) (Sq H hO hS)) λr s' h=>?_
  cases r with
  |error e=>exact (hCX H e s' h).elim
  |ok fl=>
   cases fl with
   |next=>exact False.elim h
   |brk=>exact False.elim h
   |cont=>exact False.elim h
   |ret u=>
    obtain⟨v,H',os,bare,un,hok',r',q⟩:=h;have q':v=.bl true:=q;subst q';obtain rfl:u=GF true:=r';refine⟨rfl,OldK.of_keep λb o e=>?_,os,bare⟩
    cases q:H b with
    |none=>exact un.keep b o e q (by intro z;exact absurd (show b∈([]:List FI) from z) (by simp)) (by simp)
    |some u=>
     rcases hO b with z |⟨ob,xs,z⟩
     ·rw[q]at z;cases z
     ·have z2:=un.frzs b ob _ z;obtain⟨e1,_⟩:=hok b _ z;obtain⟨e2,_⟩:=hok' b _ z2;rw[e]at e1;cases e1;exact e2
 cases hk:K.lookup a with
 |some o=>
  have e:=KX a o hk;rw[ha]at e;cases e;refine core (λ_=>none) (λ_=>.inl rfl) (.inr ⟨_,vs.toArray,_,hk,rfl,rfl,rfl,by rw[FL,lenV];exact hl,by simpa using rv⟩) (λb u z=>by have z':(none:Option HO)=some u:=z;cases z') (λb z=>absurd rfl z) λz=>absurd rfl z
 |none=>
  refine core (λb=>if b=a then some (.frz {cls:=.type "list",data:=.seq vs.toArray } (.lst (ns.map V.int))) else none) (λb=>?_) (.inl (.inr ⟨{cls:=.type "list",data:=.seq vs.toArray },if_pos rfl⟩)) (λb u z=>?_) (λb z=>?_) λ_=>hk
  ·by_cases hb:b=a
   ·exact .inr ⟨_,_,if_pos hb⟩
   ·exact .inl (if_neg hb)
  ·by_cases hb:b=a
   ·have z':=(if_pos hb).symm.trans z;cases z';subst hb;exact⟨ha,by rw[Fk];exact hl,vs,_,rv,ha⟩
   ·have z':=(if_neg hb).symm.trans z;cases z'
  ·by_cases hb:b=a
   ·exact hb
   ·exact absurd (if_neg hb) z
abbrev KOf{K:Fm}{h:HF}(_:K.In h):Fm:=K
end L2
namespace L2
open PySem PySem.Spec PyProof.Rows
noncomputable def b_(s:I_):Arguments:=match s with
 | .FunctionDef _ a _ _ _ _ _ _ _ _=>a
 |_=>{posonlyargs:=[],args:=[],vararg:=none,kwonlyargs:=[],kw_defaults:=[],kwarg:=none,defaults:=[] }
def bI(s:I_):List I_:=match s with
 | .FunctionDef _ _ b _ _ _ _ _ _ _=>b
 |_=>[]
noncomputable def ak(s:I_):LH:=match s with
 | .FunctionDef _ _ _ _ _ _ sc _ _ _=>sc
 |_=>{kind:=.function,names:=[],isGenerator:=false,isCoroutine:=false }
abbrev CX0:CXT:=λ_ _ _ _ _ _=>False
abbrev E0:XK:=λ_ _ _=>False
structure Fun(K:Fm)(x Q3:Str)(st:I_)(f:FI)(fd:Ia):Prop where
 ex:∃(oc:Fq) (od:Option FI) (kV RN pm:Fq) (an:Option FI) (Q6 ct:Fq) (SU:Array (Option Fq)),
  fd=IS x Q3 (b_ st) (bI st) (ak st) .none kV RN pm an Q6 ct/\K.lookup f=some ⟨oc,od,.func fd,SU⟩/\K7 K Q6 Q3=true
 kp:Jj K (.ref f)=true
section
variable {P:FK}{w:Gj}{K:Fm}{mg:Str→Option Fq}{base:HF}
theorem Fun.binds{x Q3:Str}{st:I_}{f:FI}{fd:Ia}{ps:List Str}(F:Fun K x Q3 st f fd)
  (h:∀(kV RN pm:Fq) (an:Option FI) (Q6 ct:Fq) (us:List Fq),us.length=ps.length->LO (IS x Q3 (b_ st) (bI st) (ak st) .none kV RN pm an Q6 ct) ⟨us,[]⟩=pure (ps.zip us)):dY K fd ps []:=by
 obtain⟨oc,od,kV,RN,pm,an,Q6,ct,SU,rfl,lk,RR⟩:=F.ex;exact .all (h kV RN pm an Q6 ct)
theorem wF{x Q3:Str}{st:I_}{f:FI}{oc:Fq}{od an:Option FI}{SU:Array (Option Fq)}{kV RN pm Q6 ct:Fq}(l:K.lookup f=some ⟨oc,od,.func (IS x Q3 (b_ st) (bI st) (ak st) .none kV RN pm an Q6 ct),SU⟩)
  (c:K7 K Q6 Q3=true) (k:Jj K (.ref f)=true):Fun K x Q3 st f (IS x Q3 (b_ st) (bI st) (ak st) .none kV RN pm an Q6 ct):=⟨⟨oc,od,kV,RN,pm,an,Q6,ct,SU,rfl,l,c⟩,k⟩
end
theorem aJ{n:Nat}(h:n<=1000):n<sizeLine:=JD h (by decide)
theorem o7{A B:Prop}(h:B):if false=true then A else B:=by
 rw[if_neg F1];exact h
theorem vL{A B:Prop}(h:A):if true=true then A else B:=by
 rw[if_pos rfl];exact h
def aL(H H':Hp):Prop:=∀b o,H b=some o->H' b=some o
theorem aL.refl(H:Hp):aL H H:=λ_ _ h=>h
theorem aL.trans{H H1 H2:Hp}(a:aL H H1)(b:aL H1 H2):aL H H2:=λc o h=>b c o (a c o h)
theorem aL.free{H H':Hp}(e:aL H H'){l:FI}(h:H' l=QH):H l=QH:=by
 cases q:H l with
 |none=>rfl
 |some o=>
  rw[e l o q]at h;cases h
theorem aL.seq{K:Fm}{H H':Hp}{a:FI}{xs:List V}(e:aL H H')(h:SqL K H a xs):SqL K H' a xs:=by
 rcases h with (h |⟨o,h⟩) |h
 ·exact .inl (.inl (e _ _ h))
 ·exact .inl (.inr ⟨o,e _ _ h⟩)
 ·exact .inr h
def Sz(m:Nat)(x:Int):Prop:=x.natAbs<2 ^ m
theorem Sz.mono{m n:Nat}{x:Int}(h:Sz m x)(T4:m<=n):Sz n x:=F6 h (J7 (by decide) T4)
theorem Sz.neg{m:Nat}{x:Int}(h:Sz m x):Sz m (-x):=by unfold Sz at *;rw[Int.natAbs_neg];exact h
theorem Sz.add{m:Nat}{x y:Int}(hx:Sz m x)(hy:Sz m y):Sz (m+1) (x+y):=by
 unfold Sz at *;have:=Int.natAbs_add_le x y;rw[IT];lia
theorem Sz.sub{m:Nat}{x y:Int}(hx:Sz m x)(hy:Sz m y):Sz (m+1) (x-y):=by
 rw[Int.sub_eq_add_neg];exact hx.add hy.neg
theorem Sz.mul{m n:Nat}{x y:Int}(hx:Sz m x)(hy:Sz n y):Sz (m+n) (x*y):=by
 unfold Sz at *;rw[K9,Nat.pow_add];exact Nat.mul_lt_mul'' hx hy
theorem Sz.le{m:Nat}{x y:Int}(h:x.natAbs<=y.natAbs)(hy:Sz m y):Sz m x:=JD h hy
theorem Sz.ediv{m:Nat}{x y:Int}(hx:Sz m x):Sz m (x/y):=Sz.le (Int.natAbs_ediv_le_natAbs x y) hx
theorem Sz.abs{m:Nat}{x:Int}(hx:Sz m x):Sz m (if x<0 then -x else x):=by split;exact hx.neg;exact hx
instance (m:Nat) (x:Int):Decidable (Sz m x):=inferInstanceAs (Decidable (x.natAbs<2 ^ m))
theorem Sz.add'{m n:Nat}{x y:Int}(hx:Sz m x)(hy:Sz n y):Sz (max m n+1) (x+y):=(hx.mono (OY m n)).add (hy.mono (OD m n))
theorem Sz.sub'{m n:Nat}{x y:Int}(hx:Sz m x)(hy:Sz n y):Sz (max m n+1) (x-y):=(hx.mono (OY m n)).sub (hy.mono (OD m n))
theorem Sz.lit{m:Nat}{x:Int}(h:Sz m x):Sz m x:=h
theorem Sz.ok{m n:Nat}{x y:Int}(hx:Sz m x)(hy:Sz n y)(h:m+n<=134217728):IntMulOk x y:=
 PyProof.Rows.mulOk_of_bits (intBits_le_iff.mpr hx) (intBits_le_iff.mpr hy) h
theorem Sz.log{m:Nat}{x:Int}(h:Sz m x)(hm:m<=9000)(h0:x≠0):x.natAbs.log2<9000:=by
 have q:=(Nat.log2_lt (by lia)).mpr (show x.natAbs<2 ^ m from h)
 lia
def BE(_ j:Int):Prop:=0<j/\Sz 9000 j
def BA(_ j:Int):Prop:=j≠0/\Sz 9000 j
section
variable {X:Cx}{a b c:Expr}{ta tb tc:TE}{pos:Pos}
theorem AB:OpR X (K6 .Mult) (rI IntMulOk λi j=>.int (i*j)):=opI λ_ _ _ _ _ _ _ hc q=>mul_int q hc
theorem wO:OpR X (K6 .FloorDiv) (rI BE λi j=>.int (i/j)):=opI λi j _ _ _ _ _ hc q=>by
 have h1:(0:Int)<j:=hc.1;exact floordiv_int (by lia) (by rw[Int.fdiv_eq_ediv_of_nonneg i (by lia)];exact q) (.inl (PyProof.noPylong_of_log2 (hc.2.log (by decide) (by lia))))
theorem yy:OpR X (K6 .FloorDiv) (rI BA λi j=>.int (i.fdiv j)):=opI λi j _ _ _ _ _ hc q=>
 floordiv_int hc.1 q (.inl (PyProof.noPylong_of_log2 (hc.2.log (by decide) hc.1)))
theorem ED{x:Str}{n:String}{pos:Pos}(hg:Gl X x)(hm:X.mg x=none)(hv:HL x=some (.type n))(hn:x≠"__name__":=by decide)(hd:(x==("__debug__":Str))=false:=by decide):PE X (.Name x pos) (tC (.ty n)):=
 AE hg hm hv rfl hn hd
end
theorem kit_int_int(K:Fm):J9 K (.type "int") (.type "int")=some true:=rfl
theorem kit_int_bool(K:Fm):J9 K (.type "int") (.type "bool")=some false:=rfl
theorem kit_tuple_tuple(K:Fm):J9 K (.type "tuple") (.type "tuple")=some true:=rfl
theorem kit_list_list(K:Fm):J9 K (.type "list") (.type "list")=some true:=rfl
theorem aQ{H:Hp}{p:FI}(h:H p=none)(o:HO):aL H (upd H p o):=λb u q=>by rw[ba (cQ q h)];exact q
theorem aL.put{H H':Hp}{l:FI}(e:aL H H')(h:H l=none)(o:HO):aL H (upd H' l o):=λb u q=>by rw[ba (cQ q h)];exact e b u q
theorem aL.tup{K:Fm}{H H':Hp}{a:FI}{xs:List V}(e:aL H H')(h:SqT K H a xs):SqT K H' a xs:=by
 rcases h with (h |⟨o,h⟩) |h
 ·exact .inl (.inl (e _ _ h))
 ·exact .inl (.inr ⟨o,e _ _ h⟩)
 ·exact .inr h
end L2
namespace L2
open PySem PySem.W PySem.Calls PySem.Spec PyProof.Rows
theorem oY{ns:List Int}(h:WData.layableAll [WData.list (ns.map WData.int)]=true):∀n∈ns,Sz 1048576 n:=by
 intro n hn;have h1:=(PySem.W.layableW_arg h) _ (Fy.mpr rfl);have h2:=PySem.W.layableW_item h1 (WData.int n) (Fs.mpr ⟨n,hn,rfl⟩);have h3:=(PySem.W.layableW_iff.mp h2).2.2;have h4:Builtin.Int.intBits n<=1048576:=by simpa only[WData.weight,Builtin.Int.intBits] using h3
 exact intBits_le_iff.mp h4
theorem oA{l:OZ}{n:Nat}{q:FK}{SW:List Str}{XP:(Str->Option Fq)->HF->Prop}{YP:Gj->HF->Prop}{d:DefRec}
  (hn:l.most=some n) (hdf:d.params.defaults=[])
  (call:∀(w:Gj) (s₀ Q2:Fp) (mg mb:Str->Option Fq) (fa:FI) (o:Obj) (pm cd RN:Fq) (a:FI) (vs:List Fq) (ns:List Int),
   PySem.W.Ground q SW [] XP w s₀ mg mb Q2.heap->YP w Q2.heap->
   Q2.heap.get? fa=some o->o.data=.func (docDef d.name d.params d.body d.scope pm cd RN)->Q2.heap.CodeRec cd d.name->mg d.name=some (.ref fa)->
   Q2.heap.get? a=some {cls:=.type "list",data:=.seq vs.toArray }→Qo vs ns→ns.length≤n→(∀m∈ns,Sz 1048576 m)→Q2.gens=#[]→
   J6 (F7 l.prog w) Oj (.call (.ref fa) ⟨[.ref a],[]⟩) (λr s'=>r=.ok (.ret (.bool true))/\OldK Q2.heap s'.heap/\s'.os=Q2.os/\Ml s'.gens) Q2):
  Qp q SW XP YP l.row.toRowW d [] (λf vs=>QT f vs):=by
 intro w s₀ Q2 mg mb G Y fa o pm cd RN dV kV ho hd RR hD hmg hg args vals as SJ hlay hrd hwl SX;obtain rfl:dV=.none:=QN hD hdf;obtain rfl:kV=.none:=QO hD;obtain⟨a,vs,ns,rfl,rfl,hobj,To,Q5⟩:=Att.script_of hn SJ hwl;refine PySem.W.enter_call (Ld (call w s₀ Q2 mg mb fa o pm cd RN a vs ns G Y ho (PySem.W.fd_plain hd) RR hmg hobj To Q5 (oY hlay) hg) λr s' hq=>?_)
 obtain⟨rfl,h2,h3,h4⟩:=hq;exact⟨.inl ⟨.bool true,.bool true,[],rfl,λ_=>rfl,.bool true,Att.post_true l _,λ_=>⟨JR,λ_ hm=>(nomatch hm)⟩⟩,h2,h3,h4⟩
theorem walk_ofB{l:OZ}{n k:Nat}{q:FK}{SW:List Str}{XP:(Str->Option Fq)->HF->Prop}{YP:Gj->HF->Prop}{d:DefRec}{K:Params->Fm}{CX:CXT}{sp:Fm->Sp}{x:Str}
  (hn:l.most=some n) (hn2:n<=sizeLine) (hdf:d.params.defaults=[]) (hr:eE k Oj)
  (hY:∀(w:Gj) (h:HF),YP w h->(K w.params).In h)
  (F:∀(w:Gj) (mg:Str->Option Fq) (fa:FI) (h:HF),(K w.params).In h->h.Ns HJ mg->mg d.name=some (.ref fa)->
   ∃fd:Ia,(∀(s:Fp) (u:Fq),Qn s fd ⟨[u],[]⟩ [(x,u)])/\
    ∀base:HF,(K w.params).In base->base.Ns HJ mg->bg l.prog w (K w.params) mg base CX k fa fd [x] (sp (K w.params)))
  (Sq:∀(K:Fm) (H:Hp) (a:FI) (ns:List Int),ns.length<=n->(∀m∈ns,Sz 1048576 m)->AI H->SqL K H a (ns.map V.int)->sp K [.ref a] H (λv _=>v=.bl true) λ_ _ _=>False)
  (hCX:∀(H:Hp) (s:Fp) (e:Fq) (s':Fp),CX [] H s (λ_ _ _=>False) e s'->False):
  Qp q SW XP YP l.row.toRowW d [] (λf vs=>QT f vs):=by
 refine oA hn hdf λw s₀ Q2 mg mb fa o pm cd RN a vs ns G Y ho hd RR hmg hobj To Q5 hbits hg=>?_
 have KX:=hY w _ Y;obtain⟨fd,hb,hF⟩:=F w mg fa _ KX G.T.g hmg;exact wM KX G.T.g G.T.b G.T.builtins G.T.nolimit hg hobj To (Hh Q5 hn2) hr hF hb (λH hO hS=>Sq _ H a ns Q5 hbits hO hS) λH e s'=>hCX H Q2 e s'
end L2
namespace L2
theorem oC{α:Type}{xs:List α}{k:Int}{i:Nat}{v:α}(e:k=(i:Int))(h:xs[i]?=some v):atI xs k=some v:=by subst e;exact sn h
theorem Sz.natle{m:Nat}{x y:Int}(hy:Sz m y)(h:x.natAbs<=y.natAbs):Sz m x:=Sz.le h hy
end L2
namespace L2
open PySem PySem.Spec PyProof.Rows
noncomputable abbrev aK(X:Cx)(QV:LH)(cl:List (Str×FI))(C:FI)(s:Fp)(H:Hp)(fp:List FI):Cx:=
 {X with s₀:=s,H₀:=H,env:=Nt QV cl C X.env,outer:=X.stack,ex:=fp,fn:=λ_=>false,pn:=[],xe:=λ_ _=>False }
def mask:List Nat->St->St
 |[],σ=>σ
 |i::is,σ=>mask is (σ.set i none)
theorem fm:∀(is:List Nat) (σ:St),(mask is σ).length=σ.length
 |[],_=>rfl
 |i::is,σ=>by rw[mask,fm is];simp
theorem iG:∀(is:List Nat) (σ:St) (j:Nat) (v:V),(mask is σ)[j]?=some (some v)->σ[j]?=some (some v)/\j ∉ is
 |[],σ,j,v,h=>⟨h,by simp⟩
 |i::is,σ,j,v,h=>by
  obtain⟨h1,h2⟩:=iG is _ j v h;by_cases e:i=j
  ·subst e;rw[Mb]at h1;simp at h1
  ·rw[FZ e]at h1;exact⟨h1,by simp[Ne.symm e,h2]⟩
structure eJ(X:Cx)(QV:LH)(cl:List (Str×FI))(is:List Nat):Prop where
 clos:Qg QV X.env=pure cl
 cell:∀y∈QV.names,y.2≠.cell
 kind:QV.kind=.function
 names:∀y∈QV.names,y.2=.local->QV.names.lookup y.1=some .local
 cls:∀x c,cl.lookup x=some c->X.env.cells.lookup x=some c
 free:∀x,((O1 QV X.env).names.lookup x=some .cell\/(O1 QV X.env).names.lookup x=some .free)->Vis X.env.scope x/\X.env.scope.names.lookup x≠some .local/\∃c,cl.lookup x=some c
 own:∀i x,X.N[i]?=some x->(O1 QV X.env).names.lookup x=some .local->i∈is
def yd(J:It)(is:List Nat)(g:TG)(te:TE)(σ:St)(H1:Hp)(l:FI)(Q:VK):Prop:=
 ∃W:Nat->Nat->Hp->Prop,(∃m,W 0 m (upd H1 l (.lst [])))/\∀i m H2,W i m H2->
  (J.stop i H2/\Q (.ref l) H2)\/(J.go i H2/\∀x H3,J.yld i H2 x H3->g x (mask is σ) H3 λTp H4=>te Tp H4 λy H5=>
   (∀(j:Nat) (v:V),(mask is σ)[j]?=some (some v)->Tp[j]?=some (some v))/\∃vs,H5 l=some (.lst vs)/\vs.length<sizeLine/\∃m',m'<m/\W (i+1) m' (upd H5 l (.lst (vs++[y]))))
def xO(is:List Nat)(g:TG)(te:TE)(σ:St)(Q:VK)(J:It)(H1:Hp):Prop:=∀l,H1 l=none->yd J is g te σ H1 l Q
def Eo(is:List Nat)(wi:TI)(g:TG)(te:TE):TE:=λσ H Q=>wi σ H (xO is g te σ Q)
section
variable {X:Cx}{pins:List (FI×Obj)}{σ:St}{H:Hp}{s:Fp}
theorem jw{QV:LH}{cl:List (Str×FI)}{is:List Nat}{fp:List FI}{h₁:HF}{m:Str->Option Fq}{t':Nat}(I:Inv X pins σ H s)(B:eJ X QV cl is)(hf:∀b∈fp,kO X pins H b)(hfl:∀b∈fp,b<s.heap.objs.size)
  (hn:h₁.Ns s.heap.objs.size m) (hk:∀b o,s.heap.get? b=some o->h₁.get? b=some o):
  Inv (aK X QV cl s.heap.objs.size s H fp) [] (mask is σ) H {s with heap:=h₁,toks:=t' }:=by
 refine⟨⟨I.ok.mod,B.kind,I.ok.glob,I.ok.blt,Fu _,λx y c h1 h2=>I.ok.inj x y c (B.cls x c h1) (B.cls y c h2),λx hx=>(B.free x hx).2.2,λx c h=>(by cases h),I.ok.hd,I.ok.frames,.inl rfl,λb hb=>⟨Ga (hfl b hb),λx c e=>(hf b hb).2.2.2.2.1 x c (B.cls x c e)⟩,
  I.bs,Hh I.ok.bsz I.sz,λb o e hb=>?_,λb hb z=>?_,I.stack,I.stkFree⟩,rfl,I.bare,Un.kept hk,⟨m,hn,λi x v h1 h2 h3=>?_⟩,λx c e=>?_,I.hok.fresh (Fu _),λx c e=>I.freeC x c (B.cls x c e),λp hp=>absurd (show p∈([]:List (FI×Obj)) from hp) (by simp),I.hok.kept hk,?_⟩
 ·rcases (hf b hb).2.2.2.1 with z |z
  ·exact I.ok.noex b o e z
  ·exact absurd (F6 (FC e) (Hh I.ok.bsz z)) (Gh _)
 ·rcases Fw.mp (I.stkSub b z) with e |e
  ·exact (hf b hb).2.1 e
  ·exact (hf b hb).2.2.1 e
 ·obtain⟨e2,ni⟩:=iG is σ i v h2;have Sm:(O1 QV X.env).names.lookup x=some .local\/(O1 QV X.env).names.lookup x=some .cell\/(O1 QV X.env).names.lookup x=some .free:=h3;rcases Sm with z |z
  ·exact absurd (B.own i x h1 z) ni
  ·obtain⟨hv,hnl,c,hc⟩:=B.free x z;obtain⟨m0,_,hl⟩:=I.loc;obtain⟨u,r,l⟩:=hl i x v h1 e2 hv;refine⟨u,r,.inr ⟨z,c,hc,?_⟩⟩;rcases l with ⟨k,_⟩ |⟨_,c',Ua,o,ho,hd⟩
   ·exact absurd k hnl
   ·have ec:=B.cls x c hc;rw[Ua]at ec;cases ec;exact⟨o,hk _ _ ho,hd⟩
 ·obtain⟨v,o,ho,hd⟩:=I.cell x c (B.cls x c e);exact⟨v,o,hk _ _ ho,hd⟩
 ·show (mask is σ).length=X.N.length;rw[fm];exact I.len
theorem zA{R5 iter tg:Expr}{QV:LH}{cl:List (Str×FI)}{pos pos0:Pos}{is:List Nat}{g:TG}{te:TE}{use:Option (Fq->Sem Unit)}{Q0:VK}{Q:Fq->Fp->Prop}(hc:X.calm=true)(B:eJ X QV cl is)
  (hg:∀C s H fp,PG (aK X QV cl C s H fp) tg g) (he:∀C s H fp,PE (aK X QV cl C s H fp) R5 te) (hs:∀x,Hw iter X.env x=pure x)
  (I:Inv X pins σ H s) (hi:FX (F7 X.prog X.w) X.A (JQ iter X.env) (λv s1=>FX (F7 X.prog X.w) X.A (NS v) (PIE X pins σ tg (xO is g te σ Q0)) X.xe s1) X.xe s)
  (fin:∀(l C:FI) (H':Hp) (s':Fp) (m:Str->Option Fq),Inv X pins σ H' s'->s'.heap.Ns C m->H' C=none->C≠X.env.locals->C ∉ X.fs->X.s₀.heap.objs.size<=C->(∀x c,X.env.cells.lookup x=some c->c≠C)->(∀p∈X.pn++pins,p.1≠C)->Q0 (.ref l) H'->
   Qq (F7 X.prog X.w) X.A X.xe use Q (.ref l) C (.ok .next) s'):
  FX (F7 X.prog X.w) X.A (comprehension (.ListComp R5 [⟨tg,iter,[],0⟩] QV pos) QV X.env pos0 (newList []) false (JQ iter X.env) use) Q X.xe s:=by
 refine Mc rfl hs B.clos B.kind B.names (thn hi λxv s1 h1=>thn h1 λitv s2 h2=>?_)
 obtain⟨it,fp,tn,J,H2,e,I2,T,RF,f2,R⟩:=h2;subst e;refine He (Nw B.cell (by intro y hy;simp at hy) (λh₁ hns SH=>?_) B.kind)
 have hl:H2 s2.heap.objs.size=none:=I2.hok.fresh (Fu _);obtain⟨W,⟨m0,w0⟩,turn⟩:=R s2.heap.objs.size hl
 have I3:Inv X pins σ (upd H2 s2.heap.objs.size (.lst [])) {s2 with heap:=s2.heap.push {cls:=.type "list",dict:=none,data:=.seq ([]:List Fq).toArray } }:=
  I2.laid (t':=s2.toks) (o:=.lst []) (λb u e=>Fo _ e) (Fu _) ⟨GN _,[],0,.nil,FE _ rfl⟩
 have hfl:∀b∈fp,b<s2.heap.objs.size:=λb hb=>let ⟨o,e,_⟩:=T.obj 0 _ RF b hb;FC e
 have f3:∀b∈fp,kO X pins (upd H2 s2.heap.objs.size (.lst [])) b:=λb hb=>⟨by rw[ba (Ga (hfl b hb))];exact (f2 b hb).1,(f2 b hb).2⟩
 have kp:∀b o,(s2.heap.push {cls:=.type "list",dict:=none,data:=.seq ([]:List Fq).toArray }).get? b=some o→h₁.get? b=some o:=λb o e=>
  SH.extBut b o (Ga (FC e)) (Fo _ e)
 have S7:tn 0 h₁:=T.keep 0 _ _ RF λb _ o e=>kp b o (Fo _ e)
 have hfl3:∀b∈fp,b<(s2.heap.push {cls:=.type "list",dict:=none,data:=.seq ([]:List Fq).toArray }).objs.size:=λb hb=>by
  rw[HH];exact HP (hfl b hb)
 have I4:=jw (t':=s2.toks+([]:List (Str×Fq)).length) I3 B f3 hfl3 hns kp
 have loop:J6 (F7 X.prog X.w) X.A (.compLoop (.ListComp R5 [⟨tg,iter,[],0⟩] QV pos) 0 (.ref it) (.ref s2.heap.objs.size) (Nt QV cl (s2.heap.push {cls:=.type "list",dict:=none,data:=.seq ([]:List Fq).toArray }).objs.size X.env))
   (Qq (F7 X.prog X.w) X.A X.xe use Q (.ref s2.heap.objs.size) (s2.heap.push {cls:=.type "list",dict:=none,data:=.seq ([]:List Fq).toArray }).objs.size)
   {s2 with heap:=h₁,toks:=s2.toks+([]:List (Str×Fq)).length }:=by
  generalize hs3:({s2 with heap:=s2.heap.push {cls:=.type "list",dict:=none,data:=.seq ([]:List Fq).toArray } }:Fp)=s3 at *
  have hC:(s2.heap.push {cls:=.type "list",dict:=none,data:=.seq ([]:List Fq).toArray }).objs.size=s3.heap.objs.size:=by rw[←hs3]
  rw[hC]
  have R6:∀{H':Hp},(∀b∈fp,H' b=none)->∀b∈fp,kO (aK X QV cl s3.heap.objs.size s3 (upd H2 s2.heap.objs.size (.lst [])) fp) [] H' b:=λhn b hb=>
   ⟨hn b hb,(I4.ok.exf b hb).1,I4.ok.exfs b hb,.inl hb,λx c e=>(I4.ok.exf b hb).2 x c e,λp hp=>absurd (show p∈([]:List (FI×Obj)) from hp) (by simp)⟩
  have back:∀{Q7:St}{H':Hp}{pp:List (FI×Obj)}{s':Fp},Inv (aK X QV cl s3.heap.objs.size s3 (upd H2 s2.heap.objs.size (.lst [])) fp) pp Q7 H' s'->Inv X pins σ H' s':=λI'=>
   I3.call' (ch:=fp) I'.os I'.base I'.hok I'.bare λb hb=>⟨(f3 b hb).2.2.2.1,(f3 b hb).2.1,(f3 b hb).2.2.2.2.1,(f3 b hb).2.2.2.2.2⟩
  refine codeAny_loop rfl (λn s'=>∃i H',Inv (aK X QV cl s3.heap.objs.size s3 (upd H2 s2.heap.objs.size (.lst [])) fp) [] (mask is σ) H' s'/\tn i s'.heap/\(∀b∈fp,H' b=none)/\W i n H') ?_ m0 ⟨0,_,(by subst hs3;exact I4),S7,λb hb=>(f3 b hb).1,w0⟩
  rintro n s5 ⟨i,H5,I5,Ti,fr5,w5⟩;show FX _ _ ((compTurn (.ListComp R5 [⟨tg,iter,[],0⟩] QV pos) 0 (.ref it) (.ref s2.heap.objs.size) (Nt QV cl s3.heap.objs.size X.env)).onRaise (λx=>do noteFrame x (Nt QV cl s3.heap.objs.size X.env);O4 x)) _ _ s5
  refine wpAny_noted ?_;rw[compTurn_list1];refine Fi (NR (Fi ?_));rcases turn i n H5 w5 with ⟨stop,q⟩ |⟨go,step⟩
  ·refine thn (T.done (aK X QV cl s3.heap.objs.size s3 (upd H2 s2.heap.objs.size (.lst [])) fp) rfl rfl rfl hc i [] s5 _ H5 _ I5 (R6 fr5) Ti stop) λr s6 ⟨hr,I6⟩=>?_
   subst hr;refine Fl ?_;obtain⟨m6,hn6,_⟩:=I6.loc;have hCn:∀b,b<s3.heap.objs.size->b≠s3.heap.objs.size:=λb hb=>Ga hb
   refine fin _ s3.heap.objs.size H5 s6 m6 (back I6) hn6 I6.free (Lc I3.lt) (I3.nofs (Fu _)) I3.sz (λx c e=>?_) (λp hp=>?_) q
   ·obtain⟨v,z⟩:=I3.cell x c e;exact Ga z.lt
   ·exact Ga (FC (I3.pin p hp).1)
  ·refine thn (T.item (aK X QV cl s3.heap.objs.size s3 (upd H2 s2.heap.objs.size (.lst [])) fp) rfl rfl rfl hc i [] s5 _ H5 _ I5 (R6 fr5) Ti go) λr s6 ⟨u,hr,h6⟩=>?_
   subst hr;refine Fi (thn h6 λ_ s7 ⟨x,H7,I7,r7,y7,st7,fr7⟩=>?_)
   have I7':=I7.pinned (R6 fr7) (T.obj _ _ st7);refine Fi (JA (hg _ _ _ _ _ s7 (mask is σ) H7 x u _ I7' r7 (step x H7 y7)) (λ_ s8 ⟨σ8,H8,I8,q8⟩=>?_) λ_ _ z=>z.elim)
   refine Fi (Fi (JA (he _ _ _ _ _ s8 σ8 H8 _ I8 q8) (λv s9 ⟨y,H9,I9,r9,sub,vs,hl9,hz,m',hm,w'⟩=>?_) λ_ _ z=>z.elim))
   refine Fi (JA (i6 (X:=aK X QV cl s3.heap.objs.size s3 (upd H2 s2.heap.objs.size (.lst [])) fp) _ s9 σ8 H9 (.ref s2.heap.objs.size) [y] (.ref s2.heap.objs.size) [v] (λ_ H'=>H'=upd H9 s2.heap.objs.size (.lst (vs++[y]))) I9 rfl (.cons r9 .nil) ⟨_,vs,y,rfl,rfl,hl9,hz,rfl⟩) (λz s10 ⟨zv,H10,I10,_,e10⟩=>?_) λ_ _ z=>z.elim)
   subst e10;refine Fl (Fl ⟨rfl,m',hm,i+1,_,(I10.unpinned (pins:=[])).weak (by rw[I10.len,fm,I.len]) sub,T.keep _ _ _ st7 λb hb o e=>(I10.pin (b,o) (FG _ (FG _ (c7 hb e)))).1,λb hb=>?_,w'⟩)
   obtain⟨o,e,d⟩:=T.obj _ _ st7 b hb;exact (I10.pin (b,o) (FG _ (FG _ (c7 hb e)))).2.1
 exact MN loop (T.self X.A 0 _ _ _ S7 loop)
theorem Bv{R5 iter tg:Expr}{QV:LH}{cl:List (Str×FI)}{pos:Pos}{is:List Nat}{wi:TI}{g:TG}{te:TE}(hc:X.calm=true)(B:eJ X QV cl is)
  (hi:PI X tg iter wi) (hg:∀C s H fp,PG (aK X QV cl C s H fp) tg g) (he:∀C s H fp,PE (aK X QV cl C s H fp) R5 te) (hs:∀x,Hw iter X.env x=pure x:=by intro _;rfl):
  PE X (.ListComp R5 [⟨tg,iter,[],0⟩] QV pos) (Eo is wi g te):=by
 intro pins s σ H Q I h;rw[eval_ListComp];refine zA (use:=none) hc B hg he hs I (hi pins s σ H _ I h) λl C H' s' m I' hn h1 h2 h3 h4 h5 h6 q=>⟨m,hn,λh' SH=>?_⟩
 exact⟨.ref l,H',I'.turned (t':=s'.toks) (λb o hb e=>SH.extBut b o hb e) h1 (Ne.symm h2.symm) (.inr h4) h5 h6,rfl,q⟩
end
noncomputable def goC(cells:List (Str×FI)):List (Str×Lx)->List (Str×FI)->List (Str×FI)
 |[],acc=>acc
 | (n,k)::r,acc=>goC cells r (if (k==.free)=true then (n,(cells.lookup n).getD 0)::acc else acc)
theorem q_{env:Env}{QV:LH}(h:∀y∈QV.names,y.2=.free->(env.cells.lookup y.1).isSome=true):Qg QV env=pure (goC env.cells QV.names []):=by
 have all:∀(names:List (Str×Lx)) (acc:List (Str×FI)),(∀y∈names,y.2=.free->(env.cells.lookup y.1).isSome=true)->
   (QI names acc (λx cs=>match x with | (name,kind)=>if (kind==.free)=true then (do let c <-cellOf env name;pure (ForInStep.yield ((name,c)::cs))) else pure (ForInStep.yield cs)):Sem (List (Str×FI)))=pure (goC env.cells names acc):=by
  intro names
  induction names with
  |nil=>intro acc _;rfl
  |cons y r ih=>
   intro acc hy;obtain⟨n,k⟩:=y;rw[Jr];by_cases hk:k=.free
   ·subst hk;have:=hy (n,.free) Fv rfl;obtain⟨c,hc⟩:=Kn.mp this;have e:cellOf env n=pure c:=by unfold cellOf;rw[hc]
    simp only[beq_self_eq_true,if_true,e,pure_bind];rw[ih _ λy T3=>hy y (Fn _ T3)]
    simp only[goC,beq_self_eq_true,if_true,hc,Jd]
   ·have hb:(k==NameKind.free)=false:=by simpa using hk
    simp only[hb,Fz,if_false,pure_bind];rw[ih _ λy T3=>hy y (Fn _ T3)]
    simp only[goC,hb,Fz,if_false]
 simp only[Qg];have:=all QV.names [] h;simpa using this
theorem uo{cells:List (Str×FI)}:∀(names:List (Str×Lx)) (acc:List (Str×FI)),(∀y∈names,y.2=.free->(cells.lookup y.1).isSome=true)->(∀x c,acc.lookup x=some c->cells.lookup x=some c)->
  ∀x c,(goC cells names acc).lookup x=some c->cells.lookup x=some c
 |[],_,_,ha,x,c,h=>ha x c h
 | (n,k)::r,acc,hy,ha,x,c,h=>by
  rw[goC]at h;refine uo r _ (λy T3=>hy y (Fn _ T3)) (λx' c' e=>?_) x c h
  by_cases hk:k=.free
  ·subst hk;simp only[beq_self_eq_true,if_true]at e;rw[Ln]at e;by_cases hx:(x'==n)=true
   ·rw[hx]at e;have Tg:x'=n:=by simpa using hx
    obtain⟨c2,hc2⟩:=Kn.mp (hy (n,.free) Fv rfl);simp only[hc2,Jd]at e;rw[Tg,hc2];exact e
   ·have:(x'==n)=false:=by simpa using hx
    rw[this]at e;exact ha x' c' e
  ·have hb:(k==NameKind.free)=false:=by simpa using hk
   rw[hb]at e;exact ha x' c' e
theorem t8{cells:List (Str×FI)}{x:Str}:∀(names:List (Str×Lx)) (acc:List (Str×FI)),((x,NameKind.free)∈names\/∃c,acc.lookup x=some c)->∃c,(goC cells names acc).lookup x=some c
 |[],_,h=>by
  rcases h with h |h
  ·cases h
  ·exact h
 | (n,k)::r,acc,h=>by
  rw[goC];refine t8 r _ ?_;rcases h with h |⟨c,h⟩
  ·rcases Fw.mp h with e |h
   ·cases e
    right
    simp
   ·exact .inl h
  ·right
   by_cases hk:k=.free
   ·subst hk;simp only[beq_self_eq_true,if_true];rw[Ln];cases hx:x==n with
    |true=>exact⟨_,rfl⟩
    |false=>exact⟨c,h⟩
   ·have hb:(k==NameKind.free)=false:=by simpa using hk
    rw[hb];exact⟨c,h⟩
theorem c6{env:Env}{x:Str}{kd:Lx}:∀{names:List (Str×Lx)},
  (names.map λ(n,k)=>if (k==NameKind.free && env.scope.kind==.function && env.kindOf n==some .cell) then (n,NameKind.cell) else (n,k)).lookup x=some kd->names.lookup x=some kd\/(kd=.cell/\names.lookup x=some .free)
 |[],h=>by simp at h
 | (n,k)::r,h=>by
  have ih:=@c6 env x kd r
  change List.lookup x ((if (k==NameKind.free && env.scope.kind==.function && env.kindOf n==some .cell)=true then (n,NameKind.cell) else (n,k))::_)=_ at h
  by_cases hc:(k==NameKind.free && env.scope.kind==.function && env.kindOf n==some .cell)=true
  ·rw[if_pos hc]at h;rw[Ln]at h |-;cases hx:x==n with
   |true=>
    rw[hx]at h
    have hk:k=.free:=by
     have:=(Nx.mp (Nx.mp hc).1).1;simpa using this
    subst hk;have h':some NameKind.cell=some kd:=h;cases h';exact .inr ⟨rfl,rfl⟩
   |false=>rw[hx]at h;exact ih h
  ·rw[if_neg hc]at h;rw[Ln]at h |-;cases hx:x==n with
   |true=>rw[hx]at h;exact .inl h
   |false=>rw[hx]at h;exact ih h
noncomputable def wS(QV RI:LH)(N:List Str)(is:List Nat):Bool:=
 QV.names.all (λy=>y.2 !=.cell) && QV.names.all (λy=>y.2 !=.local ||QV.names.lookup y.1==some .local) && QV.names.all (λy=>y.2 !=.free ||RI.names.lookup y.1==some .cell) &&
  (GG N.length).all λi=>match N[i]? with |some x=>QV.names.lookup x !=some .local ||is.contains i |none=>true
theorem blk{X:Cx}{QV:LH}(RI:LH)(N:List Str)(is:List Nat)(hNN:X.N=N)(hs:X.env.scope=RI)(hcs:X.env.cells=OW (X.env.locals+1) RI.names [])(hk:QV.kind=.function)(h:wS QV RI N is=true):eJ X QV (goC X.env.cells QV.names []) is:=by
 subst hNN;unfold wS at h;simp only[Hu,Lo]at h;obtain⟨⟨⟨h1,h2⟩,h3⟩,h4⟩:=h
 have f1:∀y∈QV.names,y.2=.free->RI.names.lookup y.1=some .cell:=λy hy e=>by
  have:=h3 y hy;simp only[O5,bne_iff_ne,ne_eq,beq_iff_eq]at this;exact this.resolve_left λz=>z e
 have f2:∀y∈QV.names,y.2=.free->(X.env.cells.lookup y.1).isSome=true:=λy hy e=>by
  rw[hcs];exact KD _ _ _ (.inl (f1 y hy e))
 have nc:∀y∈QV.names,y.2≠.cell:=λy hy=>by have:=h1 y hy;simpa using this
 refine⟨q_ f2,nc,hk,λy hy e=>?_,uo _ _ f2 (λx c e=>by simp at e),λx hx=>?_,λi x hi hl=>?_⟩
 ·have:=h2 y hy;simp only[O5,bne_iff_ne,ne_eq,beq_iff_eq]at this;exact this.resolve_left λz=>z e
 ·have hf:(x,NameKind.free)∈QV.names:=by
   rcases hx with hx |hx
   ·rcases c6 hx with z |⟨_,z⟩
    ·exact absurd rfl (nc _ (HK z))
    ·exact HK z
   ·rcases c6 hx with z |⟨z,_⟩
    ·exact HK z
    ·cases z
  have hc:=f1 _ hf rfl;refine⟨.inr (.inl (by rw[hs];exact hc)),(by rw[hs,show RI.names.lookup x=some .cell from hc];intro z;cases z),t8 _ _ (.inl hf)⟩
 ·have Q9:i<X.N.length:=(FA.mp hi).1;have:=h4 i (FV.mpr Q9);rw[hi]at this
  have Rc:QV.names.lookup x=some .local:=by
   rcases c6 hl with z |⟨z,_⟩
   ·exact z
   ·cases z
  simp only[Rc,bne_self_eq_false,Bool.false_or,List.contains_iff_mem]at this;exact this
end L2
namespace L2
open PySem PySem.Spec PySem.W PyProof.Rows
noncomputable def CXF(P:FK)(w:Gj):CXT:=λouter H s E e s'=>∃(ea:FI) (cls a0:Fq) (B:HF) (H':Hp),e=.ref ea/\s'.os=s.os/\Ml s'.gens/\Un (frs outer) [] H H' s.heap s'.heap/\HOk P w H' s'.heap/\H' ea=none/\
 (∀b o,s.heap.get? b=some o->b ∉ frs outer->H b=none->B.get? b=some o)/\(∀b u,H' b=some u->∃o,B.get? b=some o)/\(∀b o,s.heap.get? b=some o->b ∉ frs outer->∃o',B.get? b=some o')/\
 Heap.FlyingW B outer ea cls a0 s'.heap/\E cls none H'
theorem aD{P:FK}{w:Gj}{X:Cx}:iZ (CXF P w) X E0:=λ_ _ _ _ _ _ _ h=>by
 obtain⟨_,_,_,_,_,_,_,_,_,_,_,_,_,_,_,hE⟩:=h;exact hE.elim
theorem Fun.okF{P:FK}{w:Gj}{K:Frag}{mg:Str->Option Fq}{base:HF}{x Q3:Str}{st:I_}{f:FI}{fd:Ia}{N ps:List Str}{k:Nat}{sp:Sp}(F:Fun K x Q3 st f fd)(S:aw N ps (ak st))(len:∀vs H Q E,sp vs H Q E->vs.length=ps.length)
  (Ry:∀(Q6:Fq) (A:Gs) (outer:List Env) (s:Fp) (H:Hp) (vs:List V) (Q:VK) (E:XK),eE k (A.deeper (M0 Q3 (ak st) s.heap.objs.size f Q6))->sp vs H Q E->
   ∃t,PSs (nN (CXF P w) P w K mg base N Q3 (ak st) f Q6 A outer s H E) (bI st) t/\t {nx:=λ_ H'=>Q .non H',rt:=Q } (start N vs) H):bg P w K mg base (CXF P w) (k+1) f fd ps sp:=by
 obtain⟨oc,od,kV,RN,pm,an,Q6,ct,SU,rfl,lk,RR⟩:=F.ex;exact BB lk RR S len λA outer s H vs Q E hr Sq=>Ry Q6 A outer s H vs Q E hr Sq
end L2
namespace L2
open PySem PySem.Spec PyProof.Rows
theorem mI{n:Nat}{e:Nat->Bool}:(GG n).all e=true↔∀j,j<n->e j=true:=by
 rw[Lo];exact⟨λh j hj=>h j (FV.mpr hj),λh j hj=>h j (FV.mp hj)⟩
end L2
namespace PySem.W
open PySem PySem.Spec PySem.Calls PyProof.Rows PySem.Builtin PySem.Builtin.ObjectAttr PySem.Builtin.Getset_descriptor
section
variable {prog:FK}{w:Gj}{A:Gs}{E:Fq→Fp→Prop}{s:Fp}{K:Frag}{x C:FI}
def OfCls(x C:FI)(h:HF):Prop:=∃o,h.get? x=some o/\o.cls=.ref C
variable (hga:findIn K (.ref C) "__getattribute__"=some (some (.builtin "BaseException.__getattribute__"))) (hgn:findIn K (.ref C) "__getattr__"=some none) (ha:findIn K (.ref C) "__class__"=some (some (.builtin "object.__class__")))
 (hn:specialIn K (.builtin "object.__class__") "__get__"=some (some (.builtin "getset_descriptor.__get__"))) (Su:takesIn K (.builtin "object.__class__")=some true) (hm:mroIn K C (.type "object")=some true) (hmB:mroIn K C (.type "BaseException")=some true)
include ha hn Su hm in
end
structure XcOk(K:Frag)(C:FI):Prop where
 ga:findIn K (.ref C) "__getattribute__"=some (some (.builtin "BaseException.__getattribute__"))
 gn:findIn K (.ref C) "__getattr__"=some none
 at_:findIn K (.ref C) "__class__"=some (some (.builtin "object.__class__"))
 sp:specialIn K (.builtin "object.__class__") "__get__"=some (some (.builtin "getset_descriptor.__get__"))
 tk:takesIn K (.builtin "object.__class__")=some true
 mo:mroIn K C (.type "object")=some true
 mb:mroIn K C (.type "BaseException")=some true
theorem XcOk.off{x C:FI}{h:HF}{o:Obj}{T:String}(I:OfCls x C h)(e:h.get? x=some o)(c:o.cls=.type T):False:=by
 obtain⟨o',e',c'⟩:=I;rw[e]at e';cases e';rw[c]at c';cases c'
end PySem.W
namespace L2
open PySem PySem.Spec PyProof.Rows
abbrev K4:=(Int×Int)×(Int×Int)
inductive TyX where
 |nm (n:String) |xc (C:FI) |dp (hh:K4->Int) (QZ:List (K4×Int))
inductive U where
 |non |bl (b:Bool) |int (i:Int) |str (x:Str) |ty (n:TyX) |dic |scr (xs:List U) |tup (xs:List U) |lst (xs:List U)
def U.items:U->Option (List U)
 | .scr xs=>some xs
 | .tup xs=>some xs
 | .lst xs=>some xs
 |_=>none
def hid(H:Hp)(O:List FI):Hp:=λb=>if b∈O then none else H b
theorem ii{H:Hp}{O:List FI}{b:FI}{o:HO}(h:hid H O b=some o):H b=some o/\b ∉ O:=by
 unfold hid at h;split at h
 ·cases h
 ·exact⟨h,by assumption⟩
theorem dG{H:Hp}{O:List FI}{b:FI}{o:HO}(h:H b=some o)(n:b ∉ O):hid H O b=some o:=by
 unfold hid;rw[if_neg n];exact h
theorem aq{H:Hp}{O:List FI}:aL (hid H O) H:=λ_ _ h=>(ii h).1
theorem aY{H H':Hp}{O:List FI}(e:aL H H'):aL (hid H O) (hid H' O):=λ_ _ h=>dG (e _ _ (ii h).1) (ii h).2
theorem fh{H:Hp}{O O':List FI}(e:∀a∈O',a∈O):aL (hid H O) (hid H O'):=λ_ _ h=>dG (ii h).1 λz=>(ii h).2 (e _ z)
theorem bF{H H':Hp}{O:List FI}{a:FI}(e:aL H H')(n:H a=none):aL (hid H O) (hid H' (a::O)):=λb o h=>by
 obtain⟨h1,h2⟩:=ii h;refine dG (e _ _ h1) λz=>?_
 rcases Fw.mp z with y |y
 ·subst y;rw[n]at h1;cases h1
 ·exact h2 y
theorem jM{H:Hp}{O:List FI}{a:FI}{o:HO}(h:a∈O):hid (upd H a o) O=hid H O:=by
 funext b
 unfold hid;split
 ·rfl
 ·rename_i n
  rw[ba λe=>n (by rw[e];exact h)]
def pV(p:Int×Int):List V:=[.int p.1,.int p.2]
def KPr(K:Fm)(H:Hp)(b:FI)(k:K4):Prop:=∃p q,SqT K H b [.ref p,.ref q]/\SqT K H p (pV k.1)/\SqT K H q (pV k.2)
abbrev lH:=K4×FI×Fq
def Sdp(hh:K4->Int)(d:FI)(ep:Nat)(xs:List lH)(h:HF):Prop:=
 (d==L6)=false/\xs.length<=sizeLine/\∃o es,h.get? d=some o/\o.ExactDict/\o.data=.dict es ep/\es.toList=xs.map (λx=>⟨hh x.1,.ref x.2.1,x.2.2⟩)/\(xs.map (·.1)).Nodup
def dh(xs:List lH)(QZ:List (K4×Int)):Prop:=xs.length=QZ.length/\∀(i:Nat) (x:lH) (y:K4×Int),xs[i]?=some x->QZ[i]?=some y->x.1=y.1/\x.2.2=.bool true
inductive Rp (K:Fm) (H:Hp):V->U->Prop where
 |non:Rp K H .non .non
 |bl (b:Bool):Rp K H (.bl b) (.bl b)
 |int (i:Int):Rp K H (.int i) (.int i)
 |str (x:Str):Rp K H (.str x) (.str x)
 |ty (n:String):Rp K H (.ty n) (.ty (.nm n))
 |dic {a:FI}{QZ:List (Key×V)} (h:H a=some (.dK QZ)):Rp K H (.ref a) .dic
 |xc {a C:FI} (h:H a=some (.ext (PySem.W.OfCls a C))) (k:PySem.W.XcOk K C):Rp K H (.ref a) (.ty (.xc C))
 |dp {a:FI}{hh:K4->Int}{ep:Nat}{xs:List lH}{QZ:List (K4×Int)} (h:H a=some (.ext (Sdp hh a ep xs))) (hk:∀x∈xs,KPr K H x.2.1 x.1) (hv:dh xs QZ):Rp K H (.ref a) (.ty (.dp hh QZ))
 |scr {a:FI}{vs:List V}{xs:List U} (h:SqL K H a vs) (hl:vs.length=xs.length) (hi:∀(i:Nat) (v:V) (x:U),vs[i]?=some v->xs[i]?=some x->Rp K H v x):Rp K H (.ref a) (.scr xs)
 |tup {a:FI}{vs:List V}{xs:List U} (h:SqT K H a vs) (hl:vs.length=xs.length) (hi:∀(i:Nat) (v:V) (x:U),vs[i]?=some v->xs[i]?=some x->Rp K H v x):Rp K H (.ref a) (.tup xs)
 |lst {a:FI}{vs:List V}{xs:List U} (h:H a=some (.lst vs)) (hl:vs.length=xs.length) (hi:∀(i:Nat) (v:V) (x:U),vs[i]?=some v->xs[i]?=some x->Rp K H v x):Rp K H (.ref a) (.lst xs)
theorem Rp.same{K:Fm}{H H':Hp}{v:V}{u:U}(e:aL H H')(h:Rp K H v u):Rp K H' v u:=by
 induction h with
 |non=>exact .non
 |bl b=>exact .bl b
 |int i=>exact .int i
 |str x=>exact .str x
 |ty n=>exact .ty n
 |dic h=>exact .dic (e _ _ h)
 |xc h k=>exact .xc (e _ _ h) k
 |dp h hk hv=>exact .dp (e _ _ h) (λx hx=>let ⟨p,q,a,b,c⟩:=hk x hx;⟨p,q,e.tup a,e.tup b,e.tup c⟩) hv
 |scr h hl hi ih=>exact .scr (e.seq h) hl ih
 |tup h hl hi ih=>exact .tup (e.tup h) hl ih
 |lst h hl hi ih=>exact .lst (e _ _ h) hl ih
structure Rps(K:Fm)(H:Hp)(vs:List V)(xs:List U):Prop where
 len:vs.length=xs.length
 at_:∀(i:Nat) (v:V) (x:U),vs[i]?=some v->xs[i]?=some x->Rp K H v x
theorem Rps.same{K:Fm}{H H':Hp}{vs:List V}{xs:List U}(e:aL H H')(h:Rps K H vs xs):Rps K H' vs xs:=⟨h.len,λi v x a b=>(h.at_ i v x a b).same e⟩
theorem Rps.nil{K:Fm}{H:Hp}:Rps K H [] []:=⟨rfl,λi v x h=>by simp at h⟩
theorem Rps.cons{K:Fm}{H:Hp}{v:V}{x:U}{vs:List V}{xs:List U}(h:Rp K H v x)(t:Rps K H vs xs):Rps K H (v::vs) (x::xs):=by
 refine⟨by simp[t.len],λi a b h1 h2=>?_⟩
 cases i with
 |zero=>simp at h1 h2;subst h1;subst h2;exact h
 |succ i=>exact t.at_ i a b (by simpa using h1) (by simpa using h2)
theorem Rps.snoc{K:Fm}{H:Hp}{vs ws:List V}{xs ys:List U}(h:Rps K H vs xs)(t:Rps K H ws ys):Rps K H (vs++ws) (xs++ys):=by
 refine⟨by simp[h.len,t.len],λi a b h1 h2=>?_⟩
 by_cases hi:i<vs.length
 ·rw[FR hi]at h1;rw[FR (by rw[<-h.len];exact hi)]at h2
  exact h.at_ i a b h1 h2
 ·have Tq:vs.length<=i:=Ke hi;rw[FS Tq]at h1;rw[FS (by rw[<-h.len];exact Tq),<-h.len]at h2
  exact t.at_ _ a b h1 h2
theorem Rps.get{K:Fm}{H:Hp}{vs:List V}{xs:List U}{i:Nat}{x:U}(h:Rps K H vs xs)(e:xs[i]?=some x):∃v,vs[i]?=some v/\Rp K H v x:=by
 have hi:i<vs.length:=by rw[h.len];exact (FA.mp e).1
 exact⟨vs[i],Fj hi,h.at_ i _ x (Fj hi) e⟩
theorem Rps.atI{K:Fm}{H:Hp}{vs:List V}{xs:List U}{i:Int}{x:U}(h:Rps K H vs xs)(e:L2.atI xs i=some x):∃v,L2.atI vs i=some v/\Rp K H v x:=by
 unfold L2.atI at e |-;rw[h.len];cases q:ixN xs.length i with
 |none=>rw[q]at e;cases e
 |some j=>
  rw[q]at e;obtain⟨v,h1,h2⟩:=h.get (show xs[j]?=some x from e)
  exact⟨v,h1,h2⟩
theorem Rps.cons_inv{K:Fm}{H:Hp}{vs:List V}{x:U}{xs:List U}(h:Rps K H vs (x::xs)):∃v ws,vs=v::ws/\Rp K H v x/\Rps K H ws xs:=by
 cases vs with
 |nil=>have:=h.len;simp at this
 |cons v ws=>
  refine⟨v,ws,rfl,h.at_ 0 v x rfl rfl,by have:=h.len;simpa using this,λi a b h1 h2=>h.at_ (i+1) a b (by simpa using h1) (by simpa using h2)⟩
theorem Rps.nil_inv{K:Fm}{H:Hp}{vs:List V}(h:Rps K H vs []):vs=[]:=G8.mp (by rw[h.len];rfl)
structure DkR(K:Fm)(H:Hp)(kv:List (Key×V))(QZ:List (Str×U)):Prop where
 len:kv.length=QZ.length
 at_:∀(i:Nat) (k:Key) (v:V) (x:Str) (u:U),kv[i]?=some (k,v)->QZ[i]?=some (x,u)->k=.inr x/\Rp K H v u
theorem DkR.same{K:Fm}{H H':Hp}{kv:List (Key×V)}{QZ:List (Str×U)}(e:aL H H')(h:DkR K H kv QZ):DkR K H' kv QZ:=⟨h.len,λi k v x u a b=>⟨(h.at_ i k v x u a b).1,(h.at_ i k v x u a b).2.same e⟩⟩
inductive Sl where
 |val (u:U) |own (xs:List U) |pin (w:V) (u:U) |dsk (w:Bool) (C a d:FI) (QZ:List (Str×U))
abbrev PSt:=List (Option Sl)
noncomputable def Bl(K:Fm)(H:Hp)(O O0:List FI)(v:V):Sl->Prop
 | .val u=>Rp K (hid H O) v u
 | .own xs=>∃a vs,v=.ref a/\a∈O/\a ∉ O0/\H a=some (.lst vs)/\Rps K (hid H O) vs xs
 | .pin w u=>v=w/\Rp K (hid H O) v u
 | .dsk w C a d QZ=>∃dx kv,v=.ref a∧d∈O∧(w=true→d ∉ O0)∧H a=some (.ins C dx [("lands",.ref d)])∧H d=some (.dK kv)∧DkR K (hid H O) kv QZ
structure Rs(K:Fm)(H0:Hp)(O0:List FI)(ps:PSt)(σ:St)(H:Hp)(O:List FI):Prop where
 same:aL H0 H
 old:∀a∈O0,a∈O
 new:∀a∈O,a∈O0\/H0 a=none
 dom:∀a∈O,H a≠none
 len:σ.length=ps.length
 at_:∀(i:Nat) (s:Sl),ps[i]?=some (some s)->∃v,σ[i]?=some (some v)/\Bl K H O O0 v s
 inj:∀(i j:Nat) (xs ys:List U) (a:FI),ps[i]?=some (some (.own xs))->ps[j]?=some (some (.own ys))->σ[i]?=some (some (.ref a))->σ[j]?=some (some (.ref a))->i=j
variable {H0:Hp}{H:Hp}{O0:List FI}
section
variable {K:Fm}{H':Hp}{O:List FI}{ps:PSt}{σ:St}
theorem Bl.same{v:V}{s:Sl}(e:aL H H')(h:Bl K H O O0 v s):Bl K H' O O0 v s:=by
 cases s with
 |val u=>exact Rp.same (aY e) h
 |own xs=>obtain⟨a,vs,h1,h2,h3,h4,h5⟩:=h;exact⟨a,vs,h1,h2,h3,e _ _ h4,h5.same (aY e)⟩
 |pin w u=>exact⟨h.1,Rp.same (aY e) h.2⟩
 |dsk w C a d QZ=>obtain⟨dx,kv,h1,h2,h3,h4,h5,h6⟩:=h;exact⟨dx,kv,h1,h2,h3,e _ _ h4,e _ _ h5,h6.same (aY e)⟩
theorem Rs.go(R:Rs K H0 O0 ps σ H O)(e:aL H H'):Rs K H0 O0 ps σ H' O:=
 ⟨R.same.trans e,R.old,R.new,λa ha z=>R.dom a ha (e.free z),R.len,λi s h=>let ⟨v,h1,h2⟩:=R.at_ i s h;⟨v,h1,h2.same e⟩,R.inj⟩
theorem cN{α:Type}{xs:List α}{i j:Nat}{y x:α}(h:(xs.set i y)[j]?=some x):(i=j/\x=y)\/(i≠j/\xs[j]?=some x):=by
 by_cases e:i=j
 ·subst e;rw[Mb]at h;simp at h;exact .inl ⟨rfl,h.2.symm⟩
 ·rw[FZ e]at h;exact .inr ⟨e,h⟩
theorem f6{α:Type}{xs:List α}{i:Nat}{y:α}(h:i<xs.length):(xs.set i y)[i]?=some y:=by rw[Mb];simp[h]
theorem aC{α:Type}{xs:List α}{i:Nat}{y:α}(h:xs[i]?=some y):i<xs.length:=(FA.mp h).1
theorem lf{i:Nat}{u:U}{j:Nat}{xs:List U}(h:(ps.set i (some (.val u)))[j]?=some (some (.own xs))):i≠j/\ps[j]?=some (some (.own xs)):=by
 rcases cN h with ⟨_,e⟩ |h
 ·cases e
 ·exact h
theorem Rs.set{i:Nat}{v:V}{u:U}(R:Rs K H0 O0 ps σ H O)(r:Rp K (hid H O) v u):Rs K H0 O0 (ps.set i (some (.val u))) (σ.set i (some v)) H O:=by
 refine⟨R.same,R.old,R.new,R.dom,by simp[R.len],λj s h=>?_,λj k xs ys a h1 h2 h3 h4=>?_⟩
 ·rcases cN h with ⟨e,q⟩ |⟨n,q⟩
  ·subst e;cases q;have hi:=aC h;rw[JH]at hi;exact⟨v,f6 (by rw[R.len];exact hi),r⟩
  ·obtain⟨w,h1,h2⟩:=R.at_ j s q;exact⟨w,by rw[FZ n];exact h1,h2⟩
 ·obtain⟨n1,q1⟩:=lf h1;obtain⟨n2,q2⟩:=lf h2;rw[FZ n1]at h3;rw[FZ n2]at h4;exact R.inj j k xs ys a q1 q2 h3 h4
theorem Rs.drop{i:Nat}{o:Option V}(R:Rs K H0 O0 ps σ H O):Rs K H0 O0 (ps.set i none) (σ.set i o) H O:=by
 have key:∀{j:Nat}{s:Sl},(ps.set i none)[j]?=some (some s)->i≠j/\ps[j]?=some (some s):=λ{j s} h=>by
  rcases cN h with ⟨_,e⟩ |h
  ·cases e
  ·exact h
 refine⟨R.same,R.old,R.new,R.dom,by simp[R.len],λj s h=>?_,λj k xs ys a h1 h2 h3 h4=>?_⟩
 ·obtain⟨n,q⟩:=key h;obtain⟨w,h1,h2⟩:=R.at_ j s q;exact⟨w,by rw[FZ n];exact h1,h2⟩
 ·obtain⟨n1,q1⟩:=key h1;obtain⟨n2,q2⟩:=key h2;rw[FZ n1]at h3;rw[FZ n2]at h4;exact R.inj j k xs ys a q1 q2 h3 h4
theorem Rs.own{i:Nat}{a:FI}{vs:List V}{xs:List U}(R:Rs K H0 O0 ps σ H O)(e:aL H H')(n:H a=none)(h:H' a=some (.lst vs))(r:Rps K (hid H' (a::O)) vs xs):
  Rs K H0 O0 (ps.set i (some (.own xs))) (σ.set i (some (.ref a))) H' (a::O):=by
 have na:a ∉ O:=λz=>R.dom a z n
 have na0:a ∉ O0:=λz=>na (R.old a z)
 have n0:H0 a=none:=R.same.free n
 have Uq:∀(j:Nat) (ys:List U),ps[j]?=some (some (.own ys))->σ[j]?≠some (some (.ref a)):=λj ys h1 h2=>by
  obtain⟨v,h3,b,ws,h4,h5,_⟩:=R.at_ j _ h1;rw[h2]at h3;cases h3;cases h4;exact na h5
 refine⟨R.same.trans e,λb hb=>Fn _ (R.old b hb),λb hb=>?_,λb hb z=>?_,by simp[R.len],λj s q=>?_,λj k ys zs b h1 h2 h3 h4=>?_⟩
 ·rcases Fw.mp hb with y |y
  ·subst y;exact .inr n0
  ·exact R.new b y
 ·rcases Fw.mp hb with y |y
  ·subst y;rw[h]at z;cases z
  ·exact R.dom b y (e.free z)
 ·rcases cN q with ⟨e',q'⟩ |⟨ne,q'⟩
  ·subst e';cases q';have hi:=aC q;rw[JH]at hi;exact⟨.ref a,f6 (by rw[R.len];exact hi),a,vs,rfl,Fv,na0,h,r⟩
  ·obtain⟨w,h1,h2⟩:=R.at_ j s q';refine⟨w,by rw[FZ ne];exact h1,?_⟩
   cases s with
   |val u=>exact Rp.same (bF e n) h2
   |own ys=>
    obtain⟨b,ws,k1,k2,k3,k4,k5⟩:=h2;exact⟨b,ws,k1,Fn _ k2,k3,e _ _ k4,k5.same (bF e n)⟩
   |pin z u=>exact⟨h2.1,Rp.same (bF e n) h2.2⟩
   |dsk w C b d QZ=>obtain⟨dx,kv,k1,k2,k3,k4,k5,k6⟩:=h2;exact⟨dx,kv,k1,Fn _ k2,k3,e _ _ k4,e _ _ k5,k6.same (bF e n)⟩
 ·rcases cN h1 with ⟨e1,q1⟩ |⟨n1,q1⟩ <;>rcases cN h2 with ⟨e2,q2⟩ |⟨n2,q2⟩
  ·rw[<-e1,<-e2]
  ·subst e1;have hi:=aC h3;rw[JH]at hi;rw[f6 hi]at h3;cases h3;rw[FZ n2]at h4;exact absurd h4 (Uq k zs q2)
  ·subst e2;have hi:=aC h4;rw[JH]at hi;rw[f6 hi]at h4;cases h4;rw[FZ n1]at h3;exact absurd h3 (Uq j ys q1)
  ·rw[FZ n1]at h3;rw[FZ n2]at h4;exact R.inj j k ys zs b q1 q2 h3 h4
theorem Rs.write{i:Nat}{a:FI}{vs:List V}{xs ys:List U}(R:Rs K H0 O0 ps σ H O)(hp:ps[i]?=some (some (.own xs)))(hs:σ[i]?=some (some (.ref a)))(r:Rps K (hid H O) vs ys):
  Rs K H0 O0 (ps.set i (some (.own ys))) σ (upd H a (.lst vs)) O:=by
 obtain⟨v,h1,b,ws,h2,h3,h4,h5,h6⟩:=R.at_ i _ hp;rw[hs]at h1;cases h1;cases h2;have h0:H0 a=none:=(R.new a h3).resolve_left h4;have eh:hid (upd H a (.lst vs)) O=hid H O:=jM h3;refine⟨R.same.put h0 _,R.old,R.new,λb hb z=>?_,by simp[R.len],λj s q=>?_,λj k zs us b q1 q2 q3 q4=>?_⟩
 ·by_cases e:b=a
  ·subst e;rw[aO]at z;cases z
  ·rw[ba e]at z;exact R.dom b hb z
 ·rcases cN q with ⟨e',q'⟩ |⟨ne,q'⟩
  ·subst e';cases q';exact⟨.ref a,hs,a,vs,rfl,h3,h4,aO,by rw[eh];exact r⟩
  ·obtain⟨w,k1,k2⟩:=R.at_ j s q';refine⟨w,k1,?_⟩;cases s with
   |val u=>exact (show Rp K (hid (upd H a (.lst vs)) O) w u by rw[eh];exact k2)
   |own zs=>
    obtain⟨b,us,e1,e2,e3,e4,e5⟩:=k2;subst e1;have:b≠a:=λz=>by subst z;exact ne (R.inj i j xs zs b hp q' hs k1)
    exact⟨b,us,rfl,e2,e3,by rw[ba this];exact e4,by rw[eh];exact e5⟩
   |pin z u=>exact⟨k2.1,by rw[eh];exact k2.2⟩
   |dsk w C b d QZ=>
    obtain⟨dx,kv,e1,e2,e3,e4,e5,e6⟩:=k2;exact⟨dx,kv,e1,e2,e3,by rw[ba λz=>by rw[z,h5]at e4;cases e4];exact e4,by rw[ba λz=>by rw[z,h5]at e5;cases e5];exact e5,by rw[eh];exact e6⟩
 ·have c1:∃zs',ps[j]?=some (some (.own zs')):=by
   rcases cN q1 with ⟨e,_⟩ |⟨_,z⟩
   ·subst e;exact⟨_,hp⟩
   ·exact⟨_,z⟩
  have c2:∃zs',ps[k]?=some (some (.own zs')):=by
   rcases cN q2 with ⟨e,_⟩ |⟨_,z⟩
   ·subst e;exact⟨_,hp⟩
   ·exact⟨_,z⟩
  obtain⟨_,c1⟩:=c1;obtain⟨_,c2⟩:=c2;exact R.inj j k _ _ b c1 c2 q3 q4
noncomputable def SubP:PSt->PSt->Prop
 |[],[]=>True
 |none::p,_::q=>SubP p q
 |some s::p,t::q=>t=some s/\SubP p q
 |_,_=>False
theorem SubP.at_:∀{p q:PSt},SubP p q->p.length=q.length/\∀(i:Nat) (s:Sl),p[i]?=some (some s)->q[i]?=some (some s)
 |[],[],_=>⟨rfl,λi s h=>by simp at h⟩
 |none::p,t::q,h=>by
  obtain⟨h1,h2⟩:=SubP.at_ (p:=p) (q:=q) h;refine⟨by simp[h1],λi s e=>?_⟩
  cases i with
  |zero=>simp at e
  |succ i=>exact h2 i s (by simpa using e)
 |some s0::p,t::q,h=>by
  obtain⟨h0,h⟩:=h;obtain⟨h1,h2⟩:=SubP.at_ (p:=p) (q:=q) h;refine⟨by simp[h1],λi s e=>?_⟩
  cases i with
  |zero=>simp at e;subst e;rw[h0];rfl
  |succ i=>exact h2 i s (by simpa using e)
 |[],_::_,h=>h.elim
 |none::_,[],h=>h.elim
 |some _::_,[],h=>h.elim
theorem Rs.sub{Rl:PSt}(R:Rs K H0 O0 ps σ H O)(h:SubP Rl ps):Rs K H0 O0 Rl σ H O:=by
 obtain⟨h1,h2⟩:=h.at_;exact⟨R.same,R.old,R.new,R.dom,R.len.trans h1.symm,λi s e=>R.at_ i s (h2 i s e),λi j xs ys a e1 e2=>R.inj i j xs ys a (h2 _ _ e1) (h2 _ _ e2)⟩
end
def Ev(X:Cx)(H0:Hp)(O0:List FI)(ps:PSt)(e:Expr)(u:U):Prop:=
 PE X e λσ H Q=>∃O,Rs X.K H0 O0 ps σ H O/\∀v H',aL H H'->Rp X.K (hid H' O) v u->Q v H'
def EvN(X:Cx)(H0:Hp)(O0:List FI)(ps:PSt)(e:Expr)(xs:List U):Prop:=
 PE X e λσ H Q=>∃O,Rs X.K H0 O0 ps σ H O/\∀a vs H',aL H H'->H a=none->H' a=some (.lst vs)->Rps X.K (hid H' (a::O)) vs xs->Q (.ref a) H'
def Tt(X:Cx)(H0:Hp)(O0:List FI)(ps:PSt)(e:Expr)(b:Bool):Prop:=
 PT X e λσ H Q=>∃O,Rs X.K H0 O0 ps σ H O/\∀H',aL H H'->Q b H'
def Tw(X:Cx)(H0:Hp)(O0:List FI)(ps:PSt)(e:Expr)(b:Bool):Prop:=
 PW X e λσ H Q=>∃O,Rs X.K H0 O0 ps σ H O/\∀H',aL H H'->Q b H'
def EvA(X:Cx)(H0:Hp)(O0:List FI)(ps:PSt)(es:List Expr)(us:List U):Prop:=
 PA X es λσ H Q=>∃O,Rs X.K H0 O0 ps σ H O/\∀vs H',aL H H'->Rps X.K (hid H' O) vs us->Q vs H'
theorem PE.mono{X:Cx}{e:Expr}{t t':TE}(h:PE X e t)(m:∀σ H Q,t' σ H Q->t σ H Q):PE X e t':=λpins s σ H Q I q=>h pins s σ H Q I (m σ H Q q)
theorem PT.mono{X:Cx}{e:Expr}{t t':TT}(h:PT X e t)(m:∀σ H Q,t' σ H Q->t σ H Q):PT X e t':=λpins s σ H Q I q=>h pins s σ H Q I (m σ H Q q)
theorem PW.mono{X:Cx}{e:Expr}{t t':TT}(h:PW X e t)(m:∀σ H Q,t' σ H Q->t σ H Q):PW X e t':=λwh pins s σ H Q I q=>h wh pins s σ H Q I (m σ H Q q)
theorem PA.mono{X:Cx}{e:List Expr}{t t':TA}(h:PA X e t)(m:∀σ H Q,t' σ H Q->t σ H Q):PA X e t':=λpos pins s σ H Q I q=>h pos pins s σ H Q I (m σ H Q q)
theorem PS.mono{X:Cx}{e:I_}{t t':TS}(h:PS X e t)(m:∀D σ H,t' D σ H->t D σ H):PS X e t':=λpins s σ H D I q=>h pins s σ H D I (m D σ H q)
theorem PSs.mono{X:Cx}{e:List I_}{t t':TS}(h:PSs X e t)(m:∀D σ H,t' D σ H->t D σ H):PSs X e t':=λpins s σ H D I q=>h pins s σ H D I (m D σ H q)
variable {e:Expr}{es:List Expr}{pos:Pos}{u:U}{xs:List U}{ys:List U}{us:List U}
section
variable {X:Cx}{ps:PSt}{a b c:Expr}{p:Pos}{x y:U}{i j:Int}
theorem EvN.ev(h:EvN X H0 O0 ps e xs):Ev X H0 O0 ps e (.lst xs):=PE.mono h λσ H Q ⟨O,R,k⟩=>⟨O,R,λa vs H' s n h r=>by
 have na:a ∉ O:=λz=>R.dom a z n
 have less:aL (hid H' (a::O)) (hid H' O):=fh λb hb=>Fn _ hb
 exact k _ H' s (.lst (dG h na) (r.same less).len (r.same less).at_)⟩
theorem aa(i:Nat){x:Str}{u:U}(h:ps[i]?=some (some (.val u)))(hN:X.N[i]?=some x:=by rfl)(hv:Vis X.env.scope x:=by first |exact Or.inl rfl |exact Or.inr (Or.inl rfl) |exact Or.inr (Or.inr rfl))(hd:(x==("__debug__":Str))=false:=by decide)
  (RR:(x==("__classdict__":Str))=false:=by decide):Ev X H0 O0 ps (.Name x pos) u:=PE.mono (ef hN hv hd RR) λσ H Q ⟨O,R,k⟩=>by
 obtain⟨v,h1,h2⟩:=R.at_ i _ h;exact⟨v,h1,k v H (.refl H) h2⟩
theorem ag{i j pos}:Ev X H0 O0 ps (.Constant (.int i) j pos) (.int i):=PE.mono Dw λ_ H _ ⟨_,_,k⟩=>k _ H (.refl H) (.int i)
theorem ET{i j pos}:Ev X H0 O0 ps (.Constant (.bool i) j pos) (.bl i):=PE.mono BO λ_ H _ ⟨_,_,k⟩=>k _ H (.refl H) (.bl i)
theorem mV{x:Str}{n:String}{pos:Pos}(hg:Gl X x)(hm:X.mg x=none)(hv:HL x=some (.type n))(hn:x≠"__name__":=by decide)(hd:(x==("__debug__":Str))=false:=by decide):Ev X H0 O0 ps (.Name x pos) (.ty (.nm n)):=
 PE.mono (ED hg hm hv hn hd) λ_ H _ ⟨_,_,k⟩=>k _ H (.refl H) (.ty n)
theorem two{ta tb:TE}{σ:St}{H:Hp}{Q:VK}{O:List FI}{r:R2}(R:Rs X.K H0 O0 ps σ H O)
  (ha:∀σ H Q,(∃O,Rs X.K H0 O0 ps σ H O/\∀v H',aL H H'->Rp X.K (hid H' O) v x->Q v H')->ta σ H Q) (hb:∀σ H Q,(∃O,Rs X.K H0 O0 ps σ H O/\∀v H',aL H H'->Rp X.K (hid H' O) v y->Q v H')->tb σ H Q)
  (h:∀v w H',aL H H'->Rs X.K H0 O0 ps σ H' O->Rp X.K (hid H' O) v x->Rp X.K (hid H' O) w y->r v w H' Q):tOp r ta tb σ H Q:=
 ha σ H _ ⟨O,R,λv H1 s1 r1=>hb σ H1 _ ⟨O,R.go s1,λw H2 s2 r2=>h v w H2 (s1.trans s2) (R.go (s1.trans s2)) (r1.same (aY s2)) r2⟩⟩
theorem B3{op:Qm}{g:Int->Int->Int}(ho:OpR X (K6 op) (rI0 λi j=>.int (g i j)))(ha:Ev X H0 O0 ps a (.int i))(hb:Ev X H0 O0 ps b (.int j)):Ev X H0 O0 ps (.BinOp a op b pos) (.int (g i j)):=
 PE.mono (xg ho ha hb) λσ H Q ⟨O,R,k⟩=>two (x:=.int i) (y:=.int j) R (λ_ _ _ z=>z) (λ_ _ _ z=>z) λv w H' s _ r1 r2=>by
  cases r1;cases r2;exact⟨i,j,rfl,rfl,k _ H' s (.int _)⟩
theorem pG{op:Qm}{C:Int->Int->Prop}{g:Int->Int->Int}(ho:OpR X (K6 op) (rI C λi j=>.int (g i j)))(ha:Ev X H0 O0 ps a (.int i))(hb:Ev X H0 O0 ps b (.int j))(hc:C i j):Ev X H0 O0 ps (.BinOp a op b pos) (.int (g i j)):=
 PE.mono (xg ho ha hb) λσ H Q ⟨O,R,k⟩=>two (x:=.int i) (y:=.int j) R (λ_ _ _ z=>z) (λ_ _ _ z=>z) λv w H' s _ r1 r2=>by
  cases r1;cases r2;exact⟨i,j,rfl,rfl,hc,k _ H' s (.int _)⟩
theorem bR(ha:Ev X H0 O0 ps a (.int i))(hb:Ev X H0 O0 ps b (.int j)):Ev X H0 O0 ps (.BinOp a .Add b pos) (.int (i+j)):=B3 CO ha hb
theorem bm(ha:Ev X H0 O0 ps a (.int i))(hb:Ev X H0 O0 ps b (.int j)):Ev X H0 O0 ps (.BinOp a .Sub b pos) (.int (i-j)):=B3 B7 ha hb
theorem bn(ha:Ev X H0 O0 ps a (.int i))(hb:Ev X H0 O0 ps b (.int j))(hc:IntMulOk i j):Ev X H0 O0 ps (.BinOp a .Mult b pos) (.int (i*j)):=pG AB ha hb hc
theorem dH(ha:Ev X H0 O0 ps a (.int i))(hb:Ev X H0 O0 ps b (.int j))(hc:BE i j):Ev X H0 O0 ps (.BinOp a .FloorDiv b pos) (.int (i/j)):=pG wO ha hb hc
theorem Df(ha:Ev X H0 O0 ps a (.int i))(hb:Ev X H0 O0 ps b (.int j))(hc:BA i j):Ev X H0 O0 ps (.BinOp a .FloorDiv b pos) (.int (i.fdiv j)):=pG yy ha hb hc
theorem dJ(ha:Ev X H0 O0 ps a (.int i))(hb:Ev X H0 O0 ps b (.int j))(hc:0<j):Ev X H0 O0 ps (.BinOp a .Mod b pos) (.int (i%j)):=pG Cn ha hb hc
theorem mw(ha:Ev X H0 O0 ps a (.int i))(hb:Ev X H0 O0 ps b (.int j))(hc:EG i j):Ev X H0 O0 ps (.BinOp a .Pow b pos) (.int (i ^ j.toNat)):=pG CW ha hb hc
theorem cq(ha:Ev X H0 O0 ps a (.int i)):Ev X H0 O0 ps (.UnaryOp .USub a pos) (.int (-i)):=
 PE.mono (EE CT ha) λσ H Q ⟨O,R,k⟩=>⟨O,R,λv H' s r=>by cases r;exact⟨i,rfl,k _ H' s (.int _)⟩⟩
end
mutual
def eqW:U->U->Bool
 | .non,.non=>true
 | .bl a,.bl b=>a==b
 | .bl a,.int j=>(if a then 1 else 0)==j
 | .int i,.bl b=>i==(if b then 1 else 0)
 | .int i,.int j=>i==j
 | .str a,.str b=>a==b
 | .tup xs,.tup ys=>eqWs xs ys
 | .lst xs,.lst ys=>eqWs xs ys
 | .lst xs,.scr ys=>eqWs xs ys
 | .scr xs,.lst ys=>eqWs xs ys
 | .scr xs,.scr ys=>eqWs xs ys
 |_,_=>false
def eqWs:List U->List U->Bool
 |[],[]=>true
 |x::xs,y::ys=>eqW x y && eqWs xs ys
 |_,_=>false
end
mutual
def okU:Nat->U->Bool
 |_,.ty _=>false
 |_,.dic=>false
 |0,.tup _=>false
 |0,.lst _=>false
 |0,.scr _=>false
 |n+1,.tup xs=>okUs n xs
 |n+1,.lst xs=>okUs n xs
 |n+1,.scr xs=>okUs n xs
 |_,_=>true
def okUs:Nat->List U->Bool
 |_,[]=>true
 |n,x::xs=>okU n x && okUs n xs
end
theorem jU:∀{n:Nat}{xs:List U}{i:Nat}{x:U},okUs n xs=true->xs[i]?=some x->okU n x=true
 |n,[],i,x,_,h=>by simp at h
 |n,y::xs,0,x,h,e=>by simp at e;subst e;simp[okUs]at h;exact h.1
 |n,y::xs,i+1,x,h,e=>by simp[okUs]at h;exact jU (i:=i) h.2 (by simpa using e)
theorem dE:∀(xs ys:List U),((GG (min xs.length ys.length)).all (λj=>eqW (xs.getD j .non) (ys.getD j .non)) && xs.length==ys.length)=eqWs xs ys
 |[],[]=>rfl
 |[],y::ys=>by simp[eqWs]
 |x::xs,[]=>by simp[eqWs]
 |x::xs,y::ys=>by
  have ih:=dE xs ys;rw[eqWs,<-ih];simp only[F8,Nat.succ_min_succ];rw[JB,Ly,Qx];have e:((xs.length+1==ys.length+1))=(xs.length==ys.length):=by simp
  rw[e,Bool.and_assoc];rfl
theorem Rp.one{X:Cx}{pins:List (FI×Obj)}{σ:St}{H:Hp}{s:Fp}(I:Inv X pins σ H s){v:V}{x:U}(h:Rp X.K H v x):∀{n:Nat}{y:U},Rp X.K H v y->okU n x=true->eqW x y=true:=by
 have key:∀{vs ws:List V}{xs ys:List U},vs=ws->vs.length=xs.length->ws.length=ys.length->(∀(i:Nat) (x y:U),xs[i]?=some x->ys[i]?=some y->eqW x y=true)->eqWs xs ys=true:=λ{vs ws xs ys} e h1 h2 hh=>by
  subst e;rw[<-dE,Hu,mI];refine⟨λj hj=>?_,by simp[<-h1,<-h2]⟩
  have j1:j<xs.length:=by lia
  have j2:j<ys.length:=by lia
  rw[FP,Fj j1,FP,Fj j2];exact hh j _ _ (Fj j1) (Fj j2)
 have Tr:∀{vs:List V}{xs ys:List U}{n:Nat},vs.length=xs.length->(∀(i:Nat) (v:V) (x:U),vs[i]?=some v->xs[i]?=some x->∀{n:Nat}{y:U},Rp X.K H v y->okU n x=true->eqW x y=true)->(∀(i:Nat) (v:V) (y:U),vs[i]?=some v->ys[i]?=some y->Rp X.K H v y)->okUs n xs=true->
   ∀(i:Nat) (x y:U),xs[i]?=some x->ys[i]?=some y->eqW x y=true:=λ{vs xs ys n} h1 ih hi ok i x y e1 e2=>by
  have Q4:i<vs.length:=by rw[h1];exact aC e1
  exact ih i _ x (Fj Q4) e1 (hi i _ y (Fj Q4) e2) (jU ok e1)
 induction h with
 |non=>intro n y q _;cases q;rfl
 |bl b=>intro n y q _;cases q;simp[eqW]
 |int i=>intro n y q _;cases q;simp[eqW]
 |str i=>intro n y q _;cases q;simp[eqW]
 |ty=>intro n y q ok;simp[okU]at ok
 |dic=>intro n y q ok;simp[okU]at ok
 |xc=>intro n y q ok;simp[okU]at ok
 |dp=>intro n y q ok;simp[okU]at ok
 | @scr a vs xs hq hl hi ih=>
  intro n y q ok;cases n with
  |zero=>simp[okU]at ok
  |succ n=>
   rw[okU]at ok;cases q with
   |scr Rb Rc Q9=>rw[eqW];have e:=I.list_inj hq Rb;subst e;exact key rfl hl Rc (Tr hl (λi v x a b=>ih i v x a b) Q9 ok)
   |lst Rb Rc Q9=>rw[eqW];have e:=I.list_inj hq (SqL.of Rb);subst e;exact key rfl hl Rc (Tr hl (λi v x a b=>ih i v x a b) Q9 ok)
   |xc Rb kk=>
    exfalso
    obtain⟨_,_,pl,_⟩:=I.list hq;obtain⟨o,n,e,c,_⟩:=pl;exact PySem.W.XcOk.off (I.hok _ _ Rb).1 e c
   |dp Rb kk=>
    exfalso
    obtain⟨_,_,pl,_⟩:=I.list hq;obtain⟨o,n,e,c,_⟩:=pl;obtain⟨⟨_,_,o',_,e',ex,_⟩,_⟩:=I.hok _ _ Rb;rw[e]at e';cases e';rw[ex.1]at c;exact absurd (LV c) (by decide)
   |dic Rb=>
    exfalso
    obtain⟨_,_,pl,_⟩:=I.list hq;obtain⟨o,n,e,c,_⟩:=pl;obtain⟨_,_,_,_,o',_,_,e',ex,_⟩:=I.hok _ _ Rb;rw[e]at e';cases e';rw[ex.1]at c;exact absurd (LV c) (by decide)
   |tup Rb Rc Q9=>
    exfalso
    obtain⟨_,_,pl,_⟩:=I.list hq;obtain⟨_,_,pt,_⟩:=I.tuple Rb;exact SeqAt.ne_of_list_tuple pl.isList pt rfl
 | @tup a vs xs hq hl hi ih=>
  intro n y q ok;cases n with
  |zero=>simp[okU]at ok
  |succ n=>
   rw[okU]at ok;cases q with
   |tup Rb Rc Q9=>rw[eqW];have e:=I.tuple_inj hq Rb;subst e;exact key rfl hl Rc (Tr hl (λi v x a b=>ih i v x a b) Q9 ok)
   |scr Rb Rc Q9=>
    exfalso
    obtain⟨_,_,pl,_⟩:=I.list Rb;obtain⟨_,_,pt,_⟩:=I.tuple hq;exact SeqAt.ne_of_list_tuple pl.isList pt rfl
   |lst Rb Rc Q9=>
    exfalso
    obtain⟨_,_,pl,_⟩:=I.list (SqL.of Rb);obtain⟨_,_,pt,_⟩:=I.tuple hq;exact SeqAt.ne_of_list_tuple pl.isList pt rfl
   |xc Rb kk=>
    exfalso
    obtain⟨_,_,pt,_⟩:=I.tuple hq;obtain⟨o,e,c,_⟩:=pt;exact PySem.W.XcOk.off (I.hok _ _ Rb).1 e c
   |dp Rb kk=>
    exfalso
    obtain⟨_,_,pt,_⟩:=I.tuple hq;obtain⟨o,e,c,_⟩:=pt;obtain⟨⟨_,_,o',_,e',ex,_⟩,_⟩:=I.hok _ _ Rb;rw[e]at e';cases e';rw[ex.1]at c;exact absurd (LV c) (by decide)
   |dic Rb=>
    exfalso
    obtain⟨_,_,pt,_⟩:=I.tuple hq;obtain⟨o,e,c,_⟩:=pt;obtain⟨_,_,_,_,o',_,_,e',ex,_⟩:=I.hok _ _ Rb;rw[e]at e';cases e';rw[ex.1]at c;exact absurd (LV c) (by decide)
 | @lst a vs xs hq hl hi ih=>
  intro n y q ok;cases n with
  |zero=>simp[okU]at ok
  |succ n=>
   rw[okU]at ok;cases q with
   |lst Rb Rc Q9=>rw[eqW];have e:=I.list_inj (SqL.of hq) (SqL.of Rb);subst e;exact key rfl hl Rc (Tr hl (λi v x a b=>ih i v x a b) Q9 ok)
   |scr Rb Rc Q9=>rw[eqW];have e:=I.list_inj (SqL.of hq) Rb;subst e;exact key rfl hl Rc (Tr hl (λi v x a b=>ih i v x a b) Q9 ok)
   |tup Rb Rc Q9=>
    exfalso
    obtain⟨_,_,pl,_⟩:=I.list (SqL.of hq);obtain⟨_,_,pt,_⟩:=I.tuple Rb;exact SeqAt.ne_of_list_tuple pl.isList pt rfl
   |xc Rb kk=>
    exfalso
    rw[hq]at Rb;cases Rb
   |dp Rb kk=>
    exfalso
    rw[hq]at Rb;cases Rb
   |dic Rb=>
    exfalso
    rw[hq]at Rb;cases Rb
theorem IsU.list{X:Cx}{pins:List (FI×Obj)}{σ:St}{H:Hp}{s:Fp}(I:Inv X pins σ H s){a:FI}{xs:List U}{vs:List V}(h:SqL X.K H a vs)(hl:vs.length=xs.length):∃QW:List Fq,aT vs QW/\s.heap.IsList a QW.toArray/\QW.length=xs.length:=by
 obtain⟨QW,r,pl,_⟩:=I.list h;exact⟨QW,r,pl.isList,by rw[<-r.length,hl]⟩
theorem IsU.tup{X:Cx}{pins:List (FI×Obj)}{σ:St}{H:Hp}{s:Fp}(I:Inv X pins σ H s){a:FI}{xs:List U}{vs:List V}(h:SqT X.K H a vs)(hl:vs.length=xs.length):∃QW:List Fq,aT vs QW/\QR s.heap a QW.toArray/\QW.length=xs.length:=by
 obtain⟨QW,r,pl,_⟩:=I.tuple h;exact⟨QW,r,pl,by rw[<-r.length,hl]⟩
variable {pins:List (FI×Obj)}
section
variable {X:Cx}{σ:St}{s:Fp}
theorem cH(I:Inv X pins σ H s){n:Nat}{vs ws:List V}{xs ys:List U}{QW QY:List Fq}(r1:aT vs QW)(r2:aT ws QY)(RC:vs.length=xs.length)(Ri:ws.length=ys.length)
  (h1:∀(i:Nat) (v:V) (x:U),vs[i]?=some v->xs[i]?=some x->Rp X.K H v x) (h2:∀(i:Nat) (v:V) (x:U),ws[i]?=some v->ys[i]?=some x->Rp X.K H v x) (ok1:okUs n xs=true) (ok2:okUs n ys=true) {A:Gs}
  (S8:∀(x y:U) (v w:V) (p q:Fq),Rp X.K H v x->Rp X.K H w y->a9 v p->a9 w q->okU n x=true->okU n y=true->SeqAt.RcAt A.in1 s p q (eqW x y)) (hu:A.units+n+1<Ip)
  (j:Nat) (j1:j<QW.length) (j2:j<QY.length):SeqAt.EqAt A.in1 s QW[j] QY[j] (eqW (xs.getD j .non) (ys.getD j .non)):=by
 have a1:j<vs.length:=by rw[r1.length];exact j1
 have a2:j<ws.length:=by rw[r2.length];exact j2
 have b1:j<xs.length:=by lia
 have b2:j<ys.length:=by lia
 rw[FP,Fj b1,FP,Fj b2,Jd,Jd];have R1:=h1 j vs[j] xs[j] (Fj a1) (Fj b1);have R2:=h2 j ws[j] ys[j] (Fj a2) (Fj b2);obtain⟨u1,e1,q1⟩:=r1.get (Fj a1);obtain⟨u2,e2,q2⟩:=r2.get (Fj a2);rw[Fj j1]at e1;rw[Fj j2]at e2;cases e1;cases e2;have o1:=jU ok1 (Fj b1);have o2:=jU ok2 (Fj b2);generalize vs[j]=v at *;generalize ws[j]=w at *;generalize QW[j]=p at *;generalize QY[j]=q at *;generalize xs[j]=x at *;generalize ys[j]=y at *;have S9:=S8 x y v w p q R1 R2 q1 q2 o1 o2
 have Rm:∀(a b:FI),p=.ref a->q=.ref b->SeqAt.EqAt A.in1 s p q (eqW x y):=λa b ea eb=>by
  subst ea eb;by_cases e:a=b
  ·subst e;have e2:v=w:=q1.inj q2;subst e2;rw[R1.one I R2 o1];exact SeqAt.EqAt.same _
  ·exact SeqAt.EqAt.of_refs e S9
 have Q8:A.in1.units<Ip:=by show A.units+1<_;lia
 cases R1 with
 |non=>
  cases (show p=F4 from q1)
  cases R2 with
  |non=>cases (show q=F4 from q2);exact SeqAt.EqAt.same _
  |bl b=>cases (show q=GF b from q2);exact SeqAt.EqAt.none_bool b
  |int i=>obtain⟨t,rfl⟩:=(show ∃t,q=GB i t from q2);exact SeqAt.EqAt.none_int i t
  |str i=>obtain⟨t,rfl⟩:=(show ∃t,q=GT i t from q2);exact SeqAt.EqAt.none_str i t
  |ty=>simp[okU]at o2
  |dic=>simp[okU]at o2
  |xc=>simp[okU]at o2
  |dp=>simp[okU]at o2
  |scr hq hl hi=>cases q2;obtain⟨_,_,pl,_⟩:=IsU.list I hq hl;exact SeqAt.EqAt.none_list pl Q8
  |tup hq hl hi=>cases q2;obtain⟨_,_,pl,_⟩:=IsU.tup I hq hl;exact SeqAt.EqAt.none_tuple pl Q8
  |lst hq hl hi=>cases q2;obtain⟨_,_,pl,_⟩:=IsU.list I (SqL.of hq) hl;exact SeqAt.EqAt.none_list pl Q8
 |bl c=>
  cases (show p=GF c from q1)
  cases R2 with
  |non=>cases (show q=F4 from q2);exact SeqAt.EqAt.bool_none c
  |bl b=>cases (show q=GF b from q2);exact SeqAt.EqAt.bool_bool c b
  |int i=>obtain⟨t,rfl⟩:=(show ∃t,q=GB i t from q2);exact SeqAt.EqAt.bool_int c i t
  |str i=>obtain⟨t,rfl⟩:=(show ∃t,q=GT i t from q2);exact SeqAt.EqAt.bool_str c i t
  |ty=>simp[okU]at o2
  |dic=>simp[okU]at o2
  |xc=>simp[okU]at o2
  |dp=>simp[okU]at o2
  |scr hq hl hi=>cases q2;obtain⟨_,_,pl,_⟩:=IsU.list I hq hl;exact SeqAt.EqAt.bool_list c pl Q8
  |tup hq hl hi=>cases q2;obtain⟨_,_,pl,_⟩:=IsU.tup I hq hl;exact SeqAt.EqAt.bool_tuple c pl Q8
  |lst hq hl hi=>cases q2;obtain⟨_,_,pl,_⟩:=IsU.list I (SqL.of hq) hl;exact SeqAt.EqAt.bool_list c pl Q8
 |int c=>
  obtain⟨t0,rfl⟩:=(show ∃t,p=GB c t from q1)
  cases R2 with
  |non=>cases (show q=F4 from q2);exact SeqAt.EqAt.int_none c t0
  |bl b=>cases (show q=GF b from q2);exact SeqAt.EqAt.int_bool c t0 b
  |int i=>obtain⟨t,rfl⟩:=(show ∃t,q=GB i t from q2);exact SeqAt.EqAt.int_int c t0 i t
  |str i=>obtain⟨t,rfl⟩:=(show ∃t,q=GT i t from q2);exact SeqAt.EqAt.int_str c t0 i t
  |ty=>simp[okU]at o2
  |dic=>simp[okU]at o2
  |xc=>simp[okU]at o2
  |dp=>simp[okU]at o2
  |scr hq hl hi=>cases q2;obtain⟨_,_,pl,_⟩:=IsU.list I hq hl;exact SeqAt.EqAt.int_list c t0 pl Q8
  |tup hq hl hi=>cases q2;obtain⟨_,_,pl,_⟩:=IsU.tup I hq hl;exact SeqAt.EqAt.int_tuple c t0 pl Q8
  |lst hq hl hi=>cases q2;obtain⟨_,_,pl,_⟩:=IsU.list I (SqL.of hq) hl;exact SeqAt.EqAt.int_list c t0 pl Q8
 |str c=>
  obtain⟨t0,rfl⟩:=(show ∃t,p=GT c t from q1)
  cases R2 with
  |non=>cases (show q=F4 from q2);exact SeqAt.EqAt.str_none c t0
  |bl b=>cases (show q=GF b from q2);exact SeqAt.EqAt.str_bool c t0 b
  |int i=>obtain⟨t,rfl⟩:=(show ∃t,q=GB i t from q2);exact SeqAt.EqAt.str_int c t0 i t
  |str i=>obtain⟨t,rfl⟩:=(show ∃t,q=GT i t from q2);exact SeqAt.EqAt.str_str c t0 i t
  |ty=>simp[okU]at o2
  |dic=>simp[okU]at o2
  |xc=>simp[okU]at o2
  |dp=>simp[okU]at o2
  |scr hq hl hi=>cases q2;obtain⟨_,_,pl,_⟩:=IsU.list I hq hl;exact SeqAt.EqAt.str_list c t0 pl Q8
  |tup hq hl hi=>cases q2;obtain⟨_,_,pl,_⟩:=IsU.tup I hq hl;exact SeqAt.EqAt.str_tuple c t0 pl Q8
  |lst hq hl hi=>cases q2;obtain⟨_,_,pl,_⟩:=IsU.list I (SqL.of hq) hl;exact SeqAt.EqAt.str_list c t0 pl Q8
 |ty=>simp[okU]at o1
 |dic=>simp[okU]at o1
 |xc=>simp[okU]at o1
 |dp=>simp[okU]at o1
 | @scr a vs xs hq hl hi=>
  cases q1;obtain⟨_,_,pl,_⟩:=IsU.list I hq hl;cases R2 with
  |non=>cases (show q=F4 from q2);exact SeqAt.EqAt.list_none pl Q8
  |bl b=>cases (show q=GF b from q2);exact SeqAt.EqAt.list_bool b pl Q8
  |int i=>obtain⟨t,rfl⟩:=(show ∃t,q=GB i t from q2);exact SeqAt.EqAt.list_int i t pl Q8
  |str i=>obtain⟨t,rfl⟩:=(show ∃t,q=GT i t from q2);exact SeqAt.EqAt.list_str i t pl Q8
  |ty=>simp[okU]at o2
  |dic=>simp[okU]at o2
  |xc=>simp[okU]at o2
  |dp=>simp[okU]at o2
  |scr=>exact Rm _ _ rfl q2
  |tup=>exact Rm _ _ rfl q2
  |lst=>exact Rm _ _ rfl q2
 | @lst a vs xs hq hl hi=>
  cases q1;obtain⟨_,_,pl,_⟩:=IsU.list I (SqL.of hq) hl;cases R2 with
  |non=>cases (show q=F4 from q2);exact SeqAt.EqAt.list_none pl Q8
  |bl b=>cases (show q=GF b from q2);exact SeqAt.EqAt.list_bool b pl Q8
  |int i=>obtain⟨t,rfl⟩:=(show ∃t,q=GB i t from q2);exact SeqAt.EqAt.list_int i t pl Q8
  |str i=>obtain⟨t,rfl⟩:=(show ∃t,q=GT i t from q2);exact SeqAt.EqAt.list_str i t pl Q8
  |ty=>simp[okU]at o2
  |dic=>simp[okU]at o2
  |xc=>simp[okU]at o2
  |dp=>simp[okU]at o2
  |scr=>exact Rm _ _ rfl q2
  |tup=>exact Rm _ _ rfl q2
  |lst=>exact Rm _ _ rfl q2
 | @tup a vs xs hq hl hi=>
  cases q1;obtain⟨_,_,pl,_⟩:=IsU.tup I hq hl;cases R2 with
  |non=>cases (show q=F4 from q2);exact SeqAt.EqAt.tuple_none pl Q8
  |bl b=>cases (show q=GF b from q2);exact SeqAt.EqAt.tuple_bool b pl Q8
  |int i=>obtain⟨t,rfl⟩:=(show ∃t,q=GB i t from q2);exact SeqAt.EqAt.tuple_int i t pl Q8
  |str i=>obtain⟨t,rfl⟩:=(show ∃t,q=GT i t from q2);exact SeqAt.EqAt.tuple_str i t pl Q8
  |ty=>simp[okU]at o2
  |dic=>simp[okU]at o2
  |xc=>simp[okU]at o2
  |dp=>simp[okU]at o2
  |scr=>exact Rm _ _ rfl q2
  |tup=>exact Rm _ _ rfl q2
  |lst=>exact Rm _ _ rfl q2
theorem ir{A:Gs}{n:Nat}{a b:FI}{xs ys:List U}{QW QY:List Fq}(p1:s.heap.IsList a QW.toArray)(p2:s.heap.IsList b QY.toArray)(l1:QW.length=xs.length)(l2:QY.length=ys.length)(hu:A.units+n<Ip)
  (he:∀(j:Nat) (j1:j<QW.length) (j2:j<QY.length),SeqAt.EqAt A.in1 s QW[j] QY[j] (eqW (xs.getD j .non) (ys.getD j .non))):SeqAt.RcAt A s (.ref a) (.ref b) (eqWs xs ys):=by
 by_cases hl:QW.length=QY.length
 ·have:=SeqAt.RcAt.lists (A:=A) (s:=s) (e:=λj=>eqW (xs.getD j .non) (ys.getD j .non)) p1 p2 (by simpa using hl) (by lia) (λj h1 h2=>by simpa using he j (by simpa using h1) (by simpa using h2))
  rw[<-dE,<-l1,<-l2,hl,Qy,beq_self_eq_true,NZ]
  rwa [FL,hl]at this
 ·have:=SeqAt.RcAt.lists_lengths (A:=A) (s:=s) p1 p2 (by simpa using hl) (by lia)
  rw[<-dE,<-l1,<-l2,show (QW.length==QY.length)=false by simpa using hl,K8]
  exact this
theorem Av{A:Gs}{n:Nat}{a b:FI}{xs ys:List U}{QW QY:List Fq}(p1:QR s.heap a QW.toArray)(p2:QR s.heap b QY.toArray)(l1:QW.length=xs.length)(l2:QY.length=ys.length)(hu:A.units+n<Ip)
  (he:∀(j:Nat) (j1:j<QW.length) (j2:j<QY.length),SeqAt.EqAt A.in1 s QW[j] QY[j] (eqW (xs.getD j .non) (ys.getD j .non))):SeqAt.RcAt A s (.ref a) (.ref b) (eqWs xs ys):=by
 have:=SeqAt.RcAt.tuples (A:=A) (s:=s) (e:=λj=>eqW (xs.getD j .non) (ys.getD j .non)) p1 p2 (by lia) (λj h1 h2=>by simpa using he j (by simpa using h1) (by simpa using h2))
 rw[FL,FL,l1,l2,dE]at this;exact this
theorem Ec(I:Inv X pins σ H s):∀(n:Nat) (A:Gs) (x y:U) (v w:V) (p q:Fq),Rp X.K H v x->Rp X.K H w y->a9 v p->a9 w q->okU n x=true->okU n y=true->A.units+n<Ip->SeqAt.RcAt A s p q (eqW x y):=by
 intro n
 induction n with
 |zero=>
  intro A x y v w p q R1 R2 q1 q2 o1 o2 hu;cases R1 with
  |non=>
   cases (show p=F4 from q1)
   cases R2 with
   |non=>cases (show q=F4 from q2);exact SeqAt.RcAt.none_none
   |bl b=>cases (show q=GF b from q2);exact SeqAt.RcAt.none_bool b
   |int i=>obtain⟨t,rfl⟩:=(show ∃t,q=GB i t from q2);exact SeqAt.RcAt.none_int i t
   |str i=>obtain⟨t,rfl⟩:=(show ∃t,q=GT i t from q2);exact SeqAt.RcAt.none_str i t
   |_=>simp[okU]at o2
  |bl c=>
   cases (show p=GF c from q1)
   cases R2 with
   |non=>cases (show q=F4 from q2);exact SeqAt.RcAt.bool_none c
   |bl b=>cases (show q=GF b from q2);exact SeqAt.RcAt.bool_bool c b
   |int i=>obtain⟨t,rfl⟩:=(show ∃t,q=GB i t from q2);exact SeqAt.RcAt.bool_int c i t
   |str i=>obtain⟨t,rfl⟩:=(show ∃t,q=GT i t from q2);exact SeqAt.RcAt.bool_str c i t
   |_=>simp[okU]at o2
  |int c=>
   obtain⟨t0,rfl⟩:=(show ∃t,p=GB c t from q1)
   cases R2 with
   |non=>cases (show q=F4 from q2);exact SeqAt.RcAt.int_none c t0
   |bl b=>cases (show q=GF b from q2);exact SeqAt.RcAt.int_bool c t0 b
   |int i=>obtain⟨t,rfl⟩:=(show ∃t,q=GB i t from q2);exact SeqAt.RcAt.int_int c t0 i t
   |str i=>obtain⟨t,rfl⟩:=(show ∃t,q=GT i t from q2);exact SeqAt.RcAt.int_str c t0 i t
   |_=>simp[okU]at o2
  |str c=>
   obtain⟨t0,rfl⟩:=(show ∃t,p=GT c t from q1)
   cases R2 with
   |non=>cases (show q=F4 from q2);exact SeqAt.RcAt.str_none c t0
   |bl b=>cases (show q=GF b from q2);exact SeqAt.RcAt.str_bool c t0 b
   |int i=>obtain⟨t,rfl⟩:=(show ∃t,q=GB i t from q2);exact SeqAt.RcAt.str_int c t0 i t
   |str i=>obtain⟨t,rfl⟩:=(show ∃t,q=GT i t from q2);exact SeqAt.RcAt.str_str c t0 i t
   |_=>simp[okU]at o2
  |_=>simp[okU]at o1
 |succ n ih=>
  intro A x y v w p q R1 R2 q1 q2 o1 o2 hu;have Q8:A.units<Ip:=by lia
  have S8:∀(x y:U) (v w:V) (p q:Fq),Rp X.K H v x->Rp X.K H w y->a9 v p->a9 w q->okU n x=true->okU n y=true->SeqAt.RcAt A.in1 s p q (eqW x y):=λx y v w p q r1 r2 k1 k2 z1 z2=>ih A.in1 x y v w p q r1 r2 k1 k2 z1 z2 (by show A.units+1+n<_;lia)
  cases R1 with
  |non=>
   cases (show p=F4 from q1)
   cases R2 with
   |non=>cases (show q=F4 from q2);exact SeqAt.RcAt.none_none
   |bl b=>cases (show q=GF b from q2);exact SeqAt.RcAt.none_bool b
   |int i=>obtain⟨t,rfl⟩:=(show ∃t,q=GB i t from q2);exact SeqAt.RcAt.none_int i t
   |str i=>obtain⟨t,rfl⟩:=(show ∃t,q=GT i t from q2);exact SeqAt.RcAt.none_str i t
   |ty=>simp[okU]at o2
   |dic=>simp[okU]at o2
   |xc=>simp[okU]at o2
   |dp=>simp[okU]at o2
   |scr hq hl hi=>cases q2;obtain⟨_,_,pl,_⟩:=IsU.list I hq hl;exact SeqAt.RcAt.none_list pl Q8
   |tup hq hl hi=>cases q2;obtain⟨_,_,pl,_⟩:=IsU.tup I hq hl;exact SeqAt.RcAt.none_tuple pl Q8
   |lst hq hl hi=>cases q2;obtain⟨_,_,pl,_⟩:=IsU.list I (SqL.of hq) hl;exact SeqAt.RcAt.none_list pl Q8
  |bl c=>
   cases (show p=GF c from q1)
   cases R2 with
   |non=>cases (show q=F4 from q2);exact SeqAt.RcAt.bool_none c
   |bl b=>cases (show q=GF b from q2);exact SeqAt.RcAt.bool_bool c b
   |int i=>obtain⟨t,rfl⟩:=(show ∃t,q=GB i t from q2);exact SeqAt.RcAt.bool_int c i t
   |str i=>obtain⟨t,rfl⟩:=(show ∃t,q=GT i t from q2);exact SeqAt.RcAt.bool_str c i t
   |ty=>simp[okU]at o2
   |dic=>simp[okU]at o2
   |xc=>simp[okU]at o2
   |dp=>simp[okU]at o2
   |scr hq hl hi=>cases q2;obtain⟨_,_,pl,_⟩:=IsU.list I hq hl;exact SeqAt.RcAt.bool_list c pl Q8
   |tup hq hl hi=>cases q2;obtain⟨_,_,pl,_⟩:=IsU.tup I hq hl;exact SeqAt.RcAt.bool_tuple c pl Q8
   |lst hq hl hi=>cases q2;obtain⟨_,_,pl,_⟩:=IsU.list I (SqL.of hq) hl;exact SeqAt.RcAt.bool_list c pl Q8
  |int c=>
   obtain⟨t0,rfl⟩:=(show ∃t,p=GB c t from q1)
   cases R2 with
   |non=>cases (show q=F4 from q2);exact SeqAt.RcAt.int_none c t0
   |bl b=>cases (show q=GF b from q2);exact SeqAt.RcAt.int_bool c t0 b
   |int i=>obtain⟨t,rfl⟩:=(show ∃t,q=GB i t from q2);exact SeqAt.RcAt.int_int c t0 i t
   |str i=>obtain⟨t,rfl⟩:=(show ∃t,q=GT i t from q2);exact SeqAt.RcAt.int_str c t0 i t
   |ty=>simp[okU]at o2
   |dic=>simp[okU]at o2
   |xc=>simp[okU]at o2
   |dp=>simp[okU]at o2
   |scr hq hl hi=>cases q2;obtain⟨_,_,pl,_⟩:=IsU.list I hq hl;exact SeqAt.RcAt.int_list c t0 pl Q8
   |tup hq hl hi=>cases q2;obtain⟨_,_,pl,_⟩:=IsU.tup I hq hl;exact SeqAt.RcAt.int_tuple c t0 pl Q8
   |lst hq hl hi=>cases q2;obtain⟨_,_,pl,_⟩:=IsU.list I (SqL.of hq) hl;exact SeqAt.RcAt.int_list c t0 pl Q8
  |str c=>
   obtain⟨t0,rfl⟩:=(show ∃t,p=GT c t from q1)
   cases R2 with
   |non=>cases (show q=F4 from q2);exact SeqAt.RcAt.str_none c t0
   |bl b=>cases (show q=GF b from q2);exact SeqAt.RcAt.str_bool c t0 b
   |int i=>obtain⟨t,rfl⟩:=(show ∃t,q=GB i t from q2);exact SeqAt.RcAt.str_int c t0 i t
   |str i=>obtain⟨t,rfl⟩:=(show ∃t,q=GT i t from q2);exact SeqAt.RcAt.str_str c t0 i t
   |ty=>simp[okU]at o2
   |dic=>simp[okU]at o2
   |xc=>simp[okU]at o2
   |dp=>simp[okU]at o2
   |scr hq hl hi=>cases q2;obtain⟨_,_,pl,_⟩:=IsU.list I hq hl;exact SeqAt.RcAt.str_list c t0 pl Q8
   |tup hq hl hi=>cases q2;obtain⟨_,_,pl,_⟩:=IsU.tup I hq hl;exact SeqAt.RcAt.str_tuple c t0 pl Q8
   |lst hq hl hi=>cases q2;obtain⟨_,_,pl,_⟩:=IsU.list I (SqL.of hq) hl;exact SeqAt.RcAt.str_list c t0 pl Q8
  |ty=>simp[okU]at o1
  |dic=>simp[okU]at o1
  |xc=>simp[okU]at o1
  |dp=>simp[okU]at o1
  | @scr a vs xs hq hl hi=>
   cases q1;obtain⟨QW,r1,pl,l1⟩:=IsU.list I hq hl;rw[okU]at o1;cases R2 with
   |non=>cases (show q=F4 from q2);exact SeqAt.RcAt.list_none pl Q8
   |bl b=>cases (show q=GF b from q2);exact SeqAt.RcAt.list_bool b pl Q8
   |int i=>obtain⟨t,rfl⟩:=(show ∃t,q=GB i t from q2);exact SeqAt.RcAt.list_int i t pl Q8
   |str i=>obtain⟨t,rfl⟩:=(show ∃t,q=GT i t from q2);exact SeqAt.RcAt.list_str i t pl Q8
   |ty=>simp[okU]at o2
   |dic=>simp[okU]at o2
   |xc=>simp[okU]at o2
   |dp=>simp[okU]at o2
   |scr Rb Rc Q9=>cases q2;rw[okU]at o2;obtain⟨QY,r2,Rg,l2⟩:=IsU.list I Rb Rc;rw[eqW];exact ir pl Rg l1 l2 hu (cH I r1 r2 hl Rc hi Q9 o1 o2 S8 (by lia))
   |lst Rb Rc Q9=>cases q2;rw[okU]at o2;obtain⟨QY,r2,Rg,l2⟩:=IsU.list I (SqL.of Rb) Rc;rw[eqW];exact ir pl Rg l1 l2 hu (cH I r1 r2 hl Rc hi Q9 o1 o2 S8 (by lia))
   |tup Rb Rc Q9=>cases q2;obtain⟨QY,r2,Rg,l2⟩:=IsU.tup I Rb Rc;exact SeqAt.RcAt.list_tuple pl Rg Q8
  | @lst a vs xs hq hl hi=>
   cases q1;obtain⟨QW,r1,pl,l1⟩:=IsU.list I (SqL.of hq) hl;rw[okU]at o1;cases R2 with
   |non=>cases (show q=F4 from q2);exact SeqAt.RcAt.list_none pl Q8
   |bl b=>cases (show q=GF b from q2);exact SeqAt.RcAt.list_bool b pl Q8
   |int i=>obtain⟨t,rfl⟩:=(show ∃t,q=GB i t from q2);exact SeqAt.RcAt.list_int i t pl Q8
   |str i=>obtain⟨t,rfl⟩:=(show ∃t,q=GT i t from q2);exact SeqAt.RcAt.list_str i t pl Q8
   |ty=>simp[okU]at o2
   |dic=>simp[okU]at o2
   |xc=>simp[okU]at o2
   |dp=>simp[okU]at o2
   |scr Rb Rc Q9=>cases q2;rw[okU]at o2;obtain⟨QY,r2,Rg,l2⟩:=IsU.list I Rb Rc;rw[eqW];exact ir pl Rg l1 l2 hu (cH I r1 r2 hl Rc hi Q9 o1 o2 S8 (by lia))
   |lst Rb Rc Q9=>cases q2;rw[okU]at o2;obtain⟨QY,r2,Rg,l2⟩:=IsU.list I (SqL.of Rb) Rc;rw[eqW];exact ir pl Rg l1 l2 hu (cH I r1 r2 hl Rc hi Q9 o1 o2 S8 (by lia))
   |tup Rb Rc Q9=>cases q2;obtain⟨QY,r2,Rg,l2⟩:=IsU.tup I Rb Rc;exact SeqAt.RcAt.list_tuple pl Rg Q8
  | @tup a vs xs hq hl hi=>
   cases q1;obtain⟨QW,r1,pl,l1⟩:=IsU.tup I hq hl;rw[okU]at o1;cases R2 with
   |non=>cases (show q=F4 from q2);exact SeqAt.RcAt.tuple_none pl Q8
   |bl b=>cases (show q=GF b from q2);exact SeqAt.RcAt.tuple_bool b pl Q8
   |int i=>obtain⟨t,rfl⟩:=(show ∃t,q=GB i t from q2);exact SeqAt.RcAt.tuple_int i t pl Q8
   |str i=>obtain⟨t,rfl⟩:=(show ∃t,q=GT i t from q2);exact SeqAt.RcAt.tuple_str i t pl Q8
   |ty=>simp[okU]at o2
   |dic=>simp[okU]at o2
   |xc=>simp[okU]at o2
   |dp=>simp[okU]at o2
   |scr Rb Rc Q9=>cases q2;obtain⟨QY,r2,Rg,l2⟩:=IsU.list I Rb Rc;exact SeqAt.RcAt.tuple_list pl Rg Q8
   |lst Rb Rc Q9=>cases q2;obtain⟨QY,r2,Rg,l2⟩:=IsU.list I (SqL.of Rb) Rc;exact SeqAt.RcAt.tuple_list pl Rg Q8
   |tup Rb Rc Q9=>cases q2;rw[okU]at o2;obtain⟨QY,r2,Rg,l2⟩:=IsU.tup I Rb Rc;rw[eqW];exact Av pl Rg l1 l2 hu (cH I r1 r2 hl Rc hi Q9 o1 o2 S8 (by lia))
theorem ft{A:Gs}{n:Nat}{a b:FI}{xs ys:List U}{QW QY:List Fq}(p1:s.heap.IsList a QW.toArray)(p2:s.heap.IsList b QY.toArray)(l1:QW.length=xs.length)(l2:QY.length=ys.length)(hu:A.units+n<Ip)
  (he:∀(j:Nat) (j1:j<QW.length) (j2:j<QY.length),SeqAt.EqAt A.in1 s QW[j] QY[j] (eqW (xs.getD j .non) (ys.getD j .non))):SeqAt.RcNeAt A s (.ref a) (.ref b) (!eqWs xs ys):=by
 by_cases hl:QW.length=QY.length
 ·have:=SeqAt.RcNeAt.lists (A:=A) (s:=s) (e:=λj=>eqW (xs.getD j .non) (ys.getD j .non)) p1 p2 (by simpa using hl) (by lia) (λj h1 h2=>by simpa using he j (by simpa using h1) (by simpa using h2))
  rw[<-dE,<-l1,<-l2,hl,Qy,beq_self_eq_true,NZ]
  rwa [FL,hl]at this
 ·have:=SeqAt.RcNeAt.lists_lengths (A:=A) (s:=s) p1 p2 (by simpa using hl) (by lia)
  rw[<-dE,<-l1,<-l2,show (QW.length==QY.length)=false by simpa using hl,K8]
  exact this
theorem uU{A:Gs}{n:Nat}{a b:FI}{xs ys:List U}{QW QY:List Fq}(p1:QR s.heap a QW.toArray)(p2:QR s.heap b QY.toArray)(l1:QW.length=xs.length)(l2:QY.length=ys.length)(hu:A.units+n<Ip)
  (he:∀(j:Nat) (j1:j<QW.length) (j2:j<QY.length),SeqAt.EqAt A.in1 s QW[j] QY[j] (eqW (xs.getD j .non) (ys.getD j .non))):SeqAt.RcNeAt A s (.ref a) (.ref b) (!eqWs xs ys):=by
 have:=SeqAt.RcNeAt.tuples (A:=A) (s:=s) (e:=λj=>eqW (xs.getD j .non) (ys.getD j .non)) p1 p2 (by lia) (λj h1 h2=>by simpa using he j (by simpa using h1) (by simpa using h2))
 rw[FL,FL,l1,l2,dE]at this;exact this
theorem Cq(I:Inv X pins σ H s)(n:Nat)(A:Gs)(x y:U)(v w:V)(p q:Fq)(R1:Rp X.K H v x)(R2:Rp X.K H w y)(q1:a9 v p)(q2:a9 w q)(o1:okU (n+1) x=true)(o2:okU (n+1) y=true)(hu:A.units+(n+1)<Ip):SeqAt.RcNeAt A s p q (!eqW x y):=by
 have Q8:A.units<Ip:=by lia
 have S8:∀(x y:U) (v w:V) (p q:Fq),Rp X.K H v x->Rp X.K H w y->a9 v p->a9 w q->okU n x=true->okU n y=true->SeqAt.RcAt A.in1 s p q (eqW x y):=λx y v w p q r1 r2 k1 k2 z1 z2=>Ec I n A.in1 x y v w p q r1 r2 k1 k2 z1 z2 (by show A.units+1+n<_;lia)
 cases R1 with
 |ty=>simp[okU]at o1
 |dic=>simp[okU]at o1
 |xc=>simp[okU]at o1
 |dp=>simp[okU]at o1
 |non=>
  cases (show p=F4 from q1)
  cases R2 with
  |ty=>simp[okU]at o2
  |dic=>simp[okU]at o2
  |xc=>simp[okU]at o2
  |dp=>simp[okU]at o2
  |non=>cases (show q=F4 from q2);exact SeqAt.RcNeAt.none_none
  |bl c2=>cases (show q=GF c2 from q2);exact SeqAt.RcNeAt.none_bool c2
  |int c2=>obtain⟨t2,rfl⟩:=(show ∃t,q=GB c2 t from q2);exact SeqAt.RcNeAt.none_int c2 t2
  |str c2=>obtain⟨t2,rfl⟩:=(show ∃t,q=GT c2 t from q2);exact SeqAt.RcNeAt.none_str c2 t2
  |scr Ro Ri RS=>cases q2;obtain⟨QY,r2,Rg,l2⟩:=IsU.list I Ro Ri;exact SeqAt.RcNeAt.none_list Rg Q8
  |tup Ro Ri RS=>cases q2;obtain⟨QY,r2,Rg,l2⟩:=IsU.tup I Ro Ri;exact SeqAt.RcNeAt.none_tuple Rg Q8
  |lst Ro Ri RS=>cases q2;obtain⟨QY,r2,Rg,l2⟩:=IsU.list I (SqL.of Ro) Ri;exact SeqAt.RcNeAt.none_list Rg Q8
 |bl c1=>
  cases (show p=GF c1 from q1)
  cases R2 with
  |ty=>simp[okU]at o2
  |dic=>simp[okU]at o2
  |xc=>simp[okU]at o2
  |dp=>simp[okU]at o2
  |non=>cases (show q=F4 from q2);exact SeqAt.RcNeAt.bool_none c1
  |bl c2=>cases (show q=GF c2 from q2);exact SeqAt.RcNeAt.bool_bool c1 c2
  |int c2=>obtain⟨t2,rfl⟩:=(show ∃t,q=GB c2 t from q2);exact SeqAt.RcNeAt.bool_int c1 c2 t2
  |str c2=>obtain⟨t2,rfl⟩:=(show ∃t,q=GT c2 t from q2);exact SeqAt.RcNeAt.bool_str c1 c2 t2
  |scr Ro Ri RS=>cases q2;obtain⟨QY,r2,Rg,l2⟩:=IsU.list I Ro Ri;exact SeqAt.RcNeAt.bool_list c1 Rg Q8
  |tup Ro Ri RS=>cases q2;obtain⟨QY,r2,Rg,l2⟩:=IsU.tup I Ro Ri;exact SeqAt.RcNeAt.bool_tuple c1 Rg Q8
  |lst Ro Ri RS=>cases q2;obtain⟨QY,r2,Rg,l2⟩:=IsU.list I (SqL.of Ro) Ri;exact SeqAt.RcNeAt.bool_list c1 Rg Q8
 |int c1=>
  obtain⟨t1,rfl⟩:=(show ∃t,p=GB c1 t from q1)
  cases R2 with
  |ty=>simp[okU]at o2
  |dic=>simp[okU]at o2
  |xc=>simp[okU]at o2
  |dp=>simp[okU]at o2
  |non=>cases (show q=F4 from q2);exact SeqAt.RcNeAt.int_none c1 t1
  |bl c2=>cases (show q=GF c2 from q2);exact SeqAt.RcNeAt.int_bool c1 t1 c2
  |int c2=>obtain⟨t2,rfl⟩:=(show ∃t,q=GB c2 t from q2);exact SeqAt.RcNeAt.int_int c1 t1 c2 t2
  |str c2=>obtain⟨t2,rfl⟩:=(show ∃t,q=GT c2 t from q2);exact SeqAt.RcNeAt.int_str c1 t1 c2 t2
  |scr Ro Ri RS=>cases q2;obtain⟨QY,r2,Rg,l2⟩:=IsU.list I Ro Ri;exact SeqAt.RcNeAt.int_list c1 t1 Rg Q8
  |tup Ro Ri RS=>cases q2;obtain⟨QY,r2,Rg,l2⟩:=IsU.tup I Ro Ri;exact SeqAt.RcNeAt.int_tuple c1 t1 Rg Q8
  |lst Ro Ri RS=>cases q2;obtain⟨QY,r2,Rg,l2⟩:=IsU.list I (SqL.of Ro) Ri;exact SeqAt.RcNeAt.int_list c1 t1 Rg Q8
 |str c1=>
  obtain⟨t1,rfl⟩:=(show ∃t,p=GT c1 t from q1)
  cases R2 with
  |ty=>simp[okU]at o2
  |dic=>simp[okU]at o2
  |xc=>simp[okU]at o2
  |dp=>simp[okU]at o2
  |non=>cases (show q=F4 from q2);exact SeqAt.RcNeAt.str_none c1 t1
  |bl c2=>cases (show q=GF c2 from q2);exact SeqAt.RcNeAt.str_bool c1 t1 c2
  |int c2=>obtain⟨t2,rfl⟩:=(show ∃t,q=GB c2 t from q2);exact SeqAt.RcNeAt.str_int c1 t1 c2 t2
  |str c2=>obtain⟨t2,rfl⟩:=(show ∃t,q=GT c2 t from q2);exact SeqAt.RcNeAt.str_str c1 t1 c2 t2
  |scr Ro Ri RS=>cases q2;obtain⟨QY,r2,Rg,l2⟩:=IsU.list I Ro Ri;exact SeqAt.RcNeAt.str_list c1 t1 Rg Q8
  |tup Ro Ri RS=>cases q2;obtain⟨QY,r2,Rg,l2⟩:=IsU.tup I Ro Ri;exact SeqAt.RcNeAt.str_tuple c1 t1 Rg Q8
  |lst Ro Ri RS=>cases q2;obtain⟨QY,r2,Rg,l2⟩:=IsU.list I (SqL.of Ro) Ri;exact SeqAt.RcNeAt.str_list c1 t1 Rg Q8
 |scr hq1 RC hi1=>
  cases q1;obtain⟨its1,r1,RT,l1⟩:=IsU.list I hq1 RC;cases R2 with
  |ty=>simp[okU]at o2
  |dic=>simp[okU]at o2
  |xc=>simp[okU]at o2
  |dp=>simp[okU]at o2
  |non=>cases (show q=F4 from q2);exact SeqAt.RcNeAt.list_none RT Q8
  |bl c2=>cases (show q=GF c2 from q2);exact SeqAt.RcNeAt.list_bool c2 RT Q8
  |int c2=>obtain⟨t2,rfl⟩:=(show ∃t,q=GB c2 t from q2);exact SeqAt.RcNeAt.list_int c2 t2 RT Q8
  |str c2=>obtain⟨t2,rfl⟩:=(show ∃t,q=GT c2 t from q2);exact SeqAt.RcNeAt.list_str c2 t2 RT Q8
  |scr Ro Ri RS=>cases q2;obtain⟨QY,r2,Rg,l2⟩:=IsU.list I Ro Ri;rw[okU]at o1;rw[okU]at o2;rw[eqW];exact ft RT Rg l1 l2 hu (cH I r1 r2 RC Ri hi1 RS o1 o2 S8 (by lia))
  |tup Ro Ri RS=>cases q2;obtain⟨QY,r2,Rg,l2⟩:=IsU.tup I Ro Ri;exact SeqAt.RcNeAt.list_tuple RT Rg Q8
  |lst Ro Ri RS=>cases q2;obtain⟨QY,r2,Rg,l2⟩:=IsU.list I (SqL.of Ro) Ri;rw[okU]at o1;rw[okU]at o2;rw[eqW];exact ft RT Rg l1 l2 hu (cH I r1 r2 RC Ri hi1 RS o1 o2 S8 (by lia))
 |tup hq1 RC hi1=>
  cases q1;obtain⟨its1,r1,RT,l1⟩:=IsU.tup I hq1 RC;cases R2 with
  |ty=>simp[okU]at o2
  |dic=>simp[okU]at o2
  |xc=>simp[okU]at o2
  |dp=>simp[okU]at o2
  |non=>cases (show q=F4 from q2);exact SeqAt.RcNeAt.tuple_none RT Q8
  |bl c2=>cases (show q=GF c2 from q2);exact SeqAt.RcNeAt.tuple_bool c2 RT Q8
  |int c2=>obtain⟨t2,rfl⟩:=(show ∃t,q=GB c2 t from q2);exact SeqAt.RcNeAt.tuple_int c2 t2 RT Q8
  |str c2=>obtain⟨t2,rfl⟩:=(show ∃t,q=GT c2 t from q2);exact SeqAt.RcNeAt.tuple_str c2 t2 RT Q8
  |scr Ro Ri RS=>cases q2;obtain⟨QY,r2,Rg,l2⟩:=IsU.list I Ro Ri;exact SeqAt.RcNeAt.tuple_list RT Rg Q8
  |tup Ro Ri RS=>cases q2;obtain⟨QY,r2,Rg,l2⟩:=IsU.tup I Ro Ri;rw[okU]at o1;rw[okU]at o2;rw[eqW];exact uU RT Rg l1 l2 hu (cH I r1 r2 RC Ri hi1 RS o1 o2 S8 (by lia))
  |lst Ro Ri RS=>cases q2;obtain⟨QY,r2,Rg,l2⟩:=IsU.list I (SqL.of Ro) Ri;exact SeqAt.RcNeAt.tuple_list RT Rg Q8
 |lst hq1 RC hi1=>
  cases q1;obtain⟨its1,r1,RT,l1⟩:=IsU.list I (SqL.of hq1) RC;cases R2 with
  |ty=>simp[okU]at o2
  |dic=>simp[okU]at o2
  |xc=>simp[okU]at o2
  |dp=>simp[okU]at o2
  |non=>cases (show q=F4 from q2);exact SeqAt.RcNeAt.list_none RT Q8
  |bl c2=>cases (show q=GF c2 from q2);exact SeqAt.RcNeAt.list_bool c2 RT Q8
  |int c2=>obtain⟨t2,rfl⟩:=(show ∃t,q=GB c2 t from q2);exact SeqAt.RcNeAt.list_int c2 t2 RT Q8
  |str c2=>obtain⟨t2,rfl⟩:=(show ∃t,q=GT c2 t from q2);exact SeqAt.RcNeAt.list_str c2 t2 RT Q8
  |scr Ro Ri RS=>cases q2;obtain⟨QY,r2,Rg,l2⟩:=IsU.list I Ro Ri;rw[okU]at o1;rw[okU]at o2;rw[eqW];exact ft RT Rg l1 l2 hu (cH I r1 r2 RC Ri hi1 RS o1 o2 S8 (by lia))
  |tup Ro Ri RS=>cases q2;obtain⟨QY,r2,Rg,l2⟩:=IsU.tup I Ro Ri;exact SeqAt.RcNeAt.list_tuple RT Rg Q8
  |lst Ro Ri RS=>cases q2;obtain⟨QY,r2,Rg,l2⟩:=IsU.list I (SqL.of Ro) Ri;rw[okU]at o1;rw[okU]at o2;rw[eqW];exact ft RT Rg l1 l2 hu (cH I r1 r2 RC Ri hi1 RS o1 o2 S8 (by lia))
end
def OpS(X:Cx)(f:Fq->Fq->Sem Fq)(x y:U)(z:V):Prop:=OpR X f λv w H Q=>Rp X.K H v x/\Rp X.K H w y/\Q z H
section
variable {X:Cx}{ps:PSt}{a b c:Expr}{rest:List Expr}{p:Pos}{x y:U}{i j:Int}{k m:Bool}
theorem Rp.out{K:Fm}{H:Hp}{O:List FI}{v:V}{u:U}(h:Rp K (hid H O) v u):Rp K H v u:=h.same aq
theorem jn{op:OT}(ho:OpS X (Hj op) x y (.bl k))(ha:Ev X H0 O0 ps a x)(hb:Ev X H0 O0 ps b y)(hm:HZ op b=false:=by first |exact m9 _ |with_unfolding_all rfl):Ev X H0 O0 ps (.Compare a [op] [b] pos) (.bl k):=
 PE.mono (AO ho ha hb hm) λσ H Q ⟨O,R,q⟩=>two R (λ_ _ _ z=>z) (λ_ _ _ z=>z) λv w H' s _ r1 r2=>⟨r1.out,r2.out,q _ H' s (.bl _)⟩
theorem aI{op:OT}(ho:OpS X (Hj op) x y (.bl k))(ha:Ev X H0 O0 ps a x)(hb:Ev X H0 O0 ps b y)(hm:HZ op b=false:=by first |exact m9 _ |with_unfolding_all rfl):Tt X H0 O0 ps (.Compare a [op] [b] pos) k:=
 PT.mono (z8 ho ha hb hm) λσ H Q ⟨O,R,q⟩=>two R (λ_ _ _ z=>z) (λ_ _ _ z=>z) λv w H' s _ r1 r2=>⟨r1.out,r2.out,_,rfl,q H' s⟩
theorem x9{op:OT}{g:Int->Int->Bool}(ho:OpR X (Hj op) (rI0 λi j=>.bl (g i j))):OpS X (Hj op) (.int i) (.int j) (.bl (g i j)):=by
 intro pins s σ H v w p q Q I r1 r2 h;obtain⟨h1,h2,h3⟩:=h;cases h1;cases h2;exact ho pins s σ H _ _ _ _ Q I r1 r2 ⟨i,j,rfl,rfl,h3⟩
theorem ic:OpS X (Hj .Lt) (.int i) (.int j) (.bl (decide (i<j))):=x9 Ep
theorem EN:OpS X (Hj .LtE) (.int i) (.int j) (.bl (decide (i<=j))):=x9 DQ
theorem iE:OpS X (Hj .Gt) (.int i) (.int j) (.bl (decide (j<i))):=x9 DY
theorem Ct(hu:X.A.units+10<Ip)(h1:okU 9 x=true)(h2:okU 9 y=true):OpS X (Hj .Eq) x y (.bl (eqW x y)):=by
 intro pins s σ H v w p q Q I r1 r2 h;obtain⟨k1,k2,k3⟩:=h;exact Ec I 9 X.A x y v w p q k1 k2 r1 r2 h1 h2 (by lia) X.prog X.w _ _ (aW I k3 rfl)
theorem E2(hu:X.A.units+10<Ip)(h1:okU 9 x=true)(h2:okU 9 y=true):OpS X (Hj .NotEq) x y (.bl (!eqW x y)):=by
 intro pins s σ H v w p q Q I r1 r2 h;obtain⟨k1,k2,k3⟩:=h;exact Cq I 8 X.A x y v w p q k1 k2 r1 r2 h1 h2 (by lia) X.prog X.w _ _ (aW I k3 rfl)
theorem cB:OpS X (Hj .Eq) (.int i) (.int j) (.bl (decide (i=j))):=by
 intro pins s σ H v w p q Q I r1 r2 h;obtain⟨h1,h2,h3⟩:=h;cases h1;cases h2;exact Ei pins s σ H _ _ _ _ Q I r1 r2 ⟨rfl,by rw[jK,<-Le]at *;simpa [Le] using h3⟩
theorem sF:OpS X (Hj .NotEq) (.int i) (.int j) (.bl (!decide (i=j))):=by
 intro pins s σ H v w p q Q I r1 r2 h;obtain⟨h1,h2,h3⟩:=h;cases h1;cases h2;exact EC pins s σ H _ _ _ _ Q I r1 r2 ⟨rfl,by rw[jK];simpa [Le] using h3⟩
theorem EH{j Rf}(ha:Ev X H0 O0 ps a x)(h:∀(K:Fm) (H:Hp) (v:V),Rp K H v x->decide (v=V.non)=k):Tt X H0 O0 ps (.Compare a [.Is] [.Constant .none j Rf] pos) k:=
 PT.mono (rF (C7 ha)) λσ H Q ⟨O,R,q⟩=>⟨O,R,λv H' s r=>⟨_,rfl,by rw[h _ _ v r];exact q H' s⟩⟩
def B0:U->Bool | .non=>true |_=>false
theorem Dl(x:U):∀(K:Fm) (H:Hp) (v:V),Rp K H v x->decide (v=V.non)=B0 x:=λK H v r=>by
 cases r <;>simp[B0]
theorem fY(h:Ev X H0 O0 ps e (.bl k))(he:∀RZ,isTrue e X.env RZ=(do let v <-RZ;standAt e.pos;OU [v] (truthy v)):=by intro _;rfl):Tt X H0 O0 ps e k:=
 PT.mono (CF h he) λσ H Q ⟨O,R,q⟩=>⟨O,R,λv H' s r=>by cases r;exact⟨_,rfl,q H' s⟩⟩
theorem iS(h:Tt X H0 O0 ps a k):Tt X H0 O0 ps (.UnaryOp .Not a pos) (!k):=PT.mono (Du h) λσ H Q ⟨O,R,q⟩=>⟨O,R,q⟩
theorem Tw.t(h:Tw X H0 O0 ps e k):Tt X H0 O0 ps e k:=h.pt
theorem rq(h:Tt X H0 O0 ps a k):Tw X H0 O0 ps (.BoolOp .And [a] pos) k:=AM h
theorem ux(h:Tt X H0 O0 ps a k):Tw X H0 O0 ps (.BoolOp .Or [a] pos) k:=Ce h
theorem sq(ha:Tt X H0 O0 ps a k)(hb:k=true->Tw X H0 O0 ps (.BoolOp .And (b::rest) pos) m):Tw X H0 O0 ps (.BoolOp .And (a::b::rest) pos) (k && m):=by
 cases k with
 |true=>exact PW.mono (yV ha (hb rfl)) λσ H Q ⟨O,R,q⟩=>⟨O,R,λH' s=>by exact vL (⟨O,R.go s,λH2 s2=>q H2 (s.trans s2)⟩)⟩
 |false=>exact PW.mono (yV ha (λ_ _ _ _ _ _ _ h=>h.elim) (tB':=λ_ _ _=>False)) λσ H Q ⟨O,R,q⟩=>⟨O,R,λH' s=>by exact o7 (q H' s)⟩
theorem A8(ha:Tt X H0 O0 ps a k)(hb:k=false->Tw X H0 O0 ps (.BoolOp .Or (b::rest) pos) m):Tw X H0 O0 ps (.BoolOp .Or (a::b::rest) pos) (k ||m):=by
 cases k with
 |false=>exact PW.mono (B2 ha (hb rfl)) λσ H Q ⟨O,R,q⟩=>⟨O,R,λH' s=>by exact o7 (⟨O,R.go s,λH2 s2=>q H2 (s.trans s2)⟩)⟩
 |true=>exact PW.mono (B2 ha (λ_ _ _ _ _ _ _ h=>h.elim) (tB':=λ_ _ _=>False)) λσ H Q ⟨O,R,q⟩=>⟨O,R,λH' s=>by exact vL (q H' s)⟩
theorem r8{op}(h:Ev X H0 O0 ps a u):Ev X H0 O0 ps (.BoolOp op [a] pos) u:=Cr h
theorem kX(ha:Ev X H0 O0 ps a (.bl k))(hb:k=true->Ev X H0 O0 ps (.BoolOp .And (b::rest) pos) (.bl m)):Ev X H0 O0 ps (.BoolOp .And (a::b::rest) pos) (.bl (k && m)):=by
 cases k with
 |true=>exact PE.mono (wu ha (hb rfl)) λσ H Q ⟨O,R,q⟩=>⟨O,R,λv H' s r=>by cases r;exact⟨_,rfl,by exact vL (⟨O,R.go s,λv H2 s2 r2=>q v H2 (s.trans s2) r2⟩)⟩⟩
 |false=>exact PE.mono (wu ha (λ_ _ _ _ _ _ h=>h.elim) (tb:=λ_ _ _=>False)) λσ H Q ⟨O,R,q⟩=>⟨O,R,λv H' s r=>by cases r;exact⟨_,rfl,by exact o7 (q _ H' s (.bl _))⟩⟩
theorem BI(ha:Ev X H0 O0 ps a (.bl k)):Ev X H0 O0 ps (.UnaryOp .Not a pos) (.bl (!k)):=PE.mono (CP ha) λσ H Q ⟨O,R,q⟩=>⟨O,R,λv H' s r=>by cases r;exact⟨_,rfl,q _ H' s (.bl _)⟩⟩
theorem ao:EvA X H0 O0 ps [] []:=PA.mono gB λσ H Q ⟨O,R,q⟩=>q [] H (.refl H) .nil
theorem ah(ha:Ev X H0 O0 ps e u)(hr:EvA X H0 O0 ps es us)(hs:FH (e::es) X.env=(false,JQ e X.env)::FH es X.env:=by rfl):EvA X H0 O0 ps (e::es) (u::us):=
 PA.mono (dM ha hr hs) λσ H Q ⟨O,R,q⟩=>⟨O,R,λv H1 s1 r1=>⟨O,R.go s1,λvs H2 s2 r2=>q _ H2 (s1.trans s2) (.cons (r1.same (aY s2)) r2)⟩⟩
theorem Rs.hidnew{K:Fm}{σ:St}{H:Hp}{O:List FI}(R:Rs K H0 O0 ps σ H O){p:FI}{o:HO}(n:H p=none):hid (upd H p o) O p=some o:=dG aO λz=>R.dom p z n
theorem Ee{x1}(h:EvA X H0 O0 ps es us)(hz:us.length<=sizeLine:=by first |decide | (simp only[F8,JI];decide)):Ev X H0 O0 ps (.Tuple es x1 pos) (.tup us):=
 PE.mono (Cm h) λσ H Q ⟨O,R,q⟩=>⟨O,R,λvs H1 s1 r1=>⟨by rw[r1.len];exact hz,λp hp=>by
  have s2:=aQ hp (.tup vs);have r2:=r1.same (aY (O:=O) s2);exact q _ _ (s1.trans s2) (.tup (SqT.of ((R.go s1).hidnew hp)) r2.len r2.at_)⟩⟩
theorem DN(h:EvA X H0 O0 ps es us)(hz:us.length<=sizeLine:=by first |decide | (simp only[F8,JI];decide)):EvN X H0 O0 ps (.List es pos) us:=
 PE.mono (DC h) λσ H Q ⟨O,R,q⟩=>⟨O,R,λvs H1 s1 r1=>⟨by rw[r1.len];exact hz,λp hp=>by
  exact q p vs _ (s1.trans (aQ hp _)) (s1.free hp) aO (r1.same (bF (aQ hp _) hp))⟩⟩
theorem aB(ha:Ev X H0 O0 ps a x)(hb:Ev X H0 O0 ps b (.int i))(hx:x.items=some xs)(hi:atI xs i=some u)(hs:oh b:=by intro _ _;rfl):Ev X H0 O0 ps (.Subscript a b pos) u:=
 PE.mono (BU (t4.or CZ) ha hb hs) λσ H Q ⟨O,R,q⟩=>two (y:=.int i) R (λ_ _ _ z=>z) (λ_ _ _ z=>z) λv w H' s _ r1 r2=>by
  cases r2;cases r1 with
  |scr h hl hh=>cases hx;obtain⟨z,h1,h2⟩:=Rps.atI ⟨hl,hh⟩ hi;exact .inl ⟨_,_,i,z,rfl,rfl,aq.seq h,h1,q z H' s h2⟩
  |lst h hl hh=>cases hx;obtain⟨z,h1,h2⟩:=Rps.atI ⟨hl,hh⟩ hi;exact .inl ⟨_,_,i,z,rfl,rfl,aq.seq (SqL.of h),h1,q z H' s h2⟩
  |tup h hl hh=>cases hx;obtain⟨z,h1,h2⟩:=Rps.atI ⟨hl,hh⟩ hi;exact .inr ⟨_,_,i,z,rfl,rfl,aq.tup h,h1,q z H' s h2⟩
  |_=>cases hx
theorem jx(n:Nat){x:Str}(h:ps[n]?=some (some (.own xs)))(hb:Ev X H0 O0 ps b (.int i))(hi:atI xs i=some u)(hN:X.N[n]?=some x:=by rfl)(hv:Vis X.env.scope x:=by first |exact Or.inl rfl |exact Or.inr (Or.inl rfl) |exact Or.inr (Or.inr rfl))(hd:(x==("__debug__":Str))=false:=by decide)
  (RR:(x==("__classdict__":Str))=false:=by decide) (hs:oh b:=by intro _ _;rfl):Ev X H0 O0 ps (.Subscript (.Name x p) b pos) u:=
 PE.mono (BU t4 (ef hN hv hd RR) hb hs) λσ H Q ⟨O,R,q⟩=>by
  obtain⟨v,h1,a,vs,rfl,h3,h4,h5,h6⟩:=R.at_ n _ h;refine⟨_,h1,O,R,λw H' s r=>?_⟩
  cases r;obtain⟨z,k1,k2⟩:=h6.atI hi;exact⟨a,vs,i,z,rfl,rfl,SqL.of (s _ _ h5),k1,q z H' s (k2.same (aY s))⟩
def fT(X:Cx)(f:Fq)(us:List U)(u:U):Prop:=d_ X f λvs H Q=>∃O,(∀a∈O,H a≠none)/\Rps X.K (hid H O) vs us/\∀v H',aL H H'->Rp X.K (hid H' O) v u->Q v H'
def BX(X:Cx)(f:Fq)(us:List U)(xs:List U):Prop:=d_ X f λvs H Q=>∃O,(∀a∈O,H a≠none)/\Rps X.K (hid H O) vs us/\∀a vs H',aL H H'->H a=none->H' a=some (.lst vs)->Rps X.K (hid H' (a::O)) vs xs->Q (.ref a) H'
theorem av{id:String}{f:Str}(hc:fT X (.builtin id) us u)(hg:Gl X f)(hm:X.mg f=none)(hv:HL f=some (.builtin id))(ha:EvA X H0 O0 ps (e::es) us)(hn:f≠"__name__":=by decide)(Sk:(f==("__debug__":Str))=false:=by decide)
  (he:FH (e::es) X.env=(false,JQ e X.env)::FH es X.env:=by rfl) (RH:(J5 pos (FH es X.env)).any (·.1)=false:=by rfl):Ev X H0 O0 ps (.Call (.Name f p) (e::es) [] pos) u:=
 PE.mono (pQ hc hg hm hv ha hn Sk he RH) λσ H Q ⟨O,R,q⟩=>⟨O,R,λvs H1 s1 r1=>⟨O,(R.go s1).dom,r1,λv H2 s2 r2=>q v H2 (s1.trans s2) r2⟩⟩
theorem Ay{id:String}{f:Str}(hc:fT X (.type id) us u)(hg:Gl X f)(hm:X.mg f=none)(hv:HL f=some (.type id))(ha:EvA X H0 O0 ps (e::es) us)(hn:f≠"__name__":=by decide)(Sk:(f==("__debug__":Str))=false:=by decide)
  (he:FH (e::es) X.env=(false,JQ e X.env)::FH es X.env:=by rfl) (RH:(J5 pos (FH es X.env)).any (·.1)=false:=by rfl):Ev X H0 O0 ps (.Call (.Name f p) (e::es) [] pos) u:=
 PE.mono (lY hc hg hm hv ha hn Sk he RH) λσ H Q ⟨O,R,q⟩=>⟨O,R,λvs H1 s1 r1=>⟨O,(R.go s1).dom,r1,λv H2 s2 r2=>q v H2 (s1.trans s2) r2⟩⟩
theorem uh{id:String}{f:Str}(hc:BX X (.type id) us xs)(hg:Gl X f)(hm:X.mg f=none)(hv:HL f=some (.type id))(ha:EvA X H0 O0 ps (e::es) us)(hn:f≠"__name__":=by decide)(Sk:(f==("__debug__":Str))=false:=by decide)
  (he:FH (e::es) X.env=(false,JQ e X.env)::FH es X.env:=by rfl) (RH:(J5 pos (FH es X.env)).any (·.1)=false:=by rfl):EvN X H0 O0 ps (.Call (.Name f p) (e::es) [] pos) xs:=
 PE.mono (lY hc hg hm hv ha hn Sk he RH) λσ H Q ⟨O,R,q⟩=>⟨O,R,λvs H1 s1 r1=>⟨O,(R.go s1).dom,r1,λa vs H2 s2 n h r2=>q a vs H2 (s1.trans s2) (s1.free n) h r2⟩⟩
theorem cA{K:Fm}{H:Hp}{vs:List V}(h:Rps K H vs [x]):∃v,vs=[v]/\Rp K H v x:=by
 obtain⟨v,ws,rfl,h1,h2⟩:=h.cons_inv;rw[h2.nil_inv];exact⟨v,rfl,h1⟩
theorem iK{K:Fm}{H:Hp}{vs:List V}(h:Rps K H vs [x,y]):∃v w,vs=[v,w]/\Rp K H v x/\Rp K H w y:=by
 obtain⟨v,ws,rfl,h1,h2⟩:=h.cons_inv;obtain⟨w,rfl,h3⟩:=cA h2;exact⟨v,w,rfl,h1,h3⟩
theorem d_.mono{f:Fq}{r r':List V->Hp->VK->Prop}(h:d_ X f r)(m:∀vs H Q,r' vs H Q->r vs H Q):d_ X f r':=λpins s σ H vs us Q I v q=>h pins s σ H vs us Q I v (m vs H Q q)
theorem oy{K:Fm}{H:Hp}{v:V}(h:Rp K H v x)(hx:x.items=some xs):∃a vs,v=.ref a/\(SqL K H a vs\/SqT K H a vs)/\Rps K H vs xs:=by
 cases h with
 |scr h hl hh=>cases hx;exact⟨_,_,rfl,.inl h,hl,hh⟩
 |lst h hl hh=>cases hx;exact⟨_,_,rfl,.inl (SqL.of h),hl,hh⟩
 |tup h hl hh=>cases hx;exact⟨_,_,rfl,.inr h,hl,hh⟩
 |_=>cases hx
theorem tf{K:Fm}{H:Hp}{O:List FI}{a:FI}{vs:List V}(h:SqL K (hid H O) a vs\/SqT K (hid H O) a vs):SqL K H a vs\/SqT K H a vs:=h.imp (λz=>aq.seq z) λz=>aq.tup z
theorem bX(hx:x.items=some xs):fT X (.builtin "len") [x] (.int xs.length):=d_.mono iy λvs H Q ⟨O,d,r,q⟩=>by
 obtain⟨v,rfl,h⟩:=cA r;obtain⟨a,ws,rfl,h1,h2⟩:=oy h hx;exact⟨a,ws,rfl,tf h1,by rw[h2.len];exact q _ H (.refl H) (.int _)⟩
theorem Dk(n:Nat){x:Str}(h:ps[n]?=some (some (.own xs)))(hg:Gl X "len")(hm:X.mg "len"=none)(hN:X.N[n]?=some x:=by rfl)(hv:Vis X.env.scope x:=by first |exact Or.inl rfl |exact Or.inr (Or.inl rfl) |exact Or.inr (Or.inr rfl))(hd:(x==("__debug__":Str))=false:=by decide)
  (RR:(x==("__classdict__":Str))=false:=by decide) {pc p':Pos} (hs:FH [.Name x p'] X.env=(false,JQ (.Name x p') X.env)::FH [] X.env:=by rfl) (RH:(J5 pos (FH [] X.env)).any (·.1)=false:=by rfl):Ev X H0 O0 ps (.Call (.Name "len" pc) [.Name x p'] [] pos) (.int xs.length):=
 PE.mono (pQ iy hg hm Gd (dM (ef hN hv hd RR) gB hs) (by decide) (by decide) hs RH) λσ H Q ⟨O,R,q⟩=>by
  obtain⟨v,h1,a,vs,rfl,h3,h4,h5,h6⟩:=R.at_ n _ h;exact⟨_,h1,a,vs,rfl,.inl (SqL.of h5),by rw[h6.len];exact q _ H (.refl H) (.int _)⟩
theorem o9:fT X (.builtin "abs") [.int i] (.int (if i<0 then -i else i)):=d_.mono zk λvs H Q ⟨O,d,r,q⟩=>by
 obtain⟨v,rfl,h⟩:=cA r;cases h;exact⟨i,rfl,q _ H (.refl H) (.int _)⟩
theorem yo(hx:x.items=some xs):BX X (.type "list") [x] xs:=d_.mono nV λvs H Q ⟨O,d,r,q⟩=>by
 obtain⟨v,rfl,h⟩:=cA r;obtain⟨a,ws,rfl,h1,h2⟩:=oy h hx;exact⟨a,ws,rfl,tf h1,λl hl=>q l ws _ (aQ hl _) hl aO (h2.same (bF (aQ hl _) hl))⟩
theorem AW(hx:x=.lst xs∨x=.scr xs):fT X (.type "tuple") [x] (.tup xs):=d_.mono lG λvs H Q ⟨O,d,r,q⟩=>by
 obtain⟨v,rfl,h⟩:=cA r;have nh:∀{l:FI}{o:HO},H l=none->hid (upd H l o) O l=some o:=λ{l o} hl=>dG aO λz=>d _ z hl
 rcases hx with rfl |rfl
 ·cases h with
  |lst h hl hh=>exact⟨_,_,rfl,.inl ⟨aq.seq (SqL.of h),λl Rc=>q _ _ (aQ Rc _) (.tup (SqT.of (nh Rc)) hl λi v x e1 e2=>(hh i v x e1 e2).same (aY (aQ Rc _)))⟩⟩
 ·cases h with
  |scr h hl hh=>exact⟨_,_,rfl,.inl ⟨aq.seq h,λl Rc=>q _ _ (aQ Rc _) (.tup (SqT.of (nh Rc)) hl λi v x e1 e2=>(hh i v x e1 e2).same (aY (aQ Rc _)))⟩⟩
noncomputable def tyU:U->Fq
 | .non=>.type "NoneType" | .bl _=>.type "bool" | .int _=>.type "int" | .str _=>.type "str" | .ty _=>.type "type" | .dic=>.type "dict" | .scr _=>.type "list" | .tup _=>.type "tuple" | .lst _=>.type "list"
theorem cS{n:String}(hn:∀m,x≠.ty m)(h:J9 X.K (tyU x) (.type n)=some k):fT X (.builtin "isinstance") [x,.ty (.nm n)] (.bl k):=by
 intro pins s σ H vs us Q I r hq;obtain⟨O,d,rs,q⟩:=hq;obtain⟨v,w,rfl,h1,h2⟩:=iK rs;cases h2;obtain⟨p1,p2,rfl,r1,r2⟩:=l6 r;cases (show p2=Hd n from r2)
 have fin:∀tk,EP X pins σ Q (.bool k) {s with toks:=tk }:=λtk=>⟨.bl k,H,I.tok _,rfl,q _ H (.refl H) (.bl _)⟩
 cases h1 with
 |non=>exact dR I r1 .non h fin
 |bl b=>exact dR I r1 (.bl b) h fin
 |int b=>exact dR I r1 (.int b) h fin
 |str b=>exact dR I r1 (.str b) h fin
 |ty m=>exact absurd rfl (hn _)
 |dic e=>exact dR I r1 (.dK (aq _ _ e)) h fin
 |xc e kk=>exact absurd rfl (hn _)
 |dp e kk=>exact absurd rfl (hn _)
 |scr e hl hh=>
  cases r1;obtain⟨QW,_,pl,_⟩:=I.list (aq.seq e);obtain⟨o,nn,e1,e2,_⟩:=pl;exact Ha L9 I.kIn ⟨o,e1,e2⟩ h (λz=>nomatch z) fin
 |lst e hl hh=>exact dR I r1 (.lst (aq _ _ e)) h fin
 |tup e hl hh=>
  cases r1;obtain⟨QW,_,pl,_⟩:=I.tuple (aq.tup e);obtain⟨o,e1,e2,_⟩:=pl;exact Ha NU I.kIn ⟨o,e1,e2⟩ h (λz=>nomatch z) fin
end
inductive Out where
 |val (u:U) |new (xs:List U) |exc (C:FI) |dsk (d:FI) (u:U) (QZ:List (Str×U))
noncomputable def o8(K:Fm)(H0:Hp)(O0:List FI)(Q:VK)(E:XK):Out->Prop
 | .val u=>∀v H',aL H0 H'->Rp K (hid H' O0) v u->Q v H'
 | .new xs=>∀a vs H',aL H0 H'->H0 a=none->H' a=some (.lst vs)->Rps K (hid H' (a::O0)) vs xs->Q (.ref a) H'
 | .exc C=>∀H',aL H0 H'->E (.ref C) none H'
 | .dsk d u QZ=>∀v kv H',aL H0 H'->H' d=some (.dK kv)->DkR K (hid H' (d::O0)) kv QZ->Rp K (hid H' (d::O0)) v u->Q v H'
theorem o8.later{K:Fm}{H0 H1:Hp}{O0:List FI}{Q:VK}{E:XK}{o:Out}(e:aL H0 H1)(h:o8 K H0 O0 Q E o):o8 K H1 O0 Q E o:=by
 cases o with
 |val u=>exact λv H' s r=>h v H' (e.trans s) r
 |new xs=>exact λa vs H' s n q r=>h a vs H' (e.trans s) (e.free n) q r
 |exc C=>exact λH' s=>h H' (e.trans s)
 |dsk d u QZ=>exact λv kv H' s q r p=>h v kv H' (e.trans s) q r p
structure PD where
 nx:PSt->Prop
 rt:Out->Prop
 bk:PSt->Prop:=λ_=>False
 ct:PSt->Prop:=λ_=>False
structure Lf(K:Fm)(H0:Hp)(O0:List FI)(E:XK)(D:PD)(D':oj):Prop where
 nx:∀ps σ H O,Rs K H0 O0 ps σ H O->D.nx ps->D'.nx σ H
 bk:∀ps σ H O,Rs K H0 O0 ps σ H O->D.bk ps->D'.bk σ H
 ct:∀ps σ H O,Rs K H0 O0 ps σ H O->D.ct ps->D'.ct σ H
 rt:∀o,D.rt o->o8 K H0 O0 D'.rt E o
def Ws(X:Cx)(H0:Hp)(O0:List FI)(E:XK)(ss:List I_)(D:PD)(ps:PSt):Prop:=PSs X ss λD' σ H=>Lf X.K H0 O0 E D D'/\∃O,Rs X.K H0 O0 ps σ H O
def W1(X:Cx)(H0:Hp)(O0:List FI)(E:XK)(s:I_)(D:PD)(ps:PSt):Prop:=PS X s λD' σ H=>Lf X.K H0 O0 E D D'/\∃O,Rs X.K H0 O0 ps σ H O
variable {E:XK}{Rl:PSt}{D:PD}{ss:List I_}{Rk:List I_}
section
variable {X:Cx}{ps:PSt}{s:I_}{a b c:Expr}{p:Pos}{x y:U}{k:Bool}
theorem aG(h:D.nx ps):Ws X H0 O0 E [] D ps:=PSs.mono iO λD' σ H ⟨L,O,R⟩=>L.nx ps σ H O R h
theorem af(h:W1 X H0 O0 E s {D with nx:=λp=>Ws X H0 O0 E ss D p } ps):Ws X H0 O0 E (s::ss) D ps:=by
 have h2:PSs X ss λD' σ H=>∃p,Ws X H0 O0 E ss D p/\Lf X.K H0 O0 E D D'/\∃O,Rs X.K H0 O0 p σ H O:=λpins s σ H D' I ⟨p,w,l,r⟩=>w pins s σ H D' I ⟨l,r⟩
 exact PSs.mono (dt h h2) λD' σ H ⟨L,O,R⟩=>⟨⟨λp σ H O R q=>⟨p,q,L,O,R⟩,L.bk,L.ct,L.rt⟩,O,R⟩
theorem cE(h:Ws X H0 O0 E ss D Rl)(hs:SubP Rl ps):Ws X H0 O0 E ss D ps:=PSs.mono h λD' σ H ⟨L,O,R⟩=>⟨L,O,R.sub hs⟩
theorem aE{i:Nat}{x:Str}{Rf:Pos}(hN:X.N.Nodup)(hi:X.N[i]?=some x)(hx:Loc X.env.scope x)(he:Ev X H0 O0 ps e u)(h:D.nx (ps.set i (some (.val u))))(hs:JF e (some (.Name x Rf)) pos.line X.env=pure false:=by rfl)(hf:X.fn x=true\/X.env.scope.names.lookup x=some .local:=by first |exact .inl rfl |exact .inr rfl |assumption):
  W1 X H0 O0 E (.Assign [.Name x Rf] e pos) D ps:=PS.mono (oz hN hi hx he hs hf) λD' σ H ⟨L,O,R⟩=>⟨O,R,λv H' s r=>L.nx _ _ _ O ((R.go s).set r) h⟩
theorem jq{i:Nat}{x:Str}{Rf:Pos}(hN:X.N.Nodup)(hi:X.N[i]?=some x)(hx:Loc X.env.scope x)(he:EvN X H0 O0 ps e xs)(h:D.nx (ps.set i (some (.own xs))))(hs:JF e (some (.Name x Rf)) pos.line X.env=pure false:=by rfl)(hf:X.fn x=true\/X.env.scope.names.lookup x=some .local:=by first |exact .inl rfl |exact .inr rfl |assumption):
  W1 X H0 O0 E (.Assign [.Name x Rf] e pos) D ps:=PS.mono (oz hN hi hx he hs hf) λD' σ H ⟨L,O,R⟩=>⟨O,R,λa vs H' s n q r=>L.nx _ _ _ _ (R.own s n q r) h⟩
theorem k_{tb fb:List I_}(hc:Tt X H0 O0 ps c k)(h1:k=true->Ws X H0 O0 E tb D ps)(h2:k=false->Ws X H0 O0 E fb D ps):W1 X H0 O0 E (.If c tb fb pos) D ps:=by
 cases k with
 |true=>exact PS.mono (sH hc (h1 rfl) (λ_ _ _ _ _ _ h=>h.elim) (u:=λ_ _ _=>False)) λD' σ H ⟨L,O,R⟩=>⟨O,R,λH' s=>vL ⟨L,O,R.go s⟩⟩
 |false=>exact PS.mono (sH hc (λ_ _ _ _ _ _ h=>h.elim) (h2 rfl) (t:=λ_ _ _=>False)) λD' σ H ⟨L,O,R⟩=>⟨O,R,λH' s=>o7 ⟨L,O,R.go s⟩⟩
theorem Rs.ret{K:Fm}{σ:St}{H:Hp}{O:List FI}{v:V}(R:Rs K H0 O0 ps σ H O)(r:Rp K (hid H O) v u):Rp K (hid H O0) v u:=r.same (fh R.old)
theorem bj(he:Ev X H0 O0 ps e u)(h:D.rt (.val u)):W1 X H0 O0 E (.Return (some e) pos) D ps:=
 PS.mono (qS he) λD' σ H ⟨L,O,R⟩=>⟨O,R,λv H' s r=>L.rt _ h v H' (R.same.trans s) ((R.go s).ret r)⟩
theorem c8(he:EvN X H0 O0 ps e xs)(h:D.rt (.new xs)):W1 X H0 O0 E (.Return (some e) pos) D ps:=
 PS.mono (qS he) λD' σ H ⟨L,O,R⟩=>⟨O,R,λa vs H' s n q r=>L.rt _ h a vs H' (R.same.trans s) (R.same.free n) q (r.same (fh λb hb=>by
  rcases Fw.mp hb with y |y
  ·subst y;exact Fv
  ·exact Fn _ (R.old b y)))⟩
theorem rG(i:Nat){x:Str}(hp:ps[i]?=some (some (.own xs)))(h:D.rt (.new xs))(hN:X.N[i]?=some x:=by rfl)(hv:Vis X.env.scope x:=by first |exact Or.inl rfl |exact Or.inr (Or.inl rfl) |exact Or.inr (Or.inr rfl))(hd:(x==("__debug__":Str))=false:=by decide)
  (RR:(x==("__classdict__":Str))=false:=by decide):W1 X H0 O0 E (.Return (some (.Name x p)) pos) D ps:=
 PS.mono (qS (ef hN hv hd RR)) λD' σ H ⟨L,O,R⟩=>by
  obtain⟨v,h1,a,vs,rfl,h3,h4,h5,h6⟩:=R.at_ i _ hp;refine⟨_,h1,L.rt _ h a vs H R.same ((R.new a h3).resolve_left h4) h5 (h6.same (fh λb hb=>?_))⟩
  rcases Fw.mp hb with y |y
  ·subst y;exact h3
  ·exact R.old b y
theorem wY(he:Ev X H0 O0 ps e u)(h:D.nx ps)(hs:JF e none pos.line X.env=pure false:=by rfl):W1 X H0 O0 E (.Expr e pos) D ps:=
 PS.mono (jN he hs) λD' σ H ⟨L,O,R⟩=>⟨O,R,λv H' s r=>L.nx _ _ _ O (R.go s) h⟩
theorem fe(i:Nat){x:Str}{Rv Rj xp:Pos}(hp:ps[i]?=some (some (.own xs)))(ha:Ev X H0 O0 ps e u)(hz:xs.length<sizeLine)(h:D.nx (ps.set i (some (.own (xs++[u])))))
  (hN:X.N[i]?=some x:=by rfl) (hv:Vis X.env.scope x:=by first |exact Or.inl rfl |exact Or.inr (Or.inl rfl) |exact Or.inr (Or.inr rfl)) (hd:(x==("__debug__":Str))=false:=by decide) (RR:(x==("__classdict__":Str))=false:=by decide)
  (RK:Lz (.Name x xp) "append" X.env (JQ (.Name x xp) X.env)=JQ (.Name x xp) X.env:=by rfl)
  (Tn:((J5 Rj (FH [e] X.env)).all (λx=>!x.1) && (backToKw Rj (OX [] X.env)).all (λx=>x.1.isSome) && decide ([e].length+([]:List Oi).length+(if ([]:List Oi).isEmpty then 0 else 1)<30))=true:=by rfl)
  (RL:(Rv.endLine==Rj.line)=true:=by rfl) (hse:FH [e] X.env=(false,JQ e X.env)::FH [] X.env:=by rfl) (R0:(J5 Rj (FH [] X.env)).any (·.1)=false:=by rfl)
  (hs:JF (.Call (.Attribute (.Name x xp) "append" Rv) [e] [] Rj) none pos.line X.env=pure false:=by rfl):W1 X H0 O0 E (.Expr (.Call (.Attribute (.Name x xp) "append" Rv) [e] [] Rj) pos) D ps:=
 PS.mono (jN (B4 Kw PySem.F.slot_list_append PySem.F.type_list_append i6 (ef hN hv hd RR) (dM ha gB hse) RK Tn RL hse R0) hs) λD' σ H ⟨L,O,R⟩=>by
  obtain⟨v,h1,a,vs,rfl,h3,h4,h5,h6⟩:=R.at_ i _ hp;refine⟨_,h1,.inl ⟨rfl,_,SqL.of h5⟩,O,R,λw H' s r=>⟨a,vs,w,rfl,rfl,s _ _ h5,by rw[h6.len];exact hz,?_⟩⟩
  exact L.nx _ _ _ O ((R.go s).write hp h1 ((h6.same (aY s)).snoc (.cons r .nil))) h
theorem zt(i:Nat){x:Str}{Rv Rj xp:Pos}(hp:ps[i]?=some (some (.own xs)))(Q1:xs≠[])(h:D.nx (ps.set i (some (.own xs.dropLast))))
  (hN:X.N[i]?=some x:=by rfl) (hv:Vis X.env.scope x:=by first |exact Or.inl rfl |exact Or.inr (Or.inl rfl) |exact Or.inr (Or.inr rfl)) (hd:(x==("__debug__":Str))=false:=by decide) (RR:(x==("__classdict__":Str))=false:=by decide)
  (RK:Lz (.Name x xp) "pop" X.env (JQ (.Name x xp) X.env)=JQ (.Name x xp) X.env:=by rfl)
  (RL:(Rv.endLine==Rj.line)=true:=by rfl)
  (hs:JF (.Call (.Attribute (.Name x xp) "pop" Rv) [] [] Rj) none pos.line X.env=pure false:=by rfl):W1 X H0 O0 E (.Expr (.Call (.Attribute (.Name x xp) "pop" Rv) [] [] Rj) pos) D ps:=
 PS.mono (jN (Dy Kw PySem.F.slot_list_pop PySem.F.type_list_pop Dp (ef hN hv hd RR) RK RL) hs) λD' σ H ⟨L,O,R⟩=>by
  obtain⟨v,h1,a,vs,rfl,h3,h4,h5,h6⟩:=R.at_ i _ hp;have hpos:0<vs.length:=by rw[h6.len];exact G0.mpr Q1
  have Q4:vs.length-1<vs.length:=by lia
  refine⟨_,h1,.inl ⟨rfl,_,SqL.of h5⟩,a,vs,vs[vs.length-1],rfl,rfl,h5,Fj Q4,?_⟩;refine L.nx _ _ _ O (R.write hp h1 ⟨by simp[h6.len],λj v x e1 e2=>?_⟩) h
  rw[JC]at e1 e2;split at e1
  ·split at e2
   ·exact h6.at_ j v x e1 e2
   ·cases e2
  ·cases e1
end
def ov:List Nat->TGs
 |[]=>DX
 |j::js=>BH (sT j) (ov js)
noncomputable def setAll:PSt->List Nat->List U->PSt
 |ps,j::js,u::us=>setAll (ps.set j (some (.val u))) js us
 |ps,_,_=>ps
def jP:St->List Nat->List V->St
 |σ,j::js,u::us=>jP (σ.set j (some u)) js us
 |σ,_,_=>σ
theorem Rs.setAll{K:Fm}{H0:Hp}{O0:List FI}{H:Hp}{O:List FI}:∀{js:List Nat}{ps:PSt}{σ:St}{vs:List V}{us:List U},Rs K H0 O0 ps σ H O->Rps K (hid H O) vs us->Rs K H0 O0 (L2.setAll ps js us) (jP σ js vs) H O
 |[],ps,σ,vs,us,R,r=>by cases us <;>cases vs <;>exact R
 |j::js,ps,σ,vs,[],R,r=>by rw[r.nil_inv];exact R
 |j::js,ps,σ,vs,u::us,R,r=>by
  obtain⟨v,ws,rfl,h1,h2⟩:=r.cons_inv;exact Rs.setAll (js:=js) (R.set h1) h2
theorem jh{Q:St->Hp->Prop}{H:Hp}:∀{js:List Nat}{σ:St}{vs:List V},vs.length=js.length->Q (jP σ js vs) H->ov js vs σ H Q
 |[],σ,[],_,q=>⟨rfl,q⟩
 |j::js,σ,v::vs,e,q=>⟨v,vs,rfl,jh (js:=js) (by simpa using e) q⟩
 |[],_,_::_,e,_=>by simp at e
 |_::_,_,[],e,_=>by simp at e
def TgS(X:Cx)(H0:Hp)(O0:List FI)(tg:Expr)(ps:PSt)(u:U)(Rl:PSt):Prop:=
 PG X tg λv σ H Q=>∃O,Rs X.K H0 O0 ps σ H O/\Rp X.K (hid H O) v u/\∀Q7 H',aL H H'->Rs X.K H0 O0 Rl Q7 H' O->Q Q7 H'
theorem PG.mono{X:Cx}{e:Expr}{t t':TG}(h:PG X e t)(m:∀v σ H Q,t' v σ H Q->t v σ H Q):PG X e t':=λpins s σ H v u Q I r q=>h pins s σ H v u Q I r (m v σ H Q q)
theorem PI.mono{X:Cx}{tg e:Expr}{t t':TI}(h:PI X tg e t)(m:∀σ H Q,t' σ H Q->t σ H Q):PI X tg e t':=λpins s σ H Q I q=>h pins s σ H Q I (m σ H Q q)
def Yl(K:Fm)(J:It)(G:Hp)(xs:List U):Prop:=
 ∀H2,aL G H2->(∀i,i<xs.length->J.go i H2/\∀x H3,J.yld i H2 x H3->H3=H2/\∃u,xs[i]?=some u/\Rp K G x u)/\J.stop xs.length H2
def EvI(X:Cx)(H0:Hp)(O0:List FI)(ps:PSt)(tg iter:Expr)(xs:List U):Prop:=
 PI X tg iter λσ H R=>∃O,Rs X.K H0 O0 ps σ H O/\∀J H',aL H H'->Yl X.K J (hid H' O) xs->R J H'
variable {tg:Expr}{iter:Expr}
section
variable {X:Cx}{ps:PSt}{s:I_}{a b c:Expr}{p:Pos}{x y:U}{k:Bool}
theorem fu{i:Nat}{x:Str}(hN:X.N.Nodup)(hi:X.N[i]?=some x)(hx:Loc X.env.scope x)(hf:X.fn x=true\/X.env.scope.names.lookup x=some .local:=by first |exact .inl rfl |exact .inr rfl |assumption):TgS X H0 O0 (.Name x pos) ps u (ps.set i (some (.val u))):=
 PG.mono (br hN hi hx hf) λv σ H Q ⟨O,R,r,q⟩=>q _ H (.refl H) (R.set r)
theorem yO{k:Nat}(js:List Nat)(hc:X.calm=true)(h:PGs X es (ov js))(hl:us.length=js.length)(hn:(Km es X.env).length=js.length:=by rfl)(RB:(Km es X.env).findIdx? (·.1)=none:=by rfl):TgS X H0 O0 (.Tuple es k pos) ps (.tup us) (setAll ps js us):=
 PG.mono (qA hc h hn RB) λv σ H Q ⟨O,R,r,q⟩=>by
  cases r with
  |tup hq Rc hh=>exact⟨_,_,rfl,aq.tup hq,Rc.trans hl,jh (Rc.trans hl) (q _ H (.refl H) (R.setAll ⟨Rc,hh⟩))⟩
theorem DR(he:Ev X H0 O0 ps e u)(hg:TgS X H0 O0 tg ps u Rl)(h:D.nx Rl)(hs:Mm [tg] e pos.line X.env=pure false:=by rfl)(hw:Mn [tg] e X.env=pure none:=by rfl)
  (h1:(Km [tg] X.env).map (·.2)=[assign tg X.env]:=by rfl):W1 X H0 O0 E (.Assign [tg] e pos) D ps:=
 PS.mono (Cp he hg hs hw h1) λD' σ H ⟨L,O,R⟩=>⟨O,R,λv H1 s1 r1=>⟨O,R.go s1,r1,λQ7 H2 s2 R2=>L.nx _ _ _ O R2 h⟩⟩
theorem B1{i j:Nat}{x y:Str}{px py pt:Pos}{kt k2 pt2}{u w:U}(hc:X.calm=true)(hN:X.N.Nodup)(hi:X.N[i]?=some x)(hj:X.N[j]?=some y)(RW:i≠j)
  (hx:X.env.scope.names.lookup x=some .local) (hy:X.env.scope.names.lookup y=some .local) (ha:EvA X H0 O0 ps [a,b] [u,w])
  (hw:Mn [.Tuple [.Name x px,.Name y py] kt pt] (.Tuple [a,b] k2 pt2) X.env=pure (some [x,y])) (h:D.nx ((ps.set i (some (.val u))).set j (some (.val w))))
  (hs:Mm [.Tuple [.Name x px,.Name y py] kt pt] (.Tuple [a,b] k2 pt2) pos.line X.env=pure false:=by rfl):
  W1 X H0 O0 E (.Assign [.Tuple [.Name x px,.Name y py] kt pt] (.Tuple [a,b] k2 pt2) pos) D ps:=
 PS.mono (Do hc hN hi hj RW hx hy ha hw hs) λD' σ H ⟨L,O,R⟩=>⟨O,R,λvs H1 s1 r1=>by
  obtain⟨v,z,rfl,h1,h2⟩:=iK r1;exact⟨v,z,rfl,L.nx _ _ _ O (((R.go s1).set h1).set h2) h⟩⟩
theorem cM(he:Ev X H0 O0 ps iter x)(hx:x=.lst xs\/x=.scr xs):EvI X H0 O0 ps tg iter xs:=
 PI.mono (Bd he) λσ H Q ⟨O,R,q⟩=>⟨O,R,λv H' s r=>by
  have key:∃a vs,v=.ref a/\SqL X.K (hid H' O) a vs/\Rps X.K (hid H' O) vs xs:=by
   rcases hx with rfl |rfl
   ·cases r with
    |lst hq hl hh=>exact⟨_,_,rfl,SqL.of hq,hl,hh⟩
   ·cases r with
    |scr hq hl hh=>exact⟨_,_,rfl,hq,hl,hh⟩
  obtain⟨a,vs,rfl,hq,rs⟩:=key;refine⟨a,rfl,⟨vs,aq.seq hq⟩,q _ H' s λH2 s2=>⟨λi hi=>?_,⟨vs,s2.seq hq,by rw[rs.len];exact Fu _⟩⟩⟩
  have Q9:i<vs.length:=by rw[rs.len];exact hi
  refine⟨⟨vs,vs[i],s2.seq hq,Fj Q9⟩,λz H3 y=>⟨y.1,xs[i],Fj hi,rs.at_ i z _ (y.2 vs (s2.seq hq)) (Fj hi)⟩⟩⟩
theorem wV(he:Ev X H0 O0 ps iter (.tup xs)):EvI X H0 O0 ps tg iter xs:=
 PI.mono (CB he) λσ H Q ⟨O,R,q⟩=>⟨O,R,λv H' s r=>by
  cases r with
  | @tup a vs _ hq hl hh=>
   have rs:Rps X.K (hid H' O) vs xs:=⟨hl,hh⟩;refine⟨a,rfl,⟨vs,aq.tup hq⟩,q _ H' s λH2 s2=>⟨λi hi=>?_,⟨vs,s2.tup hq,by rw[rs.len];exact Fu _⟩⟩⟩
   have Q9:i<vs.length:=by rw[rs.len];exact hi
   refine⟨⟨vs,vs[i],s2.tup hq,Fj Q9⟩,λz H3 y=>⟨y.1,xs[i],Fj hi,rs.at_ i z _ (y.2 vs (s2.tup hq)) (Fj hi)⟩⟩⟩
def fA(lo:Int)(n:Nat):List U:=(GG n).map λ(i:Nat)=>U.int (lo+(i:Int))
theorem bH{lo:Int}{n:Nat}:(fA lo n).length=n:=by simp[fA]
theorem lV{lo:Int}{n i:Nat}(h:i<n):(fA lo n)[i]?=some (.int (lo+(i:Int))):=by
 unfold fA;rw[Ft,G9 h];rfl
theorem cO{lo:Int}{n i:Nat}{x:U}(h:(fA lo n)[i]?=some x):i<n/\x=.int (lo+(i:Int)):=by
 have hi:=aC h;rw[bH]at hi;rw[lV hi]at h;exact⟨hi,(Gv h).symm⟩
theorem kj{K:Fm}{G:Hp}{lo:Int}{n:Nat}:Yl K (Itr lo n) G (fA lo n):=λH2 s2=>by
 rw[bH];refine⟨λi hi=>⟨hi,λz H3 y=>⟨y.1,_,lV hi,?_⟩⟩,Fu _⟩
 rw[y.2];exact .int _
theorem f9{j:Int}(hg:Gl X "range")(hm:X.mg "range"=none)(ha:EvA X H0 O0 ps [a] [.int j])(h1:-(2 ^ 62)≤j)(h2:j<2 ^ 62)(hs:FH [a] X.env=[(false,JQ a X.env)]:=by rfl):EvI X H0 O0 ps tg (.Call (.Name "range" p) [a] [] pos) (fA 0 j.toNat):=
 PI.mono (uI hg hm ha hs) λσ H Q ⟨O,R,q⟩=>⟨O,R,λvs H' s r=>by
  obtain⟨v,rfl,h⟩:=cA r;cases h;exact⟨j,rfl,h1,h2,q _ H' s kj⟩⟩
theorem Rs.rebase{K:Fm}{σ:St}{H:Hp}{O:List FI}(R:Rs K H0 O0 ps σ H O):Rs K (hid H (O.filter λa=>decide (a ∉ O0))) O0 ps σ H O:=
 ⟨aq,R.old,λa ha=>by
  by_cases h:a∈O0
  ·exact .inl h
  ·right;unfold hid;rw[if_pos (GP.mpr ⟨ha,by simpa using h⟩)],R.dom,R.len,R.at_,R.inj⟩
theorem Rs.base{K:Fm}{σ:St}{H:Hp}{O:List FI}(R:Rs K H0 O0 ps σ H O):aL H0 (hid H (O.filter λa=>decide (a ∉ O0))):=λb o h=>by
 refine dG (R.same b o h) λz=>?_
 obtain⟨z1,z2⟩:=GP.mp z;rcases R.new b z1 with y |y
 ·simp[y]at z2
 ·rw[h]at y;cases y
theorem Rs.unbase{K:Fm}{H1:Hp}{σ:St}{H:Hp}{O:List FI}(e:aL H0 H1)(R:Rs K H1 O0 ps σ H O):Rs K H0 O0 ps σ H O:=
 ⟨e.trans R.same,R.old,λa ha=>(R.new a ha).imp id λz=>e.free z,R.dom,R.len,R.at_,R.inj⟩
theorem Rs.seen{K:Fm}{Uc:PSt}{σ σ2:St}{H H2:Hp}{O O2:List FI}(R:Rs K H0 O0 ps σ H O)(R2:Rs K (hid H (O.filter λa=>decide (a ∉ O0))) O0 Uc σ2 H2 O2):aL (hid H O) (hid H2 O2):=λb o h=>by
 obtain⟨h1,h2⟩:=ii h;have h3:hid H (O.filter λa=>decide (a ∉ O0)) b=some o:=dG h1 λz=>h2 (GP.mp z).1
 refine dG (R2.same b o h3) λz=>?_
 rcases R2.new b z with y |y
 ·exact h2 (R.old b y)
 ·rw[h3]at y;cases y
theorem Em(hc:X.calm=true)(hp:L8 (F7 X.prog X.w) X.A X.env X.xe)(hi:EvI X H0 O0 ps tg iter xs)(Iv:Nat->PSt->Prop)(h0:Iv 0 ps)
  (hs:∀(H0:Hp) (i:Nat) (x:U) (ps:PSt),xs[i]?=some x->Iv i ps->∃Rl,TgS X H0 O0 tg ps x Rl/\Ws X H0 O0 E Rk {D with nx:=Iv (i+1),ct:=Iv (i+1),bk:=D.nx } Rl) (hd:∀ps,Iv xs.length ps->D.nx ps)
  (hf:∀x,Hw iter X.env x=pure x:=by intro _;rfl):W1 X H0 O0 E (.For tg iter Rk [] pos) D ps:=by
 have hg:PG X tg λv σ H Q=>∃H1 ps u Rl,TgS X H1 O0 tg ps u Rl/\∃O,Rs X.K H1 O0 ps σ H O/\Rp X.K (hid H O) v u/\∀Q7 H',aL H H'->Rs X.K H1 O0 Rl Q7 H' O->Q Q7 H':=
  λpins s σ H v u Q I r ⟨H1,ps,w,Rl,t,z⟩=>t pins s σ H v u Q I r z
 have hb:PSs X Rk λD' σ H=>∃H1 D1 Rl,Ws X H1 O0 E Rk D1 Rl/\Lf X.K H1 O0 E D1 D'/\∃O,Rs X.K H1 O0 Rl σ H O:=λpins s σ H D' I ⟨H1,D1,Rl,w,z⟩=>w pins s σ H D' I z
 refine PS.mono (yr hp hc hi hg hb hf) λD' σ H ⟨L,O,R⟩=>⟨O,R,λJ H1 s1 Y=>?_⟩
 have R1:=R.go s1;have base:=R1.base;refine⟨λi m σ H=>m=xs.length-i/\i<=xs.length/\∃ps O',Iv i ps/\Rs X.K (hid H1 (O.filter λa=>decide (a ∉ O0))) O0 ps σ H O',⟨_,rfl,GN _,ps,O,h0,R1.rebase⟩,?_⟩
 rintro i m σ2 H2 ⟨rfl,RS,Uc,O2,iv,R2⟩;have seen:=R1.seen R2;obtain⟨y1,y2⟩:=Y H2 (seen.trans aq);by_cases Q4:i<xs.length
 ·obtain⟨g1,g2⟩:=y1 i Q4;refine .inr ⟨g1,λQ7 H'=>∃ps O',Iv (i+1) ps/\Rs X.K (hid H1 (O.filter λa=>decide (a ∉ O0))) O0 ps Q7 H' O',λQ7 H' z=>⟨xs.length-(i+1),by lia,rfl,Q4,z⟩,λx H3 y=>?_⟩
  obtain⟨rfl,u,hu,r⟩:=g2 x H3 y;obtain⟨Rl,t,w⟩:=hs (hid H1 (O.filter λa=>decide (a ∉ O0))) i u Uc hu iv
  refine⟨_,Uc,u,Rl,t,O2,R2,r.same seen,λQ7 H' s' R'=>⟨_,_,Rl,w,?_,O2,R'⟩⟩
  exact⟨λp σ H O R q=>⟨p,O,q,R⟩,λp σ H O R q=>L.nx _ _ _ _ (R.unbase base) q,λp σ H O R q=>⟨p,O,q,R⟩,λo q=>(L.rt o q).later base⟩
 ·have e:i=xs.length:=by lia
  subst e;exact .inl ⟨y2,L.nx _ _ _ _ (R2.unbase base) (hd Uc iv)⟩
theorem A6(hp:L8 (F7 X.prog X.w) X.A X.env X.xe)(Iv:Nat->PSt->Prop)(m:Nat)(h0:Iv m ps)
  (hs:∀m ps,Iv m ps->∃b,Tt X H0 O0 ps c b/\(b=true->Ws X H0 O0 E Rk {D with nx:=λp=>∃m',m'<m/\Iv m' p,ct:=λp=>∃m',m'<m/\Iv m' p,bk:=D.nx } ps)/\(b=false->D.nx ps)):W1 X H0 O0 E (.While c Rk [] pos) D ps:=by
 have ht:PT X c λσ H Q=>∃ps b,Tt X H0 O0 ps c b/\∃O,Rs X.K H0 O0 ps σ H O/\∀H',aL H H'->Q b H':=λpins s σ H Q I ⟨ps,b,t,z⟩=>t pins s σ H Q I z
 have hb:PSs X Rk λD' σ H=>∃D1 Rl,Ws X H0 O0 E Rk D1 Rl/\Lf X.K H0 O0 E D1 D'/\∃O,Rs X.K H0 O0 Rl σ H O:=λpins s σ H D' I ⟨D1,Rl,w,z⟩=>w pins s σ H D' I z
 refine PS.mono (yY hp ht hb) λD' σ H ⟨L,O,R⟩=>⟨λm σ H=>∃ps O,Iv m ps/\Rs X.K H0 O0 ps σ H O,⟨m,ps,O,h0,R⟩,?_⟩
 rintro m σ2 H2 ⟨Uc,O2,iv,R2⟩;obtain⟨b,t,h1,h2⟩:=hs m Uc iv;refine⟨Uc,b,t,O2,R2,λH3 s3=>?_⟩
 cases b with
 |true=>
  refine vL ⟨λσ H=>∃m',m'<m/\∃ps O,Iv m' ps/\Rs X.K H0 O0 ps σ H O,λQ7 H' z=>z,_,Uc,h1 rfl,?_,O2,R2.go s3⟩
  exact⟨λp σ H O R ⟨m',l,q⟩=>⟨m',l,p,O,q,R⟩,λp σ H O R q=>L.nx _ _ _ _ R q,λp σ H O R ⟨m',l,q⟩=>⟨m',l,p,O,q,R⟩,L.rt⟩
 |false=>exact o7 (L.nx _ _ _ _ (R2.go s3) (h2 rfl))
def gh:List Nat->PSt->PSt
 |[],ps=>ps
 |i::is,ps=>gh is (ps.set i none)
theorem Rs.mask{K:Fm}{H:Hp}{O:List FI}:∀{is:List Nat}{ps:PSt}{σ:St},Rs K H0 O0 ps σ H O->Rs K H0 O0 (gh is ps) (L2.mask is σ) H O
 |[],ps,σ,R=>R
 |i::is,ps,σ,R=>Rs.mask (is:=is) (R.drop (i:=i) (o:=none))
theorem Rs.hide{K:Fm}{σ:St}{H H':Hp}{O:List FI}{l:FI}(R:Rs K H0 O0 ps σ H O)(e:aL H H')(n:H l=none)(d:H' l≠none):Rs K H0 O0 ps σ H' (l::O):=by
 refine⟨R.same.trans e,λa ha=>Fn _ (R.old a ha),λa ha=>?_,λa ha z=>?_,R.len,λi s h=>?_,R.inj⟩
 ·rcases Fw.mp ha with y |y
  ·subst y;exact .inr (R.same.free n)
  ·exact R.new a y
 ·rcases Fw.mp ha with y |y
  ·subst y;exact d z
  ·exact R.dom a y (e.free z)
 ·obtain⟨w,h1,h2⟩:=R.at_ i s h;refine⟨w,h1,?_⟩;cases s with
  |val u=>exact Rp.same (bF e n) h2
  |own ys=>
   obtain⟨b,ws,k1,k2,k3,k4,k5⟩:=h2;exact⟨b,ws,k1,Fn _ k2,k3,e _ _ k4,k5.same (bF e n)⟩
  |pin z u=>exact⟨h2.1,Rp.same (bF e n) h2.2⟩
  |dsk w C b d QZ=>obtain⟨dx,kv,k1,k2,k3,k4,k5,k6⟩:=h2;exact⟨dx,kv,k1,Fn _ k2,k3,e _ _ k4,e _ _ k5,k6.same (bF e n)⟩
theorem p_{js is:List Nat}:∀{σ:St}{vs:List V},(∀j∈js,j∈is)->∀(n:Nat) (v:V),n ∉ is->σ[n]?=some (some v)->(jP σ js vs)[n]?=some (some v):=by
 induction js with
 |nil=>intro σ vs _ n v _ h;cases vs <;>exact h
 |cons j js ih=>
  intro σ vs hj n v hn h;cases vs with
  |nil=>exact h
  |cons w ws=>exact ih (λz hz=>hj z (Fn _ hz)) n v hn (by rw[FZ (λz=>hn (by rw[<-z];exact hj j Fv))];exact h)
def GOk(g:TG)(K:Fm)(is:List Nat)(f:PSt->U->PSt)(dom:U->Prop):Prop:=
 ∀(H0:Hp) (O0:List FI) (ps:PSt) (σ:St) (H:Hp) (O:List FI) (v:V) (u:U) (Q:St->Hp->Prop),dom u->Rs K H0 O0 ps σ H O->Rp K (hid H O) v u->
  (∀Q7,Rs K H0 O0 (f ps u) Q7 H O->(∀(n:Nat) (w:V),n ∉ is->σ[n]?=some (some w)->Q7[n]?=some (some w))->Q Q7 H)->g v σ H Q
theorem cX{K:Fm}{is:List Nat}{i:Nat}(h:i∈is):GOk (sT i) K is (λps u=>ps.set i (some (.val u))) λ_=>True:=λH0 O0 ps σ H O v u Q _ R r q=>
 q _ (R.set r) λn w hn e=>by rw[FZ (λz=>hn (by rw[<-z];exact h))];exact e
theorem r_{K:Fm}{is js:List Nat}(h:∀j∈js,j∈is):GOk (EK K js.length (ov js)) K is (λps u=>match u with | .tup us=>setAll ps js us |_=>ps) λu=>∃us,u=.tup us/\us.length=js.length:=λH0 O0 ps σ H O v u Q d R r q=>by
 obtain⟨us,rfl,hl⟩:=d;cases r with
 |tup hq Rc hh=>exact⟨_,_,rfl,aq.tup hq,Rc.trans hl,jh (Rc.trans hl) (q _ (R.setAll ⟨Rc,hh⟩) λn w hn e=>p_ h n w hn e)⟩
theorem v6{is:List Nat}{g:TG}{f:PSt->U->PSt}{dom:U->Prop}{σ:St}{H1:Hp}{O:List FI}{Q:VK}{J:It}{te:TE}(hg:GOk g X.K is f dom)(R1:Rs X.K H0 O0 ps σ H1 O)(Y:Yl X.K J (hid H1 O) xs)(Q5:ys.length=xs.length)(hz:xs.length<=sizeLine)(SK:∀x∈xs,dom x)
  (hte:∀(i:Nat) (x y:U) (σ:St) (H:Hp) (O':List FI) (Q:VK),xs[i]?=some x->ys[i]?=some y->Rs X.K H0 O0 (f (gh is ps) x) σ H O'->(∀v H',aL H H'->Rp X.K (hid H' O') v y->Q v H')->te σ H Q)
  (fin:∀a vs H',aL H1 H'->H1 a=none->H' a=some (.lst vs)->Rps X.K (hid H' (a::O)) vs ys->Q (.ref a) H'):xO is g te σ Q J H1:=by
 intro l hl;refine⟨λi m H2=>m=xs.length-i/\i<=xs.length/\aL H1 H2/\∃vs,H2 l=some (.lst vs)/\vs.length=i/\Rps X.K (hid H2 (l::O)) vs (ys.take i),⟨_,rfl,GN _,aQ hl _,[],aO,rfl,by rw[NF];exact .nil⟩,?_⟩
 rintro i m H2 ⟨rfl,hi,s2,vs,h2,hv,rs⟩;have seen:aL (hid H1 O) (hid H2 (l::O)):=bF s2 hl;obtain⟨y1,y2⟩:=Y H2 (seen.trans aq);by_cases Q4:i<xs.length
 ·obtain⟨g1,g2⟩:=y1 i Q4;refine .inr ⟨g1,λx H3 y=>?_⟩
  obtain⟨rfl,u,hu,r⟩:=g2 x H3 y;have R2:=(R1.mask (is:=is)).hide s2 hl (by rw[h2];intro z;cases z)
  refine hg H0 O0 _ _ H3 (l::O) x u _ (SK u (FD hu)) R2 (r.same seen) λTp R4 keep=>?_
  have hy:ys[i]?=some (ys[i]'(by lia)):=Fj _
  refine hte i u _ Tp H3 (l::O) _ hu hy R4 λv H5 s5 r5=>⟨λj w e=>keep j w (iG is σ j w e).2 e,vs,s5 _ _ h2,?_,xs.length-(i+1),by lia,rfl,Q4,(s2.trans s5).put hl _,vs++[v],aO,by simp[hv],?_⟩
  ·rw[hv];lia
  ·rw[jM Fv,IB,hy];exact (rs.same (aY s5)).snoc (.cons r5 .nil)
 ·have e:i=xs.length:=by lia
  subst e;rw[<-Q5,Hv]at rs;exact .inl ⟨y2,fin l vs H2 s2 hl h2 rs⟩
theorem eT{R5:Expr}{QV:LH}{cl:List (Str×FI)}{is:List Nat}{g:TG}{f:PSt->U->PSt}{dom:U->Prop}(hc:X.calm=true)(B:eJ X QV cl is)(hi:EvI X H0 O0 ps tg iter xs)(hg:∀C s H fp,PG (aK X QV cl C s H fp) tg g)(gk:GOk g X.K is f dom)
  (Q5:ys.length=xs.length) (hz:xs.length<=sizeLine) (SK:∀x∈xs,dom x) (he:∀C s H fp (i:Nat) (x y:U),xs[i]?=some x->ys[i]?=some y->Ev (aK X QV cl C s H fp) H0 O0 (f (gh is ps) x) R5 y)
  (hs:∀x,Hw iter X.env x=pure x:=by intro _;rfl):EvN X H0 O0 ps (.ListComp R5 [⟨tg,iter,[],0⟩] QV pos) ys:=by
 have hte:∀C s H fp,PE (aK X QV cl C s H fp) R5 λσ H Q=>∃i x y,xs[i]?=some x/\ys[i]?=some y/\∃O',Rs X.K H0 O0 (f (gh is ps) x) σ H O'/\∀v H',aL H H'->Rp X.K (hid H' O') v y->Q v H':=
  λC s H fp pins s' σ H' Q I ⟨i,x,y,h1,h2,z⟩=>he C s H fp i x y h1 h2 pins s' σ H' Q I z
 refine PE.mono (Bv hc B hi hg hte hs) λσ H Q ⟨O,R,q⟩=>⟨O,R,λJ H1 s1 Y=>?_⟩
 exact v6 gk (R.go s1) Y Q5 hz SK (λi x y σ H O' Q h1 h2 R' z=>⟨i,x,y,h1,h2,O',R',z⟩) λa vs H' s n h r=>q a vs H' (s1.trans s) (s1.free n) h r
end
noncomputable def spU(K:Fm)(Rq:List U->Out->Prop):Sp:=λvs H Q E=>∃us O o,(∀a∈O,H a≠none)/\Rps K (hid H O) vs us/\Rq us o/\o8 K H O Q E o
section
variable {X:Cx}{ps:PSt}{s:I_}{a b c:Expr}{p:Pos}{x y:U}{k:Bool}
 {CX:CXT}{n:Nat}{f C:FI}{fd:Ia}{pn:List Str}{Rq:List U->Out->Prop}{nm:Str}
theorem aH(F:bg X.prog X.w X.K X.mg X.base CX n f fd pn (spU X.K Rq))(hr:eE n X.A)(hg:Gl X nm)(hm:X.mg nm=some (.ref f))(hk:Jj X.K (.ref f)=true)(hb:dY X.K fd pn [])(hx:iZ CX X E0)
  (ha:EvA X H0 O0 ps (e::es) us) (h:Rq us (.val u)) (Sk:(nm==("__debug__":Str))=false:=by decide) (he:FH (e::es) X.env=(false,JQ e X.env)::FH es X.env:=by rfl) (RH:(J5 pos (FH es X.env)).any (·.1)=false:=by rfl):
  Ev X H0 O0 ps (.Call (.Name nm p) (e::es) [] pos) u:=
 PE.mono (nj F hr hg hm hk hb .nil hx ha Sk he RH) λσ H Q ⟨O,R,q⟩=>⟨O,R,λvs H1 s1 r1=>by
  show spU X.K Rq (vs++[]) H1 Q _;rw[Ib];exact⟨us,O,.val u,(R.go s1).dom,r1,h,λv H2 s2 r2=>q v H2 (s1.trans s2) r2⟩⟩
theorem b9(F:bg X.prog X.w X.K X.mg X.base CX n f fd pn (spU X.K Rq))(hr:eE n X.A)(hg:Gl X nm)(hm:X.mg nm=some (.ref f))(hk:Jj X.K (.ref f)=true)(hb:dY X.K fd pn [])(hx:iZ CX X E0)
  (ha:EvA X H0 O0 ps (e::es) us) (h:Rq us (.new xs)) (Sk:(nm==("__debug__":Str))=false:=by decide) (he:FH (e::es) X.env=(false,JQ e X.env)::FH es X.env:=by rfl) (RH:(J5 pos (FH es X.env)).any (·.1)=false:=by rfl):
  EvN X H0 O0 ps (.Call (.Name nm p) (e::es) [] pos) xs:=
 PE.mono (nj F hr hg hm hk hb .nil hx ha Sk he RH) λσ H Q ⟨O,R,q⟩=>⟨O,R,λvs H1 s1 r1=>by
  show spU X.K Rq (vs++[]) H1 Q _;rw[Ib];exact⟨us,O,.new xs,(R.go s1).dom,r1,h,λa vs H2 s2 n2 h2 r2=>q a vs H2 (s1.trans s2) (s1.free n2) h2 r2⟩⟩
end
section
variable {P:FK}{w:Gj}{K:Fm}{mg:Str→Option Fq}{base:HF}{N pn:List Str}{Q3 nm:Str}{QV:LH}{f:FI}{cd:Fq}{A:Gs}{outer:List Env}{s:Fp}{ps:PSt}
def f8(N:List Str)(us:List U):PSt:=us.map (λu=>some (.val u))++Pz (N.length-us.length) none
theorem be{st:I_}{fd:Ia}{k:Nat}{Rq:List U->Out->Prop}(F:Fun K nm Q3 st f fd)(S:aw N pn (ak st))(len:∀us o,Rq us o->us.length=pn.length)
  (Ry:∀(Q6:Fq) (A:Gs) (outer:List Env) (s:Fp) (H:Hp) (E:XK) (O:List FI) (us:List U) (o:Out),eE k (A.deeper (M0 Q3 (ak st) s.heap.objs.size f Q6))->Rq us o->
   Ws (nN (CXF P w) P w K mg base N Q3 (ak st) f Q6 A outer s H E) H O E (bI st) ⟨λ_=>o=.val .non,λo'=>o'=o,λ_=>False,λ_=>False⟩ (f8 N us)):bg P w K mg base (CXF P w) (k+1) f fd pn (spU K Rq):=by
 refine F.okF S (λvs H Q E h=>?_) λQ6 A outer s H vs Q E hr h=>?_
 ·obtain⟨us,O,o,_,r,Sq,_⟩:=h;rw[r.len];exact len us o Sq
 ·obtain⟨us,O,o,d,r,Sq,q⟩:=h;refine⟨_,Ry Q6 A outer s H E O us o hr Sq,⟨λps σ H' O' R e=>?_,λ_ _ _ _ _ e=>e.elim,λ_ _ _ _ _ e=>e.elim,λo' e=>by subst e;exact q⟩,O,?_⟩
  ·subst e;exact q .non H' R.same .non
  ·refine⟨.refl H,λa h=>h,λa h=>.inl h,d,?_,λi sl e=>?_,λi j xs ys a e1 e2 _ _=>?_⟩
   ·unfold start f8;rw[FT,FT,Fk,Fk,Jg,Jg,r.len]
   ·unfold f8 at e;by_cases hi:i<us.length
    ·rw[FR (by simpa using hi),Ft,Fj hi]at e
     cases e;obtain⟨v,h1,h2⟩:=r.get (Fj hi);refine⟨v,?_,h2⟩;unfold start;rw[FR (by simpa [r.len] using hi),Ft,h1];rfl
    ·rw[FS (by simpa using hi),IR]at e
     split at e <;>cases e
   ·exfalso
    unfold f8 at e1;by_cases hi:i<us.length
    ·rw[FR (by simpa using hi),Ft,Fj hi]at e1
     cases e1
    ·rw[FS (by simpa using hi),IR]at e1
     split at e1 <;>cases e1
end
section
variable {X:Cx}{ps:PSt}{a b c:Expr}{rest:List Expr}{p p2:Pos}{x y:U}{i j:Int}{k m:Bool}{lo hi:Option Expr}{l h:Option Int}
def EvO(X:Cx)(H0:Hp)(O0:List FI)(ps:PSt)(e:Option Expr)(n:Option Int):Prop:=PO X e λσ H Q=>∃O,Rs X.K H0 O0 ps σ H O/\∀H',aL H H'->Q n H'
theorem i7:EvO X H0 O0 ps none none:=λpins s σ H Q I ⟨O,R,q⟩=>Bp pins s σ H Q I (q H (.refl H))
theorem gu(he:Ev X H0 O0 ps e (.int i)):EvO X H0 O0 ps (some e) (some i):=λpins s σ H Q I ⟨O,R,q⟩=>Az he pins s σ H Q I ⟨O,R,λv H' s r=>by cases r;exact⟨i,rfl,q H' s⟩⟩
noncomputable def ig(xs:List U)(lo hi:Option Int):List U:=(xs.drop (HT.sIx xs.length 0 lo)).take (HT.sIx xs.length xs.length hi-HT.sIx xs.length 0 lo)
theorem Rps.drop{K:Fm}{H:Hp}{vs:List V}{xs:List U}(r:Rps K H vs xs)(n:Nat):Rps K H (vs.drop n) (xs.drop n):=⟨by simp[r.len],λi v x h1 h2=>r.at_ _ v x (by rwa [Jh]at h1) (by rwa [Jh]at h2)⟩
theorem Rps.take{K:Fm}{H:Hp}{vs:List V}{xs:List U}(r:Rps K H vs xs)(n:Nat):Rps K H (vs.take n) (xs.take n):=⟨by simp[r.len],λi v x h1 h2=>by
 by_cases hn:i<n
 ·rw[HN hn]at h1 h2;exact r.at_ i v x h1 h2
 ·rw[List.getElem?_take_eq_none (by lia)]at h1
  cases h1⟩
theorem Rps.cut{K:Fm}{H:Hp}{vs:List V}{xs:List U}(r:Rps K H vs xs):Rps K H (uF vs l h) (ig xs l h):=by
 unfold uF ig;rw[r.len];exact (r.drop _).take _
theorem fF(he:Ev X H0 O0 ps e x)(hl:EvO X H0 O0 ps lo l)(hh:EvO X H0 O0 ps hi h)(hx:x=.lst xs\/x=.scr xs):EvN X H0 O0 ps (.Subscript e (.Slice lo hi none p2) pos) (ig xs l h):=
 PE.mono (xG Ah he hl hh) λσ H Q ⟨O,R,q⟩=>⟨O,R,λv H1 s1 r1=>⟨O,R.go s1,λH2 s2=>⟨O,R.go (s1.trans s2),λH3 s3=>by
  have key:∃a vs,v=.ref a/\SqL X.K (hid H1 O) a vs/\Rps X.K (hid H1 O) vs xs:=by
   rcases hx with rfl |rfl
   ·cases r1 with
    |lst hq hl hh=>exact⟨_,_,rfl,SqL.of hq,hl,hh⟩
   ·cases r1 with
    |scr hq hl hh=>exact⟨_,_,rfl,hq,hl,hh⟩
  obtain⟨a,vs,rfl,hq,rs⟩:=key;have s13:=s2.trans s3;refine⟨a,vs,rfl,s13.seq (aq.seq hq),λp hp=>q p _ _ ((s1.trans s13).trans (aQ hp _)) ((s1.trans s13).free hp) aO ?_⟩
  exact (rs.cut.same (aY s13)).same (bF (aQ hp _) hp)⟩⟩⟩
theorem uq(ha:Ev X H0 O0 ps a (.lst xs))(hb:Ev X H0 O0 ps b (.lst ys))(hz:xs.length+ys.length<=sizeLine):EvN X H0 O0 ps (.BinOp a .Add b pos) (xs++ys):=
 PE.mono (xg Cy ha hb) λσ H Q ⟨O,R,q⟩=>two R (λ_ _ _ z=>z) (λ_ _ _ z=>z) λv w H' s _ r1 r2=>by
  cases r1 with
  |lst hq hl hh=>
   cases r2 with
   |lst Rb Rc hh'=>
    refine⟨_,_,_,_,rfl,rfl,aq _ _ hq,aq _ _ Rb,by rw[hl,Rc];exact hz,λp hp=>q p _ _ (s.trans (aQ hp _)) (s.free hp) aO ?_⟩
    exact (Rps.snoc ⟨hl,hh⟩ ⟨Rc,hh'⟩).same (bF (aQ hp _) hp)
def fl:U->V
 | .bl b=>.bl b | .int i=>.int i | .str x=>.str x |_=>.non
def wc:U->Bool
 | .bl _=>true | .int _=>true | .str _=>true | .non=>true |_=>false
theorem BY{K:Fm}{H:Hp}{v:V}{u:U}(h:Rp K H v u)(f:wc u=true):v=fl u/\gZ v=true:=by
 cases h <;>first |exact⟨rfl,rfl⟩ |simp[wc]at f
theorem wk{K:Fm}{H:Hp}:∀{vs:List V}{xs:List U},Rps K H vs xs->xs.all wc=true->vs=xs.map fl/\vs.all gZ=true
 |vs,[],r,_=>by rw[r.nil_inv];exact⟨rfl,rfl⟩
 |vs,x::xs,r,f=>by
  obtain⟨v,ws,rfl,h1,h2⟩:=r.cons_inv;simp only[Ly,Hu]at f;obtain⟨e1,e2⟩:=BY h1 f.1;obtain⟨e3,e4⟩:=wk h2 f.2;refine⟨by rw[FU,<-e1,<-e3],?_⟩
  simp only[Ly,Hu];exact⟨e2,e4⟩
theorem Fc(hx:wc x=true)(hy:y.items=some ys)(hf:ys.all wc=true):OpS X (Hj .In) x y (.bl (inV (fl x) (ys.map fl))):=by
 intro pins s σ H v w p q Q I r1 r2 h;obtain⟨k1,k2,k3⟩:=h;obtain⟨a,vs,rfl,h1,h2⟩:=oy k2 hy;obtain⟨e1,e2⟩:=BY k1 hx;obtain⟨e3,e4⟩:=wk h2 hf;exact vC pins s σ H v _ p q Q I r1 r2 ⟨a,vs,rfl,h1,e2,e4,by rw[e1,e3];exact k3⟩
theorem DO{bs:List Bool}(hc:X.calm=true):fT X (.builtin "all") [.lst (bs.map U.bl)] (.bl (bs.all id)):=by
 intro pins s σ H vs us Q I r hq;obtain⟨O,d,rs,q⟩:=hq;obtain⟨v,rfl,h1⟩:=cA rs;obtain⟨p1,rfl,r1⟩:=fq r;cases h1 with
 | @lst a ws _ hq hl hh=>
  cases r1;obtain⟨QW,rv,pl,_⟩:=I.list (SqL.of (aq _ _ hq));have Q5:QW.length=bs.length:=by rw[<-rv.length,hl,Fk]
  have Sw:∀(i:Nat) (z:Fq),QW.toArray[i]?=some z->z=.bool (bs.getD i false):=λi z e=>by
   have hi:i<QW.length:=by have:=aC (show QW[i]?=some z by simpa using e);exact this
   have hb:i<bs.length:=by lia
   have hw:i<ws.length:=by rw[rv.length];exact hi
   obtain⟨u,e1,e2⟩:=rv.get (Fj hw);have e3:=hh i ws[i] (.bl bs[i]) (Fj hw) (by rw[Ft,Fj hb];rfl)
   have e4:QW[i]?=some z:=by simpa using e
   rw[e4]at e1;cases e1;generalize ws[i]=wi at *;cases e3;rw[FP,Fj hb];exact e2
  refine call_all_walk (Iu pl.isList ?_);have Q1:a≠s.heap.objs.size:=by obtain⟨o,e,_⟩:=pl.isList;exact Ga (FC e)
  refine⟨s.heap.objs.size,_,_,_,_,_,λi=>bs.getD i false,rfl,Walks.list (A:=X.A.in1) (I.ok.hd hc) s.heap.objs.size a Q1 QW.toArray,⟨⟨_,FE _ rfl,rfl,rfl⟩,pl.isList.push _⟩,λi z s' Q' E' hP hQ=>?_,λh' tk hk=>?_⟩
  ·rw[Sw i z hP];exact HM hQ
  ·have e:(GG QW.toArray.size).all (λi=>bs.getD i false)=bs.all id:=by
    rw[FL,Q5,IC,mI,Lo];constructor
    ·intro h x hx;obtain⟨i,hi,rfl⟩:=G_ hx;have:=h i hi
     rwa [FP,Fj hi]at this
    ·intro h j hj;rw[FP,Fj hj];exact h _ (GD hj)
   rw[e];refine⟨.bl _,H,I.kept (t':=tk) λb o e=>hk b o ?_ (Fo _ e),rfl,q _ H (.refl H) (.bl _)⟩
   intro z;have:b=s.heap.objs.size:=by simpa using z
   exact absurd (FC e) (by rw[this];exact Gh _)
end
def vp(J:It)(is:List Nat)(g:TG)(tt:TT)(te:TE)(σ:St)(H1:Hp)(l:FI)(Q:VK):Prop:=
 ∃W:Nat->Nat->Hp->Prop,(∃m,W 0 m (upd H1 l (.lst [])))/\∀i m H2,W i m H2->
  (J.stop i H2/\Q (.ref l) H2)\/(J.go i H2/\∀x H3,J.yld i H2 x H3->g x (mask is σ) H3 λTp H4=>tt Tp H4 λb H5=>
   (∀(j:Nat) (v:V),(mask is σ)[j]?=some (some v)->Tp[j]?=some (some v))/\
   if b=true then te Tp H5 λy H6=>∃vs,H6 l=some (.lst vs)/\vs.length<sizeLine/\∃m',m'<m/\W (i+1) m' (upd H6 l (.lst (vs++[y]))) else ∃m',m'<m/\W (i+1) m' H5)
def wb(is:List Nat)(g:TG)(tt:TT)(te:TE)(σ:St)(Q:VK)(J:It)(H1:Hp):Prop:=∀l,H1 l=none->vp J is g tt te σ H1 l Q
def wE(is:List Nat)(wi:TI)(g:TG)(tt:TT)(te:TE):TE:=λσ H Q=>wi σ H (wb is g tt te σ Q)
section
variable {X:Cx}{σ:St}{s:Fp}
theorem vt{R5 iter tg:Expr}{QV:LH}{cl:List (Str×FI)}{pos pos0:Pos}{is:List Nat}{wi:TI}{g:TG}{tt:TT}{te:TE}{cond:Expr}{use:Option (Fq->Sem Unit)}{Q0:VK}{Q:Fq->Fp->Prop}(hc:X.calm=true)(B:eJ X QV cl is)
  (hi:PI X tg iter wi) (hg:∀C s H fp,PG (aK X QV cl C s H fp) tg g) (ht:∀C s H fp,PT (aK X QV cl C s H fp) cond tt) (he:∀C s H fp,PE (aK X QV cl C s H fp) R5 te) (hs:∀x,Hw iter X.env x=pure x)
  (I:Inv X pins σ H s) (h:wE is wi g tt te σ H Q0)
  (fin:∀(l C:FI) (H':Hp) (s':Fp) (m:Str->Option Fq),Inv X pins σ H' s'->s'.heap.Ns C m->H' C=none->C≠X.env.locals->C ∉ X.fs->X.s₀.heap.objs.size<=C->(∀x c,X.env.cells.lookup x=some c->c≠C)->(∀p∈X.pn++pins,p.1≠C)->Q0 (.ref l) H'->
   Qq (F7 X.prog X.w) X.A X.xe use Q (.ref l) C (.ok .next) s'):
  FX (F7 X.prog X.w) X.A (comprehension (.ListComp R5 [⟨tg,iter,[cond],0⟩] QV pos) QV X.env pos0 (newList []) false (JQ iter X.env) use) Q X.xe s:=by
 refine Mc rfl hs B.clos B.kind B.names (thn (hi pins s σ H _ I h) λxv s1 h1=>thn h1 λitv s2 h2=>?_)
 obtain⟨it,fp,tn,J,H2,e,I2,T,RF,f2,R⟩:=h2;subst e;refine He (Nw B.cell (by intro y hy;simp at hy) (λh₁ hns SH=>?_) B.kind)
 have hl:H2 s2.heap.objs.size=none:=I2.hok.fresh (Fu _);obtain⟨W,⟨m0,w0⟩,turn⟩:=R s2.heap.objs.size hl
 have I3:Inv X pins σ (upd H2 s2.heap.objs.size (.lst [])) {s2 with heap:=s2.heap.push {cls:=.type "list",dict:=none,data:=.seq ([]:List Fq).toArray } }:=
  I2.laid (t':=s2.toks) (o:=.lst []) (λb u e=>Fo _ e) (Fu _) ⟨GN _,[],0,.nil,FE _ rfl⟩
 have hfl:∀b∈fp,b<s2.heap.objs.size:=λb hb=>let ⟨o,e,_⟩:=T.obj 0 _ RF b hb;FC e
 have f3:∀b∈fp,kO X pins (upd H2 s2.heap.objs.size (.lst [])) b:=λb hb=>⟨by rw[ba (Ga (hfl b hb))];exact (f2 b hb).1,(f2 b hb).2⟩
 have kp:∀b o,(s2.heap.push {cls:=.type "list",dict:=none,data:=.seq ([]:List Fq).toArray }).get? b=some o→h₁.get? b=some o:=λb o e=>
  SH.extBut b o (Ga (FC e)) (Fo _ e)
 have S7:tn 0 h₁:=T.keep 0 _ _ RF λb _ o e=>kp b o (Fo _ e)
 have hfl3:∀b∈fp,b<(s2.heap.push {cls:=.type "list",dict:=none,data:=.seq ([]:List Fq).toArray }).objs.size:=λb hb=>by
  rw[HH];exact HP (hfl b hb)
 have I4:=jw (t':=s2.toks+([]:List (Str×Fq)).length) I3 B f3 hfl3 hns kp
 have loop:J6 (F7 X.prog X.w) X.A (.compLoop (.ListComp R5 [⟨tg,iter,[cond],0⟩] QV pos) 0 (.ref it) (.ref s2.heap.objs.size) (Nt QV cl (s2.heap.push {cls:=.type "list",dict:=none,data:=.seq ([]:List Fq).toArray }).objs.size X.env))
   (Qq (F7 X.prog X.w) X.A X.xe use Q (.ref s2.heap.objs.size) (s2.heap.push {cls:=.type "list",dict:=none,data:=.seq ([]:List Fq).toArray }).objs.size)
   {s2 with heap:=h₁,toks:=s2.toks+([]:List (Str×Fq)).length }:=by
  generalize hs3:({s2 with heap:=s2.heap.push {cls:=.type "list",dict:=none,data:=.seq ([]:List Fq).toArray } }:Fp)=s3 at *
  have hC:(s2.heap.push {cls:=.type "list",dict:=none,data:=.seq ([]:List Fq).toArray }).objs.size=s3.heap.objs.size:=by rw[←hs3]
  rw[hC]
  have R6:∀{H':Hp},(∀b∈fp,H' b=none)->∀b∈fp,kO (aK X QV cl s3.heap.objs.size s3 (upd H2 s2.heap.objs.size (.lst [])) fp) [] H' b:=λhn b hb=>
   ⟨hn b hb,(I4.ok.exf b hb).1,I4.ok.exfs b hb,.inl hb,λx c e=>(I4.ok.exf b hb).2 x c e,λp hp=>absurd (show p∈([]:List (FI×Obj)) from hp) (by simp)⟩
  have back:∀{Q7:St}{H':Hp}{pp:List (FI×Obj)}{s':Fp},Inv (aK X QV cl s3.heap.objs.size s3 (upd H2 s2.heap.objs.size (.lst [])) fp) pp Q7 H' s'->Inv X pins σ H' s':=λI'=>
   I3.call' (ch:=fp) I'.os I'.base I'.hok I'.bare λb hb=>⟨(f3 b hb).2.2.2.1,(f3 b hb).2.1,(f3 b hb).2.2.2.2.1,(f3 b hb).2.2.2.2.2⟩
  refine codeAny_loop rfl (λn s'=>∃i H',Inv (aK X QV cl s3.heap.objs.size s3 (upd H2 s2.heap.objs.size (.lst [])) fp) [] (mask is σ) H' s'/\tn i s'.heap/\(∀b∈fp,H' b=none)/\W i n H') ?_ m0 ⟨0,_,(by subst hs3;exact I4),S7,λb hb=>(f3 b hb).1,w0⟩
  rintro n s5 ⟨i,H5,I5,Ti,fr5,w5⟩;show FX _ _ ((compTurn (.ListComp R5 [⟨tg,iter,[cond],0⟩] QV pos) 0 (.ref it) (.ref s2.heap.objs.size) (Nt QV cl s3.heap.objs.size X.env)).onRaise (λx=>do noteFrame x (Nt QV cl s3.heap.objs.size X.env);O4 x)) _ _ s5
  refine wpAny_noted ?_;rw[compTurn_list];refine Fi (NR (Fi ?_));rcases turn i n H5 w5 with ⟨stop,q⟩ |⟨go,step⟩
  ·refine thn (T.done (aK X QV cl s3.heap.objs.size s3 (upd H2 s2.heap.objs.size (.lst [])) fp) rfl rfl rfl hc i [] s5 _ H5 _ I5 (R6 fr5) Ti stop) λr s6 ⟨hr,I6⟩=>?_
   subst hr;refine Fl ?_;obtain⟨m6,hn6,_⟩:=I6.loc;have hCn:∀b,b<s3.heap.objs.size->b≠s3.heap.objs.size:=λb hb=>Ga hb
   refine fin _ s3.heap.objs.size H5 s6 m6 (back I6) hn6 I6.free (Lc I3.lt) (I3.nofs (Fu _)) I3.sz (λx c e=>?_) (λp hp=>?_) q
   ·obtain⟨v,z⟩:=I3.cell x c e;exact Ga z.lt
   ·exact Ga (FC (I3.pin p hp).1)
  ·refine thn (T.item (aK X QV cl s3.heap.objs.size s3 (upd H2 s2.heap.objs.size (.lst [])) fp) rfl rfl rfl hc i [] s5 _ H5 _ I5 (R6 fr5) Ti go) λr s6 ⟨u,hr,h6⟩=>?_
   subst hr;refine Fi (thn h6 λ_ s7 ⟨x,H7,I7,r7,y7,st7,fr7⟩=>?_)
   have I7':=I7.pinned (R6 fr7) (T.obj _ _ st7);refine Fi (JA (hg _ _ _ _ _ s7 (mask is σ) H7 x u _ I7' r7 (step x H7 y7)) (λ_ s8 ⟨σ8,H8,I8,q8⟩=>?_) λ_ _ z=>z.elim)
   refine Fi (wpAny_tests_one (JA (ht _ _ _ _ _ s8 σ8 H8 _ I8 q8) (λbb s9 ⟨H9,I9,sub,q9⟩=>?_) λ_ _ z=>z.elim))
   have fpn:∀{H':Hp}{s':Fp}{Q7:St},Inv (aK X QV cl s3.heap.objs.size s3 (upd H2 s2.heap.objs.size (.lst [])) fp) ([]++kG fp s7.heap) Q7 H' s'->tn (i+1) s'.heap/\∀b∈fp,H' b=none:=λ{H' s' Q7} J=>⟨T.keep _ _ _ st7 λb hb o e=>(J.pin (b,o) (FG _ (FG _ (c7 hb e)))).1,λb hb=>by
    obtain⟨o,e,d⟩:=T.obj _ _ st7 b hb;exact (J.pin (b,o) (FG _ (FG _ (c7 hb e)))).2.1⟩
   cases bb with
   |true=>
    rw[if_pos rfl]at q9;simp only[if_true];refine Fi (Fi (JA (he _ _ _ _ _ s9 σ8 H9 _ I9 q9) (λv s10 ⟨y,H10,I10,r10,vs,hl10,hz,m',hm,w'⟩=>?_) λ_ _ z=>z.elim))
    refine Fi (JA (i6 (X:=aK X QV cl s3.heap.objs.size s3 (upd H2 s2.heap.objs.size (.lst [])) fp) _ s10 σ8 H10 (.ref s2.heap.objs.size) [y] (.ref s2.heap.objs.size) [v] (λ_ H'=>H'=upd H10 s2.heap.objs.size (.lst (vs++[y]))) I10 rfl (.cons r10 .nil) ⟨_,vs,y,rfl,rfl,hl10,hz,rfl⟩) (λz s11 ⟨zv,H11,I11,_,e11⟩=>?_) λ_ _ z=>z.elim)
    subst e11;obtain⟨k1,k2⟩:=fpn I11;exact Fl (Fl ⟨rfl,m',hm,i+1,_,(I11.unpinned (pins:=[])).weak (by rw[I11.len,fm,I.len]) sub,k1,k2,w'⟩)
   |false=>
    rw[if_neg (by decide)]at q9
    simp only[Fz,if_false];obtain⟨m',hm,w'⟩:=q9;obtain⟨k1,k2⟩:=fpn I9
    first
     |exact Fl ⟨rfl,m',hm,i+1,_,(I9.unpinned (pins:=[])).weak (by rw[I9.len,fm,I.len]) sub,k1,k2,w'⟩
     |exact Fi (Fl (Fl ⟨rfl,m',hm,i+1,_,(I9.unpinned (pins:=[])).weak (by rw[I9.len,fm,I.len]) sub,k1,k2,w'⟩))
 exact MN loop (T.self X.A 0 _ _ _ S7 loop)
theorem yA{R5 iter tg:Expr}{QV:LH}{cl:List (Str×FI)}{pos:Pos}{is:List Nat}{wi:TI}{g:TG}{tt:TT}{te:TE}{cond:Expr}(hc:X.calm=true)(B:eJ X QV cl is)
  (hi:PI X tg iter wi) (hg:∀C s H fp,PG (aK X QV cl C s H fp) tg g) (ht:∀C s H fp,PT (aK X QV cl C s H fp) cond tt) (he:∀C s H fp,PE (aK X QV cl C s H fp) R5 te) (hs:∀x,Hw iter X.env x=pure x:=by intro _;rfl):
  PE X (.ListComp R5 [⟨tg,iter,[cond],0⟩] QV pos) (wE is wi g tt te):=by
 intro pins s σ H Q I h;rw[eval_ListComp];refine vt (use:=none) hc B hi hg ht he hs I h λl C H' s' m I' hn h1 h2 h3 h4 h5 h6 q=>⟨m,hn,λh' SH=>?_⟩
 exact⟨.ref l,H',I'.turned (t':=s'.toks) (λb o hb e=>SH.extBut b o hb e) h1 (Ne.symm h2.symm) (.inr h4) h5 h6,rfl,q⟩
variable {ps:PSt}{cond:Expr}{p:Pos}{fs:List (Option U)}
theorem qU{is:List Nat}{g:TG}{f:PSt->U->PSt}{dom:U->Prop}{σ:St}{H1:Hp}{O:List FI}{Q:VK}{J:It}{tt:TT}{te:TE}(hg:GOk g X.K is f dom)(R1:Rs X.K H0 O0 ps σ H1 O)(Y:Yl X.K J (hid H1 O) xs)(Q5:fs.length=xs.length)(hz:xs.length<=sizeLine)(SK:∀x∈xs,dom x)
  (htt:∀(i:Nat) (x:U) (o:Option U) (σ:St) (H:Hp) (O':List FI) (Q:Bool->Hp->Prop),xs[i]?=some x->fs[i]?=some o->Rs X.K H0 O0 (f (gh is ps) x) σ H O'->(∀H',aL H H'->Q o.isSome H')->tt σ H Q)
  (hte:∀(i:Nat) (x y:U) (σ:St) (H:Hp) (O':List FI) (Q:VK),xs[i]?=some x->fs[i]?=some (some y)->Rs X.K H0 O0 (f (gh is ps) x) σ H O'->(∀v H',aL H H'->Rp X.K (hid H' O') v y->Q v H')->te σ H Q)
  (fin:∀a vs H',aL H1 H'->H1 a=none->H' a=some (.lst vs)->Rps X.K (hid H' (a::O)) vs (fs.filterMap id)->Q (.ref a) H'):wb is g tt te σ Q J H1:=by
 intro l hl;refine⟨λi m H2=>m=xs.length-i/\i<=xs.length/\aL H1 H2/\∃vs,H2 l=some (.lst vs)/\vs.length<=i/\Rps X.K (hid H2 (l::O)) vs ((fs.take i).filterMap id),⟨_,rfl,GN _,aQ hl _,[],aO,Fu _,by rw[NF];exact .nil⟩,?_⟩
 rintro i m H2 ⟨rfl,hi,s2,vs,h2,hv,rs⟩;have seen:aL (hid H1 O) (hid H2 (l::O)):=bF s2 hl;obtain⟨y1,y2⟩:=Y H2 (seen.trans aq);by_cases Q4:i<xs.length
 ·obtain⟨g1,g2⟩:=y1 i Q4;refine .inr ⟨g1,λx H3 y=>?_⟩
  obtain⟨rfl,u,hu,r⟩:=g2 x H3 y;have R2:=(R1.mask (is:=is)).hide s2 hl (by rw[h2];intro z;cases z)
  refine hg H0 O0 _ _ H3 (l::O) x u _ (SK u (FD hu)) R2 (r.same seen) λTp R4 keep=>?_
  obtain⟨o,ho⟩:∃o,fs[i]?=some o:=⟨_,Fj (by lia)⟩
  refine htt i u o Tp H3 (l::O) _ hu ho R4 λH5 s5=>⟨λj w e=>keep j w (iG is σ j w e).2 e,?_⟩
  cases o with
  |none=>
   refine o7 ⟨xs.length-(i+1),by lia,rfl,Q4,s2.trans s5,vs,s5 _ _ h2,by lia,?_⟩
   rw[IB,ho,N0,M5];simpa using rs.same (aY s5)
  |some yv=>
   refine vL (hte i u yv Tp H5 (l::O) _ hu ho (R4.go s5) λv H6 s6 r6=>⟨vs,s6 _ _ (s5 _ _ h2),?_,xs.length-(i+1),by lia,rfl,Q4,((s2.trans s5).trans s6).put hl _,vs++[v],aO,by simp;lia,?_⟩)
   ·lia
   ·rw[jM Fv,IB,ho,N0,M5];exact ((rs.same (aY s5)).same (aY s6)).snoc (.cons r6 .nil)
 ·have e:i=xs.length:=by lia
  subst e;rw[<-Q5,Hv]at rs;exact .inl ⟨y2,fin l vs H2 s2 hl h2 rs⟩
theorem A7{R5:Expr}{QV:LH}{cl:List (Str×FI)}{is:List Nat}{g:TG}{f:PSt->U->PSt}{dom:U->Prop}(fs:List (Option U))(hc:X.calm=true)(B:eJ X QV cl is)(hi:EvI X H0 O0 ps tg iter xs)(hg:∀C s H fp,PG (aK X QV cl C s H fp) tg g)(gk:GOk g X.K is f dom)
  (Q5:fs.length=xs.length) (hz:xs.length<=sizeLine) (SK:∀x∈xs,dom x) (ht:∀C s H fp (i:Nat) (x:U) (o:Option U),xs[i]?=some x->fs[i]?=some o->Tt (aK X QV cl C s H fp) H0 O0 (f (gh is ps) x) cond o.isSome)
  (he:∀C s H fp (i:Nat) (x y:U),xs[i]?=some x->fs[i]?=some (some y)->Ev (aK X QV cl C s H fp) H0 O0 (f (gh is ps) x) R5 y)
  (hs:∀x,Hw iter X.env x=pure x:=by intro _;rfl):EvN X H0 O0 ps (.ListComp R5 [⟨tg,iter,[cond],0⟩] QV pos) (fs.filterMap id):=by
 have hte:∀C s H fp,PE (aK X QV cl C s H fp) R5 λσ H Q=>∃i x y,xs[i]?=some x/\fs[i]?=some (some y)/\∃O',Rs X.K H0 O0 (f (gh is ps) x) σ H O'/\∀v H',aL H H'->Rp X.K (hid H' O') v y->Q v H':=
  λC s H fp pins s' σ H' Q I ⟨i,x,y,h1,h2,z⟩=>he C s H fp i x y h1 h2 pins s' σ H' Q I z
 have htt:∀C s H fp,PT (aK X QV cl C s H fp) cond λσ H Q=>∃(i:Nat) (x:U) (o:Option U),xs[i]?=some x/\fs[i]?=some o/\∃O',Rs X.K H0 O0 (f (gh is ps) x) σ H O'/\∀H',aL H H'->Q o.isSome H':=
  λC s H fp pins s' σ H' Q I ⟨i,x,o,h1,h2,z⟩=>ht C s H fp i x o h1 h2 pins s' σ H' Q I z
 refine PE.mono (yA hc B hi hg htt hte hs) λσ H Q ⟨O,R,q⟩=>⟨O,R,λJ H1 s1 Y=>?_⟩
 exact qU gk (R.go s1) Y Q5 hz SK (λi x o σ H O' Q h1 h2 R' z=>⟨i,x,o,h1,h2,O',R',z⟩) (λi x y σ H O' Q h1 h2 R' z=>⟨i,x,y,h1,h2,O',R',z⟩) λa vs H' s n h r=>q a vs H' (s1.trans s) (s1.free n) h r
end
theorem Ws.nox{X:Cx}{H0:Hp}{O0:List FI}{E:XK}{ss:List I_}{D:PD}{ps:PSt}(h:Ws X.nox H0 O0 E ss D ps):Ws X H0 O0 E ss D ps:=PSs.nox h
theorem bg.calm{P:FK}{w:Gj}{K:Fm}{mg:Str->Option Fq}{base:HF}{k:Nat}{f:FI}{fd:Ia}{ps:List Str}{sp:Sp}(F:bg P w K mg base (CXF P w) k f fd ps sp)(h:∀vs H Q E,sp vs H Q E->sp vs H Q E0):bg P w K mg base CX0 k f fd ps sp:=by
 refine⟨F.len,λA outer s H args us vs Q E hr he hb hv hs=>Ld (F.run A outer s H args us vs Q E0 hr he hb hv (h _ _ _ _ hs)) λr s' q=>?_⟩
 cases r with
 |ok fl=>
  cases fl with
  |ret u=>exact q
  |next=>exact q
  |brk=>exact q
  |cont=>exact q
 |error e=>
  obtain⟨_,_,_,_,_,_,_,_,_,_,_,_,_,_,_,hE⟩:=q;exact hE.elim
def iM:List U->Out->Prop:=λus o=>∃ns:List Int,us=[.scr (ns.map U.int)]/\ns.length<=63/\(∀m∈ns,Sz 1048576 m)/\o=.val (.bl true)
theorem wI{K:Fm}(vs:List V)(H:Hp)(Q:VK)(E:XK)(h:spU K iM vs H Q E):spU K iM vs H Q E0:=by
 obtain⟨us,O,o,d,r,⟨ns,h1,h2,h3,rfl⟩,q⟩:=h;exact⟨us,O,_,d,r,⟨ns,h1,h2,h3,rfl⟩,q⟩
theorem uW{K:Fm}{H:Hp}{a:FI}{ns:List Int}{E:XK}(h1:ns.length<=63)(h2:∀m∈ns,Sz 1048576 m)(h3:SqL K H a (ns.map V.int)):spU K iM [.ref a] H (λv _=>v=.bl true) E:=by
 refine⟨[.scr (ns.map U.int)],[],.val (.bl true),λa ha=>(nomatch ha),.cons ?_ .nil,⟨ns,rfl,h1,h2,rfl⟩,λv H' s r=>by cases r;rfl⟩
 have e:hid H []=H:=by funext b;unfold hid;rw[if_neg (by simp)]
 rw[e];refine .scr h3 (by simp) λi v x e1 e2=>?_
 rw[Ft]at e1 e2;cases q:ns[i]? with
 |none=>rw[q]at e1;cases e1
 |some n=>rw[q]at e1 e2;cases e1;cases e2;exact .int n
theorem gO{k:Nat}{A:Gs}(hr:eE k A):A.units+10<Ip:=by have:=hr.un;lia
theorem xV{ns:List Int}{k:Int}(h0:0<=k)(h:k<(ns.length:Int)):atI (ns.map U.int) k=some (.int (ns.getD k.toNat 0)):=by
 have hk:k.toNat<ns.length:=by lia
 have q:atI (ns.map U.int) ((k.toNat:Nat):Int)=some (.int (ns.getD k.toNat 0)):=sn (by rw[Ft,FP,Fj hk] <;>rfl)
 rwa [show ((k.toNat:Nat):Int)=k by lia]at q
theorem Aw{ns:List Int}(h:∀m∈ns,Sz 1048576 m)(i:Nat):Sz 1048576 (ns.getD i 0):=by
 by_cases hk:i<ns.length
 ·rw[FP,Fj hk,Jd];exact h _ (GD hk)
 ·rw[FP,F9 (by lia),MG];exact Sz.mono (m:=8) (by decide) (by decide)
abbrev pt(x y:Int):U:=.tup [.int x,.int y]
theorem dTb{p:Prop}[Decidable p](h:decide p=true):p:=of_decide_eq_true h
theorem dFb{p:Prop}[Decidable p](h:decide p=false):¬ p:=of_decide_eq_false h
theorem nTb{p:Prop}[Decidable p](h:(!decide p)=true):¬ p:=by simpa using h
theorem nFb{p:Prop}[Decidable p](h:(!decide p)=false):p:=by simpa using h
theorem vB{a b:Bool}(h:a=b):Out.val (.bl a)=Out.val (.bl b):=by rw[h]
theorem vIO{a b:Int}(h:a=b):Out.val (.int a)=Out.val (.int b):=by rw[h]
mutual
theorem pF:∀(n:Nat) (u:U),okU n u=true->eqW u u=true
 |_,.non,_=>rfl
 |_,.bl b,_=>by simp[eqW]
 |_,.int b,_=>by simp[eqW]
 |_,.str b,_=>by simp[eqW]
 |_,.ty _,h=>by simp[okU]at h
 |_,.dic,h=>by simp[okU]at h
 |0,.tup _,h=>by simp[okU]at h
 |0,.lst _,h=>by simp[okU]at h
 |0,.scr _,h=>by simp[okU]at h
 |n+1,.tup xs,h=>by rw[eqW];rw[okU]at h;exact eqWs_refl n xs h
 |n+1,.lst xs,h=>by rw[eqW];rw[okU]at h;exact eqWs_refl n xs h
 |n+1,.scr xs,h=>by rw[eqW];rw[okU]at h;exact eqWs_refl n xs h
theorem eqWs_refl:∀(n:Nat) (xs:List U),okUs n xs=true->eqWs xs xs=true
 |_,[],_=>rfl
 |n,x::xs,h=>by
  simp only[okUs,Hu]at h;simp only[eqWs,Hu];exact⟨pF n x h.1,eqWs_refl n xs h.2⟩
end
theorem oW{α:Type}{n:Nat}{f:α->U}{l:List α}(h:∀a∈l,okU n (f a)=true):okUs n (l.map f)=true:=by
 induction l with
 |nil=>rfl
 |cons a l ih=>
  rw[FU,okUs,Hu];exact⟨h a Fv,ih λb hb=>h b (Fn _ hb)⟩
theorem gD{α:Type}{n:Nat}{f:α->U}{l:List α}(h:∀a,okU n (f a)=true):okU (n+1) (.lst (l.map f))=true:=by rw[okU];exact oW λa _=>h a
theorem qo{α:Type}{f:α->U}{p:α->α->Prop}[DecidableEq α](hf:∀a b,eqW (f a) (f b)=decide (a=b)):∀(l m:List α),eqWs (l.map f) (m.map f)=decide (l=m)
 |[],[]=>rfl
 |[],_::_=>rfl
 |_::_,[]=>rfl
 |a::l,b::m=>by
  rw[FU,FU,eqWs,hf,qo (p:=p) hf l m,IC];simp
section
variable {X:Cx}{ps:PSt}{a b c:Expr}{rest:List Expr}{k:Bool}
theorem fS{tb fb:List I_}(hc:Tt X H0 O0 ps c k)(hk:k=true)(h:Ws X H0 O0 E tb D ps):W1 X H0 O0 E (.If c tb fb pos) D ps:=k_ hc (λ_=>h) (λe=>by rw[hk]at e;cases e)
theorem bQ{tb fb:List I_}(hc:Tt X H0 O0 ps c k)(hk:k=false)(h:Ws X H0 O0 E fb D ps):W1 X H0 O0 E (.If c tb fb pos) D ps:=k_ hc (λe=>by rw[hk]at e;cases e) (λ_=>h)
theorem iY(ha:Tt X H0 O0 ps a k)(hk:k=false):Tw X H0 O0 ps (.BoolOp .And (a::b::rest) pos) false:=by
 subst hk;exact sq (m:=true) ha λh=>by cases h
end
section
variable {X:Cx}{ps:PSt}{c:Expr}{α:Type}
theorem TgS.sub{p p':PSt}{u:U}{Rl:PSt}(h:TgS X H0 O0 tg p u Rl)(hs:SubP p p'):TgS X H0 O0 tg p' u Rl:=PG.mono h λv σ H Q ⟨O,R,r,q⟩=>⟨O,R.sub hs,r,q⟩
theorem Tt.sub{p p':PSt}{e:Expr}{k:Bool}(h:Tt X H0 O0 p e k)(hs:SubP p p'):Tt X H0 O0 p' e k:=PT.mono h λσ H Q ⟨O,R,q⟩=>⟨O,R.sub hs,q⟩
theorem d8(st:α->PSt)(Q:Nat->α->Prop)(hc:X.calm=true)(hp:L8 (F7 X.prog X.w) X.A X.env X.xe)(hi:EvI X H0 O0 ps tg iter xs)(h0:∃a,Q 0 a/\SubP (st a) ps)
  (hs:∀(H0:Hp) (i:Nat) (x:U) (a:α),xs[i]?=some x->Q i a->∃Rl,TgS X H0 O0 tg (st a) x Rl/\Ws X H0 O0 E Rk {D with nx:=λp=>∃b,Q (i+1) b/\SubP (st b) p,ct:=λp=>∃b,Q (i+1) b/\SubP (st b) p,bk:=D.nx } Rl)
  (hd:∀a ps,Q xs.length a->SubP (st a) ps->D.nx ps) (hf:∀x,Hw iter X.env x=pure x:=by intro _;rfl):W1 X H0 O0 E (.For tg iter Rk [] pos) D ps:=
 Em hc hp hi (λi ps=>∃a,Q i a/\SubP (st a) ps) h0 (λH0 i x ps hx ⟨a,q,sb⟩=>by
  obtain⟨Rl,t,w⟩:=hs H0 i x a hx q;exact⟨Rl,t.sub sb,w⟩) (λps ⟨a,q,sb⟩=>hd a ps q sb) hf
theorem gG(st:α->PSt)(Q:Nat->α->Prop)(hp:L8 (F7 X.prog X.w) X.A X.env X.xe)(h0:∃m a,Q m a/\SubP (st a) ps)
  (hs:∀m a,Q m a->∃b,Tt X H0 O0 (st a) c b/\(b=true->Ws X H0 O0 E Rk {D with nx:=λp=>∃m' a',m'<m/\Q m' a'/\SubP (st a') p,ct:=λp=>∃m' a',m'<m/\Q m' a'/\SubP (st a') p,bk:=D.nx } (st a))/\(b=false->∀ps,SubP (st a) ps->D.nx ps)):W1 X H0 O0 E (.While c Rk [] pos) D ps:=by
 obtain⟨m,a,q,sb⟩:=h0;refine A6 hp (λm ps=>∃a,Q m a/\SubP (st a) ps) m ⟨a,q,sb⟩ λm ps ⟨a,q,sb⟩=>?_
 obtain⟨b,t,h1,h2⟩:=hs m a q;refine⟨b,t.sub sb,λe=>?_,λe=>h2 e ps sb⟩
 refine cE (PSs.mono (h1 e) λD' σ H ⟨L,O,R⟩=>⟨⟨λp σ H O R ⟨m',a',l,q',sb'⟩=>L.nx p σ H O R ⟨m',l,a',q',sb'⟩,L.bk,λp σ H O R ⟨m',a',l,q',sb'⟩=>L.ct p σ H O R ⟨m',l,a',q',sb'⟩,L.rt⟩,O,R⟩) sb
end
abbrev P2:=Int×Int
abbrev pu(p:P2):U:=.tup [.int p.1,.int p.2]
abbrev lp(l:List P2):U:=.lst (l.map pu)
theorem Dt(p q:P2):eqW (pu p) (pu q)=decide (p=q):=by
 obtain⟨a,b⟩:=p;obtain⟨c,d⟩:=q;simp only[pu,eqW,eqWs,NZ];rw[IC];simp
theorem B_(l m:List P2):eqW (lp l) (lp m)=decide (l=m):=by rw[lp,lp,eqW];exact qo (p:=λ_ _=>True) Dt l m
theorem Bz(l:List P2):okU 9 (lp l)=true:=gD λ_=>rfl
theorem pX{l:List P2}{i:Nat}{x:U}(h:(l.map pu)[i]?=some x):∃p,l[i]?=some p/\p∈l/\x=pu p:=by
 rw[Ft]at h;cases q:l[i]? with
 |none=>rw[q]at h;cases h
 |some p=>rw[q]at h;cases h;exact⟨p,rfl,FD q,rfl⟩
theorem im{α:Type}{l:List α}{f:α->U}{g:α->U}{i:Nat}{x y:U}(hx:(l.map f)[i]?=some x)(hy:(l.map g)[i]?=some y):∃a,l[i]?=some a/\a∈l/\x=f a/\y=g a:=by
 rw[Ft]at hx hy;cases q:l[i]? with
 |none=>rw[q]at hx;cases hx
 |some p=>rw[q]at hx hy;cases hx;cases hy;exact⟨p,rfl,FD q,rfl,rfl⟩
theorem SubP.rfl':∀(p:PSt),SubP p p
 |[]=>trivial
 |none::p=>SubP.rfl' p
 |some s::p=>⟨rfl,SubP.rfl' p⟩
theorem W1.mono{X:Cx}{H0:Hp}{O0:List FI}{E:XK}{s:I_}{D:PD}{J:PSt->Prop}{ps:PSt}(h:W1 X H0 O0 E s {D with nx:=J } ps)(m:∀ps,J ps->D.nx ps):W1 X H0 O0 E s D ps:=
 PS.mono h λD' σ H ⟨L,O,R⟩=>⟨⟨λp σ H O R q=>L.nx p σ H O R (m p q),L.bk,L.ct,L.rt⟩,O,R⟩
theorem fC{X:Cx}{H0:Hp}{O0:List FI}{E:XK}{s:I_}{ss:List I_}{D:PD}{ps:PSt}(J:PSt->Prop)(h1:W1 X H0 O0 E s {D with nx:=J } ps)(h2:∀ps,J ps->Ws X H0 O0 E ss D ps):Ws X H0 O0 E (s::ss) D ps:=
 af (W1.mono (J:=J) (D:={D with nx:=λp=>Ws X H0 O0 E ss D p }) h1 h2)
end L2
namespace L2
open PySem PySem.Spec PySem.W PyProof.Rows
section
variable {X:Cx}
def oj.drop(D:oj)(i:Nat):oj:=⟨λσ H=>D.nx (σ.set i none) H,D.rt,λσ H=>D.bk (σ.set i none) H,λσ H=>D.ct (σ.set i none) H⟩
variable {H0:Hp}{O0:List FI}{E:XK}{ps:PSt}{D:PD}{a e:Expr}{es:List Expr}{us:List U}{k:Bool}{n:Nat}{fd:Ia}{pn:List Str}{Rq:List U→Out→Prop}
def PD.drop(D:PD)(i:Nat):PD:=⟨λp=>D.nx (p.set i none),D.rt,λp=>D.bk (p.set i none),λp=>D.ct (p.set i none)⟩
end
end L2
namespace L2
open PySem
theorem d4{c:Const}{j:Nat}{pos:Pos}{es:List Expr}{env:Env}:FH (.Constant c j pos::es) env=(false,JQ (.Constant c j pos) env)::FH es env:=by rw[FH];intro e p h;cases h
theorem oo{l:List Expr}{j:Nat}{pos:Pos}{es:List Expr}{env:Env}:FH (.Tuple l j pos::es) env=(false,JQ (.Tuple l j pos) env)::FH es env:=by rw[FH];intro e p h;cases h
theorem CC{l:List Expr}{pos:Pos}{es:List Expr}{env:Env}:FH (.List l pos::es) env=(false,JQ (.List l pos) env)::FH es env:=by rw[FH];intro e p h;cases h
theorem j7{o:UnaryOp}{a:Expr}{pos:Pos}{es:List Expr}{env:Env}:FH (.UnaryOp o a pos::es) env=(false,JQ (.UnaryOp o a pos) env)::FH es env:=by rw[FH];intro e p h;cases h
theorem bq{a b:Expr}{o:Qm}{pos:Pos}{es:List Expr}{env:Env}:FH (.BinOp a o b pos::es) env=(false,JQ (.BinOp a o b pos) env)::FH es env:=by rw[FH];intro e p h;cases h
theorem ai{x:Str}{pos:Pos}{es:List Expr}{env:Env}:FH (.Name x pos::es) env=(false,JQ (.Name x pos) env)::FH es env:=by rw[FH];intro e p h;cases h
theorem aZ{a b:Expr}{pos:Pos}{es:List Expr}{env:Env}:FH (.Subscript a b pos::es) env=(false,JQ (.Subscript a b pos) env)::FH es env:=by rw[FH];intro e p h;cases h
theorem de{f:Expr}{a:List Expr}{k:List Oi}{pos:Pos}{es:List Expr}{env:Env}:FH (.Call f a k pos::es) env=(false,JQ (.Call f a k pos) env)::FH es env:=by rw[FH];intro e p h;cases h
theorem yL{a:Expr}{o:List OT}{c:List Expr}{pos:Pos}{es:List Expr}{env:Env}:FH (.Compare a o c pos::es) env=(false,JQ (.Compare a o c pos) env)::FH es env:=by rw[FH];intro e p h;cases h
theorem eI{e:Expr}{g:List Comprehension}{sc:LH}{pos:Pos}{es:List Expr}{env:Env}:FH (.ListComp e g sc pos::es) env=(false,JQ (.ListComp e g sc pos) env)::FH es env:=by rw[FH];intro e p h;cases h
structure EvS(X:Cx)(H0:Hp)(O0:List FI)(ps:PSt)(es:List Expr)(us:List U):Prop where
 a:EvA X H0 O0 ps es us
section
variable {X:Cx}{H0:Hp}{O0:List FI}{ps:PSt}{e:Expr}{es:List Expr}{u:U}{us:List U}{pos:Pos}
theorem bA:EvS X H0 O0 ps [] []:=⟨ao⟩
theorem ay(ha:Ev X H0 O0 ps e u)(hr:EvS X H0 O0 ps es us)(hs:FH (e::es) X.env=(false,JQ e X.env)::FH es X.env):EvS X H0 O0 ps (e::es) (u::us):=⟨ah ha hr.a hs⟩
theorem bW{x1}(h:EvS X H0 O0 ps es us)(hz:us.length<=sizeLine:=by first |decide | (simp only[F8,JI];decide)):Ev X H0 O0 ps (.Tuple es x1 pos) (.tup us):=Ee h.a hz
theorem cP(h:EvS X H0 O0 ps es us)(hz:us.length<=sizeLine:=by first |decide | (simp only[F8,JI];decide)):EvN X H0 O0 ps (.List es pos) us:=DN h.a hz
end
end L2
namespace ST
open PySem PySem.SetTable
def Ris(xs:Array Nat):Prop:=∀(i j x y:Nat),i<j->xs[i]?=some x->xs[j]?=some y->x<y
theorem Ris.inj{xs:Array Nat}(h:Ris xs){i j x:Nat}(h1:xs[i]?=some x)(h2:xs[j]?=some x):i=j:=by
 rcases JS i j with z |z |z
 ·exact absurd (h i j x x z h1 h2) (Gh _)
 ·exact z
 ·exact absurd (h j i x x z h2 h1) (Gh _)
theorem eG{xs:Array Nat}{i:Nat}(h:i<xs.size):xs[i]?=some xs[i]:=by simp[h]
theorem tX{xs:Array Nat}{i x:Nat}(h:xs[i]?=some x):i<xs.size:=(Ja.mp h).1
theorem nR{xs:Array Nat}(R:Ris xs)(j:Nat):∀(Ra lo hi:Nat),lo<=hi->hi<=xs.size->hi-lo<=Ra->(∀(i x:Nat),i<lo->xs[i]?=some x->x<j)->(∀(i x:Nat),hi<=i->xs[i]?=some x->j<=x)->
  (∀(i x:Nat),i<below.go xs j Ra lo hi->xs[i]?=some x->x<j)/\(∀(i x:Nat),below.go xs j Ra lo hi<=i->xs[i]?=some x->j<=x)/\below.go xs j Ra lo hi<=xs.size
 |0,lo,hi,h1,h2,h3,h4,h5=>by
  have e:lo=hi:=by lia
  subst e;rw[below.go];exact⟨h4,h5,h2⟩
 |Ra+1,lo,hi,h1,h2,h3,h4,h5=>by
  rw[below.go];by_cases Q4:lo<hi
  ·rw[if_pos Q4];have hm:(lo+hi)/2<xs.size:=by lia
   have e:xs.getD ((lo+hi)/2) j=xs[(lo+hi)/2]:=by simp[JT,hm]
   simp only[e];split
   ·rename_i hl
    refine nR R j Ra _ hi (by lia) h2 (by lia) (λi x Q9 hx=>?_) h5
    rcases F2 (show i<=(lo+hi)/2 by lia) with z |z
    ·exact LP (R i _ x _ z hx (eG hm)) hl
    ·subst z;rw[eG hm]at hx;cases hx;exact hl
   ·rename_i hl
    refine nR R j Ra lo _ (by lia) (by lia) (by lia) h4 (λi x Q9 hx=>?_)
    rcases F2 Q9 with z |z
    ·exact Hh (Ke hl) (GW (R _ i _ x z (eG hm) hx))
    ·subst z;rw[eG hm]at hx;cases hx;exact Ke hl
  ·rw[if_neg Q4];have e:lo=hi:=by lia
   subst e;exact⟨h4,h5,h2⟩
theorem fI{xs:Array Nat}(R:Ris xs)(j:Nat):(∀(i x:Nat),i<below xs j->xs[i]?=some x->x<j)/\(∀(i x:Nat),below xs j<=i->xs[i]?=some x->j<=x)/\below xs j<=xs.size:=
 nR R j xs.size 0 xs.size (GN _) (Fu _) (by lia) (λi x h=>absurd h (O6 _)) (λi x h e=>absurd (tX e) (by lia))
theorem yq{xs:Array Nat}(R:Ris xs){i j:Nat}(h:xs[i]?=some j):below xs j=i:=by
 obtain⟨h1,h2,h3⟩:=fI R j;rcases JS (below xs j) i with z |z |z
 ·have hk:below xs j<xs.size:=LP z (tX h);have:=h2 _ _ (Fu _) (eG hk);have:=R _ _ _ _ z (eG hk) h;lia
 ·exact z
 ·have:=h1 i j z h;lia
theorem mh{t:SetTable}(R:Ris t.place){i j:Nat}(h:t.place[i]?=some j):t.slot j=.live i:=by
 unfold SetTable.slot;simp only[yq R h,h,beq_self_eq_true,if_true]
theorem u9{t:SetTable}(hd:t.dummies=#[]){j:Nat}(h:∀i:Nat,t.place[i]?≠some j):t.slot j=.empty:=by
 unfold SetTable.slot;have e:(t.place[below t.place j]?==some j)=false:=by simpa using h _
 simp only[e,hd];simp[SetTable.has]
theorem qz{t:SetTable}(R:Ris t.place)(hd:t.dummies=#[])(j:Nat):(t.slot j=.empty/\∀i:Nat,t.place[i]?≠some j)\/∃i:Nat,t.slot j=.live i/\t.place[i]?=some j:=by
 by_cases h:∃i:Nat,t.place[i]?=some j
 ·obtain⟨i,hi⟩:=h;exact .inr ⟨i,mh R hi,hi⟩
 ·exact .inl ⟨u9 hd λi e=>h ⟨i,e⟩,λi e=>h ⟨i,e⟩⟩
theorem uP{xs:Array Nat}(R:Ris xs){mask:Nat}(hn:xs.size<=mask):∃s,s<=mask/\∀i:Nat,xs[i]?≠some s:=by
 apply Gn;intro RV
 have all:∀s,s<=mask->∃i:Nat,xs[i]?=some s:=λs hs=>by
  apply Gn;intro h;exact RV ⟨s,hs,λi e=>h ⟨i,e⟩⟩
 have key:∀s,s<=mask->∃i:Nat,xs[i]?=some s/\s<=i:=by
  intro s
  induction s with
  |zero=>intro h;obtain⟨i,hi⟩:=all 0 h;exact⟨i,hi,GN _⟩
  |succ s ih=>
   intro h;obtain⟨i,hi,Tq⟩:=ih (by lia)
   obtain⟨k,hk⟩:=all (s+1) h;refine⟨k,hk,?_⟩;rcases JS i k with z |z |z
   ·lia
   ·subst z;rw[hi]at hk;cases hk
   ·have:=R k i _ _ z hk hi;lia
 obtain⟨i,hi,Tq⟩:=key mask (Fu _);have:=tX hi;lia
noncomputable def adv(mask:Nat)(p:Probe):Probe:=
 if p.more >0 then {p with j:=p.j+1,more:=p.more-1 } else
 {p with j:=(leap mask p.i p.perturb).1,more:=runEnd mask (leap mask p.i p.perturb).1-(leap mask p.i p.perturb).1,i:=(leap mask p.i p.perturb).1,perturb:=(leap mask p.i p.perturb).2 }
theorem kY(t:SetTable)(p:Probe):t.advance p=adv t.mask p:=by
 unfold SetTable.advance adv;split
 ·rfl
 ·rfl
def start(mask:Nat)(h:Int):Probe:={j:=bits h%(mask+1),more:=runEnd mask (bits h%(mask+1))-bits h%(mask+1),i:=bits h%(mask+1),perturb:=bits h,dummy:=none }
noncomputable def pth(mask:Nat)(h:Int):Nat->Probe
 |0=>start mask h
 |n+1=>adv mask (pth mask h n)
noncomputable def aU(mask:Nat)(h:Int):Nat->Nat×Nat
 |0=>(bits h%(mask+1),bits h)
 |r+1=>leap mask (aU mask h r).1 (aU mask h r).2
theorem jV{mask:Nat}:∀(m:Nat) (p:Probe) (f:Nat->Probe),f 0=p->(∀n,f (n+1)=adv mask (f n))->m<=p.more->f m={p with j:=p.j+m,more:=p.more-m }
 |0,p,f,h0,_,_=>by rw[h0];rfl
 |m+1,p,f,h0,hs,hm=>by
  rw[hs m,jV m p f h0 hs (by lia)]
  unfold adv;rw[if_pos (by show p.more-m >0;lia)]
  simp only[Probe.mk.injEq];exact⟨by lia,by lia,trivial,trivial,trivial⟩
theorem jZ(mask:Nat)(h:Int):∀n,(pth mask h n).dummy=none
 |0=>rfl
 |n+1=>by
  rw[pth];unfold adv;split
  ·exact jZ mask h n
  ·exact jZ mask h n
theorem vG(mask i:Nat):runEnd mask i-i<=9:=by unfold runEnd;split <;>lia
theorem tL(mask:Nat)(h:Int):∀r,∃n,n<=10*r/\pth mask h n={j:=(aU mask h r).1,more:=runEnd mask (aU mask h r).1-(aU mask h r).1,i:=(aU mask h r).1,perturb:=(aU mask h r).2,dummy:=none }
 |0=>⟨0,Fu _,rfl⟩
 |r+1=>by
  obtain⟨n,hn,e⟩:=tL mask h r;have hL:=vG mask (aU mask h r).1;have step:=jV (mask:=mask) (runEnd mask (aU mask h r).1-(aU mask h r).1) (pth mask h n) (λm=>pth mask h (n+m)) rfl (λm=>rfl) (by rw[e];exact Fu _)
  refine⟨n+(runEnd mask (aU mask h r).1-(aU mask h r).1)+1,by lia,?_⟩
  rw[pth];have Sx:pth mask h (n+(runEnd mask (aU mask h r).1-(aU mask h r).1))=_:=step;rw[Sx,e];unfold adv;rw[if_neg (by simp)]
  rfl
theorem zP(h:Int):bits h<2 ^ 64:=by
 unfold bits;have h1:=ID h (show (2 ^ 64:Int)≠0 by decide)
 have h2:=Hz h (show (0:Int)<2 ^ 64 by decide)
 lia
theorem mF(mask:Nat)(h:Int):∀r,(aU mask h r).2=bits h/32 ^ r
 |0=>by simp[aU]
 |r+1=>by
  rw[aU];show (aU mask h r).2/32=_;rw[mF mask h r,MP,IT]
theorem vD(mask:Nat)(h:Int)(r:Nat)(hr:12<=r):(aU mask h r).2/32=0:=by
 rw[mF];have h1:=zP h;rw[MP];apply OE;have:32 ^ 12*32<=32 ^ r*32:=Ny _ (J7 (by decide) hr)
 exact F6 (F6 h1 (by decide)) this
def cK:Nat->Nat
 |0=>1
 |k+1=>cK k*(4*cK k+2)
theorem v_:∀k,∃m,cK k=2 ^ k*(2*m+1)
 |0=>⟨0,by simp[cK]⟩
 |k+1=>by
  obtain⟨m,e⟩:=v_ k;refine⟨2*(cK k) *m+m+cK k,?_⟩;rw[cK,IT];have:cK k*(4*cK k+2)=2 ^ k*(2*m+1) *(4*cK k+2):=by rw[<-e]
  rw[this];generalize cK k=c;generalize 2 ^ k=p;grind
def gP:Nat->Nat->Nat
 |0,x=>x
 |n+1,x=>5*gP n x+1
theorem j4(m x:Nat):∀n,gP (m+n) x=gP n (gP m x)
 |0=>rfl
 |n+1=>by rw[<-Qr,gP,j4 m x n,gP]
theorem kC:∀(k x:Nat),gP (2 ^ k) x=(1+4*cK k) *x+cK k
 |0,x=>by simp[gP,cK]
 |k+1,x=>by
  rw[IT,Nat.mul_two,j4,kC k,kC k,cK];generalize cK k=c;grind
theorem qD(k x:Nat):gP (2 ^ k) x%2 ^ (k+1)=(x+2 ^ k)%2 ^ (k+1):=by
 rw[kC];obtain⟨m,e⟩:=v_ k;rw[e]
 have:(1+4*(2 ^ k*(2*m+1))) *x+2 ^ k*(2*m+1)=(x+2 ^ k)+2 ^ (k+1) *(2*(2*m+1) *x+m):=by
  rw[IT];generalize 2 ^ k=p;grind
 rw[this,LW]
theorem hJ(x:Nat):∀(k y:Nat),∃n,n<2 ^ k/\gP n x%2 ^ k=y%2 ^ k
 |0,y=>⟨0,by simp,by simp[Nat.mod_one]⟩
 |k+1,y=>by
  obtain⟨n,hn,e⟩:=hJ x k y;have hp:2 ^ (k+1)=2 ^ k+2 ^ k:=by rw[IT];lia
  have h2:0<2 ^ k:=Nat.pow_pos (by decide)
  by_cases h:gP n x%2 ^ (k+1)=y%2 ^ (k+1)
  ·exact⟨n,by lia,h⟩
  ·refine⟨n+2 ^ k,by lia,?_⟩
   rw[j4,qD];generalize gP n x=z at *;have d1:z%2 ^ (k+1)%2 ^ k=z%2 ^ k:=N1 _ ⟨2,by rw[IT]⟩
   have d2:y%2 ^ (k+1)%2 ^ k=y%2 ^ k:=N1 _ ⟨2,by rw[IT]⟩
   have l1:=Iw z (show 0<2 ^ (k+1) by lia)
   have l2:=Iw y (show 0<2 ^ (k+1) by lia)
   rw[<-M6];rw[<-d1,<-d2]at e;generalize z%2 ^ (k+1)=a at *;generalize y%2 ^ (k+1)=b at *;rw[hp]at *;generalize 2 ^ k=p at *
   have ea:a%p=if a<p then a else a-p:=by
    split
    ·exact F0 (by assumption)
    ·rw[LQ (by lia),F0 (by lia)]
   have eb:b%p=if b<p then b else b-p:=by
    split
    ·exact F0 (by assumption)
    ·rw[LQ (by lia),F0 (by lia)]
   rw[ea,eb]at e;by_cases ha:a<p
   ·rw[if_pos ha]at e;rw[F0 (by lia)]
    split at e <;>lia
   ·rw[if_neg ha]at e;rw[LQ (by lia),F0 (by lia)]
    split at e <;>lia
theorem kD{mask k:Nat}(hk:mask+1=2 ^ k)(h:Int):∀q,(aU mask h (12+q)).1=gP q (aU mask h 12).1%2 ^ k
 |0=>by
  rw[gP]
  have:(aU mask h 12).1<2 ^ k:=by
   rw[<-hk];show (leap mask (aU mask h 11).1 (aU mask h 11).2).1<_;exact Iw _ (by lia)
  exact (F0 this).symm
 |q+1=>by
  show (leap mask (aU mask h (12+q)).1 (aU mask h (12+q)).2).1=_;unfold leap;simp only[vD mask h (12+q) (by lia)]
  rw[kD hk h q,hk,gP,JJ,Nat.mul_comm 5 _];generalize gP q (aU mask h 12).1=z;generalize 2 ^ k=m;rw[QJ,Nat.mod_mul_mod,<-QJ]
theorem cover{mask k:Nat}(hk:mask+1=2 ^ k)(h:Int)(s:Nat)(hs:s<=mask):∃n,n<10*turns mask/\(pth mask h n).j=s:=by
 obtain⟨q,hq,e⟩:=hJ (aU mask h 12).1 k s;obtain⟨n,hn,en⟩:=tL mask h (12+q);refine⟨n,?_,?_⟩
 ·unfold turns;lia
 ·rw[en];show (aU mask h (12+q)).1=s;rw[kD hk h q,e];exact F0 (by lia)
def Liv(t:SetTable)(j:Nat):Prop:=∃i:Nat,t.place[i]?=some j
structure TOk(t:SetTable)(hs:List Int):Prop where
 R:Ris t.place
 d:t.dummies=#[]
 k:∃k,3<=k/\t.mask+1=2 ^ k
 n:t.place.size=hs.length
 f:t.place.size<=t.mask
 le:∀(i x:Nat),t.place[i]?=some x->x<=t.mask
 reach:∀(i j:Nat) (h:Int),t.place[i]?=some j->hs[i]?=some h->∃m,(pth t.mask h m).j=j/\∀m',m'<m->Liv t (pth t.mask h m').j
theorem least{P:Nat->Prop}:∀n,P n->∃m,m<=n/\P m/\∀k,k<m->¬ P k:=by
 intro n
 induction n using Nat.strongRecOn with
 |_ n ih=>
  intro h;by_cases hk:∃k,k<n/\P k
  ·obtain⟨k,hk,hp⟩:=hk;obtain⟨m,h1,h2,h3⟩:=ih k hk hp;exact⟨m,by lia,h2,h3⟩
  ·exact⟨n,Fu _,h,λk SN hp=>hk ⟨k,SN,hp⟩⟩
theorem rh{t:SetTable}{hs:List Int}(T:TOk t hs)(h:Int):∃N,N<10*turns t.mask/\¬ Liv t (pth t.mask h N).j/\∀m,m<N->Liv t (pth t.mask h m).j:=by
 obtain⟨s,hs1,hs2⟩:=uP T.R T.f;obtain⟨k,_,hk⟩:=T.k;obtain⟨n,hn,e⟩:=cover hk h s hs1;obtain⟨m,h1,h2,h3⟩:=least (P:=λn=>¬ Liv t (pth t.mask h n).j) n (by show ¬ Liv t (pth t.mask h n).j;rw[e];rintro ⟨i,hi⟩;exact hs2 i hi)
 exact⟨m,by lia,h2,λk SN=>Gn λz=>h3 k SN z⟩
theorem oV{t:SetTable}{hs:List Int}(T:TOk t hs)(hashAt:Nat->Int)(h:Int){N:Nat}(h0:¬ Liv t (pth t.mask h N).j)(h1:∀m,m<N->Liv t (pth t.mask h m).j):∀(Ra n:Nat),n<=N->N-n<Ra->
  (probe.go t hashAt h Ra (pth t.mask h n)=some (.empty (pth t.mask h N).j none)/\∀(m i:Nat),n<=m->m<N->t.place[i]?=some (pth t.mask h m).j->hashAt i≠h)\/
  ∃m i:Nat,n<=m/\m<N/\t.place[i]?=some (pth t.mask h m).j/\hashAt i=h/\probe.go t hashAt h Ra (pth t.mask h n)=some (.candidate (pth t.mask h m).j i (pth t.mask h (m+1)))/\
   ∀(m' i':Nat),n<=m'->m'<m->t.place[i']?=some (pth t.mask h m').j->hashAt i'≠h
 |0,n,_,hf=>by lia
 |Ra+1,n,hn,hf=>by
  rw[probe.go];rcases qz T.R T.d (pth t.mask h n).j with ⟨e,RV⟩ |⟨i,e,hi⟩
  ·have hN:n=N:=by
    rcases F2 hn with z |z
    ·obtain⟨i,hi⟩:=h1 n z;exact absurd hi (RV i)
    ·exact z
   subst hN;refine .inl ⟨by simp only[e,jZ],λm i z1 z2=>by lia⟩
  ·have hN:n<N:=by
    rcases F2 hn with z |z
    ·exact z
    ·subst z;exact absurd ⟨i,hi⟩ h0
   simp only[e];by_cases hh:hashAt i=h
   ·refine .inr ⟨n,i,Fu _,hN,hi,hh,?_,λm' i' z1 z2=>by lia⟩
    simp only[hh,beq_self_eq_true,if_true,kY];rfl
   ·have hb:(hashAt i==h)=false:=by simpa using hh
    simp only[hb,Fz,if_false,kY];have ih:=oV T hashAt h h0 h1 Ra (n+1) (by lia) (by lia)
    rcases ih with ⟨q1,q2⟩ |⟨m,i2,q1,q2,q3,q4,q5,q6⟩
    ·refine .inl ⟨q1,λm i' z1 z2 z3=>?_⟩
     rcases F2 z1 with z |z
     ·exact q2 m i' z z2 z3
     ·subst z;rw[T.R.inj z3 hi];exact hh
    ·refine .inr ⟨m,i2,by lia,q2,q3,q4,q5,λm' i' z1 z2 z3=>?_⟩
     rcases F2 z1 with z |z
     ·exact q6 m' i' z z2 z3
     ·subst z;rw[T.R.inj z3 hi];exact hh
theorem xw{t:SetTable}{hs:List Int}(T:TOk t hs){h:Int}{N i:Nat}(h0:¬ Liv t (pth t.mask h N).j)(hi:hs[i]?=some h):∃(m j:Nat),m<N/\t.place[i]?=some j/\(pth t.mask h m).j=j:=by
 have Q4:i<t.place.size:=by rw[T.n];exact (FA.mp hi).1
 obtain⟨m,e,hm⟩:=T.reach i _ h (eG Q4) hi;refine⟨m,_,?_,eG Q4,e⟩;rcases JS m N with z |z |z
 ·exact z
 ·subst z;exact absurd ⟨i,by rw[e];exact eG Q4⟩ h0
 ·exact absurd (hm N z) h0
theorem eY{α:Type}(xs:Array α)(p:Nat)(x:α):(insertAt xs p x).toList=xs.toList.take p++x::xs.toList.drop p:=by
 unfold insertAt;simp[Array.toList_extract];exact Iq (by simp)
theorem cx{α:Type}{xs:Array α}{p:Nat}{x:α}(hp:p<=xs.size)(i:Nat):(insertAt xs p x)[i]?=if i<p then xs[i]? else if i=p then some x else xs[i-1]?:=by
 rw[<-GC,eY];have hl:(xs.toList.take p).length=p:=by simp;lia
 by_cases h1:i<p
 ·rw[if_pos h1,FR (by lia),HN h1,GC]
 ·rw[if_neg h1,FS (by lia),hl]
  by_cases h2:i=p
  ·subst h2;simp
  ·rw[if_neg h2];obtain⟨q,hq⟩:∃q,i-p=q+1:=⟨i-p-1,by lia⟩
   rw[hq,Kx,Jh,GC];congr 1;lia
theorem gY{α:Type}(xs:Array α)(p:Nat)(x:α)(hp:p<=xs.size):(insertAt xs p x).size=xs.size+1:=by
 rw[<-Fx,eY];simp;lia
def gT{α:Type}(xs:List α)(p:Nat)(x:α):List α:=xs.take p++x::xs.drop p
theorem wq{α:Type}{xs:List α}{p:Nat}{x:α}(hp:p<=xs.length)(i:Nat):(gT xs p x)[i]?=if i<p then xs[i]? else if i=p then some x else xs[i-1]?:=by
 unfold gT;have hl:(xs.take p).length=p:=by simp;lia
 by_cases h1:i<p
 ·rw[if_pos h1,FR (by lia),HN h1]
 ·rw[if_neg h1,FS (by lia),hl]
  by_cases h2:i=p
  ·subst h2;simp
  ·rw[if_neg h2];obtain⟨q,hq⟩:∃q,i-p=q+1:=⟨i-p-1,by lia⟩
   rw[hq,Kx,Jh];congr 1;lia
theorem Ao{xs:Array Nat}(R:Ris xs){j:Nat}(RV:∀i:Nat,xs[i]?≠some j):Ris (insertAt xs (below xs j) j):=by
 obtain⟨h1,h2,h3⟩:=fI R j
 have gt:∀(i x:Nat),below xs j<=i->xs[i]?=some x->j<x:=λi x hi hx=>by
  rcases F2 (h2 i x hi hx) with z |z
  ·exact z
  ·subst z;exact absurd hx (RV i)
 intro a b x y R7 hx hy;rw[cx h3]at hx hy;by_cases a1:a<below xs j
 ·rw[if_pos a1]at hx;by_cases b1:b<below xs j
  ·rw[if_pos b1]at hy;exact R a b x y R7 hx hy
  ·rw[if_neg b1]at hy;by_cases b2:b=below xs j
   ·rw[if_pos b2]at hy;cases hy;exact h1 a x a1 hx
   ·rw[if_neg b2]at hy;exact R a (b-1) x y (by lia) hx hy
 ·rw[if_neg a1]at hx;have b1:¬ b<below xs j:=by lia
  rw[if_neg b1]at hy;have b2:¬ b=below xs j:=by lia
  rw[if_neg b2]at hy;by_cases a2:a=below xs j
  ·rw[if_pos a2]at hx;cases hx;exact gt (b-1) y (by lia) hy
  ·rw[if_neg a2]at hx;exact R (a-1) (b-1) x y (by lia) hx hy
theorem rW{xs:Array Nat}{p j:Nat}(hp:p<=xs.size)(s:Nat):(∃i:Nat,(insertAt xs p j)[i]?=some s)↔s=j\/∃i:Nat,xs[i]?=some s:=by
 constructor
 ·rintro ⟨i,hi⟩;rw[cx hp]at hi;split at hi
  ·exact .inr ⟨i,hi⟩
  ·split at hi
   ·cases hi;exact .inl rfl
   ·exact .inr ⟨i-1,hi⟩
 ·rintro (rfl |⟨i,hi⟩)
  ·exact⟨p,by rw[cx hp,if_neg (Gh _),if_pos rfl]⟩
  ·by_cases h:i<p
   ·exact⟨i,by rw[cx hp,if_pos h];exact hi⟩
   ·exact⟨i+1,by rw[cx hp,if_neg (by lia),if_neg (by lia)];simpa using hi⟩
theorem TOk.put{t:SetTable}{hs:List Int}(T:TOk t hs){h:Int}{N:Nat}(h0:¬ Liv t (pth t.mask h N).j)(h1:∀m,m<N->Liv t (pth t.mask h m).j)(Tq:(pth t.mask h N).j<=t.mask)(hf:t.place.size+1<=t.mask):
  TOk (t.put (pth t.mask h N).j).1 (gT hs (t.put (pth t.mask h N).j).2 h):=by
 have RV:∀i:Nat,t.place[i]?≠some (pth t.mask h N).j:=λi e=>h0 ⟨i,e⟩
 obtain⟨_,_,hb⟩:=fI T.R (pth t.mask h N).j;have hbl:below t.place (pth t.mask h N).j<=hs.length:=by rw[<-T.n];exact hb
 have ed:(if SetTable.has t.dummies (pth t.mask h N).j then eraseAt t.dummies (below t.dummies (pth t.mask h N).j) else t.dummies)=#[]:=by
  rw[T.d];simp[SetTable.has]
 unfold SetTable.put;simp only[ed];refine⟨Ao T.R RV,rfl,T.k,?_,?_,λi x e=>?_,λi j hh e1 e2=>?_⟩
 ·show (insertAt _ _ _).size=(gT hs _ h).length;rw[gY _ _ _ hb,T.n];unfold gT;simp;lia
 ·show (insertAt _ _ _).size<=t.mask;rw[gY _ _ _ hb];exact hf
 ·rcases (rW hb x).mp ⟨i,e⟩ with z |⟨q,hq⟩
  ·rw[z];exact Tq
  ·exact T.le q x hq
 ·have liv:∀s,Liv t s->Liv {t with place:=insertAt t.place (below t.place (pth t.mask h N).j) (pth t.mask h N).j,dummies:=#[] } s:=λs z=>(rW hb s).mpr (.inr z)
  change (insertAt t.place _ _)[i]?=some j at e1
  rw[cx hb]at e1;rw[wq hbl]at e2;split at e1
  ·rename_i z
   rw[if_pos z]at e2;obtain⟨m,q1,q2⟩:=T.reach i j hh e1 e2;exact⟨m,q1,λm' hm=>liv _ (q2 m' hm)⟩
  ·rename_i z
   rw[if_neg z]at e2;split at e1
   ·rename_i z2
    rw[if_pos z2]at e2;cases e1;cases e2;exact⟨N,rfl,λm' hm=>liv _ (h1 m' hm)⟩
   ·rename_i z2
    rw[if_neg z2]at e2;obtain⟨m,q1,q2⟩:=T.reach (i-1) j hh e1 e2;exact⟨m,q1,λm' hm=>liv _ (q2 m' hm)⟩
theorem yj{mask:Nat}(h:Int):∀n,(pth mask h n).j+(pth mask h n).more<=mask
 |0=>by
  show bits h%(mask+1)+(runEnd mask (bits h%(mask+1))-bits h%(mask+1))<=mask;have:=Iw (bits h) (show 0<mask+1 by lia)
  unfold runEnd;split <;>lia
 |n+1=>by
  have ih:=yj (mask:=mask) h n;rw[pth];unfold adv;split
  ·simp only;lia
  ·show (leap mask _ _).1+(runEnd mask (leap mask _ _).1-(leap mask _ _).1)<=mask;have:(leap mask (pth mask h n).i (pth mask h n).perturb).1<mask+1:=Iw _ (by lia)
   unfold runEnd;split <;>lia
def OL(owner:Array (Option Nat))(j:Nat):Prop:=∃k:Nat,owner[j]?=some (some k)
noncomputable def nr(mask:Nat)(h:Int):Nat->Nat
 |0=>0
 |r+1=>nr mask h r+(runEnd mask (aU mask h r).1-(aU mask h r).1)+1
theorem BN(mask:Nat)(h:Int):∀r,pth mask h (nr mask h r)={j:=(aU mask h r).1,more:=runEnd mask (aU mask h r).1-(aU mask h r).1,i:=(aU mask h r).1,perturb:=(aU mask h r).2,dummy:=none }
 |0=>rfl
 |r+1=>by
  have e:=BN mask h r;have step:=jV (mask:=mask) (runEnd mask (aU mask h r).1-(aU mask h r).1) (pth mask h (nr mask h r)) (λm=>pth mask h (nr mask h r+m)) rfl (λm=>rfl) (by rw[e];exact Fu _)
  have Sx:pth mask h (nr mask h r+(runEnd mask (aU mask h r).1-(aU mask h r).1))=_:=step;rw[nr,pth,Sx,e];unfold adv;rw[if_neg (by simp)]
  rfl
theorem qP(mask:Nat)(h:Int)(r k:Nat)(hk:k<=runEnd mask (aU mask h r).1-(aU mask h r).1):(pth mask h (nr mask h r+k)).j=(aU mask h r).1+k:=by
 have e:=BN mask h r;have step:=jV (mask:=mask) k (pth mask h (nr mask h r)) (λm=>pth mask h (nr mask h r+m)) rfl (λm=>rfl) (by rw[e];exact hk)
 have Sx:pth mask h (nr mask h r+k)=_:=step;rw[Sx,e]
theorem uL(mask i:Nat):i<=runEnd mask i:=by unfold runEnd;split <;>lia
theorem Au(mask:Nat)(h:Int):∀r,(aU mask h r).1<=mask
 |0=>Hx (Iw _ (by lia))
 |r+1=>Hx (Iw _ (by lia))
theorem oE{mask i:Nat}(h:i<=mask):runEnd mask i<=mask:=by unfold runEnd;split <;>lia
theorem tE{mask:Nat}{owner:Array (Option Nat)}(hsz:owner.size=mask+1)(h:Int):∀(Ra r:Nat),(∃r',r<=r'/\r'<r+Ra/\owner[(aU mask h r').1]?=some none)->(∀m,m<nr mask h r->OL owner (pth mask h m).j)->
  ∃N,layClean.free mask owner Ra (aU mask h r).1 (aU mask h r).2=some (pth mask h N).j/\owner[(pth mask h N).j]?=some none/\∀m,m<N->OL owner (pth mask h m).j
 |0,r,⟨r',h1,h2,_⟩,_=>by lia
 |Ra+1,r,hex,hl=>by
  rw[layClean.free];have hge:=uL mask (aU mask h r).1;have hmk:=oE (Au mask h r);have Tc:∀k,k<runEnd mask (aU mask h r).1+1-(aU mask h r).1->(aU mask h r).1+k<owner.size:=λk hk=>by lia
  cases hf:(GG (runEnd mask (aU mask h r).1+1-(aU mask h r).1)).find? λk=>(owner.getD ((aU mask h r).1+k) (some 0)).isNone with
  |some k=>
   obtain⟨p1,p2,p3⟩:=List.find?_range_eq_some.mp hf;have hk:=FV.mp p2;have Q4:=Tc k hk
   have e1:owner[(aU mask h r).1+k]?=some none:=by
    have:owner.getD ((aU mask h r).1+k) (some 0)=owner[(aU mask h r).1+k]:=by simp[JT,Q4]
    rw[this]at p1;have:owner[(aU mask h r).1+k]=none:=by simpa using p1
    simp[Q4,this]
   have ej:=qP mask h r k (by lia)
   refine⟨nr mask h r+k,by simp only[ej],by rw[ej];exact e1,λm hm=>?_⟩
   by_cases hm1:m<nr mask h r
   ·exact hl m hm1
   ·obtain⟨q,rfl⟩:∃q,m=nr mask h r+q:=⟨m-nr mask h r,by lia⟩
    have hq:=p3 q (by lia)
    have Sy:=Tc q (by lia)
    rw[qP mask h r q (by lia)]
    have:owner.getD ((aU mask h r).1+q) (some 0)=owner[(aU mask h r).1+q]:=by simp[JT,Sy]
    rw[this]at hq;cases hv:owner[(aU mask h r).1+q] with
    |none=>rw[hv]at hq;simp at hq
    |some v=>exact⟨v,by simp[Sy,hv]⟩
  |none=>
   have Rr:∀q,q<runEnd mask (aU mask h r).1+1-(aU mask h r).1->OL owner ((aU mask h r).1+q):=λq hq=>by
    have:=List.find?_eq_none.mp hf q (FV.mpr hq);have Sy:=Tc q hq;have e:owner.getD ((aU mask h r).1+q) (some 0)=owner[(aU mask h r).1+q]:=by simp[JT,Sy]
    rw[e]at this;cases hv:owner[(aU mask h r).1+q] with
    |none=>rw[hv]at this;simp at this
    |some v=>exact⟨v,by simp[Sy,hv]⟩
   have next:=tE hsz h Ra (r+1) (by
    obtain⟨r',h1,h2,h3⟩:=hex;refine⟨r',?_,by lia,h3⟩
    rcases F2 h1 with z |z
    ·exact z
    ·subst z;obtain⟨v,hv⟩:=Rr 0 (by lia)
     rw[JJ,h3]at hv;cases hv) (λm hm=>by
    by_cases hm1:m<nr mask h r
    ·exact hl m hm1
    ·obtain⟨q,rfl⟩:∃q,m=nr mask h r+q:=⟨m-nr mask h r,by lia⟩
     have hm2:nr mask h r+q<nr mask h r+(runEnd mask (aU mask h r).1-(aU mask h r).1)+1:=hm;rw[qP mask h r q (by lia)]
     exact Rr q (by lia))
   exact next
structure OI(mask:Nat)(owner:Array (Option Nat))(hs:List Int):Prop where
 sz:owner.size=mask+1
 lt:∀(j k:Nat),owner[j]?=some (some k)->k<hs.length
 inj:∀(i j k:Nat),owner[i]?=some (some k)->owner[j]?=some (some k)->i=j
 all:∀k:Nat,k<hs.length->∃j:Nat,owner[j]?=some (some k)
 reach:∀(j k:Nat) (h:Int),owner[j]?=some (some k)->hs[k]?=some h->∃m,(pth mask h m).j=j/\∀m',m'<m->OL owner (pth mask h m').j
theorem OI.free{mask:Nat}{owner:Array (Option Nat)}{hs:List Int}(O:OI mask owner hs)(hn:hs.length<=mask):∃s,s<=mask/\owner[s]?=some none:=by
 apply Gn;intro RV
 have Ts:∀s,s<=mask->OL owner s:=λs Tf=>by
  have Q4:s<owner.size:=by rw[O.sz];lia
  cases e:owner[s] with
  |none=>exact absurd ⟨s,Tf,by simp[Q4,e]⟩ RV
  |some k=>exact⟨k,by simp[Q4,e]⟩
 have nd:((GG (mask+1)).map λs=>(owner.getD s none).getD 0).Nodup:=by
  rw[LJ,Gb];refine Ko ?_ (KF (n:=mask+1));intro a b ha hb R7 e;obtain⟨k1,h1⟩:=Ts a (by have:=FV.mp ha;lia)
  obtain⟨k2,h2⟩:=Ts b (by have:=FV.mp hb;lia)
  have e1:(owner.getD a none).getD 0=k1:=by simp[Hn,h1]
  have e2:(owner.getD b none).getD 0=k2:=by simp[Hn,h2]
  rw[e1,e2]at e;subst e;have:=O.inj a b k1 h1 h2;lia
 have sub:((GG (mask+1)).map λs=>(owner.getD s none).getD 0) ⊆ GG hs.length:=by
  intro x hx;obtain⟨s,hs1,rfl⟩:=Fs.mp hx;obtain⟨k1,h1⟩:=Ts s (by have:=FV.mp hs1;lia)
  have e1:(owner.getD s none).getD 0=k1:=by simp[Hn,h1]
  rw[e1];exact FV.mpr (O.lt s k1 h1)
 have:=Ox nd sub;simp at this;lia
theorem OI.step{mask k:Nat}(hk:mask+1=2 ^ k){owner:Array (Option Nat)}{hs:List Int}(O:OI mask owner hs)(hn:hs.length<=mask)(h:Int):
  ∃j,layClean.free mask owner (turns mask) (bits h%(mask+1)) (bits h)=some j/\OI mask (owner.setIfInBounds j (some hs.length)) (hs++[h]):=by
 obtain⟨s,hs1,hs2⟩:=O.free hn;obtain⟨q,hq,e⟩:=hJ (aU mask h 12).1 k s;have er:(aU mask h (12+q)).1=s:=by rw[kD hk h q,e];exact F0 (by lia)
 obtain⟨N,f1,f2,f3⟩:=tE O.sz h (turns mask) 0 ⟨12+q,GN _,by unfold turns;lia,by rw[er];exact hs2⟩ (λm hm=>absurd hm (O6 _))
 refine⟨_,f1,?_⟩;generalize hj:(pth mask h N).j=j at *;have hjs:j<owner.size:=(Ja.mp f2).1
 have get:∀i:Nat,(owner.setIfInBounds j (some hs.length))[i]?=if j=i then some (some hs.length) else owner[i]?:=λi=>by
  rw[Array.getElem?_setIfInBounds];split
  ·rename_i z;subst z;simp[hjs]
  ·rfl
 have liv:∀i,OL owner i->OL (owner.setIfInBounds j (some hs.length)) i:=λi ⟨v,hv⟩=>by
  refine⟨v,?_⟩;rw[get,if_neg (λz=>by subst z;rw[f2]at hv;cases hv)]
  exact hv
 refine⟨by simp[O.sz],λi v e=>?_,λa b v e1 e2=>?_,λv hv=>?_,λi v hh e1 e2=>?_⟩
 ·rw[get]at e;split at e
  ·cases e;simp
  ·have:=O.lt i v e;simp;lia
 ·rw[get]at e1 e2;split at e1 <;>split at e2
  ·lia
  ·cases e1;exact absurd (O.lt b _ e2) (Gh _)
  ·cases e2;exact absurd (O.lt a _ e1) (Gh _)
  ·exact O.inj a b v e1 e2
 ·simp at hv;rcases F2 (Hx hv) with z |z
  ·obtain⟨i,hi⟩:=O.all v z;refine⟨i,?_⟩;rw[get,if_neg (λy=>by subst y;rw[f2]at hi;cases hi)]
   exact hi
  ·subst z;exact⟨j,by rw[get,if_pos rfl]⟩
 ·rw[get]at e1;split at e1
  ·rename_i z
   cases e1;rw[FS (Fu _)]at e2;simp at e2;subst e2;exact⟨N,by rw[hj];exact z,λm hm=>liv _ (f3 m hm)⟩
  ·have hv:=O.lt i v e1;rw[FR hv]at e2;obtain⟨m,q1,q2⟩:=O.reach i v hh e1 e2;exact⟨m,q1,λm' hm=>liv _ (q2 m' hm)⟩
theorem ua{mask k:Nat}(hk:mask+1=2 ^ k):∀(more done:List Int) (owner:Array (Option Nat)),OI mask owner done->done.length+more.length<=mask+1->∃Tu,more.foldl (λacc h=>do
  let (owner,k) <-acc
  let j <-layClean.free mask owner (turns mask) (bits h%(mask+1)) (bits h)
  pure (owner.setIfInBounds j (some k),k+1)) (some (owner,done.length))=some (Tu,done.length+more.length)/\OI mask Tu (done++more)
 |[],done,owner,O,_=>⟨owner,by simp,by simpa using O⟩
 |h::more,done,owner,O,hl=>by
  obtain⟨j,e,O2⟩:=O.step hk (by simp at hl;lia) h
  obtain⟨ow,e2,O3⟩:=ua hk more (done++[h]) _ O2 (by simp at hl |-;lia)
  refine⟨ow,?_,by simpa using O3⟩
  rw[Ic]
  have:(do
   let (owner,k) <-some (owner,done.length)
   let j <-layClean.free mask owner (turns mask) (bits h%(mask+1)) (bits h)
   pure (owner.setIfInBounds j (some k),k+1):Option (Array (Option Nat)×Nat))=some (owner.setIfInBounds j (some done.length),done.length+1):=by
   simp[e]
  rw[this];simp only[FT,M3]at e2;rw[e2];simp;lia
theorem oR{mask k:Nat}(hk:mask+1=2 ^ k){hs:Array Int}(hl:hs.size<=mask+1):∃owner,layClean mask hs=some owner/\OI mask owner hs.toList:=by
 have O0:OI mask (Array.replicate (mask+1) none) []:=⟨by simp,λj k e=>by simp[Kp]at e,λi j k e=>by simp[Kp]at e,λk h=>by simp at h,λj k h e=>by simp[Kp]at e⟩
 obtain⟨ow,e,O⟩:=ua hk hs.toList [] _ O0 (by simpa using hl)
 refine⟨ow,?_,by simpa using O⟩
 unfold layClean;rw[<-Array.foldl_toList];simp only[JI]at e;rw[e];rfl
theorem oP(n:Nat):∀(Ra k:Nat),n<2 ^ (k+Ra)->∃k',k<=k'/\sizeAbove.go n Ra (2 ^ k)=2 ^ k'/\n<2 ^ k'/\(2 ^ k'<=2*n\/k'=k)
 |0,k,h=>⟨k,Fu _,rfl,by simpa using h,.inr rfl⟩
 |Ra+1,k,h=>by
  rw[sizeAbove.go];by_cases Tq:2 ^ k<=n
  ·rw[if_pos Tq,<-IT];obtain⟨k',h1,h2,h3,h4⟩:=oP n Ra (k+1) (by rw[show k+1+Ra=k+(Ra+1) by lia];exact h)
   refine⟨k',by lia,h2,h3,.inl ?_⟩
   rcases h4 with z |z
   ·exact z
   ·subst z;rw[IT];lia
  ·rw[if_neg Tq];exact⟨k,Fu _,rfl,by lia,.inr rfl⟩
theorem above(n:Nat)(h:n<2 ^ 60):∃k,3<=k/\sizeAbove n=2 ^ k/\n<2 ^ k/\2 ^ k<=2*n+8:=by
 obtain⟨k,h1,h2,h3,h4⟩:=oP n 64 3 (F6 h (J7 (by decide) (by decide)))
 refine⟨k,h1,h2,h3,?_⟩;rcases h4 with z |z
 ·lia
 ·subst z;lia
noncomputable def dm(mask:Nat)(owner:Array (Option Nat)):List (Nat×Nat):=(GG (mask+1)).filterMap λj=>(owner.getD j none).map (j,·)
theorem pK(owner:Array (Option Nat)):∀l:List Nat,(l.filterMap λj=>(owner.getD j none).map (j,·)).map (·.1)=l.filter λj=>(owner.getD j none).isSome
 |[]=>rfl
 |a::l=>by
  have ih:=pK owner l;rw[IY,List.filter_cons];cases owner.getD a none with
  |none=>simpa using ih
  |some v=>simpa using ih
theorem dX{mask:Nat}{owner:Array (Option Nat)}(hsz:owner.size=mask+1)(j k:Nat):(j,k)∈dm mask owner↔owner[j]?=some (some k):=by
 unfold dm;rw[LN];constructor
 ·rintro ⟨a,ha,e⟩;have Q4:a<owner.size:=by rw[hsz];exact FV.mp ha
  cases hv:owner.getD a none with
  |none=>rw[hv]at e;cases e
  |some v=>
   rw[hv]at e;cases e;have:owner.getD j none=owner[j]:=by simp[JT,Q4]
   rw[this]at hv;simp[Q4,hv]
 ·intro e;have Q4:=(Ja.mp e).1;refine⟨j,FV.mpr (by lia),?_⟩
  rw[Hn,e];rfl
theorem u8(mask:Nat)(owner:Array (Option Nat)):(dm mask owner).Pairwise λa b=>a.1<b.1:=by
 have:=(KF (n:=mask+1)).filter λj=>(owner.getD j none).isSome
 rw[<-pK owner (GG (mask+1)),Gb]at this;exact this
theorem CD{l:List Nat}(h:l.Pairwise (· < ·)):Ris l.toArray:=by
 intro i j x y RW hx hy;rw[JK]at hx hy;obtain⟨h1,e1⟩:=FA.mp hx;obtain⟨h2,e2⟩:=FA.mp hy;have:=FO.mp h i j h1 h2 RW;rw[e1,e2]at this;exact this
theorem AH{mask k:Nat}(h3:3<=k)(hk:mask+1=2 ^ k){hs:Array Int}(hl:hs.size<=mask)(finger moves:Nat)(led plain:Bool):
  ∃t order,laid mask finger moves led plain hs=some (t,order)/\TOk t (order.toList.map λi=>hs.getD i 0)/\order.toList.Perm (GG hs.size)/\t.mask=mask/\t.led=led/\t.plain=plain/\t.moves=moves:=by
 obtain⟨owner,e,O⟩:=oR hk (hs:=hs) (by lia)
 have pr:=u8 mask owner
 have nd:((dm mask owner).map (·.2)).Nodup:=by
  rw[LJ,Gb];refine Ko ?_ pr;intro a b ha hb R7 ee;have h1:=(dX O.sz a.1 a.2).mp ha;have h2:=(dX O.sz b.1 b.2).mp hb;rw[ee]at h1;have:=O.inj a.1 b.1 b.2 h1 h2;lia
 have perm:((dm mask owner).map (·.2)).Perm (GG hs.size):=by
  refine (Hy nd Lp).mpr λx=>?_
  rw[Fs,FV];constructor
  ·rintro ⟨⟨j,v⟩,hm,rfl⟩;have:=O.lt j v ((dX O.sz j v).mp hm);simpa using this
  ·intro hx;obtain⟨j,hj⟩:=O.all x (by simpa using hx)
   exact⟨(j,x),(dX O.sz j x).mpr hj,rfl⟩
 have len:(dm mask owner).length=hs.size:=by have:=perm.length_eq;simpa using this
 refine⟨_,_,by unfold laid;rw[e];rfl,⟨?_,rfl,⟨k,h3,hk⟩,?_,?_,λi x ee=>?_,λi j h e1 e2=>?_⟩,?_,rfl,rfl,rfl,rfl⟩
 ·show Ris ((dm mask owner).map (·.1)).toArray;exact CD (by rw[Gb];exact pr)
 ·show ((dm mask owner).map (·.1)).toArray.size=_;simp[dm]
 ·show ((dm mask owner).map (·.1)).toArray.size<=mask;simp[len,hl]
 ·change ((dm mask owner).map (·.1)).toArray[i]?=some x at ee
  rw[JK,Ft]at ee;cases q:(dm mask owner)[i]? with
  |none=>rw[q]at ee;cases ee
  |some p=>
   rw[q]at ee;cases ee;have:=(dX O.sz p.1 p.2).mp (FD q);have:=(Ja.mp this).1;show p.1<=mask;have hz:=O.sz;lia
 ·change ((dm mask owner).map (·.1)).toArray[i]?=some j at e1
  change (((dm mask owner).map (·.2)).toArray.toList.map λi=>hs.getD i 0)[i]?=some h at e2
  rw[JK,Ft]at e1;rw[Ft,Ft]at e2;cases q:(dm mask owner)[i]? with
  |none=>rw[q]at e1;cases e1
  |some p=>
   rw[q]at e1 e2;cases e1;have hp:=(dX O.sz p.1 p.2).mp (FD q);have Q4:=O.lt _ _ hp
   have e3:hs.toList[p.2]?=some h:=by
    have e4:hs.getD p.2 0=h:=by simpa using e2
    have:p.2<hs.size:=by simpa using Q4
    rw[<-e4];simp[JT,this]
   obtain⟨m,q1,q2⟩:=O.reach _ _ h hp e3;refine⟨m,q1,λm' hm=>?_⟩
   obtain⟨v,hv⟩:=q2 m' hm;obtain⟨n,hn⟩:=GZ.mp ((dX O.sz _ v).mpr hv);refine⟨n,?_⟩;show ((dm mask owner).map (·.1)).toArray[n]?=_;rw[JK,Ft,hn];rfl
 ·show ((dm mask owner).map (·.2)).toArray.toList.Perm _;simpa using perm
variable {prog:FK}{E:Fq→Fp→Prop}
section
variable {w:Gj}{A:Gs}{s:Fp}
abbrev TK(prog:FK)(w:Gj)(h:HF)(k:List Int)(b:FI):Prop:=IsTupleKey (Lm prog w) h k b
abbrev hsh(prog:FK)(w:Gj)(k:List Int):Int:=tupleKeyHash (Lm prog w) k
theorem TK.ints{h:HF}{k:List Int}{vs:List Fq}(x:ItemsAre (Lm prog w) k vs):∀v∈vs,∃n t,v=.int n t:=by
 induction x with
 |nil=>intro v hv;simp at hv
 |cons h1 _ ih=>
  intro v hv;rcases Fw.mp hv with rfl |hv
  ·obtain⟨t,rfl⟩:=KM h1;exact⟨_,t,rfl⟩
  ·exact ih v hv
theorem mN{k:List Int}{a:FI}{Q:Bool->Fp->Prop}(hk:TK prog w s.heap k a)(h:Q false s):FX (F7 prog w) A (KS 8 (.ref a)) Q E s:=by
 have hT:=hk.typeIs;obtain⟨o,items,n,ho,_,hd,hi⟩:=hk;unfold KS;refine Fi (M7 hT ?_);dsimp only;rw[if_pos (by decide)]
 refine Fi (Fl ?_);simp only[Gw,Fz,if_false];refine Fi (G6 ho hd ?_);dsimp only;refine Fi ?_;rw[<-Ie];refine Je _ (λrest r s'=>r.1=none/\s'=s/\∀v∈rest,∃n t,v=GB n t) _ ?_ ?_ _ _ ⟨rfl,rfl,TK.ints (h:=s.heap) hi⟩
 ·rintro v rest r s' ⟨hr,rfl,Rr⟩;obtain⟨n,t,rfl⟩:=Rr v Fv;have e:KS 7 (GB n t)=pure false:=by unfold KS;rfl
  rw[e];refine Fi (Fl ?_);simp only[Fz,if_false];exact Fl ⟨rfl,rfl,λu Tv=>Rr u (Fn _ Tv)⟩
 ·rintro ⟨r1,r2⟩ s' ⟨hr,rfl,_⟩;simp only at hr;subst hr;exact Fl h
theorem DV{k:List Int}{a:FI}{Q:Bool->Fp->Prop}(hk:TK prog w s.heap k a)(h:Q true s):FX (F7 prog w) A (NJ 8 (.ref a)) Q E s:=by
 have hT:=hk.typeIs;obtain⟨o,items,n,ho,_,hd,hi⟩:=hk;unfold NJ;refine Fi (Ig hT F.slot_tuple_hash.lookup ?_);show FX _ _ (Md (.ref a) >>=_) _ _ s;refine Fi (G6 ho hd ?_);refine Fi ?_;show FX _ _ (QI items _ _) _ _ s;rw[<-Ie];refine Je _ (λrest r s'=>r.1=none/\s'=s/\∀v∈rest,∃n t,v=GB n t) _ ?_ ?_ _ _ ⟨rfl,rfl,TK.ints (h:=s.heap) hi⟩
 ·rintro v rest r s' ⟨hr,rfl,Rr⟩;obtain⟨n,t,rfl⟩:=Rr v Fv;have e:NJ 7 (GB n t)=pure true:=by unfold NJ;rfl
  rw[e];refine Fi (Fl ?_);simp only[Gw,Fz,if_false];exact Fl ⟨rfl,rfl,λu Tv=>Rr u (Fn _ Tv)⟩
 ·rintro ⟨r1,r2⟩ s' ⟨hr,rfl,_⟩;simp only at hr;subst hr;exact Fl h
theorem re{k:List Int}{a:FI}{l:List Fq}{Q:Bool->Fp->Prop}(hk:TK prog w s.heap k a)(hl:∀v∈l,∃k' b,v=.ref b/\TK prog w s.heap k' b)(h:Q false s):
  FX (F7 prog w) A (Ol (.ref a) l) Q E s:=by
 unfold Ol;refine Fi ?_;refine Je _ (λrest r s'=>r.1=none/\s'=s/\∀v∈rest,∃k' b,v=.ref b/\TK prog w s.heap k' b) _ ?_ ?_ _ _ ⟨rfl,rfl,hl⟩
 ·rintro v rest r s' ⟨hr,rfl,Rr⟩;obtain⟨k',b,rfl,hb⟩:=Rr v Fv;dsimp only;split
  ·exact Fl ⟨rfl,rfl,λu Tv=>Rr u (Fn _ Tv)⟩
  ·refine Fi (M8 hk ?_);simp only[Gw,Fz,if_false];refine Fi (M8 hb ?_);simp only[Gw,Fz,if_false];refine Fi (mN hk ?_);simp only[Fz,if_false];refine Fi (mN hb ?_);simp only[Fz,if_false];exact Fl ⟨rfl,rfl,λu Tv=>Rr u (Fn _ Tv)⟩
 ·rintro ⟨r1,r2⟩ s' ⟨hr,rfl,_⟩;simp only at hr;subst hr;exact Fl h
def ents(prog:FK)(w:Gj)(kb:List (List Int×FI)):List (Int×Fq):=kb.map λp=>(hsh prog w p.1,.ref p.2)
theorem uy{kb:List (List Int×FI)}{i:Nat}:(ents prog w kb)[i]?=(kb[i]?).map λp=>(hsh prog w p.1,.ref p.2):=by unfold ents;rw[Ft]
theorem zZ(kb:List (List Int×FI)):(ents prog w kb).map (·.1)=kb.map λp=>hsh prog w p.1:=by unfold ents;rw[F5];rfl
theorem TOk.fits{t:SetTable}{hs:List Int}(T:TOk t hs){n:Nat}(hn:hs.length=n):t.fits n=true:=by
 have h1:=T.n;have h2:=T.f;have h3:t.fill=t.place.size:=by unfold fill;rw[T.d];rfl
 unfold SetTable.fits;rw[h3];simp[h1,hn];lia
theorem TOk.gave{t:SetTable}{hs:List Int}(T:TOk t hs):t.gaveWay=false:=by
 obtain⟨k,h3,hk⟩:=T.k;unfold SetTable.gaveWay;obtain⟨j,rfl⟩:∃j,k=j+1:=⟨k-1,by lia⟩
 rw[IT]at hk;have:t.mask%2=1:=by lia
 simp[this]
theorem qu{S:FI}{o:Obj}{es:Array (Int×Fq)}{ep:Nat}{t:SetTable}{kb:List (List Int×FI)}{k:List Int}{x:FI}(hu:A.units<Ip)
  (ho:s.heap.get? S=some o) (hd:o.data=.set es ep t) (he:es.toList=ents prog w kb) (T:TOk t (kb.map λp=>hsh prog w p.1)) (T5:∀p∈kb,TK prog w s.heap p.1 p.2) (hx:TK prog w s.heap k x)
  {N:Nat} (hN:N<10*turns t.mask) (h0:¬ Liv t (pth t.mask (hsh prog w k) N).j) (h1:∀m,m<N->Liv t (pth t.mask (hsh prog w k) m).j) {Q:SetFound->Fp->Prop}
  (qf:(∀p∈kb,p.1≠k)->Q (.free (pth t.mask (hsh prog w k) N).j false) s) (qt:(∃p∈kb,p.1=k)->Q (.there none) s):
  ∀(Ra n:Nat) (Sv:Option Probe),n<=N->N-n<Ra->Sv.getD (t.probeStart (hsh prog w k))=pth t.mask (hsh prog w k) n->
   (∀(m i:Nat) (p:List Int×FI),m<n->t.place[i]?=some (pth t.mask (hsh prog w k) m).j->kb[i]?=some p->p.1≠k)->
   FX (F7 prog w) A (Mq S (.ref x) (hsh prog w k) true Ra Sv) Q E s:=by
 have hsz:es.size=kb.length:=by rw[<-Fx,he];simp[ents]
 have RM:t.fits es.size=true:=T.fits (by rw[Fk,hsz])
 have eat:∀i:Nat,es[i]?=(kb[i]?).map λ(p:List Int×FI)=>(hsh prog w p.1,FW p.2):=λi=>by rw[<-GC,he,uy]
 intro Ra
 induction Ra with
 |zero=>intro n Sv _ h;lia
 |succ Ra ih=>
  intro n Sv hn hf RB SJ;unfold Mq;refine Fi (Iy ho hd RM ?_);dsimp only;rw[T.gave];simp only[Fz,if_false];rw[RB];have hash:∀(i:Nat) (p:List Int×FI),kb[i]?=some p->((es[i]?.map (λ(e:Int×Fq)=>e.1)).getD 0:Int)=hsh prog w p.1:=λi p hp=>by rw[eat,hp];rfl
  have pg:=oV T (λ(i:Nat)=>(es[i]?.map (λ(e:Int×Fq)=>e.1)).getD 0) (hsh prog w k) h0 h1 (10*turns t.mask) n hn (by lia)
  split
  ·rename_i met hmet
   rcases pg with ⟨e,Q1⟩ |⟨m,i,hnm,hmN,RH,Tx,e,hbef⟩
   ·have q:some met=some (.empty (pth t.mask (hsh prog w k) N).j none):=hmet.symm.trans e;cases q;dsimp only;refine Fl (qf λp hp SY=>?_)
    obtain⟨i,hi⟩:=GZ.mp hp;obtain⟨m,j,hm,RH,hj⟩:=xw T (h:=hsh prog w k) h0 (i:=i) (by rw[Ft,hi,<-SY];rfl)
    rcases G7 m n with T4 |T4
    ·exact SJ m i p T4 (by rw[hj];exact RH) hi SY
    ·exact Q1 m i T4 hm (by rw[hj];exact RH) (by rw[hash i p hi,SY])
   ·have q:some met=some (.candidate (pth t.mask (hsh prog w k) m).j i (pth t.mask (hsh prog w k) (m+1))):=hmet.symm.trans e;cases q;dsimp only;have hik:i<kb.length:=by rw[<-hsz,<-show t.place.size=es.size by rw[T.n,Fk,hsz]];exact tX RH
    obtain⟨p,hp⟩:∃p,kb[i]?=some p:=⟨_,Fj hik⟩;have hpm:p∈kb:=FD hp;have hei:es[i]?=some (hsh prog w p.1,FW p.2):=by rw[eat,hp];rfl
    have rest:FX (F7 prog w) A (do
      let Ur <-OU [FW p.2] (eqBool (FW p.2) (.ref x))
      let (es',_,t') <-setState S
      if true && Ur then return .there none
      let some same:=t'.sameMemory t.moves t.mask |unsupported "set.changed-during-lookup:is-the-new-block-at-the-old-address"
      let still <-match (if same then t'.slot (pth t.mask (hsh prog w k) m).j else .empty) with
       | .live i'=>match es'[i']? with
        |some (_,y')=>do pure (if <-isSame y' (FW p.2) then some i' else none)
        |none=>pure none
       |_=>pure none
      match still with
      |none=>rule "set.search.anew";Mq S (.ref x) (hsh prog w k) true Ra none
      |some i'=>if Ur then return .there (some i') else Mq S (.ref x) (hsh prog w k) true Ra (some (pth t.mask (hsh prog w k) (m+1)))) Q E s:=by
     refine Fi (GS (HA hu (T5 p hpm) hx ?_));refine Fi (Iy ho hd RM ?_);dsimp only;by_cases SY:p.1=k
     ·rw[decide_eq_true SY];simp only[Bool.and_self,if_true];exact Fl (qt ⟨p,hpm,SY⟩)
     ·rw[decide_eq_false SY];simp only[K8,Fz,if_false];have hsm:t.sameMemory t.moves t.mask=some true:=by unfold SetTable.sameMemory;simp
      rw[hsm];dsimp only;rw[if_pos rfl,mh T.R RH];dsimp only;rw[hei];dsimp only;refine Fi (wpAny_isSame_ref_self ?_);refine Fi (Fl ?_);simp only[if_true];refine ih (m+1) (some (pth t.mask (hsh prog w k) (m+1))) (by lia) (by lia) rfl λm' i' p' hm' hpl' RO=>?_
      rcases G7 m' n with z |z
      ·exact SJ m' i' p' z hpl' RO
      ·rcases F2 (Hx hm') with y |y
       ·have:=hbef m' i' z y hpl';intro e';exact this (by rw[hash i' p' RO,e'])
       ·subst y;have ei:=T.R.inj RH hpl';subst ei;rw[hp]at RO;cases RO;exact SY
    by_cases hled:t.led=true
    ·rw[hled];simp only[Gw,Fz,if_false];rw[hei];exact rest
    ·rw[show t.led=false by simpa using hled]
     simp only[HY,if_true];refine Fi (re hx (λv hv=>?_) ?_)
     ·obtain⟨e',he',rfl⟩:=Fs.mp hv
      have hm':e'∈es.toList:=by
       have:=Lu.mp he';exact Lu.mpr (Array.mem_filter.mp this).1
      rw[he]at hm';obtain⟨p',RO,rfl⟩:=Fs.mp hm';exact⟨p'.1,p'.2,rfl,T5 p' RO⟩
     ·simp only[Fz,if_false];rw[hei];exact rest
  ·rename_i RV
   rcases pg with ⟨e,Q1⟩ |⟨m,i,hnm,hmN,RH,Tx,e,hbef⟩
   ·exact absurd e (RV _)
   ·exact absurd e (RV _)
structure SP(prog:FK)(w:Gj)(h:HF)(S:FI)(kb:List (List Int×FI)):Prop where
 ex:∃o es ep t,h.get? S=some o∧o.ExactSet∧o.data=.set es ep t∧es.toList=ents prog w kb∧TOk t (kb.map λp=>hsh prog w p.1)∧t.led=(!w.params.followText "set-order")∧t.plain=true∧t.tooFull=false∧t.mask<8*kb.length+8
 keys:∀p∈kb,TK prog w h p.1 p.2
 nd:(kb.map (·.1)).Nodup
theorem TK.keep{h h':HF}{k:List Int}{b S:FI}{o:Obj}{es ep t}(x:TK prog w h k b)(ho:h.get? S=some o)(hd:o.data=.set es ep t)(hs:JE S h h'):TK prog w h' k b:=by
 obtain⟨o',items,n,RY,hc,R9,hi⟩:=x
 have Q1:b≠S:=by
  rintro rfl;obtain rfl:o'=o:=Gv (RY.symm.trans ho);rw[hd]at R9;exact nomatch R9
 exact⟨o',items,n,(hs.2 b Q1).trans RY,hc,R9,hi⟩
theorem rN(x:FI)(es:Array (Int×Fq)):byScan (.ref x) es=false:=by simp[byScan,Value.scannable]
theorem qq{α β:Type}(f:α->β)(xs:List α)(p:Nat)(x:α):(gT xs p x).map f=gT (xs.map f) p (f x):=by
 unfold gT;rw[Gr,FU,N2,N3]
theorem fc{α:Type}(xs:List α)(p:Nat)(x:α):(gT xs p x).Perm (xs++[x]):=by
 unfold gT;refine Jy.trans ?_;rw[Gc];exact (LK x xs).symm
theorem oI{α β:Type}{kb:List α}(f:α->β)(d:β):∀(o:List Nat),(∀i∈o,i<kb.length)->o.map (λi=>((kb.map f).toArray).getD i d)=(o.filterMap λi=>kb[i]?).map f
 |[],_=>rfl
 |i::o,h=>by
  have hi:=h i Fv;rw[FU,IY,Fj hi,oI f d o λj hj=>h j (Fn _ hj)]
  simp[JT,hi]
theorem vQ{α:Type}{kb:List α}{o:List Nat}(h:o.Perm (GG kb.length)):(o.filterMap λi=>kb[i]?).Perm kb:=by
 refine (h.filterMap _).trans ?_
 suffices (GG kb.length).filterMap (λi=>kb[i]?)=kb by rw[this]
 have:∀(l pre:List α),(List.range' pre.length l.length).filterMap (λi=>(pre++l)[i]?)=l:=by
  intro l
  induction l with
  |nil=>intro pre;rfl
  |cons x l ih=>
   intro pre;rw[F8,List.range'_succ,IY];have e:(pre++x::l)[pre.length]?=some x:=by rw[FS (Fu _)];simp
   rw[e];have:=ih (pre++[x]);rw[FF,FT]at this;simpa using this
 have q:=this kb [];simpa [List.range_eq_range'] using q
theorem AL{t:SetTable}{hs:List Int}(T:TOk t hs)(h:t.tooFull=false):t.place.size+1<=t.mask:=by
 obtain⟨k,h3,hk⟩:=T.k;have hf:t.fill=t.place.size:=by unfold fill;rw[T.d];rfl
 have h8:2 ^ 3<=2 ^ k:=J7 (by decide) h3
 unfold tooFull at h;rw[hf]at h;simp at h;lia
theorem Ef{S:FI}{o:Obj}{es:Array (Int×Fq)}{ep:Nat}{t:SetTable}{kb:List (List Int×FI)}{Q:Unit->Fp->Prop}(ho:s.heap.get? S=some o)(hex:o.ExactSet)(hd:o.data=.set es ep t)(he:es.toList=ents prog w kb)
  (T:TOk t (kb.map λp=>hsh prog w p.1)) (hl:t.led=(!w.params.followText "set-order")) (hp:t.plain=true) (T5:∀p∈kb,TK prog w s.heap p.1 p.2) (SQ:(kb.map (·.1)).Nodup) (h1:0<kb.length) (hn:kb.length≤1000)
  (h:∀h' Sr,JE S s.heap h'->SP prog w h' S Sr->Sr.Perm kb->Q () {s with heap:=h' }):FX (F7 prog w) A (setRelay S (grown kb.length)) Q E s:=by
 have hsz:es.size=kb.length:=by rw[<-Fx,he];simp[ents]
 have RM:t.fits es.size=true:=T.fits (by rw[Fk,hsz])
 have eat:∀i:Nat,es[i]?=(kb[i]?).map λ(p:List Int×FI)=>(hsh prog w p.1,FW p.2):=λi=>by rw[<-GC,he,uy]
 have hg:grown kb.length=kb.length*4:=by unfold grown;rw[if_neg (by lia)]
 rw[hg];obtain⟨k,k3,ek,lk,uk⟩:=above (kb.length*4) (by lia)
 have Tz:(sizeAbove (kb.length*4)-1)+1=2 ^ k:=by lia
 obtain⟨t',order,e,T',hord,em,el,TY,_⟩:=AH k3 Tz (hs:=es.map (·.1)) (by rw[PH,hsz];lia) t.finger (t.movedTo (sizeAbove (kb.length*4)-1)) t.led t.plain
 have hrel:t.relaid (es.map (·.1)) (kb.length*4)=some (t',order):=e;have TC:order.toList.Perm (GG kb.length):=by rw[PH,hsz]at hord;exact hord
 have Q4:∀i∈order.toList,i<kb.length:=λi hi=>FV.mp (TC.mem_iff.mp hi)
 have SY:=vQ TC
 have hes:(order.filterMap (λi=>es[i]?)).toList=ents prog w (order.toList.filterMap λi=>kb[i]?):=by
  rw[Array.toList_filterMap];unfold ents;rw[List.map_filterMap];congr 1
  funext i
  rw[eat]
 have hes2:(order.filterMap (λi=>es[i]?)).size=es.size:=by
  rw[<-Fx,hes,hsz];unfold ents;rw[Fk,SY.length_eq]
 unfold setRelay;refine Fi (Iy ho hd RM ?_);dsimp only;rw[if_neg (by rw[ek,H_];lia),hrel]
 have goal:FX (F7 prog w) A (do
   if (order.filterMap (λi=>es[i]?)).size !=es.size then unsupported "internal:set-table-lost-an-element"
   pure (order.filterMap (λi=>es[i]?),t'):Sem (Array (Int×Fq)×SetTable)) (λr s'=>FX (F7 prog w) A (storeSet S r.1 r.2) Q E s') E s:=by
  rw[hes2];simp only[bne_self_eq_false,Fz,if_false];refine Fl ?_;refine Om ho hd ?_ (by rw[hes2,hsz,H_];lia)
  have hg':(s.heap.update S (KU (order.filterMap (λi=>es[i]?)) t')).get? S=some {o with data:=.set (order.filterMap (λi=>es[i]?)) (ep+1) t' }:=by
   have:=Gk (KU (order.filterMap (λi=>es[i]?)) t') ho (by rw[O7 _ t' hd];rfl)
   rw[O7 _ t' hd]at this;exact this
  have SH:=Iz s.heap S (KU (order.filterMap (λi=>es[i]?)) t')
  refine h _ (order.toList.filterMap λi=>kb[i]?) SH ⟨⟨_,_,_,t',hg',hex,rfl,hes,?_,by rw[el];exact hl,by rw[TY];exact hp,?_,?_⟩,λp RO=>?_,?_⟩ SY
  ·have:=oI (kb:=kb) (λp=>hsh prog w p.1) 0 order.toList Q4
   rw[<-this]
   have e2:(es.map (·.1))=((kb.map λp=>hsh prog w p.1)).toArray:=by
    apply Kf.mp;rw[MH,he,zZ]
   rw[e2]at T';exact T'
  ·have hf:t'.fill=t'.place.size:=by unfold fill;rw[T'.d];rfl
   have hn':=T'.n;rw[Fk,TC.length_eq,KY]at hn';unfold tooFull;rw[hf,hn',em];simp;lia
  ·rw[em,SY.length_eq];lia
  ·exact (T5 p (SY.mem_iff.mp RO)).keep ho hd SH
  ·exact ((SY.map (·.1)).nodup_iff).mpr SQ
 exact Fi goal
theorem rV{S x:FI}{kb:List (List Int×FI)}{k:List Int}{Q:Bool->Fp->Prop}(hu:A.units<Ip)(P:SP prog w s.heap S kb)(hx:TK prog w s.heap k x)(hn:kb.length<1000)
  (h:∀b h' Sr,JE S s.heap h'->SP prog w h' S Sr->(if k∈kb.map (·.1) then Sr=kb else Sr.Perm (kb++[(k,x)]))->Q b {s with heap:=h' }):
  FX (F7 prog w) A (setAddHashed S (.ref x) (hsh prog w k)) Q E s:=by
 obtain⟨⟨o,es,ep,t,ho,hex,hd,he,T,hl,hp,Us,Tz⟩,T5,SQ⟩:=P;have P0:SP prog w s.heap S kb:=⟨⟨o,es,ep,t,ho,hex,hd,he,T,hl,hp,Us,Tz⟩,T5,SQ⟩;have hsz:es.size=kb.length:=by rw[<-Fx,he];simp[ents]
 have RM:t.fits es.size=true:=T.fits (by rw[Fk,hsz])
 obtain⟨N,hN,h0,h1⟩:=rh T (hsh prog w k);have hN':N<100000:=by unfold turns at hN;lia
 unfold setAddHashed setAddHashedIn;refine GS (Fi (Iy ho hd RM ?_));dsimp only;rw[rN];simp only[Fz,if_false];unfold setSearch;refine Fi (qu hu ho hd he T T5 hx hN h0 h1 (λRV=>?_) (λhyes=>?_) 100000 0 none (GN _) (by lia) rfl λm i p hm=>by lia)
 ·dsimp only;have hk:k ∉ kb.map (·.1):=λz=>by obtain⟨p,RO,e⟩:=Fs.mp z;exact RV p RO e
  refine Fi (Iy ho hd RM ?_);dsimp only;generalize hj:(pth t.mask (hsh prog w k) N).j=j at *;have T1:=T.put (h:=hsh prog w k) (N:=N) (by rw[hj];exact h0) h1 (by have:=yj (mask:=t.mask) (hsh prog w k) N;lia) (AL T Us)
  rw[hj]at T1;have epl:(t.put j).1.plain=true:=hp;have eled:(t.put j).1.led=(!w.params.followText "set-order"):=hl;have emask:(t.put j).1.mask=t.mask:=rfl;generalize (t.put j).1=t1 at *;generalize (t.put j).2=q at *;have SA:(gT kb q (k,x)).length=kb.length+1:=by rw[(fc kb q (k,x)).length_eq];simp
  have he1:(insertAt es q (hsh prog w k,FW x)).toList=ents prog w (gT kb q (k,x)):=by
   rw[eY,he];unfold ents;rw[qq];rfl
  have hsz1:(insertAt es q (hsh prog w k,FW x)).size=kb.length+1:=by
   rw[<-Fx,he1];unfold ents;rw[Fk,SA]
  have T2:TOk t1 ((gT kb q (k,x)).map λp=>hsh prog w p.1):=by rw[qq];exact T1
  rw[if_pos epl];refine Fi (DV hx ?_);rw[if_pos rfl]
  have hg1:(s.heap.update S (KU (insertAt es q (hsh prog w k,FW x)) t1)).get? S=some {o with data:=.set (insertAt es q (hsh prog w k,FW x)) (ep+1) t1 }:=by
   have:=Gk (KU (insertAt es q (hsh prog w k,FW x)) t1) ho (by rw[O7 _ t1 hd];rfl)
   rw[O7 _ t1 hd]at this;exact this
  have SH:=Iz s.heap S (KU (insertAt es q (hsh prog w k,FW x)) t1)
  have hkb1:∀p∈gT kb q (k,x),TK prog w (s.heap.update S (KU (insertAt es q (hsh prog w k,FW x)) t1)) p.1 p.2:=λp RO=>by
   have:=(fc kb q (k,x)).mem_iff.mp RO;rcases FB.mp this with z |z
   ·exact (T5 p z).keep ho hd SH
   ·rw[Fy.mp z];exact hx.keep ho hd SH
  have hnd1:((gT kb q (k,x)).map (·.1)).Nodup:=by
   rw[((fc kb q (k,x)).map (·.1)).nodup_iff,Gr,Gm];refine⟨SQ,by simp,λa ha b hb=>?_⟩
   simp at hb;subst hb;rintro rfl;exact hk ha
  refine Fi (Om ho hd ?_ (by rw[hsz1,H_];lia))
  rw[HY,JU];by_cases hft:t1.tooFull=true
  ·rw[if_pos hft,hsz,<-SA];refine Fi (Ef (s:={s with heap:=s.heap.update S (KU (insertAt es q (hsh prog w k,FW x)) t1) }) hg1 hex rfl he1 T2 eled epl hkb1 hnd1 (by lia) (by lia) λh' Sr hsb' P' pm=>Fl ?_)
   exact h true h' Sr (SH.trans hsb') P' (by rw[if_neg hk];exact pm.trans (fc kb q (k,x)))
  ·rw[if_neg hft];refine Fl (h true _ (gT kb q (k,x)) SH ⟨⟨_,_,_,t1,hg1,hex,rfl,he1,T2,eled,epl,by simpa using hft,by rw[emask,SA];lia⟩,hkb1,hnd1⟩ (by rw[if_neg hk];exact fc kb q (k,x)))
 ·dsimp only;refine Fl ?_;have hk:k∈kb.map (·.1):=by obtain⟨p,RO,e⟩:=hyes;exact Fs.mpr ⟨p,RO,e⟩
  exact h false s.heap kb (On S s.heap) P0 (by rw[if_pos hk])
theorem TK.moved{s s':Fp}{wr:List FI}{G:Array JP->Array JP->Prop}{k:List Int}{b:FI}(x:TK prog w s.heap k b)(hb:b ∉ wr)(m:Moved wr G s s'):TK prog w s'.heap k b:=by
 obtain⟨o,QW,n,ho,hc,hd,hi⟩:=x;exact⟨o,QW,n,m.heap b o hb ho,hc,hd,hi⟩
theorem SP.moved{s s':Fp}{wr:List FI}{G:Array JP->Array JP->Prop}{S:FI}{kb:List (List Int×FI)}(x:SP prog w s.heap S kb)(hS:S ∉ wr)(hb:∀p∈kb,p.2 ∉ wr)(m:Moved wr G s s'):SP prog w s'.heap S kb:=by
 obtain⟨⟨o,es,ep,t,ho,r⟩,hk,hn⟩:=x;exact⟨⟨o,es,ep,t,m.heap S o hS ho,r⟩,λp hp=>(hk p hp).moved (hb p hp) m,hn⟩
structure Got(kx:Nat->List Int×FI)(i:Nat)(kb:List (List Int×FI)):Prop where
 src:∀p∈kb,∃j,j<i/\p=kx j
 all:∀j,j<i->(kx j).1∈kb.map (·.1)
 len:kb.length<=i
variable {R:Ow→Fp→Prop}{I:FI}{fp wr:List FI}{G:Array JP→Array JP→Prop}{n:Nat}{P:Nat→Fq→Prop}{St:Nat→Fp→Prop}
theorem wj(W:WalksS prog w A.in1 I fp wr G n P St)(hu:A.in1.units<Ip){S:FI}(RQ:S ∉ fp)(kx:Nat->List Int×FI)(hP:∀i v,P i v->v=.ref (kx i).2)(hwr:∀i,i<n->(kx i).2 ∉ wr)(hn:n<=1000):
  ∀(k i:Nat) (s:Fp) (kb:List (List Int×FI)),n-i=k->i<=n->St i s->SP prog w s.heap S kb->Got kx i kb->(∀j,j<n->TK prog w s.heap (kx j).1 (kx j).2)->
   (∀s' Sr,Moved (S::wr) G s s'->SP prog w s'.heap S Sr->Got kx n Sr->R (.ok (.ret .none)) s')->
   J6 (F7 prog w) A (.builtin "set.update.loop" ⟨[.ref S,.ref I],[]⟩) R s:=by
 have hSw:S ∉ wr:=λh=>RQ (W.sub _ h)
 have more:∀b∈wr,b∈S::wr:=λb hb=>Fn _ hb
 intro k
 induction k with
 |zero=>
  intro i s kb hk hi st hS g tk hR;obtain rfl:i=n:=by lia
  refine Ho PyProof.Rows.F.entry_set_update_loop ?_;rw[GX PyProof.Rows.F.plain_set_update_loop _];show FX _ A.in1 (JG (.ref I) >>=_) _ _ s;refine Fi (W.done s _ _ st λs' m=>?_)
  exact Fl (hR s' kb (m.mono more) (hS.moved hSw (λp hp=>by obtain⟨j,hj,rfl⟩:=g.src p hp;exact hwr j hj) m) g)
 |succ k ih=>
  intro i s kb hk hi st hS g tk hR;have Q4:i<n:=by lia
  have T5:∀p∈kb,p.2 ∉ wr:=λp hp=>by obtain⟨j,hj,rfl⟩:=g.src p hp;exact hwr j (by lia)
  refine Ho PyProof.Rows.F.entry_set_update_loop ?_;rw[GX PyProof.Rows.F.plain_set_update_loop _];show FX _ A.in1 (JG (.ref I) >>=_) _ _ s;refine Fi (W.item i s _ _ Q4 st λv s1 pv st1 m=>?_)
  obtain rfl:=hP i v pv;have hS1:=hS.moved hSw T5 m;have tk1:∀j,j<n->TK prog w s1.heap (kx j).1 (kx j).2:=λj hj=>(tk j hj).moved (hwr j hj) m
  show FX _ A.in1 (OU [FW (kx i).2] (setAdd S (.ref (kx i).2)) >>=_) _ _ s1;refine Fi (GS ?_);unfold setAdd;refine GS (Fi (LR hu (tk1 i Q4) ?_));refine rV (s:={s1 with toks:=s1.toks+((kx i).1.length+1) }) hu hS1 (tk1 i Q4) (by have:=g.len;lia) λb h' Sr sb hS2 hkk=>?_
  obtain⟨⟨o,es,ep,t,ho,hex,hd,hrest⟩,hks,SQ⟩:=hS1;have same:∀b o,b ∉ S::wr->s1.heap.get? b=some o->h'.get? b=some o:=λb o hb e=>by rw[sb.2 b (λz=>hb (by rw[z];exact Fv))];exact e
  refine Fl ⟨Hl PyProof.Rows.F.plain_set_update_loop _,ih (i+1) _ Sr (by lia) Q4 (W.frame _ s1 _ _ st1 (by show s1.toks<=s1.toks+_;lia) λb hb o e=>?_) hS2 ?_ (λj hj=>(tk1 j hj).keep ho hd sb) λs2 kb2 m2 hS3 g2=>?_⟩
  ·rw[sb.2 b (λz=>RQ (by rw[<-z];exact hb))];exact e
  ·by_cases Tc:(kx i).1∈kb.map (·.1)
   ·rw[if_pos Tc]at hkk;subst hkk;refine⟨λp hp=>?_,λj hj=>?_,by have:=g.len;lia⟩
    ·obtain⟨j,hj,e⟩:=g.src p hp;exact⟨j,by lia,e⟩
    ·rcases F2 (Hx hj) with z |z
     ·exact g.all j z
     ·rw[z];exact Tc
   ·rw[if_neg Tc]at hkk;refine⟨λp hp=>?_,λj hj=>?_,by rw[hkk.length_eq];have:=g.len;simp;lia⟩
    ·rcases FB.mp (hkk.mem_iff.mp hp) with z |z
     ·obtain⟨j,hj,e⟩:=g.src p z;exact⟨j,by lia,e⟩
     ·exact⟨i,HI i,by rw[Fy.mp z]⟩
    ·rw[(hkk.map (·.1)).mem_iff,Gr];rcases F2 (Hx hj) with z |z
     ·exact FJ _ (g.all j z)
     ·rw[z];exact FG _ (by simp)
  ·exact hR s2 kb2 (Moved.trans W.gtrans ((m.mono more).then_heap (by show s1.toks<=s1.toks+_;lia) same) m2) hS3 g2
end
section
variable {w:Gj}{A:Gs}{s:Fp}
noncomputable abbrev cj(w:Gj):Obj:={cls:=.type "set",dict:=none,data:=.set #[] 0 (.fresh 0 0 (!w.params.followText "set-order")) }
theorem w6:TOk (.fresh 0 0 (!w.params.followText "set-order")) [] where
 R:=by intro i j x y _ h;simp[SetTable.fresh]at h
 d:=rfl
 k:=⟨3,by decide,rfl⟩
 n:=rfl
 f:=by show 0<=7;decide
 le:=by intro i x h;simp[SetTable.fresh]at h
 reach:=by intro i x h hi;simp[SetTable.fresh]at hi
theorem xk{h:HF}{S:FI}(e:h.get? S=some (cj w)):SP prog w h S []:=by
 refine⟨⟨_,_,_,_,e,⟨rfl,rfl,rfl⟩,rfl,rfl,w6,rfl,rfl,by simp[SetTable.tooFull,SetTable.fresh,SetTable.fill],by show 7<8;decide⟩,λp hp=>by simp at hp,by simp⟩
theorem A_(a:Fq){Q:Fq->Fp->Prop}(h:Q (.ref s.heap.objs.size) {s with heap:=s.heap.push (cj w) }):
  J6 (F7 prog w) A (.call (.builtin "set.__new__") ⟨[.type "set",a],[]⟩) (wants Q E) s:=by
 refine O8 ?_;show FX _ A.in1 (do checkBuiltinCall "set.__new__" ⟨[.type "set",a],[]⟩;again (.builtin "set.__new__" ⟨[.type "set",a],[]⟩)) _ _ s
 refine Fi (Mr (PySem.F.newCall_set_1 a) (Fl ⟨Hl M9 _,Ho PySem.F.entry_set_new ?_⟩));rw[GX M9 _];unfold Builtin.«set.__new__» Builtin.Frozenset.newClass;have hsub:=sub_set_self;obtain⟨hp,g,d,tk,os⟩:=s;dsimp only
 wp_walk
 refine Kg (Fl ?_);dsimp only;simp only[newObj];exact Fi (wpAny_alloc (Fl (Fl h)))
set_option maxRecDepth 100000 in
theorem call_set_pts{l:FI}{items:Array Fq}{Q:Fq->Fp->Prop}(kx:Nat->List Int×FI)(hh:A.handled=none)(hu:A.in1.in1.in1.units<Ip)(hl:s.heap.IsList l items)
  (R8:∀(i:Nat) (v:Fq),items[i]?=some v->v=.ref (kx i).2) (Su:∀i,i<items.size->TK prog w s.heap (kx i).1 (kx i).2) (hn:items.size<=1000)
  (h:∀(h':HF) (tk:Nat) (kb:List (List Int×FI)),SP prog w h' s.heap.objs.size kb->Got kx items.size kb->(∀b o,s.heap.get? b=some o->h'.get? b=some o)->Q (.ref s.heap.objs.size) {s with heap:=h',toks:=tk }):
  FX (F7 prog w) A (call (.type "set") [.ref l]) Q E s:=by
 obtain⟨cc,tl,hmro⟩:=Ih.mro;have hmade:=Ih.made;have hsub:=Ih.sub;refine wpAny_call (O8 ?_);show FX _ _ (callAny (.type "set") _) _ _ _;refine Fl ⟨Code.quiet_builtin _ (by decide+kernel),Ho PySem.F.entry_type_call ?_⟩
 rw[Around.under_plain (weight_type_call_type "set" [.ref l] []) rfl];have g1:=Ih.notType;have g2:=Ih.canCreate;have g3:=PySem.F.typeCall_set_1 (.ref l)
 repeat (any_goals (first |assumption |wp_step))
 refine Ld (A_ (w:=w) (.ref l) (E:=E) (Q:=λobj Q2=>obj=.ref s.heap.objs.size/\Q2={s with heap:=s.heap.push (cj w) }) ⟨rfl,rfl⟩) λr Q2 hr=>?_
 cases r with
 |error e=>exact hr
 |ok fl=>
  cases fl with
  |ret obj=>
   obtain⟨rfl,rfl⟩:=hr;have hS:(s.heap.push (cj w)).get? s.heap.objs.size=some (cj w):=FE _ rfl;have hT:Shared.TypeIs {s with heap:=s.heap.push (cj w) } (.ref s.heap.objs.size) "set":=⟨_,hS,rfl⟩
   have hli:=Ih.init.lookup;have hbi:=Ih.init.bind (.ref s.heap.objs.size)
   repeat (any_goals (first |assumption |wp_step))
   refine Ld (codeAny_call_builtin (R:=wants (λr S6=>r=.none/\∃h' tk kb,S6={s with heap:=h',toks:=tk }/\
     SP prog w h' s.heap.objs.size kb/\Got kx items.size kb/\(∀b o,s.heap.get? b=some o->h'.get? b=some o)) E) Ih.init.plain PySem.F.entry_set_init (check_set_init_1 hT ?_)) λr₂ S6 TF=>?_
   ·obtain⟨ol,hol,hcl,nl,hdl⟩:=hl;obtain⟨ocls,odict,odata,oslots⟩:=ol;simp only at hcl hdl;subst hcl;subst hdl;have hol':(s.heap.push (cj w)).get? l=some {cls:=.type "list",dict:=odict,data:=.seq items nl,slots:=oslots }:=Fo _ hol;have k1:=PySem.F.sub_list_set;have k2:=PySem.F.sub_list_frozenset;have k3:(Hd "list"==Hd "dict")=false:=by decide
    have RC:(s.heap.push (cj w)).IsList l items:=⟨_,hol',rfl,nl,rfl⟩;unfold Builtin.«set.__init__» noKeywords Builtin.Frozenset.updateFrom;generalize hPI:NS=PI
    wp_walk
    subst hPI;refine Iu RC (Fi (wpAny_runValue ?_));have hlS:l<s.heap.objs.size:=FC hol;have h3:A.in1.in1.in1.handled=none:=by simp[hh]
    have szI:(s.heap.push (cj w)).objs.size=s.heap.objs.size+1:=HH ..;have hneI:l≠(s.heap.push (cj w)).objs.size:=by rw[szI];exact Ga (HP hlS)
    have RQ:s.heap.objs.size ∉ [(s.heap.push (cj w)).objs.size,l]:=by
     rw[szI];intro z;rcases Fw.mp z with z |z
     ·exact absurd z (Ga (HI _))
     ·exact absurd (Fy.mp z) (Lc hlS)
    refine wj ((Walks.list h3 _ l hneI items).toS) hu RQ kx R8 (λi hi=>?_) hn (items.size-0) 0 _ [] (by lia) (GN _)
     ⟨⟨_,FE _ rfl,rfl,rfl⟩,(RC.push _)⟩ ?_ ⟨λp hp=>by simp at hp,λj hj=>by lia,by simp⟩ (λj hj=>?_) λs' kb m SD g=>?_
    ·intro z;have z':=Fy.mp z;obtain⟨o,_,_,ho,_⟩:=Su i hi;have:=FC ho;rw[z',szI]at this;exact Gh _ (LP (HI _) this)
    ·exact xk (Fo _ hS)
    ·obtain⟨o,QW,k,ho,r⟩:=Su j hj;exact⟨o,QW,k,Fo _ (Fo _ ho),r⟩
    ·obtain⟨h',g',d',tk',os'⟩:=s';obtain rfl:g'=s.gens:=m.gens;obtain rfl:d'=s.drawn:=m.drawn;obtain rfl:os'=s.os:=m.os;refine Fl ?_;show FX _ _ (ret F4) _ _ _;refine Fl ⟨rfl,h',tk',kb,rfl,SD,g,λb o e=>?_⟩
     have hb:=FC e;refine m.heap b o (λz=>?_) (Fo _ (Fo _ e))
     rcases Fw.mp z with z |z
     ·exact absurd z (Ga hb)
     ·have z':=Fy.mp z;rw[z',szI]at hb;exact Gh _ (LP (HI _) hb)
   ·cases r₂ with
    |error e=>exact TF
    |ok fl₂=>
     cases fl₂ with
     |ret r=>
      obtain⟨rfl,h',tk,kb,rfl,SD,g,SN⟩:=TF
      repeat (any_goals (first |assumption |wp_step))
      exact h _ _ kb SD g SN
     |_=>exact TF.elim
  |_=>exact hr.elim
end
theorem dP:Slot "set_iterator" "__next__" "set_iterator.__next__":=
 .of (owner:="set_iterator") (n:="__next__") (by rw[JL,IE];kernel_rfl) (by decide+kernel) (by decide+kernel) (by decide+kernel) (by first |exact .inl (by decide+kernel) |exact .inr (by decide+kernel)) (by rw[K_];kernel_rfl)
theorem kJ:entryFor table "set_iterator.__next__"=some Builtin.«set_iterator.__next__»:=entryFor_of_tree (by kernel_rfl)
theorem mQ(a:Fq):argsOk "set_iterator.__next__" ⟨[a],[]⟩:=by unfold argsOk;kernel_rfl
theorem rK:entryFor table "set.__iter__"=some Builtin.«frozenset.__iter__»:=PJ (id':="frozenset.__iter__") (by kernel_rfl) rfl (by decide+kernel) (by kernel_rfl)
theorem qT{α:Type}{l:List α}{i:Nat}(h:i<l.length):(l[i]::l.eraseIdx i).Perm l:=by
 rw[List.eraseIdx_eq_take_drop_succ];refine Jy.symm.trans ?_;rw[<-Gp h,Gc]
theorem tP{α:Type}(next:Nat->Nat):∀(Ra k:Nat) (left:List α) (out:Array α),left.length=Ra->(pickOrder.go next Ra k left out).toList.Perm (out.toList++left)
 |0,k,left,out,h=>by
  obtain rfl:left=[]:=G8.mp h;rw[pickOrder.go,Ib]
 |Ra+1,k,left,out,h=>by
  have hi:next k%left.length<left.length:=Iw _ (by lia)
  rw[pickOrder.go,Fj hi];refine (tP next Ra (k+1) _ _ (by rw[List.length_eraseIdx_of_lt hi];lia)).trans ?_
  rw[IV,FF];refine Hq _ ?_;rw[List.singleton_append];exact qT hi
theorem zo{α:Type}(next:Nat->Nat)(xs:Array α):(N4 next xs).toList.Perm xs.toList:=by
 unfold N4;have:=tP next xs.size 0 xs.toList #[] (by simp)
 simpa using this
section
variable {w:Gj}{A:Gs}{s:Fp}
noncomputable def cy(w:Gj)(S:FI)(es:Array (Int×Fq))(ep:Nat):List Fq:=(if w.params.followText "set-order"=true then N4 (w.params.setOrder S ep) es else es).toList.map (·.2)
theorem e_(w:Gj)(S:FI)(es:Array (Int×Fq))(ep:Nat):(cy w S es ep).Perm (es.toList.map (·.2)):=by
 unfold cy;refine List.Perm.map _ ?_;split
 ·exact zo _ es
 ·exact LX _
def gv(t:SetTable):Nat->Nat
 |0=>0
 |j+1=>t.place.getD j 0+1
def aX(w:Gj)(t:SetTable)(i:Nat):Nat:=if w.params.followText "set-order"=true then 0 else gv t i
def rL(w:Gj)(h:HF)(it S:FI)(t:SetTable)(i n ep:Nat):Prop:=∃o,h.get? it=some o∧o.cls=.type "set_iterator"∧o.data=.fields #[Ku (aX w t i),Ku i,.ref S,Ku n,Ku ep]
theorem rL.ty{it S:FI}{t:SetTable}{i n ep:Nat}(x:rL w s.heap it S t i n ep):s.TypeIs (.ref it) "set_iterator":=let ⟨o,ho,hc,_⟩:=x;⟨o,ho,hc⟩
structure SO(prog:FK)(w:Gj)(o:Obj)(es:Array (Int×Fq))(ep:Nat)(t:SetTable)(hs:List Int):Prop where
 ex:o.ExactSet
 d:o.data=.set es ep t
 T:TOk t hs
 n:hs.length=es.size
 led:t.led=(!w.params.followText "set-order")
 plain:t.plain=true
theorem yR{S:FI}{o:Obj}{es ep t hs}{Q:Bool->Fp->Prop}(O:SO prog w o es ep t hs)(ho:s.heap.get? S=some o)(h:Q false s):FX (F7 prog w) A (setDrawn S) Q E s:=by
 unfold setDrawn Qh;refine Fi (Iy ho O.d (O.T.fits O.n) (Fi (Fi (Kg (Fl (Fl ?_))))));have q:Q (!w.params.followText "set-order" && (!t.plain && decide (es.size >1))) s:=by rw[O.plain];simpa using h
 exact q
theorem wd{S:FI}{o:Obj}{es ep t hs}{Q:Fq->Fp->Prop}(O:SO prog w o es ep t hs)(ho:s.heap.get? S=some o)
  (hQ:Q (.ref s.heap.objs.size) {s with heap:=s.heap.push {cls:=.type "set_iterator",data:=.fields #[Ku 0,Ku 0,.ref S,Ku es.size,Ku ep] } }):FX (F7 prog w) A (NS (.ref S)) Q E s:=by
 have hT:s.TypeIs (.ref S) "set":=⟨o,ho,O.ex.1⟩;refine KZ hT M_ (GJ M_ hT rK ?_ (PySem.F.args_set_iter_1 _));unfold Builtin.«frozenset.__iter__»;show FX _ _ (Builtin.Frozenset.sizeOf S >>=_) _ _ s;unfold Builtin.Frozenset.sizeOf;refine Fi (Fi (LC ho O.d (O.T.fits O.n) (Fl ?_)));refine Fi (yR O ho ?_);simp only[Fz,if_false];refine Fi (Fl ?_);refine Fi (wpAny_setEpoch_of ho O.d (O.T.fits O.n) ?_);refine Fi (He (Fl ⟨_,rfl,"set_iterator",_,⟨_,FE _ rfl,rfl⟩,dP.lookup,?_⟩));exact hQ
theorem rQ{t:SetTable}{hs:List Int}(T:TOk t hs){i:Nat}(hi:i<=t.place.size):below t.place (gv t i)=i:=by
 obtain⟨h1,h2,h3⟩:=fI T.R (gv t i);cases i with
 |zero=>
  dsimp only[gv]at *;rcases Kz (below t.place 0) with z |z
  ·exact z
  ·have:=h1 0 _ z (eG (by lia));lia
 |succ j=>
  dsimp only[gv]at *;have hj:j<t.place.size:=by lia
  have ej:t.place.getD j 0=t.place[j]:=by simp[JT,hj]
  rw[ej]at h1 h2 h3 |-;generalize hb:below t.place (t.place[j]+1)=b at *;rcases JS b (j+1) with z |z |z
  ·have:=h2 j t.place[j] (by lia) (eG hj);lia
  ·exact z
  ·have q:=h1 (j+1) _ z (eG (by lia))
   have:=T.R j (j+1) _ _ (by lia) (eG hj) (eG (show j+1<t.place.size by lia))
   lia
theorem kc{S:FI}{o:Obj}{es ep t hs}{i:Nat}{Q:Option (Fq×Nat)->Fp->Prop}(O:SO prog w o es ep t hs)(ho:s.heap.get? S=some o)(hi:i<=es.size)
  (h:Q (((cy w S es ep)[i]?).map λv=>(v,aX w t (i+1))) s):FX (F7 prog w) A (setNext S (aX w t i) i ep) Q E s:=by
 have RM:=O.T.fits O.n;have RH:t.place.size=es.size:=by rw[O.T.n,O.n]
 unfold setNext Qh;refine Fi (Iy ho O.d RM (Fi (Fi (Kg (Fl ?_)))));by_cases bt:w.params.followText "set-order"=true
 ·dsimp only;rw[show (F7 prog w).w.params.followText "set-order"=true from bt,if_pos rfl,if_neg (by simp)]
  unfold setWalk Qh;refine Fi (Fi (Iy ho O.d RM (Fi (Fi (Kg (Fl ?_))))));dsimp only;rw[show (F7 prog w).w.params.followText "set-order"=true from bt,if_pos rfl]
  refine Fi (Kg (Fl (Fl ?_)))
  have e:Oo (λ(e:Int×Fq)=>(e.2,aX w t i)) (N4 (w.params.setOrder S ep) es)[i]?=((cy w S es ep)[i]?).map λv=>(v,aX w t (i+1)):=by
   unfold cy aX;rw[if_pos bt,if_pos bt,if_pos bt,Ft,GC,Option.map_map];rfl
  have q:Q (Oo (λ(e:Int×Fq)=>(e.2,aX w t i)) (N4 (w.params.setOrder S ep) es)[i]?) s:=by rw[e];exact h
  exact q
 ·have bf:w.params.followText "set-order"=false:=by simpa using bt
  dsimp only;rw[show (F7 prog w).w.params.followText "set-order"=false from bf,if_neg (by simp)]
  have e1:aX w t i=gv t i:=by unfold aX;rw[if_neg bt]
  have e2:below t.place (aX w t i)=i:=by rw[e1];exact rQ O.T (by lia)
  have e3:(match es[below t.place (aX w t i)]?,t.place[below t.place (aX w t i)]? with
    |some (_,x),some j=>some (x,j+1)
    |_,_=>none)=((cy w S es ep)[i]?).map λv=>(v,aX w t (i+1)):=by
   rw[e2];unfold cy aX;rw[if_neg bt,if_neg bt,Ft,GC];rcases G7 i es.size with z |z
   ·have z':i<t.place.size:=by lia
    simp[z,z',JT,gv]
   ·have z':t.place.size<=i:=by lia
    simp[z,z']
  split
  ·rename_i hc
   exact absurd (show (!t.plain && decide (es.size >1))=true from hc) (by rw[O.plain];simp)
  ·refine Fi ?_;show FX _ _ (if (!t.led && !es.isEmpty)=true then unsupported "set:maker-not-led" else pure ()) _ _ _
   rw[O.led,bf,if_neg (by simp)]
   refine Fl (Fl ?_)
   have q:Q (match es[below t.place (aX w t i)]?,t.place[below t.place (aX w t i)]? with
    |some (_,x),some j=>some (x,j+1)
    |_,_=>none) s:=by rw[e3];exact h
   exact q
theorem uX{S it:FI}{o:Obj}{es ep t hs}{i:Nat}{v:Fq}{Q:Option Fq->Fp->Prop}(O:SO prog w o es ep t hs)(ho:s.heap.get? S=some o)(R8:rL w s.heap it S t i es.size ep)(hv:(cy w S es ep)[i]?=some v)
  (hQ:∀h',rL w h' it S t (i+1) es.size ep->JE it s.heap h'->Q (some v) {s with heap:=h' }):FX (F7 prog w) A (JG (.ref it)) Q E s:=by
 obtain⟨oi,hoi,hc,hd⟩:=id R8;have RM:=O.T.fits O.n;unfold JG;refine Fi (JV (Ii (name:=Str.ofString "__next__") R8.ty dP (GJ dP R8.ty kJ ?_ (mQ _))));unfold Builtin.«set_iterator.__next__»;refine Fi (m:=slotArgs "__next__" 0 _) (Fl ?_);dsimp only;refine Fi (NG hoi hd ?_);dsimp only[Ku];refine Fi (LC ho O.d RM ?_);rw[if_neg (by simp)]
 have Q4:i<es.size:=by
  have q:=(FA.mp hv).1;rw[(e_ w S es ep).length_eq,Fk,Fx]at q;exact q
 rw[show ((aX w t i:Nat):Int).toNat=aX w t i from Hf _,show ((i:Nat):Int).toNat=i from Hf _,show ((ep:Nat):Int).toNat=ep from Hf _]
 refine Fi (kc O ho (GW Q4) ?_);rw[hv];dsimp only[Oo];refine Fi (La hoi hd (by simp) ?_)
 have g1:=Gk (N5 (·.setIfInBounds 0 (GB ((aX w t (i+1):Nat):Int) 0))) hoi (Lg (Ij hd _));refine Fi (La g1 (Ij hd _) (by simp) ?_)
 refine Fl ⟨_,rfl,Fl (hQ _ ?_ ((Iz ..).trans (Iz ..)))⟩;refine⟨_,Gk _ g1 (Lg (Ij (Ij hd _) _)),(Me ..).trans ((Me ..).trans hc),?_⟩;rw[Ij (Ij hd _)];simp[Ku]
theorem xX{S it:FI}{o:Obj}{es ep t hs}{Q:Option Fq->Fp->Prop}(hh:A.handled=none)(O:SO prog w o es ep t hs)(ho:s.heap.get? S=some o)(R8:rL w s.heap it S t es.size es.size ep)
  (hQ:∀h',QK it s.heap h'->Q none {s with heap:=h' }):FX (F7 prog w) A (JG (.ref it)) Q E s:=by
 obtain⟨oi,hoi,hc,hd⟩:=id R8;have RM:=O.T.fits O.n;unfold JG;refine Fi (JV (Ii (name:=Str.ofString "__next__") R8.ty dP (GJ dP R8.ty kJ ?_ (mQ _))));unfold Builtin.«set_iterator.__next__»;refine Fi (m:=slotArgs "__next__" 0 _) (Fl ?_);dsimp only;refine Fi (NG hoi hd ?_);dsimp only[Ku];refine Fi (LC ho O.d RM ?_);rw[if_neg (by simp)]
 rw[show ((aX w t es.size:Nat):Int).toNat=aX w t es.size from Hf _,show ((es.size:Nat):Int).toNat=es.size from Hf _,show ((ep:Nat):Int).toNat=ep from Hf _]
 refine Fi (kc O ho (Fu _) ?_);rw[show (cy w S es ep)[es.size]?=none from F9 (by rw[(e_ w S es ep).length_eq,Fk,Fx];exact Fu _)]
 dsimp only[Oo];refine Fi (La hoi hd (by simp) ?_)
 refine Fi ?_;simp only[newExc,newTuple];refine Fi (He ?_ (by size_fits))
 refine Fi (m:=LY _ _) (Mr (a:=F4) (by first |rfl | (simp only[LY];rfl)) ?_)
 refine He ?_ (by size_fits)
 simp only[raiseNew];refine Fi (wpAny_handled ?_);rw[show A.in1.handled=none from hh]
 refine Fi (Fl (wpAny_throw ?_));refine Fi (Hb (T:="StopIteration") (b:=true) ⟨_,FE _ rfl,rfl⟩ LZ ?_);exact Fl (hQ _ (((Iz ..).extBut.push _).push _))
end
end ST
namespace ST
open PySem PySem.SetTable PySem.W
theorem l7:Slot "set_iterator" "__iter__" "set_iterator.__iter__":=
 .of (owner:="set_iterator") (n:="__iter__") (by rw[JL,IE];kernel_rfl) (by decide+kernel) (by decide+kernel) (by decide+kernel) (by first |exact .inl (by decide+kernel) |exact .inr (by decide+kernel)) (by rw[K_];kernel_rfl)
theorem qO:entryFor table "set_iterator.__iter__"=some Builtin.«dict_keyiterator.__iter__»:=PJ (id':="dict_keyiterator.__iter__") (by kernel_rfl) rfl (by decide+kernel) (by kernel_rfl)
theorem uR(a:Fq):argsOk "set_iterator.__iter__" ⟨[a],[]⟩:=by unfold argsOk;kernel_rfl
section
variable {prog:FK}{w:Gj}{A:Gs}{E:Fq→Fp→Prop}{s:Fp}
theorem Bw{it S:FI}{t:SetTable}{i n ep:Nat}{Q:Fq->Fp->Prop}(R8:rL w s.heap it S t i n ep)(h:Q (.ref it) s):FX (F7 prog w) A (NS (.ref it)) Q E s:=by
 refine KZ R8.ty l7 (GJ l7 R8.ty qO ?_ (uR _));exact Fl ⟨_,rfl,"set_iterator",_,R8.ty,dP.lookup,h⟩
theorem vI(hh:A.handled=none){it S:FI}(Q1:S≠it){o:Obj}{es ep t hs}(O:SO prog w o es ep t hs):
  Walks prog w A it [it,S] [it] es.size (λi v=>(cy w S es ep)[i]?=some v) (λi h=>rL w h it S t i es.size ep/\h.get? S=some o) where
 sub:=λb hb=>by simp at hb;simp[hb]
 frame:=λ_ _ _ st hk=>⟨let ⟨x,hx,r⟩:=st.1;⟨x,hk it (by simp) x hx,r⟩,hk S (by simp) o st.2⟩
 item:=λi s Q E hi st hQ=>by
  obtain⟨v,hv⟩:∃v,(cy w S es ep)[i]?=some v:=⟨_,Fj (by rw[(e_ w S es ep).length_eq,Fk,Fx];exact hi)⟩
  refine uX O st.2 st.1 hv λh' hit' sb=>?_
  exact hQ v h' s.toks hv ⟨hit',(sb.2 S Q1).trans st.2⟩ λb x hb e=>sb.extBut b x (λz=>hb (by simp[z])) e
 done:=λs Q E st hQ=>xX hh O st.2 st.1 λh' xb=>hQ h' s.toks λb x hb e=>xb b x (λz=>hb (by simp[z])) e
 self:=λ_ _ _ _ st hQ=>Bw st.1 hQ
theorem xQ{r:FI}{Q:Bool→Fp→Prop}(hT:s.TypeIs (.ref r) "set")(h:Q false s):FX (F7 prog w) A (Builtin.List.listLengthHint (.ref r)) Q E s:=by
 unfold Builtin.List.listLengthHint;refine Fi (Ig hT PySem.F.slot_set_len.lookup ?_);generalize hid:("set.__len__":String)=id0
 wp_delta
 rw[show splitId id0=some ("set","__len__") from by subst hid;decide+kernel]
 subst hid;refine Fi (Hb (T:="set") (b:=true) hT (by rw[K_];kernel_rfl) ?_)
 refine Js (λz=>absurd z (by decide)) (λ_=>?_)
 refine Js (λ_=>?_) (λz=>absurd (by decide+kernel) z)
 exact Fi (M7 hT (Fl h))
theorem A5{S:FI}{o:Obj}{es ep t hs}(O:SO prog w o es ep t hs):KdlSrc prog w "set" S S es.size (λi v=>(cy w S es ep)[i]?=some v) (λh=>h.get? S=some o) where
 type:=λ_ hm=>⟨o,hm,O.ex.1⟩
 there:=λ_ hm=>⟨FC hm,FC hm⟩
 keep:=λ_ _ hm hk=>hk S (.inl rfl) o hm
 notList:=by decide
 notTuple:=by decide
 hint:=λ_ _ _ _ hm hq=>xQ ⟨o,hm,O.ex.1⟩ hq
 iter:=λ_ s hh hm=>⟨_,_,(λ_ _ hq=>wd O hm hq),vI hh (Ga (FC hm)) O,⟨⟨_,FE _ rfl,rfl,by simp[aX,gv]⟩,Fo _ hm⟩⟩
end
end ST
namespace ST
open PySem PySem.W PyProof.Rows
variable {lt:Nat→Nat→Bool}{n:Nat}
abbrev g(p:Array Nat)(k:Nat):Nat:=p.getD k 0
def ltP(a b:Int×Int):Bool:=decide (a.1<b.1\/(a.1=b.1/\a.2<b.2))
theorem kg{a b c:Int×Int}(h1:ltP a b=true)(h2:ltP b c=true):ltP a c=true:=by
 unfold ltP at *;simp at *;lia
theorem iD{a b:Int×Int}(h1:ltP a b=true):ltP b a=false:=by
 unfold ltP at *;simp at *;lia
theorem ltP_tot{a b:Int×Int}(h:a≠b)(h1:ltP a b=false):ltP b a=true:=by
 unfold ltP at *;have:¬ (a.1=b.1/\a.2=b.2):=λz=>h (GU z.1 z.2)
 simp at *;lia
section
variable {prog:FK}{w:Gj}{A:Gs}{E:Fq→Fp→Prop}{s:Fp}
theorem TK.two{h:HF}{x y:Int}{b:FI}(k:TK prog w h [x,y] b):∃o QW n t u,h.get? b=some o∧o.cls=.type "tuple"∧o.data=.seq QW n∧QW.toList=[.int x t,.int y u]:=by
 obtain⟨o,QW,n,ho,hc,hd,hi⟩:=k;cases Q9:QW.toList with
 |nil=>rw[Q9]at hi;cases hi
 |cons v1 r=>
  rw[Q9]at hi;cases hi with
  |cons h1 hr=>
   cases hr with
   |cons h2 hr2=>
    cases hr2;obtain⟨t,rfl⟩:=KM h1;obtain⟨u,rfl⟩:=KM h2;exact⟨o,QW,n,t,u,ho,hc,hd,Q9⟩
theorem Ck{x y:FI}{a b:Int×Int}{Q:Bool->Fp->Prop}(hx:TK prog w s.heap [a.1,a.2] x)(hy:TK prog w s.heap [b.1,b.2] y)(h:Q (ltP a b) s):FX (F7 prog w) A (keyLt' (O9 true) (.ref x) (.ref y)) Q E s:=by
 obtain⟨o,QW,n,t,u,ho,_,hd,hi⟩:=hx.two;obtain⟨o',its',n',t',u',RY,_,R9,Q9⟩:=hy.two;refine kat_lt ho hd RY R9 ?_;rw[hi,Q9];refine kat_cons ((Lm prog w).eqBool (a:=a.1) (b:=b.1) (HQ _ _ _ _) (HQ _ _ _ _) ?_);by_cases e1:a.1=b.1
 ·rw[decide_eq_true e1];refine kat_yes (kat_cons ((Lm prog w).eqBool (a:=a.2) (b:=b.2) (HQ _ _ _ _) (HQ _ _ _ _) ?_));by_cases e2:a.2=b.2
  ·rw[decide_eq_true e2];refine kat_yes (kat_nil ?_);have z:ltP a b=false:=by unfold ltP;simp;lia
   rw[z]at h
   have z2:decide (QW.size<its'.size)=false:=by
    rw[<-Fx,<-Fx,hi,Q9];simp
   rw[z2];exact h
  ·rw[decide_eq_false e2];refine kat_no (kat_one _ _ (lt_int ?_));have z:ltP a b=decide (a.2<b.2):=by unfold ltP;rw[e1];simp
   rw[z]at h;exact h
 ·rw[decide_eq_false e1];refine kat_no (oneLt_int ?_);have z:ltP a b=decide (a.1<b.1):=by unfold ltP;simp[e1]
  rw[z]at h;exact h
abbrev PB:=List ((Int×Int)×FI)
abbrev refs(pb:PB):List Fq:=pb.map λp=>FW p.2
theorem yM{pb:PB}{Q:Kh->Fp->Prop}(Su:∀p∈pb,TK prog w s.heap [p.1.1,p.1.2] p.2)(h0:0<pb.length)(h:Q (O9 true) s):FX (F7 prog w) A (keyKind' (refs pb).toArray) Q E s:=by
 obtain⟨fs,hf,hl,hi⟩:∃fs,KatTups s.heap (refs pb) fs/\fs.length=pb.length/\∀v∈fs,∃n t,v=GB n t:=by
  clear h h0
  induction pb with
  |nil=>exact⟨[],.nil,rfl,λv hv=>by simp at hv⟩
  |cons p r ih=>
   obtain⟨fs,hf,hl,hi⟩:=ih λq hq=>Su q (Fn _ hq)
   obtain⟨o,QW,n,t,u,ho,hc,hd,R8⟩:=(Su p Fv).two;refine⟨.int p.1.1 t::fs,.cons ho hc hd (by rw[<-GC,R8];rfl) hf,by simp[hl],λv hv=>?_⟩
   rcases Fw.mp hv with z |z
   ·exact⟨_,_,z⟩
   ·exact hi v z
 refine kat_kind (T:=.type "int") hf (by lia) (λv hv=>?_) (by decide) h
 obtain⟨n,t,rfl⟩:=hi v hv;exact Looks.of_pure rfl
end
end ST
namespace ST
open PySem PySem.W PyProof.Rows PySem.Calls
theorem y6{α β:Type}(f:α->β){l m:List β}(h:l.Perm m):∀kb:List α,m=kb.map f->∃Sr:List α,Ik Sr kb/\l=List.map f Sr:=by
 induction h with
 |nil=>intro kb e;exact⟨kb,.refl _,e⟩
 | @cons x l m _ ih=>
  intro kb e
  match kb,e with
  |[],e=>simp at e
  |k::kb,e=>
   rw[FU,Na]at e;obtain⟨Sr,p,e'⟩:=ih kb e.2;exact⟨k::Sr,p.cons k,by rw[FU,<-e',e.1]⟩
 |swap x y l=>
  intro kb e
  match kb,e with
  |[],e=>simp at e
  |[_],e=>simp at e
  |k::k'::kb,e=>
   simp only[FU,Na]at e;exact⟨k'::k::kb,.swap k k' kb,by rw[FU,FU,<-e.2.2,e.1,e.2.1]⟩
 |trans _ _ ih1 ih2=>
  intro kb e;obtain⟨kb2,p2,e2⟩:=ih2 kb e;obtain⟨Ut,p1,e1⟩:=ih1 kb2 e2;exact⟨Ut,p1.trans p2,e1⟩
def ptsOf(kb:List (List Int×FI)):PB:=kb.map λp=>((p.1.getD 0 0,p.1.getD 1 0),p.2)
end ST
namespace ST
open PySem
def ins(x:Int×Int):List (Int×Int)->List (Int×Int)
 |[]=>[x]
 |y::r=>if x=y then y::r else if ltP x y=true then x::y::r else y::ins x r
def srt(pts:List (Int×Int)):List (Int×Int):=pts.foldr ins []
theorem ins_mem(x z:Int×Int):∀l,z∈ins x l↔z=x\/z∈l
 |[]=>by simp[ins]
 |y::r=>by
  unfold ins;split
  ·rename_i h;subst h;simp
  ·split
   ·simp
   ·rw[Fw,ins_mem x z r,Fw];constructor
    ·rintro (h |h |h)
     ·exact .inr (.inl h)
     ·exact .inl h
     ·exact .inr (.inr h)
    ·rintro (h |h |h)
     ·exact .inr (.inl h)
     ·exact .inl h
     ·exact .inr (.inr h)
abbrev Asc(l:List (Int×Int)):Prop:=l.Pairwise (λx y=>ltP x y=true)
theorem ins_asc(x:Int×Int):∀l,Asc l->Asc (ins x l)
 |[],_=>by simp[ins]
 |y::r,h=>by
  unfold ins;split
  ·exact h
  ·rename_i Q1
   obtain⟨h1,h2⟩:=Gg.mp h;split
   ·rename_i Q4
    refine Gg.mpr ⟨λz hz=>?_,h⟩
    rcases Fw.mp hz with e |e
    ·rw[e];exact Q4
    ·exact kg Q4 (h1 z e)
   ·rename_i Q4
    refine Gg.mpr ⟨λz hz=>?_,ins_asc x r h2⟩
    rcases (ins_mem x z r).mp hz with e |e
    ·rw[e];exact ltP_tot Q1 (by simpa using Q4)
    ·exact h1 z e
theorem srt_mem(z:Int×Int):∀l,z∈srt l↔z∈l
 |[]=>by simp[srt]
 |y::r=>by
  show z∈ins y (srt r)↔_;rw[ins_mem,srt_mem z r,Fw]
theorem srt_asc:∀l,Asc (srt l)
 |[]=>JR
 |y::r=>ins_asc y (srt r) (srt_asc r)
theorem asc_irr{x:Int×Int}:ltP x x=false:=by unfold ltP;simp
theorem asc_one:∀{l m:List (Int×Int)},Asc l->Asc m->(∀z,z∈l↔z∈m)->l=m
 |[],[],_,_,_=>rfl
 |[],y::r,_,_,h=>by have:=(h y).mpr Fv;simp at this
 |x::l,[],_,_,h=>by have:=(h x).mp Fv;simp at this
 |x::l,y::m,hl,hm,h=>by
  obtain⟨a1,a2⟩:=Gg.mp hl;obtain⟨b1,b2⟩:=Gg.mp hm
  have e:x=y:=by
   rcases Fw.mp ((h x).mp Fv) with z |z
   ·exact z
   ·rcases Fw.mp ((h y).mpr Fv) with z' |z'
    ·exact z'.symm
    ·have:=iD (b1 x z);rw[a1 y z']at this;cases this
  subst e;congr 1;refine asc_one a2 b2 λz=>⟨λhz=>?_,λhz=>?_⟩
  ·rcases Fw.mp ((h z).mp (Fn _ hz)) with e |e
   ·have:=a1 z hz;rw[e,asc_irr]at this;cases this
   ·exact e
  ·rcases Fw.mp ((h z).mpr (Fn _ hz)) with e |e
   ·have:=b1 z hz;rw[e,asc_irr]at this;cases this
   ·exact e
theorem asc_srt{l:List (Int×Int)}(h:Asc l):srt l=l:=asc_one (srt_asc l) h λz=>srt_mem z l
theorem tO(x:Int×Int):∀l,(ins x l).length<=l.length+1
 |[]=>by simp[ins]
 |y::r=>by
  have:=tO x r;unfold ins;split
  ·simp
  ·split
   ·simp
   ·simp only[F8];lia
theorem srt_len:∀l,(srt l).length<=l.length
 |[]=>Fu _
 |y::r=>by
  have h1:=tO y (srt r);have h2:=srt_len r;show (ins y (srt r)).length<=_;simp only[F8];lia
end ST
namespace L2
open PySem PySem.Spec PyProof.Rows
theorem Fh{p:Nat->FI->Prop}{n:Nat}(h:∀i,i<n->∃b,p i b):∃f:Nat->FI,∀i,i<n->p i (f i):=by
 refine⟨λi=>if k:i<n then OF (h i k) else 0,λi hi=>?_⟩
 dsimp only;rw[dif_pos hi];exact Nb (h i hi)
theorem xU:HL "set"=some (.type "set"):=by decide+kernel
end L2
namespace ST
open PySem
section
variable {prog:FK}{w:Gj}{A:Gs}{s:Fp}{R:Ow→Fp→Prop}{I:FI}{fp wr:List FI}{G:Array JP→Array JP→Prop}{n:Nat}{P:Nat→Fq→Prop}{St:Nat→Fp→Prop}{T:String}
def xJ(prog:FK)(w:Gj)(T:String):Prop:=∀(A:Gs) (E:Fq->Fp->Prop) (s:Fp) (r:FI) (Q:Bool->Fp->Prop),s.TypeIs (.ref r) T->(∀b,Q b s)->FX (F7 prog w) A (Builtin.List.listLengthHint (.ref r)) Q E s
theorem uK(W:WalksS prog w A.in1 I fp wr G n P St)(hT:∀i s,St i s→s.TypeIs (.ref I) T)(hl:(Hd T==Hd "list")=false)(ht:(Hd T==Hd "tuple")=false)(hint:xJ prog w T)(S:FI)(res:Fq)(c₀:Nat)(RB:St 0 s)(RQ:S ∉ fp)(hI:I∈fp)
  (hS:s.heap.get? S=some {cls:=.type "list",data:=.seq #[] c₀ })
  (hR:∀s' RD c',Moved (S::wr) G s s'→s'.heap.get? S=some {cls:=.type "list",dict:=none,data:=.seq RD c',slots:=#[] }→ItemsOf P RD n→R (.ok (.ret res)) s') (hn:n≤sizeLine):
  FX (F7 prog w) A.in1 (Builtin.List.listExtendWith (.ref S) (.ref I) res)
   (λfin s'=>match fin with | .done f=>R (.ok f) s' | .again c'=>c'.quiet=true/\J6 (F7 prog w) A c' R s') (λe s'=>R (.error e) s') s:=by
 have hSI:S≠I:=λe=>RQ (e ▸ hI)
 unfold Builtin.List.listExtendWith;refine Fi (M7 (hT 0 _ RB) ?_);have k1:Builtin.List.listSameRef (.ref S) (.ref I)=false:=by simp[Builtin.List.listSameRef,hSI]
 simp only[k1,hl,ht,Qs,Fz,if_false];refine Fi (W.self 0 _ _ _ RB (Fi (GS (hint _ _ _ _ _ (hT 0 _ RB) λb=>?_))))
 refine Js (λ_=>?_) (λ_=>?_)
 ·refine Fi (Jb (Fi ?_));show FX _ A.in1 (J_ S (·.push .none) >>=λ_=>J_ S (·.pop)) _ _ _
  refine Fi (Hc hS rfl ?_);have g2:=Gk (GR (·.push F4)) hS rfl;refine Hc (hz:=by seq_fits) g2 rfl ?_
  have g3:=Gk (GR (·.pop)) g2 rfl;have Ru:∀b o,b≠S->s.heap.get? b=some o->((s.heap.update S (GR (·.push F4))).update S (GR (·.pop))).get? b=some o:=λb o hb e=>(F3 _ _ (Ne.symm hb)).trans ((F3 _ _ (Ne.symm hb)).trans e)
  refine Fl ⟨Hl Hg _,Nz W hn _ RQ _ n 0 _ _ _ rfl (GN _) (W.frame 0 s _ s.toks RB (Fu _) λb hb o e=>Ru b o (λz=>RQ (z ▸ hb)) e) g3 (ItemsOf.nil P) λs' RD c' m g' it=>?_⟩
  exact hR s' RD c' (Moved.trans W.gtrans ((Moved.refl W.grefl).then_heap (Fu _) λb o hb e=>Ru b o (λz=>hb (z ▸ Fv)) e) m) g' it
 ·exact Fl ⟨Hl Hg _,Nz W hn _ RQ _ n 0 _ _ _ rfl (GN _) RB hS (ItemsOf.nil P) λs' RD c' m g' it=>hR s' RD c' m g' it⟩
theorem Bu(W:WalksS prog w A.in1 I fp wr G n P St)(hT:∀i s,St i s→s.TypeIs (.ref I) T)(hl:(Hd T==Hd "list")=false)(ht:(Hd T==Hd "tuple")=false)(hint:xJ prog w T)(S:FI)(RB:St 0 s)(RQ:S ∉ fp)(hI:I∈fp)
  (hS:s.heap.get? S=some {cls:=.type "list",data:=.seq #[] })
  (hR:∀s' RD c',Moved (S::wr) G s s'→s'.heap.get? S=some {cls:=.type "list",dict:=none,data:=.seq RD c',slots:=#[] }→ItemsOf P RD n→R (.ok (.ret .none)) s') (hn:n≤sizeLine):
  FX (F7 prog w) A.in1 (Builtin.«list.__init__» ⟨[.ref S,.ref I],[]⟩)
   (λfin s'=>match fin with | .done f=>R (.ok f) s' | .again c'=>c'.quiet=true/\J6 (F7 prog w) A c' R s') (λe s'=>R (.error e) s') s:=by
 show FX _ A.in1 (Builtin.List.listItems (.ref S) >>=λold=>Builtin.List.listUpdate (.ref S) (λ_=>#[]) >>=λ_=>letGo old.toList.reverse >>=λ_=>Builtin.List.listExtendWith (.ref S) (.ref I) .none) _ _ s
 refine Fi ?_;unfold Builtin.List.listItems;refine Fi (G6 hS rfl (Fl ?_));show FX _ A.in1 (J_ S (λ_=>#[]) >>=λ_=>letGo (#[]:Array Fq).toList.reverse >>=λ_=>Builtin.List.listExtendWith (.ref S) (.ref I) .none) _ _ s
 refine Fi (Hc hS rfl ?_);have g2:=Gk (GR (λ_=>(#[]:Array Fq))) hS rfl
 have Ru:∀b o,b≠S->s.heap.get? b=some o->(s.heap.update S (GR (λ_=>(#[]:Array Fq)))).get? b=some o:=λb o hb e=>(F3 _ _ (Ne.symm hb)).trans e
 refine Fi (Jw ?_);refine uK W hT hl ht hint S .none _ (W.frame 0 s _ s.toks RB (Fu _) λb hb o e=>Ru b o (λz=>RQ (z ▸ hb)) e) RQ hI g2 (λs' RD c' m g' it=>?_) hn
 exact hR s' RD c' (Moved.trans W.gtrans ((Moved.refl W.grefl).then_heap (Fu _) λb o hb e=>Ru b o (λz=>hb (z ▸ Fv)) e) m) g' it
variable {E:Fq→Fp→Prop}
theorem call_list_it{Q:Fq→Fp→Prop}(W:WalksS prog w A.in1.in1 I fp wr G n P St)(hT:∀i s,St i s→s.TypeIs (.ref I) T)(hl:(Hd T==Hd "list")=false)(ht:(Hd T==Hd "tuple")=false)(hint:xJ prog w T)(RB:St 0 s)(hfp:∀b∈fp,b<s.heap.objs.size)(hI:I∈fp)
  (hQ:∀s' RD c',Moved (s.heap.objs.size::wr) G {s with heap:=s.heap.push {cls:=.type "list",data:=.seq #[] } } s'→
   s'.heap.get? s.heap.objs.size=some {cls:=.type "list",dict:=none,data:=.seq RD c',slots:=#[] }→ItemsOf P RD n→Q (.ref s.heap.objs.size) s') (hn:n≤sizeLine):
  FX (F7 prog w) A (call (.type "list") [.ref I]) Q E s:=by
 have RQ:s.heap.objs.size ∉ fp:=λhm=>Gh _ (hfp _ hm)
 refine PL (Q₁:=λobj Q2=>obj=.ref s.heap.objs.size∧Q2={s with heap:=s.heap.push {cls:=.type "list",data:=.seq #[] } }) NK (Ms _) Mt (code_list_new _ ⟨rfl,rfl⟩) λobj Q2 h₁=>?_
 obtain⟨rfl,rfl⟩:=h₁;have hS:(s.heap.push {cls:=.type "list",data:=.seq #[] }).get? s.heap.objs.size=some {cls:=.type "list",data:=.seq #[] }:=FE _ rfl;refine⟨⟨_,hS,rfl⟩,Mf _ _,Bu W hT hl ht hint _ (W.frame 0 s _ s.toks RB (Fu _) λb _ o e=>Fo _ e) RQ hI hS (λs' RD c' m g' it=>?_) hn⟩
 exact⟨rfl,hQ s' RD c' m g' it⟩
end
theorem zQ:Oh (.type "list_reverseiterator") "__len__"=pure none:=by rw[JL,IE];kernel_rfl
theorem lK:Slot "list_reverseiterator" "__length_hint__" "list_reverseiterator.__length_hint__":=
 .of (owner:="list_reverseiterator") (n:="__length_hint__") (by rw[JL,IE];kernel_rfl) (by decide+kernel) (by decide+kernel) (by decide+kernel) (by first |exact .inl (by decide+kernel) |exact .inr (by decide+kernel)) (by rw[K_];kernel_rfl)
theorem hint_rev(prog:FK)(w:Gj):xJ prog w "list_reverseiterator":=λA E s r Q hT h=>by
 unfold Builtin.List.listLengthHint;refine Fi (Ig hT zQ ?_);show FX _ A (specialOf (FW r) (Str.ofString "__length_hint__") >>=_) _ _ _;refine Fi (Ig hT lK.lookup ?_);generalize hid:("list_reverseiterator.__length_hint__":String)=id0
 wp_delta
 rw[show splitId id0=some ("list_reverseiterator","__length_hint__") from by subst hid;decide+kernel]
 subst hid;refine Fi (Hb (T:="list_reverseiterator") (b:=true) hT (by rw[K_];kernel_rfl) ?_)
 refine Js (λz=>absurd z (by decide)) (λ_=>?_)
 refine Js (λ_=>?_) (λz=>absurd (by decide+kernel) z)
 refine Js (λz=>absurd z (by decide+kernel)) (λ_=>Fl (h _))
end ST
namespace L2
open PySem PySem.Spec PyProof.Rows
theorem lO:HL "reversed"=some (.type "reversed"):=by decide+kernel
theorem aT.rev:∀{xs:List V}{us:List Fq},aT xs us->aT xs.reverse us.reverse:=λ{xs us} r=>by
 induction r with
 |nil=>exact .nil
 | @cons x u xs us r1 r2 ih=>
  rw[JW,JW]
  have app:∀{a:List V}{b:List Fq},aT a b->aT (a++[x]) (b++[u]):=λ{a b} q=>by
   induction q with
   |nil=>exact .cons r1 .nil
   |cons q1 _ ih'=>exact .cons q1 ih'
  exact app ih
theorem Rps.rev{K:Fm}{H:Hp}{vs:List V}{xs:List U}(r:Rps K H vs xs):Rps K H vs.reverse xs.reverse:=⟨by simp[r.len],λi v x h1 h2=>by
 have hi:i<vs.length:=by have:=aC h1;simpa using this
 have hx:i<xs.length:=by rw[<-r.len];exact hi
 rw[Hr hi]at h1;rw[Hr hx,<-r.len]at h2;exact r.at_ _ v x h1 h2⟩
section
variable {X:Cx}{H0:Hp}{O0:List FI}{ps:PSt}{e k:Expr}{x:U}{xs:List U}{pos Rf p p' p2:Pos}
theorem Ba{K:Fm}{H:Hp}{v:V}(rp:Rp K H v x)(hx:x=.lst xs\/x=.scr xs):∃a vs,v=.ref a/\SqL K H a vs/\Rps K H vs xs:=by
 rcases hx with rfl |rfl
 ·cases rp with
  |lst hq hl hh=>exact⟨_,_,rfl,SqL.of hq,hl,hh⟩
 ·cases rp with
  |scr hq hl hh=>exact⟨_,_,rfl,hq,hl,hh⟩
theorem D3(he:Ev X H0 O0 ps e x)(hk:Ev X H0 O0 ps k (.int (-1)))(hx:x=.lst xs\/x=.scr xs):EvN X H0 O0 ps (.Subscript e (.Slice none none (some k) p2) pos) xs.reverse:=by
 rintro pins s σ H Q I ⟨O,R,q⟩;refine Qe (thn (he pins s σ H (λv H1=>aL H H1/\Rp X.K (hid H1 O) v x) I ⟨O,R,λv H1 s1 r1=>⟨s1,r1⟩⟩) λu s1 ⟨v,H1,I1,r1,sm,rp⟩=>?_)
 obtain⟨a,vs,rfl,hq,rs⟩:=Ba rp hx;cases r1;refine wpAny_Slice ?_;rw[NV];refine Fl (Fl ?_);rw[evalPart_some];refine thn (hk pins s1 σ H1 (λv H2=>aL H1 H2/\v=.int (-1)) I1 ⟨O,R.go sm,λv H2 s2 r2=>⟨s2,by cases r2;rfl⟩⟩) λuk s2 hy=>?_
 obtain⟨vk,H2,I2,rk,s12,rfl⟩:=hy;obtain⟨t,rfl⟩:=rk;have I3:Inv X pins σ H2 {s2 with heap:=s2.heap.push {cls:=.type "slice",data:=.fields #[.none,.none,.int (-1) t] } }:=I2.kept (t':=s2.toks) λb ob z=>Fo _ z
 obtain⟨QW,rv,pl,hz⟩:=I3.list (s12.seq (aq.seq hq));have Q5:=rv.length;show FX (F7 X.prog X.w) X.A (NX e (.Slice none none (some k) p2) (.ref a) (.ref s2.heap.objs.size)) (EP X pins σ Q) X.xe {s2 with heap:=s2.heap.push {cls:=.type "slice",data:=.fields #[.none,.none,.int (-1) t] } }
 refine tail_any (ops:=[.ref a,.ref s2.heap.objs.size]) pl.isList.typeIs slot_list_getitem.lookup ?_ (by with_unfolding_all rfl)
 refine Ma pl.isList (NW ..) .none .none (IsPart.int _ _) (by simp) ?_ (by rw[FL];lia)
 rw[PySem.W.krv_pick];generalize hn:(s2.heap.push {cls:=.type "slice",data:=.fields #[.none,.none,.int (-1) t] }).objs.size=D;have fr:H2 D=none:=I3.hok.fresh (by rw[<-hn];exact Fu _)
 refine⟨.ref D,upd H2 D (.lst vs.reverse),I3.laid (t':=s2.toks) (o:=.lst vs.reverse) (λb ob z=>Fo _ z) (by rw[<-hn];exact Fu _) ⟨by rw[Gx];exact hz,QW.reverse,0,rv.rev,?_⟩,rfl,?_⟩
 ·rw[<-hn];exact FE _ rfl
 ·refine q D _ _ ((sm.trans s12).trans (aQ fr _)) ((sm.trans s12).free fr) aO ?_;exact (rs.rev.same (aY s12)).same (bF (aQ fr _) fr)
theorem vg(hc:X.calm=true)(hg:Gl X "list")(hm:X.mg "list"=none)(hgr:Gl X "reversed")(hmr:X.mg "reversed"=none)(ha:Ev X H0 O0 ps e (.lst xs))
  (he:FH [e] X.env=(false,JQ e X.env)::FH [] X.env:=by rfl):EvN X H0 O0 ps (.Call (.Name "list" p) [.Call (.Name "reversed" p') [e] [] Rf] [] pos) xs.reverse:=by
 rintro pins s σ H Q I ⟨O,R,q⟩;have hh:X.A.handled=none:=I.ok.hd hc;refine Hk (df I hg hm N6 ?_);refine callWith_type1 (e:=.Call (.Name "reversed" p') [e] [] Rf) (rest:=[]) ?_ de rfl;rw[de];show FX _ _ (Qk ((false,JQ (.Call (.Name "reversed" p') [e] [] Rf) X.env)::J5 pos (FH [] X.env))) _ _ s;refine Kv ?_;refine Hk (df I hgr hmr lO ?_);refine callWith_type1 (thn (dM ha gB he Rf pins s σ H (λvs H1=>∃v,vs=[v]/\aL H H1/\Rp X.K (hid H1 O) v (.lst xs)) I ⟨O,R,λv H1 s1 r1=>⟨v,rfl,s1,r1⟩⟩) λus s1 hx=>?_) he rfl
 obtain⟨vs,H1,I1,rv,v,rfl,sm,rp⟩:=hx;obtain⟨u,rfl,ru⟩:=fq rv;obtain⟨a,ws,rfl,hq,rs⟩:=Ba rp (.inl rfl);cases ru;obtain⟨QW,SS,pl,hz⟩:=I1.list (aq.seq hq);have Q5:=SS.length;have hsz:QW.toArray.size=QW.length:=by simp
 refine call_reversed_list pl.isList ?_;have I2:Inv X pins σ H1 {s1 with heap:=s1.heap.push (QP a ((QW.toArray.size:Int)-1)) }:=I1.kept (t':=s1.toks) λb ob z=>Fo _ z
 refine KN ?_;have RX:a<s1.heap.objs.size:=by obtain⟨o,ho,_⟩:=pl.isList;exact FC ho
 have W:=(Walks.listRev (prog:=X.prog) (w:=X.w) (A:=X.A.in1.in1) hh s1.heap.objs.size a (Ga RX) QW.toArray).toS;refine ST.call_list_it (T:="list_reverseiterator") (s:={s1 with heap:=s1.heap.push (QP a ((QW.toArray.size:Int)-1)) }) W (λi s' st=>st.2.1.typeIs) (by decide) (by decide) (ST.hint_rev _ _) ⟨GN _,⟨_,FE _ rfl,rfl,by simp[QP]⟩,pl.isList.push _⟩ (λb hb=>?_) (by simp) (λs3 acc c m hD R8=>?_) (by rw[hsz];lia)
 ·show b<(s1.heap.push _).objs.size;rw[HH];simp at hb;rcases hb with z |z
  ·rw[z];exact HI _
  ·rw[z];exact HP RX
 ·obtain⟨h3,g3,d3,tk3,os3⟩:=s3;obtain rfl:g3=s1.gens:=m.gens;obtain rfl:d3=s1.drawn:=m.drawn;obtain rfl:os3=s1.os:=m.os;have szI:(s1.heap.push (QP a ((QW.toArray.size:Int)-1))).objs.size=s1.heap.objs.size+1:=HH ..
  have keep:∀b ob,s1.heap.get? b=some ob->h3.get? b=some ob:=λb ob z=>by
   have hb:=FC z;refine m.heap b ob (λy=>?_) (Fo _ (Fo _ z))
   rcases Fw.mp y with y |y
   ·rw[y]at hb;have T6:s1.heap.objs.size+1<s1.heap.objs.size:=by rw[<-szI];exact hb
    exact absurd T6 (by lia)
   ·rw[Fy.mp y]at hb;exact Gh _ hb
  have Td:acc.toList=QW.reverse:=by
   apply IA;intro i;rcases G7 i acc.size with z |z
   ·have y:=R8.2 i _ (Gf z);have hi:i<QW.length:=by rw[R8.1,hsz]at z;exact z
    rw[GC,Gf z,Hr hi,<-y,hsz];simp
   ·have hi:QW.length<=i:=by rw[R8.1,hsz]at z;exact z
    rw[F9 (by simpa using z),F9 (by simpa using hi)]
  generalize hn:(s1.heap.push (QP a ((QW.toArray.size:Int)-1))).objs.size=D at *;have fr:H1 D=none:=I2.hok.fresh (by rw[<-hn];exact Fu _)
  have I3:Inv X pins σ (upd H1 D (.lst ws.reverse)) {s1 with heap:=h3,toks:=tk3 }:=I1.laid (t':=tk3) (o:=.lst ws.reverse) keep (by rw[szI];exact Nat.le_succ _) ⟨by rw[Gx];exact hz,QW.reverse,c,SS.rev,by rw[<-Td,Array.toArray_toList];exact hD⟩
  refine⟨.ref D,_,I3,rfl,q D _ _ (sm.trans (aQ fr _)) (sm.free fr) aO ?_⟩;exact rs.rev.same (bF (aQ fr _) fr)
end
section
variable {X:Cx}{H0:Hp}{O0:List FI}{ps:PSt}{xs:List U}{us:List U}{es:List Expr}{x:Str}{pc p' pos:Pos}
theorem eZ(n:Nat)(h:ps[n]?=some (some (.own xs)))(hg:Gl X "len")(hm:X.mg "len"=none)(hN:X.N[n]?=some x:=by rfl)(hv:Vis X.env.scope x:=by first |exact Or.inl rfl |exact Or.inr (Or.inl rfl) |exact Or.inr (Or.inr rfl))(hd:(x==("__debug__":Str))=false:=by decide)
  (RR:(x==("__classdict__":Str))=false:=by decide) (RH:(J5 pos (FH [] X.env)).any (·.1)=false:=by rfl):Ev X H0 O0 ps (.Call (.Name "len" pc) [.Name x p'] [] pos) (.int xs.length):=Dk n h hg hm hN hv hd RR ai RH
end
end L2
namespace ST
open PySem
abbrev iQ(h:HF)(z TI TO T:FI)(b:Bool):Prop:=h.get? z=some {cls:=.type "zip",dict:=none,data:=.fields #[Ku T,.bool b,.bool false,.ref TI,.ref TO],slots:=#[] }
variable {prog:FK}{E:Fq→Fp→Prop}
section
variable {w:Gj}{A:Gs}{s:Fp}
theorem El{T:FI}{o:Obj}{Q:Option Obj->Fp->Prop}(h:s.heap.get? T=some o)(q:Q (some o) s):FX (F7 prog w) A (loadIfAlive T) Q E s:=λΓ p hΓ=>by
 unfold loadIfAlive;rw[Sem.wp_loadIfAlive,h];simpa using q
theorem gq{z TI TO T:FI}{b:Bool}{oT:Obj}{Q:Bool->Fp->Prop}(hz:iQ s.heap z TI TO T b)(hT:s.heap.get? T=some oT)(h:∀h',iQ h' z TI TO T true->JE z s.heap h'->Q false {s with heap:=h' }):
  FX (F7 prog w) A (Builtin.SmallTypes.ownedTupleIsFree (.ref z)) Q E s:=by
 unfold Builtin.SmallTypes.ownedTupleIsFree;refine Fi (Kj hz rfl (x:=Ku T) rfl ?_);dsimp only[Ku];refine Fi (El (T:=(T:Int).toNat) (o:=oT) (by rw[Hf];exact hT) ?_)
 rw[if_neg (by simp)]
 refine Fi (Kj hz rfl (x:=.bool b) rfl ?_);cases b with
 |true=>
  rw[if_neg (by decide)]
  exact Fl (h s.heap hz (On _ _))
 |false=>
  rw[if_pos (by decide)]
  refine Fi (wpAny_setField_rec hz (by simp) λh₁ hz₁ hs₁=>Fl (h h₁ hz₁ hs₁))
theorem yK{z TI TO i1 i2 l1 l2 T:FI}{b:Bool}{oT:Obj}{k1 k2:Nat}{xs ys:Array Fq}{x y:Fq}{Q:Fq->Fp->Prop}(D:Lb z TI TO i1 i2 l1 l2)
  (hz:iQ s.heap z TI TO T b) (hT:s.heap.get? T=some oT) (S0:LD s.heap TI (.ref i1) (.ref i2))
  (h1:s.heap.IsListIter i1 l1 k1) (h2:s.heap.IsListIter i2 l2 k2) (RC:s.heap.IsList l1 xs) (Ri:s.heap.IsList l2 ys) (hx:xs[k1]?=some x) (hy:ys[k2]?=some y)
  (hQ:∀h',iQ h' z TI TO T true->h'.IsListIter i1 l1 (k1+1)->h'.IsListIter i2 l2 (k2+1)->LD h' s.heap.objs.size x y->(∀c o,c≠z->c≠i1->c≠i2->s.heap.get? c=some o->h'.get? c=some o)->Q (.ref s.heap.objs.size) {s with heap:=h' }):
  FX (F7 prog w) A (Builtin.«zip.__next__» ⟨[.ref z],[]⟩) (λfin s'=>∃v,fin=.done (.ret v)/\Q v s') E s:=by
 show FX _ _ (field (.ref z) 2 >>=_) _ _ _;refine Fi (Kj hz rfl (x:=.bool false) rfl ?_);show FX _ _ (field (.ref z) 3 >>=_) _ _ _;refine Fi (Kj hz rfl (x:=.ref TI) rfl (Fi (G6 S0 rfl ?_)));show FX _ _ (Builtin.SmallTypes.ownedTupleIsFree (.ref z) >>=_) _ _ _;refine Fi (gq hz hT λha za sa=>?_)
 simp only[Fz,if_false];refine Fi ?_;rw[<-Ie];show FX _ _ (QI [FW i1,FW i2] _ _) _ _ _;simp only[Jr,Ka];refine Fi (Fi (GS ?_));show FX _ _ (Builtin.SmallTypes.nextOf (.ref i1) >>=_) _ _ _;refine Fi (KG (h1.extBut sa.extBut D.i1z) (RC.extBut sa.extBut D.l1z) hx λhb b1 sb=>Fl ?_)
 dsimp only;refine Fl ?_;dsimp only;refine Fi (Fi (GS ?_));show FX _ _ (Builtin.SmallTypes.nextOf (.ref i2) >>=_) _ _ _;refine Fi (KG ((h2.extBut sa.extBut D.i2z).extBut sb.extBut D.i12.symm) ((Ri.extBut sa.extBut D.l2z).extBut sb.extBut D.l2i1) hy λhc c2 sc=>Fl ?_)
 dsimp only;refine Fl (Fl ?_);dsimp only;refine Fi (PM ?_ (by show 2<=sizeLine;rw[H_];lia))
 have hsz:hc.objs.size=s.heap.objs.size:=by rw[sc.1,sb.1,sa.1]
 have zc:iQ hc z TI TO T true:=sc.extBut _ _ D.i2z.symm (sb.extBut _ _ D.i1z.symm za);refine Fl ⟨_,rfl,?_⟩;show Q (.ref hc.objs.size) _;rw[hsz];refine hQ _ (Fo _ zc) (((b1.extBut sc.extBut D.i12)).at λo e=>Fo _ e) (c2.at λo e=>Fo _ e) ?_ λc o n1 n2 n3 e=>Fo _ (sc.extBut _ _ n3 (sb.extBut _ _ n2 (sa.extBut _ _ n1 e)))
 rw[<-hsz];exact FE _ rfl
theorem nG{z TI TO i1 i2 l1 l2 T:FI}{b:Bool}{oT:Obj}{k1:Nat}{xs:Array Fq}{Q:O_->Fp->Prop}(hh:A.handled=none)(D:Lb z TI TO i1 i2 l1 l2)
  (hz:iQ s.heap z TI TO T b) (hT:s.heap.get? T=some oT) (S0:LD s.heap TI (.ref i1) (.ref i2))
  (h1:s.heap.IsListIter i1 l1 k1) (RC:s.heap.IsList l1 xs) (hx:xs[k1]?=none)
  (hE:∀h' e,(∀c o,c≠z→c≠i1→c≠i2→s.heap.get? c=some o→h'.get? c=some o)→(∃o,h'.get? e=some o∧o.cls=.type "StopIteration")→E (.ref e) {s with heap:=h' }):
  FX (F7 prog w) A (Builtin.«zip.__next__» ⟨[.ref z],[]⟩) Q E s:=by
 show FX _ _ (field (.ref z) 2 >>=_) _ _ _;refine Fi (Kj hz rfl (x:=.bool false) rfl ?_);show FX _ _ (field (.ref z) 3 >>=_) _ _ _;refine Fi (Kj hz rfl (x:=.ref TI) rfl (Fi (G6 S0 rfl ?_)));show FX _ _ (Builtin.SmallTypes.ownedTupleIsFree (.ref z) >>=_) _ _ _;refine Fi (gq hz hT λha za sa=>?_)
 simp only[Fz,if_false];refine Fi ?_;rw[<-Ie];show FX _ _ (QI [FW i1,FW i2] _ _) _ _ _;simp only[Jr,Ka];refine Fi (Fi (GS ?_));show FX _ _ (Builtin.SmallTypes.nextOf (.ref i1) >>=_) _ _ _;refine Fi (Nc hh (h1.extBut sa.extBut D.i1z) (RC.extBut sa.extBut D.l1z) hx λhb e sb he=>?_)
 exact hE hb e (λc o n1 n2 n3 q=>sb _ _ n2 (sa.extBut _ _ n1 q)) he
theorem lF{z TI TO i1 i2 l1 l2 T:FI}{b:Bool}{oT:Obj}{k1 k2:Nat}{xs ys:Array Fq}{x:Fq}{Q:O_->Fp->Prop}(hh:A.handled=none)(D:Lb z TI TO i1 i2 l1 l2)
  (hz:iQ s.heap z TI TO T b) (hT:s.heap.get? T=some oT) (S0:LD s.heap TI (.ref i1) (.ref i2))
  (h1:s.heap.IsListIter i1 l1 k1) (h2:s.heap.IsListIter i2 l2 k2) (RC:s.heap.IsList l1 xs) (Ri:s.heap.IsList l2 ys) (hx:xs[k1]?=some x) (hy:ys[k2]?=none)
  (hE:∀h' e,(∀c o,c≠z→c≠i1→c≠i2→s.heap.get? c=some o→h'.get? c=some o)→(∃o,h'.get? e=some o∧o.cls=.type "StopIteration")→E (.ref e) {s with heap:=h' }):
  FX (F7 prog w) A (Builtin.«zip.__next__» ⟨[.ref z],[]⟩) Q E s:=by
 show FX _ _ (field (.ref z) 2 >>=_) _ _ _;refine Fi (Kj hz rfl (x:=.bool false) rfl ?_);show FX _ _ (field (.ref z) 3 >>=_) _ _ _;refine Fi (Kj hz rfl (x:=.ref TI) rfl (Fi (G6 S0 rfl ?_)));show FX _ _ (Builtin.SmallTypes.ownedTupleIsFree (.ref z) >>=_) _ _ _;refine Fi (gq hz hT λha za sa=>?_)
 simp only[Fz,if_false];refine Fi ?_;rw[<-Ie];show FX _ _ (QI [FW i1,FW i2] _ _) _ _ _;simp only[Jr,Ka];refine Fi (Fi (GS ?_));show FX _ _ (Builtin.SmallTypes.nextOf (.ref i1) >>=_) _ _ _;refine Fi (KG (h1.extBut sa.extBut D.i1z) (RC.extBut sa.extBut D.l1z) hx λhb b1 sb=>Fl ?_)
 dsimp only;refine Fl ?_;dsimp only;refine Fi (Fi (GS ?_));show FX _ _ (Builtin.SmallTypes.nextOf (.ref i2) >>=_) _ _ _;refine Fi (Nc hh ((h2.extBut sa.extBut D.i2z).extBut sb.extBut D.i12.symm) ((Ri.extBut sa.extBut D.l2z).extBut sb.extBut D.l2i1) hy λhc e sc he=>?_)
 exact hE hc e (λc o n1 n2 n3 q=>sc _ _ n3 (sb.extBut _ _ n2 (sa.extBut _ _ n1 q))) he
theorem vT{z TI TO i1 i2 l1 l2 T:FI}{b:Bool}{oT:Obj}{k1 k2:Nat}{xs ys:Array Fq}{x y:Fq}{Q:Option Fq->Fp->Prop}(D:Lb z TI TO i1 i2 l1 l2)
  (hz:iQ s.heap z TI TO T b) (hT:s.heap.get? T=some oT) (S0:LD s.heap TI (.ref i1) (.ref i2))
  (h1:s.heap.IsListIter i1 l1 k1) (h2:s.heap.IsListIter i2 l2 k2) (RC:s.heap.IsList l1 xs) (Ri:s.heap.IsList l2 ys) (hx:xs[k1]?=some x) (hy:ys[k2]?=some y)
  (hQ:∀h',iQ h' z TI TO T true->h'.IsListIter i1 l1 (k1+1)->h'.IsListIter i2 l2 (k2+1)->LD h' s.heap.objs.size x y->(∀c o,c≠z->c≠i1->c≠i2->s.heap.get? c=some o->h'.get? c=some o)->Q (some (.ref s.heap.objs.size)) {s with heap:=h' }):
  FX (F7 prog w) A (JG (.ref z)) Q E s:=by
 have Te:s.TypeIs (.ref z) "zip":=⟨_,hz,rfl⟩;unfold JG
 exact Fi (JV (Ii (name:=Str.ofString "__next__") Te HR
  (GJ HR Te KH (yK D hz hT S0 h1 h2 RC Ri hx hy λh' a1 a2 a3 a4 a5=>Fl (hQ h' a1 a2 a3 a4 a5)) (KA _))))
theorem lN{z TI TO i1 i2 l1 l2 T:FI}{b:Bool}{oT:Obj}{k1:Nat}{xs:Array Fq}{Q:Option Fq->Fp->Prop}(hh:A.handled=none)(D:Lb z TI TO i1 i2 l1 l2)
  (hz:iQ s.heap z TI TO T b) (hT:s.heap.get? T=some oT) (S0:LD s.heap TI (.ref i1) (.ref i2)) (h1:s.heap.IsListIter i1 l1 k1) (RC:s.heap.IsList l1 xs) (hx:xs[k1]?=none)
  (hQ:∀h',(∀c o,c≠z->c≠i1->c≠i2->s.heap.get? c=some o->h'.get? c=some o)->Q none {s with heap:=h' }):FX (F7 prog w) A (JG (.ref z)) Q E s:=by
 have Te:s.TypeIs (.ref z) "zip":=⟨_,hz,rfl⟩;unfold JG
 refine Fi (JV (Ii (name:=Str.ofString "__next__") Te HR
  (GJ HR Te KH (nG hh D hz hT S0 h1 RC hx λh' e hk he=>?_) (KA _))))
 obtain⟨o,ho,hc⟩:=he;refine Fi (Hb (T:="StopIteration") (b:=true) ⟨o,ho,hc⟩ LZ ?_);exact Fl (hQ h' hk)
theorem k8{z TI TO i1 i2 l1 l2 T:FI}{b:Bool}{oT:Obj}{k1 k2:Nat}{xs ys:Array Fq}{x:Fq}{Q:Option Fq->Fp->Prop}(hh:A.handled=none)(D:Lb z TI TO i1 i2 l1 l2)
  (hz:iQ s.heap z TI TO T b) (hT:s.heap.get? T=some oT) (S0:LD s.heap TI (.ref i1) (.ref i2)) (h1:s.heap.IsListIter i1 l1 k1) (h2:s.heap.IsListIter i2 l2 k2) (RC:s.heap.IsList l1 xs) (Ri:s.heap.IsList l2 ys) (hx:xs[k1]?=some x) (hy:ys[k2]?=none)
  (hQ:∀h',(∀c o,c≠z->c≠i1->c≠i2->s.heap.get? c=some o->h'.get? c=some o)->Q none {s with heap:=h' }):FX (F7 prog w) A (JG (.ref z)) Q E s:=by
 have Te:s.TypeIs (.ref z) "zip":=⟨_,hz,rfl⟩;unfold JG
 refine Fi (JV (Ii (name:=Str.ofString "__next__") Te HR
  (GJ HR Te KH (lF hh D hz hT S0 h1 h2 RC Ri hx hy λh' e hk he=>?_) (KA _))))
 obtain⟨o,ho,hc⟩:=he;refine Fi (Hb (T:="StopIteration") (b:=true) ⟨o,ho,hc⟩ LZ ?_);exact Fl (hQ h' hk)
end
structure ZL(xs ys:Array Fq)(z TI TO i1 i2 l1 l2 S:FI)(h:HF)(i:Nat)(ad:List FI)(c:Nat):Prop where
 ti:LD h TI (.ref i1) (.ref i2)
 a1:h.IsListIter i1 l1 i
 a2:h.IsListIter i2 l2 i
 b1:h.IsList l1 xs
 b2:h.IsList l2 ys
 acc:h.get? S=some {cls:=.type "list",dict:=none,data:=.seq (ad.map FW).toArray c,slots:=#[] }
 len:ad.length=i
 tup:∀(j:Nat) (a:FI),ad[j]?=some a->∃x y,xs[j]?=some x/\ys[j]?=some y/\LD h a x y
 far:∀a∈ad,a≠z/\a≠TO/\a≠i1/\a≠i2/\a≠S
 to:∃o,h.get? TO=some o
 nd:ad.Nodup
 zz:(i=0/\IsZip h z TI TO .none/\∃a b,LD h TO a b)\/(∃b T,ad[0]?=some T/\iQ h z TI TO T b)
variable {R:Ow→Fp→Prop}
section
variable {w:Gj}{A:Gs}
theorem ZL.put{xs ys:Array Fq}{z TI TO i1 i2 l1 l2 S:FI}{h h':HF}{i:Nat}{ad:List FI}{c:Nat}{a:FI}{x y:Fq}(Z:ZL xs ys z TI TO i1 i2 l1 l2 S h i ad c)(D:Lb z TI TO i1 i2 l1 l2)
  (hS:S≠z/\S≠TI/\S≠TO/\S≠i1/\S≠i2/\S≠l1/\S≠l2) (ha:a=h.objs.size) (hzlt:z<h.objs.size) (nto:∃o,h'.get? TO=some o) (hx:xs[i]?=some x) (hy:ys[i]?=some y)
  (n1:h'.IsListIter i1 l1 (i+1)) (n2:h'.IsListIter i2 l2 (i+1)) (np:LD h' a x y) (nk:∀c o,c≠z->c≠TO->c≠i1->c≠i2->h.get? c=some o->h'.get? c=some o)
  (nz:∃b T,(ad++[a])[0]?=some T/\iQ h' z TI TO T b):
  ∃c',ZL xs ys z TI TO i1 i2 l1 l2 S (h'.update S (GR (·.push (.ref a)))) (i+1) (ad++[a]) c':=by
 obtain⟨s1,s2,s3,s4,s5,s6,s7⟩:=hS;have gS:h'.get? S=some {cls:=.type "list",dict:=none,data:=.seq (ad.map FW).toArray c,slots:=#[] }:=nk S _ s1 s3 s4 s5 Z.acc;have Ru:∀b o,b≠S->h'.get? b=some o->(h'.update S (GR (·.push (.ref a)))).get? b=some o:=λb o hb e=>(F3 _ _ (Ne.symm hb)).trans e
 have Q4:∀b o,h.get? b=some o->b≠a:=λb o e z=>by rw[z,ha]at e;exact Gh _ (FC e)
 have aS:a≠S:=λe=>Q4 S _ Z.acc e.symm
 have ai1:a≠i1:=by obtain⟨o,e,_⟩:=Z.a1;exact λq=>Q4 i1 o e q.symm
 have ai2:a≠i2:=by obtain⟨o,e,_⟩:=Z.a2;exact λq=>Q4 i2 o e q.symm
 have az:a≠z:=by rw[ha];exact Lc hzlt
 have aTO:a≠TO:=by obtain⟨o,e⟩:=Z.to;exact λq=>Q4 TO o e q.symm
 obtain⟨c',gS'⟩:∃c',(h'.update S (GR (·.push (.ref a)))).get? S=some {cls:=.type "list",dict:=none,data:=.seq ((ad.map FW).toArray.push (.ref a)) c',slots:=#[] }:=⟨_,PyProof.Rows.get?_update_seq gS (·.push (.ref a))⟩;refine⟨c',⟨Ru _ _ s2.symm (nk TI _ D.TIz D.TITO D.TIi1 D.TIi2 Z.ti),n1.at λo e=>Ru _ o s4.symm e,n2.at λo e=>Ru _ o s5.symm e,?_,?_,?_,by rw[FT,Z.len];rfl,?_,?_,?_,?_,?_⟩⟩
 ·exact (Z.b1.at λo e=>nk l1 o D.l1z D.l1TO D.l1i1 D.l1i2 e).at λo e=>Ru _ o s6.symm e
 ·exact (Z.b2.at λo e=>nk l2 o D.l2z D.l2TO D.l2i1 D.l2i2 e).at λo e=>Ru _ o s7.symm e
 ·rw[gS'];simp
 ·intro j b hj;rcases G7 j ad.length with q |q
  ·rw[FR q]at hj;obtain⟨x',y',e1,e2,e3⟩:=Z.tup j b hj;obtain⟨f1,f2,f3,f4,f5⟩:=Z.far b (FD hj);exact⟨x',y',e1,e2,Ru _ _ f5 (nk b _ f1 f2 f3 f4 e3)⟩
  ·rw[FS q]at hj
   have hj0:j=i:=by
    have:=(FA.mp hj).1;simp at this;rw[Z.len]at *;lia
   subst hj0;rw[Z.len,Oy]at hj;cases hj;exact⟨x,y,hx,hy,Ru _ _ aS np⟩
 ·intro b hb;rcases FB.mp hb with q |q
  ·exact Z.far b q
  ·rw[Fy.mp q];exact⟨az,aTO,ai1,ai2,aS⟩
 ·obtain⟨o,e⟩:=nto;exact⟨o,Ru _ _ s3.symm e⟩
 ·rw[Gm];refine⟨Z.nd,by simp,λp hp q hq=>?_⟩
  rw[Fy.mp hq];obtain⟨j,hj⟩:=GZ.mp hp;obtain⟨_,_,_,_,e⟩:=Z.tup j p hj;exact Q4 p _ e
 ·obtain⟨b,T,e1,e2⟩:=nz;exact .inr ⟨b,T,e1,Ru _ _ s1.symm e2⟩
structure ZF(xs ys:Array Fq)(S:FI)(h:HF)(ad:List FI)(c:Nat):Prop where
 acc:h.get? S=some {cls:=.type "list",dict:=none,data:=.seq (ad.map FW).toArray c,slots:=#[] }
 len:ad.length=ys.size
 tup:∀(j:Nat) (a:FI),ad[j]?=some a->∃x y,xs[j]?=some x/\ys[j]?=some y/\LD h a x y
 ne:∀a∈ad,a≠S
 nd:ad.Nodup
theorem oF(hh:A.in1.handled=none){xs ys:Array Fq}{z TI TO i1 i2 l1 l2 S:FI}(D:Lb z TI TO i1 i2 l1 l2)(hS:S≠z/\S≠TI/\S≠TO/\S≠i1/\S≠i2/\S≠l1/\S≠l2)(T7:ys.size<=xs.size)(hn:xs.size<=1000)(res:Fq):
  ∀(k i:Nat) (s:Fp) (ad:List FI) (c:Nat),ys.size-i=k->i<=ys.size->ZL xs ys z TI TO i1 i2 l1 l2 S s.heap i ad c->
   (∀h' Si c',ZF xs ys S h' Si c'->(∀b o,b≠z->b≠TO->b≠i1->b≠i2->b≠S->s.heap.get? b=some o->h'.get? b=some o)->(∀a∈Si,a∈ad\/s.heap.get? a=none)->R (.ok (.ret res)) {s with heap:=h' })->
   J6 (F7 prog w) A (.builtin "list.extend.loop" ⟨[.ref S,.ref z,res],[]⟩) R s:=by
 intro k
 induction k with
 |zero=>
  intro i s ad c hk hi Z hR;obtain rfl:i=ys.size:=by lia
  refine Ho L0 ?_;rw[GX Hg _];show FX _ A.in1 (JG (.ref z) >>=_) _ _ s
  have fin:∀h',(∀b o,b≠z->b≠TO->b≠i1->b≠i2->s.heap.get? b=some o->h'.get? b=some o)->R (.ok (.ret res)) {s with heap:=h' }:=λh' kp=>
   hR h' ad c ⟨kp S _ hS.1 hS.2.2.1 hS.2.2.2.1 hS.2.2.2.2.1 Z.acc,Z.len,λj a e=>by
    obtain⟨x,y,e1,e2,e3⟩:=Z.tup j a e;obtain⟨f1,f2,f3,f4,f5⟩:=Z.far a (FD e);exact⟨x,y,e1,e2,kp a _ f1 f2 f3 f4 e3⟩,λa ha=>(Z.far a ha).2.2.2.2,Z.nd⟩ (λb o n1 n2 n3 n4 _ e=>kp b o n1 n2 n3 n4 e) λa ha=>.inl ha
  rcases Z.zz with ⟨h0,hz,a,b,hTO⟩ |⟨b,T,hT,hz⟩
  ·refine Fi (wpAny_pyNext_zip_end hh D hz Z.ti hTO Z.a1 Z.a2 Z.b1 Z.b2 (.inr (by simp)) λh' kp=>?_)
   exact Fl (fin h' kp)
  ·obtain⟨x,y,_,_,hp⟩:=Z.tup 0 T hT;by_cases hq:ys.size<xs.size
   ·refine Fi (k8 hh D hz hp Z.ti Z.a1 Z.a2 Z.b1 Z.b2 (Gf hq) (by simp) λh' kp=>?_)
    exact Fl (fin h' λb o n1 _ n3 n4 e=>kp b o n1 n3 n4 e)
   ·refine Fi (lN hh D hz hp Z.ti Z.a1 Z.b1 (MQ (by lia)) λh' kp=>?_)
    exact Fl (fin h' λb o n1 _ n3 n4 e=>kp b o n1 n3 n4 e)
 |succ k ih=>
  intro i s ad c hk hi Z hR;have Q4:i<xs.size:=by lia
  have hly:i+1<=ys.size:=by lia
  have hx:xs[i]?=some xs[i]:=Gf Q4;have hy:ys[i]?=some (ys[i]'(by lia)):=Gf (by lia)
  refine Ho L0 ?_;rw[GX Hg _];show FX _ A.in1 (JG (.ref z) >>=_) _ _ s
  have go:∀h',(∃b T,(ad++[s.heap.objs.size])[0]?=some T/\iQ h' z TI TO T b)->(∃o,h'.get? TO=some o)->h'.IsListIter i1 l1 (i+1)->h'.IsListIter i2 l2 (i+1)->LD h' s.heap.objs.size xs[i] (ys[i]'(by lia))->
    (∀b o,b≠z->b≠TO->b≠i1->b≠i2->s.heap.get? b=some o->h'.get? b=some o)->
    FX (F7 prog w) A.in1 (J_ S (·.push (.ref s.heap.objs.size)) >>=λ_=>again (.builtin "list.extend.loop" ⟨[.ref S,.ref z,res],[]⟩))
     (λfin s'=>match fin with | .done f=>R (.ok f) s' | .again c'=>c'.quiet=true/\J6 (F7 prog w) A c' R s') (λe s'=>R (.error e) s') {s with heap:=h' }:=λh' nz nto n1 n2 np nk=>by
   have gS:h'.get? S=some {cls:=.type "list",dict:=none,data:=.seq (ad.map FW).toArray c,slots:=#[] }:=nk S _ hS.1 hS.2.2.1 hS.2.2.2.1 hS.2.2.2.2.1 Z.acc
   have hzlt:z<s.heap.objs.size:=by
    rcases Z.zz with ⟨_,hz,_⟩ |⟨_,_,_,hz⟩ <;>exact FC hz
   obtain⟨c',Z'⟩:=Z.put D hS rfl hzlt nto hx hy n1 n2 np nk nz;have RX:((ad.map FW).toArray).size=i:=by simp[Z.len]
   refine Fi (Hc (s:={s with heap:=h' }) gS rfl (Fl ⟨Hl Hg _,ih (i+1) _ (ad++[s.heap.objs.size]) c' (by lia) hly Z' λh2 ad2 c2 F kp fr=>?_⟩) (by rw[RX,H_];lia) (by rw[Array.size_push,RX,H_];lia))
   refine hR h2 ad2 c2 F (λb o m1 m2 m3 m4 m5 e=>kp b o m1 m2 m3 m4 m5 ((F3 _ _ (Ne.symm m5)).trans (nk b o m1 m2 m3 m4 e))) λa ha=>?_
   rcases fr a ha with q |q
   ·rcases FB.mp q with q |q
    ·exact .inl q
    ·right;rw[Fy.mp q];exact Ls (Fu _)
   ·right
    cases hq:s.heap.get? a with
    |none=>rfl
    |some o=>
     exfalso
     by_cases e1:a=S
     ·subst e1;exact F.ne a ha rfl
     ·have q':h'.get? a=none:=by
       have:=q;rw[F3 _ _ (Ne.symm e1)]at this;exact this
      by_cases f1:a=z
      ·obtain⟨_,_,_,e⟩:=nz;rw[f1,e]at q';cases q'
      ·by_cases f2:a=TO
       ·obtain⟨o',e⟩:=nto;rw[f2,e]at q';cases q'
       ·by_cases f3:a=i1
        ·obtain⟨o',e,_⟩:=n1;rw[f3,e]at q';cases q'
        ·by_cases f4:a=i2
         ·obtain⟨o',e,_⟩:=n2;rw[f4,e]at q';cases q'
         ·rw[nk a o f1 f2 f3 f4 hq]at q';cases q'
  rcases Z.zz with ⟨h0,hz,a,b,hTO⟩ |⟨b,T,hT,hz⟩
  ·subst h0;have had:ad=[]:=G8.mp Z.len;refine Fi (wpAny_pyNext_zip_item D hz Z.ti hTO Z.a1 Z.a2 Z.b1 Z.b2 hx hy λh' m1 m2 m3 m4 m5 _ kp=>?_)
   exact go h' ⟨false,_,by rw[had];rfl,m1⟩ ⟨_,m2⟩ m3 m4 m5 kp
  ·obtain⟨x,y,_,_,hp⟩:=Z.tup 0 T hT;refine Fi (vT D hz hp Z.ti Z.a1 Z.a2 Z.b1 Z.b2 hx hy λh' m1 m3 m4 m5 kp=>?_)
   refine go h' ⟨true,T,?_,m1⟩ ?_ m3 m4 m5 λb o n1 _ n3 n4 e=>kp b o n1 n3 n4 e
   ·rw[FR (FA.mp hT).1];exact hT
   ·obtain⟨o,e⟩:=Z.to;exact⟨o,kp TO o D.TOz D.TOi1 D.TOi2 e⟩
end
theorem Ac:Oh (.type "zip") "__len__"=pure none:=by rw[JL,IE];kernel_rfl
theorem w_:Oh (.type "zip") "__length_hint__"=pure none:=by rw[JL,IE];kernel_rfl
theorem wx(prog:FK)(w:Gj):xJ prog w "zip":=λA E s r Q hT h=>by
 unfold Builtin.List.listLengthHint;refine Fi (Ig hT Ac ?_);show FX _ A (specialOf (FW r) (Str.ofString "__length_hint__") >>=_) _ _ _;refine Fi (Ig hT w_ ?_);exact Fl (h _)
section
variable {w:Gj}{A:Gs}{s:Fp}
theorem zF{z TI TO:FI}{f:Fq}{Q:Fq->Fp->Prop}(hz:IsZip s.heap z TI TO f)(h:Q (.ref z) s):FX (F7 prog w) A (NS (.ref z)) Q E s:=by
 have hT:s.TypeIs (.ref z) "zip":=⟨_,hz,rfl⟩;refine KZ hT Nd (GJ Nd hT PySem.F.entry_zip_iter ?_ (PySem.F.args_zip_iter_1 _));exact Fl ⟨_,rfl,"zip",_,hT,HR.lookup,h⟩
theorem rP(hh:A.in1.handled=none){xs ys:Array Fq}{z TI TO i1 i2 l1 l2 S:FI}(D:Lb z TI TO i1 i2 l1 l2)(hS:S≠z/\S≠TI/\S≠TO/\S≠i1/\S≠i2/\S≠l1/\S≠l2)(T7:ys.size<=xs.size)(hn:xs.size<=1000)(res:Fq){c₀:Nat}
  (hz:IsZip s.heap z TI TO .none) (Z:∀h',(∀b o,b≠S→s.heap.get? b=some o→h'.get? b=some o)→∀c,h'.get? S=some {cls:=.type "list",dict:=none,data:=.seq #[] c,slots:=#[] }→ZL xs ys z TI TO i1 i2 l1 l2 S h' 0 [] c)
  (gS:s.heap.get? S=some {cls:=.type "list",data:=.seq #[] c₀ })
  (hR:∀h' Si c',ZF xs ys S h' Si c'->(∀b o,b≠z->b≠TO->b≠i1->b≠i2->b≠S->s.heap.get? b=some o->h'.get? b=some o)->(∀a∈Si,s.heap.get? a=none)->R (.ok (.ret res)) {s with heap:=h' }):
  FX (F7 prog w) A.in1 (Builtin.List.listExtendWith (.ref S) (.ref z) res)
   (λfin s'=>match fin with | .done f=>R (.ok f) s' | .again c'=>c'.quiet=true/\J6 (F7 prog w) A c' R s') (λe s'=>R (.error e) s') s:=by
 have hT:s.TypeIs (.ref z) "zip":=⟨_,hz,rfl⟩;unfold Builtin.List.listExtendWith;refine Fi (M7 hT ?_);have k1:Builtin.List.listSameRef (.ref S) (.ref z)=false:=by simp[Builtin.List.listSameRef,hS.1]
 have k2:(Hd "zip"==Hd "list")=false:=by decide
 have k3:(Hd "zip"==Hd "tuple")=false:=by decide
 simp only[k1,k2,k3,Qs,Fz,if_false];refine Fi (zF hz (Fi (GS (wx prog w _ _ _ _ _ hT λb=>?_))))
 refine Js (λ_=>?_) (λ_=>?_)
 ·refine Fi (Jb (Fi ?_));show FX _ A.in1 (J_ S (·.push .none) >>=λ_=>J_ S (·.pop)) _ _ _
  refine Fi (Hc gS rfl ?_);have g2:=Gk (GR (·.push F4)) gS rfl;refine Hc (hz:=by seq_fits) g2 rfl ?_
  have g3:=Gk (GR (·.pop)) g2 rfl;have Ru:∀b o,b≠S->s.heap.get? b=some o->((s.heap.update S (GR (·.push F4))).update S (GR (·.pop))).get? b=some o:=λb o hb e=>(F3 _ _ (Ne.symm hb)).trans ((F3 _ _ (Ne.symm hb)).trans e)
  refine Fl ⟨Hl Hg _,oF (s:={s with heap:=(s.heap.update S (GR (·.push F4))).update S (GR (·.pop)) }) hh D hS T7 hn res _ 0 [] _ rfl (GN _) (Z _ Ru _ g3) λh' Si c' F kp fr=>?_⟩
  refine hR h' Si c' F (λb o m1 m2 m3 m4 m5 e=>kp b o m1 m2 m3 m4 m5 (Ru b o m5 e)) λa ha=>?_
  rcases fr a ha with q |q
  ·simp at q
  ·cases hq:s.heap.get? a with
   |none=>rfl
   |some o=>
    have e:=Ru a o (F.ne a ha) hq;rw[e]at q;cases q
 ·refine Fl ⟨Hl Hg _,oF hh D hS T7 hn res _ 0 _ [] _ rfl (GN _) (Z _ (λ_ _ _ e=>e) _ gS) λh' Si c' F kp fr=>?_⟩
  exact hR h' Si c' F kp λa ha=>(fr a ha).resolve_left (by simp)
theorem call_list_zip{Q:Fq->Fp->Prop}(hh:A.handled=none){xs ys:Array Fq}{z TI TO i1 i2 l1 l2:FI}(D:Lb z TI TO i1 i2 l1 l2)(T7:ys.size<=xs.size)(hn:xs.size<=1000)
  (hz:IsZip s.heap z TI TO .none) (S0:LD s.heap TI (.ref i1) (.ref i2)) {a b:Fq} (hTO:LD s.heap TO a b) (h1:s.heap.IsListIter i1 l1 0) (h2:s.heap.IsListIter i2 l2 0) (RC:s.heap.IsList l1 xs) (Ri:s.heap.IsList l2 ys)
  (hQ:∀h' Si c',ZF xs ys s.heap.objs.size h' Si c'->(∀b o,b≠z->b≠TO->b≠i1->b≠i2->s.heap.get? b=some o->h'.get? b=some o)->(∀a∈Si,s.heap.get? a=none)->Q (.ref s.heap.objs.size) {s with heap:=h' }):
  FX (F7 prog w) A (call (.type "list") [.ref z]) Q E s:=by
 refine PL (Q₁:=λobj Q2=>obj=.ref s.heap.objs.size∧Q2={s with heap:=s.heap.push {cls:=.type "list",data:=.seq #[] } }) NK (Ms _) Mt (code_list_new _ ⟨rfl,rfl⟩) λobj Q2 h₁=>?_
 obtain⟨rfl,rfl⟩:=h₁;generalize hSd:s.heap.objs.size=S at *;have lt:∀c o,s.heap.get? c=some o->S≠c:=λc o e q=>by rw[<-q,<-hSd]at e;exact Gh _ (FC e)
 have gS:(s.heap.push {cls:=.type "list",data:=.seq #[] }).get? S=some {cls:=.type "list",data:=.seq #[] }:=by rw[←hSd];exact FE _ rfl
 have up:∀b o,s.heap.get? b=some o→(s.heap.push {cls:=.type "list",data:=.seq #[] }).get? b=some o:=λb o e=>Fo _ e
 have hS:S≠z/\S≠TI/\S≠TO/\S≠i1/\S≠i2/\S≠l1/\S≠l2:=⟨lt _ _ hz,lt _ _ S0,lt _ _ hTO,by obtain⟨o,e,_⟩:=h1;exact lt _ _ e,by obtain⟨o,e,_⟩:=h2;exact lt _ _ e,by obtain⟨o,e,_⟩:=RC;exact lt _ _ e,by obtain⟨o,e,_⟩:=Ri;exact lt _ _ e⟩
 refine⟨⟨_,gS,rfl⟩,Mf _ _,?_⟩;show FX _ A.in1.in1 (Builtin.List.listItems (.ref S) >>=λold=>Builtin.List.listUpdate (.ref S) (λ_=>#[]) >>=λ_=>letGo old.toList.reverse >>=λ_=>Builtin.List.listExtendWith (.ref S) (.ref z) .none) _ _ _
 refine Fi ?_;unfold Builtin.List.listItems;refine Fi (G6 gS rfl (Fl ?_));show FX _ A.in1.in1 (J_ S (λ_=>#[]) >>=λ_=>letGo (#[]:Array Fq).toList.reverse >>=λ_=>Builtin.List.listExtendWith (.ref S) (.ref z) .none) _ _ _
 refine Fi (Hc gS rfl ?_);have g2:=Gk (GR (λ_=>(#[]:Array Fq))) gS rfl
 have Ru:∀b o,b≠S→s.heap.get? b=some o→((s.heap.push {cls:=.type "list",data:=.seq #[] }).update S (GR (λ_=>(#[]:Array Fq)))).get? b=some o:=λb o hb e=>(F3 _ _ (Ne.symm hb)).trans (up b o e)
 refine Fi (Jw ?_);refine rP (A:=A.in1) (s:={s with heap:=(s.heap.push {cls:=.type "list",data:=.seq #[] }).update S (GR (λ_=>(#[]:Array Fq))) }) hh D hS T7 hn .none (Ru _ _ hS.1.symm hz) (λh' kp c e=>?_) g2 λh' Si c' F kp fr=>?_
 ·have k:∀b o,b≠S->s.heap.get? b=some o->h'.get? b=some o:=λb o hb e=>kp b o hb (Ru b o hb e)
  exact⟨k _ _ hS.2.1.symm S0,h1.at λo e=>k _ o hS.2.2.2.1.symm e,h2.at λo e=>k _ o hS.2.2.2.2.1.symm e,RC.at λo e=>k _ o hS.2.2.2.2.2.1.symm e,Ri.at λo e=>k _ o hS.2.2.2.2.2.2.symm e,e,rfl,λj a e=>by simp at e,λa ha=>by simp at ha,⟨_,k _ _ hS.2.2.1.symm hTO⟩,NH,.inl ⟨rfl,k _ _ hS.1.symm hz,a,b,k _ _ hS.2.2.1.symm hTO⟩⟩
 ·refine⟨rfl,hQ h' Si c' F (λb o m1 m2 m3 m4 e=>kp b o m1 m2 m3 m4 (λq=>lt b o e q.symm) (Ru b o (λq=>lt b o e q.symm) e)) λa ha=>?_⟩
  cases hq:s.heap.get? a with
  |none=>rfl
  |some o=>
   have e:=Ru a o (F.ne a ha) hq;have q:=fr a ha;rw[show ({s with heap:=(s.heap.push {cls:=.type "list",data:=.seq #[] }).update S (GR (λ_=>(#[]:Array Fq))) }:Fp).heap.get? a=some o from e]at q
   cases q
end
end ST
namespace L2
open PySem PySem.Spec PyProof.Rows
theorem xY{a b:Nat}(h:a<b\/b<a):@Ne FI a b:=λe=>by
 have e':a=b:=e;lia
theorem yG:HL "zip"=some (.type "zip"):=by decide+kernel
section
variable {P:FK}{w:Gj}{H:Hp}{h:HF}{a:FI}{o:HO}
theorem hV(x:bS P w H h a o):∃ob,h.get? a=some ob:=by
 cases o with
 |lst xs=>obtain⟨_,_,_,_,e⟩:=x;exact⟨_,e⟩
 |tup xs=>obtain⟨_,_,_,ob,e,_⟩:=x;exact⟨_,e⟩
 |dK QZ=>obtain⟨_,_,_,_,o,_,_,e,_⟩:=x;exact⟨_,e⟩
 |dT QZ=>obtain⟨_,_,_,_,o,_,_,e,_⟩:=x;exact⟨_,e⟩
 |set S n=>obtain⟨o,_,_,_,e,_⟩:=x;exact⟨_,e⟩
 |ins C dx fs=>obtain⟨_,_,_,e,_⟩:=x;exact⟨_,e⟩
 |own y=>exact x
 |xd fs=>obtain⟨_,⟨_,_,_,e,_⟩,_⟩:=x;exact⟨_,e⟩
 |rng lo hi=>obtain⟨_,_,_,e⟩:=x;exact⟨_,e⟩
 |frz ob u=>obtain⟨e,_⟩:=x;exact⟨_,e⟩
 |tbl ps=>exact⟨_,(show h.get? a=some _ from x)⟩
 |met f y=>exact⟨_,(show h.get? a=some _ from x)⟩
 |ext φ=>exact x.2.1
end
theorem As{X:Cx}{pins:List (FI×Obj)}{σ:List (Option V)}{H H':Hp}{s:Fp}{h':HF}{t':Nat}(I:Inv X pins σ H s)(k:∀b u,s.heap.get? b=some u->h'.get? b=some u)
  (old:∀b u,s.heap.get? b=some u->H' b=H b) (new:∀b o,s.heap.get? b=none->H' b=some o->bS X.prog X.w H' h' b o):Inv X pins σ H' {s with heap:=h',toks:=t' }:=by
 have at':∀b o,H b=some o->H' b=some o:=λb o e=>let ⟨ob,q⟩:=hV (I.hok b o e);(old b ob q).trans e
 refine I.un ⟨λb u q _ _ _=>k b u q,λb u q _ _ _=>⟨u.slots,k b u q⟩,λb u q n _=>(old b u q).trans n,λb u q _=>⟨u,k b u q⟩,λb xs q=>at' b _ q,λb u xs q=>at' b _ q,λb ps q=>⟨#[],by rw[at' b _ q];simp⟩⟩ λb u e=>?_
 cases hb:s.heap.get? b with
 |some ob=>
  rw[old b ob hb]at e;exact (I.hok b u e).stay (λc v _ q=>k c v q) (λc q=>at' c _ q) λc xs q=>at' c _ q
 |none=>exact new b u hb e
noncomputable def lm(H:Hp):List FI->List (List V)->Hp
 |[],_=>H
 |a::as,ps=>match ps with
  |[]=>H
  |p::ps=>upd (lm H as ps) a (.tup p)
theorem oU{H:Hp}:∀{as:List FI}{ps:List (List V)}{b:FI},b ∉ as->lm H as ps b=H b
 |[],_,_,_=>rfl
 |a::as,[],_,_=>rfl
 |a::as,p::ps,b,h=>by
  show upd (lm H as ps) a (.tup p) b=H b;rw[ba λz=>h (by rw[z];exact Fv)]
  exact oU λz=>h (Fn _ z)
theorem sK{H:Hp}:∀{as:List FI}{ps:List (List V)}{j:Nat}{a:FI}{p:List V},as.Nodup->as[j]?=some a->ps[j]?=some p->lm H as ps a=some (.tup p)
 |[],_,j,_,_,_,e,_=>by simp at e
 |_::_,[],j,_,_,_,_,e=>by simp at e
 |b::as,q::ps,0,a,p,_,e1,e2=>by
  simp at e1 e2;subst e1;subst e2;exact aO
 |b::as,q::ps,j+1,a,p,nd,e1,e2=>by
  show upd (lm H as ps) b (.tup q) a=_;rw[Kx]at e1 e2;have nd':=HG.mp nd;rw[ba λz=>nd'.1 (by rw[<-z];exact FD e1)]
  exact sK nd'.2 e1 e2
theorem pW{H:Hp}:∀{as:List FI}{ps:List (List V)}{b:FI}{o:HO},lm H as ps b=some o->H b=some o\/∃(j:Nat) (p:List V),as[j]?=some b/\ps[j]?=some p/\o=.tup p
 |[],_,_,_,e=>.inl e
 |_::_,[],_,_,e=>.inl e
 |a::as,p::ps,b,o,e=>by
  have e':upd (lm H as ps) a (.tup p) b=some o:=e;by_cases hb:b=a
  ·subst hb;rw[aO]at e';cases e';exact .inr ⟨0,p,rfl,rfl,rfl⟩
  ·rw[ba hb]at e';rcases pW e' with z |⟨j,q,e1,e2,e3⟩
   ·exact .inl z
   ·exact .inr ⟨j+1,q,by simpa using e1,by simpa using e2,e3⟩
theorem mS:∀(ad:List FI),aT (ad.map V.ref) (ad.map FW)
 |[]=>.nil
 |_::ad=>.cons rfl (mS ad)
section
variable {X:Cx}{H0:Hp}{O0:List FI}{ps:PSt}{e f:Expr}{x y:U}{xs ys:List U}{pos Rf p p':Pos}
theorem j6(hc:X.calm=true)(hg:Gl X "list")(hm:X.mg "list"=none)(hgz:Gl X "zip")(hmz:X.mg "zip"=none)(ha:Ev X H0 O0 ps e x)(hx:x=.lst xs∨x=.scr xs)(hb:Ev X H0 O0 ps f y)(hy:y=.lst ys∨y=.scr ys)(hl:ys.length≤xs.length)(hn:xs.length≤1000)
  (he:FH [e,f] X.env=(false,JQ e X.env)::FH [f] X.env:=by rfl) (hf:FH [f] X.env=(false,JQ f X.env)::FH [] X.env:=by rfl):
  EvN X H0 O0 ps (.Call (.Name "list" p) [.Call (.Name "zip" p') [e,f] [] Rf] [] pos) (LS (λa b=>U.tup [a,b]) xs ys):=by
 rintro pins s σ H Q I ⟨O,R,q⟩;have hh:X.A.handled=none:=I.ok.hd hc;refine Hk (df I hg hm N6 ?_);refine callWith_type1 (e:=.Call (.Name "zip" p') [e,f] [] Rf) (rest:=[]) ?_ de rfl;rw[de];show FX _ _ (Qk ((false,JQ (.Call (.Name "zip" p') [e,f] [] Rf) X.env)::J5 pos (FH [] X.env))) _ _ s;refine Kv ?_;refine Hk (df I hgz hmz yG ?_);refine callWith_type1 (thn (dM ha (dM hb gB hf) he Rf pins s σ H (λvs H1=>∃v u,vs=[v,u]/\aL H H1/\Rp X.K (hid H1 O) v x/\Rp X.K (hid H1 O) u y) I ⟨O,R,λv H1 s1 r1=>⟨O,R.go s1,λu H2 s2 r2=>⟨v,u,rfl,s1.trans s2,r1.same (aY s2),r2⟩⟩⟩) λus s1 Tg=>?_) he (by rw[hf];rfl)
 obtain⟨vs,H1,I1,rv,v,u,rfl,sm,rp1,rp2⟩:=Tg;obtain⟨w1,w2,rfl,ru1,ru2⟩:=l6 rv;obtain⟨a,va,rfl,hq1,rs1⟩:=Ba rp1 hx;obtain⟨b,vb,rfl,Ro,rs2⟩:=Ba rp2 hy;cases ru1;cases ru2;obtain⟨ia,ra,RT,hz1⟩:=I1.list (aq.seq hq1);obtain⟨ib,rb,Rg,hz2⟩:=I1.list (aq.seq Ro);have la:=ra.length;have lb:=rb.length;have l1:=rs1.len;have l2:=rs2.len;have al:@LT.lt Nat instLTNat a s1.heap.objs.size:=by obtain⟨o,ho,_⟩:=RT.isList;exact FC ho
 have bl:@LT.lt Nat instLTNat b s1.heap.objs.size:=by obtain⟨o,ho,_⟩:=Rg.isList;exact FC ho
 refine PySem.call_zip_2 RT.isList Rg.isList λh' z1 z2 z3 z4 z5 z6 z7=>?_
 refine KN ?_;have D:Lb (s1.heap.objs.size+4) (s1.heap.objs.size+2) (s1.heap.objs.size+3) s1.heap.objs.size (s1.heap.objs.size+1) a b:=by constructor <;>exact xY (by lia)
 have sxy:ib.toArray.size<=ia.toArray.size:=by simp;lia
 have sx:ia.toArray.size<=1000:=by simp;lia
 refine ST.call_list_zip (s:={s1 with heap:=h' }) hh D sxy sx z1 z2 z3 z4 z5 (RT.isList.at λo e=>z7 _ o e) (Rg.isList.at λo e=>z7 _ o e) λh3 ad c F kp fr=>?_
 have lD:s1.heap.objs.size<=({s1 with heap:=h' }:Fp).heap.objs.size:=by show _<=h'.objs.size;lia
 generalize ({s1 with heap:=h' }:Fp).heap.objs.size=D0 at *
 have keep:∀b o,s1.heap.get? b=some o->h3.get? b=some o:=λb o e=>by
  have this:@LT.lt Nat instLTNat b s1.heap.objs.size:=FC e;exact kp b o (xY (by lia)) (xY (by lia)) (xY (by lia)) (xY (by lia)) (z7 b o e)
 have fr':∀a∈ad,s1.heap.get? a=none:=λa ha=>by
  cases hq:s1.heap.get? a with
  |none=>rfl
  |some o=>
   have q1:=fr a ha;rw[show ({s1 with heap:=h' }:Fp).heap.get? a=some o from z7 a o hq]at q1
   cases q1
 have frD:s1.heap.get? D0=none:=Ls lD
 have nH:∀a,s1.heap.get? a=none->H1 a=none:=λa e=>by
  cases hq:H1 a with
  |none=>rfl
  |some o=>
   obtain⟨ob,z⟩:=hV (I1.hok a o hq);rw[e]at z;cases z
 generalize hP:LS (λx y:V=>[x,y]) va vb=PS
 have old:∀b u,s1.heap.get? b=some u->upd (lm H1 ad PS) D0 (.lst (ad.map V.ref)) b=H1 b:=λb u e=>by
  rw[ba λz=>by rw[z,frD]at e;cases e]
  exact oU λz=>by rw[fr' b z]at e;cases e
 have sm1:aL H1 (upd (lm H1 ad PS) D0 (.lst (ad.map V.ref))):=λb o e=>let ⟨ob,z⟩:=hV (I1.hok b o e);(old b ob z).trans e
 have lad:ad.length=ib.length:=by rw[F.len];simp
 have atT:∀(j:Nat) (c:FI) (v u:V),ad[j]?=some c->va[j]?=some v->vb[j]?=some u->upd (lm H1 ad PS) D0 (.lst (ad.map V.ref)) c=some (.tup [v,u]):=λj c v u e1 e2 e3=>by
  rw[ba (F.ne c (FD e1))];refine sK F.nd e1 ?_;rw[<-hP];exact IK.mpr ⟨v,u,e2,e3,rfl⟩
 have I3:Inv X pins σ (upd (lm H1 ad PS) D0 (.lst (ad.map V.ref))) {s1 with heap:=h3 }:=by
  refine As (t':=s1.toks) I1 keep old λb o nb e=>?_
  by_cases hbD:b=D0
  ·subst hbD;rw[aO]at e;cases e;exact⟨by rw[Fk,lad,<-lb];exact hz2,ad.map FW,c,mS ad,F.acc⟩
  ·rw[ba hbD]at e;rcases pW e with z |⟨j,pr,e1,e2,rfl⟩
   ·rw[nH b nb]at z;cases z
   ·rw[<-hP]at e2;obtain⟨v,u,f1,f2,rfl⟩:=IK.mp e2;obtain⟨xv,g1,r1⟩:=ra.get f1;obtain⟨yv,g2,r2⟩:=rb.get f2;obtain⟨xv',yv',k1,k2,k3⟩:=F.tup j b e1
    have m1:xv'=xv:=by
     have:ia.toArray[j]?=some xv:=by simpa using g1
     rw[this]at k1;cases k1;rfl
    have m2:yv'=yv:=by
     have:ib.toArray[j]?=some yv:=by simpa using g2
     rw[this]at k2;cases k2;rfl
    subst m1;subst m2;exact⟨(show 2<=sizeLine by decide),[xv',yv'],.cons r1 (.cons r2 .nil),_,k3,rfl,_,rfl⟩
 refine⟨.ref D0,_,I3,rfl,q D0 _ _ (sm.trans sm1) (sm.free (nH _ frD)) aO ⟨?_,λi v u h1 h2=>?_⟩⟩
 ·rw[Fk,List.length_zipWith];lia
 ·rw[Ft]at h1;cases hi:ad[i]? with
  |none=>rw[hi]at h1;cases h1
  |some c'=>
   rw[hi]at h1;obtain rfl:V.ref c'=v:=by simpa using h1
   obtain⟨xi,yi,f1,f2,rfl⟩:=IK.mp h2;obtain⟨vi,g1,r1⟩:=rs1.get f1;obtain⟨wi,g2,r2⟩:=rs2.get f2;have S:=bF (O:=O) sm1 (nH _ frD);have rr:=Rps.cons (r1.same S) (Rps.cons (r2.same S) Rps.nil);have Ua:=FD hi;refine .tup (SqT.of (dG (atT i c' vi wi hi g1 g2) λz=>?_)) rr.len rr.at_
   rcases Fw.mp z with z |z
   ·exact F.ne c' Ua z
   ·exact (R.go sm).dom c' z (nH _ (fr' c' Ua))
theorem v8(hc:X.calm=true)(hg:Gl X "list")(hm:X.mg "list"=none)(hgz:Gl X "zip")(hmz:X.mg "zip"=none)(ha:Ev X H0 O0 ps e x)(hx:x=.lst xs∨x=.scr xs)(hb:Ev X H0 O0 ps f y)(hy:y=.lst ys∨y=.scr ys)(hl:ys.length=xs.length)(hn:xs.length≤1000)
  (he:FH [e,f] X.env=(false,JQ e X.env)::FH [f] X.env:=by rfl) (hf:FH [f] X.env=(false,JQ f X.env)::FH [] X.env:=by rfl):
  EvN X H0 O0 ps (.Call (.Name "list" p) [.Call (.Name "zip" p') [e,f] [] Rf] [] pos) (LS (λa b=>U.tup [a,b]) xs ys):=j6 hc hg hm hgz hmz ha hx hb hy (Qw hl) hn he hf
end
theorem jt(ns:List Int):∀j,preSum (λi=>ns.getD i 0) j=(ns.take j).sum
 |0=>by simp[preSum]
 |j+1=>by rw[preSum,jt ns j,PySem.sum_take_succ]
section
variable {X:Cx}{ns:List Int}{M:Int}
theorem kH{K:Fm}{H:Hp}{ws:List V}{QW:List Fq}(rv:aT ws QW)(rs:Rps K H ws (ns.map U.int))(i:Nat)(z:Fq)(e:QW.toArray[i]?=some z):∃t,z=.int (ns.getD i 0) t:=by
 have hl:=rs.len;rw[Fk]at hl;have e4:QW[i]?=some z:=by simpa using e
 have hi:i<QW.length:=aC e4;have hw:i<ws.length:=by rw[rv.length];exact hi
 have hb:i<ns.length:=by lia
 obtain⟨u,e1,e2⟩:=rv.get (Fj hw);have e3:=rs.at_ i ws[i] (.int ns[i]) (Fj hw) (by rw[Ft,Fj hb];rfl)
 rw[e4]at e1;cases e1;generalize ws[i]=wi at *;cases e3;rw[FP,Fj hb];obtain⟨t,rfl⟩:=e2;exact⟨t,rfl⟩
theorem CN(hc:X.calm=true)(hM:M∈ns∧∀a∈ns,M≤a):fT X (.builtin "min") [.lst (ns.map U.int)] (.int M):=by
 intro pins s σ H vs us Q I r hq;obtain⟨O,d,rs,q⟩:=hq;obtain⟨v,rfl,h1⟩:=cA rs;obtain⟨p1,rfl,r1⟩:=fq r;cases h1 with
 | @lst a ws _ hq hl hh=>
  cases r1;obtain⟨QW,rv,pl,_⟩:=I.list (SqL.of (aq _ _ hq));have Q5:QW.length=ns.length:=by rw[<-rv.length,hl,Fk]
  have Sw:=kH (ns:=ns) rv ⟨hl,hh⟩;have hn:0<ns.length:=GV hM.1;refine call_min_walk (Iu pl.isList ?_);have RX:a<s.heap.objs.size:=by obtain⟨o,e,_⟩:=pl.isList;exact FC e
  refine⟨s.heap.objs.size,_,_,_,_,_,_,rfl,Walks.list (A:=X.A.in1) (I.ok.hd hc) s.heap.objs.size a (Ga RX) QW.toArray,⟨⟨_,FE _ rfl,rfl,rfl⟩,pl.isList.push _⟩,λb hb=>?_,by rw[FL,Q5];exact hn,CmpOf.ints_lt (λi=>ns.getD i 0) Sw,λv h' tk hP hk=>?_⟩
  ·show b<(s.heap.push _).objs.size;rw[HH];rcases Fw.mp hb with z |z
   ·rw[z];exact HI _
   ·rw[Fy.mp z];exact HP RX
  ·obtain⟨t,rfl⟩:=Sw _ _ hP;obtain⟨b1,b2⟩:=argBest_lt (λi=>ns.getD i 0) (QW.toArray.size-1)
   have e:ns.getD (Hs (λi j=>decide (ns.getD i 0<ns.getD j 0)) (QW.toArray.size-1)) 0=M:=by
    rw[FL,Q5]at b1 b2 |-;generalize Hs (λi j=>decide (ns.getD i 0<ns.getD j 0)) (ns.length-1)=g at *
    have hg:g<ns.length:=by lia
    obtain⟨j,hj,ej⟩:=G_ hM.1;have k1:=b2 j (by lia)
    have k2:=hM.2 ns[g] (GD hg);simp only[FP,Fj hg,Fj hj,Jd]at k1 |-;lia
   rw[e];refine⟨.int M,H,I.kept (t':=tk) λb o e=>hk b o ?_ (Fo _ e),⟨t,rfl⟩,q _ H (.refl H) (.int _)⟩
   intro z;have:b=s.heap.objs.size:=by simpa using z
   exact absurd (FC e) (by rw[this];exact Gh _)
theorem yP(hc:X.calm=true):fT X (.builtin "sum") [.lst (ns.map U.int)] (.int ns.sum):=by
 intro pins s σ H vs us Q I r hq;obtain⟨O,d,rs,q⟩:=hq;obtain⟨v,rfl,h1⟩:=cA rs;obtain⟨p1,rfl,r1⟩:=fq r;cases h1 with
 | @lst a ws _ hq hl hh=>
  cases r1;obtain⟨QW,rv,pl,_⟩:=I.list (SqL.of (aq _ _ hq));have Q5:QW.length=ns.length:=by rw[<-rv.length,hl,Fk]
  have Sw:=kH (ns:=ns) rv ⟨hl,hh⟩;refine call_sum_walkG (Iu pl.isList ?_);have RX:a<s.heap.objs.size:=by obtain⟨o,e,_⟩:=pl.isList;exact FC e
  refine⟨s.heap.objs.size,_,_,_,_,_,λi=>ns.getD i 0,rfl,Walks.list (A:=X.A.in1) (I.ok.hd hc) s.heap.objs.size a (Ga RX) QW.toArray,⟨⟨_,FE _ rfl,rfl,rfl⟩,pl.isList.push _⟩,λb hb=>?_,Sw,λh' tk t' hk=>?_⟩
  ·show b<(s.heap.push _).objs.size;rw[HH];rcases Fw.mp hb with z |z
   ·rw[z];exact HI _
   ·rw[Fy.mp z];exact HP RX
  ·rw[jt,FL,Q5,Hv];refine⟨.int ns.sum,H,I.kept (t':=tk) λb o e=>hk b o ?_ (Fo _ e),⟨t',rfl⟩,q _ H (.refl H) (.int _)⟩
   intro z;have:b=s.heap.objs.size:=by simpa using z
   exact absurd (FC e) (by rw[this];exact Gh _)
end
end L2
namespace ST
open PySem PyProof.Rows
def leP(a b:Int×Int):Bool:=decide (a.1<b.1\/(a.1=b.1/\a.2<=b.2))
end ST
namespace L2
open PySem PySem.Spec PyProof.Rows
section
variable {X:Cx}{H0:Hp}{O0:List FI}{ps:PSt}{a b c:Expr}{pos:Pos}{x y z:U}{p q:P2}{k m:Bool}
theorem len1{α:Type}:∀{l:List α},l.length=1->∃a,l=[a]
 |[a],_=>⟨a,rfl⟩
theorem len2{α:Type}:∀{l:List α},l.length=2->∃a b,l=[a,b]
 |[a,b],_=>⟨a,b,rfl⟩
theorem len3{α:Type}:∀{l:List α},l.length=3->∃a b c,l=[a,b,c]
 |[a,b,c],_=>⟨a,b,c,rfl⟩
theorem BF{pins:List (FI×Obj)}{σ:List (Option V)}{H:Hp}{s:Fp}(I:Inv X pins σ H s){v:V}{u:Fq}(r:Rp X.K H v (pu p))(e:a9 v u):∃b,u=.ref b/\ST.TK X.prog X.w s.heap [p.1,p.2] b:=by
 cases r with
 | @tup b zs _ hs hsl hsi=>
  cases e;refine⟨b,rfl,?_⟩;obtain⟨jts,rj,ht,_⟩:=I.tuple hs;have z0:zs.length=2:=hsl;obtain⟨z1,z2,rfl⟩:=len2 z0;have q1:=hsi 0 z1 _ rfl rfl;have q2:=hsi 1 z2 _ rfl rfl;cases q1;cases q2;obtain⟨u1,u2,rfl,r1,r2⟩:=l6 rj;obtain⟨t1,rfl⟩:=r1;obtain⟨t2,rfl⟩:=r2;obtain⟨o,ho,TZ,n,hod⟩:=ht;exact⟨o,_,n,ho,TZ,hod,.cons (HQ _ _ _ _) (.cons (HQ _ _ _ _) .nil)⟩
end
section
variable {X:Cx}{p q:P2}{l:List P2}
theorem kB{pins:List (FI×Obj)}{σ:List (Option V)}{H:Hp}{s:Fp}(I:Inv X pins σ H s){v:V}{u:Fq}(r:Rp X.K H v (pu p))(e:a9 v u):∃b,u=.ref b/\∀prog w,ST.TK prog w s.heap [p.1,p.2] b:=by
 cases r with
 | @tup b zs _ hs hsl hsi=>
  cases e;refine⟨b,rfl,λprog w=>?_⟩
  obtain⟨jts,rj,ht,_⟩:=I.tuple hs;have z0:zs.length=2:=hsl;obtain⟨z1,z2,rfl⟩:=len2 z0;have q1:=hsi 0 z1 _ rfl rfl;have q2:=hsi 1 z2 _ rfl rfl;cases q1;cases q2;obtain⟨u1,u2,rfl,r1,r2⟩:=l6 rj;obtain⟨t1,rfl⟩:=r1;obtain⟨t2,rfl⟩:=r2;obtain⟨o,ho,TZ,n,hod⟩:=ht;exact⟨o,_,n,ho,TZ,hod,.cons (HQ _ _ _ _) (.cons (HQ _ _ _ _) .nil)⟩
end
theorem nd_len{α:Type}[DecidableEq α]:∀{l m:List α},l.Nodup->(∀x∈l,x∈m)->l.length<=m.length
 |[],_,_,_=>GN _
 |a::l,m,nd,sub=>by
  have h:=HG.mp nd;have ha:=sub a Fv;have ih:=nd_len (m:=m.erase a) h.2 λx hx=>(Lv (λe=>h.1 (by rw[<-e];exact hx))).mpr (sub x (Fn _ hx))
  rw[Kq ha]at ih;have:=GV ha;simp only[F8];lia
end L2
namespace ST
open PySem
def vK(prog:FK)(w:Gj)(A:Gs)(op:OT)(G:HF->Prop)(P:Nat->Fq->Prop)(bt:Nat->Nat->Bool):Prop:=
 ∀i j vi vj (s:Fp) (Q:Fq->Fp->Prop) (E:Fq->Fp->Prop),G s.heap->P i vi->P j vj->Q (.bool (bt i j)) s->FX (F7 prog w) A (Mu op vi vj) Q E s
section
variable {prog:FK}{w:Gj}{A:Gs}{R:Ow→Fp→Prop}{I S:FI}{fp wr:List FI}{n:Nat}{P:Nat→Fq→Prop}{St:Nat→HF→Prop}{G:HF→Prop}{bt:Nat→Nat→Bool}
theorem u5(W:Walks prog w A.in1 I fp wr n P St)(hc:vK prog w A.in1 .Lt G P bt)(stay:∀h h':HF,G h->(∀b o,b ∉ wr->b≠S->h.get? b=some o->h'.get? b=some o)->G h')(RQ:S ∉ fp):
  ∀(k j:Nat) (s:Fp) (vb:Fq) (c:Nat),n-(j+1)=k→j+1≤n→G s.heap→St (j+1) s.heap→P (Hs bt j) vb→s.heap.get? S=some {cls:=.type "list",dict:=none,data:=.seq #[vb,vb] c,slots:=#[] }→
  (∀v h' tk,P (Hs bt (n-1)) v->(∀b o,b ∉ wr->b≠S->s.heap.get? b=some o->h'.get? b=some o)->R (.ok (.ret v)) {s with heap:=h',toks:=tk })->
  J6 (F7 prog w) A (.builtin "min.loop" ⟨[.ref I,.none,.ref S],[]⟩) R s:=by
 have nw:S ∉ wr:=λh=>RQ (W.sub _ h)
 have nm:(KB "min"++KB ".loop":String)="min.loop":=by decide
 intro k
 induction k with
 |zero=>
  intro j s vb c hk hj g st pb hS hR;obtain rfl:j+1=n:=by lia
  refine Ho KI ?_;rw[GX HD _];show FX _ A.in1 (Md (.ref S) >>=_) _ _ s;refine Fi (G6 hS rfl ?_);show FX _ A.in1 (Mw (JG (.ref I)) _ >>=_) _ _ s;refine Fi (Jk (W.done s _ _ st λh' tk kp=>?_))
  show FX _ A.in1 (J_ S (λ_=>#[]) >>=_) _ _ _
  refine Fi (Hc (kp S _ nw hS) rfl (Fi (Jw (Fl ?_))));exact hR vb _ tk pb λb o hw hb e=>(F3 _ _ (Ne.symm hb)).trans (kp b o hw e)
 |succ k ih=>
  intro j s vb c hk hj g st pb hS hR;refine Ho KI ?_;rw[GX HD _];show FX _ A.in1 (Md (.ref S) >>=_) _ _ s;refine Fi (G6 hS rfl ?_);show FX _ A.in1 (Mw (JG (.ref I)) _ >>=_) _ _ s;refine Fi (Jk (W.item (j+1) s _ _ (by lia) st λv h' tk pv QX kp=>?_))
  have g':G h':=stay _ _ g λb o hw _ e=>kp b o hw e
  have SD:=kp S _ nw hS;show FX _ A.in1 (Mw (OU [v,v] (Mu .Lt v vb >>=_)) _ >>=_) _ _ _;refine Fi (Jk (GS (Fi (hc (j+1) (Hs bt j) v vb _ _ _ g' pv pb ?_))));refine Fi (GS (HM (Fi (Jw (Fl ?_)))));by_cases hb:bt (j+1) (Hs bt j)=true
  ·rw[if_pos hb];refine Fi (Hc SD rfl (Fi (Jw ?_)));rw[nm];have Ru:∀b o,b≠S->h'.get? b=some o->(h'.update S (GR λ_=>#[v,v])).get? b=some o:=λb o h e=>(F3 _ _ (Ne.symm h)).trans e
   refine Fl ⟨Hl HD _,ih (j+1) _ v _ (by lia) (by lia) (stay _ _ g' λb o _ h e=>Ru b o h e) (W.frame _ _ _ QX λb hf o e=>Ru b o (λh=>RQ (h ▸ hf)) e) (by rw[Hs,if_pos hb];exact pv) (Gk _ SD rfl) λv2 h2 t2 p2 k2=>?_⟩
   exact hR v2 h2 t2 p2 λb o hw h e=>k2 b o hw h (Ru b o h (kp b o hw e))
  ·rw[if_neg hb];refine Fi (Jw ?_);rw[nm];refine Fl ⟨Hl HD _,ih (j+1) _ vb c (by lia) (by lia) g' QX (by rw[Hs,if_neg hb];exact pb) SD λv2 h2 t2 p2 k2=>?_⟩
   exact hR v2 h2 t2 p2 λb o hw h e=>k2 b o hw h (kp b o hw e)
theorem qX(W:Walks prog w A.in1 I fp wr n P St)(hc:vK prog w A.in1 .Lt G P bt)(stay:∀h h':HF,G h->(∀b o,b ∉ wr->b≠S->h.get? b=some o->h'.get? b=some o)->G h')(RQ:S ∉ fp)(hn:0<n){s:Fp}{c:Nat}(g:G s.heap)(st:St 0 s.heap)
  (hS:s.heap.get? S=some {cls:=.type "list",dict:=none,data:=.seq #[] c,slots:=#[] })
  (hR:∀v h' tk,P (Hs bt (n-1)) v->(∀b o,b ∉ wr->b≠S->s.heap.get? b=some o->h'.get? b=some o)->R (.ok (.ret v)) {s with heap:=h',toks:=tk }):
  J6 (F7 prog w) A (.builtin "min.loop" ⟨[.ref I,.none,.ref S],[]⟩) R s:=by
 have nw:S ∉ wr:=λh=>RQ (W.sub _ h)
 have nm:(KB "min"++KB ".loop":String)="min.loop":=by decide
 refine Ho KI ?_;rw[GX HD _];show FX _ A.in1 (Md (.ref S) >>=_) _ _ s;refine Fi (G6 hS rfl ?_);show FX _ A.in1 (Mw (JG (.ref I)) _ >>=_) _ _ s;refine Fi (Jk (W.item 0 s _ _ hn st λv h' tk pv QX kp=>?_))
 have SD:=kp S _ nw hS;show FX _ A.in1 (J_ S (λ_=>#[v,v]) >>=_) _ _ _
 refine Fi (Hc SD rfl ?_);rw[nm];have Ru:∀b o,b≠S->h'.get? b=some o->(h'.update S (GR λ_=>#[v,v])).get? b=some o:=λb o h e=>(F3 _ _ (Ne.symm h)).trans e
 refine Fl ⟨Hl HD _,u5 W hc stay RQ _ 0 _ v _ rfl hn (stay _ _ g λb o hw h e=>Ru b o h (kp b o hw e)) (W.frame _ _ _ QX λb hf o e=>Ru b o (λh=>RQ (h ▸ hf)) e) pv (Gk _ SD rfl) λv2 h2 t2 p2 k2=>?_⟩
 exact hR v2 h2 t2 p2 λb o hw h e=>k2 b o hw h (Ru b o h (kp b o hw e))
variable {E:Fq→Fp→Prop}{s:Fp}
theorem call_minG{l:FI}{items:Array Fq}{G:HF->Prop}{bt:Nat->Nat->Bool}{Q:Fq->Fp->Prop}(hh:A.handled=none)(hl:s.heap.IsList l items)(hn:0<items.size)(hc:vK prog w A.in1 .Lt G (λi v=>items[i]?=some v) bt)
  (g:G s.heap) (stay:∀h h':HF,G h->(∀b o,s.heap.get? b=some o->h.get? b=some o)->(∀b o,s.heap.get? b=some o->h'.get? b=some o)->G h')
  (hQ:∀v h' tk,items[Hs bt (items.size-1)]?=some v->(∀b o,s.heap.get? b=some o->h'.get? b=some o)->Q v {s with heap:=h',toks:=tk }):
  FX (F7 prog w) A (call (.builtin "min") [.ref l]) Q E s:=by
 have nm:(KB "min"++KB ".loop":String)="min.loop":=by decide
 refine N7 PySem.F.kind_min PySem.F.plain_min PySem.F.entry_min (PySem.F.args_min1 _) ?_;show FX _ A.in1 (Builtin.Builtins.bindParams "min" ["key","default"] 0 ⟨[],[]⟩ >>=_) _ _ s;refine Fi (Mr (show Builtin.Builtins.bindParams "min" ["key","default"] 0 ⟨[],[]⟩=pure [none,none] from rfl) ?_)
 refine Fi (Fl ?_);refine Fi (Iu hl ?_);have RX:l<s.heap.objs.size:=by obtain⟨o,e,_⟩:=hl;exact FC e
 refine Fi (He ?_);rw[nm];have W:=Walks.list (prog:=prog) (w:=w) (A:=A.in1) hh s.heap.objs.size l (Ga RX) items;have up:∀b o,s.heap.get? b=some o→((s.heap.push {cls:=.type "list_iterator",data:=.fields #[.ref l,.int 0 0] }).push {cls:=.type "list",data:=.seq #[] }).get? b=some o:=λb o e=>Fo _ (Fo _ e)
 have sI:(s.heap.push {cls:=.type "list_iterator",data:=.fields #[.ref l,.int 0 0] }).objs.size=s.heap.objs.size+1:=HH ..
 have lt:∀b o,s.heap.get? b=some o→b ∉ [s.heap.objs.size]∧b≠(s.heap.push {cls:=.type "list_iterator",data:=.fields #[.ref l,.int 0 0] }).objs.size:=λb o e=>by
  have h:=FC e;refine⟨λz=>?_,λz=>?_⟩
  ·rw[Fy.mp z]at h;exact Gh _ h
  ·rw[z,sI]at h;exact Gh _ (JX h)
 refine Fl ⟨Hl HD _,qX (G:=λh=>G h/\∀b o,s.heap.get? b=some o->h.get? b=some o) W (λi j vi vj s' Q' E' g'=>hc i j vi vj s' Q' E' g'.1) (λh h' g' kp=>?_) ?_ hn ⟨stay _ _ g (λ_ _ e=>e) up,up⟩ ⟨⟨_,Fo _ (FE _ rfl),rfl,rfl⟩,(hl.push _).push _⟩ (FE _ rfl) λv h' tk pv kp=>?_⟩
 ·have k2:∀b o,s.heap.get? b=some o->h'.get? b=some o:=λb o e=>kp b o (lt b o e).1 (lt b o e).2 (g'.2 b o e)
  exact⟨stay _ _ g'.1 g'.2 k2,k2⟩
 ·intro z;have z':(s.heap.push {cls:=.type "list_iterator",data:=.fields #[.ref l,.int 0 0] }).objs.size∈[s.heap.objs.size,l]:=z;rw[sI]at z';rcases Fw.mp z' with z |z
  ·exact absurd z (OG _)
  ·have e:=Fy.mp z;rw[<-e]at RX;exact absurd RX (OH (HI _))
 ·exact hQ v h' tk pv λb o e=>kp b o (lt b o e).1 (lt b o e).2 (up b o e)
theorem vv(W:Walks prog w A.in1 I fp wr n P St)(hc:vK prog w A.in1 .Gt G P bt)(stay:∀h h':HF,G h->(∀b o,b ∉ wr->b≠S->h.get? b=some o->h'.get? b=some o)->G h')(RQ:S ∉ fp):
  ∀(k j:Nat) (s:Fp) (vb:Fq) (c:Nat),n-(j+1)=k→j+1≤n→G s.heap→St (j+1) s.heap→P (Hs bt j) vb→s.heap.get? S=some {cls:=.type "list",dict:=none,data:=.seq #[vb,vb] c,slots:=#[] }→
  (∀v h' tk,P (Hs bt (n-1)) v->(∀b o,b ∉ wr->b≠S->s.heap.get? b=some o->h'.get? b=some o)->R (.ok (.ret v)) {s with heap:=h',toks:=tk })->
  J6 (F7 prog w) A (.builtin "max.loop" ⟨[.ref I,.none,.ref S],[]⟩) R s:=by
 have nw:S ∉ wr:=λh=>RQ (W.sub _ h)
 have nm:(KB "max"++KB ".loop":String)="max.loop":=by decide
 intro k
 induction k with
 |zero=>
  intro j s vb c hk hj g st pb hS hR;obtain rfl:j+1=n:=by lia
  refine Ho KJ ?_;rw[GX HE _];show FX _ A.in1 (Md (.ref S) >>=_) _ _ s;refine Fi (G6 hS rfl ?_);show FX _ A.in1 (Mw (JG (.ref I)) _ >>=_) _ _ s;refine Fi (Jk (W.done s _ _ st λh' tk kp=>?_))
  show FX _ A.in1 (J_ S (λ_=>#[]) >>=_) _ _ _
  refine Fi (Hc (kp S _ nw hS) rfl (Fi (Jw (Fl ?_))));exact hR vb _ tk pb λb o hw hb e=>(F3 _ _ (Ne.symm hb)).trans (kp b o hw e)
 |succ k ih=>
  intro j s vb c hk hj g st pb hS hR;refine Ho KJ ?_;rw[GX HE _];show FX _ A.in1 (Md (.ref S) >>=_) _ _ s;refine Fi (G6 hS rfl ?_);show FX _ A.in1 (Mw (JG (.ref I)) _ >>=_) _ _ s;refine Fi (Jk (W.item (j+1) s _ _ (by lia) st λv h' tk pv QX kp=>?_))
  have g':G h':=stay _ _ g λb o hw _ e=>kp b o hw e
  have SD:=kp S _ nw hS;show FX _ A.in1 (Mw (OU [v,v] (Mu .Gt v vb >>=_)) _ >>=_) _ _ _;refine Fi (Jk (GS (Fi (hc (j+1) (Hs bt j) v vb _ _ _ g' pv pb ?_))));refine Fi (GS (HM (Fi (Jw (Fl ?_)))));by_cases hb:bt (j+1) (Hs bt j)=true
  ·rw[if_pos hb];refine Fi (Hc SD rfl (Fi (Jw ?_)));rw[nm];have Ru:∀b o,b≠S->h'.get? b=some o->(h'.update S (GR λ_=>#[v,v])).get? b=some o:=λb o h e=>(F3 _ _ (Ne.symm h)).trans e
   refine Fl ⟨Hl HE _,ih (j+1) _ v _ (by lia) (by lia) (stay _ _ g' λb o _ h e=>Ru b o h e) (W.frame _ _ _ QX λb hf o e=>Ru b o (λh=>RQ (h ▸ hf)) e) (by rw[Hs,if_pos hb];exact pv) (Gk _ SD rfl) λv2 h2 t2 p2 k2=>?_⟩
   exact hR v2 h2 t2 p2 λb o hw h e=>k2 b o hw h (Ru b o h (kp b o hw e))
  ·rw[if_neg hb];refine Fi (Jw ?_);rw[nm];refine Fl ⟨Hl HE _,ih (j+1) _ vb c (by lia) (by lia) g' QX (by rw[Hs,if_neg hb];exact pb) SD λv2 h2 t2 p2 k2=>?_⟩
   exact hR v2 h2 t2 p2 λb o hw h e=>k2 b o hw h (kp b o hw e)
theorem rC(W:Walks prog w A.in1 I fp wr n P St)(hc:vK prog w A.in1 .Gt G P bt)(stay:∀h h':HF,G h->(∀b o,b ∉ wr->b≠S->h.get? b=some o->h'.get? b=some o)->G h')(RQ:S ∉ fp)(hn:0<n){s:Fp}{c:Nat}(g:G s.heap)(st:St 0 s.heap)
  (hS:s.heap.get? S=some {cls:=.type "list",dict:=none,data:=.seq #[] c,slots:=#[] })
  (hR:∀v h' tk,P (Hs bt (n-1)) v->(∀b o,b ∉ wr->b≠S->s.heap.get? b=some o->h'.get? b=some o)->R (.ok (.ret v)) {s with heap:=h',toks:=tk }):
  J6 (F7 prog w) A (.builtin "max.loop" ⟨[.ref I,.none,.ref S],[]⟩) R s:=by
 have nw:S ∉ wr:=λh=>RQ (W.sub _ h)
 have nm:(KB "max"++KB ".loop":String)="max.loop":=by decide
 refine Ho KJ ?_;rw[GX HE _];show FX _ A.in1 (Md (.ref S) >>=_) _ _ s;refine Fi (G6 hS rfl ?_);show FX _ A.in1 (Mw (JG (.ref I)) _ >>=_) _ _ s;refine Fi (Jk (W.item 0 s _ _ hn st λv h' tk pv QX kp=>?_))
 have SD:=kp S _ nw hS;show FX _ A.in1 (J_ S (λ_=>#[v,v]) >>=_) _ _ _
 refine Fi (Hc SD rfl ?_);rw[nm];have Ru:∀b o,b≠S->h'.get? b=some o->(h'.update S (GR λ_=>#[v,v])).get? b=some o:=λb o h e=>(F3 _ _ (Ne.symm h)).trans e
 refine Fl ⟨Hl HE _,vv W hc stay RQ _ 0 _ v _ rfl hn (stay _ _ g λb o hw h e=>Ru b o h (kp b o hw e)) (W.frame _ _ _ QX λb hf o e=>Ru b o (λh=>RQ (h ▸ hf)) e) pv (Gk _ SD rfl) λv2 h2 t2 p2 k2=>?_⟩
 exact hR v2 h2 t2 p2 λb o hw h e=>k2 b o hw h (Ru b o h (kp b o hw e))
theorem call_maxG{l:FI}{items:Array Fq}{G:HF->Prop}{bt:Nat->Nat->Bool}{Q:Fq->Fp->Prop}(hh:A.handled=none)(hl:s.heap.IsList l items)(hn:0<items.size)(hc:vK prog w A.in1 .Gt G (λi v=>items[i]?=some v) bt)
  (g:G s.heap) (stay:∀h h':HF,G h->(∀b o,s.heap.get? b=some o->h.get? b=some o)->(∀b o,s.heap.get? b=some o->h'.get? b=some o)->G h')
  (hQ:∀v h' tk,items[Hs bt (items.size-1)]?=some v->(∀b o,s.heap.get? b=some o->h'.get? b=some o)->Q v {s with heap:=h',toks:=tk }):
  FX (F7 prog w) A (call (.builtin "max") [.ref l]) Q E s:=by
 have nm:(KB "max"++KB ".loop":String)="max.loop":=by decide
 refine N7 PySem.F.kind_max PySem.F.plain_max PySem.F.entry_max (PySem.F.args_max1 _) ?_;show FX _ A.in1 (Builtin.Builtins.bindParams "max" ["key","default"] 0 ⟨[],[]⟩ >>=_) _ _ s;refine Fi (Mr (show Builtin.Builtins.bindParams "max" ["key","default"] 0 ⟨[],[]⟩=pure [none,none] from rfl) ?_)
 refine Fi (Fl ?_);refine Fi (Iu hl ?_);have RX:l<s.heap.objs.size:=by obtain⟨o,e,_⟩:=hl;exact FC e
 refine Fi (He ?_);rw[nm];have W:=Walks.list (prog:=prog) (w:=w) (A:=A.in1) hh s.heap.objs.size l (Ga RX) items;have up:∀b o,s.heap.get? b=some o→((s.heap.push {cls:=.type "list_iterator",data:=.fields #[.ref l,.int 0 0] }).push {cls:=.type "list",data:=.seq #[] }).get? b=some o:=λb o e=>Fo _ (Fo _ e)
 have sI:(s.heap.push {cls:=.type "list_iterator",data:=.fields #[.ref l,.int 0 0] }).objs.size=s.heap.objs.size+1:=HH ..
 have lt:∀b o,s.heap.get? b=some o→b ∉ [s.heap.objs.size]∧b≠(s.heap.push {cls:=.type "list_iterator",data:=.fields #[.ref l,.int 0 0] }).objs.size:=λb o e=>by
  have h:=FC e;refine⟨λz=>?_,λz=>?_⟩
  ·rw[Fy.mp z]at h;exact Gh _ h
  ·rw[z,sI]at h;exact Gh _ (JX h)
 refine Fl ⟨Hl HE _,rC (G:=λh=>G h/\∀b o,s.heap.get? b=some o->h.get? b=some o) W (λi j vi vj s' Q' E' g'=>hc i j vi vj s' Q' E' g'.1) (λh h' g' kp=>?_) ?_ hn ⟨stay _ _ g (λ_ _ e=>e) up,up⟩ ⟨⟨_,Fo _ (FE _ rfl),rfl,rfl⟩,(hl.push _).push _⟩ (FE _ rfl) λv h' tk pv kp=>?_⟩
 ·have k2:∀b o,s.heap.get? b=some o->h'.get? b=some o:=λb o e=>kp b o (lt b o e).1 (lt b o e).2 (g'.2 b o e)
  exact⟨stay _ _ g'.1 g'.2 k2,k2⟩
 ·intro z;have z':(s.heap.push {cls:=.type "list_iterator",data:=.fields #[.ref l,.int 0 0] }).objs.size∈[s.heap.objs.size,l]:=z;rw[sI]at z';rcases Fw.mp z' with z |z
  ·exact absurd z (OG _)
  ·have e:=Fy.mp z;rw[<-e]at RX;exact absurd RX (OH (HI _))
 ·exact hQ v h' tk pv λb o e=>kp b o (lt b o e).1 (lt b o e).2 (up b o e)
end
end ST
namespace ST
open PySem PyProof.Rows
section
variable {prog:FK}{w:Gj}{A:Gs}{E:Fq→Fp→Prop}{s:Fp}
theorem rZ{x y:Int}{t u:Tok}{Q:Fq->Fp->Prop}(h:Q (.bool (decide (x<y))) s):FX (F7 prog w) A (Mu .Lt (.int x t) (.int y u)) Q E s:=
 Oq (op:=.Lt) (Nr s _ t) (Nr s _ u) PySem.F.slot_int_lt PySem.F.entry_int_lt (PySem.F.args_int_lt_2 _ _) (gives_int_lt _ _ t u) (λx=>nomatch x) h
theorem wP{x y:FI}{a b:Int×Int}{P:Fin->Fp->Prop}(hx:TK prog w s.heap [a.1,a.2] x)(hy:TK prog w s.heap [b.1,b.2] y)(h:P (.done (.ret (.bool (ltP a b)))) s):
  FX (F7 prog w) A (Builtin.«tuple.__lt__» ⟨[.ref x,.ref y],[]⟩) P E s:=by
 have hTb:=hy.typeIs;obtain⟨o,QW,n,t,u,ho,_,hd,hi⟩:=hx.two;obtain⟨o',its',n',t',u',RY,_,R9,Q9⟩:=hy.two;show FX _ _ (Mg (.ref y) (.type "tuple") >>=_) _ _ s;refine Fi (Hb hTb IF ?_);simp only[Gw,Fz,if_false];refine Fi (HB ho hd ?_);refine Fi (HB RY R9 ?_);have sz:QW.size=its'.size:=by rw[<-Fx,<-Fx,hi,Q9];rfl
 rw[hi,Q9];refine Fi ?_;simp only[Il,Mh,Jr,Ka];refine Fi (Fi ((Lm prog w).eqBool (a:=a.1) (b:=b.1) (HQ _ _ _ _) (HQ _ _ _ _) ?_));by_cases e1:a.1=b.1
 ·rw[decide_eq_true e1];simp only[Gw,Fz,if_false];refine Fl ?_;refine Fi (Fi ((Lm prog w).eqBool (a:=a.2) (b:=b.2) (HQ _ _ _ _) (HQ _ _ _ _) ?_));by_cases e2:a.2=b.2
  ·rw[decide_eq_true e2];simp only[Gw,Fz,if_false];refine Fl (Fl ?_);have z:ltP a b=false:=by unfold ltP;simp;lia
   rw[z]at h;refine Fl ?_;show P (.done (.ret (.bool (decide (QW.size<its'.size))))) s;rw[sz,decide_eq_false (Gh _)];exact h
  ·rw[decide_eq_false e2];simp only[HY,if_true];have z:ltP a b=decide (a.2<b.2):=by unfold ltP;rw[e1];simp
   rw[z]at h;exact Fi (Jb (Fi (rZ (Fi (Fl (Fl (Fl (Fl h))))))))
 ·rw[decide_eq_false e1];simp only[HY,if_true];have z:ltP a b=decide (a.1<b.1):=by unfold ltP;simp[e1]
  rw[z]at h;exact Fi (Jb (Fi (rZ (Fi (Fl (Fl (Fl (Fl h))))))))
theorem lt_ptsR{x y:FI}{a b:Int×Int}{Q:Fq->Fp->Prop}(hu:A.units<Ip)(hx:TK prog w s.heap [a.1,a.2] x)(hy:TK prog w s.heap [b.1,b.2] y)(h:Q (.bool (ltP a b)) s):
  FX (F7 prog w) A (Hj .Lt (.ref x) (.ref y)) Q E s:=
 IZ (op:=.Lt) hx.typeIs hy.typeIs JM
  (GJ JM hx.typeIs MR (wP hx hy ⟨_,rfl,(λe=>nomatch e),h⟩) (Mx _ _)) hu
theorem t5{x y:Int}{t u:Tok}{Q:Fq->Fp->Prop}(h:Q (.bool (decide (y<x))) s):FX (F7 prog w) A (Mu .Gt (.int x t) (.int y u)) Q E s:=
 Oq (op:=.Gt) (Nr s _ t) (Nr s _ u) PySem.F.slot_int_gt PySem.F.entry_int_gt (PySem.F.args_int_gt_2 _ _) (gives_int_gt _ _ t u) (λx=>nomatch x) h
theorem wX{x y:FI}{a b:Int×Int}{P:Fin->Fp->Prop}(hx:TK prog w s.heap [a.1,a.2] x)(hy:TK prog w s.heap [b.1,b.2] y)(h:P (.done (.ret (.bool (ltP b a)))) s):
  FX (F7 prog w) A (Builtin.«tuple.__gt__» ⟨[.ref x,.ref y],[]⟩) P E s:=by
 have hTb:=hy.typeIs;obtain⟨o,QW,n,t,u,ho,_,hd,hi⟩:=hx.two;obtain⟨o',its',n',t',u',RY,_,R9,Q9⟩:=hy.two;show FX _ _ (Mg (.ref y) (.type "tuple") >>=_) _ _ s;refine Fi (Hb hTb IF ?_);simp only[Gw,Fz,if_false];refine Fi (HB ho hd ?_);refine Fi (HB RY R9 ?_);have sz:QW.size=its'.size:=by rw[<-Fx,<-Fx,hi,Q9];rfl
 rw[hi,Q9];refine Fi ?_;simp only[Il,Mh,Jr,Ka];refine Fi (Fi ((Lm prog w).eqBool (a:=a.1) (b:=b.1) (HQ _ _ _ _) (HQ _ _ _ _) ?_));by_cases e1:a.1=b.1
 ·rw[decide_eq_true e1];simp only[Gw,Fz,if_false];refine Fl ?_;refine Fi (Fi ((Lm prog w).eqBool (a:=a.2) (b:=b.2) (HQ _ _ _ _) (HQ _ _ _ _) ?_));by_cases e2:a.2=b.2
  ·rw[decide_eq_true e2];simp only[Gw,Fz,if_false];refine Fl (Fl ?_);have z:ltP b a=false:=by unfold ltP;simp;lia
   rw[z]at h;refine Fl ?_;show P (.done (.ret (.bool (decide (QW.size >its'.size))))) s;rw[sz,decide_eq_false (Gh _)];exact h
  ·rw[decide_eq_false e2];simp only[HY,if_true];have z:ltP b a=decide (b.2<a.2):=by unfold ltP;rw[e1];simp
   rw[z]at h;exact Fi (Jb (Fi (t5 (Fi (Fl (Fl (Fl (Fl h))))))))
 ·rw[decide_eq_false e1];simp only[HY,if_true];have z:ltP b a=decide (b.1<a.1):=by unfold ltP;simp[Ne.symm e1]
  rw[z]at h;exact Fi (Jb (Fi (t5 (Fi (Fl (Fl (Fl (Fl h))))))))
theorem gt_ptsR{x y:FI}{a b:Int×Int}{Q:Fq->Fp->Prop}(hu:A.units<Ip)(hx:TK prog w s.heap [a.1,a.2] x)(hy:TK prog w s.heap [b.1,b.2] y)(h:Q (.bool (ltP b a)) s):
  FX (F7 prog w) A (Hj .Gt (.ref x) (.ref y)) Q E s:=
 IZ (op:=.Gt) hx.typeIs hy.typeIs Nf
  (GJ Nf hx.typeIs PySem.F.entry_tuple_gt (wX hx hy ⟨_,rfl,(λe=>nomatch e),h⟩) (PySem.F.args_tuple_gt_2 _ _)) hu
end
theorem uB{a b:Int×Int}:ltP a b=true↔(a.1<b.1\/(a.1=b.1/\a.2<b.2)):=by unfold ltP;exact decide_eq_true_iff
theorem ltP_no{a b:Int×Int}:ltP a b=false↔¬ (a.1<b.1\/(a.1=b.1/\a.2<b.2)):=by unfold ltP;exact decide_eq_false_iff_not
theorem ltP_one{a b:Int×Int}(h1:ltP a b=false)(h2:ltP b a=false):a=b:=by
 rw[ltP_no]at h1 h2;obtain⟨a1,a2⟩:=a;obtain⟨b1,b2⟩:=b;simp only[N8]at *;lia
theorem best_min(f:Nat->Int×Int):∀k,Hs (λi j=>ltP (f i) (f j)) k<=k/\∀j,j<=k->ltP (f j) (f (Hs (λi j=>ltP (f i) (f j)) k))=false
 |0=>⟨Fu _,λj hj=>by
  obtain rfl:j=0:=by lia
  rw[ltP_no];simp[Hs]⟩
 |k+1=>by
  obtain⟨h1,h2⟩:=best_min f k;by_cases hb:ltP (f (k+1)) (f (Hs (λi j=>ltP (f i) (f j)) k))=true
  ·rw[Hs,if_pos hb];refine⟨Fu _,λj hj=>?_⟩
   rw[uB]at hb;rcases G7 j (k+1) with z |z
   ·have:=ltP_no.mp (h2 j (by lia))
    rw[ltP_no];lia
   ·obtain rfl:j=k+1:=by lia
    rw[ltP_no];lia
  ·rw[Hs,if_neg hb];refine⟨by lia,λj hj=>?_⟩
   rcases G7 j (k+1) with z |z
   ·exact h2 j (by lia)
   ·obtain rfl:j=k+1:=by lia
    simpa using hb
theorem best_max(f:Nat->Int×Int):∀k,Hs (λi j=>ltP (f j) (f i)) k<=k/\∀j,j<=k->ltP (f (Hs (λi j=>ltP (f j) (f i)) k)) (f j)=false
 |0=>⟨Fu _,λj hj=>by
  obtain rfl:j=0:=by lia
  rw[ltP_no];simp[Hs]⟩
 |k+1=>by
  obtain⟨h1,h2⟩:=best_max f k;by_cases hb:ltP (f (Hs (λi j=>ltP (f j) (f i)) k)) (f (k+1))=true
  ·rw[Hs,if_pos hb];refine⟨Fu _,λj hj=>?_⟩
   rw[uB]at hb;rcases G7 j (k+1) with z |z
   ·have:=ltP_no.mp (h2 j (by lia))
    rw[ltP_no];lia
   ·obtain rfl:j=k+1:=by lia
    rw[ltP_no];lia
  ·rw[Hs,if_neg hb];refine⟨by lia,λj hj=>?_⟩
   rcases G7 j (k+1) with z |z
   ·exact h2 j (by lia)
   ·obtain rfl:j=k+1:=by lia
    simpa using hb
end ST
namespace L2
open PySem PySem.Spec PyProof.Rows
variable {H0:Hp}{O0:List FI}
section
variable {X:Cx}{pts:List P2}{M:P2}
theorem xK{pins:List (FI×Obj)}{σ:List (Option V)}{H:Hp}{s:Fp}(I:Inv X pins σ H s){ws:List V}{QW:List Fq}(rv:aT ws QW)(rs:Rps X.K H ws (pts.map pu))(i:Nat)(y:Fq)(hy:QW.toArray[i]?=some y):
  i<pts.length/\∃c,y=.ref c/\ws[i]?=some (.ref c)/\∀prog w,ST.TK prog w s.heap [(pts.getD i (0,0)).1,(pts.getD i (0,0)).2] c:=by
 have T3:QW[i]?=some y:=by simpa using hy
 have hll:ws.length=pts.length:=by rw[rs.len,Fk]
 have hi:i<QW.length:=aC T3;have hw:i<ws.length:=by rw[rv.length];exact hi
 have hq:i<pts.length:=by lia
 obtain⟨u,e1,e2⟩:=rv.get (Fj hw);rw[T3]at e1;cases e1;have r:=rs.at_ i _ (pu (pts.getD i (0,0))) (Fj hw) (by rw[Ft,Fj hq];simp[hq])
 obtain⟨c,rfl,t⟩:=kB I r e2;refine⟨hq,c,rfl,?_,t⟩;rw[Fj hw];generalize ws[i]=z at *;cases r;cases e2;rfl
theorem BD{g:Nat}(hg:g<pts.length):(pts.map pu)[g]?=some (pu (pts.getD g (0,0))):=by
 rw[Ft,Fj hg];simp[hg]
theorem Dv(hc:X.calm=true)(hu:X.A.units+10<Ip)(hM:M∈pts)(hL:∀q∈pts,ST.ltP q M=false):fT X (.builtin "min") [lp pts] (pu M):=by
 intro pins s σ H vs us Q I r hq;obtain⟨O,d,rs,q⟩:=hq;obtain⟨v,rfl,h1⟩:=cA rs;obtain⟨p1,rfl,r1⟩:=fq r;cases h1 with
 | @lst a ws _ hq hl hh=>
  cases r1;obtain⟨QW,rv,pl,_⟩:=I.list (SqL.of (aq _ _ hq));have rs':Rps X.K (hid H O) ws (pts.map pu):=⟨hl,hh⟩;have Q5:QW.toArray.size=pts.length:=by rw[FL,<-rv.length,hl,Fk]
  have Sw:=xK (pts:=pts) I rv (rs'.same aq);have hn:0<pts.length:=GV hM;refine ST.call_minG (G:=λh=>∀(i:Nat) (y:Fq),QW.toArray[i]?=some y->∃c,y=.ref c/\ST.TK X.prog X.w h [(pts.getD i (0,0)).1,(pts.getD i (0,0)).2] c) (bt:=λi j=>ST.ltP (pts.getD i (0,0)) (pts.getD j (0,0))) (I.ok.hd hc) pl.isList (by rw[Q5];exact hn) (λi j vi vj s' Q' E' g hi hj k=>?_) (λi y hy=>?_) (λh h' _ _ k2 i y hy=>?_) λy h' tk hy kp=>?_
  ·obtain⟨c,rfl,t⟩:=g i vi hi;obtain⟨c',rfl,t'⟩:=g j vj hj;exact ST.lt_ptsR (show X.A.units+1<Ip by lia) t t' k
  ·obtain⟨_,c,rfl,_,t⟩:=Sw i y hy;exact⟨c,rfl,t _ _⟩
  ·obtain⟨_,c,rfl,_,t⟩:=Sw i y hy;obtain⟨o,items,n,ho,z⟩:=t X.prog X.w;exact⟨c,rfl,o,items,n,k2 c o ho,z⟩
  ·obtain⟨hg,c,rfl,hw,t⟩:=Sw _ y hy;obtain⟨b1,b2⟩:=ST.best_min (λi=>pts.getD i (0,0)) (QW.toArray.size-1)
   have e:pts.getD (Hs (λi j=>ST.ltP (pts.getD i (0,0)) (pts.getD j (0,0))) (QW.toArray.size-1)) (0,0)=M:=by
    rw[Q5]at b1 b2 hg |-;generalize Hs (λi j=>ST.ltP (pts.getD i (0,0)) (pts.getD j (0,0))) (pts.length-1)=g at *
    obtain⟨j,hj⟩:=GZ.mp hM;have k1:=b2 j (by have:=aC hj;lia)
    rw[show pts.getD j (0,0)=M by rw[FP,hj];rfl]at k1
    exact ST.ltP_one (hL _ (by simp[hg])) k1
   refine⟨.ref c,H,I.kept (t':=tk) kp,rfl,q _ H (.refl H) ?_⟩;have z:=rs'.at_ _ _ _ hw (BD hg);rw[e]at z;exact z
theorem Dm(hc:X.calm=true)(hu:X.A.units+10<Ip)(hM:M∈pts)(hL:∀q∈pts,ST.ltP M q=false):fT X (.builtin "max") [lp pts] (pu M):=by
 intro pins s σ H vs us Q I r hq;obtain⟨O,d,rs,q⟩:=hq;obtain⟨v,rfl,h1⟩:=cA rs;obtain⟨p1,rfl,r1⟩:=fq r;cases h1 with
 | @lst a ws _ hq hl hh=>
  cases r1;obtain⟨QW,rv,pl,_⟩:=I.list (SqL.of (aq _ _ hq));have rs':Rps X.K (hid H O) ws (pts.map pu):=⟨hl,hh⟩;have Q5:QW.toArray.size=pts.length:=by rw[FL,<-rv.length,hl,Fk]
  have Sw:=xK (pts:=pts) I rv (rs'.same aq);have hn:0<pts.length:=GV hM;refine ST.call_maxG (G:=λh=>∀(i:Nat) (y:Fq),QW.toArray[i]?=some y->∃c,y=.ref c/\ST.TK X.prog X.w h [(pts.getD i (0,0)).1,(pts.getD i (0,0)).2] c) (bt:=λi j=>ST.ltP (pts.getD j (0,0)) (pts.getD i (0,0))) (I.ok.hd hc) pl.isList (by rw[Q5];exact hn) (λi j vi vj s' Q' E' g hi hj k=>?_) (λi y hy=>?_) (λh h' _ _ k2 i y hy=>?_) λy h' tk hy kp=>?_
  ·obtain⟨c,rfl,t⟩:=g i vi hi;obtain⟨c',rfl,t'⟩:=g j vj hj;exact ST.gt_ptsR (show X.A.units+1<Ip by lia) t t' k
  ·obtain⟨_,c,rfl,_,t⟩:=Sw i y hy;exact⟨c,rfl,t _ _⟩
  ·obtain⟨_,c,rfl,_,t⟩:=Sw i y hy;obtain⟨o,items,n,ho,z⟩:=t X.prog X.w;exact⟨c,rfl,o,items,n,k2 c o ho,z⟩
  ·obtain⟨hg,c,rfl,hw,t⟩:=Sw _ y hy;obtain⟨b1,b2⟩:=ST.best_max (λi=>pts.getD i (0,0)) (QW.toArray.size-1)
   have e:pts.getD (Hs (λi j=>ST.ltP (pts.getD j (0,0)) (pts.getD i (0,0))) (QW.toArray.size-1)) (0,0)=M:=by
    rw[Q5]at b1 b2 hg |-;generalize Hs (λi j=>ST.ltP (pts.getD j (0,0)) (pts.getD i (0,0))) (pts.length-1)=g at *
    obtain⟨j,hj⟩:=GZ.mp hM;have k1:=b2 j (by have:=aC hj;lia)
    rw[show pts.getD j (0,0)=M by rw[FP,hj];rfl]at k1
    exact ST.ltP_one k1 (hL _ (by simp[hg]))
   refine⟨.ref c,H,I.kept (t':=tk) kp,rfl,q _ H (.refl H) ?_⟩;have z:=rs'.at_ _ _ _ hw (BD hg);rw[e]at z;exact z
variable {ps:PSt}{x:Str}{pos:Pos}{a b:Expr}{i j:Int}
theorem D9(hg:Gl X x)(h:∃t,X.mg x=some (.int i t))(hd:(x==("__debug__":Str))=false:=by decide):Ev X H0 O0 ps (.Name x pos) (.int i):=by
 obtain⟨t,hm⟩:=h;exact PE.mono (Bc (v:=.int i) hg hm ⟨t,rfl⟩ hd) λ_ H _ ⟨_,_,k⟩=>k _ H (.refl H) (.int i)
end
theorem Rs.free{K:Fm}{H0 H:Hp}{O0 O:List FI}{ps:PSt}{σ:St}{xs:List U}(n:Nat)(h:ps[n]?=some (some (.own xs)))(R:Rs K H0 O0 ps σ H O):∃O',(∀b∈O',b∈O)/\Rs K H0 O0 (ps.set n (some (.val (.lst xs)))) σ H O':=by
 obtain⟨v,hv,a,vs,rfl,ha,ha0,hH,rs⟩:=R.at_ n _ h;have less:∀b∈O.filter (λb=>decide (b≠a)),b∈O:=λb hb=>(GP.mp hb).1
 have keep:∀b∈O,b≠a->b∈O.filter (λb=>decide (b≠a)):=λb hb ne=>GP.mpr ⟨hb,by simpa using ne⟩
 have sm:aL (hid H O) (hid H (O.filter (λb=>decide (b≠a)))):=fh less
 have na:a ∉ O.filter (λb=>decide (b≠a)):=λz=>by have:=(GP.mp z).2;simp at this
 refine⟨O.filter (λb=>decide (b≠a)),less,R.same,λb hb=>keep b (R.old b hb) λe=>ha0 (e ▸ hb),λb hb=>R.new b (less b hb),λb hb=>R.dom b (less b hb),by rw[R.len,JH],λi s hs=>?_,λi j ys zs b h1 h2 h3 h4=>?_⟩
 ·rcases cN hs with ⟨rfl,e⟩ |⟨ne,hs⟩
  ·cases e;exact⟨.ref a,hv,.lst (dG hH na) (rs.same sm).len (rs.same sm).at_⟩
  ·obtain⟨w,hw,ok⟩:=R.at_ i s hs;refine⟨w,hw,?_⟩;cases s with
   |val u=>exact Rp.same sm ok
   |own ys=>
    obtain⟨b,ws,rfl,hb,hb0,hHb,rsb⟩:=ok;refine⟨b,ws,rfl,keep b hb λe=>?_,hb0,hHb,rsb.same sm⟩
    subst e;exact ne (R.inj n i _ _ b h hs hv hw)
   |pin z u=>exact⟨ok.1,Rp.same sm ok.2⟩
   |dsk w C b d QZ=>
    obtain⟨dx,kv,e1,e2,e3,e4,e5,e6⟩:=ok;exact⟨dx,kv,e1,keep d e2 (λe=>by rw[e,hH]at e5;cases e5),e3,e4,e5,e6.same sm⟩
 ·rcases cN h1 with ⟨_,e⟩ |⟨_,h1⟩
  ·cases e
  ·rcases cN h2 with ⟨_,e⟩ |⟨_,h2⟩
   ·cases e
   ·exact R.inj i j _ _ b h1 h2 h3 h4
section
variable {X:Cx}{E:XK}{ps:PSt}{D:PD}{ss:List I_}{e:Expr}{xs:List U}{b:Bool}
theorem mU(n:Nat)(h:ps[n]?=some (some (.own xs)))(w:Ws X H0 O0 E ss D (ps.set n (some (.val (.lst xs))))):Ws X H0 O0 E ss D ps:=
 PSs.mono w λD' σ H ⟨L,O,R⟩=>by
  obtain⟨O',_,R'⟩:=R.free n h;exact⟨L,O',R'⟩
end
section
variable {X:Cx}{ns:List Int}{M:Int}
theorem xz(hc:X.calm=true)(hM:M∈ns∧∀a∈ns,a≤M):fT X (.builtin "max") [.lst (ns.map U.int)] (.int M):=by
 intro pins s σ H vs us Q I r hq;obtain⟨O,d,rs,q⟩:=hq;obtain⟨v,rfl,h1⟩:=cA rs;obtain⟨p1,rfl,r1⟩:=fq r;cases h1 with
 | @lst a ws _ hq hl hh=>
  cases r1;obtain⟨QW,rv,pl,_⟩:=I.list (SqL.of (aq _ _ hq));have Q5:QW.length=ns.length:=by rw[<-rv.length,hl,Fk]
  have Sw:=kH (ns:=ns) rv ⟨hl,hh⟩;have hn:0<ns.length:=GV hM.1;refine call_max_walk (Iu pl.isList ?_);have RX:a<s.heap.objs.size:=by obtain⟨o,e,_⟩:=pl.isList;exact FC e
  refine⟨s.heap.objs.size,_,_,_,_,_,_,rfl,Walks.list (A:=X.A.in1) (I.ok.hd hc) s.heap.objs.size a (Ga RX) QW.toArray,⟨⟨_,FE _ rfl,rfl,rfl⟩,pl.isList.push _⟩,λb hb=>?_,by rw[FL,Q5];exact hn,CmpOf.ints_gt (λi=>ns.getD i 0) Sw,λv h' tk hP hk=>?_⟩
  ·show b<(s.heap.push _).objs.size;rw[HH];rcases Fw.mp hb with z |z
   ·rw[z];exact HI _
   ·rw[Fy.mp z];exact HP RX
  ·obtain⟨t,rfl⟩:=Sw _ _ hP;obtain⟨b1,b2⟩:=argBest_gt (λi=>ns.getD i 0) (QW.toArray.size-1)
   have e:ns.getD (Hs (λi j=>decide (ns.getD i 0 >ns.getD j 0)) (QW.toArray.size-1)) 0=M:=by
    rw[FL,Q5]at b1 b2 |-;generalize Hs (λi j=>decide (ns.getD i 0 >ns.getD j 0)) (ns.length-1)=g at *
    have hg:g<ns.length:=by lia
    obtain⟨j,hj,ej⟩:=G_ hM.1;have k1:=b2 j (by lia)
    have k2:=hM.2 ns[g] (GD hg);simp only[FP,Fj hg,Fj hj,Jd]at k1 |-;lia
   rw[e];refine⟨.int M,H,I.kept (t':=tk) λb o e=>hk b o ?_ (Fo _ e),⟨t,rfl⟩,q _ H (.refl H) (.int _)⟩
   intro z;have:b=s.heap.objs.size:=by simpa using z
   exact absurd (FC e) (by rw[this];exact Gh _)
variable {E:XK}{ps:PSt}{D:PD}{e:Expr}{pos:Pos}{xs ys:List U}
theorem yx(i:Nat){x:Str}{Rv Rj xp:Pos}(hp:ps[i]?=some (some (.own xs)))(ha:Ev X H0 O0 ps e (.lst ys))(hz:xs.length+ys.length<=sizeLine)(h:D.nx (ps.set i (some (.own (xs++ys)))))
  (hN:X.N[i]?=some x:=by rfl) (hv:Vis X.env.scope x:=by first |exact Or.inl rfl |exact Or.inr (Or.inl rfl) |exact Or.inr (Or.inr rfl)) (hd:(x==("__debug__":Str))=false:=by decide) (RR:(x==("__classdict__":Str))=false:=by decide)
  (RK:Lz (.Name x xp) "extend" X.env (JQ (.Name x xp) X.env)=JQ (.Name x xp) X.env:=by rfl)
  (Tn:((J5 Rj (FH [e] X.env)).all (λx=>!x.1) && (backToKw Rj (OX [] X.env)).all (λx=>x.1.isSome) && decide ([e].length+([]:List Oi).length+(if ([]:List Oi).isEmpty then 0 else 1)<30))=true:=by rfl)
  (RL:(Rv.endLine==Rj.line)=true:=by rfl) (hse:FH [e] X.env=(false,JQ e X.env)::FH [] X.env:=by rfl) (R0:(J5 Rj (FH [] X.env)).any (·.1)=false:=by rfl)
  (hs:JF (.Call (.Attribute (.Name x xp) "extend" Rv) [e] [] Rj) none pos.line X.env=pure false:=by rfl):W1 X H0 O0 E (.Expr (.Call (.Attribute (.Name x xp) "extend" Rv) [e] [] Rj) pos) D ps:=
 PS.mono (jN (B4 Kw PySem.F.slot_list_extend PySem.F.type_list_extend vy (ef hN hv hd RR) (dM ha gB hse) RK Tn RL hse R0) hs) λD' σ H ⟨L,O,R⟩=>by
  obtain⟨v,h1,a,vs,rfl,h3,h4,h5,h6⟩:=R.at_ i _ hp;refine⟨_,h1,.inl ⟨rfl,_,SqL.of h5⟩,O,R,λw H' s r=>?_⟩
  cases r with
  | @lst b zs _ hq hl hh=>
   refine⟨a,b,vs,zs,rfl,rfl,s _ _ h5,aq _ _ hq,by rw[h6.len,hl];exact hz,?_⟩
   exact L.nx _ _ _ O ((R.go s).write hp h1 ((h6.same (aY s)).snoc ⟨hl,hh⟩)) h
end
end L2
namespace L2
open PySem PySem.Spec PySem.W PyProof.Rows
structure zg(K:Fm)(x Q3:Str)(st:I_)(f:FI)(fd:Ia)(D:FI):Prop where
 ex:∃(oc:Fq) (od:Option FI) (kV RN pm:Fq) (an:Option FI) (Q6 ct:Fq) (SU:Array (Option Fq)),
  fd=IS x Q3 (b_ st) (bI st) (ak st) (.ref D) kV RN pm an Q6 ct/\K.lookup f=some ⟨oc,od,.func fd,SU⟩/\K7 K Q6 Q3=true
 kp:Jj K (.ref f)=true
theorem AQ{K:Fm}{x Q3:Str}{st:I_}{f D:FI}{oc:Fq}{od an:Option FI}{SU:Array (Option Fq)}{kV RN pm Q6 ct:Fq}(l:K.lookup f=some ⟨oc,od,.func (IS x Q3 (b_ st) (bI st) (ak st) (.ref D) kV RN pm an Q6 ct),SU⟩)
  (c:K7 K Q6 Q3=true) (k:Jj K (.ref f)=true):zg K x Q3 st f (IS x Q3 (b_ st) (bI st) (ak st) (.ref D) kV RN pm an Q6 ct) D:=⟨⟨oc,od,kV,RN,pm,an,Q6,ct,SU,rfl,l,c⟩,k⟩
section
variable {P:FK}{w:Gj}{K:Fm}{mg:Str→Option Fq}{base:HF}{N pn:List Str}{Q3 nm:Str}{f D:FI}
theorem zg.okF{x:Str}{st:I_}{fd:Ia}{k:Nat}{sp:Sp}(F:zg K x Q3 st f fd D)(S:aw N pn (ak st))(len:∀vs H Q E,sp vs H Q E->vs.length=pn.length)
  (Ry:∀(Q6:Fq) (A:Gs) (outer:List Env) (s:Fp) (H:Hp) (vs:List V) (Q:VK) (E:XK),eE k (A.deeper (M0 Q3 (ak st) s.heap.objs.size f Q6))->sp vs H Q E->
   ∃t,PSs (nN (CXF P w) P w K mg base N Q3 (ak st) f Q6 A outer s H E) (bI st) t/\t {nx:=λ_ H'=>Q .non H',rt:=Q } (start N vs) H):bg P w K mg base (CXF P w) (k+1) f fd pn sp:=by
 obtain⟨oc,od,kV,RN,pm,an,Q6,ct,SU,rfl,lk,RR⟩:=F.ex;exact BB lk RR S len λA outer s H vs Q E hr Sq=>Ry Q6 A outer s H vs Q E hr Sq
theorem Cb{st:I_}{fd:Ia}{k:Nat}{Rq:List U->Out->Prop}(F:zg K nm Q3 st f fd D)(S:aw N pn (ak st))(len:∀us o,Rq us o->us.length=pn.length)
  (Ry:∀(Q6:Fq) (A:Gs) (outer:List Env) (s:Fp) (H:Hp) (E:XK) (O:List FI) (us:List U) (o:Out),eE k (A.deeper (M0 Q3 (ak st) s.heap.objs.size f Q6))->Rq us o->
   Ws (nN (CXF P w) P w K mg base N Q3 (ak st) f Q6 A outer s H E) H O E (bI st) ⟨λ_=>o=.val .non,λo'=>o'=o,λ_=>False,λ_=>False⟩ (f8 N us)):bg P w K mg base (CXF P w) (k+1) f fd pn (spU K Rq):=by
 refine F.okF S (λvs H Q E h=>?_) λQ6 A outer s H vs Q E hr h=>?_
 ·obtain⟨us,O,o,_,r,Sq,_⟩:=h;rw[r.len];exact len us o Sq
 ·obtain⟨us,O,o,d,r,Sq,q⟩:=h;refine⟨_,Ry Q6 A outer s H E O us o hr Sq,⟨λps σ H' O' R e=>?_,λ_ _ _ _ _ e=>e.elim,λ_ _ _ _ _ e=>e.elim,λo' e=>by subst e;exact q⟩,O,?_⟩
  ·subst e;exact q .non H' R.same .non
  ·refine⟨.refl H,λa h=>h,λa h=>.inl h,d,?_,λi sl e=>?_,λi j xs ys a e1 e2 _ _=>?_⟩
   ·unfold start f8;rw[FT,FT,Fk,Fk,Jg,Jg,r.len]
   ·unfold f8 at e;by_cases hi:i<us.length
    ·rw[FR (by simpa using hi),Ft,Fj hi]at e
     cases e;obtain⟨v,h1,h2⟩:=r.get (Fj hi);refine⟨v,?_,h2⟩;unfold start;rw[FR (by simpa [r.len] using hi),Ft,h1];rfl
    ·rw[FS (by simpa using hi),IR]at e
     split at e <;>cases e
   ·exfalso
    unfold f8 at e1;by_cases hi:i<us.length
    ·rw[FR (by simpa using hi),Ft,Fj hi]at e1
     cases e1
    ·rw[FS (by simpa using hi),IR]at e1
     split at e1 <;>cases e1
end
section
variable {X:Cx}{H0:Hp}{O0:List FI}{ps:PSt}{e:Expr}{es:List Expr}{pos p:Pos}{u:U}{us:List U}{xs:List U}{CX:CXT}{n:Nat}{f:FI}{fd:Ia}{pn:List Str}{Rq:List U→Out→Prop}{nm:Str}{j:Int}
theorem Al(F:bg X.prog X.w X.K X.mg X.base CX n f fd pn (spU X.K Rq))(hr:eE n X.A)(hg:Gl X nm)(hm:X.mg nm=some (.ref f))(hk:Jj X.K (.ref f)=true)(hb:∃t,dY X.K fd pn [.int j t])(hx:iZ CX X E0)
  (ha:EvA X H0 O0 ps (e::es) us) (h:Rq (us++[.int j]) (.val u)) (Sk:(nm==("__debug__":Str))=false:=by decide) (he:FH (e::es) X.env=(false,JQ e X.env)::FH es X.env:=by rfl) (RH:(J5 pos (FH es X.env)).any (·.1)=false:=by rfl):
  Ev X H0 O0 ps (.Call (.Name nm p) (e::es) [] pos) u:=by
 obtain⟨t,hb⟩:=hb;refine PE.mono (nj F hr hg hm hk hb (.cons (show a9 (.int j) (.int j t) from ⟨t,rfl⟩) .nil) hx ha Sk he RH) λσ H Q ⟨O,R,q⟩=>⟨O,R,λvs H1 s1 r1=>?_⟩
 show spU X.K Rq (vs++[.int j]) H1 Q _;exact⟨us++[.int j],O,.val u,(R.go s1).dom,r1.snoc (.cons (.int _) .nil),h,λv H2 s2 r2=>q v H2 (s1.trans s2) r2⟩
end
end L2
namespace L2
open PySem PySem.Spec PyProof.Rows
theorem vh{P:FK}{w:Gj}{K:Fm}{tg:Expr}(it:FI)(lo:Int)(n:Nat):vR P w K tg (Itr lo n) [it] it (λi h=>IsLongIter h it (lo+(i:Nat) *1) ((n:Int)-(i:Nat)) 1) where
 mem:=by simp
 obj:=λi h st b hb=>by
  have e:b=it:=by simpa using hb
  subst e
  exact⟨_,st,λv z=>by
   have z':Data.fields _=Data.cell v:=z;cases z'⟩
 keep:=λi h h' st k=>k it (by simp) _ st
 item:=by
  intro X hP hw hK hc i pins s σ H E I hf st hg;subst hP hw hK;obtain⟨f0,f1,f2,f3,f4,f5⟩:=hf it (by simp)
  have W:=Walks.longrange (prog:=X.prog) (w:=X.w) (I.ok.hd hc) it lo 1 n;refine W.item i s _ _ hg st λv h' tk hv QX kk=>?_
  obtain⟨t,rfl⟩:=hv;have I1:Inv X pins σ H {s with heap:=h',toks:=tk }:=I.turned (λb o hb e=>kk b o (by simpa using hb) e) f0 f1 f3 f4 f5
  refine⟨_,rfl,pY (s:={s with heap:=h',toks:=tk }) (n:="longrange_iterator") QX rfl rfl (by decide) ⟨.int (lo+i),H,I1,⟨t,?_⟩,⟨rfl,rfl⟩,QX,λb hb=>(hf b hb).1⟩⟩
  rw[Mo]
 done:=by
  intro X hP hw hK hc i pins s σ H E I hf st hg;subst hP hw hK;obtain⟨f0,f1,f2,f3,f4,f5⟩:=hf it (by simp)
  exact wpAny_pyNext_long_end (I.ok.hd hc) st (by have:n<=i:=hg;lia) λh' eb=>⟨rfl,I.turned (t':=s.toks) (λb o hb e=>eb b o hb e) f0 f1 f3 f4 f5⟩
 self:=λ_ _ _ _ _ st h=>wpAny_pyIter_longiter st h
section
variable {X:Cx}{tg:Expr}
theorem lU{pins:List (FI×Obj)}{σ:St}{H:Hp}{s:Fp}{R:It->Hp->Prop}{E:Fq->Fp->Prop}{lo hi:Int}{t u v:Tok}{tk:Nat}(I:Inv X pins σ H s)
  (q:R (Itr lo (hi-lo).toNat) H):FX (F7 X.prog X.w) X.A (NS (.ref s.heap.objs.size)) (PIE X pins σ tg R) E {s with heap:=s.heap.push {cls:=.type "range",data:=.fields #[.int lo t,.int hi u,.int 1 v] },toks:=tk }:=by
 have I1:Inv X pins σ H {s with heap:=s.heap.push {cls:=.type "range",data:=.fields #[.int lo t,.int hi u,.int 1 v] },toks:=tk }:=I.kept λb o e=>Fo _ e
 have e1:lo+((0:Nat):Int) *1=lo:=by simp
 have e2:(((hi-lo).toNat:Nat):Int)-((0:Nat):Int)=Builtin.Range.rangeSize lo hi 1:=by rw[rangeSize_one];split <;>lia
 by_cases hs:Builtin.Range.small lo hi 1=true
 ·refine NT (IsRange.new ..) hs ?_
  refine⟨(s.heap.push {cls:=.type "range",data:=.fields #[.int lo t,.int hi u,.int 1 v] }).objs.size,[(s.heap.push {cls:=.type "range",data:=.fields #[.int lo t,.int hi u,.int 1 v] }).objs.size],_,_,H,rfl,
   I1.kept (t':=tk) λb o e=>Fo _ e,j3 _ lo (hi-lo).toNat,?_,λb hb=>?_,q⟩
  ·show OV _ _ (lo+((0:Nat):Int) *1) ((((hi-lo).toNat:Nat):Int)-((0:Nat):Int)) 1;rw[e1,e2];exact FE _ rfl
  ·have e:b=(s.heap.push {cls:=.type "range",data:=.fields #[.int lo t,.int hi u,.int 1 v] }).objs.size:=by simpa using hb
   subst e;exact I1.fpOk (Fu _) (I1.hok.fresh (Fu _))
 ·refine wpAny_pyIter_longrange (IsRange.new ..) (by simpa using hs) ?_
  refine⟨(s.heap.push {cls:=.type "range",data:=.fields #[.int lo t,.int hi u,.int 1 v] }).objs.size,[(s.heap.push {cls:=.type "range",data:=.fields #[.int lo t,.int hi u,.int 1 v] }).objs.size],_,_,H,rfl,
   I1.kept (t':=tk) λb o e=>Fo _ e,vh _ lo (hi-lo).toNat,?_,λb hb=>?_,q⟩
  ·show IsLongIter _ _ (lo+((0:Nat):Int) *1) ((((hi-lo).toNat:Nat):Int)-((0:Nat):Int)) 1;rw[e1,e2];exact FE _ rfl
  ·have e:b=(s.heap.push {cls:=.type "range",data:=.fields #[.int lo t,.int hi u,.int 1 v] }).objs.size:=by simpa using hb
   subst e;exact I1.fpOk (Fu _) (I1.hok.fresh (Fu _))
def CY(ta:TA):TI:=λσ H R=>ta σ H λvs H1=>∃i j:Int,vs=[.int i,.int j]/\R (Itr i (j-i).toNat) H1
theorem rm{a b:Expr}{ta:TA}{p pos:Pos}(hg:Gl X "range")(hm:X.mg "range"=none)(ha:PA X [a,b] ta)(hs:FH [a,b] X.env=[(false,JQ a X.env),(false,JQ b X.env)]:=by rfl)(hs2:FH [b] X.env=[(false,JQ b X.env)]:=by rfl):
  PI X tg (.Call (.Name "range" p) [a,b] [] pos) (CY ta):=by
 intro pins s σ H R I h;refine Call_ (df I hg hm P1 (PyProof.Rows.callWith_type1 (thn (ha pos pins s σ H _ I h) λus s1 ⟨vs,H1,I1,r1,q1⟩=>?_) (by rw[hs,hs2]) (by rw[hs2];rfl)))
 obtain⟨i,j,e,q⟩:=q1;subst e;cases r1 with
 |cons r rr=>
  cases rr with
  |cons r' rr=>
   cases rr;obtain⟨t,rfl⟩:=r;obtain⟨t',rfl⟩:=r';exact call_range_2 (lU I1 q)
variable {H0:Hp}{O0:List FI}{ps:PSt}{a b:Expr}{p pos:Pos}
theorem uQ{i j:Int}(hg:Gl X "range")(hm:X.mg "range"=none)(ha:EvA X H0 O0 ps [a,b] [.int i,.int j])(hs:FH [a,b] X.env=[(false,JQ a X.env),(false,JQ b X.env)]:=by rfl)(hs2:FH [b] X.env=[(false,JQ b X.env)]:=by rfl):
  EvI X H0 O0 ps tg (.Call (.Name "range" p) [a,b] [] pos) (fA i (j-i).toNat):=
 PI.mono (rm hg hm ha hs hs2) λσ H Q ⟨O,R,q⟩=>⟨O,R,λvs H' s r=>by
  obtain⟨v,w,rfl,k1,k2⟩:=iK r;cases k1;cases k2;exact⟨i,j,rfl,q _ H' s kj⟩⟩
end
end L2
namespace TS
open PySem PyProof.Rows
def ny:Bool->GE->Array GE->Nat->Nat->Nat->StateT HC Sem (Option Nat):=sortPriv% PySem.Builtin.gallop
variable {prog:FK}{w:Gj}{E:Fq→Fp→Prop}{s:Fp}
section
variable {A:Gs}
def gt(a:Array GE)(i:Nat):GE:=a.getD i (F4,F4)
theorem gt_eq{a:Array GE}{i:Nat}(h:i<a.toList.length):gt a i=a.toList[i]:=by
 have h':i<a.size:=by simpa using h
 simp[gt,JT,h']
theorem bO{a:Array GE}{i:Nat}(h:i<a.size):gt a i∈a.toList:=by rw[gt_eq (by simpa using h)];exact GD _
theorem el{a:Array GE}{i:Nat}{st:HC}{Q:GE->HC->Prop}(hi:i<a.size)(h:Q (gt a i) st):wpS (F7 prog w) A E s (elem' a i) Q st:=by
 rw[elem'_eq,Gf hi];refine FY ?_;rw[gt_eq (by simpa using hi)]at h
 simpa using h
variable {M:QS}{σ:Type}
theorem wif{α:Type}{c:Prop}[Decidable c]{x y:StateT σ Sem α}{Q:α->σ->Prop}{st:σ}(h:c->wpS M A E s x Q st)(k:¬ c->wpS M A E s y Q st):wpS M A E s (if c then x else y) Q st:=by
 by_cases e:c
 ·rw[if_pos e];exact h e
 ·rw[if_neg e];exact k e
theorem gal{left:Bool}{key:GE}{arr:Array GE}{base n hint:Nat}{st:HC}{Q:Option Nat->HC->Prop}{f:Nat->Bool}{p:Nat}(hh:hint<n)
  (Tc:∀i,i<n->base+i<arr.size)
  (hT:left=true->∀i (Q:Option Bool->HC->Prop),i<n->Q (some (f i)) st->wpS (F7 prog w) A E s (lt' (gt arr (base+i)) key) Q st)
  (hF:left=false->∀i (Q:Option Bool->HC->Prop),i<n->Q (some (!f i)) st->wpS (F7 prog w) A E s (lt' key (gt arr (base+i))) Q st)
  (hp:p<=n) (hf:∀i,i<n->(f i=true↔i<p)) (h:Q (some p) st):wpS (F7 prog w) A E s (ny left key arr base n hint) Q st:=by
 have hb:∀{i:Nat}{Q:Option Bool->HC->Prop},i<n->Q (some (f i)) st->wpS (F7 prog w) A E s (do
   let x <-elem' arr (base+i)
   if left then lt' x key else return (<-lt' key x).map (!·)) Q st:=λ{i Q} hi hq=>by
  refine FN (el (Tc _ hi) ?_);cases left with
  |true=>exact hT rfl _ _ hi hq
  |false=>exact FN (hF rfl _ _ hi (FY (by simpa using hq)))
 refine FN (hb hh ?_);dsimp -zeta only
 extract_lets+onlyGivenNames j
 have hj:∀a b lo hi,lo<=p->p<=hi->hi<=n->wpS (F7 prog w) A E s (j () a b lo hi) Q st:=λ_ _ lo hi b1 b2 b3=>by
  refine FN (Jn (IU (I:=λx c RF=>RF=st/\∃lo hi,c=(none,lo,hi)/\lo<=p/\p<=hi/\hi<=n/\hi-lo<=n-x) (Q:=λc RF=>RF=st/\∃lo,c=(none,lo,p)) ?_ ?_ ⟨rfl,_,_,rfl,b1,b2,b3,by lia⟩) ?_)
  ·rintro x c _ _ hx ⟨rfl,lo,hi,rfl,a1,a2,a3,a4⟩;refine wif (λ(hlh:lo ≥ hi)=>FY ⟨rfl,lo,by rw[show hi=p by lia]⟩) λhlh=>?_
   have hlh:¬ lo ≥ hi:=hlh;have hm:lo+(hi-lo)/2<n:=by lia
   dsimp only;refine FN (hb hm (wif (λTH=>?_) λTH=>?_))
   ·have:=(hf _ hm).mp TH;exact FY ⟨rfl,_,_,rfl,by lia,a2,a3,by lia⟩
   ·have:¬ lo+(hi-lo)/2<p:=λz=>TH ((hf _ hm).mpr z)
    exact FY ⟨rfl,_,_,rfl,a1,by lia,by lia,by lia⟩
  ·rintro c _ ⟨rfl,lo,hi,rfl,a1,a2,a3,a4⟩;exact⟨rfl,lo,by rw[show hi=p by lia]⟩
  ·rintro c _ ⟨rfl,lo,rfl⟩;exact FY h
 refine wif (λhr=>?_) λhr=>?_
 ·have hhp:=(hf hint hh).mp hr;refine FN (Jn (IU (I:=λx c QX=>QX=st/\∃la Rx,c=(none,la,Rx)/\x+1<=Rx/\la<Rx/\hint+la<p) (Q:=λc QX=>QX=st/\∃la Rx,c=(none,la,Rx)/\la<Rx/\hint+la<p/\p<=hint+min Rx (n-hint)) ?_ ?_ ⟨rfl,0,1,rfl,Fu _,by lia,by lia⟩) ?_)
  ·rintro x c _ _ hx ⟨rfl,la,Rx,rfl,a1,a2,a3⟩;refine wif (λ(ho:Rx ≥ n-hint)=>FY ⟨rfl,la,Rx,rfl,a2,a3,by lia⟩) λho=>?_
   have ho:¬ Rx ≥ n-hint:=ho;have hm:hint+Rx<n:=by lia
   dsimp only;refine FN (hb hm (wif (λTH=>?_) λTH=>?_))
   ·have:¬ hint+Rx<p:=λz=>by simp[(hf _ hm).mpr z]at TH
    exact FY ⟨rfl,la,Rx,rfl,a2,a3,by lia⟩
   ·have:=(hf _ hm).mp (by simpa using TH)
    exact FY ⟨rfl,_,_,rfl,by lia,by lia,this⟩
  ·rintro c _ ⟨rfl,la,Rx,rfl,a1,a2,a3⟩;exact⟨rfl,la,Rx,rfl,a2,a3,by lia⟩
  rintro c _ ⟨rfl,la,Rx,rfl,a1,a2,a3⟩;exact hj 0 0 (hint+la+1) (hint+min Rx (n-hint)) (by lia) a3 (by lia)
 ·have hhp:¬ hint<p:=λz=>hr ((hf hint hh).mpr z)
  refine FN (Jn (IU (I:=λx c QX=>QX=st/\∃la Rx,c=(none,la,Rx)/\x+1<=Rx/\la<Rx/\la<=hint/\p<=hint-la) (Q:=λc QX=>QX=st/\∃la Rx,c=(none,la,Rx)/\la<=hint/\p<=hint-la/\hint+1-min Rx (hint+1)<=p) ?_ ?_ ⟨rfl,0,1,rfl,Fu _,by lia,by lia,by lia⟩) ?_)
  ·rintro x c _ _ hx ⟨rfl,la,Rx,rfl,a1,a2,a3,a4⟩;refine wif (λ(ho:Rx ≥ hint+1)=>FY ⟨rfl,la,Rx,rfl,a3,a4,by lia⟩) λho=>?_
   have ho:¬ Rx ≥ hint+1:=ho;have hm:hint-Rx<n:=by lia
   dsimp only;refine FN (hb hm (wif (λTH=>?_) λTH=>?_))
   ·have:=(hf _ hm).mp TH;exact FY ⟨rfl,la,Rx,rfl,a3,a4,by lia⟩
   ·have:¬ hint-Rx<p:=λz=>TH ((hf _ hm).mpr z)
    exact FY ⟨rfl,_,_,rfl,by lia,by lia,by lia,by lia⟩
  ·rintro c _ ⟨rfl,la,Rx,rfl,a1,a2,a3,a4⟩;exact⟨rfl,la,Rx,rfl,a3,a4,by lia⟩
  rintro c _ ⟨rfl,la,Rx,rfl,a1,a2,a3⟩;exact hj 0 0 (hint+1-min Rx (hint+1)) (hint-la) a3 a2 (by lia)
end
def lI:Nat->StateT HC Sem Unit:=sortPriv% PySem.Builtin.setMinGallop
abbrev eV(st:HC)(g:Nat):HC:=SortSt.mk' (kindOf st) (Gu st) (I0 st) g (LA st)
def xx:Array GE->Array GE->StateT HC Sem (Array GE):=sortPriv% PySem.Builtin.mergeLo
section
variable {α:Type}{R:α→α→Bool}{A B out:List α}{ia ib:Nat}
structure MI(R:α->α->Bool)(A B out:List α)(ia ib:Nat):Prop where
 perm:out.Perm (A.take ia++B.take ib)
 srt:out.Pairwise λx y=>R x y=true
 lA:∀x∈out,∀y∈A.drop ia,R x y=true
 lB:∀x∈out,∀y∈B.drop ib,R x y=true
structure MO(R:α->α->Bool)(A B:List α):Prop where
 tr:∀x y z,R x y=true->R y z=true->R x z=true
 sA:A.Pairwise λx y=>R x y=true
 sB:B.Pairwise λx y=>R x y=true
 tot:∀x∈A,∀y∈B,R y x=false->R x y=true
theorem fB(tr:∀x y z,R x y=true->R y z=true->R x z=true){L:List α}(sL:L.Pairwise λx y=>R x y=true){i:Nat}(hi:i<L.length){x:α}(h:R x L[i]=true):∀y∈L.drop i,R x y=true:=λy hy=>by
 rw[Gp hi]at hy;rcases Fw.mp hy with e |e
 ·rw[e];exact h
 ·have:=(Gg.mp (by rw[<-Gp hi];exact sL.sublist (Jt i L))).1 y e
  exact tr _ _ _ h this
theorem mf{L:List α}(sL:L.Pairwise λx y=>R x y=true){i:Nat}(hi:i<L.length):∀y∈L.drop (i+1),R L[i] y=true:=λy hy=>
 (Gg.mp (by rw[<-Gp hi];exact sL.sublist (Jt i L))).1 y hy
theorem gV{L:List α}{i:Nat}{y:α}(h:y∈L.drop (i+1)):y∈L.drop i:=by
 rw[<-PN]at h;exact Im h
theorem jB{L:List α}{i:Nat}(hi:i<L.length):L[i]∈L.drop i:=by rw[Gp hi];exact Fv
theorem MI.pushA(O:MO R A B)(I:MI R A B out ia ib)(hi:ia<A.length)(h:∀y∈B.drop ib,R A[ia] y=true):MI R A B (out++[A[ia]]) (ia+1) ib where
 perm:=by
  rw[Jm hi];refine (I.perm.append_right _).trans ?_;rw[FF,FF];exact Hq _ HS
 srt:=GQ.mpr ⟨I.srt,by simp,λx hx y hy=>by rw[Fy.mp hy];exact I.lA x hx _ (jB hi)⟩
 lA:=λx hx y hy=>by
  rcases FB.mp hx with e |e
  ·exact I.lA x e y (gV hy)
  ·rw[Fy.mp e];exact mf O.sA hi y hy
 lB:=λx hx y hy=>by
  rcases FB.mp hx with e |e
  ·exact I.lB x e y hy
  ·rw[Fy.mp e];exact h y hy
theorem MI.pushB(O:MO R A B)(I:MI R A B out ia ib)(hi:ib<B.length)(h:∀y∈A.drop ia,R B[ib] y=true):MI R A B (out++[B[ib]]) ia (ib+1) where
 perm:=by
  rw[Jm hi,<-FF];exact I.perm.append_right _
 srt:=GQ.mpr ⟨I.srt,by simp,λx hx y hy=>by rw[Fy.mp hy];exact I.lB x hx _ (jB hi)⟩
 lA:=λx hx y hy=>by
  rcases FB.mp hx with e |e
  ·exact I.lA x e y hy
  ·rw[Fy.mp e];exact h y hy
 lB:=λx hx y hy=>by
  rcases FB.mp hx with e |e
  ·exact I.lB x e y (gV hy)
  ·rw[Fy.mp e];exact mf O.sB hi y hy
theorem MI.runA(O:MO R A B)(hb:ib<B.length):∀(k:Nat) {out:List α}{ia:Nat},MI R A B out ia ib->ia+k<=A.length->(∀i (h:ia+i<A.length),i<k->R A[ia+i] B[ib]=true)->MI R A B (out++(A.drop ia).take k) (ia+k) ib
 |0,out,ia,I,_,_=>by simpa using I
 |k+1,out,ia,I,hk,h=>by
  have hi:ia<A.length:=by lia
  have I':=I.pushA O hi (fB O.tr O.sB hb (h 0 (by lia) (by lia)))
  have:=MI.runA O hb k I' (by lia) (λi Q9 hik=>by
   have:=h (i+1) (by lia) (by lia)
   have e:A[ia+1+i]=A[ia+(i+1)]'(by lia):=by congr 1;lia
   rw[e];exact this)
  rw[Gp hi,LF];rw[FF,show ia+1+k=ia+(k+1) by lia]at this
  exact this
theorem MI.runB(O:MO R A B)(ha:ia<A.length):∀(k:Nat) {out:List α}{ib:Nat},MI R A B out ia ib->ib+k<=B.length->(∀i (h:ib+i<B.length),i<k->R B[ib+i] A[ia]=true)->MI R A B (out++(B.drop ib).take k) ia (ib+k)
 |0,out,ib,I,_,_=>by simpa using I
 |k+1,out,ib,I,hk,h=>by
  have hi:ib<B.length:=by lia
  have I':=I.pushB O hi (fB O.tr O.sA ha (h 0 (by lia) (by lia)))
  have:=MI.runB O ha k I' (by lia) (λi Q9 hik=>by
   have:=h (i+1) (by lia) (by lia)
   have e:B[ib+1+i]=B[ib+(i+1)]'(by lia):=by congr 1;lia
   rw[e];exact this)
  rw[Gp hi,LF];rw[FF,show ib+1+k=ib+(k+1) by lia]at this
  exact this
def Mgd(R:α->α->Bool)(A B r:List α):Prop:=r.Perm (A++B)/\r.Pairwise λx y=>R x y=true
theorem MI.perm_all(I:MI R A B out ia ib):(out++A.drop ia++B.drop ib).Perm (A++B):=by
 have h:(out++A.drop ia++B.drop ib).Perm ((A.take ia++B.take ib)++A.drop ia++B.drop ib):=(I.perm.append_right _).append_right _;refine h.trans ?_;have e:A++B=(A.take ia++A.drop ia)++(B.take ib++B.drop ib):=by rw[Gc,Gc]
 rw[e,FF,FF,FF];refine Hq _ ?_;rw[<-FF,<-FF];exact MS _ HS
theorem MI.doneB(O:MO R A B)(I:MI R A B out ia ib)(h:ib=B.length):Mgd R A B (out++A.drop ia++B.drop ib):=by
 refine⟨I.perm_all,?_⟩;rw[h,OJ,Ib];exact GQ.mpr ⟨I.srt,O.sA.sublist (Jt _ _),I.lA⟩
theorem MI.doneA(O:MO R A B)(I:MI R A B out ia ib)(h:ia=A.length):Mgd R A B (out++A.drop ia++B.drop ib):=by
 refine⟨I.perm_all,?_⟩;rw[h,OJ,Ib];exact GQ.mpr ⟨I.srt,O.sB.sublist (Jt _ _),I.lB⟩
theorem MI.last(O:MO R A B)(I:MI R A B out ia ib)(h:ia+1=A.length)(hl:∀y∈B,R y (A[ia]'(by lia))=true):Mgd R A B (out++B.drop ib++A.drop ia):=by
 refine⟨?_,?_⟩
 ·refine Pa ?_ I.perm_all;rw[FF,FF];exact Hq _ HS
 ·have e:A.drop ia=[A[ia]'(by lia)]:=by rw[Gp (by lia),List.drop_of_length_le (by lia)]
  rw[e];refine GQ.mpr ⟨GQ.mpr ⟨I.srt,O.sB.sublist (Jt _ _),I.lB⟩,by simp,λx hx y hy=>?_⟩
  rw[Fy.mp hy];rcases FB.mp hx with z |z
  ·exact I.lA x z _ (by rw[e];simp)
  ·exact hl x (Im z)
end
section
variable {M:QS}{A:Gs}{σ:Type}
theorem qx{β:Type}{n:Nat}{f:Nat->β->StateT σ Sem (ForInStep β)}(I:Nat->β->σ->Prop){Q:β->σ->Prop}
  (hstep:∀i c st,i<n->I i c st->∀post:ForInStep β->σ->Prop,(∀c QX,Q c QX->post (.done c) QX)->(∀c QX,I (i+1) c QX->post (.yield c) QX)->wpS M A E s (f i c) post st)
  (hend:∀c st,I n c st->Q c st) {c:β}{st:σ} (h:I 0 c st):wpS M A E s (QI [0:n] c f) Q st:=
 IU I (λi c st _ hi hI=>hstep i c st hi hI _ (λ_ _ h=>h) (λ_ _ h=>h)) (λc st h=>hend c st (by rwa [Nat.zero_max]at h)) h
theorem hv{α β:Type}{v:β}{f:β->StateT σ Sem α}{Q:α->σ->Prop}{st:σ}(h:wpS M A E s (f v) Q st):wpS M A E s (have x:=v;f x) Q st:=h
theorem ru{x:String}{Q:Unit->HC->Prop}{st:HC}(h:Q () st):wpS (F7 prog w) A E s (liftM (rule x)) Q st:=wpS_lift (Jb ⟨rfl,h⟩)
def Asks(prog:FK)(w:Gj)(A:Gs)(E:Fq->Fp->Prop)(s:Fp)(κ:Kh)(P:GE->Prop)(R:GE->GE->Bool):Prop:=
 ∀x y st (Q:Option Bool->HC->Prop),P x->P y->kindOf st=κ->Q (some (R x y)) st->wpS (F7 prog w) A E s (lt' x y) Q st
theorem ug{n:Nat}(q:Nat->Bool)(mono:∀i j,i<j->j<n->q j=true->q i=true):∃k,k<=n/\(∀i,i<k->q i=true)/\∀i,k<=i->i<n->q i=false:=by
 have go:∀m,m<=n->(∀i,m<=i->i<n->q i=false)->∃k,k<=n/\(∀i,i<k->q i=true)/\∀i,k<=i->i<n->q i=false:=by
  intro m
  induction m with
  |zero=>intro _ hm;exact⟨0,GN _,λi h=>by lia,hm⟩
  |succ m ih=>
   intro T4 hm;by_cases hr:q m=true
   ·refine⟨m+1,T4,λi him=>?_,hm⟩
    rcases F2 (Hx him) with z |z
    ·exact mono i m z (by lia) hr
    ·subst z;exact hr
   ·refine ih (by lia) λi him hi=>?_
    rcases F2 him with z |z
    ·exact hm i z hi
    ·subst z;simpa using hr
 exact go n (Fu _) λi h1 h2=>by lia
variable {κ:Kh}{P:GE→Prop}{R:GE→GE→Bool} (K:Asks prog w A E s κ P R)
include K
theorem DG{key:GE}{b:Array GE}{ib n hint:Nat}{st:HC}{Q:Option Nat->HC->Prop}(hk:kindOf st=κ)(hn:ib+n<=b.size)(hh:hint<n)(pk:P key)(pb:∀i,i<n->P (gt b (ib+i)))(tr:∀x y z,R x y=true->R y z=true->R x z=true)(sb:∀i j,i<j->j<n->R (gt b (ib+i)) (gt b (ib+j))=true)
  (h:∀k,k<=n->(∀i,i<k->R (gt b (ib+i)) key=true)->(∀i,k<=i->i<n->R (gt b (ib+i)) key=false)->Q (some k) st):wpS (F7 prog w) A E s (ny true key b ib n hint) Q st:=by
 obtain⟨k,kn,k1,k2⟩:=ug (n:=n) (λi=>R (gt b (ib+i)) key) λi j h1 h2 hj=>tr _ _ _ (sb i j h1 h2) hj
 refine gal (f:=λi=>R (gt b (ib+i)) key) (p:=k) hh (λi hi=>by lia) (λ_ i Q' hi hq=>K _ _ _ _ (pb i hi) pk hk hq) (λz=>by cases z) kn (λi hi=>?_) (h k kn k1 k2)
 ·constructor
  ·intro hr;rcases G7 i k with z |z
   ·exact z
   ·rw[k2 i z hi]at hr;cases hr
  ·intro z;exact k1 i z
theorem Cg{key:GE}{b:Array GE}{ib n hint:Nat}{st:HC}{Q:Option Nat->HC->Prop}(hk:kindOf st=κ)(hn:ib+n<=b.size)(hh:hint<n)(pk:P key)(pb:∀i,i<n->P (gt b (ib+i)))(tr:∀x y z,R x y=true->R y z=true->R x z=true)(sb:∀i j,i<j->j<n->R (gt b (ib+i)) (gt b (ib+j))=true)
  (h:∀k,k<=n->(∀i,i<k->R key (gt b (ib+i))=false)->(∀i,k<=i->i<n->R key (gt b (ib+i))=true)->Q (some k) st):wpS (F7 prog w) A E s (ny false key b ib n hint) Q st:=by
 obtain⟨k,kn,k1,k2⟩:=ug (n:=n) (λi=>!R key (gt b (ib+i))) λi j h1 h2 hj=>by
  rw[Bool.not_eq_true']at hj |-;cases hc:R key (gt b (ib+i)) with
  |false=>rfl
  |true=>rw[tr _ _ _ hc (sb i j h1 h2)]at hj;cases hj
 refine gal (f:=λi=>!R key (gt b (ib+i))) (p:=k) hh (λi hi=>by lia) (λz=>by cases z) (λ_ i Q' hi hq=>K _ _ _ _ pk (pb i hi) hk (by simpa using hq)) kn (λi hi=>?_) (h k kn (λi hi=>by simpa using k1 i hi) λi h1 h2=>by simpa using k2 i h1 h2)
 ·constructor
  ·intro hr;rcases G7 i k with z |z
   ·exact z
   ·have:=k2 i z hi;rw[this]at hr;cases hr
  ·intro z;exact k1 i z
omit K in
theorem i8(a:Array GE)(i:Nat):(a.extract i a.size).toList=a.toList.drop i:=by simp[Iq]
omit K in
theorem gK(a:Array GE)(i k:Nat):(a.extract i (i+k)).toList=(a.toList.drop i).take k:=by simp
omit K in
theorem sg{g:Nat}{st:HC}{Q:Unit->HC->Prop}(h:Q () (eV st g)):wpS (F7 prog w) A E s (lI g) Q st:=K0 h
theorem mlo{a b:Array GE}{st:HC}{Q:Array GE->HC->Prop}(O:MO R a.toList b.toList)(pa:∀x∈a.toList,P x)(pb:∀x∈b.toList,P x)(ha:0<a.size)(hb:0<b.size)(h0:R (gt b 0) (gt a 0)=true)(hl:∀y∈b.toList,R y (gt a (a.size-1))=true)(hk:kindOf st=κ)
  (h:∀r g,Mgd R a.toList b.toList r.toList->Q r (eV st g)):wpS (F7 prog w) A E s (xx a b) Q st:=by
 have la:a.toList.length=a.size:=by simp
 have lb:b.toList.length=b.size:=by simp
 have dn:∀{out:Array GE}{ia ib:Nat},MI R a.toList b.toList out.toList ia ib->ib=b.size->Mgd R a.toList b.toList (out++a.extract ia a.size++b.extract ib b.size).toList:=λ{out ia ib} I e=>by
  rw[Gq,Gq,i8,i8];exact I.doneB O (by lia)
 have ls:∀{out:Array GE}{ia ib:Nat},MI R a.toList b.toList out.toList ia ib->ia+1=a.size->Mgd R a.toList b.toList (out++b.extract ib b.size++a.extract ia a.size).toList:=λ{out ia ib} I e=>by
  rw[Gq,Gq,i8,i8];refine I.last O (by lia) λy hy=>?_
  have:=hl y hy;rw[show a.size-1=ia by lia,gt_eq (by lia)]at this
  exact this
 have pA:∀{out:Array GE}{ia ib:Nat},MI R a.toList b.toList out.toList ia ib->ia<a.size->ib<b.size->R (gt b ib) (gt a ia)=false->MI R a.toList b.toList (out.push (gt a ia)).toList (ia+1) ib:=λ{out ia ib} I h1 h2 hr=>by
  rw[IV,gt_eq (show ia<a.toList.length by lia)]
  refine I.pushA O (by lia) (fB O.tr O.sB (show ib<b.toList.length by lia) ?_)
  rw[gt_eq (show ib<b.toList.length by lia),gt_eq (show ia<a.toList.length by lia)]at hr
  exact O.tot _ (GD _) _ (GD _) hr
 have pB:∀{out:Array GE}{ia ib:Nat},MI R a.toList b.toList out.toList ia ib->ia<a.size->ib<b.size->R (gt b ib) (gt a ia)=true->MI R a.toList b.toList (out.push (gt b ib)).toList ia (ib+1):=λ{out ia ib} I h1 h2 hr=>by
  rw[IV,gt_eq (show ib<b.toList.length by lia)]
  refine I.pushB O (by lia) (fB O.tr O.sA (show ia<a.toList.length by lia) ?_)
  rw[gt_eq (show ib<b.toList.length by lia),gt_eq (show ia<a.toList.length by lia)]at hr
  exact hr
 have sa:∀{ia n:Nat},ia+n<=a.size->∀i j,i<j->j<n->R (gt a (ia+i)) (gt a (ia+j))=true:=λ{ia n} hn i j h1 h2=>by
  rw[gt_eq (show ia+i<a.toList.length by lia),gt_eq (show ia+j<a.toList.length by lia)]
  exact FO.mp O.sA _ _ _ _ (by lia)
 have sb:∀{ib n:Nat},ib+n<=b.size->∀i j,i<j->j<n->R (gt b (ib+i)) (gt b (ib+j))=true:=λ{ib n} hn i j h1 h2=>by
  rw[gt_eq (show ib+i<b.toList.length by lia),gt_eq (show ib+j<b.toList.length by lia)]
  exact FO.mp O.sB _ _ _ _ (by lia)
 have dA:∀{out:Array GE}{ia ib:Nat},MI R a.toList b.toList out.toList ia ib->ia=a.size->Mgd R a.toList b.toList (out++a.extract ia a.size++b.extract ib b.size).toList:=λ{out ia ib} I e=>by
  rw[Gq,Gq,i8,i8];exact I.doneA O (by lia)
 have rA:∀{out:Array GE}{ia ib k:Nat},MI R a.toList b.toList out.toList ia ib->ib<b.size->ia+k<=a.size->(∀i,i<k->R (gt b ib) (gt a (ia+i))=false)->MI R a.toList b.toList (out++a.extract ia (ia+k)).toList (ia+k) ib:=λ{out ia ib k} I h2 h1 hr=>by
  rw[Gq,gK];refine I.runA O (show ib<b.toList.length by lia) k (by lia) λi h hi=>?_
  have:=hr i hi;rw[gt_eq (show ib<b.toList.length by lia),gt_eq h]at this
  exact O.tot _ (GD _) _ (GD _) this
 have rB:∀{out:Array GE}{ia ib k:Nat},MI R a.toList b.toList out.toList ia ib->ia<a.size->ib+k<=b.size->(∀i,i<k->R (gt b (ib+i)) (gt a ia)=true)->MI R a.toList b.toList (out++b.extract ib (ib+k)).toList ia (ib+k):=λ{out ia ib k} I h2 h1 hr=>by
  rw[Gq,gK];refine I.runB O (show ia<a.toList.length by lia) k (by lia) λi h hi=>?_
  have:=hr i hi;rw[gt_eq (show ia<a.toList.length by lia),gt_eq h]at this
  exact this
 have start:MI R a.toList b.toList (#[gt b 0]:Array GE).toList 0 1:=by
  have e:(#[gt b 0]:Array GE)=(#[]:Array GE).push (gt b 0):=rfl;rw[e];exact pB ⟨by simp,by simp,by simp,by simp⟩ ha hb h0
 refine FN (ru ?_);refine FN (el hb ?_);refine hv (hv (hv ?_));refine wif (λe1=>FY (h _ (N9 st) (dn start (by simpa using e1)))) λe1=>?_
 have e1':1<b.size:=by simp at e1;lia
 refine wif (λe2=>FY (h _ (N9 st) (ls start (by simpa using e2)))) λe2=>?_
 have e2':1<a.size:=by simp at e2;lia
 refine FN (L1 ?_);refine hv ?_;refine FN (Jn (qx (I:=λx c QX=>∃g out ia ib mg,QX=eV st g/\c=(none,out,ia,ib,mg)/\MI R a.toList b.toList out.toList ia ib/\ia+1<a.size/\ib<b.size/\x+1<=ia+ib) (Q:=λc QX=>∃g r rest,QX=eV st g/\c=(some r,rest)/\Mgd R a.toList b.toList r.toList) ?step ?fin ⟨N9 st,_,_,_,_,rfl,rfl,start,e2',e1',Fu _⟩) ?post)
 case fin=>
  rintro c QX ⟨g,out,ia,ib,mg,rfl,rfl,I,i1,i2,pr⟩
  exfalso;lia
 case post=>
  rintro c QX ⟨g,r,rest,rfl,rfl,m⟩;exact FY (h r g m)
 case step=>
  rintro x c QX hx ⟨g,out,ia,ib,mg,rfl,rfl,I,i1,i2,pr⟩ post pd py;refine hv (hv (hv (hv (hv (hv (hv (hv (hv ?_))))))));refine FN (Jn (qx (I:=λx2 c QX=>∃out ia ib ac bc,QX=eV st g/\c=(none,out,ia,ib,ac,bc)/\MI R a.toList b.toList out.toList ia ib/\ia+1<a.size/\ib<b.size/\x+1+x2<=ia+ib) (Q:=λc QX=>QX=eV st g/\((∃r rest,c=(some r,rest)/\Mgd R a.toList b.toList r.toList)\/∃out ia ib ac bc,c=(none,out,ia,ib,ac,bc)/\MI R a.toList b.toList out.toList ia ib/\ia+1<a.size/\ib<b.size/\x+2<=ia+ib)) ?s2 ?f2 ⟨out,ia,ib,0,0,rfl,rfl,I,i1,i2,pr⟩) ?p2)
  case f2=>
   rintro c QX ⟨out,ia,ib,ac,bc,rfl,rfl,I,j1,j2,pr'⟩
   exfalso;lia
  case s2=>
   rintro y c QX hy ⟨out,ia,ib,ac,bc,rfl,rfl,I,j1,j2,pr'⟩ post2 qd qy;dsimp only;have j0:ia<a.size:=by lia
   refine FN (el j2 ?_);refine FN (el j0 ?_);refine FN (K _ _ _ _ (pb _ (bO j2)) (pa _ (bO j0)) hk ?_);dsimp only;refine wif (λhw=>FN (el j2 ?_)) λhw=>FN (el j0 ?_)
   ·have I2:=pB I j0 j2 hw;refine wif (λeb=>FY (qd _ _ ⟨rfl,.inl ⟨_,_,rfl,dn I2 (by simpa using eb)⟩⟩)) λeb=>?_
    have Ud:ib+1<b.size:=by simp at eb;lia
    exact wif (λhm=>FY (qd _ _ ⟨rfl,.inr ⟨_,_,_,_,_,rfl,I2,j1,Ud,by lia⟩⟩)) λhm=>FY (qy _ _ ⟨_,_,_,_,_,rfl,rfl,I2,j1,Ud,by lia⟩)
   ·have I2:=pA I j0 j2 (by simpa using hw)
    refine wif (λea=>FY (qd _ _ ⟨rfl,.inl ⟨_,_,rfl,ls I2 (by simpa using ea)⟩⟩)) λea=>?_
    have ea':ia+1+1<a.size:=by simp at ea;lia
    exact wif (λhm=>FY (qd _ _ ⟨rfl,.inr ⟨_,_,_,_,_,rfl,I2,ea',j2,by lia⟩⟩)) λhm=>FY (qy _ _ ⟨_,_,_,_,_,rfl,rfl,I2,ea',j2,by lia⟩)
  case p2=>
   rintro c QX ⟨rfl,⟨r,rest,rfl,m⟩ |⟨out,ia,ib,ac,bc,rfl,I,i1,i2,pr⟩⟩
   ·exact FY (pd _ _ ⟨g,r,_,rfl,rfl,m⟩)
   ·refine hv (hv (hv (hv (hv (hv (hv (hv (hv (hv ?_)))))))));refine FN (ru ?_);refine hv ?_;refine FN (Jn (qx (I:=λx3 c QX=>∃g out ia ib mg ac bc,QX=eV st g/\c=(none,out,ia,ib,mg,ac,bc)/\MI R a.toList b.toList out.toList ia ib/\ia+1<a.size/\ib<b.size/\x+2+x3<=ia+ib) (Q:=λc QX=>∃g,QX=eV st g/\((∃r rest,c=(some r,rest)/\Mgd R a.toList b.toList r.toList)\/∃out ia ib mg ac bc,c=(none,out,ia,ib,mg,ac,bc)/\MI R a.toList b.toList out.toList ia ib/\ia+1<a.size/\ib<b.size/\x+2<=ia+ib)) ?s3 ?f3 ⟨g,out,ia,ib,_,ac,bc,rfl,rfl,I,i1,i2,pr⟩) ?p3)
    case f3=>
     rintro c QX ⟨g,out,ia,ib,mg,ac,bc,rfl,rfl,I,j1,j2,pr'⟩
     exfalso;lia
    case p3=>
     rintro c QX ⟨g,rfl,⟨r,rest,rfl,m⟩ |⟨out,ia,ib,mg,ac,bc,rfl,I,i1,i2,pr⟩⟩
     ·exact FY (pd _ _ ⟨g,r,_,rfl,rfl,m⟩)
     ·refine hv (hv (hv (hv (hv (hv (hv (hv (hv (hv (hv (hv ?_)))))))))));refine hv ?_;refine FN (sg ?_);exact FY (py _ _ ⟨_,_,_,_,_,rfl,rfl,I,i1,i2,pr⟩)
    case s3=>
     rintro x3 c QX hx3 ⟨g,out,ia,ib,mg,ac,bc,rfl,rfl,I,j1,j2,pr'⟩ post3 qd qy;dsimp -zeta only
     extract_lets+onlyGivenNames q1 q2 q3 q4 q5 q6 q7 q8 q9 q10 q11 q12 j
     have hj:∀m,wpS (F7 prog w) A E s (j () m) post3 (eV st g):=λm=>by
      refine FN (sg ?_);dsimp -zeta only[q1,q2,q3,q4,q5,q6,q7,q8,q9,q10,q11,q12];refine FN (el j2 (FN (Cg K hk (show ia+(a.size-ia)<=a.size by lia) (by lia) (pb _ (bO j2)) (λi hi=>pa _ (bO (by lia))) O.tr (sa (by lia)) λk kn k1 k2=>?_)))
      dsimp -zeta only
      extract_lets+onlyGivenNames r1 j'
      have hj:∀o i,MI R a.toList b.toList o.toList i ib->i+1<a.size->ia<=i->R (gt b ib) (gt a i)=true->wpS (F7 prog w) A E s (j' () o i) post3 (eV st m):=λout i I l1 l0 hr=>by
       have i0:i<a.size:=by lia
       have I3:=pB I i0 j2 hr;refine FN (el j2 (wif (λeb=>FY (qd _ _ ⟨_,rfl,.inl ⟨_,_,rfl,dn I3 (by simpa using eb)⟩⟩)) λeb=>?_))
       have Ud:ib+1<b.size:=by simp at eb;lia
       refine FN (el i0 (FN (DG K hk (show ib+1+(b.size-(ib+1))<=b.size by lia) (by lia) (pa _ (bO i0)) (λi hi=>pb _ (bO (by lia))) O.tr (sb (by lia)) λl ln m1 m2=>?_)))
       dsimp -zeta only
       extract_lets+onlyGivenNames r2 r3 j''
       have hj:∀o n,MI R a.toList b.toList o.toList i n->n<b.size->ib<n->R (gt b n) (gt a i)=false->wpS (F7 prog w) A E s (j'' () o n) post3 (eV st m):=λout n I l1 l0 hr=>by
        have I6:=pA I i0 l1 hr;refine FN (el i0 (wif (λea=>FY (qd _ _ ⟨_,rfl,.inl ⟨_,_,rfl,ls I6 (by simpa using ea)⟩⟩)) λea=>?_))
        have e6:i+1+1<a.size:=by simp at ea;lia
        exact wif (λ_=>FY (qd _ _ ⟨_,rfl,.inr ⟨_,_,_,_,_,_,rfl,I6,e6,l1,by lia⟩⟩)) λ_=>FY (qy _ _ ⟨_,_,_,_,_,_,_,rfl,rfl,I6,e6,l1,by lia⟩)
       refine wif (λhl0=>?_) λhl0=>hj _ _ I3 Ud (by lia) (m2 0 (by lia) (by lia))
       have I4:=rB I3 i0 (show ib+1+l<=b.size by lia) m1
       refine wif (λec=>FY (qd _ _ ⟨_,rfl,.inl ⟨_,_,rfl,dn I4 (by simpa using ec)⟩⟩)) λec=>?_
       have ec':ib+1+l<b.size:=by simp at ec;lia
       exact hj _ _ I4 ec' (by lia) (m2 l (Fu _) (by lia))
      refine wif (λhk0=>?_) λhk0=>hj _ _ I j1 (by lia) (k2 0 (by lia) (by lia))
      have I2:=rA I j2 (show ia+k<=a.size by lia) k1
      refine wif (λec=>FY (qd _ _ ⟨_,rfl,.inl ⟨_,_,rfl,ls I2 (by simpa using ec)⟩⟩)) λec=>wif (λed=>FY (qd _ _ ⟨_,rfl,.inl ⟨_,_,rfl,dA I2 (by simpa using ed)⟩⟩)) λed=>?_
      have e1:¬ ia+k+1=a.size:=by simpa using ec
      have e2:¬ ia+k=a.size:=by simpa using ed
      exact hj _ _ I2 (by lia) (by lia) (k2 k (Fu _) (by lia))
     exact wif (λ_=>hj _) λ_=>hj _
end
section
variable {α:Type}{R:α→α→Bool}{A B:List α}
theorem sX(L:List α)(i k:Nat)(h:i+k<=L.length):((L.drop i).take k).reverse=(L.reverse.drop (L.length-i-k)).take k:=by
 apply List.ext_getElem
 ·simp;lia
 ·intro n h1 h2;simp only[Gx,IJ,Jc]at h1 h2;simp only[NA,K3,JY,IJ,Jc];congr 1;lia
theorem wp(L:List α)(n:Nat)(h:n<=L.length):L.reverse.drop (L.length-n)=(L.take n).reverse:=by
 rw[List.drop_reverse,Nat.sub_sub_self h]
theorem MO.rev(O:MO R A B):MO (λx y=>R y x) B.reverse A.reverse where
 tr:=λ_ _ _ h1 h2=>O.tr _ _ _ h2 h1
 sA:=HU.mpr O.sB
 sB:=HU.mpr O.sA
 tot:=λx hx y hy h=>O.tot y (FM.mp hy) x (FM.mp hx) h
theorem Mgd.rev{r:List α}(m:Mgd (λx y=>R y x) B.reverse A.reverse r):Mgd R A B r.reverse:=
 ⟨(Mi r).trans (m.1.trans ((HS).trans ((Mi A).append (Mi B)))),HU.mpr m.2⟩
end
section
variable {prog:FK}{w:Gj}{A:Gs}{E:Fq→Fp→Prop}{s:Fp}{κ:Kh}{P:GE→Prop}{R:GE→GE→Bool} (K:Asks prog w A E s κ P R)
theorem fE{a:Array GE}{n i:Nat}(hn:n<=a.size)(hi:i<n)(h:a.size-n+i<a.toList.reverse.length):a.toList.reverse[a.size-n+i]=gt a (n-1-i):=by
 rw[NA,gt_eq (by simp;lia)]
 congr 1;simp;lia
def zu:Array GE->Array GE->StateT HC Sem (Array GE):=sortPriv% PySem.Builtin.mergeHi
include K
theorem mhi{a b:Array GE}{st:HC}{Q:Array GE->HC->Prop}(O:MO R a.toList b.toList)(pa:∀x∈a.toList,P x)(pb:∀x∈b.toList,P x)(ha:0<a.size)(hb:0<b.size)(h0:R (gt b (b.size-1)) (gt a (a.size-1))=true)(hl:∀y∈a.toList,R (gt b 0) y=true)(hk:kindOf st=κ)
  (h:∀r g,Mgd R a.toList b.toList r.toList->Q r (eV st g)):wpS (F7 prog w) A E s (zu a b) Q st:=by
 have la:a.toList.reverse.length=a.size:=by simp
 have lb:b.toList.reverse.length=b.size:=by simp
 have O':=O.rev
 have xa:∀n,n<=a.size->(a.extract 0 n).toList=(a.toList.reverse.drop (a.size-n)).reverse:=λn hn=>by
  have:=wp a.toList n (by simpa using hn)
  rw[Fx]at this;rw[this,IM];simp
 have xb:∀n,n<=b.size->(b.extract 0 n).toList=(b.toList.reverse.drop (b.size-n)).reverse:=λn hn=>by
  have:=wp b.toList n (by simpa using hn)
  rw[Fx]at this;rw[this,IM];simp
 have dn:∀{out:Array GE}{na nb:Nat},MI (λx y=>R y x) b.toList.reverse a.toList.reverse out.toList (b.size-nb) (a.size-na)->nb<=b.size->na=0->Mgd R a.toList b.toList (a.extract 0 na++b.extract 0 nb++out.reverse).toList:=λ{out na nb} I hn e=>by
  have:=(I.doneB O' (by lia)).rev
  rw[Ht,Ht,<-FF,<-xa na (by lia),<-xb nb hn]at this
  rw[Gq,Gq,Jo];exact this
 have dA:∀{out:Array GE}{na nb:Nat},MI (λx y=>R y x) b.toList.reverse a.toList.reverse out.toList (b.size-nb) (a.size-na)->na<=a.size->nb=0->Mgd R a.toList b.toList (a.extract 0 na++b.extract 0 nb++out.reverse).toList:=λ{out na nb} I hn e=>by
  have:=(I.doneA O' (by lia)).rev
  rw[Ht,Ht,<-FF,<-xa na hn,<-xb nb (by lia)]at this
  rw[Gq,Gq,Jo];exact this
 have ls:∀{out:Array GE}{na nb:Nat},MI (λx y=>R y x) b.toList.reverse a.toList.reverse out.toList (b.size-nb) (a.size-na)->na<=a.size->nb=1->Mgd R a.toList b.toList (b.extract 0 nb++a.extract 0 na++out.reverse).toList:=λ{out na nb} I hn e=>by
  have:=(I.last O' (by lia) λy hy=>by
   have z:=hl y (FM.mp hy);have g:=fE (a:=b) (n:=nb) (i:=0) (by lia) (by lia) (by lia)
   simp only[JJ]at g;rw[g,e];exact z).rev
  rw[Ht,Ht,<-FF,<-xa na hn,<-xb nb (by lia)]at this
  rw[Gq,Gq,Jo];exact this
 have pB:∀{out:Array GE}{na nb:Nat},MI (λx y=>R y x) b.toList.reverse a.toList.reverse out.toList (b.size-nb) (a.size-na)->0<na->na<=a.size->0<nb->nb<=b.size->R (gt b (nb-1)) (gt a (na-1))=true->MI (λx y=>R y x) b.toList.reverse a.toList.reverse (out.push (gt a (na-1))).toList (b.size-nb) (a.size-(na-1)):=λ{out na nb} I h1 h2 h3 h4 hr=>by
  have g:=fE (a:=a) (n:=na) (i:=0) h2 h1 (by lia)
  have g2:=fE (a:=b) (n:=nb) (i:=0) h4 h3 (by lia)
  simp only[JJ,Ng]at g g2;rw[IV,<-g,show a.size-(na-1)=a.size-na+1 by lia]
  refine I.pushB O' (by lia) (fB O'.tr O'.sA (by lia) ?_)
  rw[g,g2];exact hr
 have pA:∀{out:Array GE}{na nb:Nat},MI (λx y=>R y x) b.toList.reverse a.toList.reverse out.toList (b.size-nb) (a.size-na)->0<na->na<=a.size->0<nb->nb<=b.size->R (gt b (nb-1)) (gt a (na-1))=false->MI (λx y=>R y x) b.toList.reverse a.toList.reverse (out.push (gt b (nb-1))).toList (b.size-(nb-1)) (a.size-na):=λ{out na nb} I h1 h2 h3 h4 hr=>by
  have g:=fE (a:=a) (n:=na) (i:=0) h2 h1 (by lia)
  have g2:=fE (a:=b) (n:=nb) (i:=0) h4 h3 (by lia)
  simp only[JJ,Ng]at g g2;rw[IV,<-g2,show b.size-(nb-1)=b.size-nb+1 by lia]
  refine I.pushA O' (by lia) (fB O'.tr O'.sB (by lia) ?_)
  rw[g,g2];exact O.tot _ (bO (by lia)) _ (bO (by lia)) hr
 have rB:∀{out:Array GE}{na nb k:Nat},MI (λx y=>R y x) b.toList.reverse a.toList.reverse out.toList (b.size-nb) (a.size-na)->k<=na->na<=a.size->0<nb->nb<=b.size->(∀i,k<=i->i<na->R (gt b (nb-1)) (gt a i)=true)->MI (λx y=>R y x) b.toList.reverse a.toList.reverse (out++(a.extract k na).reverse).toList (b.size-nb) (a.size-k):=λ{out na nb k} I h1 h2 h3 h4 hr=>by
  have e:(a.extract k na).reverse.toList=(a.toList.reverse.drop (a.size-na)).take (na-k):=by
   rw[Jo,<-show k+(na-k)=na by lia,gK,sX _ _ _ (by rw[Fx];lia),Fx]
   congr 1
   ·lia
   ·congr 1;lia
  rw[Gq,e,show a.size-k=a.size-na+(na-k) by lia]
  refine I.runB O' (by lia) _ (by lia) λi h hi=>?_
  have g2:=fE (a:=b) (n:=nb) (i:=0) h4 h3 (by lia)
  simp only[JJ,Ng]at g2;rw[fE h2 (by lia),g2]
  exact hr _ (by lia) (by lia)
 have rA:∀{out:Array GE}{na nb k:Nat},MI (λx y=>R y x) b.toList.reverse a.toList.reverse out.toList (b.size-nb) (a.size-na)->k<=nb->nb<=b.size->0<na->na<=a.size->(∀i,k<=i->i<nb->R (gt b i) (gt a (na-1))=false)->MI (λx y=>R y x) b.toList.reverse a.toList.reverse (out++(b.extract k nb).reverse).toList (b.size-k) (a.size-na):=λ{out na nb k} I h1 h2 h3 h4 hr=>by
  have e:(b.extract k nb).reverse.toList=(b.toList.reverse.drop (b.size-nb)).take (nb-k):=by
   rw[Jo,<-show k+(nb-k)=nb by lia,gK,sX _ _ _ (by rw[Fx];lia),Fx]
   congr 1
   ·lia
   ·congr 1;lia
  rw[Gq,e,show b.size-k=b.size-nb+(nb-k) by lia]
  refine I.runA O' (by lia) _ (by lia) λi h hi=>?_
  have g2:=fE (a:=a) (n:=na) (i:=0) h4 h3 (by lia)
  simp only[JJ,Ng]at g2;rw[fE h2 (by lia),g2]
  exact O.tot _ (bO (by lia)) _ (bO (by lia)) (hr _ (by lia) (by lia))
 have sa:∀{n:Nat},n<=a.size->∀i j,i<j->j<n->R (gt a (0+i)) (gt a (0+j))=true:=λ{n} hn i j h1 h2=>by
  rw[gt_eq (show 0+i<a.toList.length by rw[Fx];lia),gt_eq (show 0+j<a.toList.length by rw[Fx];lia)]
  exact FO.mp O.sA _ _ _ _ (by lia)
 have sb:∀{n:Nat},n<=b.size->∀i j,i<j->j<n->R (gt b (0+i)) (gt b (0+j))=true:=λ{n} hn i j h1 h2=>by
  rw[gt_eq (show 0+i<b.toList.length by rw[Fx];lia),gt_eq (show 0+j<b.toList.length by rw[Fx];lia)]
  exact FO.mp O.sB _ _ _ _ (by lia)
 have sA:∀{n:Nat},0<n->n<=a.size->n-1<a.size:=λh k=>F6 (Qi h Pb) k
 have sB:∀{n:Nat},0<n->n<=b.size->n-1<b.size:=λh k=>F6 (Qi h Pb) k
 have start:MI (λx y=>R y x) b.toList.reverse a.toList.reverse (#[gt a (a.size-1)]:Array GE).toList (b.size-b.size) (a.size-(a.size-1)):=by
  have e:(#[gt a (a.size-1)]:Array GE)=(#[]:Array GE).push (gt a (a.size-1)):=rfl;rw[e];exact pB ⟨by simp,by simp,by simp,by simp⟩ ha (Fu _) hb (Fu _) h0
 refine FN (ru ?_);refine FN (el (sA ha (Fu _)) ?_)
 try dsimp -zeta only
 refine wif (λe1=>FY (h _ (N9 st) (dn start (Fu _) (by simpa using e1)))) λe1=>?_
 have e1':0<a.size-1:=by simp at e1;lia
 refine wif (λe2=>FY (h _ (N9 st) (ls start (by lia) (by simpa using e2)))) λe2=>?_
 have e2':1<b.size:=by simp at e2;lia
 refine FN (L1 ?_)
 try dsimp -zeta only
 refine FN (Jn (qx (I:=λx c QX=>∃g na nb out mg,QX=eV st g/\c=(none,na,nb,out,mg)/\MI (λx y=>R y x) b.toList.reverse a.toList.reverse (out).toList (b.size-nb) (a.size-na)/\0<na/\na<=a.size/\1<nb/\nb<=b.size/\x+1<=(a.size-na)+(b.size-nb)) (Q:=λc QX=>∃g r rest,QX=eV st g/\c=(some r,rest)/\Mgd R a.toList b.toList r.toList) ?step ?fin ⟨N9 st,_,_,_,_,rfl,rfl,start,e1',by lia,e2',Fu _,by lia⟩) ?post)
 case fin=>
  rintro c QX ⟨g,na,nb,out,mg,rfl,rfl,I,i1,i2,i3,i4,pr⟩
  exfalso;lia
 case post=>
  rintro c QX ⟨g,r,rest,rfl,rfl,m⟩;exact FY (h r g m)
 case step=>
  rintro x c QX hx ⟨g,na,nb,out,mg,rfl,rfl,I,i1,i2,i3,i4,pr⟩ post pd py;refine FN (Jn (qx (I:=λx2 c QX=>∃na nb out ac bc,QX=eV st g/\c=(none,na,nb,out,ac,bc)/\MI (λx y=>R y x) b.toList.reverse a.toList.reverse (out).toList (b.size-nb) (a.size-na)/\0<na/\na<=a.size/\1<nb/\nb<=b.size/\x+1+x2<=(a.size-na)+(b.size-nb)) (Q:=λc QX=>QX=eV st g/\((∃r rest,c=(some r,rest)/\Mgd R a.toList b.toList r.toList)\/∃na nb out ac bc,c=(none,na,nb,out,ac,bc)/\MI (λx y=>R y x) b.toList.reverse a.toList.reverse (out).toList (b.size-nb) (a.size-na)/\0<na/\na<=a.size/\1<nb/\nb<=b.size/\x+2<=(a.size-na)+(b.size-nb))) ?s2 ?f2 ⟨na,nb,out,0,0,rfl,rfl,I,i1,i2,i3,i4,pr⟩) ?p2)
  case f2=>
   rintro c QX ⟨na,nb,out,ac,bc,rfl,rfl,I,i1,i2,i3,i4,pr⟩
   exfalso;lia
  case s2=>
   rintro y c QX hy ⟨na,nb,out,ac,bc,rfl,rfl,I,i1,i2,i3,i4,pr⟩ post2 qd qy
   try dsimp only
   have i5:0<nb:=JX i3;refine FN (el (sB i5 i4) ?_);refine FN (el (sA i1 i2) ?_);refine FN (K _ _ _ _ (pb _ (bO (sB i5 i4))) (pa _ (bO (sA i1 i2))) hk ?_)
   try dsimp only
   refine wif (λhw=>FN (el (sA i1 i2) ?_)) λhw=>FN (el (sB i5 i4) ?_)
   ·have I2:=pB I i1 i2 i5 i4 hw;refine wif (λeb=>FY (qd _ _ ⟨rfl,.inl ⟨_,_,rfl,dn I2 i4 (by simpa using eb)⟩⟩)) λeb=>?_
    have Ud:0<na-1:=by simp at eb;lia
    exact wif (λhm=>FY (qd _ _ ⟨rfl,.inr ⟨_,_,_,_,_,rfl,I2,Ud,by lia,i3,i4,by lia⟩⟩)) λhm=>FY (qy _ _ ⟨_,_,_,_,_,rfl,rfl,I2,Ud,by lia,i3,i4,by lia⟩)
   ·have I2:=pA I i1 i2 i5 i4 (by simpa using hw)
    refine wif (λea=>FY (qd _ _ ⟨rfl,.inl ⟨_,_,rfl,ls I2 i2 (by simpa using ea)⟩⟩)) λea=>?_
    have ea':1<nb-1:=by simp at ea;lia
    exact wif (λhm=>FY (qd _ _ ⟨rfl,.inr ⟨_,_,_,_,_,rfl,I2,i1,i2,ea',by lia,by lia⟩⟩)) λhm=>FY (qy _ _ ⟨_,_,_,_,_,rfl,rfl,I2,i1,i2,ea',by lia,by lia⟩)
  case p2=>
   rintro c QX ⟨rfl,⟨r,rest,rfl,m⟩ |⟨na,nb,out,ac,bc,rfl,I,i1,i2,i3,i4,pr⟩⟩
   ·exact FY (pd _ _ ⟨g,r,_,rfl,rfl,m⟩)
   ·refine FN (ru ?_);refine FN (Jn (qx (I:=λx3 c QX=>∃g na nb out mg ac bc,QX=eV st g/\c=(none,na,nb,out,mg,ac,bc)/\MI (λx y=>R y x) b.toList.reverse a.toList.reverse (out).toList (b.size-nb) (a.size-na)/\0<na/\na<=a.size/\1<nb/\nb<=b.size/\x+2+x3<=(a.size-na)+(b.size-nb)) (Q:=λc QX=>∃g,QX=eV st g/\((∃r rest,c=(some r,rest)/\Mgd R a.toList b.toList r.toList)\/∃na nb out mg ac bc,c=(none,na,nb,out,mg,ac,bc)/\MI (λx y=>R y x) b.toList.reverse a.toList.reverse (out).toList (b.size-nb) (a.size-na)/\0<na/\na<=a.size/\1<nb/\nb<=b.size/\x+2<=(a.size-na)+(b.size-nb))) ?s3 ?f3 ⟨g,na,nb,out,_,ac,bc,rfl,rfl,I,i1,i2,i3,i4,pr⟩) ?p3)
    case f3=>
     rintro c QX ⟨g,na,nb,out,mg,ac,bc,rfl,rfl,I,i1,i2,i3,i4,pr⟩
     exfalso;lia
    case p3=>
     rintro c QX ⟨g,rfl,⟨r,rest,rfl,m⟩ |⟨na,nb,out,mg,ac,bc,rfl,I,i1,i2,i3,i4,pr⟩⟩
     ·exact FY (pd _ _ ⟨g,r,_,rfl,rfl,m⟩)
     ·refine FN (sg ?_);exact FY (py _ _ ⟨_,_,_,_,_,rfl,rfl,I,i1,i2,i3,i4,pr⟩)
    case s3=>
     rintro x3 c QX hx3 ⟨g,na,nb,out,mg,ac,bc,rfl,rfl,I,i1,i2,i3,i4,pr⟩ post3 qd qy;dsimp -zeta only
     extract_lets+onlyGivenNames q1 q2 q3 q4 q5 q6 q7 q8 q9 q10 q11 q12 j
     have hj:∀m,wpS (F7 prog w) A E s (j () m) post3 (eV st g):=λm=>by
      refine FN (sg ?_);dsimp -zeta only[q1,q2,q3,q4,q5,q6,q7,q8,q9,q10,q11,q12];have i5:0<nb:=JX i3;refine FN (el (sB i5 i4) (FN (Cg K hk (show 0+na<=a.size by lia) (Qi i1 Pb) (pb _ (bO (sB i5 i4))) (λi hi=>pa _ (bO (by lia))) O.tr (sa (by lia)) λk kn k1 k2=>?_)))
      simp only[Lh]at k1 k2;dsimp -zeta only
      extract_lets+onlyGivenNames r0 r1 j'
      have hj:∀n o,MI (λx y=>R y x) b.toList.reverse a.toList.reverse o.toList (b.size-nb) (a.size-n)->0<n->n<=na->R (gt b (nb-1)) (gt a (n-1))=false->wpS (F7 prog w) A E s (j' () n o) post3 (eV st m):=λn out I n0 n1 hr=>by
       have n2:n<=a.size:=by lia
       have I3:=pA I n0 n2 i5 i4 hr;have b1:nb-1<=b.size:=Hh (QU _ _) i4;refine FN (el (sB i5 i4) (wif (λeb=>FY (qd _ _ ⟨_,rfl,.inl ⟨_,_,rfl,ls I3 n2 (by simpa using eb)⟩⟩)) λeb=>?_))
       have Ud:1<nb-1:=by simp at eb;lia
       refine FN (el (sA n0 n2) (FN (DG K hk (show 0+(nb-1)<=b.size by lia) (by lia) (pa _ (bO (sA n0 n2))) (λi hi=>pb _ (bO (by lia))) O.tr (sb (by lia)) λl ln l1 l2=>?_)))
       simp only[Lh]at l1 l2;dsimp -zeta only
       extract_lets+onlyGivenNames r2 r3 r4 j''
       have hj:∀p o,MI (λx y=>R y x) b.toList.reverse a.toList.reverse o.toList (b.size-p) (a.size-n)->1<p->p<nb->R (gt b (p-1)) (gt a (n-1))=true->wpS (F7 prog w) A E s (j'' () p o) post3 (eV st m):=λp out I p0 p1 hr=>by
        have p2:p<=b.size:=by lia
        have I6:=pB I n0 n2 (JX p0) p2 hr;refine FN (el (sA n0 n2) (wif (λea=>FY (qd _ _ ⟨_,rfl,.inl ⟨_,_,rfl,dn I6 p2 (by simpa using ea)⟩⟩)) λea=>?_))
        have e6:0<n-1:=by simp at ea;lia
        have n3:n-1<=a.size:=Hh (QU _ _) n2;exact wif (λ_=>FY (qd _ _ ⟨_,rfl,.inr ⟨_,_,_,_,_,_,rfl,I6,e6,n3,p0,p2,by lia⟩⟩)) λ_=>FY (qy _ _ ⟨_,_,_,_,_,_,_,rfl,rfl,I6,e6,n3,p0,p2,by lia⟩)
       refine wif (λhl0=>?_) λhl0=>hj _ _ I3 Ud (by lia) (l1 (nb-1-1) (by lia))
       have I4:=rA I3 ln b1 n0 n2 l2;refine wif (λec=>FY (qd _ _ ⟨_,rfl,.inl ⟨_,_,rfl,ls I4 n2 (by simpa using ec)⟩⟩)) λec=>wif (λed=>FY (qd _ _ ⟨_,rfl,.inl ⟨_,_,rfl,dA I4 n2 (by simpa using ed)⟩⟩)) λed=>?_
       have h1:¬ l=1:=by simpa using ec
       have h2:¬ l=0:=by simpa using ed
       exact hj _ _ I4 (by lia) (by lia) (l1 (l-1) (by lia))
      refine wif (λhk0=>?_) λhk0=>hj _ _ I i1 (by lia) (k1 (na-1) (by lia))
      have I2:=rB I kn i2 i5 i4 k2;refine wif (λec=>FY (qd _ _ ⟨_,rfl,.inl ⟨_,_,rfl,dn I2 i4 (by simpa using ec)⟩⟩)) λec=>?_
      have h1:¬ k=0:=by simpa using ec
      exact hj _ _ I2 (by lia) (by lia) (k1 (k-1) (by lia))
     exact wif (λ_=>hj _) λ_=>hj _
end
section
theorem o6{κ:Type}:∀(m:List κ) (n p:Nat) (X Y:List κ) (arr:Array κ),arr.toList=X++Y->X.length=p+n->m.length<=Y.length->((m.zipIdx n).foldl (λa (x:κ×Nat)=>a.setIfInBounds (p+x.2) x.1) arr).toList=X++m++Y.drop m.length
 |[],n,p,X,Y,arr,e,_,_=>by simpa using e
 |x::m,n,p,X,[],arr,e,h1,h2=>by simp at h2
 |x::m,n,p,X,y::Y,arr,e,h1,h2=>by
  rw[List.zipIdx_cons,Ic]
  have:=o6 m (n+1) p (X++[x]) Y (arr.setIfInBounds (p+n) x) (by
   rw[LL,e,<-h1,Nh _ _ (Fu _)];simp) (by simp;lia) (by simpa using h2)
  rw[this];simp
theorem wy{M:QS}{A:Gs}{E:Fq->Fp->Prop}{s:Fp}{σ:Type}{x:σ}{Q:PUnit->σ->Prop}{st:σ}(h:Q ⟨⟩ x):wpS M A E s (set x:StateT σ Sem PUnit) Q st:=by
 unfold wpS;rw[StateT.run_set];exact Fl ⟨rfl,h⟩
theorem seg{κ:Type}(X S Y:List κ):((X++S++Y).drop X.length).take S.length=S:=by simp
end
section
variable {prog:FK}{w:Gj}{A:Gs}{E:Fq→Fp→Prop}{s:Fp}{κ:Kh}{P:GE→Prop}{R:GE→GE→Bool} (K:Asks prog w A E s κ P R)
include K
theorem mat{i sa na pw sb nb pw2:Nat}{X S1 S2 Y:List GE}{st:HC}{Q:Bool->HC->Prop}(hk:kindOf st=κ)(hf:LA st=none)(h1:(I0 st)[i]?=some (sa,na,pw))(h2:(I0 st)[i+1]?=some (sb,nb,pw2))(ha:(Gu st).toList=X++S1++S2++Y)(lX:X.length=sa)(l1:S1.length=na)(l2:S2.length=nb)(SH:sb=sa+na)(p1:0<na)(p2:0<nb)(pp:∀x∈S1++S2,P x)(O:MO R S1 S2)
  (h:∀S QX,kindOf QX=κ->LA QX=none->I0 QX=((I0 st).setIfInBounds i (sa,na+nb,pw)).eraseIdxIfInBounds (i+1)->(Gu QX).toList=X++S++Y->Mgd R S1 S2 S->Q true QX):wpS (F7 prog w) A E s (mergeAt' i) Q st:=by
 have sz:(Gu st).size=sa+na+nb+Y.length:=by rw[<-Fx,ha];simp;lia
 have g1:∀j (hj:j<S1.length),gt (Gu st) (sa+j)=S1[j]:=λj hj=>by
  rw[gt_eq (by rw[Fx];lia)]
  simp only[ha];rw[Ju (by simp;lia),Ju (by simp;lia),Kb (by lia)]
  congr 1;lia
 have g2:∀j (hj:j<S2.length),gt (Gu st) (sb+j)=S2[j]:=λj hj=>by
  rw[gt_eq (by rw[Fx];lia)]
  simp only[ha];rw[Ju (by simp;lia),Kb (by simp;lia)]
  congr 1;simp;lia
 have q1:∀j,j<na->P (gt (Gu st) (sa+j)):=λj hj=>by rw[g1 j (by lia)];exact pp _ (FJ _ (GD _))
 have q2:∀j,j<nb->P (gt (Gu st) (sb+j)):=λj hj=>by rw[g2 j (by lia)];exact pp _ (FG _ (GD _))
 refine FN (L1 ?_);rw[h1,h2];dsimp only;refine FN (wy ?_);refine FN (el (show sb<(Gu st).size by lia) ?_)
 refine FN (Cg K hk (show sa+na<=(Gu st).size by lia) p1 (by have:=q2 0 p2;simpa using this) q1 O.tr (λx y h3 h4=>by
  rw[g1 x (by lia),g1 y (by lia)]
  exact FO.mp O.sA _ _ _ _ h3) λk kn k1 k2=>?_)
 dsimp only;have hb0:gt (Gu st) sb=S2[0]'(by lia):=by have:=g2 0 (by lia);simpa using this
 rw[hb0]at k1 k2
 have hU:∀x∈S1.take k,∀y∈S2,R x y=true:=λx hx y hy=>by
  obtain⟨j,hj,rfl⟩:=G_ hx;have jk:j<k:=by simp at hj;lia
  have z:=k1 j jk;rw[g1 j (by lia)]at z
  have z2:=O.tot _ (GD _) _ (GD _) z;rw[K3];exact fB O.tr O.sB (show 0<S2.length by lia) z2 y (by simpa using hy)
 have f1:∀v∈S1.drop k,R (S2[0]'(by lia)) v=true:=λv hv=>by
  obtain⟨j,hj,rfl⟩:=G_ hv;rw[Jc]at hj;rw[JY,<-g1 (k+j) (by lia)]
  exact k2 _ (by lia) (by lia)
 by_cases e1:(na-k==0)=true
 ·rw[if_pos e1];have e1':na-k=0:=by simpa using e1
  refine FY (h (S1++S2) _ hk hf rfl (by rw[<-FF];exact ha) ⟨LX _,GQ.mpr ⟨O.sA,O.sB,λx hx y hy=>hU x (by rw[Iq (by lia)];exact hx) y hy⟩⟩)
 rw[if_neg e1];have e1':0<na-k:=by have z:¬ na-k=0:=(by simpa using e1);lia
 have Rn:gt (Gu st) (sa+k+(na-k)-1)=S1[na-1]'(by lia):=by
  rw[<-g1 (na-1) (by lia)];congr 1;lia
 refine FN (el (show sa+k+(na-k)-1<(Gu st).size by lia) ?_)
 refine FN (DG K hk (show sb+nb<=(Gu st).size by lia) (by lia) (by rw[Rn,<-g1 (na-1) (by lia)];exact q1 _ (by lia)) q2 O.tr (λx y h3 h4=>by
  rw[g2 x (by lia),g2 y (by lia)]
  exact FO.mp O.sB _ _ _ _ h3) λl ln m1 m2=>?_)
 dsimp only;rw[Rn]at m1 m2
 have hZ:∀x∈S1,∀z∈S2.drop l,R x z=true:=λx hx z hz=>by
  obtain⟨j,hj,rfl⟩:=G_ hz;rw[Jc]at hj;obtain⟨i,hi,rfl⟩:=G_ hx;rw[JY];have z:=m2 (l+j) (by lia) (by lia)
  rw[g2 (l+j) (by lia)]at z
  have z2:=O.tot _ (GD _) _ (GD _) z;rcases G7 i (na-1) with c |c
  ·exact O.tr _ _ _ (FO.mp O.sA i (na-1) hi (by lia) c) z2
  ·have:i=na-1:=by lia
   subst this;exact z2
 have f2:∀v∈S2.take l,R v (S1[na-1]'(by lia))=true:=λv hv=>by
  obtain⟨j,hj,rfl⟩:=G_ hv;have jl:j<l:=by simp at hj;lia
  rw[K3,<-g2 j (by lia)]
  exact m1 _ jl
 have l0:0<l:=by
  rcases Kz l with c |c
  ·exfalso
   have z:=m2 0 (by lia) p2
   rw[g2 0 (by lia)]at z
   have z2:=f1 (S1[na-1]'(by lia)) (by
    have:S1[na-1]'(by lia)=(S1.drop k)[na-1-k]'(by rw[Jc];lia):=by rw[JY];congr 1;lia
    rw[this];exact GD _)
   rw[z2]at z;cases z
  ·exact c
 rw[if_neg (by simp;lia)]
 have ll:∀{a:Array GE},a.toList.length=a.size:=by simp
 have eL:(Gu st).toList=(X++S1.take k)++S1.drop k++(S2.take l++(S2.drop l++Y)):=by
  rw[ha]
  conv=>lhs;rw[←Gc k S1,←Gc l S2]
  simp only[FF]
 have Uu:((Gu st).extract (sa+k) sb).toList=S1.drop k:=by
  rw[show sb=sa+k+(na-k) by lia,gK,eL]
  have:=seg (X++S1.take k) (S1.drop k) (S2.take l++(S2.drop l++Y));rw[show (X++S1.take k).length=sa+k by simp;lia,show (S1.drop k).length=na-k by simp;lia]at this
  exact this
 have Uv:((Gu st).extract sb (sb+l)).toList=S2.take l:=by
  rw[gK,ha];have:=seg (X++S1) (S2.take l) (S2.drop l++Y);rw[show (X++S1).length=sb by simp;lia,show (S2.take l).length=l by simp;lia]at this
  rw[<-FF,FF (X++S1),Gc]at this;exact this
 generalize hx:(Gu st).extract (sa+k) sb=x at Uu |-;generalize hy:(Gu st).extract sb (sb+l)=y at Uv |-;have sx:x.size=na-k:=by rw[<-ll,Uu];simp;lia
 have sy:y.size=l:=by rw[<-ll,Uv];simp;lia
 have O2:MO R x.toList y.toList:=by
  rw[Uu,Uv];exact⟨O.tr,O.sA.sublist (Jt _ _),O.sB.sublist (L_ _ _),λu hu v hv=>O.tot u (Im hu) v (Jp hv)⟩
 have gx:gt x (x.size-1)=S1[na-1]'(by lia):=by
  rw[gt_eq (by rw[ll];lia)]
  simp only[Uu,sx,JY];congr 1;lia
 have gy:gt y 0=S2[0]'(by lia):=by
  rw[gt_eq (by rw[ll];lia)]
  simp only[Uv,K3]
 have px:∀u∈x.toList,P u:=λu hu=>pp u (FJ _ (Im (by rw[Uu]at hu;exact hu)))
 have py:∀u∈y.toList,P u:=λu hu=>pp u (FG _ (Jp (by rw[Uv]at hu;exact hu)))
 have SX:∀v∈y.toList,R v (gt x (x.size-1))=true:=λv hv=>by rw[gx];exact f2 v (by rw[Uv]at hv;exact hv)
 have Tx:∀v∈x.toList,R (gt y 0) v=true:=λv hv=>by rw[gy];exact f1 v (by rw[Uu]at hv;exact hv)
 have fin:∀r:Array GE,Mgd R x.toList y.toList r.toList->((r.toList.zipIdx).foldl (λa (x:GE×Nat)=>a.setIfInBounds (sa+k+x.2) x.1) (Gu st)).toList=X++(S1.take k++r.toList++S2.drop l)++Y/\Mgd R S1 S2 (S1.take k++r.toList++S2.drop l):=λr m=>by
  have lr:r.toList.length=(S1.drop k++S2.take l).length:=by rw[<-Uu,<-Uv];exact m.1.length_eq
  constructor
  ·rw[o6 r.toList 0 (sa+k) (X++S1.take k) (S1.drop k++S2.take l++(S2.drop l++Y)) _ (by rw[eL];simp only[FF]) (by simp;lia) (by rw[lr,FT (as:=S1.drop k++S2.take l)];lia)]
   rw[lr,List.drop_left];simp only[FF]
  ·have mp:r.toList.Perm (S1.drop k++S2.take l):=by rw[<-Uu,<-Uv];exact m.1
   constructor
   ·refine ((mp.append_left _).append_right _).trans ?_
    have e:S1++S2=S1.take k++(S1.drop k++S2.take l)++S2.drop l:=by
     conv=>lhs;rw[←Gc k S1,←Gc l S2]
     simp only[FF]
    rw[e]
   ·have sp1:=O.sA;rw[<-Gc k S1]at sp1;have sp2:=O.sB;rw[<-Gc l S2]at sp2;have c1:=GQ.mp sp1;have c2:=GQ.mp sp2;refine GQ.mpr ⟨GQ.mpr ⟨c1.1,m.2,λu hu v hv=>?_⟩,c2.2.1,λu hu v hv=>?_⟩
    ·rcases FB.mp (mp.mem_iff.mp hv) with z |z
     ·exact c1.2.2 u hu v z
     ·exact hU u hu v (Jp z)
    ·rcases FB.mp hu with z |z
     ·exact hU u z v (Im hv)
     ·rcases FB.mp (mp.mem_iff.mp z) with z |z
      ·exact hZ u (Im z) v hv
      ·exact c2.2.2 u z v hv
 have fin2:∀(r:Array GE) g,Mgd R x.toList y.toList r.toList->Q true (SortSt.mk' (kindOf st) ((r.toList.zipIdx).foldl (λa (x:GE×Nat)=>a.setIfInBounds (sa+k+x.2) x.1) (Gu st)) (((I0 st).setIfInBounds i (sa,na+nb,pw)).eraseIdxIfInBounds (i+1)) g (LA st)):=λr g m=>h _ _ hk hf rfl (fin r m).1 (fin r m).2
 by_cases hc:na-k<=l
 ·rw[if_pos hc];refine FN (mlo K O2 px py (by lia) (by lia) (Tx _ (bO (by lia))) SX hk λr g m=>?_)
  refine FN (K0 ?_);refine FN (L1 ?_);have:=fin2 r g m;refine FY ?_;show Q (LA st).isNone _;rw[show (LA st).isNone=true by rw[hf];rfl]
  exact this
 ·rw[if_neg hc];refine FN (mhi K O2 px py (by lia) (by lia) (SX _ (bO (by lia))) Tx hk λr g m=>?_)
  refine FN (K0 ?_);refine FN (L1 ?_);have:=fin2 r g m;refine FY ?_;show Q (LA st).isNone _;rw[show (LA st).isNone=true by rw[hf];rfl]
  exact this
end
variable {R:GE→GE→Bool}{κ:Kh}{P:GE→Prop}{l:List GE}{pd:Array (Nat×Nat×Nat)}
section
variable {A:Gs}
structure Ord(P:GE->Prop)(R:GE->GE->Bool)(l:List GE):Prop where
 tr:∀x y z,R x y=true->R y z=true->R x z=true
 tot:∀x∈l,∀y∈l,x≠y->R x y=false->R y x=true
 nd:l.Nodup
 hp:∀x∈l,P x
structure Stt(κ:Kh)(l:List GE)(pd:Array (Nat×Nat×Nat))(st:HC):Prop where
 kind:kindOf st=κ
 failed:LA st=none
 perm:(Gu st).toList.Perm l
 pend:I0 st=pd
theorem Stt.size{st:HC}(S:Stt κ l pd st):(Gu st).size=l.length:=by rw[<-Fx,S.perm.length_eq]
theorem Stt.p(O:Ord P R l){st:HC}(S:Stt κ l pd st){i:Nat}(h:i<l.length):P (gt (Gu st) i):=O.hp _ (S.perm.mem_iff.mp (bO (by rw[S.size];exact h)))
theorem Stt.tot(O:Ord P R l){st:HC}(S:Stt κ l pd st){i j:Nat}(hi:i<l.length)(hj:j<l.length)(Q1:i≠j)(hr:R (gt (Gu st) i) (gt (Gu st) j)=false):R (gt (Gu st) j) (gt (Gu st) i)=true:=by
 refine O.tot _ (S.perm.mem_iff.mp (bO (by rw[S.size];exact hi))) _ (S.perm.mem_iff.mp (bO (by rw[S.size];exact hj))) (λe=>Q1 ?_) hr
 have li:i<(Gu st).toList.length:=by rw[Fx,S.size];exact hi
 have lj:j<(Gu st).toList.length:=by rw[Fx,S.size];exact hj
 rw[gt_eq li,gt_eq lj]at e;exact (MF (S.perm.nodup_iff.mpr O.nd)).mp e
theorem Stt.arr{st:HC}(S:Stt κ l pd st){a:Array GE}(h:a.Perm (Gu st)):Stt κ l pd (setArr st a):=⟨S.kind,S.failed,(Array.perm_iff_toList_perm.mp h).trans S.perm,S.pend⟩
theorem ltK(K:Asks prog w A E s κ P R)(O:Ord P R l){i j:Nat}{st:HC}{Q:Option Bool->HC->Prop}(S:Stt κ l pd st)(hi:i<l.length)(hj:j<l.length)(h:Q (some (R (gt (Gu st) i) (gt (Gu st) j))) st):wpS (F7 prog w) A E s (ltAt' i j) Q st:=by
 rw[ltAt'_eq];refine FN (L1 ?_);refine FN (el (by rw[S.size];exact hi) ?_)
 refine FN (el (by rw[S.size];exact hj) ?_)
 exact K _ _ _ _ (S.p O hi) (S.p O hj) S.kind h
theorem pP{a b:Array GE}{i j:Nat}(h:a[i]?=b[j]?):gt a i=gt b j:=by
 unfold gt;rw[Hn,Hn,h]
def Up(R:GE->GE->Bool)(a:Array GE)(lo m:Nat):Prop:=∀i j,i<j->j<m->R (gt a (lo+i)) (gt a (lo+j))=true
def Dn(R:GE->GE->Bool)(a:Array GE)(lo m:Nat):Prop:=∀i j,i<j->j<m->R (gt a (lo+j)) (gt a (lo+i))=true
def Kept(a b:Array GE)(lo:Nat):Prop:=∀j,j<lo->gt b j=gt a j
theorem DB{a:Array GE}{src d:Nat}(hs:src<a.size)(hd:d<=src)(k:Nat):gt (QQ a src d) k=if k=src-d then gt a src else if src-d<k/\k<=src then gt a (k-1) else gt a k:=by
 have e:=getElem?_bubble hs d hd k;by_cases h1:k=src-d
 ·rw[if_pos h1]at e |-;exact pP e
 ·rw[if_neg h1]at e |-;by_cases h2:src-d<k/\k<=src
  ·rw[if_pos h2]at e |-;exact pP e
  ·rw[if_neg h2]at e |-;exact pP e
theorem qC{a:Array GE}{i j:Nat}(hj:j<=a.size)(k:Nat):gt (Qj a i j ((j-i)/2)) k=if i<=k/\k<j then gt a (i+j-1-k) else gt a k:=by
 have e:=getElem?_mirror_all (xs:=a) (i:=i) hj k;by_cases h1:i<=k/\k<j
 ·rw[if_pos h1]at e |-;exact pP e
 ·rw[if_neg h1]at e |-;exact pP e
variable (K:Asks prog w A E s κ P R)
include K
theorem Ff(O:Ord P R l){lo n ok:Nat}{st:HC}{Q:Bool->HC->Prop}(hn:lo+n<=l.length)(hok:ok<=n)(S:Stt κ l pd st)(hs:Up R (Gu st) lo ok)
  (h:∀QX,Stt κ l pd QX->Kept (Gu st) (Gu QX) lo->Up R (Gu QX) lo n->Q true QX):wpS (F7 prog w) A E s (binarySort' lo n ok) Q st:=by
 rw[binarySort'_eq]
 refine FN (Jn (IU (I:=λk c QX=>c=(none,())/\Stt κ l pd QX/\Kept (Gu st) (Gu QX) lo/\Up R (Gu QX) lo (min k n))
  (Q:=λc QX=>c=(none,())/\Stt κ l pd QX/\Kept (Gu st) (Gu QX) lo/\Up R (Gu QX) lo n) ?step ?fin ?init) ?post)
 case post=>
  rintro c QX ⟨rfl,S',k',u'⟩;exact FY (h QX S' k' u')
 case init=>
  refine⟨rfl,S,λ_ _=>rfl,λi j RW hj=>?_⟩
  exact hs i j RW (by lia)
 case fin=>
  rintro c QX ⟨hc,S',k',u'⟩;refine⟨hc,S',k',?_⟩
  rwa [show min (max (max ok 1) n) n=n by lia]at u'
 case step=>
  rintro k c QX hak hkn ⟨rfl,S',k',u'⟩;rw[show min k n=k by lia]at u'
  have hk:lo+k<l.length:=by lia
  refine FN (Jn (IU (I:=λx c RE=>RE=QX/\∃p r,c=(none,p,r)/\p<=r/\r<=k/\r-p<=k-x/\
    (∀i,i<p->R (gt (Gu QX) (lo+i)) (gt (Gu QX) (lo+k))=true)/\(∀i,r<=i->i<k->R (gt (Gu QX) (lo+k)) (gt (Gu QX) (lo+i))=true))
   (Q:=λc RE=>RE=QX/\∃p r,c=(none,p,r)/\p<=k/\
    (∀i,i<p->R (gt (Gu QX) (lo+i)) (gt (Gu QX) (lo+k))=true)/\(∀i,p<=i->i<k->R (gt (Gu QX) (lo+k)) (gt (Gu QX) (lo+i))=true)) ?istep ?ifin ?iinit) ?ipost)
  case iinit=>exact⟨rfl,0,k,rfl,by lia,by lia,by lia,λi hi=>by lia,λi h1 h2=>by lia⟩
  case ifin=>
   rintro c RE ⟨rfl,p,r,rfl,hlr,hrk,hm,SX,Tx⟩;have:p=r:=by lia
   subst this;exact⟨rfl,p,p,rfl,hrk,SX,Tx⟩
  case istep=>
   rintro x c RE _ hxk ⟨rfl,p,r,rfl,hlr,hrk,hm,SX,Tx⟩;dsimp only;by_cases hge:p ≥ r
   ·rw[if_pos hge];have:p=r:=by lia
    subst this;exact FY ⟨rfl,p,p,rfl,hrk,SX,Tx⟩
   ·rw[if_neg hge];refine FN (ltK K O S' hk (show lo+(p+r)/2<l.length by lia) ?_)
    dsimp only;by_cases SE:R (gt (Gu RE) (lo+k)) (gt (Gu RE) (lo+(p+r)/2))=true
    ·rw[if_pos SE];refine FY ⟨rfl,p,(p+r)/2,rfl,by lia,by lia,by lia,SX,λi h1 h2=>?_⟩
     rcases F2 h1 with z |z
     ·exact O.tr _ _ _ SE (u' _ _ z h2)
     ·rw[<-z];exact SE
    ·rw[if_neg SE];have ht:=S'.tot O hk (show lo+(p+r)/2<l.length by lia) (by lia) (by simpa using SE)
     refine FY ⟨rfl,(p+r)/2+1,r,rfl,by lia,by lia,by lia,λi h1=>?_,Tx⟩
     rcases F2 (Hx h1) with z |z
     ·exact O.tr _ _ _ (u' _ _ z (by lia)) ht
     ·rw[z];exact ht
  case ipost=>
   rintro c RE ⟨rfl,p,r,rfl,hlk,SX,Tx⟩;show wpS _ _ _ _ (do moveDown' (lo+k) (lo+p);pure (ForInStep.yield (none,()))) _ _
   rw[moveDown'_eq];have hks:lo+k<(Gu RE).size:=by rw[S'.size];exact hk
   have at_:∀j,gt (QQ (Gu RE) (lo+k) (lo+k-(lo+p))) j=if j=lo+p then gt (Gu RE) (lo+k) else if lo+p<j/\j<=lo+k then gt (Gu RE) (j-1) else gt (Gu RE) j:=λj=>by
    have:=DB hks (show lo+k-(lo+p)<=lo+k by lia) j
    rwa [show lo+k-(lo+k-(lo+p))=lo+p by lia]at this
   refine FN (K0 (FY ⟨rfl,S'.arr (bubble_perm _ _ _),λj hj=>?_,?_⟩))
   ·show gt (QQ (Gu RE) (lo+k) (lo+k-(lo+p))) j=_;rw[at_,if_neg (by lia),if_neg (by lia)]
    exact k' j hj
   ·rw[show min (k+1) n=k+1 by lia]
    intro i j RW hj;show R (gt (QQ (Gu RE) (lo+k) (lo+k-(lo+p))) (lo+i)) (gt (QQ (Gu RE) (lo+k) (lo+k-(lo+p))) (lo+j))=true;rw[at_,at_];have sh:∀q,lo+p<lo+q->lo+q-1=lo+(q-1):=λq hq=>by lia
    by_cases a1:lo+i=lo+p
    ·rw[if_pos a1,if_neg (by lia),if_pos (by lia),sh j (by lia)]
     exact Tx _ (by lia) (by lia)
    ·rw[if_neg a1];by_cases a2:lo+p<lo+i/\lo+i<=lo+k
     ·rw[if_pos a2,if_neg (by lia),if_pos (by lia),sh i (by lia),sh j (by lia)]
      exact u' _ _ (by lia) (by lia)
     ·rw[if_neg a2];by_cases b1:lo+j=lo+p
      ·rw[if_pos b1];exact SX _ (by lia)
      ·rw[if_neg b1];by_cases b2:lo+p<lo+j/\lo+j<=lo+k
       ·rw[if_pos b2,sh j (by lia)]
        exact u' _ _ (by lia) (by lia)
       ·rw[if_neg b2];exact u' _ _ RW (by lia)
end
section
variable {A:Gs}
theorem Up.more(tr:∀x y z,R x y=true->R y z=true->R x z=true){a:Array GE}{lo m:Nat}(S:Up R a lo m)(h1:1<=m)(h:R (gt a (lo+m-1)) (gt a (lo+m))=true):Up R a lo (m+1):=λi j RW hj=>by
 rcases F2 (Hx hj) with z |z
 ·exact S i j RW z
 ·subst z;have e:lo+(j-1)=lo+j-1:=by lia
  rcases F2 (show i<=j-1 by lia) with y |y
  ·have:=S i (j-1) y (by lia)
   rw[e]at this;exact tr _ _ _ this h
  ·subst y;rw[e];exact h
theorem Dn.more(tr:∀x y z,R x y=true->R y z=true->R x z=true){a:Array GE}{lo m:Nat}(S:Dn R a lo m)(h1:1<=m)(h:R (gt a (lo+m)) (gt a (lo+m-1))=true):Dn R a lo (m+1):=λi j RW hj=>by
 rcases F2 (Hx hj) with z |z
 ·exact S i j RW z
 ·subst z;have e:lo+(j-1)=lo+j-1:=by lia
  rcases F2 (show i<=j-1 by lia) with y |y
  ·have:=S i (j-1) y (by lia)
   rw[e]at this;exact tr _ _ _ h this
  ·subst y;rw[e];exact h
theorem rvs{i j:Nat}{Q:Unit->HC->Prop}{st:HC}(h:Q () (setArr st (Qj (Gu st) i j ((j-i)/2)))):wpS (F7 prog w) A E s (reverseSlice' i j) Q st:=by
 rw[reverseSlice'_eq];exact K0 h
variable (K:Asks prog w A E s κ P R)
include K
theorem cnt(O:Ord P R l){lo Rt:Nat}{st:HC}{Q:Option Nat->HC->Prop}(hn:lo+Rt<=l.length)(h1:1<=Rt)(S:Stt κ l pd st)
  (h:∀m QX,Stt κ l pd QX->Kept (Gu st) (Gu QX) lo->1<=m->m<=Rt->Up R (Gu QX) lo m->Q (some m) QX):wpS (F7 prog w) A E s (countRun' lo Rt) Q st:=by
 rw[countRun'_eq];dsimp only;refine FN (Jn (IU (I:=λx c QX=>QX=st/\c=(none,x)/\Up R (Gu st) lo x) (Q:=λc QX=>QX=st/\∃n,c=(none,n)/\1<=n/\n<=Rt/\Up R (Gu st) lo n/\(n<Rt->R (gt (Gu st) (lo+n)) (gt (Gu st) (lo+n-1))=true)) ?s1 ?f1 ⟨rfl,rfl,λi j h2 h3=>by lia⟩) ?p1)
 case s1=>
  rintro x c QX hx1 hx ⟨rfl,rfl,u⟩;dsimp only;refine FN (ltK K O S (show lo+x<l.length by lia) (show lo+x-1<l.length by lia) ?_)
  dsimp only;by_cases hc:R (gt (Gu QX) (lo+x)) (gt (Gu QX) (lo+x-1))=true
  ·rw[if_pos hc];exact FY ⟨rfl,x,rfl,hx1,by lia,u,λ_=>hc⟩
  ·rw[if_neg hc];exact FY ⟨rfl,rfl,u.more O.tr hx1 (S.tot O (by lia) (by lia) (by lia) (by simpa using hc))⟩
 case f1=>
  rintro c QX ⟨rfl,rfl,u⟩;rw[show max 1 Rt=Rt by lia]at u |-
  exact⟨rfl,Rt,rfl,h1,Fu _,u,λz=>by lia⟩
 case p1=>
  rintro c QX ⟨rfl,n,rfl,n1,n2,u,ht⟩;dsimp only;by_cases e:(n==Rt)=true
  ·rw[if_pos e];exact FY (h n _ S (λ_ _=>rfl) n1 n2 u)
  rw[if_neg e];have e':n<Rt:=by have z:¬ n=Rt:=(by simpa using e);lia
  by_cases hg:n >1
  ·rw[if_pos hg];refine FN (ltK K O S (show lo<l.length by lia) (show lo+n-1<l.length by lia) ?_)
   dsimp only;have z:=u 0 (n-1) (by lia) (by lia)
   rw[JJ,show lo+(n-1)=lo+n-1 by lia]at z
   rw[if_pos z];exact FY (h n _ S (λ_ _=>rfl) n1 n2 u)
  rw[if_neg hg];obtain rfl:n=1:=by lia
  have D2:Dn R (Gu QX) lo 2:=Dn.more O.tr (λi j x y=>by lia) (Fu _) (ht e')
  refine FN (ru ?_)
  try dsimp only
  refine FN (Jn (IU (I:=λx c RF=>RF=QX/\c=(none,x,0)/\Dn R (Gu QX) lo x) (Q:=λc RF=>RF=QX/\∃n,c=(none,n,0)/\2<=n/\n<=Rt/\Dn R (Gu QX) lo n) ?s2 ?f2 ⟨rfl,rfl,D2⟩) ?p2)
  case s2=>
   rintro x c RF hx1 hx ⟨rfl,rfl,u⟩;dsimp only;refine FN (ltK K O S (show lo+x<l.length by lia) (show lo+x-1<l.length by lia) ?_)
   dsimp only;by_cases hc:R (gt (Gu RF) (lo+x)) (gt (Gu RF) (lo+x-1))=true
   ·rw[if_pos hc,if_neg (by lia)]
    exact FY ⟨rfl,rfl,u.more O.tr (by lia) hc⟩
   ·rw[if_neg hc];refine FN (ltK K O S (show lo+x-1<l.length by lia) (show lo+x<l.length by lia) ?_)
    dsimp only;rw[if_pos (S.tot O (by lia) (by lia) (by lia) (by simpa using hc))]
    exact FY ⟨rfl,x,rfl,hx1,by lia,u⟩
  case f2=>
   rintro c RF ⟨rfl,rfl,u⟩;rw[show max (1+1) Rt=Rt by lia]at u |-
   exact⟨rfl,Rt,rfl,by lia,Fu _,u⟩
  case p2=>
   rintro c RF ⟨rfl,n,rfl,n1,n2,d⟩;dsimp only;rw[if_neg (by lia)]
   refine FN (rvs ?_);have sz:=S.size;have S2:Stt κ l pd (setArr RF (Qj (Gu RF) lo (lo+n) ((lo+n-lo)/2))):=S.arr (mirror_perm _ _ _ _)
   have kp:Kept (Gu RF) (Qj (Gu RF) lo (lo+n) ((lo+n-lo)/2)) lo:=λj hj=>by
    rw[qC (by lia),if_neg (by lia)]
   have up:Up R (Qj (Gu RF) lo (lo+n) ((lo+n-lo)/2)) lo n:=λi j RW hj=>by
    rw[qC (by lia),qC (by lia),if_pos (by lia),if_pos (by lia),show lo+(lo+n)-1-(lo+i)=lo+(n-1-i) by lia,show lo+(lo+n)-1-(lo+j)=lo+(n-1-j) by lia]
    exact d _ _ (by lia) (by lia)
   generalize RB:setArr RF (Qj (Gu RF) lo (lo+n) ((lo+n-lo)/2))=Ss at S2 |-;have ha:Gu Ss=Qj (Gu RF) lo (lo+n) ((lo+n-lo)/2):=by rw[<-RB]
   rw[<-ha]at kp up;refine FN (Jn (IU (I:=λx c QX=>QX=Ss/\c=(none,x)/\Up R (Gu Ss) lo x) (Q:=λc QX=>QX=Ss/\∃m,c=(none,m)/\1<=m/\m<=Rt/\Up R (Gu Ss) lo m) ?s3 ?f3 ⟨rfl,rfl,up⟩) ?p3)
   case s3=>
    rintro x c QX hx1 hx ⟨rfl,rfl,u⟩;dsimp only;refine FN (ltK K O S2 (show lo+x<l.length by lia) (show lo+x-1<l.length by lia) ?_)
    dsimp only;by_cases hc:R (gt (Gu QX) (lo+x)) (gt (Gu QX) (lo+x-1))=true
    ·rw[if_pos hc];exact FY ⟨rfl,x,rfl,by lia,by lia,u⟩
    ·rw[if_neg hc];exact FY ⟨rfl,rfl,u.more O.tr (by lia) (S2.tot O (by lia) (by lia) (by lia) (by simpa using hc))⟩
   case f3=>
    rintro c QX ⟨rfl,rfl,u⟩;rw[show max n Rt=Rt by lia]at u |-
    exact⟨rfl,Rt,rfl,h1,Fu _,u⟩
   case p3=>
    rintro c QX ⟨rfl,m,rfl,m1,m2,u⟩;exact FY (h m _ S2 kp m1 m2 u)
end
section
variable {A:Gs}
noncomputable def Ch(R:GE->GE->Bool)(a:Array GE):List (Nat×Nat×Nat)->Nat->Nat->Prop
 |[],x,y=>x=y
 |r::t,x,y=>r.1=x/\0<r.2.1/\Up R a x r.2.1/\Ch R a t (x+r.2.1) y
theorem Ch.len{a:Array GE}:∀{p:List (Nat×Nat×Nat)}{x y:Nat},Ch R a p x y->x+p.length<=y
 |[],x,y,h=>by have:x=y:=h;simp;lia
 |r::t,x,y,h=>by
  have:=Ch.len h.2.2.2;have:=h.2.1;simp;lia
theorem Ch.app{a:Array GE}:∀{p q:List (Nat×Nat×Nat)}{x y:Nat},Ch R a (p++q) x y↔∃z,Ch R a p x z/\Ch R a q z y
 |[],q,x,y=>⟨λh=>⟨x,rfl,h⟩,λ⟨z,h1,h2⟩=>by have:x=z:=h1;subst this;exact h2⟩
 |r::t,q,x,y=>by
  constructor
  ·rintro ⟨h1,h2,h3,h4⟩;obtain⟨z,z1,z2⟩:=Ch.app.mp h4;exact⟨z,⟨h1,h2,h3,z1⟩,z2⟩
  ·rintro ⟨z,⟨h1,h2,h3,h4⟩,h5⟩;exact⟨h1,h2,h3,Ch.app.mpr ⟨z,h4,h5⟩⟩
theorem Ch.congr{a b:Array GE}:∀{p:List (Nat×Nat×Nat)}{x y:Nat},(∀j,x<=j->j<y->gt b j=gt a j)->Ch R a p x y->Ch R b p x y
 |[],x,y,_,h=>h
 |r::t,x,y,e,h=>by
  have:=Ch.len h.2.2.2;refine⟨h.1,h.2.1,λi j RW hj=>?_,Ch.congr (λj h1 h2=>e j (by lia) h2) h.2.2.2⟩
  rw[e _ (by lia) (by lia),e _ (by lia) (by lia)]
  exact h.2.2.1 i j RW hj
theorem v7(a:Array GE)(j:Nat):gt a j=a.toList.getD j (F4,F4):=by simp[gt]
theorem D_{X Y:List GE}{j:Nat}{d:GE}(h:j<X.length):(X++Y).getD j d=X.getD j d:=by
 rw[FP,FP,FR h]
theorem Bj{X Y:List GE}{j:Nat}{d:GE}(h:X.length<=j):(X++Y).getD j d=Y.getD (j-X.length) d:=by
 rw[FP,FP,FS h]
theorem B5{α:Type}(X:List α)(r1 r2 v:α)(Y:List α):((X++r1::r2::Y).set X.length v).eraseIdx (X.length+1)=X++v::Y:=by
 rw[Nh _ _ (Fu _),Oy,List.eraseIdx_append_of_length_le (by lia),Nat.add_sub_cancel_left]
 rfl
theorem parts(L:List GE)(x y z:Nat):L=L.take x++(L.drop x).take y++(L.drop (x+y)).take z++L.drop (x+y+z):=by
 have h1:=Gc x L;have h2:=Gc y (L.drop x);have h3:=Gc z (L.drop (x+y));rw[PN]at h2 h3;rw[FF,h3,FF,h2,h1]
variable (K:Asks prog w A E s κ P R)
include K
theorem Es(O:Ord P R l){p:Array (Nat×Nat×Nat)}{lo i:Nat}{st:HC}{Q:Bool->HC->Prop}(S:Stt κ l p st)(C:Ch R (Gu st) p.toList 0 lo)(SX:lo<=l.length)(hi:i+1<p.size)
  (h:∀p' QX,Stt κ l p' QX->Ch R (Gu QX) p'.toList 0 lo->p'.size+1=p.size->(∀j,lo<=j->gt (Gu QX) j=gt (Gu st) j)->Q true QX):wpS (F7 prog w) A E s (mergeAt' i) Q st:=by
 have lp:p.toList.length=p.size:=by simp
 have hi0:i<p.size:=by lia
 have ep:p.toList=p.toList.take i++(p[i]::p[i+1]::p.toList.drop (i+2)):=by
  conv=>lhs;rw[←Gc i p.toList,Gp (show i<p.toList.length by lia),Gp (show i+1<p.toList.length by lia)]
  rfl
 have h1:(I0 st)[i]?=some (p[i].1,p[i].2.1,p[i].2.2):=by rw[S.pend,Gf hi0]
 have h2:(I0 st)[i+1]?=some (p[i+1].1,p[i+1].2.1,p[i+1].2.2):=by rw[S.pend,Gf hi]
 rw[ep]at C;obtain⟨sa,C1,e1,n1,u1,e2,n2,u2,C2⟩:=Ch.app.mp C;have C2l:=C2.len;generalize hp1:p[i]=r1 at *;generalize hp2:p[i+1]=r2 at *;obtain⟨s1,na,pw⟩:=r1;obtain⟨sb,nb,pw2⟩:=r2;dsimp only at *;subst e1;subst e2;have sz:=S.size;have la:(Gu st).toList.length=l.length:=by rw[Fx,sz]
 have ha:=parts (Gu st).toList s1 na nb;have lX:((Gu st).toList.take s1).length=s1:=by simp;lia
 have l1:(((Gu st).toList.drop s1).take na).length=na:=by simp;lia
 have l2:(((Gu st).toList.drop (s1+na)).take nb).length=nb:=by simp;lia
 have c1:∀j (hj:j<(((Gu st).toList.drop s1).take na).length),(((Gu st).toList.drop s1).take na)[j]=gt (Gu st) (s1+j):=λj hj=>by
  rw[gt_eq (by lia)];simp
 have c2:∀j (hj:j<(((Gu st).toList.drop (s1+na)).take nb).length),(((Gu st).toList.drop (s1+na)).take nb)[j]=gt (Gu st) (s1+na+j):=λj hj=>by
  rw[gt_eq (by lia)];simp
 generalize hX:(Gu st).toList.take s1=X at *;generalize hS1:((Gu st).toList.drop s1).take na=S1 at *;generalize hS2:((Gu st).toList.drop (s1+na)).take nb=S2 at *;generalize hY:(Gu st).toList.drop (s1+na+nb)=Y at *
 have mem:∀x∈S1++S2,x∈l:=λx hx=>S.perm.mem_iff.mp (by
  rw[ha];rcases FB.mp hx with z |z <;>simp[z])
 have nd:(X++S1++S2++Y).Nodup:=by rw[<-ha];exact S.perm.nodup_iff.mpr O.nd
 have MO1:MO R S1 S2:=by
  refine⟨O.tr,FO.mpr λi j hi hj RW=>?_,FO.mpr λi j hi hj RW=>?_,λx hx y hy hr=>O.tot y (mem y (FG _ hy)) x (mem x (FJ _ hx)) (λe=>?_) hr⟩
  ·rw[c1 i hi,c1 j hj];exact u1 i j RW (by lia)
  ·rw[c2 i hi,c2 j hj];exact u2 i j RW (by lia)
  ·have nd2:=(Gm.mp nd).1;exact (Gm.mp nd2).2.2 x (FG _ hx) y hy e.symm
 refine mat K S.kind S.failed h1 h2 ha lX l1 l2 rfl n1 n2 (λx hx=>O.hp x (mem x hx)) MO1 λS' QX k f pd' ar m=>?_
 have lS:S'.length=na+nb:=by rw[m.1.length_eq,FT,l1,l2]
 have tl:(((I0 st).setIfInBounds i (s1,na+nb,pw)).eraseIdxIfInBounds (i+1)).toList=p.toList.take i++((s1,na+nb,pw)::p.toList.drop (i+2)):=by
  rw[S.pend]
  have z:((p.setIfInBounds i (s1,na+nb,pw)).eraseIdxIfInBounds (i+1)).toList=(p.toList.set i (s1,na+nb,pw)).eraseIdx (i+1):=by
   rw[Array.eraseIdxIfInBounds,dif_pos (by simpa using hi),Array.toList_eraseIdx,LL]
  have li:(p.toList.take i).length=i:=by simp;lia
  have y:=B5 (p.toList.take i) (s1,na,pw) (s1+na,nb,pw2) (s1,na+nb,pw) (p.toList.drop (i+2));rw[<-ep,li]at y;rw[z,y]
 rw[<-pd']at tl;refine h (I0 QX) QX ⟨k,f,?_,rfl⟩ ?_ ?_ λj hj=>?_
 ·rw[ar];refine Pa ?_ S.perm;rw[ha];refine MS _ ?_;rw[FF];exact Hq _ m.1
 ·rw[tl];refine Ch.app.mpr ⟨s1,C1.congr λj h1 h2=>?_,rfl,(by dsimp only;lia),λx y T7 hy=>?_,?_⟩
  ·rw[v7,v7,ar,ha];simp only[FF];rw[D_ (by lia),D_ (by lia)]
  ·have q:∀j (hj:j<S'.length),gt (Gu QX) (s1+j)=S'[j]:=λj hj=>by
    rw[gt_eq (by rw[ar];simp;lia)]
    simp only[ar];rw[Ju (by simp;lia),Kb (by lia)]
    congr 1;lia
   dsimp only at hy;rw[q x (by lia),q y (by lia)]
   exact FO.mp m.2 _ _ _ _ T7
  ·dsimp only;rw[<-Qr];refine C2.congr λj h1 h2=>?_
   rw[v7,v7,ar,ha];rw[Bj (by simp;lia),Bj (by simp;lia)]
   congr 1;simp;lia
 ·have:(I0 QX).toList.length=_:=congrArg Mp tl;simp at this;lia
 ·rw[v7,v7,ar,ha];rw[Bj (by simp;lia),Bj (by simp;lia)]
  congr 1;simp;lia
end
section
variable {A:Gs}
theorem ilt{c:Prop}[Decidable c]{a b n:Nat}(h1:a+1<n)(h2:b+1<n):(if c then a else b)+1<n:=by split <;>assumption
theorem Ch.modL{a:Array GE}(pw:Nat):∀{p:List (Nat×Nat×Nat)} (k:Nat) {x y:Nat},Ch R a p x y->Ch R a (p.modify k λr=>(r.1,r.2.1,pw)) x y
 |[],k,x,y,h=>by rw[List.modify_nil];exact h
 |r::t,0,x,y,h=>by rw[List.modify_zero_cons];exact h
 |r::t,k+1,x,y,h=>by rw[List.modify_succ_cons];exact⟨h.1,h.2.1,h.2.2.1,Ch.modL pw k h.2.2.2⟩
theorem Ch.mod{a:Array GE}{p:Array (Nat×Nat×Nat)}{x y:Nat}(h:Ch R a p.toList x y)(pw k:Nat):Ch R a (p.modify k λr=>(r.1,r.2.1,pw)).toList x y:=by
 rw[Array.toList_modify];exact h.modL pw k
variable (K:Asks prog w A E s κ P R)
include K
theorem sruns(O:Ord P R l){st:HC}{Q:Unit->HC->Prop}(S:Stt κ l #[] st)(h:∀pd QX,Stt κ l pd QX->Up R (Gu QX) 0 l.length->Q () QX):wpS (F7 prog w) A E s sortRuns' Q st:=by
 rw[sortRuns'_eq];refine FN (L1 ?_)
 try dsimp -zeta only
 simp -zeta only[S.size];refine FN (Jn (qx (I:=λx c QX=>∃lo pd,c=(none,lo)/\Stt κ l pd QX/\Ch R (Gu QX) pd.toList 0 lo/\lo<=l.length/\x<=lo) (Q:=λc QX=>∃pd,c=(none,l.length)/\Stt κ l pd QX/\Ch R (Gu QX) pd.toList 0 l.length) ?step ?fin ⟨0,#[],rfl,S,rfl,GN _,GN _⟩) ?post)
 case fin=>
  rintro c QX ⟨lo,pd,rfl,S',C,SX,px⟩;obtain rfl:lo=l.length:=by lia
  exact⟨pd,rfl,S',C⟩
 case step=>
  rintro x c QX hx ⟨lo,pd,rfl,S',C,SX,px⟩ post qd qy;dsimp -zeta only;refine wif (λ(hge:lo ≥ l.length)=>FY (qd _ _ ⟨pd,by rw[show lo=l.length by lia],S',by rw[show lo=l.length by lia]at C;exact C⟩)) λhge=>?_
  have hge:¬ lo ≥ l.length:=hge;refine FN (cnt K O (show lo+(l.length-lo)<=l.length by lia) (by lia) S' λm RF S2 kp m1 m2 u=>?_)
  dsimp -zeta only
  extract_lets+onlyGivenNames q1 j
  have hj:∀nn Ss,0<nn->nn<=l.length-lo->Stt κ l pd Ss->Ch R (Gu Ss) pd.toList 0 lo->Up R (Gu Ss) lo nn->wpS (F7 prog w) A E s (j () nn) post Ss:=λnn Ss f1 f2 S3 C3 u3=>by
   refine FN (L1 ?_);have hp:I0 Ss=pd:=S3.pend;rw[hp];dsimp only;cases hb:pd.back? with
   |none=>
    try dsimp only
    refine FN (K0 (FY (qy _ _ ⟨lo+nn,pd.push (lo,nn,0),rfl,?_,?_,by lia,by lia⟩)))
    ·exact⟨S3.kind,S3.failed,S3.perm,by show (I0 Ss).push _=_;rw[hp]⟩
    ·rw[IV];exact Ch.app.mpr ⟨lo,C3,rfl,f1,u3,rfl⟩
   |some v=>
    obtain⟨s1,n1,pw0⟩:=v
    try dsimp only
    generalize power' _ _ _ _=pw;refine FN (Jn (IU (I:=λ_ c QX=>∃pd,c=(none,())/\Stt κ l pd QX/\Ch R (Gu QX) pd.toList 0 lo/\Up R (Gu QX) lo (nn)) (Q:=λc QX=>∃pd,c=(none,())/\Stt κ l pd QX/\Ch R (Gu QX) pd.toList 0 lo/\Up R (Gu QX) lo (nn)) ?_ (λ_ _ z=>z) ⟨pd,rfl,S3,C3,u3⟩) ?_)
    ·rintro y c S7 _ hy ⟨pd,rfl,S4,C4,u4⟩
     try dsimp only
     refine FN (L1 ?_);rw[S4.pend];by_cases hs:pd.size >1
     ·rw[if_pos hs,Gf (show pd.size-2<pd.size by lia)]
      generalize pd[pd.size-2]=q;obtain⟨q1,q2,q3⟩:=q
      try dsimp only
      by_cases ho:q3<=pw
      ·rw[if_pos ho];exact FY ⟨pd,rfl,S4,C4,u4⟩
      ·rw[if_neg ho];refine FN (Es K O S4 C4 SX (show pd.size-2+1<pd.size by lia) λp' Ti S5 C5 _ k5=>?_)
       simp only[Gw,Fz,if_false];exact FY ⟨p',rfl,S5,C5,λi j RW hj=>by rw[k5 _ (by lia),k5 _ (by lia)];exact u4 i j RW hj⟩
     ·rw[if_neg hs];exact FY ⟨pd,rfl,S4,C4,u4⟩
    ·rintro c S7 ⟨pd,rfl,S4,C4,u4⟩
     try dsimp only
     have hp4:=S4.pend;refine FN (K0 ?_);refine FN (K0 (FY (qy _ _ ⟨lo+nn,(pd.modify (pd.size-1) λr=>(r.1,r.2.1,pw)).push (lo,nn,0),rfl,?_,?_,by lia,by lia⟩)))
     ·refine⟨S4.kind,S4.failed,S4.perm,?_⟩;show ((I0 S7).modify ((I0 S7).size-1) λr=>(r.1,r.2.1,pw)).push _=_
      rw[hp4]
     ·rw[IV];exact Ch.app.mpr ⟨lo,C4.mod pw _,rfl,f1,u4,rfl⟩
  have C2:Ch R (Gu RF) pd.toList 0 lo:=C.congr λj _ hj=>kp j hj
  refine wif (λ(hm:m<minRun' l.length l.length 0)=>?_) λ_=>hj m RF (by lia) (by lia) S2 C2 u
  refine FN (ru (FN (Ff K O (show lo+min (l.length-lo) (minRun' l.length l.length 0)<=l.length by lia) (show m<=min (l.length-lo) (minRun' l.length l.length 0) by lia) S2 u λSs S3 k3 u3=>?_)))
  exact wif (λz=>by simp at z) λ_=>hj _ _ (by lia) (by lia) S3 (C2.congr λj _ hj=>k3 j hj) u3
 case post=>
  rintro c QX ⟨pd,rfl,S',C⟩
  try dsimp only
  refine FN (Jn (IU (I:=λx c QX=>∃pd,c=(none,())/\Stt κ l pd QX/\Ch R (Gu QX) pd.toList 0 l.length/\(pd.size<=1\/pd.size<=l.length-x)) (Q:=λc QX=>∃pd,c=(none,())/\Stt κ l pd QX/\Ch R (Gu QX) pd.toList 0 l.length/\pd.size<=1) ?s2 ?f2 ⟨pd,rfl,S',C,.inr (by have:=C.len;rw[Fx]at this;lia)⟩) ?p2)
  case s2=>
   rintro y c S7 _ hy ⟨pd,rfl,S4,C4,hs⟩
   try dsimp only
   refine FN (L1 ?_);rw[S4.pend];by_cases h1:pd.size<=1
   ·rw[if_pos h1];exact FY ⟨pd,rfl,S4,C4,h1⟩
   ·rw[if_neg h1];refine FN (Es K O S4 C4 (Fu _) (ilt (by lia) (by lia)) λp' Ti S5 C5 e5 k5=>?_)
    simp only[Gw,Fz,if_false];exact FY ⟨p',rfl,S5,C5,by lia⟩
  case f2=>
   rintro c S7 ⟨pd,rfl,S4,C4,hs⟩;exact⟨pd,rfl,S4,C4,by lia⟩
  case p2=>
   rintro c S7 ⟨pd,rfl,S4,C4,h1⟩;refine FY (h pd S7 S4 ?_);rw[<-Fx]at h1;generalize pd.toList=L at *;cases L with
   |nil=>have:0=l.length:=C4
         intro i j RW hj;lia
   |cons r t=>
    cases t with
    |nil=>
     obtain⟨_,_,u,e⟩:=C4;have e':0+r.2.1=l.length:=e;rw[Lh]at e';rw[<-e'];exact u
    |cons r2 t=>simp at h1
end
end TS
namespace ST
open PySem PySem.W PyProof.Rows
theorem EL{α β:Type}{f:α->β}:∀{l1 l2:List β},l1.Perm l2->∀l:List α,l2=l.map f->∃l':List α,l'.Perm l/\l'.map f=l1:=by
 intro l1 l2 h
 induction h with
 |nil=>intro l e;exact⟨l,.refl _,e.symm⟩
 |cons x _ ih=>
  intro l e;cases l with
  |nil=>cases e
  |cons a t=>
   obtain⟨e1,e2⟩:=JZ e;obtain⟨l',p,q⟩:=ih t e2;exact⟨a::l',p.cons a,by rw[FU,q,e1]⟩
 |swap x y r=>
  intro l e
  match l,e with
  |a::b::t,e=>
   obtain⟨e1,e2⟩:=JZ e;obtain⟨e3,e4⟩:=JZ e2;exact⟨b::a::t,.swap a b t,by rw[FU,FU,e1,e3,e4]⟩
 |trans _ _ ih1 ih2=>
  intro l e;obtain⟨l',p,q⟩:=ih2 l e;obtain⟨l'',p2,q2⟩:=ih1 l' q.symm;exact⟨l'',p2.trans p,q2⟩
abbrev ky(p:(Int×Int)×FI):GE:=(FW p.2,FW p.2)
section
variable {prog:FK}{w:Gj}{A:Gs}{E:Fq→Fp→Prop}{s:Fp}
theorem TK.det{h:HF}{p q:(Int×Int)×FI}(hp:TK prog w h [p.1.1,p.1.2] p.2)(hq:TK prog w h [q.1.1,q.1.2] q.2)(e:p.2=q.2):p=q:=by
 obtain⟨o,QW,n,t,u,ho,_,hd,hi⟩:=hp.two;obtain⟨o',its',n',t',u',RY,_,R9,Q9⟩:=hq.two;rw[e,RY]at ho;cases ho;rw[R9]at hd;cases hd;rw[Q9]at hi;have h1:=(JZ hi).1;have h2:=(JZ (JZ hi).2).1;injection h1 with h1 _
 injection h2 with h2 _
 exact GU (GU h1.symm h2.symm) e
end
end ST
namespace L2
open PySem PySem.Spec PyProof.Rows
theorem Eu{p:Nat->FI->Prop}{n:Nat}(h:∀i,i<n->∃b,p i b):∃f:Nat->FI,∀i,i<n->p i (f i):=by
 refine⟨λi=>if k:i<n then OF (h i k) else 0,λi hi=>?_⟩
 dsimp only;rw[dif_pos hi];exact Nb (h i hi)
section
variable {X:Cx}{tg:Expr}
def Ds(ta:TA):TI:=λσ H R=>ta σ H λvs H1=>∃j:Int,vs=[.int j]/\R (Itr 0 (j-0).toNat) H1
theorem rT{a:Expr}{ta:TA}{p pos:Pos}(hg:Gl X "range")(hm:X.mg "range"=none)(ha:PA X [a] ta)(hs:FH [a] X.env=[(false,JQ a X.env)]:=by rfl):
  PI X tg (.Call (.Name "range" p) [a] [] pos) (Ds ta):=by
 intro pins s σ H R I h;refine Call_ (df I hg hm P1 (PyProof.Rows.callWith_type1 (thn (ha pos pins s σ H _ I h) λus s1 ⟨vs,H1,I1,r1,q1⟩=>?_) (by rw[hs];rfl) rfl))
 obtain⟨j,e,q⟩:=q1;subst e;cases r1 with
 |cons r rr=>
  cases rr;obtain⟨t,rfl⟩:=r;exact call_range_1 (lU I1 q)
variable {H0:Hp}{O0:List FI}{ps:PSt}{a:Expr}{p pos:Pos}
theorem vM{j:Int}(hg:Gl X "range")(hm:X.mg "range"=none)(ha:EvA X H0 O0 ps [a] [.int j])(hs:FH [a] X.env=[(false,JQ a X.env)]:=by rfl):
  EvI X H0 O0 ps tg (.Call (.Name "range" p) [a] [] pos) (fA 0 (j-0).toNat):=
 PI.mono (rT hg hm ha hs) λσ H Q ⟨O,R,q⟩=>⟨O,R,λvs H' s r=>by
  obtain⟨v,rfl,h⟩:=cA r;cases h;exact⟨j,rfl,q _ H' s kj⟩⟩
end
end L2
namespace L2
open PySem PySem.Spec PySem.W PyProof.Rows
abbrev T'(l:List Nat):Str:=⟨l.toArray⟩
abbrev sg(c:Nat):U:=.str ⟨#[c]⟩
end L2
namespace L2
open PySem PySem.Spec PyProof.Rows
theorem Bx{X:Cx}{p q:P2}(hu:X.A.units+10<Ip):OpS X (Hj .Lt) (pu p) (pu q) (.bl (ST.ltP p q)):=by
 intro pins s σ H v w e f Q I r1 r2 h;obtain⟨k1,k2,k3⟩:=h;obtain⟨b1,rfl,t1⟩:=BF I k1 r1;obtain⟨b2,rfl,t2⟩:=BF I k2 r2;exact ST.lt_ptsR (by lia) t1 t2 (aW I k3 rfl)
section
variable {K:Fm}{H0 H H':Hp}{O0 O:List FI}{ps:PSt}{σ:St}{j:Nat}{xss:Nat→List U}{d:FI}{as:Nat→FI}
theorem Rs.setn{o:Option V}(R:Rs K H0 O0 ps σ H O)(h:ps[j]?=some none):Rs K H0 O0 ps (σ.set j o) H O:=by
 have ne:∀{i:Nat}{s:Sl},ps[i]?=some (some s)->j≠i:=λ{i s} q z=>by rw[<-z,h]at q;cases q
 refine⟨R.same,R.old,R.new,R.dom,by simp[R.len],λi s q=>?_,λi k xs ys a q1 q2 q3 q4=>?_⟩
 ·obtain⟨v,h1,h2⟩:=R.at_ i s q;exact⟨v,by rw[FZ (ne q)];exact h1,h2⟩
 ·rw[FZ (ne q1)]at q3;rw[FZ (ne q2)]at q4;exact R.inj i k xs ys a q1 q2 q3 q4
end
end L2
namespace ST2
open PySem PySem.SetTable ST
section
variable {prog:FK}{w:Gj}{A:Gs}{E:Fq→Fp→Prop}{s:Fp}
abbrev K4:=(Int×Int)×(Int×Int)
abbrev l1(k:K4):List Int:=[k.1.1,k.1.2]
abbrev l2(k:K4):List Int:=[k.2.1,k.2.2]
def TQ(prog:FK)(w:Gj)(h:HF)(k:K4)(b:FI):Prop:=∃o items n a1 a2,h.get? b=some o∧o.cls=.type "tuple"∧o.data=.seq items n∧items.toList=[.ref a1,.ref a2]∧TK prog w h (l1 k) a1∧TK prog w h (l2 k) a2
noncomputable def hsq(prog:FK)(w:Gj)(k:K4):Int:=reduceHash (Builtin.Tuple.tupleHashOf [hsh prog w (l1 k),hsh prog w (l2 k)])
theorem TQ.typeIs{k:K4}{a:FI}(x:TQ prog w s.heap k a):s.TypeIs (.ref a) "tuple":=let ⟨o,_,_,_,_,ho,hc,_⟩:=x;⟨o,ho,hc⟩
theorem TQ.inj{h:HF}{a:FI}{x y:K4}(hx:TQ prog w h x a)(hy:TQ prog w h y a):x=y:=by
 obtain⟨o,it,n,a1,a2,h1,_,h2,h3,h4,h5⟩:=hx;obtain⟨o',it',n',b1,b2,g1,_,g2,g3,g4,g5⟩:=hy;rw[h1]at g1;cases g1;rw[h2]at g2;cases g2;rw[h3]at g3;injection g3 with e1 e2
 injection e2 with e2 _
 injection e1 with e1
 injection e2 with e2
 subst e1;subst e2;have q1:=h4.inj g4;have q2:=h5.inj g5;obtain⟨⟨x1,x2⟩,⟨x3,x4⟩⟩:=x;obtain⟨⟨y1,y2⟩,⟨y3,y4⟩⟩:=y;injection q1 with c1 c2
 injection c2 with c2 _
 injection q2 with c3 c4
 injection c4 with c4 _
 simp only at c1 c2 c3 c4;rw[c1,c2,c3,c4]
theorem AU{n:Nat}{k:List Int}{a:FI}{Q:Bool->Fp->Prop}(hk:TK prog w s.heap k a)(h:Q true s):FX (F7 prog w) A (Pc (n+1) (.ref a)) Q E s:=by
 have hT:=hk.typeIs;obtain⟨o,items,m,ho,_,hd,hi⟩:=hk;unfold Pc;refine Fi (Ig hT F.slot_tuple_eq.lookup ?_);show FX _ _ (Mg (.ref a) (.type "tuple") >>=_) _ _ s;refine Fi (Hb hT IF ?_);simp only[Gw,Fz,if_false];refine Fi (G6 ho hd ?_);refine Fi ?_;show FX _ _ (QI items _ _) _ _ s;rw[<-Ie];refine Je _ (λrest r s'=>r.1=none/\s'=s/\∀v∈rest,carriedByValue v=true) _ ?_ ?_ _ _ ⟨rfl,rfl,hi.byValue⟩
 ·rintro v rest r s' ⟨hr,rfl,Rr⟩;rw[eqIsQuiet_byValue _ (Rr v Fv)];refine Fi (Fl ?_);simp only[Gw,Fz,if_false];exact Fl ⟨rfl,rfl,λu Tv=>Rr u (Fn _ Tv)⟩
 ·rintro ⟨r1,r2⟩ s' ⟨hr,rfl,_⟩;simp only at hr;subst hr;exact Fl h
theorem quiet{k:K4}{a:FI}{Q:Bool->Fp->Prop}(hk:TQ prog w s.heap k a)(h:Q true s):FX (F7 prog w) A (Pc 8 (.ref a)) Q E s:=by
 have hT:=hk.typeIs;obtain⟨o,items,m,a1,a2,ho,_,hd,hi,t1,t2⟩:=hk;unfold Pc;refine Fi (Ig hT F.slot_tuple_eq.lookup ?_);show FX _ _ (Mg (.ref a) (.type "tuple") >>=_) _ _ s;refine Fi (Hb hT IF ?_);simp only[Gw,Fz,if_false];refine Fi (G6 ho hd ?_);refine Fi ?_;show FX _ _ (QI items _ _) _ _ s;rw[<-Ie];refine Je _ (λrest r s'=>r.1=none/\s'=s/\∀v∈rest,∃k b,v=FW b/\TK prog w s.heap k b) _ ?_ ?_ _ _ ⟨rfl,rfl,λv hv=>?_⟩
 ·rintro v rest r s' ⟨hr,rfl,Rr⟩;obtain⟨k',b,rfl,hb⟩:=Rr v Fv;refine Fi (AU (n:=6) hb ?_);simp only[Gw,Fz,if_false];exact Fl ⟨rfl,rfl,λu Tv=>Rr u (Fn _ Tv)⟩
 ·rintro ⟨r1,r2⟩ s' ⟨hr,rfl,_⟩;simp only at hr;subst hr;exact Fl h
 ·rw[hi]at hv;rcases Fw.mp hv with rfl |hv
  ·exact⟨_,_,rfl,t1⟩
  ·rw[Fy.mp hv];exact⟨_,_,rfl,t2⟩
theorem DS(x y:K4):decide (x=y)=(decide (l1 x=l1 y) && decide (l2 x=l2 y)):=by
 obtain⟨⟨x1,x2⟩,⟨x3,x4⟩⟩:=x;obtain⟨⟨y1,y2⟩,⟨y3,y4⟩⟩:=y;simp
theorem Ab{x y:K4}{a b:FI}{P:Fin->Fp->Prop}(hu:A.units<Ip)(hx:TQ prog w s.heap x a)(hy:TQ prog w s.heap y b)(h:P (.done (.ret (.bool (decide (x=y))))) s):
  FX (F7 prog w) A (Builtin.«tuple.__eq__» ⟨[.ref a,.ref b],[]⟩) P E s:=by
 have hTb:=hy.typeIs;obtain⟨oa,xs,na,a1,a2,hoa,_,hda,hia,t1,t2⟩:=hx;obtain⟨ob,ys,nb,b1,b2,hob,_,Sk,hib,u1,u2⟩:=hy;show FX _ _ (Mg (.ref b) (.type "tuple") >>=_) _ _ s;refine Fi (Hb hTb IF ?_);simp only[Gw,Fz,if_false];refine Fi (HB hoa hda ?_);refine Fi (HB hob Sk ?_);have ex:xs=#[.ref a1,.ref a2]:=by rw[<-Kf];exact hia
 have ey:ys=#[.ref b1,.ref b2]:=by rw[<-Kf];exact hib
 subst ex;subst ey;rw[DS]at h;refine Fi ?_;refine Je _ (λrest r s'=>r.1=none/\s'=s/\((rest=[(FW a1,FW b1),(FW a2,FW b2)])\/(rest=[(FW a2,FW b2)]/\l1 x=l1 y)\/(rest=[]/\l1 x=l1 y/\l2 x=l2 y))) _ ?_ ?_ _ _ ⟨rfl,rfl,.inl rfl⟩
 ·rintro ⟨u,v⟩ rest r s' ⟨hr,rfl,hc⟩;rcases hc with hc |⟨hc,e1⟩ |⟨hc,_⟩
  ·injection hc with c1 c2
   injection c1 with c1 c3
   subst c1;subst c3;subst c2;refine Fi (HA hu t1 u1 ?_);by_cases e:l1 x=l1 y
   ·rw[decide_eq_true e];simp only[Gw,Fz,if_false];exact Fl ⟨rfl,rfl,.inr (.inl ⟨trivial,e⟩)⟩
   ·rw[decide_eq_false e];simp only[HY,if_true];rw[decide_eq_false e]at h;exact Fi (Fl (Fl (Fl h)))
  ·injection hc with c1 c2
   injection c1 with c1 c3
   subst c1;subst c3;subst c2;refine Fi (HA hu t2 u2 ?_);by_cases e:l2 x=l2 y
   ·rw[decide_eq_true e];simp only[Gw,Fz,if_false];exact Fl ⟨rfl,rfl,.inr (.inr ⟨trivial,e1,e⟩)⟩
   ·rw[decide_eq_false e];simp only[HY,if_true];rw[decide_eq_false e,K8]at h;exact Fi (Fl (Fl (Fl h)))
  ·cases hc
 ·rintro ⟨r1,r2⟩ s' ⟨hr,rfl,hc⟩;simp only at hr;subst hr;refine Fl ?_;rcases hc with hc |⟨hc,e1⟩ |⟨_,e1,e2⟩
  ·cases hc
  ·cases hc
  ·rw[decide_eq_true e1,decide_eq_true e2]at h;exact h
theorem eqB{x y:K4}{a b:FI}{Q:Bool->Fp->Prop}(hu:A.units+1<Ip)(hx:TQ prog w s.heap x a)(hy:TQ prog w s.heap y b)(h:Q (decide (x=y)) s):
  FX (F7 prog w) A (eqBool (.ref a) (.ref b)) Q E s:=by
 unfold eqBool
 try with_reducible refine GS ?_
 show FX _ _ (if (FW a==FW b)=true then _ else _) Q E s
 by_cases R7:(FW a==FW b)=true
 ·rw[if_pos R7];have e:a=b:=by have:=eq_of_beq R7;injection this
  subst e;obtain rfl:=hx.inj hy;exact Fi (Jb (Fl (by simpa using h)))
 ·rw[if_neg R7]
  exact Fi (IZ (op:=.Eq) hx.typeIs hy.typeIs F.slot_tuple_eq
   (GJ F.slot_tuple_eq hx.typeIs F.entry_tuple_eq (Ab (by show A.units+1<Ip;lia) hx hy ⟨_,rfl,(λe=>nomatch e),HM h⟩) (F.args_tuple_eq_2 _ _)) (by lia))
theorem hashQ{k:K4}{a:FI}{Q:Int->Fp->Prop}(hu:A.units+1<Ip)(hk:TQ prog w s.heap k a)(h:Q (hsq prog w k) {s with toks:=s.toks+7 }):
  FX (F7 prog w) A (pyHash (.ref a)) Q E s:=by
 have hT:=hk.typeIs;obtain⟨o,items,n,a1,a2,ho,_,hd,hi,t1,t2⟩:=hk;unfold pyHash
 first |unfold pyHashByItsType |skip
 first |refine Fi (wpAny_cRoomFor_or (.inr (show A.units<Ip by lia)) ?_) |skip
 refine Fi (Ig hT F.slot_tuple_hash.lookup ?_);show FX _ _ (if (some (Value.builtin "tuple.__hash__")==some F4)=true then _ else _) Q E s
 rw[if_neg (by rw[beq_builtin_none];exact F1)]
 refine Fi (Ig hT F.slot_tuple_hash.lookup ?_);show FX _ _ (callSpecialIfBoundUnlessNone? (.ref a) "__hash__" _ >>=_) Q E s;refine Fi (wpAny_callSpecialIfBoundUnlessNone?_slot hT F.slot_tuple_hash (GJ F.slot_tuple_hash hT F.entry_tuple_hash ?_ (F.args_tuple_hash_1 _)));show FX _ _ (Builtin.Tuple.tupleItemsOf (.ref a) >>=_) _ _ s;refine Fi (HB ho hd ?_);refine Fi ?_;rw[<-Ie]
 refine Je _
  (λrest (b:Array Int) s'=>(rest=[.ref a1,.ref a2]/\b.toList=[]/\s'=s)\/(rest=[.ref a2]/\b.toList=[hsh prog w (l1 k)]/\s'={s with toks:=s.toks+3 })\/(rest=[]/\b.toList=[hsh prog w (l1 k),hsh prog w (l2 k)]/\s'={s with toks:=s.toks+6 }))
  _ ?_ ?_ _ _ (.inl ⟨hi,rfl,rfl⟩)
 ·rintro x rest b s' (⟨hr,hb,rfl⟩ |⟨hr,hb,rfl⟩ |⟨hr,_⟩)
  ·injection hr with c1 c2
   subst c1;subst c2;refine Fi (LR (by show A.units+1<Ip;lia) t1 ?_)
   first
    |exact Fl (.inr (.inl ⟨rfl,by simp[hb],rfl⟩))
    |exact Fi (Fl (Fl (.inr (.inl ⟨rfl,by simp[hb],rfl⟩))))
  ·injection hr with c1 c2
   subst c1;subst c2;refine Fi (LR (s:={s with toks:=s.toks+3 }) (by show A.units+1<Ip;lia) t2 ?_)
   first
    |exact Fl (.inr (.inr ⟨rfl,by simp[hb],rfl⟩))
    |exact Fi (Fl (Fl (.inr (.inr ⟨rfl,by simp[hb],rfl⟩))))
  ·cases hr
 ·rintro b s' (⟨hr,_⟩ |⟨hr,_⟩ |⟨_,hb,rfl⟩)
  ·cases hr
  ·cases hr
  ·show FX _ _ (retInt (Builtin.Tuple.tupleHashOf b.toList)) _ _ _;rw[hb];refine wpAny_ret_mkInt ?_;unfold hsq reduceHash at h;generalize Builtin.Tuple.tupleHashOf [hsh prog w (l1 k),hsh prog w (l2 k)]=z at *;show FX _ _ (if (decide (-(2:Int) ^ 63<=z) && decide (z<2 ^ 63))=true then _ else _) Q E _
   by_cases hr:(decide (-(2:Int) ^ 63<=z) && decide (z<2 ^ 63))=true
   ·rw[if_pos hr];rw[if_pos hr]at h;exact Fl h
   ·rw[if_neg hr];rw[if_neg hr]at h;exact Fi (Jb (Fl h))
variable {hZ:K4→Int}
def ents(hZ:K4->Int)(kb:List (K4×FI)):List (Int×Fq):=kb.map λp=>(hZ p.1,.ref p.2)
structure SP(prog:FK)(w:Gj)(hZ:K4->Int)(h:HF)(S:FI)(kb:List (K4×FI)):Prop where
 ex:∃o es ep t,h.get? S=some o∧o.ExactSet∧o.data=.set es ep t∧es.toList=ents hZ kb∧TOk t (kb.map λp=>hZ p.1)∧t.led=(!w.params.followText "set-order")∧t.plain=true∧t.tooFull=false∧t.mask<8*kb.length+8
 keys:∀p∈kb,TQ prog w h p.1 p.2
 nd:(kb.map (·.1)).Nodup
structure Got(kx:Nat->K4×FI)(i:Nat)(kb:List (K4×FI)):Prop where
 src:∀p∈kb,∃j,j<i/\p=kx j
 all:∀j,j<i->(kx j).1∈kb.map (·.1)
 len:kb.length<=i
variable {R:Ow→Fp→Prop}{I:FI}{fp wr:List FI}{G:Array JP→Array JP→Prop}{n:Nat}{P:Nat→Fq→Prop}{St:Nat→Fp→Prop}
end
end ST2
namespace ST3
open PySem PySem.W PySem.Calls PyProof.Rows ST
abbrev TR:=(Int×Int)×(Int×Int)×(Int×Int)
def ltT(a b:TR):Bool:=if a.1=b.1 then (if a.2.1=b.2.1 then ltP a.2.2 b.2.2 else ltP a.2.1 b.2.1) else ltP a.1 b.1
theorem Bo{a b:TR}(h:ltT a b=true):ltT b a=false:=by
 unfold ltT at *;by_cases h1:a.1=b.1
 ·rw[if_pos h1]at h;rw[if_pos h1.symm];by_cases h2:a.2.1=b.2.1
  ·rw[if_pos h2]at h;rw[if_pos h2.symm];exact iD h
  ·rw[if_neg h2]at h;rw[if_neg (Ne.symm h2)];exact iD h
 ·rw[if_neg h1]at h;rw[if_neg (Ne.symm h1)];exact iD h
theorem z_{a b:TR}(h:a≠b)(k:ltT a b=false):ltT b a=true:=by
 unfold ltT at *;by_cases h1:a.1=b.1
 ·rw[if_pos h1]at k;rw[if_pos h1.symm];by_cases h2:a.2.1=b.2.1
  ·rw[if_pos h2]at k;rw[if_pos h2.symm];exact ltP_tot (λe=>h (GU h1 (GU h2 e))) k
  ·rw[if_neg h2]at k;rw[if_neg (Ne.symm h2)];exact ltP_tot h2 k
 ·rw[if_neg h1]at k;rw[if_neg (Ne.symm h1)];exact ltP_tot h1 k
theorem jR{a:Int×Int}:ltP a a=false:=asc_irr
theorem CV{a b c:TR}(h:ltT a b=true)(k:ltT b c=true):ltT a c=true:=by
 unfold ltT at *;by_cases h1:a.1=b.1
 ·rw[if_pos h1]at h;by_cases k1:b.1=c.1
  ·rw[if_pos k1]at k;rw[if_pos (h1.trans k1)];by_cases h2:a.2.1=b.2.1
   ·rw[if_pos h2]at h;by_cases k2:b.2.1=c.2.1
    ·rw[if_pos k2]at k;rw[if_pos (h2.trans k2)];exact kg h k
    ·rw[if_neg k2]at k;rw[if_neg (by rw[h2];exact k2),h2];exact k
   ·rw[if_neg h2]at h;by_cases k2:b.2.1=c.2.1
    ·rw[if_neg (by rw[<-k2];exact h2),<-k2];exact h
    ·rw[if_neg k2]at k;have t:=kg h k;rw[if_neg (λe=>by rw[e,jR]at t;cases t)];exact t
  ·rw[if_neg k1]at k;rw[if_neg (by rw[h1];exact k1),h1];exact k
 ·rw[if_neg h1]at h;by_cases k1:b.1=c.1
  ·rw[if_neg (by rw[<-k1];exact h1),<-k1];exact h
  ·rw[if_neg k1]at k;have t:=kg h k;rw[if_neg (λe=>by rw[e,jR]at t;cases t)];exact t
section
variable {prog:FK}{w:Gj}{A:Gs}{E:Fq→Fp→Prop}{s:Fp}
abbrev lq(p:Int×Int):List Int:=[p.1,p.2]
def TT(prog:FK)(w:Gj)(h:HF)(t:TR)(b:FI):Prop:=∃o items n a1 a2 a3,h.get? b=some o∧o.cls=.type "tuple"∧o.data=.seq items n∧items.toList=[.ref a1,.ref a2,.ref a3]∧TK prog w h (lq t.1) a1∧TK prog w h (lq t.2.1) a2∧TK prog w h (lq t.2.2) a3
theorem TT.grow{h h':HF}{k:TR}{b:FI}(x:TT prog w h k b)(e:∀b o,o.cls=.type "tuple"→h.get? b=some o→h'.get? b=some o):TT prog w h' k b:=by
 obtain⟨o,it,n,a1,a2,a3,h1,hc,h2,h3,h4,h5,h6⟩:=x;have up:∀{k:List Int}{a:FI},TK prog w h k a->TK prog w h' k a:=λ{k a} t=>by obtain⟨o,it,n,g1,gc,g2⟩:=t;exact⟨o,it,n,e _ _ gc g1,gc,g2⟩
 exact⟨o,it,n,a1,a2,a3,e _ _ hc h1,hc,h2,h3,up h4,up h5,up h6⟩
theorem Ed{p q:Int×Int}(h:lq p=lq q):p=q:=by
 obtain⟨a,b⟩:=p;obtain⟨c,d⟩:=q;injection h with h1 h2
 injection h2 with h2 _
 simp only at h1 h2;rw[h1,h2]
theorem jc(a b:Int×Int):decide (lq a=lq b)=decide (a=b):=decide_eq_decide.mpr ⟨Ed,λe=>by rw[e]⟩
theorem Cd(hu:A.units+1<Ip){x y:FI}{a b:TR}{Q:Bool->Fp->Prop}(hx:TT prog w s.heap a x)(hy:TT prog w s.heap b y)(h:Q (ltT a b) s):FX (F7 prog w) A (keyLt' (O9 false) (.ref x) (.ref y)) Q E s:=by
 obtain⟨o,QW,n,a1,a2,a3,ho,_,hd,hi,t1,t2,t3⟩:=hx;obtain⟨o',its',n',b1,b2,b3,RY,_,R9,Q9,u1,u2,u3⟩:=hy;refine kat_lt ho hd RY R9 ?_;rw[hi,Q9];unfold ltT at h;refine kat_cons (HA (by lia) t1 u1 ?_)
 rw[jc];by_cases e1:a.1=b.1
 ·rw[decide_eq_true e1];rw[if_pos e1]at h;refine kat_yes (kat_cons (HA (by lia) t2 u2 ?_))
  rw[jc];by_cases e2:a.2.1=b.2.1
  ·rw[decide_eq_true e2];rw[if_pos e2]at h;refine kat_yes (kat_cons (HA (by lia) t3 u3 ?_))
   rw[jc];by_cases e3:a.2.2=b.2.2
   ·rw[decide_eq_true e3];refine kat_yes (kat_nil ?_);rw[e3,jR]at h
    have z2:decide (QW.size<its'.size)=false:=by
     rw[<-Fx,<-Fx,hi,Q9];simp
    rw[z2];exact h
   ·rw[decide_eq_false e3];exact kat_no (kat_one _ _ (lt_ptsR (by lia) t3 u3 h))
  ·rw[decide_eq_false e2];rw[if_neg e2]at h;exact kat_no (kat_one _ _ (lt_ptsR (by lia) t2 u2 h))
 ·rw[decide_eq_false e1];rw[if_neg e1]at h;exact kat_no (kat_one _ _ (lt_ptsR (by lia) t1 u1 h))
abbrev PT3:=List (TR×FI)
abbrev BS(pb:PT3):List Fq:=pb.map λp=>FW p.2
theorem xT{pb:PT3}{Q:Kh->Fp->Prop}(Su:∀p∈pb,TT prog w s.heap p.1 p.2)(h0:0<pb.length)(h:Q (O9 false) s):FX (F7 prog w) A (keyKind' (BS pb).toArray) Q E s:=by
 obtain⟨fs,hf,hl,hi⟩:∃fs,KatTups s.heap (BS pb) fs∧fs.length=pb.length∧∀v∈fs,∃a o,v=FW a∧s.heap.get? a=some o∧o.cls=.type "tuple":=by
  clear h h0
  induction pb with
  |nil=>exact⟨[],.nil,rfl,λv hv=>by simp at hv⟩
  |cons p r ih=>
   obtain⟨fs,hf,hl,hi⟩:=ih λq hq=>Su q (Fn _ hq)
   obtain⟨o,QW,n,a1,a2,a3,ho,hc,hd,R8,t1,_⟩:=Su p Fv;refine⟨.ref a1::fs,.cons ho hc hd (by rw[<-GC,R8];rfl) hf,by simp[hl],λv hv=>?_⟩
   rcases Fw.mp hv with z |z
   ·obtain⟨o1,_,_,g1,g2,_⟩:=t1;exact⟨a1,o1,z,g1,g2⟩
   ·exact hi v z
 refine kat_kind (T:=.type "tuple") hf (by lia) (λv hv=>?_) (by decide) h
 obtain⟨a,o,rfl,g1,g2⟩:=hi v hv;rw[<-g2];exact (Looks.ld g1).andThen .now
end
end ST3
namespace L2
open PySem PySem.Spec PyProof.Rows
abbrev trU(t:ST3.TR):U:=.tup [pu t.1,pu t.2.1,pu t.2.2]
def t0:ST3.TR:=((0,0),(0,0),(0,0))
section
variable {X:Cx}{H0:Hp}{O0:List FI}{ps:PSt}{e:Expr}{trs:List ST3.TR}{pos p:Pos}
theorem DU{a b c:V}{us:List Fq}(h:aT [a,b,c] us):∃u v w,us=[u,v,w]/\a9 a u/\a9 b v/\a9 c w:=by
 cases h with
 |cons h1 r=>
  cases r with
  |cons h2 r=>
   cases r with
   |cons h3 r=>cases r;exact⟨_,_,_,rfl,h1,h2,h3⟩
end
abbrev Ent:=List Int×FI×Fq
theorem tW{P:FK}{w:Gj}:∀{ks:List Int}{us:List Fq},aT (ks.map V.int) us->ItemsAre (Lm P w) ks us
 |[],_,r=>by rw[M4]at r;cases r;exact .nil
 |k::ks,_,r=>by
  rw[FU]at r;cases r with
  |cons h t=>
   obtain⟨t',e⟩:=(show ∃t,_=GB k t from h)
   subst e;exact .cons (by simp[Lm,QD]) (tW t)
section
variable {X:Cx}{pins:List (FI×Obj)}{σ:St}{H:Hp}{s:Fp}{a b:FI}{k:List Int}{xs:List Ent}{A:Gs}{E:Fq→Fp→Prop}
theorem ww(I:Inv X pins σ H s)(h:SqT X.K H b (k.map V.int)):(tupleKind (Lm X.prog X.w)).is s.heap k b:=by
 obtain⟨QW,rv,⟨o,e,c,n,d⟩,_⟩:=I.tuple h;exact⟨o,QW.toArray,n,e,c,d,by simpa using tW rv⟩
variable {o i e Rz:Expr}{pos Rf tpos:Pos}{td ty tv:TE}
theorem Cu{pins:List (FI×Obj)}{σ:St}{H:Hp}{s:Fp}(I:Inv X pins σ H s):L6<s.heap.objs.size:=LP (by decide) (I.mod.glob.keeps I.bk).lt
end
theorem tN{K:Fm}{H:Hp}{v:V}{a b:Int}(r:Rp K H v (.tup [.int a,.int b])):∃p,v=.ref p/\SqT K H p ([a,b].map V.int):=by
 cases r with
 | @tup p vs _ hq hl hh=>
  obtain⟨x,y,rfl,h1,h2⟩:=iK (⟨hl,hh⟩:Rps K H vs [.int a,.int b]);cases h1;cases h2;exact⟨p,rfl,hq⟩
abbrev KT(H:Hp):List (List Key×V)->List (List Key×FI×Fq)->Prop:=Paired λp q=>p.1=q.1/\H q.2.1=some (.tup (p.1.map kV))/\a9 p.2 q.2.2
theorem Bi{X:Cx}{H0:Hp}{O0:List FI}{ps:PSt}{e:Expr}{u u':U}(h:u=u')(t:Ev X H0 O0 ps e u):Ev X H0 O0 ps e u':=h ▸ t
end L2
namespace L2
open PySem PySem.Spec PySem.W PyProof.Rows
structure Dfn(K:Fm)(mg:Str->Option Fq)(x:Str)(st:I_)(ps:List Str) where
 a:FI
 d:Ia
 F:Fun K x x st a d
 b:dY K d ps []
 m:mg x=some (.ref a)
structure DfD(K:Fm)(mg:Str->Option Fq)(x:Str)(st:I_)(ps:List Str)(j:Int) where
 a:FI
 d:Ia
 D:FI
 F:zg K x x st a d D
 b:dY K d ps []
 bd:∃t,dY K d ps [.int j t]
 m:mg x=some (.ref a)
structure Exn(mg:Str->Option Fq)(x:Str) where
 c:FI
 m:mg x=some (.ref c)
abbrev C_(x q:Str)(st:I_)(ps:List Str):Prop:=∀(kV RN pm:Fq) (an:Option FI) (Q6 ct:Fq) (us:List Fq),us.length=ps.length->LO (fnOf x q (b_ st) (bI st) (ak st) .none kV RN pm an Q6 ct) ⟨us,[]⟩=pure (ps.zip us)
section
variable {K:Fm}{h:HF}{mg:Str→Option Fq}{x q:Str}{st:I_}{ps:List Str}{f C D:FI}{j:Int}{oc:Fq}{od an:Option FI}{kV dc pm cd ct:Fq}{sl:Array (Option Fq)}{x1 x2 x3 t:_}
noncomputable def dfn(X:K.In h)(G:h.Ns HJ mg)(hb:C_ x x st ps)(a:nsIn K HJ x=some (some (.ref f)))(l:K.lookup f=some ⟨oc,od,.func (fnOf x x (b_ st) (bI st) (ak st) .none kV dc pm an cd ct),sl⟩)(c:codeIn K cd x=true)(k:keepIn K (.ref f)=true):Dfn K mg x st ps:=⟨f,_,wF l c k,(wF l c k).binds hb,mg_of X G a⟩
noncomputable def dfD(X:K.In h)(G:h.Ns HJ mg)(hb:K.lookup D=some ⟨.type "tuple",x1,.seq #[.int j t] x2,x3⟩→∀(kV dc pm:Fq) (an:Option FI) (cd ct:Fq),dY K (fnOf x x (b_ st) (bI st) (ak st) (.ref D) kV dc pm an cd ct) ps []∧∃t,dY K (fnOf x x (b_ st) (bI st) (ak st) (.ref D) kV dc pm an cd ct) ps [.int j t])(a:nsIn K HJ x=some (some (.ref f)))(l:K.lookup f=some ⟨oc,od,.func (fnOf x x (b_ st) (bI st) (ak st) (.ref D) kV dc pm an cd ct),sl⟩)(c:codeIn K cd x=true)(k:keepIn K (.ref f)=true)(q:K.lookup D=some ⟨.type "tuple",x1,.seq #[.int j t] x2,x3⟩):DfD K mg x st ps j:=⟨f,_,D,AQ l c k,(hb q kV dc pm an cd ct).1,(hb q kV dc pm an cd ct).2,mg_of X G a⟩
def exn(X:K.In h)(G:h.Ns HJ mg)(a:nsIn K HJ x=some (some (.ref f))):Exn mg x:=⟨f,mg_of X G a⟩
theorem g_i{t:_}(X:K.In h)(G:h.Ns HJ mg)(a:nsIn K HJ x=some (some (.int j t))):∃t,mg x=some (.int j t):=⟨t,mg_of X G a⟩
end
end L2
namespace SG
open PySem PySem.W PySem.Calls PyProof.Rows ST
abbrev rfs{α:Type}(pb:List (α×FI)):List Fq:=pb.map λp=>FW p.2
structure Ky(α:Type) where
 lt:α->α->Bool
 tr:∀{a b c:α},lt a b=true->lt b c=true->lt a c=true
 tot:∀{a b:α},a≠b->lt a b=false->lt b a=true
 asy:∀{a b:α},lt a b=true->lt b a=false
 is:FK->Gj->HF->α->FI->Prop
 kd:Kh
 grow:∀{prog:FK}{w:Gj}{h h':HF}{a:α}{b:FI},is prog w h a b→(∀b o,o.cls=.type "tuple"→h.get? b=some o→h'.get? b=some o)→is prog w h' a b
 ask:∀{prog:FK}{w:Gj}{A:Gs}{E:Fq->Fp->Prop}{s:Fp}{x y:FI}{a b:α}{Q:Bool->Fp->Prop},A.units+1<Ip->is prog w s.heap a x->is prog w s.heap b y->Q (lt a b) s->FX (F7 prog w) A (keyLt' kd (.ref x) (.ref y)) Q E s
 kind:∀{prog:FK}{w:Gj}{A:Gs}{E:Fq->Fp->Prop}{s:Fp}{pb:List (α×FI)}{Q:Kh->Fp->Prop},(∀p∈pb,is prog w s.heap p.1 p.2)->0<pb.length->Q kd s->FX (F7 prog w) A (keyKind' (rfs pb).toArray) Q E s
section
variable {α:Type} [DecidableEq α] (S:Ky α)
def ins(x:α):List α->List α
 |[]=>[x]
 |y::r=>if x=y then y::r else if S.lt x y=true then x::y::r else y::ins x r
def srt(l:List α):List α:=l.foldr (ins S) []
theorem ins_mem(x z:α):∀l,z∈ins S x l↔z=x\/z∈l
 |[]=>by simp[ins]
 |y::r=>by
  unfold ins;split
  ·rename_i h;subst h;simp
  ·split
   ·simp
   ·rw[Fw,ins_mem x z r,Fw];grind
abbrev Asc(l:List α):Prop:=l.Pairwise (λx y=>S.lt x y=true)
theorem ins_asc(x:α):∀l,Asc S l->Asc S (ins S x l)
 |[],_=>by simp[ins]
 |y::r,h=>by
  unfold ins;split
  ·exact h
  ·rename_i Q1
   obtain⟨h1,h2⟩:=Gg.mp h;split
   ·rename_i Q4
    refine Gg.mpr ⟨λz hz=>?_,h⟩
    rcases Fw.mp hz with e |e
    ·rw[e];exact Q4
    ·exact S.tr Q4 (h1 z e)
   ·rename_i Q4
    refine Gg.mpr ⟨λz hz=>?_,ins_asc x r h2⟩
    rcases (ins_mem S x z r).mp hz with e |e
    ·rw[e];exact S.tot Q1 (by simpa using Q4)
    ·exact h1 z e
theorem srt_mem(z:α):∀l,z∈srt S l↔z∈l
 |[]=>by simp[srt]
 |y::r=>by
  show z∈ins S y (srt S r)↔_;rw[ins_mem,srt_mem z r,Fw]
theorem srt_asc:∀l,Asc S (srt S l)
 |[]=>JR
 |y::r=>ins_asc S y (srt S r) (srt_asc r)
omit [DecidableEq α] in
theorem irr(a:α):S.lt a a=false:=by
 cases h:S.lt a a with
 |false=>rfl
 |true=>rw[S.asy h]at h;cases h
omit [DecidableEq α] in
theorem asc_one:∀{l m:List α},Asc S l->Asc S m->(∀z,z∈l↔z∈m)->l=m
 |[],[],_,_,_=>rfl
 |[],y::r,_,_,h=>by have:=(h y).mpr Fv;simp at this
 |x::l,[],_,_,h=>by have:=(h x).mp Fv;simp at this
 |x::l,y::m,hl,hm,h=>by
  obtain⟨a1,a2⟩:=Gg.mp hl;obtain⟨b1,b2⟩:=Gg.mp hm
  have e:x=y:=by
   rcases Fw.mp ((h x).mp Fv) with z |z
   ·exact z
   ·rcases Fw.mp ((h y).mpr Fv) with z' |z'
    ·exact z'.symm
    ·have:=S.asy (b1 x z);rw[a1 y z']at this;cases this
  subst e;congr 1;refine asc_one a2 b2 λz=>⟨λhz=>?_,λhz=>?_⟩
  ·rcases Fw.mp ((h z).mp (Fn _ hz)) with e |e
   ·have:=a1 z hz;rw[e,irr]at this;cases this
   ·exact e
  ·rcases Fw.mp ((h z).mpr (Fn _ hz)) with e |e
   ·have:=b1 z hz;rw[e,irr]at this;cases this
   ·exact e
end
end SG
namespace ST3
open PySem PySem.W PySem.Calls PyProof.Rows ST
def KT:SG.Ky TR:=⟨ltT,CV,z_,Bo,TT,O9 false,λh e=>h.grow e,λhu h k q=>Cd hu h k q,λh k q=>xT h k q⟩
abbrev PQ:=(Int×Int)×Int
section
variable {prog:FK}{w:Gj}{A:Gs}{E:Fq→Fp→Prop}{s:Fp}
def TQ(prog:FK)(w:Gj)(h:HF)(t:PQ)(b:FI):Prop:=∃o items n a1 u,h.get? b=some o∧o.cls=.type "tuple"∧o.data=.seq items n∧items.toList=[.ref a1,.int t.2 u]∧TK prog w h (lq t.1) a1
end
noncomputable def KP:SG.Ky (Int×Int):=⟨ltP,kg,ltP_tot,iD,λprog w h p b=>TK prog w h (lq p) b,O9 true,λt e=>by obtain⟨o,it,n,g1,gc,g2⟩:=t;exact⟨o,it,n,e _ _ gc g1,gc,g2⟩,λhu h k q=>Ck h k q,λh k q=>yM h k q⟩
end ST3
namespace L2
open PySem PySem.Spec PyProof.Rows
section
variable {X:Cx}{pins:List (FI×Obj)}{σ:St}{H:Hp}{s:Fp}{z:V}{u:Fq}
theorem B9{a:ST3.TR}(I:Inv X pins σ H s)(r:Rp X.K H z (trU a))(e:a9 z u):∃b,z=.ref b/\u=.ref b/\ST3.KT.is X.prog X.w s.heap a b:=by
 cases r with
 | @tup b zs _ hs hsl hsi=>
  cases e;refine⟨b,rfl,rfl,?_⟩;obtain⟨jts,rj,ht,_⟩:=I.tuple hs;have z0:zs.length=3:=hsl;obtain⟨z1,z2,z3,rfl⟩:=len3 z0;obtain⟨u1,u2,u3,rfl,r1,r2,r3⟩:=DU rj;obtain⟨x,rfl,tx⟩:=kB I (hsi 0 z1 _ rfl rfl) r1;obtain⟨y,rfl,ty⟩:=kB I (hsi 1 z2 _ rfl rfl) r2;obtain⟨v,rfl,tv⟩:=kB I (hsi 2 z3 _ rfl rfl) r3;obtain⟨o,ho,TZ,n,hod⟩:=ht;exact⟨o,_,n,x,y,v,ho,TZ,hod,rfl,tx _ _,ty _ _,tv _ _⟩
theorem EM{a:P2}(I:Inv X pins σ H s)(r:Rp X.K H z (pu a))(e:a9 z u):∃b,z=.ref b/\u=.ref b/\ST3.KP.is X.prog X.w s.heap a b:=by
 obtain⟨b,rfl,tb⟩:=kB I r e;refine⟨b,?_,rfl,tb _ _⟩;cases r;cases e;rfl
end
end L2
namespace SG
open PySem PySem.W PySem.Calls PyProof.Rows ST
abbrev kyg{α:Type}(p:α×FI):GE:=(FW p.2,FW p.2)
open Classical in
noncomputable def RG {α:Type} (S:Ky α) (pb:List (α×FI)) (x y:GE):Bool:=decide (∃p∈pb,∃q∈pb,x=kyg p/\y=kyg q/\S.lt p.1 q.1=true)
theorem j5{α:Type}{S:Ky α}{pb:List (α×FI)}{x y:GE}:RG S pb x y=true↔∃p∈pb,∃q∈pb,x=kyg p/\y=kyg q/\S.lt p.1 q.1=true:=by unfold RG;exact decide_eq_true_iff
theorem ui{α:Type}{p q:α×FI}(h:kyg p=kyg q):p.2=q.2:=by
 have:=(Prod.mk.inj h).1;injection this
section
variable {α:Type} (S:Ky α) {prog:FK}{w:Gj}{A:Gs}{E:Fq→Fp→Prop}{s:Fp}
include S
theorem sort_b{a:FI}{pb:List (α×FI)}{n:Nat}{P:O_→Fp→Prop}(ho:s.heap.get? a=some (N_ "list" (rfs pb).toArray n))(Su:∀p∈pb,S.is prog w s.heap p.1 p.2)(hu:A.units+1<Ip)(d0:α×FI)(SQ:(pb.map (·.1)).Nodup)(hsz:pb.length≤sizeLine)(TJ:∀{h:HF}{a b:α}{x:FI},S.is prog w h a x→S.is prog w h b x→a=b)
  (h:∀RA:List (α×FI),RA.Perm pb->(RA.map (·.1)).Pairwise (λx y=>S.lt x y=true)->P (.done (.ret .none)) {s with heap:=sortedHeap s.heap a (rfs pb) (rfs RA).toArray }):
  FX (F7 prog w) A (Builtin.«list.sort» ⟨[.ref a],[]⟩) P E s:=by
 have hvl:(rfs pb).length=pb.length:=by simp
 have hva:(rfs pb).toArray.size=pb.length:=by simp
 rw[list_sort_plain];have ha:a<s.heap.objs.size:=FC ho;refine Fi (listItems_at ho rfl (Fi (Oa ho rfl ?_ (by rw[hva];exact hsz) (GN _))))
 obtain⟨e1,ho1⟩:∃e1,(s.heap.update a (GR λ_=>(#[]:Array Fq))).get? a=some (N_ "list" #[] e1):=⟨_,get?_update_seq ho (λ_=>#[])⟩
 refine Fi (Pd ho1 rfl (Fi (PM ?_ (by show (rfs pb).length<=_;rw[hvl];exact hsz))))
 refine Fi (Ob ?_ (GN _));refine GS ?_;generalize hh6:((s.heap.update a (GR λ_=>(#[]:Array Fq))).push (N_ "tuple" (rfs pb).toArray 0)).push (N_ "list" #[] 0)=h6
 have old6:∀b o,b≠a->s.heap.get? b=some o->h6.get? b=some o:=λb o hb e=>by
  rw[<-hh6];exact Fo _ (Fo _ ((F3 _ _ (Ne.symm hb)).trans e))
 have ho6:h6.get? a=some (N_ "list" #[] e1):=by rw[←hh6];exact Fo _ (Fo _ ho1)
 have tk6:∀p∈pb,S.is prog w h6 p.1 p.2:=λp hp=>by
  refine S.grow (Su p hp) λb o hc e=>old6 b o (λz=>?_) e
  rw[z,ho]at e;cases e;exact absurd hc (by show ¬ (Hd "list"=Hd "tuple");decide)
 have fin:∀RA:List (α×FI),RA.Perm pb->(RA.map (·.1)).Pairwise (λx y=>S.lt x y=true)->P (.done (.ret .none)) {s with heap:=h6.update a (GR λ_=>(rfs RA).toArray) }:=λRA p1 p2=>by
  rw[<-hh6];exact h RA p1 p2
 show FX (F7 prog w) A _ P E {s with heap:=h6 }
 dsimp only;by_cases h2:(rfs pb).toArray.size<2
 ·rw[if_pos h2,if_pos h2];refine Fi (Fl ?_);rw[StateT.run_pure];refine Fi (Fl ?_);dsimp only
  have eout:(Gu (SortSt.mk' general' ((rfs pb).toArray.zip (rfs pb).toArray) #[] 7 none)).map (·.2)=(rfs pb).toArray:=by
   show (((rfs pb).toArray.zip (rfs pb).toArray)).map (·.2)=_;apply Kf.mp
   have zip2:∀l:List Fq,(l.zip l).map (·.2)=l:=λl=>by
    induction l with
    |nil=>rfl
    |cons x r ih=>rw[Il,FU,ih]
   rw[MH,OK];exact zip2 _
  rw[eout];refine Fi (Pd ho6 rfl (Fi (Oa ho6 rfl ?_ (GN _) (by rw[hva];exact Os hsz))))
  show FX _ _ (if (e1 !=e1)=true then _ else _) _ _ _
  rw[if_neg (by simp)]
  refine Fl (fin pb (LX _) ?_)
  match pb,hva,h2 with
  |[],_,_=>simp
  |[_],_,_=>simp
  |_::_::r,hva,h2=>rw[hva]at h2;exact absurd h2 (by simp)
 ·rw[if_neg h2,if_neg h2];rw[hva]at h2;have h2':2<=(rfs pb).length:=by rw[hvl];lia
  refine Fi (S.kind (s:={s with heap:=h6 }) tk6 (by lia) ?_)
  have one:∀p∈pb,∀q∈pb,kyg p=kyg q->p=q:=λp hp q hq e=>GU (TJ (tk6 p hp) (by rw[ui e];exact tk6 q hq)) (ui e)
  have val:∀p∈pb,∀q∈pb,RG S pb (kyg p) (kyg q)=S.lt p.1 q.1:=λp hp q hq=>by
   cases hl:S.lt p.1 q.1 with
   |true=>exact j5.mpr ⟨p,hp,q,hq,rfl,rfl,hl⟩
   |false=>
    cases hr:RG S pb (kyg p) (kyg q) with
    |false=>rfl
    |true=>
     obtain⟨p',RO,q',Rb,e1,e2,z⟩:=j5.mp hr;rw[<-one p hp p' RO e1,<-one q hq q' Rb e2,hl]at z;cases z
  have asks:TS.Asks prog w A E {s with heap:=h6 } (S.kd) (λx=>∃p∈pb,x=kyg p) (RG S pb):=by
   rintro x y st Q ⟨p,hp,rfl⟩ ⟨q,hq,rfl⟩ hk hQ;rw[lt'_eq];refine FN (L1 ?_);rw[hk];rw[val p hp q hq]at hQ;refine FN (wpS_lift (JV (S.ask (s:={s with heap:=h6 }) hu (tk6 p hp) (tk6 q hq) ⟨rfl,?_⟩)))
   exact FY hQ
  have ord:TS.Ord (λx=>∃p∈pb,x=kyg p) (RG S pb) (pb.map kyg):=by
   refine⟨λx y z h1 h2=>?_,λx hx y hy Q1 hr=>?_,?_,λx hx=>?_⟩
   ·obtain⟨p,hp,q,hq,rfl,rfl,z1⟩:=j5.mp h1;obtain⟨q',Rb,r,hr,e,rfl,z2⟩:=j5.mp h2;rw[<-one q hq q' Rb e]at z2;exact j5.mpr ⟨p,hp,r,hr,rfl,rfl,S.tr z1 z2⟩
   ·obtain⟨p,hp,rfl⟩:=Fs.mp hx;obtain⟨q,hq,rfl⟩:=Fs.mp hy;rw[val p hp q hq]at hr;rw[val q hq p hp];refine S.tot (λe=>Q1 ?_) hr
    obtain⟨i,hi,rfl⟩:=G_ hp;obtain⟨j,hj,rfl⟩:=G_ hq;have:i=j:=(MF (xs:=pb.map (·.1)) (h₀:=by simpa using hi) (h₁:=by simpa using hj) SQ).mp (by simpa using e)
    subst this;rfl
   ·have ndp:pb.Nodup:=(Gb.mp SQ).imp λh e=>h (congrArg _ e)
    refine Gb.mpr (Ko (λhp hq Q1 e=>Q1 (one _ hp _ hq e)) ndp)
   ·obtain⟨p,hp,rfl⟩:=Fs.mp hx;exact⟨p,hp,rfl⟩
  have stt:TS.Stt (S.kd) (pb.map kyg) #[] (SortSt.mk' (S.kd) ((rfs pb).toArray.zip (rfs pb).toArray) #[] 7 none):=by
   refine⟨rfl,rfl,?_,rfl⟩
   have e:(Gu (SortSt.mk' (S.kd) ((rfs pb).toArray.zip (rfs pb).toArray) #[] 7 none)).toList=pb.map kyg:=by
    show ((rfs pb).toArray.zip (rfs pb).toArray).toList=_;rw[OK];show (pb.map _).zip (pb.map _)=_;rw[List.zip_map']
   rw[e]
  refine Fi (JA (TS.sruns asks ord (Q:=λ_ QX=>LA QX=none/\∃RA:List (α×FI),RA.Perm pb/\(RA.map (·.1)).Pairwise (λx y=>S.lt x y=true)/\(Gu QX).map (·.2)=(rfs RA).toArray) stt λpd QX S' up=>?_) ?_ λ_ _ e=>e)
  ·refine⟨S'.failed,?_⟩;obtain⟨RA,p1,p2⟩:=EL S'.perm pb rfl;refine⟨RA,p1,?_,?_⟩
   ·refine Gb.mpr (FO.mpr λi j hi hj RW=>?_)
    have lp:=p1.length_eq;have u:=up i j RW (by rw[Fk];lia)
    rw[Lh,Lh,TS.gt_eq (by rw[<-p2,Fk];exact hi),TS.gt_eq (by rw[<-p2,Fk];exact hj)]at u
    simp only[<-p2,List.getElem_map]at u;rw[val _ (p1.mem_iff.mp (GD hi)) _ (p1.mem_iff.mp (GD hj))]at u;exact u
   ·apply Kf.mp;rw[MH,<-p2,F5];rfl
  ·rintro ⟨⟨⟩,QX⟩ s' ⟨rfl,hf,RA,p1,p2,hout⟩;dsimp only at hf hout |-;rw[hout];have hs2:(rfs RA).toArray.size=pb.length:=by simp[p1.length_eq]
   refine Fi (Pd ho6 rfl (Fi (Oa ho6 rfl ?_ (GN _) (by rw[hs2];exact Os hsz))))
   rw[hf];show FX _ _ (if (e1 !=e1)=true then _ else _) _ _ _
   rw[if_neg (by simp)]
   exact Fl (fin _ p1 p2)
theorem call_b{l:FI}{pb:List (α×FI)}{Q:Fq->Fp->Prop}(hl:s.heap.IsList l (rfs pb).toArray)(Su:∀p∈pb,S.is prog w s.heap p.1 p.2)(hu:A.units+5<Ip)(d0:α×FI)(SQ:(pb.map (·.1)).Nodup)(h64:pb.length<1000)(TJ:∀{h:HF}{a b:α}{x:FI},S.is prog w h a x->S.is prog w h b x->a=b)
  (h:∀(h1 h':HF) (tk:Nat) (RA:List (α×FI)) (e:Nat),RA.Perm pb→(RA.map (·.1)).Pairwise (λx y=>S.lt x y=true)→(∀c o,s.heap.get? c=some o→h1.get? c=some o)→(∀c o,h1.get? c=some o→h'.get? c=some o)→h'.get? h1.objs.size=some (N_ "list" (rfs RA).toArray e)→Q (.ref h1.objs.size) {s with heap:=h',toks:=tk }):
  FX (F7 prog w) A (call (.builtin "sorted") [.ref l]) Q E s:=by
 have hrl:(rfs pb).length=pb.length:=by simp
 refine Calls.call_function_entry kind_sorted plain_sorted entry_sorted (args_sorted1 _) ?_;unfold Builtin.«sorted»;refine Fi (m:=checkCount "sorted" 1 1 _) (Fl ?_);refine Fi (collect_list hl ?_ (by rw[hrl,H_];lia))
 refine Fi (Ob ?_ (by rw[hrl,H_];lia))
 generalize hg:(s.heap.push (N_ "list" #[] 0)).update s.heap.objs.size (GR (·++(rfs pb).toArray))=h1
 have keep:∀c o,s.heap.get? c=some o->h1.get? c=some o:=λc o e=>by
  rw[<-hg,F3 _ _ (Lc (FC e))];exact Fo _ e
 have hD:(h1.push {cls:=.type "list",data:=.seq (rfs pb).toArray }).get? h1.objs.size=some (N_ "list" (rfs pb).toArray 0):=FE _ rfl
 have up:∀p∈pb,S.is prog w (h1.push {cls:=.type "list",data:=.seq (rfs pb).toArray }) p.1 p.2:=λp hp=>by
  exact S.grow (Su p hp) λb o _ e=>Fo _ (keep _ _ e)
 refine Fi (GS (GJ PR ⟨_,hD,rfl⟩ Pe ?_ (PU _)));refine sort_b S (s:={s with heap:=h1.push {cls:=.type "list",data:=.seq (rfs pb).toArray } }) hD up (by show A.units+1+1+1<Ip;lia) d0 SQ (by rw[H_];lia) TJ λRA pp so=>⟨_,rfl,Fl ⟨_,rfl,?_⟩⟩
 obtain⟨e,eD⟩:=sortedHeap_at (out:=(rfs RA).toArray) hD;refine h h1 _ s.toks RA e pp so keep (λc o hb=>?_) eD
 have Q4:=FC hb;rw[PV (Ga Q4) (by rw[HH];exact HP Q4)]
 exact Fo _ hb
end
end SG
namespace ST3
open PySem PySem.W PySem.Calls PyProof.Rows ST
theorem KP_det{prog:FK}{w:Gj}{h:HF}{a b:Int×Int}{x:FI}(p:KP.is prog w h a x)(q:KP.is prog w h b x):a=b:=congrArg LB (TK.det (p:=(a,x)) (q:=(b,x)) p q rfl)
theorem KT_det{prog:FK}{w:Gj}{h:HF}{a b:TR}{x:FI}(p:KT.is prog w h a x)(q:KT.is prog w h b x):a=b:=by
 obtain⟨o,it,n,x1,x2,x3,h1,_,h2,h3,t1,t2,t3⟩:=p;obtain⟨o',it',n',y1,y2,y3,g1,_,g2,g3,u1,u2,u3⟩:=q;rw[h1]at g1;cases g1;rw[h2]at g2;cases g2;rw[h3]at g3;simp only[Na,Value.ref.injEq,and_true]at g3;obtain⟨rfl,rfl,rfl⟩:=g3;exact GU (KP_det t1 u1) (GU (KP_det t2 u2) (KP_det t3 u3))
end ST3
namespace L2
open PySem PySem.Spec PyProof.Rows
section
variable {X:Cx}{H0:Hp}{O0:List FI}{ps:PSt}{e:Expr}{pos p:Pos}
theorem qm{α:Type}[DecidableEq α](S:SG.Ky α)(uf:α→U)(t0:α){trs:List α}(R8:∀{pins:List (FI×Obj)}{σ:St}{H:Hp}{s:Fp}{z:V}{u:Fq}{a:α},Inv X pins σ H s→Rp X.K H z (uf a)→a9 z u→∃b,z=.ref b∧u=.ref b∧S.is X.prog X.w s.heap a b)(TJ:∀{h:HF}{a b:α}{x:FI},S.is X.prog X.w h a x→S.is X.prog X.w h b x→a=b)(hg:Gl X "sorted")(hm:X.mg "sorted"=none)(hu:X.A.units+10<Ip)(ha:Ev X H0 O0 ps e (.lst (trs.map uf)))(hl:trs.length<1000∧trs.Nodup)
  (he:FH [e] X.env=(false,JQ e X.env)::FH [] X.env:=by rfl):EvN X H0 O0 ps (.Call (.Name "sorted" p) [e] [] pos) ((SG.srt S trs).map uf):=by
 obtain⟨hl,hn⟩:=hl;rintro pins s σ H Q I ⟨O,R,q⟩;refine Hk (df I hg hm boot_sorted ?_);refine callWith_builtin1 (e:=e) (rest:=[]) (thn (dM ha gB he pos pins s σ H (λvs H1=>∃v,vs=[v]/\aL H H1/\Rp X.K (hid H1 O) v (.lst (trs.map uf))) I ⟨O,R,λv H1 s1 r1=>⟨v,rfl,s1,r1⟩⟩) λus s1 hx=>?_) he rfl
 obtain⟨vs,H1,I1,rv,v,rfl,sm,rp⟩:=hx;obtain⟨u,rfl,ru⟩:=fq rv;cases rp with
 | @lst a ws _ hq hwl hwi=>
  cases ru;obtain⟨QW,SS,pl,hz⟩:=I1.list (SqL.of (aq _ _ hq));have hlp:ws.length=trs.length:=by rw[hwl,Fk]
  have hil:QW.length=trs.length:=by rw[<-SS.length,hlp]
  have item:∀i,i<trs.length->∃b,QW[i]?=some (.ref b)/\Rp X.K (hid H1 O) (.ref b) (uf (trs.getD i t0))/\S.is X.prog X.w s1.heap (trs.getD i t0) b:=λi hi=>by
   have hw:ws[i]?=some ws[i]:=Fj (by lia)
   have hp:(trs.map uf)[i]?=some (uf (trs.getD i t0)):=by rw[Ft,Fj hi];simp[hi]
   have r:=hwi i _ _ hw hp;obtain⟨u',e1,e2⟩:=SS.get hw;obtain⟨b,ez,rfl,tb⟩:=R8 I1 (r.same aq) e2;rw[ez]at r;exact⟨b,e1,r,tb⟩
  let ad:Nat->FI:=λi=>match QW[i]? with |some (.ref b)=>b |_=>0
  have Uw:∀i,i<trs.length->QW[i]?=some (.ref (ad i))/\Rp X.K (hid H1 O) (.ref (ad i)) (uf (trs.getD i t0))/\S.is X.prog X.w s1.heap (trs.getD i t0) (ad i):=λi hi=>by
   obtain⟨b,e1,e2,e3⟩:=item i hi;have:ad i=b:=by show (match QW[i]? with |some (.ref b)=>b |_=>0)=b;rw[e1]
   rw[this];exact⟨e1,e2,e3⟩
  generalize ad=Si at Uw;clear ad;generalize T8:((GG trs.length).map λi=>((trs.getD i t0,Si i):α×FI))=pb
  have hits:QW=SG.rfs pb:=by
   apply IA;intro i;rw[<-T8];unfold SG.rfs;rcases G7 i trs.length with z |z
   ·rw[(Uw i z).1];simp[z]
   ·rw[F9 (by lia),F9 (by simpa using z)]
  have h1p:pb.map (·.1)=trs:=by
   rw[<-T8,F5];apply IA;intro i;rcases G7 i trs.length with z |z
   ·simp[z]
   ·rw[F9 (by simpa using z),F9 z]
  have srcb:∀z∈pb,∃j,j<trs.length/\z=(trs.getD j t0,Si j):=λz hz=>by
   rw[<-T8]at hz;obtain⟨j,hj,rfl⟩:=Fs.mp hz;exact⟨j,FV.mp hj,rfl⟩
  have hbl:pb.length=trs.length:=by rw[<-h1p,Fk]
  rw[hits]at pl;refine SG.call_b S (pb:=pb) pl.isList (λz hz=>?_) (by show X.A.units+5<Ip;lia) (t0,0) (by rw[h1p];exact hn) (by lia) TJ λh3 h4 tk2 RA ep pm so k1 k2 hD=>?_
  ·obtain⟨j,hj,rfl⟩:=srcb z hz;exact (Uw j hj).2.2
  ·have I3:Inv X pins σ H1 {s1 with heap:=h3,toks:=tk2 }:=I1.kept (t':=tk2) k1
   have src:∀z∈RA,∃j,j<trs.length/\z=(trs.getD j t0,Si j):=λz hz=>srcb z (pm.mem_iff.mp hz)
   have etrs:RA.map (·.1)=SG.srt S trs:=by
    refine SG.asc_one S so (SG.srt_asc S trs) λz=>?_
    rw[SG.srt_mem,(pm.map (·.1)).mem_iff,h1p]
   have fr:H1 h3.objs.size=none:=I3.hok.fresh (Fu _);refine⟨.ref h3.objs.size,upd H1 h3.objs.size (.lst (RA.map λz=>V.ref z.2)),?_,rfl,?_⟩
   ·refine I3.laid (t':=tk2) k2 (Fu _) ⟨?_,(SG.rfs RA),ep,?_,hD⟩
    ·rw[Fk,pm.length_eq,hbl,H_];lia
    ·have all:∀l:List (α×FI),aT (l.map λz=>V.ref z.2) (SG.rfs l):=λl=>by
      induction l with
      |nil=>exact .nil
      |cons z r ih=>exact .cons rfl ih
     exact all RA
   ·refine q _ _ _ (sm.trans (aQ fr _)) (sm.free fr) aO ⟨?_,λi z x e1 e2=>?_⟩
    ·rw[Fk,<-etrs,Fk,Fk]
    ·rw[<-etrs,F5,Ft]at e2;rw[Ft]at e1;cases hpi:RA[i]? with
     |none=>rw[hpi]at e1;cases e1
     |some y=>
      rw[hpi]at e1 e2;cases e1;cases e2;obtain⟨j,hj,rfl⟩:=src y (FD hpi);exact (Uw j hj).2.1.same (bF (aQ fr _) fr)
end
end L2
namespace ST
open PySem PySem.W PyProof.Rows PySem.Calls
section
variable {prog:FK}{w:Gj}{A:Gs}{E:Fq→Fp→Prop}{s:Fp}
theorem call_sorted_setG{S:FI}{kb:List (List Int×FI)}{Q:Fq->Fp->Prop}(hh:A.handled=none)(hu:A.units+5<Ip)(P:SP prog w s.heap S kb)(h64:kb.length<1000)(h2:∀p∈kb,p.1.length=2)
  (h:∀(h1 h':HF) (tk:Nat) (pb:PB) (e:Nat),Ik pb (ptsOf kb)→(pb.map (·.1)).Pairwise (λx y=>ltP x y=true)→(∀b o,s.heap.get? b=some o→h1.get? b=some o)→(∀b o,h1.get? b=some o→h'.get? b=some o)→h'.get? h1.objs.size=some (N_ "list" (refs pb).toArray e)→Q (.ref h1.objs.size) {s with heap:=h',toks:=tk }):
  FX (F7 prog w) A (call (.builtin "sorted") [.ref S]) Q E s:=by
 obtain⟨⟨o,es,ep,t,ho,hex,hd,he,T,hl,hp,_,_⟩,hk,SQ⟩:=P;have hsz:es.size=kb.length:=by rw[<-Fx,he];simp[ents]
 have O:SO prog w o es ep t (kb.map λp=>hsh prog w p.1):=⟨hex,hd,T,by rw[Fk,hsz],hl,hp⟩
 have two:∀p∈kb,p.1=[p.1.getD 0 0,p.1.getD 1 0]:=λp RO=>by
  have:=h2 p RO
  match hq:p.1,this with
  |[x,y],_=>rfl
 refine call_function_entry kind_sorted plain_sorted entry_sorted (args_sorted1 _) ?_;unfold Builtin.«sorted»;refine Fi (m:=checkCount "sorted" 1 1 _) (Fl ?_);refine Fi (kdu_collect (A:=A.in1) (A5 O) hh ho (by rw[hsz,H_];lia) λh' tk acc keep Td=>?_)
 have RX:acc.toList=cy w S es ep:=by
  apply IA;intro i;rcases G7 i acc.size with z |z
  ·rw[GC,Gf z];exact (Td.2 i _ (Gf z)).symm
  ·rw[F9 (by simpa using z),F9]
   rw[(e_ w S es ep).length_eq,Fk,Fx,<-Td.1];exact z
 obtain⟨Ut,pk,ek⟩:=y6 (λ(p:List Int×FI)=>FW p.2) (e_ w S es ep) kb (by rw[he];unfold ents;rw[F5];rfl)
 have RC:acc.toList=refs (ptsOf Ut):=by
  rw[RX,ek];unfold refs ptsOf;rw[F5];rfl
 have SA:(ptsOf Ut).length=kb.length:=by unfold ptsOf;rw[Fk,pk.length_eq]
 have hlenA:acc.toList.length=kb.length:=by rw[RC];simp[SA]
 refine Fi (Ob ?_ (by rw[hlenA,H_];lia))
 have hD:(h'.push {cls:=.type "list",data:=.seq acc.toList.toArray }).get? h'.objs.size=some (N_ "list" (refs (ptsOf Ut)).toArray 0):=by
  rw[<-RC];exact FE _ rfl
 have tk1:∀p∈ptsOf Ut,TK prog w (h'.push {cls:=.type "list",data:=.seq acc.toList.toArray }) [p.1.1,p.1.2] p.2:=λp RO=>by
  obtain⟨q,hq,rfl⟩:=Fs.mp RO;have Rb:=pk.mem_iff.mp hq;obtain⟨oq,QW,k,hoq,r⟩:=hk q Rb;have e2:=two q Rb;refine⟨oq,QW,k,Fo _ (keep _ _ hoq),?_⟩;rw[<-e2];exact r
 have nd1:((ptsOf Ut).map (·.1)).Nodup:=by
  have n1:(Ut.map (·.1)).Nodup:=((pk.map (·.1)).nodup_iff).mpr SQ;unfold ptsOf;rw[F5];refine Gb.mpr ((Gb.mp n1).imp_of_mem λ{a b} ha hb R7=>?_)
  intro z;have ea:=two a (pk.mem_iff.mp ha);have eb:=two b (pk.mem_iff.mp hb);have z':(a.1.getD 0 0,a.1.getD 1 0)=(b.1.getD 0 0,b.1.getD 1 0):=z;rw[N8]at z';rw[z'.1,z'.2]at ea;exact R7 (ea.trans eb.symm)
 refine Fi (GS (GJ PR ⟨_,hD,rfl⟩ Pe ?_ (PU _)));refine SG.sort_b ST3.KP (s:={s with heap:=h'.push {cls:=.type "list",data:=.seq acc.toList.toArray },toks:=tk }) hD tk1 (by show A.units+1+1+1<Ip;lia) ((0,0),0) nd1 (by rw[H_];lia) (λp q=>ST3.KP_det p q) λRA pp so=>⟨_,rfl,Fl ⟨_,rfl,?_⟩⟩
 obtain⟨e,eD⟩:=sortedHeap_at (out:=(refs RA).toArray) hD;refine h h' _ tk RA e (pp.trans ?_) so keep (λb x T6=>?_) eD
 ·unfold ptsOf;exact pk.map _
 ·have Q4:=FC T6;rw[PV (Ga Q4) (by rw[HH];exact HP Q4)]
  exact Fo _ T6
end
end ST
namespace L2
open PySem PySem.Spec PyProof.Rows
variable {H0:Hp}{O0:List FI}{e:Expr}{pos:Pos}
section
variable {X:Cx}{ps:PSt}{pts:List P2}{Rf p p':Pos}
theorem g_(hc:X.calm=true)(hu:X.A.units+10<Ip)(hg:Gl X "sorted")(hm:X.mg "sorted"=none)(hgs:Gl X "set")(hms:X.mg "set"=none)(ha:Ev X H0 O0 ps e (lp pts))(hl:pts.length<1000)
  (he:FH [e] X.env=(false,JQ e X.env)::FH [] X.env:=by rfl):EvN X H0 O0 ps (.Call (.Name "sorted" p) [.Call (.Name "set" p') [e] [] Rf] [] pos) ((ST.srt pts).map pu):=by
 rintro pins s σ H Q I ⟨O,R,q⟩;have hh:X.A.handled=none:=I.ok.hd hc;refine Hk (df I hg hm boot_sorted ?_);refine callWith_builtin1 (e:=.Call (.Name "set" p') [e] [] Rf) (rest:=[]) ?_ rfl rfl;show FX _ _ (Qk ((false,JQ (.Call (.Name "set" p') [e] [] Rf) X.env)::J5 pos (FH [] X.env))) _ _ s;refine Kv ?_;refine Hk (df I hgs hms xU ?_);refine callWith_type1 (thn (dM ha gB he Rf pins s σ H (λvs H1=>∃v,vs=[v]/\aL H H1/\Rp X.K (hid H1 O) v (lp pts)) I ⟨O,R,λv H1 s1 r1=>⟨v,rfl,s1,r1⟩⟩) λus s1 hx=>?_) he rfl
 obtain⟨vs,H1,I1,rv,v,rfl,sm,rp⟩:=hx;obtain⟨u,rfl,ru⟩:=fq rv;cases rp with
 | @lst a ws _ hq hwl hwi=>
  cases ru;obtain⟨QW,SS,pl,hz⟩:=I1.list (SqL.of (aq _ _ hq));have hlp:ws.length=pts.length:=by rw[hwl,Fk]
  have hil:QW.length=pts.length:=by rw[<-SS.length,hlp]
  have item:∀i,i<pts.length->∃b,QW[i]?=some (.ref b)/\Rp X.K (hid H1 O) (.ref b) (pu (pts.getD i (0,0)))/\ST.TK X.prog X.w s1.heap [(pts.getD i (0,0)).1,(pts.getD i (0,0)).2] b:=λi hi=>by
   have hw:ws[i]?=some ws[i]:=Fj (by lia)
   have hp:(pts.map pu)[i]?=some (pu (pts.getD i (0,0))):=by rw[Ft,Fj hi];simp[hi]
   have r:=hwi i _ _ hw hp;obtain⟨u',e1,e2⟩:=SS.get hw;generalize ws[i]=z at *;cases r with
   | @tup b zs _ hs hsl hsi=>
    cases e2;refine⟨b,e1,Rp.tup hs hsl hsi,?_⟩;obtain⟨jts,rj,ht,_⟩:=I1.tuple (by exact aq.tup hs)
    have z0:zs.length=2:=hsl;obtain⟨z1,z2,rfl⟩:=len2 z0;have q1:=hsi 0 z1 _ rfl rfl;have q2:=hsi 1 z2 _ rfl rfl;cases q1;cases q2;obtain⟨u1,u2,rfl,r1,r2⟩:=l6 rj;obtain⟨t1,rfl⟩:=r1;obtain⟨t2,rfl⟩:=r2;obtain⟨o,ho,TZ,n,hod⟩:=ht;exact⟨o,_,n,ho,TZ,hod,.cons (HQ _ _ _ _) (.cons (HQ _ _ _ _) .nil)⟩
  obtain⟨Si,Uw⟩:=Eu item;have hsz:QW.toArray.size=pts.length:=by simp[hil]
  refine ST.call_set_pts (λi=>([(pts.getD i (0,0)).1,(pts.getD i (0,0)).2],Si i)) hh (by show X.A.units+1+1+1<Ip;lia) pl.isList (λi z ez=>?_) (λi hi=>?_) (by rw[hsz];lia) λh2 tk kb sp got keep=>?_
  ·have hi:i<pts.length:=by have:=aC (show QW[i]?=some z by simpa using ez);lia
   have:=(Uw i hi).1;rw[show QW.toArray[i]?=QW[i]? by simp,this]at ez
   cases ez;rfl
  ·exact (Uw i (by rw[hsz]at hi;exact hi)).2.2
  ·rw[hsz]at got;have I2:Inv X pins σ H1 {s1 with heap:=h2,toks:=tk }:=I1.kept (t':=tk) keep
   refine KN ?_;have hkl:kb.length<1000:=by have:=got.len;lia
   refine ST.call_sorted_setG (s:={s1 with heap:=h2,toks:=tk }) hh (by show X.A.units+5<Ip;lia) sp hkl (λz hz=>by obtain⟨j,_,rfl⟩:=got.src z hz;rfl) λh3 h4 tk2 pb ep pm so k1 k2 hD=>?_
   have I3:Inv X pins σ H1 {s1 with heap:=h3,toks:=tk2 }:=I2.kept (t':=tk2) k1
   have src:∀z∈pb,∃j,j<pts.length/\z=(pts.getD j (0,0),Si j):=λz hz=>by
    obtain⟨y,hy,rfl⟩:=Fs.mp (pm.mem_iff.mp hz);obtain⟨j,hj,rfl⟩:=got.src y hy;exact⟨j,hj,rfl⟩
   have epts:pb.map (·.1)=ST.srt pts:=by
    refine ST.asc_one so (ST.srt_asc pts) λz=>?_
    rw[ST.srt_mem];constructor
    ·intro hz;obtain⟨y,hy,rfl⟩:=Fs.mp hz;obtain⟨j,hj,rfl⟩:=src y hy;simp[hj]
    ·intro hz;obtain⟨j,hj⟩:=GZ.mp hz;have hjl:=aC hj;have hk:=got.all j hjl;obtain⟨y,hy,ey⟩:=Fs.mp hk;have Tc:((y.1.getD 0 0,y.1.getD 1 0),y.2)∈ST.ptsOf kb:=Fs.mpr ⟨y,hy,rfl⟩;have hin':=pm.mem_iff.mpr Tc;refine Fs.mpr ⟨_,hin',?_⟩;rw[ey];have:pts.getD j (0,0)=z:=by rw[FP,hj];rfl
     show ((pts.getD j (0,0)).1,(pts.getD j (0,0)).2)=z;rw[this]
   have fr:H1 h3.objs.size=none:=I3.hok.fresh (Fu _);refine⟨.ref h3.objs.size,upd H1 h3.objs.size (.lst (pb.map λz=>V.ref z.2)),?_,rfl,?_⟩
   ·refine I3.laid (t':=tk2) k2 (Fu _) ⟨?_,(ST.refs pb),ep,?_,hD⟩
    ·rw[Fk,<-Fk (f:=(·.1)),epts,H_];have:=ST.srt_len pts;lia
    ·have all:∀l:ST.PB,aT (l.map λz=>V.ref z.2) (ST.refs l):=λl=>by
      induction l with
      |nil=>exact .nil
      |cons z r ih=>exact .cons rfl ih
     exact all pb
   ·refine q _ _ _ (sm.trans (aQ fr _)) (sm.free fr) aO ⟨?_,λi z x e1 e2=>?_⟩
    ·rw[Fk,<-epts,Fk,Fk]
    ·rw[<-epts,F5,Ft]at e2;rw[Ft]at e1;cases hpi:pb[i]? with
     |none=>rw[hpi]at e1;cases e1
     |some y=>
      rw[hpi]at e1 e2;cases e1;cases e2;obtain⟨j,hj,rfl⟩:=src y (FD hpi);exact (Uw j hj).2.1.same (bF (aQ fr _) fr)
theorem qJ{n:Nat}(h:n<64):n<1000:=F6 h (by decide)
theorem De(l:List P2):SG.srt ST3.KP l=ST.srt l:=ST.asc_one (SG.srt_asc ST3.KP l) (ST.srt_asc l) λz=>by rw[SG.srt_mem,ST.srt_mem]
theorem xr(hg:Gl X "sorted")(hm:X.mg "sorted"=none)(hu:X.A.units+10<Ip)(ha:Ev X H0 O0 ps e (lp pts))(hl:pts.length<1000∧pts.Nodup)
  (he:FH [e] X.env=(false,JQ e X.env)::FH [] X.env:=by rfl):EvN X H0 O0 ps (.Call (.Name "sorted" p) [e] [] pos) ((ST.srt pts).map pu):=by
 rw[<-De];exact qm ST3.KP pu (0,0) (trs:=pts) EM (λa b=>ST3.KP_det a b) hg hm hu ha hl he
end
noncomputable def By(P:FK)(w:Gj):HeapKind P w K4 where
 is:=λh k a=>ST2.TQ P w h k a
 hash:=ST2.hsq P w
 draws:=λ_=>7
 room:=λA=>A.units+1<Ip
 inj:=λhx hy=>hx.inj hy
 keeps:=λ{h h' k a d o es ep} x ho hd hs=>by
  obtain⟨o1,it,n,a1,a2,h1,h2,h3,h4,h5,h6⟩:=x;refine⟨o1,it,n,a1,a2,(hs.2 a λe=>?_).trans h1,h2,h3,h4,h5.keeps ho hd hs,h6.keeps ho hd hs⟩
  subst e;rw[ho]at h1;cases h1;rw[hd]at h3;cases h3
 pyHash:=λhu hk h=>ST2.hashQ hu hk h
 eqBool:=λhu hx hy h=>ST2.eqB hu hx hy h
 quiet:=λhk h=>ST2.quiet hk h
theorem yg{P:FK}{w:Gj}{hh:K4->Int}{d:FI}{ep:Nat}{xs:List lH}{H:Hp}{h:HF}(x:Sdp hh d ep xs h):bS P w H h d (.ext (Sdp hh d ep xs)):=
 ⟨x,let ⟨_,_,o,_,e,_⟩:=x;⟨o,e⟩,λ_ _ ⟨a,b,o,es,e,r⟩ k=>⟨a,b,o,es,k o e,r⟩⟩
section
variable {X:Cx}{pins:List (FI×Obj)}{σ:St}{H:Hp}{s:Fp}{a b:FI}{k:K4}{ep:Nat}{xs:List lH}
theorem jW(I:Inv X pins σ H s)(h:KPr X.K H b k):(By X.prog X.w).is s.heap k b:=by
 obtain⟨p,q,h1,h2,h3⟩:=h;obtain⟨QW,rv,⟨o,e,c,n,d⟩,_⟩:=I.tuple h1;obtain⟨u1,u2,rfl,r1,r2⟩:=l6 rv;cases r1;cases r2;exact⟨o,_,n,p,q,e,c,d,rfl,ww I (k:=[k.1.1,k.1.2]) h2,ww I (k:=[k.2.1,k.2.2]) h3⟩
theorem kW(I:Inv X pins σ H s)(e:H a=some (.ext (Sdp (ST2.hsq X.prog X.w) a ep xs)))(ky:∀x∈xs,KPr X.K H x.2.1 x.1):(a==L6)=false/\xs.length<=sizeLine/\s.heap.DictOfH (By X.prog X.w) a xs:=by
 obtain⟨⟨h1,h2,o,es,g1,g2,g3,g4,g5⟩,_⟩:=(show bS X.prog X.w H s.heap a (.ext (Sdp (ST2.hsq X.prog X.w) a ep xs)) from I.hok a _ e)
 exact⟨h1,h2,o,es,ep,g1,g2,g3,g4,λx hx=>jW I (ky x hx),g5⟩
end
theorem dh.find{k:K4}:∀{xs:List lH}{QZ:List (K4×Int)},dh xs QZ->(QL xs k).isSome=QZ.any (λx=>decide (x.1=k))
 |[],QZ,h=>by
  have:QZ=[]:=G8.mp h.1.symm;subst this;rfl
 |x::xs,[],h=>by have:=h.1;simp at this
 |x::xs,y::QZ,h=>by
  obtain⟨e,_⟩:=h.2 0 x y rfl rfl;have h':dh xs QZ:=⟨by have:=h.1;simpa using this,λi a b h1 h2=>h.2 (i+1) a b (by simpa using h1) (by simpa using h2)⟩
  by_cases c:y.1=k
  ·have f1:(QL (x::xs) k).isSome=true:=by unfold QL;rw[List.find?_cons_of_pos (by simp[e,c])];rfl
   rw[f1];simp[c]
  ·have f1:QL (x::xs) k=QL xs k:=by unfold QL;rw[List.find?_cons_of_neg (by simp[e,c])]
   have f3:(y::QZ).any (λx=>decide (x.1=k))=QZ.any (λx=>decide (x.1=k)):=by simp[c]
   rw[f1,f3];exact h'.find
theorem dh.snoc{xs:List lH}{QZ:List (K4×Int)}{x:lH}{y:K4×Int}(h:dh xs QZ)(e:x.1=y.1)(et:x.2.2=.bool true):dh (xs++[x]) (QZ++[y]):=by
 refine⟨by simp[h.1],λi a b h1 h2=>?_⟩
 by_cases c:i<xs.length
 ·rw[FR c]at h1;rw[FR (by rw[<-h.1];exact c)]at h2
  exact h.2 i a b h1 h2
 ·have c':xs.length<=i:=Ke c;rw[FS c']at h1;rw[FS (by rw[<-h.1];exact c'),<-h.1]at h2
  cases z:i-xs.length with
  |zero=>rw[z]at h1 h2;cases h1;cases h2;exact⟨e,et⟩
  |succ n=>rw[z]at h1;simp at h1
section
variable {X:Cx}{o i f Rz:Expr}{Rf Rv Rj:Pos}{td ty tv tx:TE}
theorem w9:PE X (.Dict [] [] pos) (λ_ H Q=>∀p,H p=none->Q (.ref p) (upd H p (.ext (Sdp (ST2.hsq X.prog X.w) p 0 [])))):=λpins s σ H Q I h=>
 wpAny_Dict_empty ⟨.ref s.heap.objs.size,_,I.laid (a:=s.heap.objs.size) (o:=.ext (Sdp (ST2.hsq X.prog X.w) s.heap.objs.size 0 [])) (t':=s.toks) (λ_ _ q=>Fo _ q) (Fu _)
  (yg ⟨beq_eq_false_iff_ne.mpr (Ne.symm (Ga (Cu I))),GN _,_,#[],FE _ rfl,⟨rfl,rfl,rfl⟩,rfl,rfl,NH⟩),rfl,h _ (I.hok.fresh (Fu _))⟩
theorem sQ(hu:X.A.units+2<Ip)(hi:PE X i ty)(ho:PE X o td):PC X .In i o (λσ H Q=>ty σ H λy H1=>td σ H1 λx H2=>∃a ep xs QZ b k,x=.ref a/\H2 a=some (.ext (Sdp (ST2.hsq X.prog X.w) a ep xs))/\
  y=.ref b/\KPr X.K H2 b k/\(∀x∈xs,KPr X.K H2 x.2.1 x.1)/\dh xs QZ/\Q (.bl (QZ.any λx=>decide (x.1=k))) H2):=by
 intro pins s σ H Q I h;refine thn (hi pins s σ H _ I h) λiv s1 z1=>?_
 obtain⟨y,H1,I1,ry,q1⟩:=z1;refine thn (ho pins s1 σ H1 _ I1 q1) λu s2 z2=>?_
 obtain⟨x,H2,I2,rx,a,ep,xs,QZ,b,k,ex,ea,ey,eb,ky,en,q2⟩:=z2;subst ex ey;obtain rfl:u=FW a:=rx;obtain rfl:iv=FW b:=ry;obtain⟨hd,hz,dd⟩:=kW I2 ea ky;exact wpAny_in_heap hu (jW I2 eb) hd dd ⟨.bl (QZ.any λx=>decide (x.1=k)),H2,I2.tok _,by rw[en.find];rfl,q2⟩
theorem xu(hu:X.A.units+2<Ip)(hi:PE X i ty)(ho:PE X o td):PC X .NotIn i o (λσ H Q=>ty σ H λy H1=>td σ H1 λx H2=>∃a ep xs QZ b k,x=.ref a/\H2 a=some (.ext (Sdp (ST2.hsq X.prog X.w) a ep xs))/\
  y=.ref b/\KPr X.K H2 b k/\(∀x∈xs,KPr X.K H2 x.2.1 x.1)/\dh xs QZ/\Q (.bl (!QZ.any λx=>decide (x.1=k))) H2):=by
 intro pins s σ H Q I h;refine thn (hi pins s σ H _ I h) λiv s1 z1=>?_
 obtain⟨y,H1,I1,ry,q1⟩:=z1;refine thn (ho pins s1 σ H1 _ I1 q1) λu s2 z2=>?_
 obtain⟨x,H2,I2,rx,a,ep,xs,QZ,b,k,ex,ea,ey,eb,ky,en,q2⟩:=z2;subst ex ey;obtain rfl:u=FW a:=rx;obtain rfl:iv=FW b:=ry;obtain⟨hd,hz,dd⟩:=kW I2 ea ky;exact wpAny_notIn_heap hu (jW I2 eb) hd dd ⟨.bl (!QZ.any λx=>decide (x.1=k)),H2,I2.tok _,by rw[en.find];rfl,q2⟩
theorem y_(hu:X.A.units+2<Ip)(ho:PE X o td)(hi:PE X i ty)(hv:PE X Rz tv)(hs:JF Rz (some (.Subscript o i Rf)) pos.line X.env=pure false):
  PS X (.Assign [.Subscript o i Rf] Rz pos) (λD σ H=>tv σ H λv H1=>td σ H1 λx H2=>ty σ H2 λy H3=>∃a ep xs QZ b k,v=.bl true/\x=.ref a/\H3 a=some (.ext (Sdp (ST2.hsq X.prog X.w) a ep xs))/\
   y=.ref b/\KPr X.K H3 b k/\(∀x∈xs,KPr X.K H3 x.2.1 x.1)/\dh xs QZ/\QZ.any (λx=>decide (x.1=k))=false/\xs.length<sizeLine/\
   ∀TY Ue,dh Ue (QZ++[(k,1)])->(∀x∈Ue,(x.2.1=b/\x.1=k)\/∃x0∈xs,x.1=x0.1/\x.2.1=x0.2.1)->D.nx σ (upd H3 a (.ext (Sdp (ST2.hsq X.prog X.w) a TY Ue)))):=by
 intro pins s σ H D I h;refine wpAny_Assign_Subscript (thn (hv pins s σ H _ I h) λr s1 ⟨v,H1,I1,rv,q1⟩=>thn (ho pins s1 σ H1 _ I1 q1) λu s2 ⟨x,H2,I2,rx,q2⟩=>thn (hi pins s2 σ H2 _ I2 q2) λiv s3 z3=>?_) hs
 obtain⟨y,H3,I3,ry,a,ep,xs,QZ,b,k,ev,ex,ea,ey,eb,ky,en,nk,hl,q3⟩:=z3;subst ev ex ey;obtain rfl:u=FW a:=rx;obtain rfl:iv=FW b:=ry;obtain rfl:r=GF true:=rv;obtain⟨hd,hz,dd⟩:=kW I3 ea ky
 have nn:QL xs k=none:=by
  have:=en.find (k:=k);rw[nk]at this;cases e:QL xs k with
  |none=>rfl
  |some p=>rw[e]at this;cases this
 refine wpAny_setItem_heap (hsz:=hz) hu (jW I3 eb) dd λh' dd' hs=>?_
 obtain⟨q,es,TY,hq,h2,h3,h4,_,h5⟩:=dd';rw[storedH_new nn]at h4 h5;refine⟨σ,_,?_,q3 TY (xs++[(k,b,.bool true)]) (en.snoc rfl rfl) λx hx=>?_⟩
 ·exact I3.write (x:=a) (e:=a) (by rw[ea];exact True.intro) (.inl rfl) (λb q hb z=>(hs.2 b hb).trans z) ⟨q,hq⟩ (yg ⟨hd,by rw[FT];exact hl,q,es,hq,h2,h3,h4,h5⟩)
 ·rcases FB.mp hx with z |z
  ·exact .inr ⟨x,z,rfl,rfl⟩
  ·rw[Fy.mp z];exact .inl ⟨rfl,rfl⟩
end
structure SnP(K:Fm)(hh:K4->Int)(ps:PSt)(j:Nat)(QZ:List (K4×Int))(H0:Hp)(O0:List FI)(σ:St)(H:Hp)(O:List FI)(d:FI):Prop where
 rs:Rs K H0 O0 ps σ H O
 vals:∀(i:Nat) (s:Sl),ps[i]?=some (some s)->∃u,s=.val u
 non:ps[j]?=some none
 at_:σ[j]?=some (some (.ref d))
 dO:d∈O
 dO0:d ∉ O0
 en:∃ep xs,dh xs QZ/\H d=some (.ext (Sdp hh d ep xs))/\∀x∈xs,KPr K (hid H O) x.2.1 x.1
theorem KPr.same{K:Fm}{H H':Hp}{b:FI}{k:K4}(e:aL H H')(h:KPr K H b k):KPr K H' b k:=let ⟨p,q,a,b,c⟩:=h;⟨p,q,e.tup a,e.tup b,e.tup c⟩
variable {QZ:List (K4×Int)}
section
variable {K:Fm}{hh:K4→Int}{H H':Hp}{O:List FI}{ps:PSt}{σ:St}{j:Nat}{d:FI}
theorem SnP.go(D:SnP K hh ps j QZ H0 O0 σ H O d)(e:aL H H'):SnP K hh ps j QZ H0 O0 σ H' O d:=
 ⟨D.rs.go e,D.vals,D.non,D.at_,D.dO,D.dO0,let ⟨ep,xs,a,b,c⟩:=D.en;⟨ep,xs,a,e _ _ b,λx hx=>(c x hx).same (aY e)⟩⟩
theorem SnP.set{i:Nat}{v:V}{u:U}(D:SnP K hh ps j QZ H0 O0 σ H O d)(r:Rp K (hid H O) v u)(n:i≠j):SnP K hh (ps.set i (some (.val u))) j QZ H0 O0 (σ.set i (some v)) H O d:=
 ⟨D.rs.set r,λk s h=>by
  rcases cN h with ⟨_,e⟩ |⟨_,e⟩
  ·cases e;exact⟨_,rfl⟩
  ·exact D.vals k s e,by rw[FZ n];exact D.non,by rw[FZ n];exact D.at_,D.dO,D.dO0,D.en⟩
theorem SnP.sub{Rl:PSt}(D:SnP K hh ps j QZ H0 O0 σ H O d)(h:SubP Rl ps):SnP K hh Rl j QZ H0 O0 σ H O d:=by
 obtain⟨hl,ha⟩:=h.at_;refine⟨D.rs.sub h,λi s q=>D.vals i s (ha i s q),?_,D.at_,D.dO,D.dO0,D.en⟩
 have lt:j<Rl.length:=by rw[hl];exact aC D.non
 cases z:Rl[j]? with
 |none=>rw[List.getElem?_eq_none_iff]at z;lia
 |some o=>
  cases o with
  |none=>rfl
  |some s=>have:=ha j s z;rw[D.non]at this;cases this
theorem SnP.put{ep:Nat}{Ue:List lH}{RU:List (K4×Int)}(D:SnP K hh ps j QZ H0 O0 σ H O d)(en:dh Ue RU)(ky:∀x∈Ue,KPr K (hid H O) x.2.1 x.1):SnP K hh ps j RU H0 O0 σ (upd H d (.ext (Sdp hh d ep Ue))) O d:=by
 have R:=D.rs;have h0:H0 d=none:=(R.new _ D.dO).resolve_left D.dO0;have eh:∀o,hid (upd H d o) O=hid H O:=λo=>jM D.dO
 refine⟨⟨R.same.put h0 _,R.old,R.new,λb hb z=>?_,R.len,λi s q=>?_,λi k xs ys a q1=>?_⟩,D.vals,D.non,D.at_,D.dO,D.dO0,ep,Ue,en,aO,λx hx=>?_⟩
 ·by_cases e:b=d
  ·rw[e,aO]at z;cases z
  ·rw[ba e]at z;exact R.dom b hb z
 ·obtain⟨w,k1,k2⟩:=R.at_ i s q;obtain⟨u',rfl⟩:=D.vals i s q;refine⟨w,k1,?_⟩;show Rp K (hid (upd H d _) O) w u';rw[eh];exact k2
 ·obtain⟨u',z⟩:=D.vals _ _ q1;cases z
 ·rw[eh];exact ky x hx
theorem SnP.free(D:SnP K hh ps j QZ H0 O0 σ H O d):∃O',Rs K H0 O0 (ps.set j (some (.val (.ty (.dp hh QZ))))) σ H O':=by
 have R:=D.rs;obtain⟨ep,xs,en,hH,ky⟩:=D.en;have less:∀b∈O.filter (λb=>decide (b≠d)),b∈O:=λb hb=>(GP.mp hb).1
 have keep:∀b∈O,b≠d->b∈O.filter (λb=>decide (b≠d)):=λb hb ne=>GP.mpr ⟨hb,by simpa using ne⟩
 have sm:aL (hid H O) (hid H (O.filter (λb=>decide (b≠d)))):=fh less
 have na:d ∉ O.filter (λb=>decide (b≠d)):=λz=>by have:=(GP.mp z).2;simp at this
 refine⟨O.filter (λb=>decide (b≠d)),R.same,λb hb=>keep b (R.old b hb) λe=>D.dO0 (e ▸ hb),λb hb=>R.new b (less b hb),λb hb=>R.dom b (less b hb),by rw[R.len,JH],λi s hs=>?_,λi k ys zs b h1 h2 h3 h4=>?_⟩
 ·rcases cN hs with ⟨rfl,e⟩ |⟨ne,hs⟩
  ·cases e;exact⟨.ref d,D.at_,.dp (dG hH na) (λx hx=>(ky x hx).same sm) en⟩
  ·obtain⟨w,hw,ok⟩:=R.at_ i s hs;obtain⟨u',rfl⟩:=D.vals i s hs;exact⟨w,hw,Rp.same sm ok⟩
 ·rcases cN h1 with ⟨_,e⟩ |⟨_,h1⟩
  ·cases e
  ·obtain⟨u',z⟩:=D.vals _ _ h1;cases z
end
theorem tq{K:Fm}{H:Hp}{v:V}{a b:Int×Int}(r:Rp K H v (.tup [.tup [.int a.1,.int a.2],.tup [.int b.1,.int b.2]])):∃p,v=.ref p/\KPr K H p (a,b):=by
 cases r with
 | @tup p vs _ hq hl hh=>
  obtain⟨x,y,rfl,h1,h2⟩:=iK (⟨hl,hh⟩:Rps K H vs _);obtain⟨p1,rfl,s1⟩:=tN h1;obtain⟨p2,rfl,s2⟩:=tN h2;exact⟨p,rfl,p1,p2,hq,s1,s2⟩
def WD(X:Cx)(H0:Hp)(O0:List FI)(j:Nat)(sts:List I_)(ps:PSt)(QZ:List (K4×Int))(nx:PSt->List (K4×Int)->Prop):Prop:=
 PSs X sts λD σ H=>(∀Rl RU Q7 H' O' d',SnP X.K (ST2.hsq X.prog X.w) Rl j RU H0 O0 Q7 H' O' d'->nx Rl RU->D.nx Q7 H')/\∃O d,SnP X.K (ST2.hsq X.prog X.w) ps j QZ H0 O0 σ H O d
section
variable {X:Cx}{E:XK}{ps:PSt}{D:PD}{iter:Expr}{items:List U}{ss Rk rest:List I_}{j:Nat}{nx:PSt→List (K4×Int)→Prop}
theorem wR(h:nx ps QZ):WD X H0 O0 j [] ps QZ nx:=PSs.mono iO λD σ H ⟨a,O,d,S⟩=>a _ _ _ _ _ _ S h
theorem C0{zz:Nat}{z:Str}{zp ep:Pos}{u:U}(hN:X.N.Nodup)(hz:X.N[zz]?=some z)(lz:Loc X.env.scope z)(hjz:zz≠j)(he:Ev X H0 O0 ps e u)(h:WD X H0 O0 j rest (ps.set zz (some (.val u))) QZ nx)
  (hse:JF e (some (.Name z zp)) ep.line X.env=pure false:=by rfl) (hfz:X.fn z=true\/X.env.scope.names.lookup z=some .local:=by first |exact .inl rfl |exact .inr rfl |assumption):
  WD X H0 O0 j (.Assign [.Name z zp] e ep::rest) ps QZ nx:=
 PSs.mono (dt (oz hN hz lz he hse hfz) h) λD σ H ⟨a,O,d,S⟩=>⟨O,S.rs,λv H5 s5 r5=>⟨a,O,d,(S.go s5).set r5 hjz⟩⟩
theorem wK{zz:Nat}{x z:Str}{xp3 zp4 sp cp sap:Pos}{c1}{a b:Int×Int}(hu:X.A.units+2<Ip)(hj:X.N[j]?=some x)(hz:X.N[zz]?=some z)(hv:ps[zz]?=some (some (.val (.tup [.tup [.int a.1,.int a.2],.tup [.int b.1,.int b.2]]))))(hn:QZ.any (λx=>decide (x.1=(a,b)))=false)(hl:QZ.length<sizeLine)
  (h:WD X H0 O0 j rest ps (QZ++[((a,b),1)]) nx)
  (hx:Vis X.env.scope x:=by first |exact Or.inl rfl |exact Or.inr (Or.inl rfl) |exact Or.inr (Or.inr rfl)) (hdx:(x==("__debug__":Str))=false:=by decide) (hcx:(x==("__classdict__":Str))=false:=by decide)
  (hzv:Vis X.env.scope z:=by first |exact Or.inl rfl |exact Or.inr (Or.inl rfl) |exact Or.inr (Or.inr rfl)) (hdz:(z==("__debug__":Str))=false:=by decide) (hcz:(z==("__classdict__":Str))=false:=by decide)
  (hss:JF (.Constant (.bool true) c1 cp) (some (.Subscript (.Name x xp3) (.Name z zp4) sp)) sap.line X.env=pure false:=by rfl):
  WD X H0 O0 j (.Assign [.Subscript (.Name x xp3) (.Name z zp4) sp] (.Constant (.bool true) c1 cp) sap::rest) ps QZ nx:=by
 have vz:∀{pos},PE X (.Name z pos) (ze zz):=ef hz hzv hdz hcz;have vx:∀{pos},PE X (.Name x pos) (ze j):=ef hj hx hdx hcx;refine PSs.mono (dt (y_ hu (vx (pos:=xp3)) (vz (pos:=zp4)) (BO (j:=c1) (pos:=cp)) hss) h) λD σ H ⟨q,O,d,S⟩=>?_
 obtain⟨v,hσ,ok⟩:=S.rs.at_ zz _ hv;obtain⟨p,rfl,kp⟩:=tq ok;obtain⟨ep,xs,en,hH,ky⟩:=S.en;refine⟨_,S.at_,_,hσ,d,ep,xs,QZ,p,(a,b),rfl,rfl,hH,rfl,kp.same aq,λx hx=>(ky x hx).same aq,en,hn,by rw[en.1];exact hl,λTY Ue en' ks=>?_⟩
 refine⟨q,O,d,S.put en' λx hx=>?_⟩
 rcases ks x hx with ⟨e1,e2⟩ |⟨x0,m0,e1,e2⟩
 ·rw[e1,e2];exact kp
 ·rw[e1,e2];exact ky x0 m0
theorem Dh{zz:Nat}{x z:Str}{xp zp cp ip:Pos}{bb:List I_}{a b:Int×Int}(hu:X.A.units+2<Ip)(hj:X.N[j]?=some x)(hz:X.N[zz]?=some z)(hv:ps[zz]?=some (some (.val (.tup [.tup [.int a.1,.int a.2],.tup [.int b.1,.int b.2]]))))(hn:QZ.any (λx=>decide (x.1=(a,b)))=false)
  (h:WD X H0 O0 j rest ps QZ nx)
  (hx:Vis X.env.scope x:=by first |exact Or.inl rfl |exact Or.inr (Or.inl rfl) |exact Or.inr (Or.inr rfl)) (hdx:(x==("__debug__":Str))=false:=by decide) (hcx:(x==("__classdict__":Str))=false:=by decide)
  (hzv:Vis X.env.scope z:=by first |exact Or.inl rfl |exact Or.inr (Or.inl rfl) |exact Or.inr (Or.inr rfl)) (hdz:(z==("__debug__":Str))=false:=by decide) (hcz:(z==("__classdict__":Str))=false:=by decide):
  WD X H0 O0 j (.If (.Compare (.Name z zp) [.In] [.Name x xp] cp) bb [] ip::rest) ps QZ nx:=by
 have vz:∀{pos},PE X (.Name z pos) (ze zz):=ef hz hzv hdz hcz;have vx:∀{pos},PE X (.Name x pos) (ze j):=ef hj hx hdx hcx;refine PSs.mono (dt (sH (pos:=ip) (b:=[]) (rF (pos:=cp) (sQ hu (vz (pos:=zp)) (vx (pos:=xp))) rfl) (mM (sts:=bb)) iO) h) λD σ H ⟨q,O,d,S⟩=>?_
 obtain⟨v,hσ,ok⟩:=S.rs.at_ zz _ hv;obtain⟨p,rfl,kp⟩:=tq ok;obtain⟨ep,xs,en,hH,ky⟩:=S.en;refine⟨_,hσ,_,S.at_,d,ep,xs,QZ,p,(a,b),rfl,hH,rfl,kp.same aq,λx hx=>(ky x hx).same aq,en,_,rfl,?_⟩
 rw[hn];exact o7 ⟨q,O,d,S⟩
theorem CK{c:Expr}{bb:List I_}{ip:Pos}(hc:Tt X H0 O0 ps c false)(h:WD X H0 O0 j rest ps QZ nx):WD X H0 O0 j (.If c bb [] ip::rest) ps QZ nx:=
 PSs.mono (dt (sH (pos:=ip) (b:=[]) hc (mM (sts:=bb)) iO) h) λD σ H ⟨q,O,d,S⟩=>⟨O,S.rs,λH' s=>o7 ⟨q,O,d,S.go s⟩⟩
def WD1(X:Cx)(H0:Hp)(O0:List FI)(j:Nat)(st:I_)(ps:PSt)(QZ:List (K4×Int))(nx:PSt->List (K4×Int)->Prop):Prop:=
 PS X st λD σ H=>(∀Rl RU Q7 H' O' d',SnP X.K (ST2.hsq X.prog X.w) Rl j RU H0 O0 Q7 H' O' d'->nx Rl RU->D.nx Q7 H')/\∃O d,SnP X.K (ST2.hsq X.prog X.w) ps j QZ H0 O0 σ H O d
theorem wv{st:I_}(h:WD1 X H0 O0 j st ps QZ nx):WD X H0 O0 j [st] ps QZ nx:=
 PSs.mono (dt h iO) λD σ H w=>w
theorem nE{kk:Nat}{y:Str}{yp fp:Pos}(F:Nat->List (K4×Int))(hc:X.calm=true)(hp:L8 (F7 X.prog X.w) X.A X.env X.xe)(hN:X.N.Nodup)(hk:X.N[kk]?=some y)(ly:Loc X.env.scope y)(hjk:kk≠j)
  (hi:EvI X H0 O0 ps (.Name y yp) iter items) (h0:QZ=F 0)
  (hb:∀(H0:Hp) (i:Nat) (x:U),items[i]?=some x->WD X H0 O0 j Rk (ps.set kk (some (.val x))) (F i) λRl k=>SubP ps Rl/\k=F (i+1))
  (h:nx ps (F items.length))
  (hfy:X.fn y=true\/X.env.scope.names.lookup y=some .local:=by first |exact .inl rfl |exact .inr rfl |assumption)
  (hf:∀z,Hw iter X.env z=pure z:=by intro _;rfl):WD1 X H0 O0 j (.For (.Name y yp) iter Rk [] fp) ps QZ nx:=by
 subst h0
 have Ry:PSs X Rk λD σ H=>∃(B:Hp) (i:Nat) (x:U),items[i]?=some x/\(∀Rl RU Q7 H' O' d',SnP X.K (ST2.hsq X.prog X.w) Rl j RU B O0 Q7 H' O' d'->SubP ps Rl/\RU=F (i+1)->D.nx Q7 H')/\∃O d,SnP X.K (ST2.hsq X.prog X.w) (ps.set kk (some (.val x))) j (F i) B O0 σ H O d:=
  λpins s σ H D I ⟨B,i,x,hx,w⟩=>hb B i x hx pins s σ H D I w
 refine PS.mono (yr hp hc hi (br hN hk ly hfy) Ry hf) λD σ H ⟨q,O,d,S⟩=>?_
 refine⟨O,S.rs,λJ G4 s4 Y=>?_⟩
 have D4:=S.go s4;have base:=D4.rs.base;have D5:SnP X.K (ST2.hsq X.prog X.w) ps j (F 0) (hid G4 (O.filter λa=>decide (a ∉ O0))) O0 σ G4 O d:=⟨D4.rs.rebase,D4.vals,D4.non,D4.at_,D4.dO,D4.dO0,D4.en⟩
 generalize hB:hid G4 (O.filter λa=>decide (a ∉ O0))=B at *
 refine⟨λi m σ H=>m=items.length-i/\i<=items.length/\∃O' d',SnP X.K (ST2.hsq X.prog X.w) ps j (F i) B O0 σ H O' d',⟨_,rfl,GN _,O,d,D5⟩,?_⟩
 rintro i m σ2 H2 ⟨rfl,RS,O2,d2,D6⟩;have seen:aL (hid G4 O) (hid H2 O2):=D4.rs.seen (by rw[hB];exact D6.rs)
 obtain⟨y1,y2⟩:=Y H2 (seen.trans aq);by_cases Q4:i<items.length
 ·obtain⟨g1,g2⟩:=y1 i Q4;refine .inr ⟨g1,λQ7 H'=>∃O' d',SnP X.K (ST2.hsq X.prog X.w) ps j (F (i+1)) B O0 Q7 H' O' d',λQ7 H' z=>⟨items.length-(i+1),by lia,rfl,Q4,z⟩,λz H3 yl=>?_⟩
  obtain⟨rfl,u,hu,r⟩:=g2 z H3 yl;exact⟨B,i,u,hu,λRl RU Q7 H' O' d' S' ⟨e1,e2⟩=>⟨O',d',by rw[<-e2];exact S'.sub e1⟩,O2,d2,D6.set (r.same seen) hjk⟩
 ·have e:i=items.length:=by lia
  subst e;exact .inl ⟨y2,q _ _ _ _ O2 d2 ⟨D6.rs.unbase base,D6.vals,D6.non,D6.at_,D6.dO,D6.dO0,D6.en⟩ h⟩
theorem y8{x:Str}{xp lp ap:Pos}{st:I_}{m:List (K4×Int)}(hN:X.N.Nodup)(hj:X.N[j]?=some x)(lx:Loc X.env.scope x)(pj:ps[j]?=some none)(hv:∀(i:Nat) (s:Sl),ps[i]?=some (some s)->∃u,s=.val u)
  (hb:WD1 X H0 O0 j st ps [] λRl k=>SubP ps Rl/\k=m) (h:Ws X H0 O0 E ss D (ps.set j (some (.val (.ty (.dp (ST2.hsq X.prog X.w) m))))))
  (hsa:JF (.Dict [] [] lp) (some (.Name x xp)) ap.line X.env=pure false:=by rfl)
  (hfx:X.fn x=true\/X.env.scope.names.lookup x=some .local:=by first |exact .inl rfl |exact .inr rfl |assumption):
  Ws X H0 O0 E (.Assign [.Name x xp] (.Dict [] [] lp) ap::st::ss) D ps:=by
 refine PSs.mono (dt (oz hN hj lx (w9 (pos:=lp)) hsa hfx) (dt hb h)) λD' σ H ⟨L,O,R⟩=>?_
 intro d nd;have s0:aL H (upd H d (.ext (Sdp (ST2.hsq X.prog X.w) d 0 []))):=aQ nd _;have bd:(upd H d (.ext (Sdp (ST2.hsq X.prog X.w) d 0 []))) d=some (.ext (Sdp (ST2.hsq X.prog X.w) d 0 [])):=aO;generalize upd H d (.ext (Sdp (ST2.hsq X.prog X.w) d 0 []))=G3 at *;have R3:=R.hide s0 nd (by rw[bd];intro z;cases z)
 refine⟨λRl RU Q7 H' O' d' S' ⟨e1,e2⟩=>?_,d::O,d,R3.setn pj,hv,pj,f6 (by rw[R.len];exact aC pj),Fv,λz=>R.dom d (R.old d z) nd,0,[],⟨rfl,λi x y h=>by simp at h⟩,bd,λx hx=>by cases hx⟩
 subst e2;obtain⟨O2,R2⟩:=(S'.sub e1).free;exact⟨L,O2,R2⟩
end
section
variable {prog:FK}{w:Gj}{A:Gs}{E:Fq→Fp→Prop}{s:Fp}{it d:FI}{od:Obj}{es:Array DictEntry}{i ep:Nat}
theorem zN{Q:Fq->Fp->Prop}(hd:(d==L6)=false)(ho:s.heap.get? d=some od)(hc:od.ExactDict)(TL:od.data=.dict es ep)
  (hQ:Q (.ref s.heap.objs.size) {s with heap:=s.heap.push {cls:=.type "dict_keyiterator",data:=.fields #[.ref d,.int 0 0,.int es.size 0,.int ep 0] } }):FX (F7 prog w) A (NS (.ref d)) Q E s:=by
 have tT:s.TypeIs (.ref d) "dict":=⟨od,ho,hc.1⟩;refine KZ tT F.slot_dict_iter ?_;refine GJ F.slot_dict_iter tT F.entry_dict_iter ?_ (F.args_dict_iter_1 _);unfold Builtin.«dict.__iter__»;refine Fi ?_;unfold Builtin.Dict.dictSlotNone;refine Fi (wpAny_notOrdered_dict tT (Fl ?_));show FX _ _ (Builtin.Dict.showsAll d >>=_) _ _ _;unfold Builtin.Dict.showsAll;rw[if_neg (by rw[hd];decide)]
 refine Fi (Fl (Fi (Ot ho TL (Fi (Pf ho TL (Fi (He (Fl ⟨_,rfl,"dict_keyiterator",_,⟨_,FE _ rfl,rfl⟩,F.slot_dict_keyiterator_next.lookup,?_⟩))))))));simpa [Ku] using hQ
theorem oS{Q:Option Fq->Fp->Prop}(hh:A.handled=none)(kt:s.heap.IsKeyIter it d i es.size ep)(ho:s.heap.get? d=some od)(TL:od.data=.dict es ep)
  (h1:∀(lt:i<es.size) h',h'.IsKeyIter it d (i+1) es.size ep->JE it s.heap h'->Q (some es[i].key) {s with heap:=h' })
  (h2:es.size<=i->∀h',QK it s.heap h'->Q none {s with heap:=h' }):FX (F7 prog w) A (JG (.ref it)) Q E s:=by
 have tT:=kt.typeIs;obtain⟨o,go,gc,gd⟩:=id kt;unfold JG;refine Fi (JV (Ii (name:=Str.ofString "__next__") tT F.slot_dict_keyiterator_next (GJ F.slot_dict_keyiterator_next tT F.entry_dict_keyiterator_next ?_ (F.args_dict_keyiterator_next_1 _))));refine Fi (Fl (Fi (Fi ?_)));refine Fi (Jz tT (Fl (Fi (NG go gd ?_))));rw[show Builtin.Dict_items.ownsTuple "dict_keyiterator"=false by decide]
 simp only[Fz,if_false];show FX _ _ (if (FW d==F4)=true then _ else _) _ _ _
 rw[if_neg (show ¬ (FW d==F4)=true from nofun)]
 refine Fi (Fl (Fi (Ot ho TL ?_)));rw[if_neg (by simp)]
 refine Fi (Fl (Fi (Pf ho TL ?_)));rw[if_neg (by simp)]
 refine Fl ?_;rcases G7 i es.size with lt |ge
 ·simp only[show ¬ ((i:Int)<0) by lia,if_false,Hf,Gf lt]
  refine Fi (Fi (Jz tT (Fl (Fi (Ni tT ?_)))));show FX _ _ (setField (.ref it) 1 (Ku ((i:Int)+1)) >>=_) _ _ _;refine Fi (La go gd (by simp) ?_)
  have kt':(s.heap.update it (N5 (·.setIfInBounds 1 (Ku ((i:Int)+1))))).IsKeyIter it d (i+1) es.size ep:=
   ⟨_,Gk _ go (Lg (Ij gd _)),(Me ..).trans gc,by rw[Ij gd];simp[Ku]⟩
  refine Fi (GS (Fi (Ni (s:={s with heap:=s.heap.update it (N5 (·.setIfInBounds 1 (Ku ((i:Int)+1)))) }) kt'.typeIs ?_)))
  show FX _ _ (pure es[i].key) _ _ _;exact Fl (Fl ⟨_,rfl,Fl (h1 lt _ kt' (Iz ..))⟩)
 ·simp only[show ¬ ((i:Int)<0) by lia,if_false,Hf,MQ ge]
  refine Fi (Fi (Jz tT (Fl ?_)));show FX _ _ (setField (.ref it) 0 .none >>=_) _ _ _;refine Fi (La go gd (by simp) ?_)
  show FX _ _ (newExc (.type "StopIteration") [] >>=_) _ _ _;refine Fi ?_;simp only[newExc,newTuple];refine Fi (He ?_ (by size_fits))
  refine Fi (m:=LY _ _) (Mr (a:=F4) (by first |rfl | (simp only[LY];rfl)) ?_)
  refine He ?_ (by size_fits)
  simp only[raiseNew];refine Fi (wpAny_handled ?_);rw[show A.in1.handled=none from hh]
  refine Fi (Fl (wpAny_throw ?_));refine Fi (Hb (T:="StopIteration") (b:=true) ⟨_,FE _ rfl,rfl⟩ LZ ?_);exact Fl (h2 ge _ (((Iz ..).extBut.push _).push _))
end
noncomputable def Itd(hh:K4->Int)(a:FI)(ep n:Nat):It:=
 ⟨λi H=>∃xs x,H a=some (.ext (Sdp hh a ep xs))/\xs.length=n/\xs[i]?=some x,
  λi H v H'=>H'=H/\∀xs,H a=some (.ext (Sdp hh a ep xs))->∃x,xs[i]?=some x/\v=.ref x.2.1,
  λi H=>∃xs,H a=some (.ext (Sdp hh a ep xs))/\xs.length=n/\n<=i⟩
theorem zE{P:FK}{w:Gj}{K:Fm}{tg:Expr}{hh:K4->Int}(a it:FI)(ep n:Nat):vR P w K tg (Itd hh a ep n) [it] it (λi h=>h.IsKeyIter it a i n ep) where
 mem:=by simp
 obj:=λi h st b hb=>by
  have e:b=it:=by simpa using hb
  subst e;obtain⟨o,e,c,d⟩:=st;exact⟨o,e,λv z=>by rw[d]at z;cases z⟩
 keep:=λi h h' st k=>st.at λo e=>k it (by simp) o e
 item:=by
  intro X hP hw hK hc i pins s σ H E I hf st hg;subst hP hw hK;obtain⟨xs,x,hq,hl,hx⟩:=hg;obtain⟨⟨_,_,o,es,g1,g2,g3,g4,g5⟩,_⟩:=(show bS X.prog X.w H s.heap a (.ext (Sdp hh a ep xs)) from I.hok a _ hq)
  have hsz:es.size=n:=by rw[<-hl,<-Fx,g4,Fk]
  subst hsz;obtain⟨f0,f1,f2,f3,f4,f5⟩:=hf it (by simp)
  refine oS (I.ok.hd hc) st g1 g3 (λlt h' QX sb=>?_) λge=>absurd (aC hx) (by lia)
  have I1:Inv X pins σ H {s with heap:=h' }:=I.turned (t':=s.toks) (λb o hb e=>(sb.2 b hb).trans e) f0 f1 f3 f4 f5
  obtain⟨o',e,c,d⟩:=id QX
  have key:∀ys,H a=some (.ext (Sdp hh a ep ys))->∃y,ys[i]?=some y/\es[i].key=.ref y.2.1:=λys hy=>by
   obtain⟨⟨_,_,o2,es2,k1,k2,k3,k4,_⟩,_⟩:=(show bS X.prog X.w H s.heap a (.ext (Sdp hh a ep ys)) from I.hok a _ hy)
   rw[g1]at k1;cases k1;rw[g3]at k3;cases k3;have q:es.toList[i]?=some es[i]:=by rw[GC];exact Gf lt
   rw[k4,Ft]at q;obtain⟨y,y1,y2⟩:=Ir.mp q;exact⟨y,y1,by rw[<-y2]⟩
  obtain⟨y,y1,y2⟩:=key xs hq
  exact⟨_,rfl,pY (s:={s with heap:=h' }) e c d (by decide) ⟨.ref y.2.1,H,I1,y2,⟨rfl,λys hy=>by
   obtain⟨z,z1,z2⟩:=key ys hy;refine⟨z,z1,?_⟩;rw[y2]at z2;exact congrArg V.ref (Value.ref.inj z2)⟩,QX,λb hb=>(hf b hb).1⟩⟩
 done:=by
  intro X hP hw hK hc i pins s σ H E I hf st hg;subst hP hw hK;obtain⟨xs,hq,hl,hx⟩:=hg;obtain⟨⟨_,_,o,es,g1,g2,g3,g4,g5⟩,_⟩:=(show bS X.prog X.w H s.heap a (.ext (Sdp hh a ep xs)) from I.hok a _ hq)
  have hsz:es.size=n:=by rw[<-hl,<-Fx,g4,Fk]
  subst hsz;obtain⟨f0,f1,f2,f3,f4,f5⟩:=hf it (by simp)
  exact oS (I.ok.hd hc) st g1 g3 (λlt=>absurd lt (by lia)) λ_ h' eb=>⟨rfl,I.turned (t':=s.toks) (λb o hb e=>eb b o hb e) f0 f1 f3 f4 f5⟩
 self:=λ_ _ _ _ _ st h=>wpAny_pyIter_keyiter st h
def prU(k:K4):U:=.tup [.tup [.int k.1.1,.int k.1.2],.tup [.int k.2.1,.int k.2.2]]
theorem Et{K:Fm}{H:Hp}{b:FI}{k:K4}(h:KPr K H b k):Rp K H (.ref b) (prU k):=by
 obtain⟨p,q,a,b,c⟩:=h;have pt:∀{x:FI}{y:Int×Int},SqT K H x (pV y)->Rp K H (.ref x) (.tup [.int y.1,.int y.2]):=λ{x y} h=>.tup h rfl (Rps.cons (.int _) (Rps.cons (.int _) .nil)).at_
 exact .tup a rfl (Rps.cons (pt b) (Rps.cons (pt c) .nil)).at_
section
variable {X:Cx}{ps:PSt}{o i tg iter:Expr}{hh:K4→Int}{td ty:TE}
theorem Ca(ho:PE X iter td):PI X tg iter (λσ H R=>td σ H λx H1=>∃a ep xs,x=.ref a/\H1 a=some (.ext (Sdp hh a ep xs))/\R (Itd hh a ep xs.length) H1):=by
 intro pins s σ H R I h;refine thn (ho pins s σ H _ I h) λv s1 ⟨x,H1,I1,r1,q1⟩=>?_
 obtain⟨a,ep,xs,e,hq,q⟩:=q1;subst e;cases r1;obtain⟨⟨hd,_,o,es,g1,g2,g3,g4,g5⟩,_⟩:=(show bS X.prog X.w H1 s1.heap a (.ext (Sdp hh a ep xs)) from I1.hok a _ hq)
 have hsz:es.size=xs.length:=by rw[<-Fx,g4,Fk]
 refine zN hd g1 g2 g3 ?_;refine⟨s1.heap.objs.size,[s1.heap.objs.size],_,_,H1,rfl,I1.kept (t':=s1.toks) λb o e=>Fo _ e,zE a _ ep xs.length,⟨_,FE _ rfl,rfl,by rw[hsz];rfl⟩,λb hb=>?_,q⟩
 have e:b=s1.heap.objs.size:=by simpa using hb
 subst e;exact I1.fpOk (Fu _) (I1.hok.fresh (Fu _))
theorem Ez(he:Ev X H0 O0 ps iter (.ty (.dp hh QZ))):EvI X H0 O0 ps tg iter (QZ.map λy=>prU y.1):=
 PI.mono (Ca (hh:=hh) he) λσ H Q ⟨O,R,q⟩=>⟨O,R,λv H' s r=>by
  cases r with
  | @dp a _ ep xs _ hq hk hv=>
   refine⟨a,ep,xs,rfl,aq _ _ hq,q _ H' s λH2 s2=>⟨λi hi=>?_,xs,s2 _ _ hq,rfl,by rw[hv.1,Fk];exact Fu _⟩⟩
   rw[Fk]at hi;have Q9:i<xs.length:=by rw[hv.1];exact hi
   refine⟨⟨xs,xs[i],s2 _ _ hq,rfl,Fj Q9⟩,λz H3 y=>⟨y.1,prU QZ[i].1,by rw[Ft,Fj hi];rfl,?_⟩⟩
   obtain⟨x,x1,rfl⟩:=y.2 xs (s2 _ _ hq);rw[<-(hv.2 i x QZ[i] x1 (Fj hi)).1];exact Et (hk x (FD x1))⟩
theorem t6{k:K4}(hu:X.A.units+2<Ip)(hi:Ev X H0 O0 ps i (prU k))(ho:Ev X H0 O0 ps o (.ty (.dp (ST2.hsq X.prog X.w) QZ)))(h1:HZ .In o=false:=by first |exact m9 _ |with_unfolding_all rfl):
  Ev X H0 O0 ps (.Compare i [.In] [o] pos) (.bl (QZ.any λx=>decide (x.1=k))):=
 PE.mono (DJ (sQ hu hi ho) h1) λσ H Q ⟨O,R,q⟩=>⟨O,R,λw H1 s1 r1=>⟨O,R.go s1,λv H2 s2 r2=>by
  obtain⟨b,rfl,kb⟩:=tq (a:=k.1) (b:=k.2) (r1.same (aY s2));cases r2 with
  | @dp a _ ep xs _ hq hk hv=>exact⟨a,ep,xs,QZ,b,k,rfl,aq _ _ hq,rfl,kb.same aq,λx hx=>(hk x hx).same aq,hv,q _ H2 (s1.trans s2) (.bl _)⟩⟩⟩
theorem yZ{k:K4}{b:Bool}(hu:X.A.units+2<Ip)(hi:Ev X H0 O0 ps i (prU k))(ho:Ev X H0 O0 ps o (.ty (.dp (ST2.hsq X.prog X.w) QZ)))(hb:(QZ.any λx=>decide (x.1=k))=b)(h1:HZ .NotIn o=false:=by first |exact m9 _ |with_unfolding_all rfl):
  Tt X H0 O0 ps (.Compare i [.NotIn] [o] pos) (!b):=by
 subst hb
 exact PT.mono (rF (xu hu hi ho) h1) λσ H Q ⟨O,R,q⟩=>⟨O,R,λw H1 s1 r1=>⟨O,R.go s1,λv H2 s2 r2=>by
  obtain⟨b,rfl,kb⟩:=tq (a:=k.1) (b:=k.2) (r1.same (aY s2));cases r2 with
  | @dp a _ ep xs _ hq hk hv=>exact⟨a,ep,xs,QZ,b,k,rfl,aq _ _ hq,rfl,kb.same aq,λx hx=>(hk x hx).same aq,hv,_,rfl,q H2 (s1.trans s2)⟩⟩⟩
end
theorem nd_lenL{α:Type}[DecidableEq α]:∀{l m:List α},l.Nodup->(∀x∈l,x∈m)->l.length<=m.length
 |[],m,_,_=>GN _
 |a::l,m,h,s=>by
  obtain⟨h1,h2⟩:=HG.mp h;have hm:=s a (by simp)
  have e:=nd_lenL (l:=l) (m:=m.erase a) h2 λx hx=>(Lv (a:=x) (b:=a) (λz=>h1 (by rw[<-z];exact hx))).mpr (s x (Fn _ hx))
  rw[Kq hm]at e;have:=GV hm;rw[F8];lia
end L2
namespace ST3
open PySem PyProof.Rows ST
section
variable {prog:FK}{w:Gj}{A:Gs}{E:Fq→Fp→Prop}{s:Fp}
theorem tuple_ltT{x y:FI}{a b:TR}{P:O_->Fp->Prop}(hu:A.units+2<Ip)(hx:TT prog w s.heap a x)(hy:TT prog w s.heap b y)(h:P (.done (.ret (.bool (ltT a b)))) s):
  FX (F7 prog w) A (Builtin.«tuple.__lt__» ⟨[.ref x,.ref y],[]⟩) P E s:=by
 obtain⟨o,QW,n,a1,a2,a3,ho,_,hd,hi,t1,t2,t3⟩:=hx;obtain⟨o',its',n',b1,b2,b3,RY,Ua,R9,Q9,u1,u2,u3⟩:=hy;have hu0:A.units<Ip:=by lia
 show FX _ _ (Mg (.ref y) (.type "tuple") >>=_) _ _ s;refine Fi (Hb (T:="tuple") ⟨o',RY,Ua⟩ IF ?_);simp only[Gw,Fz,if_false];refine Fi (HB ho hd ?_);refine Fi (HB RY R9 ?_);have sz:QW.size=its'.size:=by rw[<-Fx,<-Fx,hi,Q9];rfl
 rw[hi,Q9];refine Fi ?_;unfold ltT at h;simp only[Il,Mh,Jr,Ka];refine Fi (Fi (HA hu0 t1 u1 ?_));rw[jc];by_cases e1:a.1=b.1
 rotate_left
 ·rw[if_neg e1]at h;rw[decide_eq_false e1];simp only[HY,if_true];exact Fi (Jb (Fi (lt_ptsR hu0 t1 u1 (Fi (Fl (Fl (Fl (Fl h))))))))
 rw[if_pos e1]at h;rw[decide_eq_true e1];simp only[Gw,Fz,if_false];refine Fl ?_;refine Fi (Fi (HA hu0 t2 u2 ?_));rw[jc];by_cases e2:a.2.1=b.2.1
 rotate_left
 ·rw[if_neg e2]at h;rw[decide_eq_false e2];simp only[HY,if_true];exact Fi (Jb (Fi (lt_ptsR hu0 t2 u2 (Fi (Fl (Fl (Fl (Fl h))))))))
 rw[if_pos e2]at h;rw[decide_eq_true e2];simp only[Gw,Fz,if_false];refine Fl ?_;refine Fi (Fi (HA hu0 t3 u3 ?_));rw[jc];by_cases e3:a.2.2=b.2.2
 rotate_left
 ·rw[decide_eq_false e3];simp only[HY,if_true];exact Fi (Jb (Fi (lt_ptsR hu0 t3 u3 (Fi (Fl (Fl (Fl (Fl h))))))))
 rw[decide_eq_true e3];simp only[Gw,Fz,if_false];refine Fl (Fl ?_);rw[e3,jR]at h;refine Fl ?_;show P (.done (.ret (.bool (decide (QW.size<its'.size))))) s;rw[sz,decide_eq_false (Gh _)];exact h
end
end ST3
namespace L2
open PySem PySem.Spec PyProof.Rows
theorem Ey{X:Cx}{p q:ST3.TR}(hu:X.A.units+10<Ip):OpS X (Hj .Lt) (trU p) (trU q) (.bl (ST3.ltT p q)):=by
 intro pins s σ H v w e f Q I r1 r2 h;obtain⟨k1,k2,k3⟩:=h;obtain⟨b1,rfl,rfl,t1⟩:=B9 I k1 r1;obtain⟨b2,rfl,rfl,t2⟩:=B9 I k2 r2;have t1':ST3.TT X.prog X.w s.heap p b1:=t1;have t2':ST3.TT X.prog X.w s.heap q b2:=t2
 have ty:∀{t:ST3.TR}{b:FI},ST3.TT X.prog X.w s.heap t b→s.TypeIs (.ref b) "tuple":=λh=>by
  obtain⟨o,_,_,_,_,_,ho,hc,_⟩:=h;exact⟨o,ho,hc⟩
 exact IZ (op:=.Lt) (ty t1') (ty t2') JM
  (GJ JM (ty t1') MR (ST3.tuple_ltT (by show X.A.units+1+2<Ip;lia) t1' t2' ⟨_,rfl,(λe=>nomatch e),aW I k3 rfl⟩) (Mx _ _)) (by lia)
end L2
local macro_rules | `(tactic|walk_at"sz")=>`(tactic|first |with_reducible assumption | ((with_reducible apply L2.Sz.sub') <;>walk_at"sz") | ((with_reducible apply L2.Sz.add') <;>walk_at"sz") | ((with_reducible apply L2.Sz.mul) <;>walk_at"sz") | ((with_reducible apply L2.Sz.neg) <;>walk_at"sz") | ((with_reducible apply L2.Sz.ediv) <;>walk_at"sz") | ((with_reducible apply L2.Sz.abs) <;>walk_at"sz") |exact L2.Sz.lit (m:=8) (by decide) |exact L2.Sz.emod (m:=250) (by decide) (by decide) |exact L2.Sz.lit (m:=250) (by decide))
local macro_rules | `(tactic|walk_at"mul")=>`(tactic|exact L2.Sz.ok (by walk_at"sz") (by walk_at"sz") (by decide))
local macro_rules | `(tactic|walk_at"div")=>`(tactic|first |exact⟨by decide,L2.Sz.mono (m:=250) (by decide) (by decide)⟩ |exact⟨by lia,L2.Sz.mono (by walk_at"sz") (by decide)⟩)
local macro_rules | `(tactic|walk_at"mod")=>`(tactic|first |decide |lia)
local macro_rules | `(tactic|walk_at"szb")=>`(tactic|exact L2.Sz.mono (by walk_at"sz") (by decide))
local macro_rules | `(tactic|walk_at"kit")=>`(tactic|first |exact L2.kit_int_int _ |exact L2.kit_int_bool _ |exact L2.kit_tuple_tuple _ |exact L2.kit_list_list _ |exact L2.kit_bool_int _ |exact L2.kit_list_tuple _ |rfl)
local macro_rules | `(tactic|walk_at"ok")=>`(tactic|first |rfl |decide)
local macro_rules | `(tactic|walk_at"sub")=>`(tactic|first |exact trivial | (refine⟨rfl,?_⟩;walk_at"sub") | (with_reducible apply L2.SubP.skip;walk_at"sub"))
local macro_rules | `(tactic|walk_at"len")=>`(tactic|first |decide | (simp only[List.length_append,List.length_cons,List.length_nil,List.length_map];decide))
namespace My
open PySem PySem.Spec PyProof.Rows L2
def top(i:Nat):I_:=PySem.Challenge.pw_stakefield_k27_whole_pieces_fill.main.body.getD i (.Pass ⟨0,0,0,0⟩)
abbrev kE:I_:=top 7
abbrev yn:I_:=top 8
abbrev pi:I_:=top 9
abbrev zw:I_:=top 11
abbrev ja:I_:=top 12
abbrev jj:I_:=top 13
abbrev oZ:I_:=top 14
abbrev sN:I_:=top 15
abbrev kF:I_:=top 16
abbrev tS:I_:=top 17
abbrev uc:I_:=top 18
abbrev wU:I_:=top 20
abbrev iA:I_:=top 21
abbrev uj:I_:=top 22
abbrev sM:I_:=top 23
abbrev e7:I_:=top 24
abbrev wt:I_:=top 25
abbrev eU:I_:=top 26
abbrev qY:I_:=top 28
abbrev kq:I_:=top 30
abbrev jm:I_:=top 31
abbrev eS:I_:=top 32
abbrev kR:I_:=top 35
abbrev gH:I_:=top 36
abbrev o_:I_:=top 37
abbrev l8:I_:=top 38
abbrev qe:I_:=top 39
abbrev gA:I_:=top 41
abbrev io:I_:=top 42
abbrev fR:I_:=top 43
abbrev iU:I_:=top 44
abbrev fX:I_:=top 45
abbrev jv:I_:=top 46
abbrev kA:I_:=top 47
abbrev gm:I_:=top 48
abbrev fJ:I_:=top 49
abbrev d6:I_:=top 50
abbrev iF:I_:=top 51
abbrev jA:I_:=top 52
abbrev gF:I_:=top 53
abbrev BP:I_:=top 54
theorem oM:aw ["thing"] ["thing"] (ak kE):=by walk_at"sC"
theorem AS:aw ["number"] ["number"] (ak yn):=by walk_at"sC"
theorem bG:aw ["a","b","high","high_times","low","low_times","fits","rest","rest_times","s"] ["a","b"] (ak pi):=by walk_at"sC"
theorem zV:aw ["move"] ["move"] (ak zw):=by walk_at"sC"
theorem kL:aw ["thing","number"] ["thing"] (ak ja):=by walk_at"sC"
theorem nF:aw ["thing"] ["thing"] (ak jj):=by walk_at"sC"
theorem uE:aw ["P","move"] ["P","move"] (ak oZ):=by walk_at"sC"
theorem pT:aw ["P","move","place"] ["P","move"] (ak sN):=by walk_at"sC"
theorem cR:aw ["move","side","a","b","c","d"] ["move"] (ak kF):=by walk_at"sC"
theorem yN:aw ["P","Q"] ["P","Q"] (ak tS):=by walk_at"sC"
theorem dZ:aw ["P","Q","far","u","v","parts","s","t"] ["P","Q"] (ak uc):=by walk_at"sC"
theorem Af:aw ["P","Q","R"] ["P","Q","R"] (ak wU):=by walk_at"sC"
theorem e8:aw ["row","kept","P"] ["row"] (ak iA):=by walk_at"sC"
theorem gE:aw ["points","row","there","back"] ["points"] (ak uj):=by walk_at"sC"
theorem yc:aw ["land"] ["land"] (ak sM):=by walk_at"sC"
theorem dS:aw ["land","A","B"] ["land"] (ak e7):=by walk_at"sC"
theorem qI:aw ["land","A","B"] ["land"] (ak wt):=by walk_at"sC"
theorem f7:aw ["land","move","P"] ["land","move"] (ak eU):=by walk_at"sC"
theorem sS:aw ["land","k","P"] ["land","k"] (ak qY):=by walk_at"sC"
theorem qk:aw ["land","k"] ["land","k"] (ak kq):=by walk_at"sC"
theorem nL:aw ["land"] ["land"] (ak jm):=by walk_at"sC"
theorem o5:aw ["land","k","many"] ["land","k"] (ak eS):=by walk_at"sC"
theorem cf:aw ["land","y","begins","ends","A","B","rise","run"] ["land","y"] (ak kR):=by walk_at"sC"
theorem bV:aw ["land","move","levelled","back","found","y","ends","x","P"] ["land"] (ak gH):=by walk_at"sC"
theorem vW:aw ["land"] ["land"] (ak o_):=by walk_at"sC"
theorem fv:aw ["row","hand","kept","cut","P"] ["row","hand"] (ak l8):=by walk_at"sC"
theorem mR:aw ["land","row"] ["land"] (ak qe):=by walk_at"sC"
theorem jD:aw ["script","k"] ["script","k"] (ak gA):=by walk_at"sC"
theorem lJ:aw ["found"] ["found"] (ak io):=by walk_at"sC"
theorem jb:aw ["found"] ["found"] (ak fR):=by walk_at"sC"
theorem g8:aw ["one","two","three","made"] ["one","two","three"] (ak iU):=by walk_at"sC"
theorem bC:aw ["points","row","found","way","half","spot"] ["points"] (ak fX):=by walk_at"sC"
theorem og:aw ["cell","small"] ["cell","small"] (ak jv):=by walk_at"sC"
theorem bM:aw ["spot","script","x","y","shape","right","above"] ["spot","script"] (ak kA):=by walk_at"sC"
theorem bi:aw ["script","shape","wide","high","cells","cell"] ["script"] (ak gm):=by walk_at"sC"
theorem bK:aw ["one","two","wide","high","x","y","row","k"] ["one","two"] (ak fJ):=by walk_at"sC"
theorem dI:aw ["piece","spot"] ["piece"] (ak d6):=by walk_at"sC"
theorem cI:aw ["found","sides_v","piece","k","one"] ["found"] (ak iF):=by walk_at"sC"
theorem bD:aw ["found","ends","piece","k","sides_v","outer","side","one","other"] ["found","ends"] (ak jA):=by walk_at"sC"
theorem cT:aw ["found","ends","due","piece","spot"] ["found","ends"] (ak gF):=by walk_at"sC"
theorem n8:aw ["script","ends","handed","found"] ["script"] (ak BP):=by walk_at"sC"
set_option genInjectivity false in
set_option genSizeOf false in
set_option genSizeOfSpec false in
structure Txt(w:Gj)(K:Fm)(mg:Str->Option Fq) where
 aay:Dfn K mg "is_whole" kE ["thing"]
 aaK:Dfn K mg "sign" yn ["number"]
 aax:Dfn K mg "shares" pi ["a","b"]
 aaL:Dfn K mg "hand" zw ["move"]
 aaD:Dfn K mg "is_move" ja ["thing"]
 aah:Dfn K mg "need_move" jj ["thing"]
 aaG:Dfn K mg "turned" oZ ["P","move"]
 aaF:Dfn K mg "moved" sN ["P","move"]
 aaz:Dfn K mg "way_back" kF ["move"]
 aau:Dfn K mg "steps" tS ["P","Q"]
 aaO:Dfn K mg "level" uc ["P","Q"]
 aaM:Dfn K mg "turn" wU ["P","Q","R"]
 aad:Dfn K mg "left_bends" iA ["row"]
 aav:Dfn K mg "field" uj ["points"]
 aaw:Dfn K mg "sides" sM ["land"]
 aal:Dfn K mg "double_area" e7 ["land"]
 aaT:Dfn K mg "rim" wt ["land"]
 aam:Dfn K mg "field_moved" eU ["land","move"]
 aaR:Dfn K mg "fold" qY ["land","k"]
 aaA:Dfn K mg "multiple" kq ["land","k"]
 aaq:Dfn K mg "points_in" jm ["land"]
 aaP:DfD K mg "count" eS ["land","k"] 1
 aaB:Dfn K mg "row_ends" kR ["land","y"]
 aaE:Dfn K mg "by_rows" gH ["land"]
 aaH:Dfn K mg "stakes" o_ ["land"]
 aap:Dfn K mg "cut_off" l8 ["row","hand"]
 aaI:Dfn K mg "pieces" qe ["land"]
 aaa:Dfn K mg "_law_cell_at" gA ["script","k"]
 aae:Dfn K mg "_law_whole" io ["found"]
 aab:Dfn K mg "_law_is_point" fR ["found"]
 aaf:Dfn K mg "_law_cross" iU ["one","two","three"]
 aaj:Dfn K mg "_law_corners" fX ["points"]
 aai:Dfn K mg "_law_lean" jv ["cell","small"]
 aaC:Dfn K mg "_law_put" kA ["spot","script"]
 aar:Dfn K mg "_law_ends" gm ["script"]
 aan:Dfn K mg "_law_way" fJ ["one","two"]
 aac:Dfn K mg "_law_is_triangle" d6 ["piece"]
 aao:Dfn K mg "_law_sides" iF ["found"]
 aas:Dfn K mg "_law_fill" jA ["found","ends"]
 aat:Dfn K mg "_law_flat" gF ["found","ends"]
 aaV:Dfn K mg "law" BP ["script"]
 aaX:mg "abs"=none
 aa5:mg "all"=none
 aaY:mg "bool"=none
 aa1:mg "int"=none
 aag:mg "isinstance"=none
 aak:mg "len"=none
 aaS:mg "list"=none
 aaZ:mg "max"=none
 aa2:mg "min"=none
 aaJ:mg "range"=none
 aaW:mg "reversed"=none
 aa0:mg "set"=none
 aaN:mg "sorted"=none
 aa3:mg "sum"=none
 aaQ:mg "tuple"=none
 aa4:mg "zip"=none
 aaU:∃t,mg "MOST_STAKES"=some (.int 100 t)
section
variable {P:FK}{w:Gj}{K:Fm}{mg:Str→Option Fq}{base:HF}
def sgn(n:Int):Int:=if 0<n then 1 else if n<0 then -1 else 0
def bY(b:Int):Int:=if b<0 then -b else b
theorem du(b:Int):bY b=(b.natAbs:Int):=by unfold bY;split <;>lia
theorem iB{b:Int}(h:b≠0):0<bY b:=by unfold bY;split <;>lia
theorem dk(d b:Int):d ∣ bY b↔d ∣ b:=by
 unfold bY;split
 ·exact NL
 ·exact Iff.rfl
theorem yu(d b:Int):bY b ∣ d↔b ∣ d:=by
 unfold bY;split
 ·exact Int.neg_dvd
 ·exact Iff.rfl
structure jC(a b high ht low lt:Int):Prop where
 hp:0<high
 lo0:0<=low
 lolt:low<high
 dv:∀d,(d ∣ high/\d ∣ low)↔(d ∣ a/\d ∣ b)
 ch:b ∣ ht*a-high
 cl:b ∣ lt*a-low
 bd:ht.natAbs*low.natAbs+lt.natAbs*high.natAbs<=b.natAbs
 hi:high.natAbs<=b.natAbs
theorem qw{a b:Int}(hb:b≠0):jC a b (bY b) 0 (a%bY b) 1:=by
 have h0:=iB hb;refine⟨h0,ID _ (by lia),Hz _ h0,λd=>?_,?_,?_,?_,by rw[du];simp⟩
 ·rw[dk];constructor
  ·rintro ⟨h1,h2⟩;refine⟨?_,h1⟩;have e:=Ji a (bY b);rw[<-e];exact JN h2 (GH ((dk d b).mpr h1) (IW _ _))
  ·rintro ⟨h1,h2⟩;refine⟨h2,?_⟩;have e:a%bY b=a-bY b*(a/bY b):=by have:=Ji a (bY b);lia
   rw[e];exact MA h1 (GH ((dk d b).mpr h2) (IW _ _))
 ·rw[IG,Int.zero_sub,NL];exact (dk b b).mpr (LU b)
 ·have e:1*a-a%bY b=bY b*(a/bY b):=by have:=Ji a (bY b);lia
  rw[e];exact GH ((dk b b).mpr (LU b)) (IW _ _)
 ·rw[du];simp
theorem tQ{a b high ht low lt:Int}(I:jC a b high ht low lt)(h:low≠0):jC a b low lt (high-high/low*low) (ht-high/low*lt)/\high-high/low*low<low:=by
 obtain⟨hp,lo0,lolt,dv,ch,cl,bd,hi⟩:=I;have hl:0<low:=by lia
 have e:=Ji high low;have r0:=ID high h;have r1:=Hz high hl;have hf:0<=high/low:=Int.ediv_nonneg (by lia) (by lia)
 have er:high-high/low*low=high%low:=by rw[Li];lia
 rw[er];refine⟨⟨hl,r0,r1,λd=>?_,cl,?_,?_,by lia⟩,r1⟩
 ·rw[<-dv d];constructor
  ·rintro ⟨h1,h2⟩;refine⟨?_,h1⟩;rw[<-e];exact JN h2 (GH h1 (IW _ _))
  ·rintro ⟨h1,h2⟩;refine⟨h2,?_⟩;rw[show high%low=high-low*(high/low) by lia]
   exact MA h1 (GH h2 (IW _ _))
 ·have e2:(ht-high/low*lt) *a-high%low=(ht*a-high)-(high/low) *(lt*a-low):=by grind
  rw[e2];exact MA ch (GH cl (GK _ _))
 ·have n1:(ht-high/low*lt).natAbs<=ht.natAbs+(high/low).natAbs*lt.natAbs:=by
   have:=Int.natAbs_sub_le ht (high/low*lt);rw[K9]at this;exact this
  have n2:high.natAbs=(high%low).natAbs+low.natAbs*(high/low).natAbs:=by
   have:(high.natAbs:Int)=((high%low).natAbs+low.natAbs*(high/low).natAbs:Nat):=by
    push_cast
    rw[J8 r0,J8 hf,J8 (by lia:0<=high),J8 lo0]
    lia
   lia
  have n3:(ht-high/low*lt).natAbs*low.natAbs<=(ht.natAbs+(high/low).natAbs*lt.natAbs) *low.natAbs:=Ny _ n1;rw[n2]at bd;refine Hh ?_ bd;generalize (ht-high/low*lt).natAbs=A at *;generalize ht.natAbs=B at *;generalize lt.natAbs=C at *;generalize low.natAbs=D at *;generalize (high/low).natAbs=E at *;generalize (high%low).natAbs=F at *;grind
structure fN(a b g s t:Int):Prop where
 g0:0<=g
 eq:s*a+t*b=g
 da:g ∣ a
 db:g ∣ b
 z:b=0->t=0/\s=sgn a/\g=bY a
 nz:b≠0->0<g/\0<=s/\s<bY b/g
theorem mL(a:Int):fN a 0 (bY a) (sgn a) 0:=by
 refine⟨by unfold bY;split <;>lia,?_,(yu a a).mpr (LU a),Qz _,λ_=>⟨rfl,rfl,rfl⟩,λh=>absurd rfl h⟩
 unfold sgn bY;split
 ·split <;>lia
 ·split
  ·lia
  ·lia
theorem xC{a b high ht lt:Int}(hb:b≠0)(I:jC a b high ht 0 lt):fN a b high (ht%(bY b/high)) ((high-ht%(bY b/high) *a).fdiv b):=by
 obtain⟨hp,lo0,lolt,dv,ch,cl,bd,hi⟩:=I;obtain⟨ga,gb⟩:=(dv high).mp ⟨LU _,Qz _⟩;obtain⟨a',rfl⟩:=ga;have gb2:high ∣ bY b:=(dk _ _).mpr gb;obtain⟨b',T6⟩:=gb2;have hb0:=iB hb;have hq:bY b/high=b':=by rw[T6,HV _ (by lia)]
 have hb1:0<b':=by
  have:0<high*b':=by lia
  exact HW this (by lia)
 rw[hq];have es:=Ji ht b'
 have key:b ∣ high-ht%b'*(high*a'):=by
  have e:high-ht%b'*(high*a')=-(ht*(high*a')-high)+bY b*(a'*(ht/b')):=by
   rw[T6,show ht%b'=ht-b'*(ht/b') by lia];grind
  rw[e];refine JN (NL.mpr ch) (GH ((dk b b).mpr (LU b)) (IW _ _))
 refine⟨by lia,?_,IW _ _,gb,λh=>absurd h hb,λ_=>⟨hp,ID _ (by lia),?_⟩⟩
 ·obtain⟨c,hc⟩:=key;rw[hc,Int.mul_fdiv_cancel_left _ hb,Li c b];lia
 ·rw[hq];exact Hz _ hb1
theorem EA{a b high ht low lt:Int}(I:jC a b high ht low lt):lt.natAbs<=b.natAbs:=by
 have h1:1<=high.natAbs:=by have:=I.hp;lia
 have h2:lt.natAbs*1<=lt.natAbs*high.natAbs:=NM _ h1;have:=I.bd;lia
theorem yh{a b g s t g' s' t':Int}(h:fN a b g s t)(h':fN a b g' s' t'):g=g'/\s=s'/\t=t':=by
 have d1:g ∣ g':=by rw[<-h'.eq];exact JN (GH h.da (GK _ _)) (GH h.db (GK _ _))
 have d2:g' ∣ g:=by rw[<-h.eq];exact JN (GH h'.da (GK _ _)) (GH h'.db (GK _ _))
 have eg:g=g':=OM h.g0 h'.g0 d1 d2;subst eg;by_cases hb:b=0
 ·obtain⟨h1,h2,_⟩:=h.z hb;obtain⟨k1,k2,_⟩:=h'.z hb;exact⟨rfl,by lia,by lia⟩
 ·obtain⟨p,s0,s1⟩:=h.nz hb;obtain⟨_,s0',s1'⟩:=h'.nz hb;obtain⟨a',ha⟩:=h.da;obtain⟨b',T6⟩:=(dk g b).mpr h.db;obtain⟨b'',TM⟩:=h.db;have hq:bY b/g=b':=by rw[T6,HV _ (by lia)]
  rw[hq]at s1 s1';have e1:=h.eq;have e2:=h'.eq;have bz:b''≠0:=by intro z;rw[z,G5]at TM;exact hb TM
  have k1:s*a'+t*b''=1:=by
   have:g*(s*a'+t*b'')=g*1:=by rw[ha,TM]at e1;grind
   exact GL (by lia) this
  have k2:s'*a'+t'*b''=1:=by
   have:g*(s'*a'+t'*b'')=g*1:=by rw[ha,TM]at e2;grind
   exact GL (by lia) this
  have k3:b'' ∣ s-s':=by
   refine⟨s*(t'-t)+t*(s-s'),?_⟩;grind
  have k4:b' ∣ s-s':=by
   have:b'.natAbs=b''.natAbs:=by
    have q1:(bY b).natAbs=b.natAbs:=by rw[du];simp
    rw[T6,TM]at q1;rw[K9,K9]at q1;exact Nat.eq_of_mul_eq_mul_left (by lia) q1
   exact Lj.mp (by rw[this];exact Lj.mpr k3)
  have k5:s=s':=by
   have:s-s'=0:=Int.eq_zero_of_dvd_of_natAbs_lt_natAbs k4 (by lia)
   lia
  subst k5;refine⟨rfl,rfl,?_⟩;have:b*t=b*t':=by grind
  exact GL hb this
theorem BJ{a b:Int}(hb:b≠0):∀(n:Nat) (high ht low lt:Int),low.toNat<=n->jC a b high ht low lt->∃high' ht' lt',jC a b high' ht' 0 lt'
 |0,high,ht,low,lt,hn,I=>by
  have:low=0:=by have:=I.lo0;lia
  subst this;exact⟨_,_,_,I⟩
 |n+1,high,ht,low,lt,hn,I=>by
  by_cases h:low=0
  ·subst h;exact⟨_,_,_,I⟩
  ·obtain⟨I2,less⟩:=tQ I h;have:=I2.lo0;exact BJ hb n _ _ _ _ (by have:=I.lo0;lia) I2
theorem jX(a b:Int):∃g s t,fN a b g s t:=by
 by_cases hb:b=0
 ·subst hb;exact⟨_,_,_,mL a⟩
 ·obtain⟨h,ht,lt,I⟩:=BJ hb _ _ _ _ _ (Fu _) (qw (a:=a) hb);exact⟨_,_,_,xC hb I⟩
theorem om{m:Nat}{a b g s t:Int}(G:fN a b g s t)(sa:Sz m a)(sb:Sz m b):Sz (m+8) g/\Sz (m+8) s/\Sz (2*m+8) t:=by
 by_cases hb:b=0
 ·subst hb;obtain⟨h1,h2,h3⟩:=G.z rfl;rw[h1,h2,h3];have s1:Sz 8 (sgn a):=by unfold Sz sgn;split;decide;split <;>decide
  exact⟨(Sz.abs sa).mono (by lia),s1.mono (by lia),Sz.mono (m:=8) (by decide) (by lia)⟩
 ·obtain⟨g0,s0,s1⟩:=G.nz hb;have h1:bY b/g<=bY b:=ON _ (by have:=iB hb;lia)
  have h2:=du b
  have sg:Sz m g:=by
   refine sb.natle ?_;exact Nat.le_of_dvd (by lia) (Lj.mpr G.db)
  have ss:Sz m s:=sb.natle (by lia)
  refine⟨sg.mono (by lia),ss.mono (by lia),?_⟩
  have e:t*b=g-s*a:=by have:=G.eq;lia
  have q:Sz (2*m+1) (t*b):=by
   rw[e];have:Sz (m+m) (s*a):=ss.mul sa;have h3:=(sg.mono (show m<=m+m by lia)).sub this
   exact h3.mono (by lia)
  refine (Sz.mono (m:=2*m+1) ?_ (by lia))
  unfold Sz at *;rw[K9]at q;have:1<=b.natAbs:=by lia
  exact JD (Nat.le_mul_of_pos_right _ this) q
def vn:List U->Out->Prop:=λus o=>∃n:Int,us=[.int n]/\o=.val (.int (sgn n))
theorem sJ(T:Txt w K mg):bg P w K mg base (CXF P w) 1 T.aaK.a T.aaK.d ["number"] (spU K (vn)):=by
 refine be T.aaK.F AS (λus o h=>?_) (λQ6 A outer s H E O us o hr h=>?_)
 ·obtain⟨n,rfl,rfl⟩:=h;rfl
 obtain⟨n,rfl,rfl⟩:=h;refine Ws.nox ?_;refine af (k_ (aI iE (aa 0 rfl) ag) (λhT=>?_) (λhF=>(aG ?_)))
 ·refine af (bj ag ?_);exact vIO (by unfold sgn;rw[if_pos (dTb hT)])
 ·refine af (k_ (aI ic (aa 0 rfl) ag) (λhT=>?_) (λhF=>(aG ?_)))
  ·refine af (bj (cq ag) ?_);exact vIO (by unfold sgn;rw[if_neg (dFb hF),if_pos (dTb hT)])
  ·rename_i hF2
   refine af (bj ag ?_);exact vIO (by unfold sgn;rw[if_neg (dFb hF),if_neg (dFb hF2)])
def qh:List U->Out->Prop:=λus o=>∃a b g s t:Int,us=[.int a,.int b]/\Sz 4000 a/\Sz 4000 b/\fN a b g s t/\o=.val (.tup [.int g,.int s,.int t])
theorem o4{a b g s t g' s' t':Int}(G:fN a b g s t)(G':fN a b g' s' t'):Out.val (.tup [.int g,.int s,.int t])=Out.val (.tup [.int g',.int s',.int t']):=by
 obtain⟨rfl,rfl,rfl⟩:=yh G G';rfl
theorem mT(T:Txt w K mg):bg P w K mg base (CXF P w) 2 T.aax.a T.aax.d ["a","b"] (spU K (qh)):=by
 refine be T.aax.F bG (λus o h=>?_) (λQ6 A outer s H E O us o hr h=>?_)
 ·obtain⟨a,b,g,s,t,rfl,sa,sb,G,rfl⟩:=h;rfl
 obtain⟨a,b,g,s,t,rfl,sa,sb,G,rfl⟩:=h;refine Ws.nox ?_;refine af (k_ (aI cB (aa 1 rfl) ag) (λhT=>?_) (λhF=>(aG ?_)))
 ·have hb:b=0:=dTb hT;subst hb;refine af (bj (bW (ay (av o9 rfl T.aaX PyProof.Rows.boot_abs (ah (aa 0 rfl) ao ai)) (ay (aH ((sJ T).mono (by decide)) hr rfl T.aaK.m T.aaK.F.kp T.aaK.b aD (ah (aa 0 rfl) ao ai) ⟨_,rfl,rfl⟩) (ay ag bA d4) de) de)) ?_)
  exact o4 (mL a) G
 ·have hb:b≠0:=dFb hF;have hp0:=iB hb;have sab:Sz 4000 (bY b):=Sz.abs sb;refine af (aE (i:=2) bG.nd rfl (Or.inl rfl) (av o9 rfl T.aaX PyProof.Rows.boot_abs (ah (aa 1 rfl) ao ai)) ?_);refine af (aE (i:=3) bG.nd rfl (Or.inl rfl) ag ?_);refine af (aE (i:=4) bG.nd rfl (Or.inl rfl) (dJ (aa 0 rfl) (aa 2 rfl) hp0) ?_);refine af (aE (i:=5) bG.nd rfl (Or.inl rfl) ag ?_);refine af (gG (λm:Int×Int×Int×Int=>[some (.val (.int a)),some (.val (.int b)),some (.val (.int m.1)),some (.val (.int m.2.1)),some (.val (.int m.2.2.1)),some (.val (.int m.2.2.2)),none,none,none,none]) (λn m=>n=m.2.2.1.toNat/\jC a b m.1 m.2.1 m.2.2.1 m.2.2.2) PassesOwn.never ?h0 ?hs)
  case h0=>exact⟨_,(_,_,_,_),⟨rfl,qw hb⟩,rfl,rfl,rfl,rfl,rfl,rfl,trivial⟩
  case hs=>
   rintro m ⟨high,ht,low,lt⟩ ⟨rfl,I⟩;dsimp only at I |-;have hl0:=I.lo0;have RC:=I.lolt;have sh:Sz 4000 high:=sb.natle I.hi;have sl:Sz 4000 low:=sh.natle (by lia)
   have slt:Sz 4000 lt:=sb.natle (EA I);refine⟨_,(aI sF (aa 4 rfl) ag),λh=>?_,λh ps Rh=>?_⟩
   ·have hl:low≠0:=nTb h;obtain⟨I2,less⟩:=tQ I hl;have Q4:(high-high/low*low).toNat<low.toNat:=by clear h;lia
    refine af (aE (i:=6) bG.nd rfl (Or.inl rfl) (dH (aa 2 rfl) (aa 4 rfl) (by walk_at"div")) ?_)
    have sf:Sz 4000 (high/low):=sh.ediv;refine af (aE (i:=7) bG.nd rfl (Or.inl rfl) (bm (aa 2 rfl) (bn (aa 6 rfl) (aa 4 rfl) (by walk_at"mul"))) ?_)
    refine af (aE (i:=8) bG.nd rfl (Or.inl rfl) (bm (aa 3 rfl) (bn (aa 6 rfl) (aa 5 rfl) (by walk_at"mul"))) ?_)
    refine af (aE (i:=2) bG.nd rfl (Or.inl rfl) (aa 4 rfl) ?_);refine af (aE (i:=3) bG.nd rfl (Or.inl rfl) (aa 5 rfl) ?_);refine af (aE (i:=4) bG.nd rfl (Or.inl rfl) (aa 7 rfl) ?_);refine af (aE (i:=5) bG.nd rfl (Or.inl rfl) (aa 8 rfl) (aG ?_));exact⟨_,(_,_,_,_),Q4,⟨rfl,I2⟩,rfl,rfl,rfl,rfl,rfl,rfl,trivial⟩
   ·have hl:low=0:=nFb h;subst hl;refine cE ?_ Rh;have G2:=xC hb I;obtain⟨g0,s0,s1⟩:=G2.nz hb;have hm:0<bY b/high:=by lia
    have hg:0<high:=I.hp
    have ss:Sz 4000 (ht%(bY b/high)):=by
     refine sb.natle ?_;have h1:bY b/high<=bY b:=ON _ (by lia)
     have h2:=du b;lia
    refine af (aE (i:=9) bG.nd rfl (Or.inl rfl) (dJ (aa 3 rfl) (dH (av o9 rfl T.aaX PyProof.Rows.boot_abs (ah (aa 1 rfl) ao ai)) (aa 2 rfl) ⟨hg,sh.mono (by decide)⟩) hm) ?_)
    refine af (bj (bW (ay (aa 2 rfl) (ay (aa 9 rfl) (ay (Df (bm (aa 2 rfl) (bn (aa 9 rfl) (aa 0 rfl) (Sz.ok ss sa (by decide)))) (aa 1 rfl) ⟨hb,sb.mono (by decide)⟩) bA bq) ai) ai)) ?_)
    exact o4 G2 G
abbrev mv(a b c d e f:Int):U:=.tup [.int a,.int b,.int c,.int d,.int e,.int f]
structure Mv(a b c d e f:Int):Prop where
 u:a*d-b*c=1\/a*d-b*c=-1
 a:Sz 30000 a
 b:Sz 30000 b
 c:Sz 30000 c
 d:Sz 30000 d
 e:Sz 30000 e
 f:Sz 30000 f
def qL:List U->Out->Prop:=λus o=>∃n:Int,us=[.int n]/\o=.val (.bl true)
theorem oH(T:Txt w K mg):bg P w K mg base (CXF P w) 1 T.aay.a T.aay.d ["thing"] (spU K (qL)):=by
 refine be T.aay.F oM (λus o h=>?_) (λQ6 A outer s H E O us o hr h=>?_)
 ·obtain⟨n,rfl,rfl⟩:=h;rfl
 obtain⟨n,rfl,rfl⟩:=h;refine Ws.nox ?_;refine af (bj (kX (av (cS (by intro _ h;cases h) (by walk_at"kit")) rfl T.aag IH (ah (aa 0 rfl) (ah (mV rfl T.aa1 boot_int) ao ai) ai)) (λhz=>(r8 (BI (av (cS (by intro _ h;cases h) (by walk_at"kit")) rfl T.aag IH (ah (aa 0 rfl) (ah (mV rfl T.aaY boot_bool) ao ai) ai)))))) ?_);exact rfl
def uZ:List U->Out->Prop:=λus o=>∃a b c d e f,us=[mv a b c d e f]/\Sz 30000 a/\Sz 30000 b/\Sz 30000 c/\Sz 30000 d/\o=.val (.int (a*d-b*c))
theorem t7(T:Txt w K mg):bg P w K mg base (CXF P w) 1 T.aaL.a T.aaL.d ["move"] (spU K (uZ)):=by
 refine be T.aaL.F zV (λus o h=>?_) (λQ6 A outer s H E O us o hr h=>?_)
 ·obtain⟨a,b,c,d,e,f,rfl,sa,sb,sc,sd,rfl⟩:=h;rfl
 obtain⟨a,b,c,d,e,f,rfl,sa,sb,sc,sd,rfl⟩:=h;refine Ws.nox ?_;refine af (bj (bm (bn (aB (aa 0 rfl) ag rfl rfl) (aB (aa 0 rfl) ag rfl rfl) (by walk_at"mul")) (bn (aB (aa 0 rfl) ag rfl rfl) (aB (aa 0 rfl) ag rfl rfl) (by walk_at"mul"))) ?_);exact rfl
def nM:List U->Out->Prop:=λus o=>∃a b c d e f,us=[mv a b c d e f]/\Mv a b c d e f/\o=.val (.bl true)
theorem qG(T:Txt w K mg):bg P w K mg base (CXF P w) 2 T.aaD.a T.aaD.d ["thing"] (spU K (nM)):=by
 refine be T.aaD.F kL (λus o h=>?_) (λQ6 A outer s H E O us o hr h=>?_)
 ·obtain⟨a,b,c,d,e,f,rfl,M,rfl⟩:=h;rfl
 obtain⟨a,b,c,d,e,f,rfl,M,rfl⟩:=h;refine Ws.nox ?_;refine af (bQ (Tw.t (A8 (iS (fY (av (cS (by intro _ h;cases h) rfl) rfl T.aag IH (ah (aa 0 rfl) (ah (mV rfl T.aaQ Nu) ao ai) ai)))) (λhz=>(ux (aI sF (av (bX rfl) rfl T.aak Gd (ah (aa 0 rfl) ao ai)) ag))))) rfl (aG ?_))
 refine af (bQ (iS (fY (av (DO rfl (bs:=[true,true,true,true,true,true])) rfl T.aa5 boot_all (ah (EvN.ev (eT  rfl (blk (ak ja) ["thing","number"] [1] rfl rfl rfl rfl (by decide+kernel)) (wV (aa 0 rfl)) (λ_ _ _ _=>br (i:=1) kL.nd rfl (Or.inl rfl)) (cX (by decide)) ?clen ?csz (λ_ _=>trivial) ?celt)) ao eI)))) rfl (aG ?_))
 case clen=>rfl
 case csz=>show 6<=sizeLine;decide
 case celt=>
  intro C s' H' fp i x y hx hy
  have k:∃n:Int,x=.int n/\y=.bl true:=by
   match i,hx,hy with
   |0,hx,hy=>cases hx;cases hy;exact⟨a,rfl,rfl⟩
   |1,hx,hy=>cases hx;cases hy;exact⟨b,rfl,rfl⟩
   |2,hx,hy=>cases hx;cases hy;exact⟨c,rfl,rfl⟩
   |3,hx,hy=>cases hx;cases hy;exact⟨d,rfl,rfl⟩
   |4,hx,hy=>cases hx;cases hy;exact⟨e,rfl,rfl⟩
   |5,hx,hy=>cases hx;cases hy;exact⟨f,rfl,rfl⟩
   |i+6,hx,hy=>cases hx
  obtain⟨n,rfl,rfl⟩:=k;exact (aH ((oH T).mono (by decide)) hr rfl T.aay.m T.aay.F.kp T.aay.b aD (ah (aa 1 rfl) ao ai) ⟨n,rfl,rfl⟩)
 refine af (bj (jn (Fc rfl rfl rfl) (aH ((t7 T).mono (by decide)) hr rfl T.aaL.m T.aaL.F.kp T.aaL.b aD (ah (aa 0 rfl) ao ai) ⟨a,b,c,d,e,f,rfl,M.a,M.b,M.c,M.d,rfl⟩) (bW (ay ag (ay (cq ag) bA j7) d4))) ?_)
 refine vB ?_;show inV (fl (.int (a*d-b*c))) ([U.int 1,.int (-1)].map fl)=_;rcases M.u with h |h <;>rw[h] <;>rfl
def vo:List U->Out->Prop:=λus o=>∃a b c d e f,us=[mv a b c d e f]/\Mv a b c d e f/\o=.val .non
theorem ik(T:Txt w K mg):bg P w K mg base (CXF P w) 3 T.aah.a T.aah.d ["thing"] (spU K (vo)):=by
 refine be T.aah.F nF (λus o h=>?_) (λQ6 A outer s H E O us o hr h=>?_)
 ·obtain⟨a,b,c,d,e,f,rfl,M,rfl⟩:=h;rfl
 obtain⟨a,b,c,d,e,f,rfl,M,rfl⟩:=h;refine Ws.nox ?_;refine af (bQ (iS (fY (aH ((qG T).mono (by decide)) hr rfl T.aaD.m T.aaD.F.kp T.aaD.b aD (ah (aa 0 rfl) ao ai) ⟨a,b,c,d,e,f,rfl,M,rfl⟩))) rfl (aG (aG ?_)))
 exact rfl
def pS:List U->Out->Prop:=λus o=>∃x y a b c d e f,us=[pt x y,mv a b c d e f]/\(Sz 30000 x/\Sz 30000 y/\Sz 30000 a/\Sz 30000 b/\Sz 30000 c/\Sz 30000 d)/\o=.val (pt (a*x+b*y) (c*x+d*y))
theorem vO(T:Txt w K mg):bg P w K mg base (CXF P w) 1 T.aaG.a T.aaG.d ["P","move"] (spU K (pS)):=by
 refine be T.aaG.F uE (λus o h=>?_) (λQ6 A outer s H E O us o hr h=>?_)
 ·obtain⟨x,y,a,b,c,d,e,f,rfl,⟨sx,sy,sa,sb,sc,sd⟩,rfl⟩:=h;rfl
 obtain⟨x,y,a,b,c,d,e,f,rfl,⟨sx,sy,sa,sb,sc,sd⟩,rfl⟩:=h;refine Ws.nox ?_;refine af (bj (bW (ay (bR (bn (aB (aa 1 rfl) ag rfl rfl) (aB (aa 0 rfl) ag rfl rfl) (by walk_at"mul")) (bn (aB (aa 1 rfl) ag rfl rfl) (aB (aa 0 rfl) ag rfl rfl) (by walk_at"mul"))) (ay (bR (bn (aB (aa 1 rfl) ag rfl rfl) (aB (aa 0 rfl) ag rfl rfl) (by walk_at"mul")) (bn (aB (aa 1 rfl) ag rfl rfl) (aB (aa 0 rfl) ag rfl rfl) (by walk_at"mul"))) bA bq) bq)) ?_);exact rfl
def rc:List U->Out->Prop:=λus o=>∃x y a b c d e f,us=[pt x y,mv a b c d e f]/\Mv a b c d e f/\Sz 30000 x/\Sz 30000 y/\o=.val (pt (a*x+b*y+e) (c*x+d*y+f))
theorem qb(T:Txt w K mg):bg P w K mg base (CXF P w) 4 T.aaF.a T.aaF.d ["P","move"] (spU K (rc)):=by
 refine be T.aaF.F pT (λus o h=>?_) (λQ6 A outer s H E O us o hr h=>?_)
 ·obtain⟨x,y,a,b,c,d,e,f,rfl,M,sx,sy,rfl⟩:=h;rfl
 obtain⟨x,y,a,b,c,d,e,f,rfl,M,sx,sy,rfl⟩:=h;refine Ws.nox ?_;refine af (wY (aH ((ik T).mono (by decide)) hr rfl T.aah.m T.aah.F.kp T.aah.b aD (ah (aa 1 rfl) ao ai) ⟨a,b,c,d,e,f,rfl,M,rfl⟩) ?_)
 refine af (aE (i:=2) pT.nd rfl (Or.inl rfl) (aH ((vO T).mono (by decide)) hr rfl T.aaG.m T.aaG.F.kp T.aaG.b aD (ah (aa 0 rfl) (ah (aa 1 rfl) ao ai) ai) ⟨x,y,a,b,c,d,e,f,rfl,⟨sx,sy,M.a,M.b,M.c,M.d⟩,rfl⟩) ?_)
 refine af (bj (bW (ay (bR (aB (aa 2 rfl) ag rfl rfl) (aB (aa 1 rfl) ag rfl rfl)) (ay (bR (aB (aa 2 rfl) ag rfl rfl) (aB (aa 1 rfl) ag rfl rfl)) bA bq) bq)) ?_);exact rfl
noncomputable def Dq(a b c d e f:Int):U:=
 mv ((a*d-b*c) *d) (-(a*d-b*c) *b) (-(a*d-b*c) *c) ((a*d-b*c) *a) (-((a*d-b*c) *d*e+-(a*d-b*c) *b*f)) (-(-(a*d-b*c) *c*e+(a*d-b*c) *a*f))
def vm:List U->Out->Prop:=λus o=>∃a b c d e f,us=[mv a b c d e f]/\Mv a b c d e f/\o=.val (Dq a b c d e f)
theorem p9(T:Txt w K mg):bg P w K mg base (CXF P w) 4 T.aaz.a T.aaz.d ["move"] (spU K (vm)):=by
 refine be T.aaz.F cR (λus o h=>?_) (λQ6 A outer s H E O us o hr h=>?_)
 ·obtain⟨a,b,c,d,e,f,rfl,M,rfl⟩:=h;rfl
 obtain⟨a,b,c,d,e,f,rfl,M,rfl⟩:=h;refine Ws.nox ?_;obtain⟨hd,sa,sb,sc,sd,se,sf⟩:=M;have M:Mv a b c d e f:=⟨hd,sa,sb,sc,sd,se,sf⟩;have sh:Sz 8 (a*d-b*c):=by rcases hd with h |h <;>rw[h] <;>decide
 refine af (wY (aH ((ik T).mono (by decide)) hr rfl T.aah.m T.aah.F.kp T.aah.b aD (ah (aa 0 rfl) ao ai) ⟨a,b,c,d,e,f,rfl,M,rfl⟩) ?_)
 refine af (aE (i:=1) cR.nd rfl (Or.inl rfl) (aH ((t7 T).mono (by decide)) hr rfl T.aaL.m T.aaL.F.kp T.aaL.b aD (ah (aa 0 rfl) ao ai) ⟨a,b,c,d,e,f,rfl,sa,sb,sc,sd,rfl⟩) ?_)
 refine af (aE (i:=2) cR.nd rfl (Or.inl rfl) (bn (aa 1 rfl) (aB (aa 0 rfl) ag rfl rfl) (by walk_at"mul")) ?_)
 refine af (aE (i:=3) cR.nd rfl (Or.inl rfl) (bn (cq (aa 1 rfl)) (aB (aa 0 rfl) ag rfl rfl) (by walk_at"mul")) ?_)
 refine af (aE (i:=4) cR.nd rfl (Or.inl rfl) (bn (cq (aa 1 rfl)) (aB (aa 0 rfl) ag rfl rfl) (by walk_at"mul")) ?_)
 refine af (aE (i:=5) cR.nd rfl (Or.inl rfl) (bn (aa 1 rfl) (aB (aa 0 rfl) ag rfl rfl) (by walk_at"mul")) ?_)
 refine af (bj (bW (ay (aa 2 rfl) (ay (aa 3 rfl) (ay (aa 4 rfl) (ay (aa 5 rfl) (ay (cq (bR (bn (aa 2 rfl) (aB (aa 0 rfl) ag rfl rfl) (by walk_at"mul")) (bn (aa 3 rfl) (aB (aa 0 rfl) ag rfl rfl) (by walk_at"mul")))) (ay (cq (bR (bn (aa 4 rfl) (aB (aa 0 rfl) ag rfl rfl) (by walk_at"mul")) (bn (aa 5 rfl) (aB (aa 0 rfl) ag rfl rfl) (by walk_at"mul")))) bA j7) j7) ai) ai) ai) ai)) ?_)
 exact rfl
theorem wA{a b g s t:Int}(G:fN a b g s t):g=((Jv a b:Nat):Int):=by
 have h1:g ∣ ((Jv a b:Nat):Int):=Nj G.da G.db
 have h2:((Jv a b:Nat):Int) ∣ g:=by
  rw[<-G.eq];exact JN (GH (Ki ..) (GK _ _)) (GH (J0 ..) (GK _ _))
 exact OM G.g0 (Int.natCast_nonneg _) h1 h2
theorem kP(a b:Int):∃s t,fN a b ((Jv a b:Nat):Int) s t:=by
 obtain⟨g,s,t,G⟩:=jX a b;have e:=wA G;subst e;exact⟨s,t,G⟩
theorem vV{a b g s t g' s' t':Int}(G:fN a b g s t)(gp:0<g)(G':fN (a/g) (b/g) g' s' t'):g'=1:=by
 obtain⟨a',ha⟩:=G.da;obtain⟨b',hb⟩:=G.db;have ea:a/g=a':=by rw[ha,HV _ (by lia)]
 have eb:b/g=b':=by rw[hb,HV _ (by lia)]
 rw[ea,eb]at G';have e:=G.eq
 have k1:s*a'+t*b'=1:=by
  have:g*(s*a'+t*b')=g*1:=by rw[ha,hb]at e;grind
  exact GL (by lia) this
 have d:g' ∣ 1:=by rw[<-k1];exact JN (GH G'.da (GK _ _)) (GH G'.db (GK _ _))
 have:=Int.le_of_dvd (by decide) d
 have h0:=G'.g0;rcases Hm h0 with h |h
 ·lia
 ·rw[<-h]at d;exact absurd (Oz.mp d) (by decide)
theorem u_{x0 y0 x1 y1 g s t:Int}(G:fN (x1-x0) (y1-y0) g s t)(h:g=0):x0=x1/\y0=y1:=by
 subst h;have h1:=Oz.mp G.da;have h2:=Oz.mp G.db;lia
structure A2(x0 y0 x1 y1:Int):Prop where
 s0:Sz 3000 x0
 t0:Sz 3000 y0
 s1:Sz 3000 x1
 t1:Sz 3000 y1
def qM:List U->Out->Prop:=λus o=>∃x0 y0 x1 y1 g s t:Int,us=[pt x0 y0,pt x1 y1]/\A2 x0 y0 x1 y1/\fN (x1-x0) (y1-y0) g s t/\o=.val (.int g)
theorem ku(T:Txt w K mg):bg P w K mg base (CXF P w) 3 T.aau.a T.aau.d ["P","Q"] (spU K (qM)):=by
 refine be T.aau.F yN (λus o h=>?_) (λQ6 A outer s H E O us o hr h=>?_)
 ·obtain⟨x0,y0,x1,y1,g,s,t,rfl,⟨s0,t0,s1,t1⟩,G,rfl⟩:=h;rfl
 obtain⟨x0,y0,x1,y1,g,s,t,rfl,⟨s0,t0,s1,t1⟩,G,rfl⟩:=h;refine Ws.nox ?_;refine af (bj (aB (aH ((mT T).mono (by decide)) hr rfl T.aax.m T.aax.F.kp T.aax.b aD (ah (bm (aB (aa 1 rfl) ag rfl rfl) (aB (aa 0 rfl) ag rfl rfl)) (ah (bm (aB (aa 1 rfl) ag rfl rfl) (aB (aa 0 rfl) ag rfl rfl)) ao bq) bq) ⟨_,_,g,s,t,rfl,by walk_at"szb",by walk_at"szb",G,rfl⟩) ag rfl rfl) ?_)
 exact rfl
def rH:List U->Out->Prop:=λus o=>∃x0 y0 x1 y1 g a b s t:Int,us=[pt x0 y0,pt x1 y1]/\A2 x0 y0 x1 y1/\fN (x1-x0) (y1-y0) g a b/\g≠0/\fN ((x1-x0)/g) ((y1-y0)/g) 1 s t/\
  o=.val (mv s t (-((y1-y0)/g)) ((x1-x0)/g) (-s*x0-t*y0) ((y1-y0)/g*x0-(x1-x0)/g*y0))
theorem yT(T:Txt w K mg):bg P w K mg base (CXF P w) 4 T.aaO.a T.aaO.d ["P","Q"] (spU K (rH)):=by
 refine be T.aaO.F dZ (λus o h=>?_) (λQ6 A outer s H E O us o hr h=>?_)
 ·obtain⟨x0,y0,x1,y1,g,a,b,s,t,rfl,two,G,gn,G1,rfl⟩:=h;rfl
 obtain⟨x0,y0,x1,y1,g,a,b,s,t,rfl,two,G,gn,G1,rfl⟩:=h;refine Ws.nox ?_;have gp:0<g:=by have:=G.g0;lia
 obtain⟨s0,t0,s1,t1⟩:=two;have two:A2 x0 y0 x1 y1:=⟨s0,t0,s1,t1⟩;have sx:Sz 3001 (x1-x0):=by walk_at"szb"
 have sy:Sz 3001 (y1-y0):=by walk_at"szb"
 obtain⟨sg,_,_⟩:=om G sx sy;have su:Sz 3001 ((x1-x0)/g):=sx.ediv;have sv:Sz 3001 ((y1-y0)/g):=sy.ediv;obtain⟨_,ss,st⟩:=om G1 su sv;refine af (aE (i:=2) dZ.nd rfl (Or.inl rfl) (aH ((ku T).mono (by decide)) hr rfl T.aau.m T.aau.F.kp T.aau.b aD (ah (aa 0 rfl) (ah (aa 1 rfl) ao ai) ai) ⟨x0,y0,x1,y1,g,a,b,rfl,two,G,rfl⟩) ?_)
 refine af (bQ (aI cB (aa 2 rfl) ag) (decide_eq_false gn) (aG ?_));refine af (aE (i:=3) dZ.nd rfl (Or.inl rfl) (dH (bm (aB (aa 1 rfl) ag rfl rfl) (aB (aa 0 rfl) ag rfl rfl)) (aa 2 rfl) ⟨gp,sg.mono (by decide)⟩) ?_)
 refine af (aE (i:=4) dZ.nd rfl (Or.inl rfl) (dH (bm (aB (aa 1 rfl) ag rfl rfl) (aB (aa 0 rfl) ag rfl rfl)) (aa 2 rfl) ⟨gp,sg.mono (by decide)⟩) ?_)
 refine af (aE (i:=5) dZ.nd rfl (Or.inl rfl) (aH ((mT T).mono (by decide)) hr rfl T.aax.m T.aax.F.kp T.aax.b aD (ah (aa 3 rfl) (ah (aa 4 rfl) ao ai) ai) ⟨_,_,1,s,t,rfl,su.mono (by decide),sv.mono (by decide),G1,rfl⟩) ?_)
 refine af (aE (i:=6) dZ.nd rfl (Or.inl rfl) (aB (aa 5 rfl) ag rfl rfl) ?_);refine af (aE (i:=7) dZ.nd rfl (Or.inl rfl) (aB (aa 5 rfl) ag rfl rfl) ?_);refine af (bj (bW (ay (aa 6 rfl) (ay (aa 7 rfl) (ay (cq (aa 4 rfl)) (ay (aa 3 rfl) (ay (bm (bn (cq (aa 6 rfl)) (aB (aa 0 rfl) ag rfl rfl) (by walk_at"mul")) (bn (aa 7 rfl) (aB (aa 0 rfl) ag rfl rfl) (by walk_at"mul"))) (ay (bm (bn (aa 4 rfl) (aB (aa 0 rfl) ag rfl rfl) (by walk_at"mul")) (bn (aa 3 rfl) (aB (aa 0 rfl) ag rfl rfl) (by walk_at"mul"))) bA bq) bq) ai) j7) ai) ai)) ?_)
 exact rfl
abbrev Pt:=Int×Int
def plt(p q:Pt):Prop:=p.1<q.1\/(p.1=q.1/\p.2<q.2)
def ae(a b p:Pt):Int:=(b.1-a.1) *(p.2-a.2)-(b.2-a.2) *(p.1-a.1)
theorem aM{a b c:Pt}(h1:plt a b)(h2:plt b c):plt a c:=by unfold plt at *;lia
theorem a_(a:Pt):¬ plt a a:=by unfold plt;lia
theorem cZ(a b:Pt):plt a b\/a=b\/plt b a:=by
 unfold plt;by_cases h1:a.1=b.1
 ·by_cases h2:a.2=b.2
  ·exact .inr (.inl (GU h1 h2))
  ·lia
 ·lia
def bu(x y:Int):Prop:=0<x\/(x=0/\0<y)
theorem au{a b:Pt}(h:plt a b):bu (b.1-a.1) (b.2-a.2):=by unfold plt bu at *;lia
theorem dq{u1 u2 v1 v2 w1 w2:Int}(hu:bu u1 u2)(hv:bu v1 v2)(hw:bu w1 w2)(h1:0<=u1*v2-u2*v1)(h2:0<=v1*w2-v2*w1):0<=u1*w2-u2*w1:=by
 unfold bu at *;by_cases hv1:v1=0
 ·subst hv1;have Ux:0<v2:=by lia
  have hw1:w1=0:=by
   have:v2*w1<=0:=by rw[IG]at h2;lia
   by_cases hz:0<w1
   ·have:=Gi Ux hz;lia
   ·lia
  subst hw1;have hw2:0<w2:=by lia
  have:=FQ (show 0<=u1 by lia) (show 0<=w2 by lia)
  simp;lia
 ·have hv':0<v1:=by lia
  have e:v1*(u1*w2-u2*w1)=u1*(v1*w2-v2*w1)+w1*(u1*v2-u2*v1):=by grind
  have p1:=FQ (show 0<=u1 by lia) h2
  have p2:=FQ (show 0<=w1 by lia) h1
  have:0<=v1*(u1*w2-u2*w1):=by lia
  exact II this hv'
theorem dW{u1 u2 v1 v2 w1 w2:Int}(hu:bu u1 u2)(hv:bu v1 v2)(hw:bu w1 w2)(h1:0<u1*v2-u2*v1)(h2:0<=v1*w2-v2*w1):0<u1*w2-u2*w1:=by
 unfold bu at *;by_cases hv1:v1=0
 ·subst hv1;have Ux:0<v2:=by lia
  have hw1:w1=0:=by
   have:v2*w1<=0:=by rw[IG]at h2;lia
   by_cases hz:0<w1
   ·have:=Gi Ux hz;lia
   ·lia
  subst hw1;have hw2:0<w2:=by lia
  have Q8:0<u1:=by
   rcases hu with h |⟨h,_⟩
   ·exact h
   ·subst h;simp at h1
  have:=Gi Q8 hw2;simp;lia
 ·have hv':0<v1:=by lia
  have e:v1*(u1*w2-u2*w1)=u1*(v1*w2-v2*w1)+w1*(u1*v2-u2*v1):=by grind
  have p1:=FQ (show 0<=u1 by lia) h2
  by_cases hw1:w1=0
  ·subst hw1;have hw2:0<w2:=by lia
   have Q8:0<u1:=by
    rcases hu with h |⟨h,h'⟩
    ·exact h
    ·subst h;have:=Gi h' hv';simp at h1;lia
   have:=Gi Q8 hw2;simp;lia
  ·have p2:=Gi (show 0<w1 by lia) h1
   have:0<v1*(u1*w2-u2*w1):=by lia
   exact HW this (by lia)
def eF:List Pt->Prop
 |b::a::r=>plt a b/\eF (a::r)
 |_=>True
def jp:List Pt->Prop
 |c::b::a::r=>0<ae a b c/\jp (b::a::r)
 |_=>True
def gr(done:List Pt):List Pt->Prop
 |b::a::r=>(∀q∈done,0<=ae a b q)/\gr done (a::r)
 |_=>True
theorem jp.tail:∀{b:Pt}{st:List Pt},jp (b::st)->jp st
 |_,[],_=>trivial
 |_,[_],_=>trivial
 |_,_::_::_,h=>h.2
theorem eF.tail:∀{b:Pt}{st:List Pt},eF (b::st)->eF st
 |_,[],_=>trivial
 |_,_::_,h=>h.2
theorem gr.tail{done:List Pt}:∀{b:Pt}{st:List Pt},gr done (b::st)->gr done st
 |_,[],_=>trivial
 |_,_::_,h=>h.2
def aR(P:Pt):List Pt->List Pt
 |b::a::r=>if ae a b P<=0 then aR P (a::r) else b::a::r
 |st=>st
def aj(row:List Pt):List Pt:=row.foldl (λst P=>P::aR P st) []
structure Kept(done st:List Pt):Prop where
 ne:st≠[]
 desc:eF st
 turns:jp st
 cover:gr done st
 sub:∀p∈st,p∈done
structure vE(done st:List Pt)(P:Pt):Prop extends Kept done st where
 pend:∀h r,st=h::r->∀q∈done,plt h q->0<=ae h P q
theorem vf{done:List Pt}{P b a:Pt}{r:List Pt}(hP:∀q∈done,plt q P)(D:vE done (b::a::r) P)(h:ae a b P<=0):vE done (a::r) P:=by
 refine⟨⟨by simp,D.desc.tail,D.turns.tail,D.cover.tail,λp hp=>D.sub p (Fn _ hp)⟩,?_⟩
 intro h' r' e q hq Q4;cases e;have R7:=D.desc.1;have Rb:=D.cover.1 q hq;have hbP:=hP b (D.sub b Fv);have hqP:=hP q hq;rcases cZ q b with z |z |z
 ·have l1:=au Q4;have l2:=au R7;have l3:=au (aM R7 hbP);have:=dq (u1:=P.1-a.1) (u2:=P.2-a.2) (v1:=b.1-a.1) (v2:=b.2-a.2) (w1:=q.1-a.1) (w2:=q.2-a.2) l3 l2 l1 (by unfold ae at h;grind) (by unfold ae at Rb;grind)
  unfold ae;grind
 ·subst z;unfold ae at *;grind
 ·have p:=D.pend b _ rfl q hq z;unfold ae at *;grind
theorem oD{done:List Pt}{P:Pt}(hP:∀q∈done,plt q P):∀st:List Pt,vE done st P->vE done (aR P st) P/\(∀b a r,aR P st=b::a::r->0<ae a b P)/\(st.getLast?=(aR P st).getLast?)
 |[],D=>absurd rfl D.ne
 |[b],D=>⟨D,λ_ _ _ e=>by simp[aR]at e,rfl⟩
 |b::a::r,D=>by
  by_cases h:ae a b P<=0
  ·rw[aR,if_pos h];obtain⟨h1,h2,h3⟩:=oD hP (a::r) (vf hP D h);exact⟨h1,h2,by rw[<-h3];simp⟩
  ·rw[aR,if_neg h];refine⟨D,λb' a' r' e=>?_,rfl⟩
   cases e;lia
theorem uY{done st:List Pt}{P:Pt}(hP:∀q∈done,plt q P)(D:vE done st P)(ht:∀b a r,st=b::a::r->0<ae a b P)(hmin:∀x,st=[x]->∀q∈done,q=x\/plt x q):Kept (done++[P]) (P::st):=by
 have up:∀(b:Pt) (r:List Pt),eF (b::r)->jp (b::r)->gr done (b::r)->plt b P->(∀a r',r=a::r'->0<=ae a b P)->gr (done++[P]) (b::r):=by
  intro b r
  induction r generalizing b with
  |nil=>intro _ _ _ _ _;trivial
  |cons a r ih=>
   intro hd htn hc hbP hl;refine⟨λq hq=>?_,?_⟩
   ·rcases FB.mp hq with z |z
    ·exact hc.1 q z
    ·rw[Fy.mp z];exact hl a r rfl
   ·refine ih a hd.tail htn.tail hc.tail (aM hd.1 hbP) (λc r' e=>?_)
    subst e;have t:=htn.1;have g:=hl a _ rfl;have l1:=au hd.2.1;have l2:=au hd.1;have l3:=au (aM hd.1 hbP);have:=dq (u1:=a.1-c.1) (u2:=a.2-c.2) (v1:=b.1-a.1) (v2:=b.2-a.2) (w1:=P.1-a.1) (w2:=P.2-a.2) l1 l2 l3 (by unfold ae at t;grind) (by unfold ae at g;grind)
    unfold ae;grind
 obtain⟨h,r,e⟩:∃h r,st=h::r:=by
  cases RB:st with
  |nil=>exact absurd RB D.ne
  |cons h r=>exact⟨h,r,rfl⟩
 subst e;have hhP:=hP h (D.sub h Fv);refine⟨by simp,⟨hhP,D.desc⟩,?_,⟨λq hq=>?_,?_⟩,λp hp=>?_⟩
 ·cases r with
  |nil=>trivial
  |cons a r'=>exact⟨ht h a r' rfl,D.turns⟩
 ·rcases FB.mp hq with z |z
  ·rcases cZ q h with y |y |y
   ·cases r with
    |nil=>
     rcases hmin h rfl q z with w |w
     ·subst w;exact absurd y (a_ _)
     ·exact absurd (aM y w) (a_ _)
    |cons a r'=>
     have t:=ht h a r' rfl;have c:=D.cover.1 q z;have l1:=au D.desc.1;have l2:=au y;have l3:=au hhP;have:=dq (u1:=h.1-q.1) (u2:=h.2-q.2) (v1:=h.1-a.1) (v2:=h.2-a.2) (w1:=P.1-h.1) (w2:=P.2-h.2) l2 l1 l3 (by unfold ae at c;grind) (by unfold ae at t;grind)
     unfold ae;grind
   ·subst y;unfold ae;grind
   ·exact D.pend h r rfl q z y
  ·rw[Fy.mp z];unfold ae;grind
 ·exact up h r D.desc D.turns D.cover hhP (λa r' e=>OA (ht h a r' (by rw[e])))
 ·rcases Fw.mp hp with z |z
  ·subst z;exact FG _ Fv
  ·exact FJ _ (D.sub p z)
theorem ko(row:List Pt)(P:Pt):aj (row++[P])=P::aR P (aj row):=by
 unfold aj;rw[J1];rfl
theorem lc{row:List Pt}(hs:row.Pairwise plt):∀n,0<n->n<=row.length->Kept (row.take n) (aj (row.take n))/\(aj (row.take n)).getLast?=row.head?/\(aj (row.take n)).head?=row[n-1]?
 |0,h,_=>absurd h (by decide)
 |1,_,h=>by
  cases row with
  |nil=>simp at h
  |cons a r=>
   simp only[LF,NF];exact⟨⟨by simp[aj],trivial,trivial,trivial,λp hp=>by simpa [aj,aR] using hp⟩,rfl,rfl⟩
 |n+2,_,h=>by
  obtain⟨K,hl,hh⟩:=lc hs (n+1) (by lia) (by lia)
  have hn:n+1<row.length:=by lia
  have et:row.take (n+2)=row.take (n+1)++[row[n+1]]:=by rw[Jm hn]
  have hP:∀q∈row.take (n+1),plt q row[n+1]:=λq hq=>by
   obtain⟨i,hi,e⟩:=Kc.mp hq;subst e;exact FO.mp hs i (n+1) (by lia) hn (by lia)
  have D:vE (row.take (n+1)) (aj (row.take (n+1))) row[n+1]:=⟨K,λh' r e q hq Q4=>by
   exfalso
   rw[e]at hh;simp only[Pg,Oc]at hh;have hn':n<row.length:=by lia
   rw[Fj hn']at hh;have hh':=Gv hh;obtain⟨i,hi,e2⟩:=Kc.mp hq;subst e2;rw[hh']at Q4;rcases G7 i n with z |z
   ·exact a_ _ (aM Q4 (FO.mp hs i n (by lia) hn' z))
   ·have:i=n:=by lia
    subst this;exact a_ _ Q4⟩
  obtain⟨D2,ht,Rn⟩:=oD hP _ D;rw[et,ko];refine⟨uY hP D2 ht (λx e q hq=>?_),?_,?_⟩
  ·rw[e,hl]at Rn;simp at Rn;obtain⟨i,hi,e2⟩:=Kc.mp hq;have h0:0<row.length:=by lia
   have e3:row[0]=x:=by
    rw[Hi,Fj h0]at Rn;exact Gv Rn
   subst e2;rcases Kz i with z |z
   ·subst z;exact .inl e3
   ·right;rw[<-e3];exact FO.mp hs 0 i h0 (by lia) z
  ·rw[List.getLast?_cons,<-Rn,hl];cases row with
   |nil=>simp at hn
   |cons a r=>rfl
  ·simp only[Pg,Oc];rw[show n+2-1=n+1 by lia,Fj hn]
theorem b7{row:List Pt}(hs:row.Pairwise plt)(h:row≠[]):Kept row (aj row)/\(aj row).getLast?=row.head?/\(aj row).head?=row.getLast?:=by
 have h0:0<row.length:=G0.mpr h;obtain⟨h1,h2,h3⟩:=lc hs row.length h0 (Fu _);rw[Hv]at h1 h2 h3;exact⟨h1,h2,by rw[h3,GM]⟩
theorem jG{u1 u2 v1 v2 w1 w2:Int}(hu:bu u1 u2)(hv:bu v1 v2)(hw:bu w1 w2)(h1:0<=u1*v2-u2*v1)(h2:0<v1*w2-v2*w1):0<u1*w2-u2*w1:=by
 unfold bu at *;by_cases hv1:v1=0
 ·subst hv1;have Ux:0<v2:=by lia
  have:=FQ (show 0<=v2 by lia) (show 0<=w1 by lia)
  simp at h2;lia
 ·have hv':0<v1:=by lia
  have Q8:0<u1:=by
   rcases hu with h |⟨h,h'⟩
   ·exact h
   ·subst h;have:=Gi h' hv';simp at h1;lia
  have e:v1*(u1*w2-u2*w1)=u1*(v1*w2-v2*w1)+w1*(u1*v2-u2*v1):=by grind
  have p1:=Gi Q8 h2;have p2:=FQ (show 0<=w1 by lia) h1
  have q:0<v1*(u1*w2-u2*w1):=by lia
  exact HW q hv'
def low(row:List Pt)(p:Pt):Prop:=∀a∈row,∀b∈row,plt a p->plt p b->0<ae a p b
theorem BK{row:List Pt}{p:Pt}:∀(st:List Pt) (n:Pt),eF (n::st)->jp (n::st)->gr row (n::st)->p∈st->(∀l,(n::st).getLast?=some l->plt l p)->
  ∃n' q,0<ae q p n'/\plt q p/\plt p n'/\(∀x∈row,0<=ae p n' x)/\(∀x∈row,0<=ae q p x)
 |[],n,_,_,_,hp,_=>by simp at hp
 |h::r,n,D,T,C,hp,hl=>by
  by_cases e:h=p
  ·subst e;cases r with
   |nil=>exact absurd (hl h (by simp)) (a_ h)
   |cons q r'=>exact⟨n,q,T.1,D.2.1,D.1,C.1,C.2.1⟩
  ·have RO:p∈r:=by
    rcases Fw.mp hp with z |z
    ·exact absurd z.symm e
    ·exact z
   exact BK r h D.tail T.tail C.tail RO (λl Rc=>hl l (by rw[Gy];exact Rc))
theorem m8{row:List Pt}(hs:row.Pairwise plt){p:Pt}(hp:p∈aj row):low row p:=by
 intro a ha b hb hap T8;have Q1:row≠[]:=λz=>by rw[z]at ha;simp at ha
 obtain⟨K,Rn,SF⟩:=b7 hs Q1
 have mn:∀x∈row,∀m,row.head?=some m->x=m\/plt m x:=λx hx m hm=>by
  cases row with
  |nil=>simp at hx
  |cons y r=>
   cases hm;rcases Fw.mp hx with z |z
   ·exact .inl z
   ·exact .inr ((Gg.mp hs).1 x z)
 have mx:∀x∈row,∀m,row.getLast?=some m->x=m\/plt x m:=λx hx m hm=>by
  obtain⟨i,hi⟩:=GZ.mp hx;have hil:=(FA.mp hi).1;rw[GM]at hm;have hml:=(FA.mp hm).1;rcases F2 (show i<=row.length-1 by lia) with z |z
  ·right
   have h1:=FO.mp hs i (row.length-1) hil hml z;rw[(FA.mp hi).2,(FA.mp hm).2]at h1;exact h1
  ·left;rw[z,hm]at hi;exact (Gv hi).symm
 cases RB:aj row with
 |nil=>exact absurd RB K.ne
 |cons n st=>
  rw[RB]at K Rn SF hp;have hn:row.getLast?=some n:=by rw[<-SF];rfl
  have hpn:p∈st:=by
   rcases Fw.mp hp with z |z
   ·rcases mx b hb n hn with y |y
    ·rw[y,<-z]at T8;exact absurd T8 (a_ p)
    ·rw[z]at T8;exact absurd (aM T8 y) (a_ n)
   ·exact z
  obtain⟨n',q,t,qp,pn,c1,c2⟩:=BK st n K.desc K.turns K.cover hpn (λl hl=>by
   rw[Rn]at hl;rcases mn a ha l hl with y |y
   ·rw[<-y];exact hap
   ·exact aM y hap)
  have g1:=c2 a ha;have g2:=c1 b hb;unfold ae at *;have k1:0<=(p.1-a.1) *(p.2-q.2)-(p.2-a.2) *(p.1-q.1):=by grind
  have k2:0<(p.1-q.1) *(n'.2-p.2)-(p.2-q.2) *(n'.1-p.1):=by grind
  have k3:0<=(n'.1-p.1) *(b.2-p.2)-(n'.2-p.2) *(b.1-p.1):=by grind
  have k4:=dW (au qp) (au pn) (au T8) k2 k3;have k5:=jG (au hap) (au qp) (au T8) k1 k4;grind
theorem xP{row:List Pt}{p:Pt}:∀(st:List Pt) (h:Pt),eF (h::st)->gr row (h::st)->p∈row->p ∉ h::st->plt p h->(∀l,(h::st).getLast?=some l->plt l p)->∃a∈h::st,∃b∈h::st,plt a p/\plt p b/\0<=ae a b p
 |[],h,_,_,_,_,hp,hl=>absurd (aM hp (hl h (by simp))) (a_ p)
 |a::r,h,D,C,hr,RV,hp,hl=>by
  rcases cZ p a with z |z |z
  ·obtain⟨x,hx,y,hy,k⟩:=xP r a D.tail C.tail hr (λw=>RV (Fn _ w)) z (λl Rc=>hl l (by rw[Gy];exact Rc))
   exact⟨x,Fn _ hx,y,Fn _ hy,k⟩
  ·exact absurd (by rw[z];simp) RV
  ·exact⟨a,by simp,h,by simp,z,hp,C.1 p hr⟩
theorem gap{row:List Pt}(hs:row.Pairwise plt){p:Pt}(hp:p∈row)(RV:p ∉ aj row):∃a∈aj row,∃b∈aj row,plt a p/\plt p b/\ae a p b<=0:=by
 have Q1:row≠[]:=λz=>by rw[z]at hp;simp at hp
 obtain⟨K,Rn,SF⟩:=b7 hs Q1;cases RB:aj row with
 |nil=>exact absurd RB K.ne
 |cons n st=>
  rw[RB]at K Rn SF RV;have hn:row.getLast?=some n:=by rw[<-SF];rfl
  have pn:plt p n:=by
   obtain⟨i,hi⟩:=GZ.mp hp;have hil:=(FA.mp hi).1;rw[GM]at hn;have hml:=(FA.mp hn).1;rcases F2 (show i<=row.length-1 by lia) with z |z
   ·have h1:=FO.mp hs i (row.length-1) hil hml z;rw[(FA.mp hi).2,(FA.mp hn).2]at h1;exact h1
   ·rw[z,hn]at hi;exact absurd (by rw[<-Gv hi];simp) RV
  obtain⟨a,ha,b,hb,k1,k2,k3⟩:=xP st n K.desc K.cover hp RV pn (λl hl=>by
   have Rc:=hl;rw[Rn]at hl;cases row with
   |nil=>simp at hp
   |cons y r=>
    cases hl;rcases Fw.mp hp with z |z
    ·exact absurd (by rw[z];exact IP Rc) RV
    ·exact (Gg.mp hs).1 p z)
  refine⟨a,ha,b,hb,k1,k2,?_⟩;unfold ae at *;grind
theorem vJ{row RJ:List Pt}(hs:row.Pairwise plt)(Tf:RJ.Pairwise plt)(h1:∀p∈RJ,p∈row)(h2:∀p∈aj row,p∈RJ)(sub:∀(r:List Pt) (q:Pt),q∈aj r->q∈r)(p:Pt):p∈aj RJ↔p∈aj row:=by
 constructor
 ·intro hp;refine Gn λRV=>?_
  obtain⟨a,ha,b,hb,k1,k2,k3⟩:=gap hs (h1 p (sub _ _ hp)) RV;have:=m8 Tf hp a (h2 a ha) b (h2 b hb) k1 k2;lia
 ·intro hp;refine Gn λRV=>?_
  obtain⟨a,ha,b,hb,k1,k2,k3⟩:=gap Tf (h2 p hp) RV;have:=m8 hs hp a (h1 a (sub _ _ ha)) b (h1 b (sub _ _ hb)) k1 k2;lia
abbrev Szp(m:Nat)(p:P2):Prop:=Sz m p.1/\Sz m p.2
theorem tm(b:P2)(r:List P2):atI ((b::r).reverse.map pu) (-1)=some (pu b):=by
 have h:ixN ((b::r).reverse.map pu).length (-1)=some r.length:=by
  unfold ixN;simp;lia
 unfold atI;rw[h];simp
theorem tH(b a:P2)(r:List P2):atI ((b::a::r).reverse.map pu) (-2)=some (pu a):=by
 have h:ixN ((b::a::r).reverse.map pu).length (-2)=some r.length:=by
  unfold ixN;simp;lia
 unfold atI;rw[h];simp
theorem jL(P:P2):∀st:List P2,(aR P st).length<=st.length
 |[]=>Fu _
 |[_]=>Fu _
 |b::a::r=>by
  unfold aR;split
  ·have:=jL P (a::r);simp only[F8]at *;lia
  ·exact Fu _
theorem ut(P:P2):∀(st:List P2) (q:P2),q∈aR P st->q∈st
 |[],_,h=>h
 |[_],_,h=>h
 |b::a::r,q,h=>by
  unfold aR at h;split at h
  ·exact Fn _ (ut P (a::r) q h)
  ·exact h
theorem fD{row:List P2}{i:Nat}{P:P2}(h:row[i]?=some P):aj (row.take (i+1))=P::aR P (aj (row.take i)):=by
 rw[IB,h];exact ko _ _
theorem gM(row:List P2):∀i,(aj (row.take i)).length<=i
 |0=>by simp[aj]
 |i+1=>by
  have ih:=gM row i;cases h:row[i]? with
  |none=>rw[IB,h];simp;lia
  |some P=>
   rw[fD h];have:=jL P (aj (row.take i));simp only[F8];lia
theorem fg(row:List P2):∀i q,q∈aj (row.take i)->q∈row
 |0,q,h=>by simp[aj]at h
 |i+1,q,h=>by
  cases hi:row[i]? with
  |none=>rw[IB,hi]at h;exact fg row i q (by simpa using h)
  |some P=>
   rw[fD hi]at h;rcases Fw.mp h with e |e
   ·rw[e];exact FD hi
   ·exact fg row i q (ut P _ q e)
theorem xm(n:Int):decide (sgn n<1)=decide (n<=0):=by
 have h:sgn n<1↔n<=0:=by
  unfold sgn;split
  ·lia
  ·split <;>lia
 exact decide_eq_decide.mpr h
theorem i_(l:List P2):ig (l.map pu) none (some (-1))=l.dropLast.map pu:=by
 unfold ig HT.sIx;rw[Mj,List.dropLast_eq_take];simp
 try lia
noncomputable def am(pts:List P2):List P2:=if (ST.srt pts).length=1 then ST.srt pts else (aj (ST.srt pts)).reverse.dropLast++(aj (ST.srt pts).reverse).reverse.dropLast
theorem cF(a b:Pt):plt a b↔ST.ltP a b=true:=by unfold plt ST.ltP;simp
theorem ix{l:List Pt}:ST.Asc l↔l.Pairwise plt:=⟨λh=>h.imp λ{a b} k=>(cF a b).mpr k,λh=>h.imp λ{a b} k=>(cF a b).mp k⟩
theorem i9:∀{st:List Pt},eF st->st.Pairwise (λx y=>plt y x)
 |[],_=>JR
 |[_],_=>by simp
 |b::a::r,h=>by
  have ih:=i9 h.2;refine Gg.mpr ⟨λx hx=>?_,ih⟩
  rcases Fw.mp hx with z |z
  ·rw[z];exact h.1
  ·exact aM ((Gg.mp ih).1 x z) h.1
theorem bN(row:List Pt)(q:Pt)(h:q∈aj row):q∈row:=by
 have:=fg row row.length q;rw[Hv]at this;exact this h
theorem dQ{row:List Pt}(hs:row.Pairwise plt):ST.Asc (aj row).reverse:=by
 by_cases Q1:row=[]
 ·subst Q1;exact JR
 ·exact ix.mpr (HU.mpr (i9 (b7 hs Q1).1.desc))
theorem pM{row RJ:List Pt}(hs:row.Pairwise plt)(Tf:RJ.Pairwise plt)(h1:∀p∈RJ,p∈row)(h2:∀p∈aj row,p∈RJ):aj RJ=aj row:=by
 have e:=ST.asc_one (dQ Tf) (dQ hs) λz=>by
  rw[FM,FM];exact vJ hs Tf h1 h2 bN z
 exact List.reverse_inj.mp e
def ng(p:Pt):Pt:=(-p.1,-p.2)
theorem g9(p:Pt):ng (ng p)=p:=by unfold ng;simp
theorem CL(l:List Pt):(l.map ng).map ng=l:=by
 rw[F5,show ng ∘ ng=id from funext g9,QM]
theorem j9(a b c:Pt):ae (ng a) (ng b) (ng c)=ae a b c:=by unfold ae ng;grind
theorem lg{a b:Pt}(h:plt a b):plt (ng b) (ng a):=by unfold plt ng at *;simp;lia
theorem yJ(P:Pt):∀st:List Pt,aR (ng P) (st.map ng)=(aR P st).map ng
 |[]=>rfl
 |[_]=>rfl
 |b::a::r=>by
  show aR (ng P) (ng b::ng a::r.map ng)=_;unfold aR;rw[j9];split
  ·exact yJ P (a::r)
  ·rfl
theorem gw:∀row:List Pt,aj (row.map ng)=(aj row).map ng:=λrow=>by
 have key:∀(l:List Pt) (st:List Pt),(l.map ng).foldl (λst P=>P::aR P st) (st.map ng)=(l.foldl (λst P=>P::aR P st) st).map ng:=by
  intro l
  induction l with
  |nil=>intro st;rfl
  |cons p r ih=>
   intro st;rw[FU,Ic,Ic,yJ];exact ih (p::aR p st)
 exact key row []
theorem cU{row:List Pt}(hs:row.Pairwise plt):(row.reverse.map ng).Pairwise plt:=by
 rw[Gb,HU];exact hs.imp λ{a b} h=>lg h
theorem bU(row:List Pt):aj row.reverse=(aj (row.reverse.map ng)).map ng:=by rw[gw,CL]
theorem m7{row RJ:List Pt}(hs:row.Pairwise plt)(Tf:RJ.Pairwise plt)(h1:∀p∈RJ,p∈row)(h2:∀p∈aj row.reverse,p∈RJ):aj RJ.reverse=aj row.reverse:=by
 rw[bU row,bU RJ];congr 1;refine pM (cU hs) (cU Tf) (λp hp=>?_) (λp hp=>?_)
 ·obtain⟨q,hq,rfl⟩:=Fs.mp hp;exact Fs.mpr ⟨q,FM.mpr (h1 q (FM.mp hq)),rfl⟩
 ·rw[gw]at hp;obtain⟨q,hq,rfl⟩:=Fs.mp hp;exact Fs.mpr ⟨q,FM.mpr (h2 q hq),rfl⟩
theorem ends{row:List Pt}(hs:row.Pairwise plt)(h2:2<=row.length):∃mn mx t1 t2,aj row=mx::t1/\aj row.reverse=mn::t2/\mn∈t1/\mx∈t2/\(∀p∈row,p=mn\/plt mn p)/\(∀p∈row,p=mx\/plt p mx)/\mn∈row/\mx∈row:=by
 have Q1:row≠[]:=λz=>by rw[z]at h2;simp at h2
 obtain⟨K,hl,hh⟩:=b7 hs Q1;have hneR:row.reverse.map ng≠[]:=by simpa using Q1
 obtain⟨KR,hlR,hhR⟩:=b7 (cU hs) hneR;have e1:row.head?=some row[0]:=by rw[Hi];exact Fj (by lia)
 have e2:row.getLast?=some row[row.length-1]:=by rw[GM];exact Fj (by lia)
 have l01:plt row[0] row[row.length-1]:=FO.mp hs 0 (row.length-1) (by lia) (by lia) (by lia)
 have mnA:∀p∈row,p=row[0]\/plt row[0] p:=λp hp=>by
  obtain⟨i,hi,rfl⟩:=NB.mp hp;rcases Kz i with z |z
  ·left;subst z;rfl
  ·right;exact FO.mp hs 0 i (by lia) hi z
 have mxA:∀p∈row,p=row[row.length-1]\/plt p row[row.length-1]:=λp hp=>by
  obtain⟨i,hi,rfl⟩:=NB.mp hp;rcases F2 (show i<=row.length-1 by lia) with z |z
  ·right;exact FO.mp hs i (row.length-1) hi (by lia) z
  ·left;subst z;rfl
 have ne:row[0]≠row[row.length-1]:=λz=>by rw[z]at l01;exact a_ _ l01
 generalize row[0]=mn at *;generalize row[row.length-1]=mx at *;have mmn:mn∈row:=Ou e1;have mmx:mx∈row:=IP e2;rw[e1]at hl;rw[e2]at hh
 have TN:(aj row.reverse).getLast?=some mx:=by
  rw[bU,K5,hlR,L3,KC,e2];simp[g9]
 have Ug:(aj row.reverse).head?=some mn:=by
  rw[bU,L3,hhR,K5,JO,e1];simp[g9]
 cases hb:aj row with
 |nil=>rw[hb]at hh;cases hh
 |cons x t1=>
  rw[hb]at hh hl;cases hh;cases hbR:aj row.reverse with
  |nil=>rw[hbR]at Ug;cases Ug
  |cons y t2=>
   rw[hbR]at Ug TN;cases Ug;refine⟨_,_,t1,t2,rfl,rfl,?_,?_,mnA,mxA,mmn,mmx⟩
   ·cases t1 with
    |nil=>simp at hl;exact absurd hl.symm ne
    |cons z r=>rw[Gy]at hl;exact IP hl
   ·cases t2 with
    |nil=>simp at TN;exact absurd TN ne
    |cons z r=>rw[Gy]at TN;exact IP TN
theorem yW(st:List Pt):st.reverse.dropLast=st.tail.reverse:=by
 cases st with
 |nil=>rfl
 |cons h t=>simp
theorem gJ{l:List Pt}:l.reverse.Nodup↔l.Nodup:=by
 unfold List.Nodup;rw[HU];exact⟨λh=>h.imp λk=>Ne.symm k,λh=>h.imp λk=>Ne.symm k⟩
theorem c_:∀{l m:List Pt},l.Nodup->(∀x∈l,x∈m)->l.length<=m.length
 |[],_,_,_=>GN _
 |x::l,m,h,hs=>by
  obtain⟨h1,h2⟩:=HG.mp h;have hx:x∈m:=hs x Fv;have ih:=c_ (m:=m.erase x) h2 λy hy=>(Lv (λe=>h1 (by rw[<-e];exact hy))).mpr (hs y (Fn _ hy))
  rw[Kq hx]at ih;have:=GV hx;simp only[F8];lia
theorem dL(pts:List Pt):(ST.srt pts).Pairwise plt:=ix.mp (ST.srt_asc pts)
theorem gC{pts:List Pt}(h:2<=(ST.srt pts).length):am pts=(aj (ST.srt pts)).tail.reverse++(aj (ST.srt pts).reverse).tail.reverse:=by
 unfold am;rw[if_neg (by lia),yW,yW]
theorem iJ{pts:List Pt}(h:pts≠[]):am pts≠[]:=by
 have hs:ST.srt pts≠[]:=λz=>by
  obtain⟨p,r,rfl⟩:=List.exists_cons_of_ne_nil h;have:=(ST.srt_mem p (p::r)).mpr Fv;rw[z]at this;simp at this
 by_cases h1:(ST.srt pts).length=1
 ·unfold am;rw[if_pos h1];exact hs
 ·have h2:2<=(ST.srt pts).length:=by have:=G0.mpr hs;lia
  obtain⟨mn,mx,t1,t2,e1,e2,m1,m2,_⟩:=ends (dL pts) h2;rw[gC h2,e1,e2];intro z;have:t1.reverse=[]:=(List.append_eq_nil_iff.mp z).1;rw[List.reverse_eq_nil_iff.mp this]at m1;simp at m1
theorem bp(pts:List Pt):(am pts).Nodup:=by
 have nd:∀{l:List Pt},l.Pairwise plt->l.Nodup:=λh=>h.imp λ{a b} k e=>by rw[e]at k;exact a_ b k
 by_cases h2:2<=(ST.srt pts).length
 ·have hs:=dL pts;obtain⟨mn,mx,t1,t2,e1,e2,m1,m2,T4,hmx,i1,i2⟩:=ends hs h2;have n1:(mx::t1).Nodup:=by rw[<-e1];exact gJ.mp (nd (ix.mp (dQ hs)))
  have n2:(mn::t2).Nodup:=by
   rw[<-e2,bU];have:=gJ.mp (nd (ix.mp (dQ (cU hs))));refine Gb.mpr (this.imp λ{a b} R7 e=>R7 ?_)
   rw[<-g9 a,e,g9]
  obtain⟨x1,y1⟩:=HG.mp n1;obtain⟨x2,y2⟩:=HG.mp n2;rw[gC h2,e1,e2,Jl,Jl,Gm];refine⟨gJ.mpr y1,gJ.mpr y2,λp hp q hq=>?_⟩
  rintro rfl;have p1:p∈t1:=FM.mp hp;have p2:p∈t2:=FM.mp hq;have b1:p∈aj (ST.srt pts):=by rw[e1];exact Fn _ p1
  have b2:p∈aj (ST.srt pts).reverse:=by rw[e2];exact Fn _ p2
  have pr:=bN _ _ b1;have l1:plt mn p:=(T4 p pr).resolve_left λe=>x2 (by rw[<-e];exact p2)
  have l2:plt p mx:=(hmx p pr).resolve_left λe=>x1 (by rw[<-e];exact p1)
  have d1:=m8 hs b1 mn i1 mx i2 l1 l2;have b3:ng p∈aj ((ST.srt pts).reverse.map ng):=by rw[gw];exact Fs.mpr ⟨p,b2,rfl⟩
  have d2:=m8 (cU hs) b3 (ng mx) (Fs.mpr ⟨mx,FM.mpr i2,rfl⟩) (ng mn) (Fs.mpr ⟨mn,FM.mpr i1,rfl⟩) (lg l2) (lg l1);rw[j9]at d2;unfold ae at d1 d2;grind
 ·unfold am;split
  ·exact nd (dL pts)
  ·have e:ST.srt pts=[]:=G8.mp (by lia)
   rw[e];exact NH
theorem aV(pts:List Pt):∀p∈am pts,p∈pts:=λp hp=>by
 unfold am at hp;split at hp
 ·exact (ST.srt_mem p pts).mp hp
 ·rcases FB.mp hp with h |h
  ·exact (ST.srt_mem p pts).mp (bN _ _ (FM.mp (NC _ h)))
  ·exact (ST.srt_mem p pts).mp (FM.mp (bN _ _ (FM.mp (NC _ h))))
theorem jI(pts:List Pt):(am pts).length<=pts.length:=c_ (bp pts) (aV pts)
theorem gI(pts:List Pt):am (am pts)=am pts:=by
 by_cases h2:2<=(ST.srt pts).length
 ·have hs:=dL pts;obtain⟨mn,mx,t1,t2,e1,e2,m1,m2,T4,hmx,i1,i2⟩:=ends hs h2;have ec:=gC h2
  have mem1:∀p∈aj (ST.srt pts),p∈am pts:=λp hp=>by
   rw[ec,e1,e2,Jl,Jl];rw[e1]at hp;rcases Fw.mp hp with z |z
   ·rw[z];exact FG _ (FM.mpr m2)
   ·exact FJ _ (FM.mpr z)
  have mem2:∀p∈aj (ST.srt pts).reverse,p∈am pts:=λp hp=>by
   rw[ec,e1,e2,Jl,Jl];rw[e2]at hp;rcases Fw.mp hp with z |z
   ·rw[z];exact FJ _ (FM.mpr m1)
   ·exact FG _ (FM.mpr z)
  have Tf:=dL (am pts);have sub:∀p∈ST.srt (am pts),p∈ST.srt pts:=λp hp=>(ST.srt_mem p pts).mpr (aV pts p ((ST.srt_mem p _).mp hp))
  have q1:=pM hs Tf sub λp hp=>(ST.srt_mem p _).mpr (mem1 p hp)
  have q2:=m7 hs Tf sub λp hp=>(ST.srt_mem p _).mpr (mem2 p hp)
  have len:2<=(ST.srt (am pts)).length:=by
   have a1:mn∈ST.srt (am pts):=(ST.srt_mem _ _).mpr (mem1 mn (by rw[e1];exact Fn _ m1))
   have a2:mx∈ST.srt (am pts):=(ST.srt_mem _ _).mpr (mem1 mx (by rw[e1];exact Fv))
   have ne:mn≠mx:=λz=>by
    have nd:=bp pts;rw[ec,e1,e2,Jl,Jl,Gm]at nd;exact nd.2.2 mn (FM.mpr m1) mx (FM.mpr m2) z
   have:=c_ (l:=[mn,mx]) (m:=ST.srt (am pts)) (by simp[ne]) (λx hx=>by
    rcases Fw.mp hx with z |z
    ·rw[z];exact a1
    ·rw[Fy.mp z];exact a2)
   exact this
  rw[gC len,q1,q2,<-ec]
 ·have e:am pts=ST.srt pts:=by
   unfold am;split
   ·rfl
   ·have e:ST.srt pts=[]:=G8.mp (by lia)
    rw[e];rfl
  rw[e];have e3:ST.srt (ST.srt pts)=ST.srt pts:=ST.asc_srt (ST.srt_asc pts);unfold am;rw[e3];split
  ·rfl
  ·have e:ST.srt pts=[]:=G8.mp (by lia)
   rw[e];rfl
def vN:List U->Out->Prop:=λus o=>∃P Q R:P2,us=[pu P,pu Q,pu R]/\Szp 5000 P/\Szp 5000 Q/\Szp 5000 R/\o=.val (.int (sgn (ae P Q R)))
theorem tV(T:Txt w K mg):bg P w K mg base (CXF P w) 2 T.aaM.a T.aaM.d ["P","Q","R"] (spU K (vN)):=by
 refine be T.aaM.F Af (λus o h=>?_) (λQ6 A outer s H E O us o hr h=>?_)
 ·obtain⟨P,Q,R,rfl,⟨p1,p2⟩,⟨q1,q2⟩,⟨r1,r2⟩,rfl⟩:=h;rfl
 obtain⟨P,Q,R,rfl,⟨p1,p2⟩,⟨q1,q2⟩,⟨r1,r2⟩,rfl⟩:=h;refine Ws.nox ?_;refine af (bj (aH ((sJ T).mono (by decide)) hr rfl T.aaK.m T.aaK.F.kp T.aaK.b aD (ah (bm (bn (bm (aB (aa 1 rfl) ag rfl rfl) (aB (aa 0 rfl) ag rfl rfl)) (bm (aB (aa 2 rfl) ag rfl rfl) (aB (aa 0 rfl) ag rfl rfl)) (by walk_at"mul")) (bn (bm (aB (aa 1 rfl) ag rfl rfl) (aB (aa 0 rfl) ag rfl rfl)) (bm (aB (aa 2 rfl) ag rfl rfl) (aB (aa 0 rfl) ag rfl rfl)) (by walk_at"mul"))) ao bq) ⟨_,rfl,rfl⟩) ?_)
 exact rfl
def qV:List U->Out->Prop:=λus o=>∃row:List P2,us=[lp row]/\(∀p∈row,Szp 5000 p)/\row.length<=900/\o=.new ((aj row).reverse.map pu)
theorem g6(T:Txt w K mg):bg P w K mg base (CXF P w) 3 T.aad.a T.aad.d ["row"] (spU K (qV)):=by
 refine be T.aad.F e8 (λus o h=>?_) (λQ6 A outer s H E O us o hr h=>?_)
 ·obtain⟨row,rfl,sz,hl,rfl⟩:=h;rfl
 obtain⟨row,rfl,sz,hl,rfl⟩:=h;refine Ws.nox ?_;refine af (jq (i:=1) e8.nd rfl (Or.inl rfl) (cP bA) ?_);refine af (d8 (λst:List P2=>[some (.val (lp row)),some (.own (st.reverse.map pu)),none]) (λi st=>st=aj (row.take i)) rfl PassesOwn.never (cM (aa 0 rfl) (.inl rfl)) ?h0 ?hs ?hd)
 case h0=>exact⟨[],rfl,rfl,rfl,trivial⟩
 case hs=>
  rintro H0 i x _ hx rfl;obtain⟨P,hP,mP,rfl⟩:=pX hx;have hi:i<row.length:=aC hP;have sP:=sz P mP;refine⟨_,(fu (i:=2) e8.nd rfl (Or.inl rfl)),?_⟩;have len0:=gM row i;refine fC (λps=>SubP [some (.val (lp row)),some (.own ((aR P (aj (row.take i))).reverse.map pu)),some (.val (pu P))] ps) (gG (λs2:List P2=>[some (.val (lp row)),some (.own (s2.reverse.map pu)),some (.val (pu P))]) (λm s2=>m=s2.length/\aR P s2=aR P (aj (row.take i))/\(∀p∈s2,p∈row)/\s2.length<=i) PassesOwn.never ?h0 ?hs) ?hj
  case h0=>exact⟨_,_,⟨rfl,rfl,λq hq=>fg row i q hq,len0⟩,rfl,rfl,rfl,trivial⟩
  case hs=>
   rintro m s2 ⟨rfl,e2,sub,len2⟩
   match s2,e2,sub,len2 with
   |[],e2,sub,len2=>
    refine⟨false,?_,λh=>(nomatch h),λh ps Rh=>e2 ▸ Rh⟩
    exact (Tw.t (iY (aI iE (eZ 1 rfl rfl T.aak) ag) rfl))
   |[b],e2,sub,len2=>
    refine⟨false,?_,λh=>(nomatch h),λh ps Rh=>e2 ▸ Rh⟩
    exact (Tw.t (iY (aI iE (eZ 1 rfl rfl T.aak) ag) rfl))
   |b::a::r,e2,sub,len2=>
    have sa:=sz a (sub a (by simp))
    have sb:=sz b (sub b (by simp))
    have e1:decide ((1:Int)<((((b::a::r).reverse.map pu).length:Nat):Int))=true:=decide_eq_true (by simp;lia)
    refine⟨decide ((1:Int)<((((b::a::r).reverse.map pu).length:Nat):Int)) && decide (sgn (ae a b P)<1),?_,λh=>?_,λh ps Rh=>?_⟩
    ·exact (Tw.t (sq (aI iE (eZ 1 rfl rfl T.aak) ag) (λhz=>(rq (aI ic (aH ((tV T).mono (by decide)) hr rfl T.aaM.m T.aaM.F.kp T.aaM.b aD (ah (jx 1 rfl (cq ag) (tH b a r)) (ah (jx 1 rfl (cq ag) (tm b (a::r))) (ah (aa 2 rfl) ao ai) aZ) aZ) ⟨a,b,P,rfl,sa,sb,sP,rfl⟩) ag)))))
    ·rw[e1,JU,xm]at h;have hd:=dTb h;refine af (zt 1 rfl (by simp) (aG ?_))
     refine⟨_,a::r,?_,⟨rfl,?_,λq hq=>sub q (Fn _ hq),?_⟩,rfl,?_,rfl,trivial⟩
     ·simp
     ·rw[←e2];conv=>rhs;unfold aR
      rw[if_pos hd]
     ·simp only[F8]at *;lia
     ·exact congrArg (λl=>some (Sl.own l)) (by simp)
    ·rw[e1,JU,xm]at h;have hd:=dFb h
     have e3:aR P (b::a::r)=b::a::r:=by conv=>lhs;unfold aR
                                        rw[if_neg hd]
     rw[<-e2,e3];exact Rh
  case hj=>
   intro ps Rh;refine cE ?_ Rh;have e4:=fD hP;have len3:=jL P (aj (row.take i));refine af (fe 1 rfl (aa 2 rfl) (by rw[Fk,Gx];exact aJ (by lia)) (aG ?_))
   refine⟨_,rfl,rfl,?_,trivial⟩;exact congrArg (λl=>some (Sl.own l)) (by rw[e4];simp)
 case hd=>
  rintro st ps RB Rh;refine cE ?_ Rh;refine af (rG 1 rfl ?_);rw[RB];simp
theorem x5{m:Nat}{pts:List P2}(h:∀p∈pts,Szp m p):∀p∈ST.srt pts,Szp m p:=λp hp=>h p ((ST.srt_mem p pts).mp hp)
theorem gj(row:List P2):(aj row).length<=row.length:=by
 have:=gM row row.length
 rwa [Hv]at this
def rJ:List U->Out->Prop:=λus o=>∃pts:List P2,us=[lp pts]/\(∀p∈pts,Szp 5000 p)/\pts.length<64/\pts≠[]/\o=.new ((am pts).map pu)
theorem kN(T:Txt w K mg):bg P w K mg base (CXF P w) 4 T.aav.a T.aav.d ["points"] (spU K (rJ)):=by
 refine be T.aav.F gE (λus o h=>?_) (λQ6 A outer s H E O us o hr h=>?_)
 ·obtain⟨pts,rfl,sz,hl,Q1,rfl⟩:=h;rfl
 obtain⟨pts,rfl,sz,hl,Q1,rfl⟩:=h;refine Ws.nox ?_;have hml:((pts.map pu).length:Int)=(pts.length:Int):=by rw[Fk]
 have hpos:0<pts.length:=G0.mpr Q1;refine af (bQ (aI cB (av (bX rfl) rfl T.aak Gd (ah (aa 0 rfl) ao ai)) ag) (by rw[hml];exact decide_eq_false (by lia)) (aG ?_))
 have sl:=ST.srt_len pts;have hms:(((ST.srt pts).map pu).length:Int)=((ST.srt pts).length:Int):=by rw[Fk]
 have szs:=x5 sz;by_cases h1:(ST.srt pts).length=1
 ·refine af (jq (i:=1) gE.nd rfl (Or.inl rfl) (g_ rfl (gO hr) rfl T.aaN rfl T.aa0 (aa 0 rfl) (qJ hl) ai) ?_);refine af (fS (aI cB (eZ 1 rfl rfl T.aak) ag) (by rw[hms];exact decide_eq_true (by lia)) ?_)
  refine af (rG 1 rfl ?_);show Out.new _=Out.new _;unfold am;rw[if_pos h1]
 ·refine af (aE (i:=1) gE.nd rfl (Or.inl rfl) (EvN.ev (g_ rfl (gO hr) rfl T.aaN rfl T.aa0 (aa 0 rfl) (qJ hl) ai)) ?_);refine af (bQ (aI cB (av (bX rfl) rfl T.aak Gd (ah (aa 1 rfl) ao ai)) ag) (by rw[hms];exact decide_eq_false (by lia)) (aG ?_))
  have b1:=gj (ST.srt pts);have b2:=gj (ST.srt pts).reverse;rw[Gx]at b2;refine af (aE (i:=2) gE.nd rfl (Or.inl rfl) (EvN.ev (b9 ((g6 T).mono (by decide)) hr rfl T.aad.m T.aad.F.kp T.aad.b aD (ah (aa 1 rfl) ao ai) ⟨ST.srt pts,rfl,szs,by lia,rfl⟩)) ?_)
  refine af (aE (i:=3) gE.nd rfl (Or.inl rfl) (EvN.ev (b9 ((g6 T).mono (by decide)) hr rfl T.aad.m T.aad.F.kp T.aad.b aD (ah (EvN.ev (D3 (aa 1 rfl) (cq ag) (.inl rfl))) ao aZ) ⟨(ST.srt pts).reverse,by rw[lp,Io],λp hp=>szs p (FM.mp hp),by rw[Gx];lia,rfl⟩)) ?_)
  refine af (c8 (uq (EvN.ev (fF (aa 2 rfl) i7 (gu (cq ag)) (.inl rfl))) (EvN.ev (fF (aa 3 rfl) i7 (gu (cq ag)) (.inl rfl))) (by rw[i_,i_,Fk,Fk,IL,IL,Gx,Gx];exact GW (aJ (by lia)))) ?_)
  show Out.new _=Out.new _;unfold am;rw[if_neg h1,i_,i_,<-Gr]
def ap(a b c d e f:Int)(p:P2):P2:=(a*p.1+b*p.2+e,c*p.1+d*p.2+f)
theorem BC{m:Nat}{a b c d e f:Int}{p:P2}(sa:Sz 500 a)(sb:Sz 500 b)(sc:Sz 500 c)(sd:Sz 500 d)(se:Sz 500 e)(sf:Sz 500 f)(hm:m<=3000)(s:Szp m p):Szp (m+510) (ap a b c d e f p):=by
 have key:∀{x y z:Int},Sz 500 x->Sz 500 y->Sz 500 z->Sz (m+510) (x*p.1+y*p.2+z):=λsx sy sz=>by
  have h1:=L2.Sz.add' (L2.Sz.mul sx s.1) (L2.Sz.mul sy s.2);have h2:=L2.Sz.add' h1 sz;exact h2.mono (by lia)
 exact⟨key sa sb se,key sc sd sf⟩
def A3:List U->Out->Prop:=λus o=>∃(pts:List P2) (a b c d e f:Int),us=[lp pts,mv a b c d e f]/\Mv a b c d e f/\(∀p∈pts,Szp 3000 p)/\(∀p∈pts,Szp 5000 (ap a b c d e f p))/\pts≠[]/\pts.length<64/\o=.new ((am (pts.map (ap a b c d e f))).map pu)
theorem kT(T:Txt w K mg):bg P w K mg base (CXF P w) 5 T.aam.a T.aam.d ["land","move"] (spU K (A3)):=by
 refine be T.aam.F f7 (λus o h=>?_) (λQ6 A outer s H E O us o hr h=>?_)
 ·obtain⟨pts,a,b,c,d,e,f,rfl,M,sz,sy,Q1,hl,rfl⟩:=h;rfl
 obtain⟨pts,a,b,c,d,e,f,rfl,M,sz,sy,Q1,hl,rfl⟩:=h;refine Ws.nox ?_;refine af (c8 (b9 ((kN T).mono (by decide)) hr rfl T.aav.m T.aav.F.kp T.aav.b aD (ah (EvN.ev (eT (ys:=(pts.map λp=>pu (ap a b c d e f p))) rfl (blk (ak eU) ["land","move","P"] [2] rfl rfl rfl rfl (by decide+kernel)) (cM (aa 0 rfl) (.inl rfl)) (λ_ _ _ _=>br (i:=2) f7.nd rfl (Or.inl rfl)) (cX (by decide)) ?clen ?csz (λ_ _=>trivial) ?celt)) ao eI) ⟨pts.map (ap a b c d e f),by rw[lp,F5];rfl,λp hp=>by obtain⟨q,hq,rfl⟩:=Fs.mp hp;exact sy q hq,by rw[Fk];exact hl,by simpa using Q1,rfl⟩) ?_)
 case clen=>simp
 case csz=>rw[Fk];exact GW (aJ (by lia))
 case celt=>
  intro C s' H' fp j x y hx hy;obtain⟨p,hp,mp,rfl,rfl⟩:=im hx hy;exact (aH ((qb T).mono (by decide)) hr rfl T.aaF.m T.aaF.F.kp T.aaF.b aD (ah (aa 2 rfl) (ah (aa 1 rfl) ao ai) ai) ⟨p.1,p.2,a,b,c,d,e,f,rfl,M,(sz p mp).1.mono (by decide),(sz p mp).2.mono (by decide),rfl⟩)
 exact rfl
theorem rD{l m:List Pt}(h:ST.srt l=ST.srt m):am l=am m:=by unfold am;rw[h]
theorem l5{l m:List Pt}(h:∀z,z∈l↔z∈m):ST.srt l=ST.srt m:=ST.asc_one (ST.srt_asc l) (ST.srt_asc m) λz=>by rw[ST.srt_mem,ST.srt_mem];exact h z
theorem cL{pts:List Pt}(h:¬ 2<=(ST.srt pts).length):am pts=ST.srt pts:=by
 unfold am;split
 ·rfl
 ·have e:ST.srt pts=[]:=G8.mp (by lia)
  rw[e];rfl
section
variable {f:Pt→Pt}
theorem zW(hf:∀a b,plt a b->plt (f a) (f b))(l:List Pt):ST.srt (l.map f)=(ST.srt l).map f:=by
 refine ST.asc_one (ST.srt_asc _) (ix.mpr (Gb.mpr ((dL l).imp λ{a b} h=>hf a b h))) λz=>?_
 rw[ST.srt_mem,Fs,Fs];exact⟨λ⟨x,hx,e⟩=>⟨x,(ST.srt_mem x l).mpr hx,e⟩,λ⟨x,hx,e⟩=>⟨x,(ST.srt_mem x l).mp hx,e⟩⟩
theorem tw(hd:∀a b c,ae (f a) (f b) (f c)<=0↔ae a b c<=0)(P:Pt):∀st:List Pt,aR (f P) (st.map f)=(aR P st).map f
 |[]=>rfl
 |[_]=>rfl
 |b::a::r=>by
  show aR (f P) (f b::f a::r.map f)=_;unfold aR;by_cases h:ae a b P<=0
  ·rw[if_pos h,if_pos ((hd a b P).mpr h)];exact tw hd P (a::r)
  ·rw[if_neg h,if_neg λz=>h ((hd a b P).mp z)];rfl
theorem l_(hd:∀a b c,ae (f a) (f b) (f c)<=0↔ae a b c<=0)(row:List Pt):aj (row.map f)=(aj row).map f:=by
 have key:∀(l:List Pt) (st:List Pt),(l.map f).foldl (λst P=>P::aR P st) (st.map f)=(l.foldl (λst P=>P::aR P st) st).map f:=by
  intro l
  induction l with
  |nil=>intro st;rfl
  |cons p r ih=>
   intro st;rw[FU,Ic,Ic,tw hd];exact ih (p::aR p st)
 exact key row []
theorem yU(hf:∀a b,plt a b->plt (f a) (f b))(hd:∀a b c,ae (f a) (f b) (f c)<=0↔ae a b c<=0)(l:List Pt):am (l.map f)=(am l).map f:=by
 unfold am;rw[zW hf,Fk,<-Io,l_ hd,l_ hd];split
 ·rfl
 ·rw[Gr,Mj,Mj,Io,Io]
end
def scl(k:Int)(p:Pt):Pt:=(k*p.1,k*p.2)
theorem Ap(p:Pt):scl 1 p=p:=by unfold scl;simp
def qE:List Int->Int
 |[]=>0
 |a::l=>l.foldl min a
theorem gX:∀(l:List Int) (a:Int),l.foldl min a∈a::l
 |[],a=>by simp
 |b::l,a=>by
  have:=gX l (min a b);rw[Ic];rcases Fw.mp this with e |e
  ·rw[e];rcases Nk a b with h |h
   ·rw[Int.min_eq_left h];simp
   ·rw[Int.min_eq_right h];simp
  ·exact Fn _ (Fn _ e)
theorem iR:∀(l:List Int) (a:Int),∀x∈a::l,l.foldl min a<=x
 |[],a,x,h=>by simp at h;rw[h];exact LG _
 |b::l,a,x,h=>by
  have ih:=iR l (min a b);rw[Ic];have h0:=ih (min a b) Fv;rcases Fw.mp h with rfl |h
  ·lia
  ·rcases Fw.mp h with rfl |h
   ·lia
   ·exact ih x (Fn _ h)
theorem cJ{l:List Int}(h:l≠[]):qE l∈l/\∀a∈l,qE l<=a:=by
 cases l with
 |nil=>exact absurd rfl h
 |cons a l=>exact⟨gX l a,iR l a⟩
abbrev gp(l:List P2)(i:Nat):P2:=l.getD i (0,0)
def nxt(l:List P2)(i:Nat):P2:=gp l ((i+1)%l.length)
def sdl(l:List P2):List (P2×P2):=(GG l.length).map λi=>(gp l i,nxt l i)
abbrev pq(s:P2×P2):U:=.tup [pu s.1,pu s.2]
theorem dB{l:List P2}{i:Nat}(h:i<l.length):l[i]?=some (gp l i):=by simp[gp,h]
theorem fP{l:List P2}{i:Nat}(h:i<l.length):gp l i∈l:=FD (dB h)
theorem tj(l:List U):ig l (some 1) none=l.drop 1:=by
 unfold ig HT.sIx;cases l with
 |nil=>simp
 |cons a l=>simp
theorem BQ(l:List U):ig l none (some 1)=l.take 1:=by
 unfold ig HT.sIx;cases l with
 |nil=>simp
 |cons a l=>simp
theorem wW(l:List P2):LS (λa b=>U.tup [a,b]) (l.map pu) (ig (l.map pu) (some 1) none++ig (l.map pu) none (some 1))=(sdl l).map pq:=by
 rw[tj,BQ];apply IA;intro i;unfold sdl;by_cases hi:i<l.length
 ·have e1:(l.map pu)[i]?=some (pu (gp l i)):=by rw[Ft,dB hi];rfl
  have e2:((l.map pu).drop 1++(l.map pu).take 1)[i]?=some (pu (nxt l i)):=by
   unfold nxt;by_cases hj:i+1<l.length
   ·rw[FR (by simp;lia),Jh,Nat.add_comm,F0 hj,Ft,dB hj];rfl
   ·have e:i+1=l.length:=by lia
    rw[FS (by simp;lia),e,Lk]
    rw[show i-((l.map pu).drop 1).length=0 by simp;lia,HN (by lia),Ft,dB (by lia)];rfl
  rw[IK.mpr ⟨_,_,e1,e2,rfl⟩,F5,Ft,G9 hi];rfl
 ·rw[F9 (by simp;lia),F9 (by simp;lia)]
theorem nY(l:List P2):(sdl l).length=l.length:=by simp[sdl]
theorem bv{l:List P2}{s:P2×P2}(h:s∈sdl l):s.1∈l/\s.2∈l:=by
 obtain⟨i,hi,rfl⟩:=Fs.mp h;have Q9:=FV.mp hi;exact⟨fP Q9,fP (Iw _ (by lia))⟩
def rd:List U->Out->Prop:=λus o=>∃l:List P2,us=[lp l]/\l.length<=900/\o=.new ((sdl l).map pq)
theorem kS(T:Txt w K mg):bg P w K mg base (CXF P w) 1 T.aaw.a T.aaw.d ["land"] (spU K (rd)):=by
 refine be T.aaw.F yc (λus o h=>?_) (λQ6 A outer s H E O us o hr h=>?_)
 ·obtain⟨l,rfl,hl,rfl⟩:=h;rfl
 obtain⟨l,rfl,hl,rfl⟩:=h;refine Ws.nox ?_;have Q5:(ig (l.map pu) (some 1) none++ig (l.map pu) none (some 1)).length=l.length:=by rw[tj,BQ];simp;lia
 refine af (c8 (v8 rfl rfl T.aaS rfl T.aa4 (aa 0 rfl) (.inl rfl) (EvN.ev (uq (EvN.ev (fF (aa 0 rfl) (gu ag) i7 (.inl rfl))) (EvN.ev (fF (aa 0 rfl) i7 (gu ag) (.inl rfl))) (by rw[<-FT,Q5];exact GW (aJ (by lia))))) (.inl rfl) (by rw[Q5,Fk]) (by rw[Fk];lia) ai bq) ?_)
 rw[wW]
theorem Fb{l:List P2}(h:0<l.length):atI (l.map pu) 0=some (pu (gp l 0)):=oC (i:=0) rfl (by rw[Ft,dB h];rfl)
theorem um{l:List P2}(h:0<l.length):atI (l.map pu) (-1)=some (pu (gp l (l.length-1))):=by
 have e:ixN (l.map pu).length (-1)=some (l.length-1):=by
  unfold ixN;simp;lia
 unfold atI;rw[e];show (l.map pu)[l.length-1]?=_;rw[Ft,dB (by lia)];rfl
def gst(s:P2×P2):Int:=((Jv (s.2.1-s.1.1) (s.2.2-s.1.2):Nat):Int)
def crs(s:P2×P2):Int:=s.1.1*s.2.2-s.1.2*s.2.1
def area(l:List P2):Int:=((sdl l).map crs).sum
def nK(l:List P2):Int:=((sdl l).map gst).sum
def pin(l:List P2):Int:=if l.length<3 then 0 else (area l-nK l+2)/2
theorem ro(s:P2×P2):0<=gst s:=by unfold gst;lia
theorem ca{s:P2×P2}(h:s.1≠s.2):0<gst s:=by
 unfold gst
 have:Jv (s.2.1-s.1.1) (s.2.2-s.1.2)≠0:=λe=>by
  have:=Int.gcd_eq_zero_iff.mp e;exact h (GU (by lia) (by lia))
 lia
def ev(p:P2):Int:=if p.1%2=0/\p.2%2=0 then 1 else 0
theorem nP(l:List P2):(sdl l).map (·.1)=l:=by
 apply IA;intro i;unfold sdl;rw[F5];by_cases hi:i<l.length
 ·rw[Ft,G9 hi,dB hi];rfl
 ·rw[F9 (by simp;lia),F9 (by lia)]
theorem rY(l:List P2):(sdl l).map (·.2)=l.drop 1++l.take 1:=by
 apply IA;intro i;unfold sdl;rw[F5];by_cases hi:i<l.length
 ·rw[Ft,G9 hi];show some (nxt l i)=_;unfold nxt;by_cases hj:i+1<l.length
  ·rw[FR (by simp;lia),Jh,show 1+i=i+1 by lia,F0 hj,dB hj]
  ·have e:i+1=l.length:=by lia
   rw[FS (by simp;lia),e,Lk]
   rw[show i-(l.drop 1).length=0 by simp;lia,HN (by lia),dB (by lia)]
 ·rw[F9 (by simp;lia),F9 (by simp;lia)]
theorem we{l:List P2}(hn:l.Nodup)(h2:2<=l.length):∀s∈sdl l,s.1≠s.2:=λs hs e=>by
 obtain⟨i,hi,rfl⟩:=Fs.mp hs;have Q9:=FV.mp hi;have hj:(i+1)%l.length<l.length:=Iw _ (by lia)
 have e':gp l i=gp l ((i+1)%l.length):=e;have:l[i]?=l[(i+1)%l.length]?:=by rw[dB Q9,dB hj,e']
 have:=(J2 Q9 hn).mp this;by_cases hk:i+1<l.length
 ·rw[F0 hk]at this;lia
 ·have e:i+1=l.length:=by lia
  rw[e,Lk]at this;lia
theorem qH{m n:Nat}{l:List P2}(h:m<=n)(k:∀p∈l,Szp m p):∀p∈l,Szp n p:=λp hp=>⟨(k p hp).1.mono h,(k p hp).2.mono h⟩
def uH:List U->Out->Prop:=λus o=>∃l:List P2,us=[lp l]/\l.length<=900/\(∀p∈l,Szp 2500 p)/\o=.val (.int (area l))
theorem kK(T:Txt w K mg):bg P w K mg base (CXF P w) 2 T.aal.a T.aal.d ["land"] (spU K (uH)):=by
 refine be T.aal.F dS (λus o h=>?_) (λQ6 A outer s H E O us o hr h=>?_)
 ·obtain⟨l,rfl,hl,sz,rfl⟩:=h;rfl
 obtain⟨l,rfl,hl,sz,rfl⟩:=h;refine Ws.nox ?_;refine af (bj (av (yP rfl ) rfl T.aa3 boot_sum (ah (EvN.ev (eT (ys:=(((sdl l).map crs).map U.int)) rfl (blk (ak e7) ["land","A","B"] [1,2] rfl rfl rfl rfl (by decide+kernel)) (cM (EvN.ev (b9 ((kS T).mono (by decide)) hr rfl T.aaw.m T.aaw.F.kp T.aaw.b aD (ah (aa 0 rfl) ao ai) ⟨l,rfl,hl,rfl⟩)) (.inl rfl)) (λ_ _ _ _=>qA rfl (cG (br (i:=1) dS.nd rfl (Or.inl rfl)) (cG (br (i:=2) dS.nd rfl (Or.inl rfl)) iI))) (r_ (js:=[1,2]) (by decide)) ?clen ?csz ?dom ?celt)) ao eI)) ?_)
 case clen=>simp
 case csz=>simp only[nY,Fk];exact GW (aJ (by lia))
 case dom=>
  intro x hx;obtain⟨s,_,rfl⟩:=Fs.mp hx;exact⟨_,rfl,rfl⟩
 case celt=>
  intro C s' H' fp j x y hx hy;rw[F5]at hy;obtain⟨s,hs,ms,rfl,rfl⟩:=im hx hy;obtain⟨m1,m2⟩:=bv ms;have z1:=(sz _ m1).1;have z2:=(sz _ m1).2;have z3:=(sz _ m2).1;have z4:=(sz _ m2).2;exact (bm (bn (aB (aa 1 rfl) ag rfl rfl) (aB (aa 2 rfl) ag rfl rfl) (by walk_at"mul")) (bn (aB (aa 1 rfl) ag rfl rfl) (aB (aa 2 rfl) ag rfl rfl) (by walk_at"mul")))
 exact rfl
theorem ph{done:List Pt}:∀{st:List Pt},gr done st->∀(k:Nat) {a b:Pt},st[k]?=some b->st[k+1]?=some a->∀q∈done,0<=ae a b q
 |[],_,k,_,_,h,_=>by simp at h
 |[_],_,k,_,_,_,h=>by simp at h
 |x::y::r,C,0,a,b,h1,h2=>by
  simp at h1 h2;subst h1;subst h2;exact C.1
 |x::y::r,C,k+1,a,b,h1,h2=>ph C.2 k (by simpa using h1) (by simpa using h2)
theorem pI:∀{st:List Pt},jp st->∀(k:Nat) {a b c:Pt},st[k]?=some c->st[k+1]?=some b->st[k+2]?=some a->0<ae a b c
 |[],_,k,_,_,_,h,_,_=>by simp at h
 |[_],_,k,_,_,_,_,h,_=>by simp at h
 |[_,_],_,k,_,_,_,_,_,h=>by simp at h
 |x::y::z::r,C,0,a,b,c,h1,h2,h3=>by
  simp at h1 h2 h3;subst h1;subst h2;subst h3;exact C.1
 |x::y::z::r,C,k+1,a,b,c,h1,h2,h3=>pI C.2 k (by simpa using h1) (by simpa using h2) (by simpa using h3)
theorem wg{st:List Pt}{i:Nat}{a b:Pt}(h1:st.reverse[i]?=some a)(h2:st.reverse[i+1]?=some b):∃k,st[k]?=some b/\st[k+1]?=some a:=by
 have l2:i+1<st.length:=by have:=(FA.mp h2).1;simpa using this
 rw[Hr (by lia)]at h1
 rw[Hr l2]at h2;exact⟨st.length-1-(i+1),h2,by rw[<-h1];congr 1;lia⟩
theorem u0{st:List Pt}{i:Nat}{a b c:Pt}(h1:st.reverse[i]?=some a)(h2:st.reverse[i+1]?=some b)(h3:st.reverse[i+2]?=some c):∃k,st[k]?=some c/\st[k+1]?=some b/\st[k+2]?=some a:=by
 have l3:i+2<st.length:=by have:=(FA.mp h3).1;simpa using this
 rw[Hr (by lia)]at h1
 rw[Hr (by lia)]at h2
 rw[Hr l3]at h3;exact⟨st.length-1-(i+2),h3,by rw[<-h2];congr 1;lia,by rw[<-h1];congr 1;lia⟩
theorem gf{row:List Pt}(hs:row.Pairwise plt)(h:row≠[]){i:Nat}{a b:Pt}(h1:(aj row).reverse[i]?=some a)(h2:(aj row).reverse[i+1]?=some b):∀q∈row,0<=ae a b q:=by
 obtain⟨k,e1,e2⟩:=wg h1 h2;exact ph (b7 hs h).1.cover k e1 e2
theorem h_{row:List Pt}(hs:row.Pairwise plt)(h:row≠[]){i:Nat}{a b c:Pt}(h1:(aj row).reverse[i]?=some a)(h2:(aj row).reverse[i+1]?=some b)(h3:(aj row).reverse[i+2]?=some c):0<ae a b c:=by
 obtain⟨k,e1,e2,e3⟩:=u0 h1 h2 h3;exact pI (b7 hs h).1.turns k e1 e2 e3
theorem fM{row:List Pt}{i:Nat}{a:Pt}(h1:(aj row.reverse).reverse[i]?=some a):(aj (row.reverse.map ng)).reverse[i]?=some (ng a):=by
 rw[bU,<-Io,Ft]at h1;cases e:(aj (row.reverse.map ng)).reverse[i]? with
 |none=>rw[e]at h1;cases h1
 |some z=>rw[e]at h1;cases h1;rw[g9]
theorem h7{row:List Pt}(hs:row.Pairwise plt)(h:row≠[]){i:Nat}{a b:Pt}(h1:(aj row.reverse).reverse[i]?=some a)(h2:(aj row.reverse).reverse[i+1]?=some b):∀q∈row,0<=ae a b q:=λq hq=>by
 have:=gf (cU hs) (by simpa using h) (fM h1) (fM h2) (ng q) (Gz (FM.mpr hq))
 rwa [j9]at this
theorem mG{row:List Pt}(hs:row.Pairwise plt)(h:row≠[]){i:Nat}{a b c:Pt}(h1:(aj row.reverse).reverse[i]?=some a)(h2:(aj row.reverse).reverse[i+1]?=some b)(h3:(aj row.reverse).reverse[i+2]?=some c):0<ae a b c:=by
 have:=h_ (cU hs) (by simpa using h) (fM h1) (fM h2) (fM h3)
 rwa [j9]at this
theorem wa{u1 u2 v1 v2 w1 w2:Int}(hu:bu u1 u2)(hv:bu v1 v2)(h0:u1*v2-u2*v1=0)(h1:u1*w2-u2*w1<=0)(h2:0<=v1*w2-v2*w1):u1*w2-u2*w1=0/\v1*w2-v2*w1=0:=by
 have e1:v1*(u1*w2-u2*w1)=u1*(v1*w2-v2*w1):=by grind
 have e2:v2*(u1*w2-u2*w1)=u2*(v1*w2-v2*w1):=by grind
 have fin:∀{s t A B:Int},0<s->0<t->s*A=t*B->A<=0->0<=B->A=0/\B=0:=λ{s t A B} hs ht e ha hb=>by
  have k1:s*A<=0:=GY (by lia) ha
  have k2:0<=t*B:=FQ (by lia) hb
  have z1:s*A=0:=by lia
  have z2:t*B=0:=by lia
  refine⟨(F_.mp z1).resolve_left (by lia),(F_.mp z2).resolve_left (by lia)⟩
 rcases hu with hu |⟨hu,T9⟩
 ·rcases hv with hv |⟨hv,Ux⟩
  ·exact fin hv hu e1 h1 h2
  ·rw[hv]at h0;have:=Gi hu Ux;lia
 ·rcases hv with hv |⟨hv,Ux⟩
  ·rw[hu]at h0;have:=Gi T9 hv;lia
  ·exact fin Ux T9 e2 h1 h2
theorem uG{a m c:Pt}(ha:plt a m)(hc:plt c m)(h:ae a m c=0){q:Pt}(h1:0<=ae a m q)(h2:0<=ae m c q):ae a m q=0/\ae m c q=0:=by
 have k:=wa (w1:=m.1-q.1) (w2:=m.2-q.2) (au ha) (au hc) (by unfold ae at h;grind) (by unfold ae at h1;grind) (by unfold ae at h2;grind)
 unfold ae;exact⟨by grind,by grind⟩
theorem zL(a b c:Pt):ae a b c=ae b c a:=by unfold ae;grind
theorem Ea{row:List Pt}(hs:row.Pairwise plt)(Q1:row≠[]){i:Nat}{a m c:Pt}(h1:(aj row).reverse[i]?=some a)(h2:(aj row).reverse[i+1]?=some m)(hl:(aj row).length=i+2)
  (h3:(aj row.reverse).reverse[0]?=some m) (h4:(aj row.reverse).reverse[1]?=some c) (ha:plt a m) (hc:plt c m) (big:2<(aj row).length\/2<(aj row.reverse).length):0<ae a m c:=by
 have mem:∀{j:Nat}{p:Pt},(aj row).reverse[j]?=some p->p∈row:=λh=>bN row _ (FM.mp (FD h))
 have memR:∀{j:Nat}{p:Pt},(aj row.reverse).reverse[j]?=some p->p∈row:=λh=>FM.mp (bN _ _ (FM.mp (FD h)))
 have cv:=gf hs Q1 h1 h2;have cb:=h7 hs Q1 h3 h4;have h0:=cv c (memR h4);rcases Hm h0 with z |z
 ·exact z
 ·exfalso
  have flat:∀q∈row,ae a m q=0/\ae m c q=0:=λq hq=>uG ha hc z.symm (cv q hq) (cb q hq)
  rcases big with b |b
  ·have hi:0<i:=by lia
   have hx:i-1<(aj row).reverse.length:=by simp;lia
   have e:=Fj hx;have t:=h_ hs Q1 e (by rw[Nat.sub_add_cancel hi];exact h1) (by rw[show i-1+2=i+1 by lia];exact h2)
   rw[zL,(flat _ (mem e)).1]at t;lia
  ·have hx:2<(aj row.reverse).reverse.length:=by simpa using b
   have e:=Fj hx;have t:=mG hs Q1 h3 h4 e;rw[(flat _ (memR e)).2]at t;lia
structure DE(row T B:List Pt)(mn mx:Pt):Prop where
 t0:T[0]?=some mn
 t1:T[T.length-1]?=some mx
 b0:B[0]?=some mx
 b1:B[B.length-1]?=some mn
 lt:2<=T.length
 lb:2<=B.length
 least:∀p∈row,p=mn\/plt mn p
 most:∀p∈row,p=mx\/plt p mx
theorem BG{l:List Pt}:l.reverse[0]?=l.getLast?:=by rw[List.getLast?_eq_head?_reverse,Hi]
theorem BT{l:List Pt}:l.reverse[l.reverse.length-1]?=l.head?:=by rw[<-GM,JO]
theorem ways{row:List Pt}(hs:row.Pairwise plt)(h2:2<=row.length):∃mn mx,DE row (aj row).reverse (aj row.reverse).reverse mn mx:=by
 have Q1:row≠[]:=λz=>by rw[z]at h2;simp at h2
 obtain⟨mn,mx,t1,t2,e1,e2,m1,m2,least,most,_,_⟩:=ends hs h2;obtain⟨K,hl,hh⟩:=b7 hs Q1;obtain⟨KR,hlR,hhR⟩:=b7 (cU hs) (by simpa using Q1)
 have l1:2<=(aj row).length:=by rw[e1];have:=GV m1;simp;lia
 have l2:2<=(aj row.reverse).length:=by rw[e2];have:=GV m2;simp;lia
 have hd:row.head?=some row[0]:=by rw[Hi];exact Fj (by lia)
 have ld:row.getLast?=some row[row.length-1]:=by rw[GM];exact Fj (by lia)
 have q1:row[0]=mn:=by
  have hb:=hhR;rw[K5,JO,hd]at hb;have:(aj row.reverse).head?=some row[0]:=by rw[bU,L3,hb];simp[g9]
  rw[e2]at this;exact (Gv this).symm
 have q2:row[row.length-1]=mx:=by
  rw[ld,e1]at hh;exact (Gv hh).symm
 refine⟨mn,mx,?_,?_,?_,?_,by simpa using l1,by simpa using l2,least,most⟩
 ·rw[BG,hl,hd,q1]
 ·rw[BT,hh,ld,q2]
 ·rw[BG,bU,K5,hlR,L3,KC,ld,q2];simp[g9]
 ·rw[BT,e2];rfl
section
variable {row T B:List Pt}{mn mx:Pt}
theorem dU(W:DE row T B mn mx){k:Nat}(hk:k<=T.length-1):(T.dropLast++B.dropLast)[k%(T.dropLast++B.dropLast).length]?=T[k]?:=by
 have h1:=W.lt;have h2:=W.lb;have hn:(T.dropLast++B.dropLast).length=T.length-1+(B.length-1):=by simp
 rw[hn,F0 (by lia)]
 by_cases h:k<T.length-1
 ·rw[FR (by simpa using h),JC,if_pos h]
 ·obtain rfl:k=T.length-1:=by lia
  rw[FS (by simp),IL,Oy,JC,if_pos (by lia),W.b0,W.t1]
theorem jO(W:DE row T B mn mx){k:Nat}(h0:T.length-1<=k)(hk:k<=T.length-1+(B.length-1)):(T.dropLast++B.dropLast)[k%(T.dropLast++B.dropLast).length]?=B[k-(T.length-1)]?:=by
 have h1:=W.lt;have h2:=W.lb;have hn:(T.dropLast++B.dropLast).length=T.length-1+(B.length-1):=by simp
 by_cases h:k<T.length-1+(B.length-1)
 ·rw[hn,F0 h,FS (by simpa using h0),IL,JC,if_pos (by lia)]
 ·obtain rfl:k=T.length-1+(B.length-1):=by lia
  have:=dU W (k:=0) (by lia)
  rw[QA]at this;rw[hn,Lk,this,W.t0,show T.length-1+(B.length-1)-(T.length-1)=B.length-1 by lia,W.b1]
end
theorem eO{l:List Pt}{i:Nat}(h:i<l.length):∃a,l[i]?=some a:=⟨_,Fj h⟩
theorem ij{pts:List Pt}(h2:2<=(ST.srt pts).length){i:Nat}(hi:i<(am pts).length):∃a b,(am pts)[i]?=some a/\(am pts)[(i+1)%(am pts).length]?=some b/\(∀p∈pts,0<=ae a b p)/\(2<(am pts).length->∃c,(am pts)[(i+2)%(am pts).length]?=some c/\0<ae a b c):=by
 have hs:=dL pts;have Q1:ST.srt pts≠[]:=λz=>by rw[z]at h2;simp at h2
 obtain⟨mn,mx,W⟩:=ways hs h2;have TU:∀p∈pts,p∈ST.srt pts:=λp hp=>(ST.srt_mem p pts).mpr hp
 have hc:am pts=(aj (ST.srt pts)).reverse.dropLast++(aj (ST.srt pts).reverse).reverse.dropLast:=by
  unfold am;rw[if_neg (by lia)]
 have tc:∀{j:Nat}{a b:Pt},(aj (ST.srt pts)).reverse[j]?=some a->(aj (ST.srt pts)).reverse[j+1]?=some b->∀q∈ST.srt pts,0<=ae a b q:=λh h'=>gf hs Q1 h h'
 have tt:∀{j:Nat}{a b c:Pt},(aj (ST.srt pts)).reverse[j]?=some a->(aj (ST.srt pts)).reverse[j+1]?=some b->(aj (ST.srt pts)).reverse[j+2]?=some c->0<ae a b c:=λh h' h''=>h_ hs Q1 h h' h''
 have bc:∀{j:Nat}{a b:Pt},(aj (ST.srt pts).reverse).reverse[j]?=some a->(aj (ST.srt pts).reverse).reverse[j+1]?=some b->∀q∈ST.srt pts,0<=ae a b q:=λh h'=>h7 hs Q1 h h'
 have bt:∀{j:Nat}{a b c:Pt},(aj (ST.srt pts).reverse).reverse[j]?=some a->(aj (ST.srt pts).reverse).reverse[j+1]?=some b->(aj (ST.srt pts).reverse).reverse[j+2]?=some c->0<ae a b c:=λh h' h''=>mG hs Q1 h h' h''
 have Uh:∀{j:Nat}{p:Pt},(aj (ST.srt pts)).reverse[j]?=some p->p∈ST.srt pts:=λh=>bN _ _ (FM.mp (FD h))
 have memB:∀{j:Nat}{p:Pt},(aj (ST.srt pts).reverse).reverse[j]?=some p->p∈ST.srt pts:=λh=>FM.mp (bN _ _ (FM.mp (FD h)))
 have ndT:(aj (ST.srt pts)).reverse.Nodup:=(dQ hs).imp λ{a b} h e=>by subst e;exact a_ _ ((cF _ _).mpr h)
 have ndB:(aj (ST.srt pts).reverse).reverse.Nodup:=by
  rw[bU,<-Io];have ndR:(aj ((ST.srt pts).reverse.map ng)).reverse.Nodup:=(dQ (cU hs)).imp λ{a b} h e=>by subst e;exact a_ _ ((cF _ _).mpr h)
  exact IX _ (λa b (h:a≠b) e=>h (by have:=congrArg ng e;rwa [g9,g9]at this)) ndR
 have m1:∀{j:Nat}{a m c:Pt},(aj (ST.srt pts)).reverse[j]?=some a->(aj (ST.srt pts)).reverse[j+1]?=some m->(aj (ST.srt pts)).length=j+2->(aj (ST.srt pts).reverse).reverse[0]?=some m->(aj (ST.srt pts).reverse).reverse[1]?=some c->plt a m->plt c m->2<(aj (ST.srt pts)).length\/2<(aj (ST.srt pts).reverse).length->0<ae a m c:=λa1 a2 a3 a4 a5 a6 a7 a8=>Ea hs Q1 a1 a2 a3 a4 a5 a6 a7 a8
 have m2:∀{j:Nat}{a m c:Pt},(aj (ST.srt pts).reverse).reverse[j]?=some a->(aj (ST.srt pts).reverse).reverse[j+1]?=some m->(aj (ST.srt pts).reverse).length=j+2->(aj (ST.srt pts)).reverse[0]?=some m->(aj (ST.srt pts)).reverse[1]?=some c->plt m a->plt m c->2<(aj (ST.srt pts)).length\/2<(aj (ST.srt pts).reverse).length->0<ae a m c:=λ{j a m c} a1 a2 a3 a4 a5 a6 a7 a8=>by
  have er:((ST.srt pts).reverse.map ng).reverse=(ST.srt pts).map ng:=by rw[<-Io,IM]
  have fw:∀{k:Nat}{p:Pt},(aj (ST.srt pts)).reverse[k]?=some p->(aj ((ST.srt pts).reverse.map ng).reverse).reverse[k]?=some (ng p):=λ{k p} h=>by
   rw[er,gw,<-Io,Ft,h];rfl
  have lb:(aj ((ST.srt pts).reverse.map ng)).length=(aj (ST.srt pts).reverse).length:=by rw[bU,Fk]
  have lt:(aj ((ST.srt pts).reverse.map ng).reverse).length=(aj (ST.srt pts)).length:=by rw[er,gw,Fk]
  have:=Ea (cU hs) (by simpa using Q1) (fM a1) (fM a2) (by rw[lb];exact a3) (fw a4) (fw a5) (lg a6) (lg a7) (by rw[lb,lt];exact a8.symm)
  rwa [j9]at this
 rw[hc]at hi |-;have lT:(aj (ST.srt pts)).reverse.length=(aj (ST.srt pts)).length:=Gx;have lB:(aj (ST.srt pts).reverse).reverse.length=(aj (ST.srt pts).reverse).length:=Gx;generalize (aj (ST.srt pts)).reverse=T at *;generalize (aj (ST.srt pts).reverse).reverse=B at *;have h1:=W.lt;have h3:=W.lb;have hn:(T.dropLast++B.dropLast).length=T.length-1+(B.length-1):=by simp
 have own:∀k,k<(T.dropLast++B.dropLast).length->(T.dropLast++B.dropLast)[k]?=(T.dropLast++B.dropLast)[k%(T.dropLast++B.dropLast).length]?:=λk hk=>by rw[F0 hk]
 have tne:∀{j k:Nat}{p q:Pt},T[j]?=some p->T[k]?=some q->j≠k->p≠q:=λ{j k p q} a1 a2 a3 e=>a3 ((J2 (aC a1) ndT).mp (by rw[a1,a2,e]))
 have bne:∀{j k:Nat}{p q:Pt},B[j]?=some p->B[k]?=some q->j≠k->p≠q:=λ{j k p q} a1 a2 a3 e=>a3 ((J2 (aC a1) ndB).mp (by rw[a1,a2,e]))
 by_cases c1:i<T.length-1
 ·obtain⟨a,ea⟩:=eO (l:=T) (i:=i) (by lia)
  obtain⟨b,eb⟩:=eO (l:=T) (i:=i+1) (by lia)
  refine⟨a,b,by rw[own i hi,dU W (by lia)];exact ea,by rw[dU W (by lia)];exact eb,λp hp=>tc ea eb p (TU p hp),λbig=>?_⟩
  by_cases c2:i+2<=T.length-1
  ·obtain⟨c,ec⟩:=eO (l:=T) (i:=i+2) (by lia)
   exact⟨c,by rw[dU W c2];exact ec,tt ea eb ec⟩
  ·have e:i+1=T.length-1:=by lia
   obtain⟨c,ec⟩:=eO (l:=B) (i:=1) (by lia)
   have emx:b=mx:=by have:=W.t1;rw[<-e,eb]at this;exact Gv this
   subst emx;refine⟨c,by rw[jO W (by lia) (by lia),show i+2-(T.length-1)=1 by lia];exact ec,m1 ea eb (by lia) W.b0 ec ?_ ?_ (by lia)⟩
   ·exact (W.most a (Uh ea)).resolve_left (tne ea eb (by lia))
   ·exact (W.most c (memB ec)).resolve_left (bne ec W.b0 (by lia))
 ·obtain⟨a,ea⟩:=eO (l:=B) (i:=i-(T.length-1)) (by lia)
  obtain⟨b,eb⟩:=eO (l:=B) (i:=i-(T.length-1)+1) (by lia)
  refine⟨a,b,by rw[own i hi,jO W (by lia) (by lia)];exact ea,by rw[jO W (by lia) (by lia),show i+1-(T.length-1)=i-(T.length-1)+1 by lia];exact eb,λp hp=>bc ea eb p (TU p hp),λbig=>?_⟩
  by_cases c2:i+2<=T.length-1+(B.length-1)
  ·obtain⟨c,ec⟩:=eO (l:=B) (i:=i-(T.length-1)+2) (by lia)
   exact⟨c,by rw[jO W (by lia) c2,show i+2-(T.length-1)=i-(T.length-1)+2 by lia];exact ec,bt ea eb ec⟩
  ·have e:i-(T.length-1)+1=B.length-1:=by lia
   obtain⟨c,ec⟩:=eO (l:=T) (i:=1) (by lia)
   have emn:b=mn:=by have:=W.b1;rw[<-e,eb]at this;exact Gv this
   subst emn;refine⟨c,?_,m2 ea eb (by lia) W.t0 ec ?_ ?_ (by lia)⟩
   ·have:=dU W (k:=1) (by lia)
    rw[show (i+2)%(T.dropLast++B.dropLast).length=1%(T.dropLast++B.dropLast).length by rw[hn,show i+2=1+(T.length-1+(B.length-1)) by lia,J3],this]
    exact ec
   ·exact (W.least a (memB ea)).resolve_left (bne ea eb (by lia))
   ·exact (W.least c (Uh ec)).resolve_left (tne ec W.t0 (by lia))
def cd(n q:Int):Int:=-(-n/q)
def unc:List Int->Int×Int
 |[]=>(1,0)
 |b::l=>(b*(unc l).1-(unc l).2,(unc l).1)
structure Lvl(a b:Pt)(g u v s t:Int):Prop where
 g0:0<g
 e1:b.1-a.1=g*u
 e2:b.2-a.2=g*v
 st:s*u+t*v=1
def tx(a c:Pt)(s t:Int):Int:=s*(c.1-a.1)+t*(c.2-a.2)
def ty(a c:Pt)(u v:Int):Int:=u*(c.2-a.2)-v*(c.1-a.1)
def bk(a:Pt)(u v s t x y:Int):Pt:=(u*x-t*y+a.1,v*x+s*y+a.2)
theorem Lvl.area{a b:Pt}{g u v s t:Int}(L:Lvl a b g u v s t)(c:Pt):ae a b c=g*ty a c u v:=by
 have:=L.e1;have:=L.e2;unfold ae ty;grind
theorem Lvl.back{a b:Pt}{g u v s t:Int}(L:Lvl a b g u v s t)(c:Pt):c.1=u*tx a c s t-t*ty a c u v+a.1/\c.2=v*tx a c s t+s*ty a c u v+a.2:=by
 have:=L.st;unfold tx ty;constructor <;>grind
def wth(a b:Int)(p:Pt):Int:=a*p.1+b*p.2
theorem Dg{a b:Int}{u p v:Pt}(hb:b<=0)(h1:plt u p)(h2:plt p v)(h:ae u p v<=0):wth a b p<=wth a b u\/wth a b p<=wth a b v:=by
 rcases GO (wth a b u) (wth a b p) with c1 |c1
 ·rcases GO (wth a b v) (wth a b p) with c2 |c2
  ·exfalso
   have e:(v.1-p.1) *(wth a b p-wth a b u)+(p.1-u.1) *(wth a b p-wth a b v)=-((-b) *(-(ae u p v))):=by unfold wth ae;grind
   have n1:0<=(-b) *(-(ae u p v)):=FQ (by lia) (by lia)
   have d1:0<=p.1-u.1:=by unfold plt at h1;lia
   have d2:0<=v.1-p.1:=by unfold plt at h2;lia
   have m1:0<=(v.1-p.1) *(wth a b p-wth a b u):=FQ d2 (by lia)
   have m2:0<=(p.1-u.1) *(wth a b p-wth a b v):=FQ d1 (by lia)
   rcases GO 0 (p.1-u.1) with d |d
   ·have:=Gi d (show 0<wth a b p-wth a b v by lia)
    lia
   ·have ex:u.1=p.1:=by lia
    have ey:u.2<p.2:=by unfold plt at h1;lia
    have:0<=(-b) *(p.2-u.2):=FQ (by lia) (by lia)
    have e2:wth a b p-wth a b u=-((-b) *(p.2-u.2)):=by unfold wth;rw[ex];grind
    lia
  ·exact .inr c2
 ·exact .inl c1
theorem uD{row:List Pt}(hs:row.Pairwise plt){a b:Int}(hb:b<=0){p:Pt}(hp:p∈row):∃c∈aj row,wth a b p<=wth a b c:=by
 by_cases h:p∈aj row
 ·exact⟨p,h,LG _⟩
 ·obtain⟨u,hu,v,hv,k1,k2,k3⟩:=gap hs hp h;rcases Dg (a:=a) hb k1 k2 k3 with e |e
  ·exact⟨u,hu,e⟩
  ·exact⟨v,hv,e⟩
theorem B8(a b:Int)(p:Pt):wth (-a) (-b) (ng p)=wth a b p:=by unfold wth ng;grind
theorem AR(a b:Int)(p:Pt):wth a b (ng p)=wth (-a) (-b) p:=by unfold wth ng;grind
theorem ye{row:List Pt}(hs:row.Pairwise plt){a b:Int}(hb:0<=b){p:Pt}(hp:p∈row):∃c∈aj row.reverse,wth a b p<=wth a b c:=by
 obtain⟨c,hc,k⟩:=uD (cU hs) (a:=-a) (b:=-b) (by lia) (p:=ng p) (Fs.mpr ⟨p,FM.mpr hp,rfl⟩)
 refine⟨ng c,by rw[bU];exact Fs.mpr ⟨c,hc,rfl⟩,?_⟩
 rw[B8]at k;rw[AR];exact k
theorem qi{pts:List Pt}(a b:Int){p:Pt}(hp:p∈pts):∃c∈am pts,wth a b p<=wth a b c:=by
 have RO:p∈ST.srt pts:=(ST.srt_mem p pts).mpr hp;by_cases h2:2<=(ST.srt pts).length
 ·have hs:=dL pts;obtain⟨mn,mx,t1,t2,e1,e2,m1,m2,_⟩:=ends hs h2;have big:=gC h2;rw[e1,e2]at big;rcases Nk b 0 with hb |hb
  ·obtain⟨c,hc,k⟩:=uD hs (a:=a) hb RO;refine⟨c,?_,k⟩;rw[big];rw[e1]at hc;rcases Fw.mp hc with rfl |hc
   ·exact FG _ (FM.mpr m2)
   ·exact FJ _ (FM.mpr hc)
  ·obtain⟨c,hc,k⟩:=ye hs (a:=a) hb RO;refine⟨c,?_,k⟩;rw[big];rw[e2]at hc;rcases Fw.mp hc with rfl |hc
   ·exact FJ _ (FM.mpr m1)
   ·exact FG _ (FM.mpr hc)
 ·exact⟨p,by rw[cL h2];exact RO,LG _⟩
def hiL:List Int->Int
 |[]=>0
 |a::l=>l.foldl max a
theorem eX:∀(l:List Int) (a:Int),l.foldl max a∈a::l
 |[],a=>by simp
 |b::l,a=>by
  have:=eX l (max a b);rw[Ic];rcases Fw.mp this with e |e
  ·rw[e];rcases Nk a b with h |h
   ·rw[Int.max_eq_right h];simp
   ·rw[Int.max_eq_left h];simp
  ·exact Fn _ (Fn _ e)
theorem fH:∀(l:List Int) (a:Int),∀x∈a::l,x<=l.foldl max a
 |[],a,x,h=>by simp at h;rw[h];exact LG _
 |b::l,a,x,h=>by
  have ih:=fH l (max a b);rw[Ic];have h0:=ih (max a b) Fv;rcases Fw.mp h with rfl |h
  ·lia
  ·rcases Fw.mp h with rfl |h
   ·lia
   ·exact ih x (Fn _ h)
def hiW(a b:Int)(l:List Pt):Int:=hiL (l.map (wth a b))
theorem kQ{l:List Pt}(a b:Int)(h:l≠[]):(∃p∈l,wth a b p=hiW a b l)/\∀p∈l,wth a b p<=hiW a b l:=by
 cases l with
 |nil=>exact absurd rfl h
 |cons q l=>
  refine⟨?_,λp hp=>?_⟩
  ·have:=eX (l.map (wth a b)) (wth a b q);rw[<-FU]at this;obtain⟨p,hp,e⟩:=Fs.mp this;exact⟨p,hp,e⟩
  ·exact fH (l.map (wth a b)) (wth a b q) _ (by rw[<-FU];exact Gz hp)
theorem lR{l:List P2}(h3:3<=(am l).length):2<=(ST.srt l).length:=by
 rcases G7 (ST.srt l).length 2 with h |h
 ·rw[cL (by lia)]at h3;lia
 ·exact h
theorem sZ{l:List P2}{i:Nat}(h:i<l.length):(gp l i,gp l ((i+1)%l.length))∈sdl l:=Fs.mpr ⟨i,FV.mpr h,rfl⟩
theorem jr{l:List P2}{i:Nat}{a:P2}(h:l[i]?=some a):gp l i=a:=by simp[gp,h]
theorem xZ{n i:Nat}:((i+1)%n+1)%n=(i+2)%n:=by rw[M6]
theorem bZ{l:List P2}(h3:3<=(am l).length){s:P2×P2}(hs:s∈sdl (am l)):∀q∈l,0<=ae s.1 s.2 q:=by
 obtain⟨i,hi,rfl⟩:=Fs.mp hs;obtain⟨a,b,e1,e2,cov,_⟩:=ij (lR h3) (FV.mp hi);show ∀q∈l,0<=ae (gp (am l) i) (gp (am l) ((i+1)%(am l).length)) q;rw[jr e1,jr e2];exact cov
theorem fL{l:List P2}(h3:3<=(am l).length){A B:P2}(hs:(A,B)∈sdl (am l)):∃C,(B,C)∈sdl (am l)/\0<ae A B C:=by
 obtain⟨i,hi,e⟩:=Fs.mp hs;have Q9:=FV.mp hi;obtain⟨a,b,e1,e2,_,tu⟩:=ij (lR h3) Q9;obtain⟨c,e3,pos⟩:=tu (by lia)
 have ea:A=a:=by rw[<-jr e1];exact (congrArg LB e).symm
 have eb:B=b:=by rw[<-jr e2];exact (congrArg Nv e).symm
 refine⟨c,?_,by rw[ea,eb];exact pos⟩
 have:=sZ (l:=am l) (i:=(i+1)%(am l).length) (Iw _ (by lia))
 rw[xZ,jr e2,jr e3]at this;rw[eb];exact this
theorem EB{l:List P2}{A:P2}(h:A∈l):∃B,(A,B)∈sdl l:=by
 obtain⟨i,hi⟩:=GZ.mp h;have Q9:=(FA.mp hi).1;have:=sZ Q9;rw[jr hi]at this;exact⟨_,this⟩
theorem tG{l:List P2}{A:P2}(h:A∈l):∃Z,(Z,A)∈sdl l:=by
 obtain⟨i,hi⟩:=GZ.mp h;have Q9:=(FA.mp hi).1;have hj:(i+l.length-1)%l.length<l.length:=Iw _ (by lia)
 have:=sZ hj
 have e:((i+l.length-1)%l.length+1)%l.length=i:=by
  rw[M6,show i+l.length-1+1=i+l.length by lia,J3,F0 Q9]
 rw[e,jr hi]at this;exact⟨_,this⟩
theorem kI{l:List P2}(hn:l.Nodup){A B C:P2}(h1:(A,B)∈sdl l)(h2:(A,C)∈sdl l):B=C:=by
 obtain⟨i,hi,e⟩:=Fs.mp h1;obtain⟨j,hj,e'⟩:=Fs.mp h2;have Q9:=FV.mp hi;have hj':=FV.mp hj;have ea:gp l i=gp l j:=(congrArg LB e).trans (congrArg LB e').symm;have:i=j:=(J2 Q9 hn).mp (by rw[dB Q9,dB hj',ea])
 subst this;exact (congrArg Nv e).symm.trans (congrArg Nv e')
theorem Dd{u1 u2 v1 v2 w1 w2:Int}(hd:0<u1*v2-u2*v1)(h1:u1*w2-u2*w1=0)(h2:v1*w2-v2*w1=0):w1=0/\w2=0:=by
 have e1:(u1*v2-u2*v1) *w1=0:=by
  have:(u1*v2-u2*v1) *w1=v1*(u1*w2-u2*w1)-u1*(v1*w2-v2*w1):=by grind
  rw[this,h1,h2];simp
 have e2:(u1*v2-u2*v1) *w2=0:=by
  have:(u1*v2-u2*v1) *w2=v2*(u1*w2-u2*w1)-u2*(v1*w2-v2*w1):=by grind
  rw[this,h1,h2];simp
 refine⟨?_,?_⟩
 ·rcases F_.mp e1 with h |h
  ·lia
  ·exact h
 ·rcases F_.mp e2 with h |h
  ·lia
  ·exact h
def uN(l:List P2)(p:P2):Prop:=p∈l/\∃a b:Int,∀q∈l,q≠p->wth a b q<wth a b p
theorem eR{l:List P2}{p:P2}(h:uN l p):p∈am l:=by
 obtain⟨hp,a,b,k⟩:=h;obtain⟨c,hc,e⟩:=qi a b hp;by_cases hcp:c=p
 ·rw[<-hcp];exact hc
 ·have:=k c (aV _ c hc) hcp;lia
theorem ce{l:List P2}(h3:3<=(am l).length){p:P2}(hp:p∈am l):uN l p:=by
 obtain⟨Z,hZ⟩:=tG hp;obtain⟨B,hB,pos⟩:=fL h3 hZ;refine⟨aV _ p hp,B.2-Z.2,Z.1-B.1,λq hq Q1=>?_⟩
 have c1:=bZ h3 hZ q hq;have c2:=bZ h3 hB q hq;dsimp only at c1 c2;have e:wth (B.2-Z.2) (Z.1-B.1) q-wth (B.2-Z.2) (Z.1-B.1) p=-(ae Z p q+ae p B q):=by unfold wth ae;grind
 rcases Hm (NI c1 c2) with h |h
 ·lia
 ·exfalso
  have z1:ae Z p q=0:=by lia
  have z2:ae p B q=0:=by lia
  have:=Dd (u1:=p.1-Z.1) (u2:=p.2-Z.2) (v1:=B.1-p.1) (v2:=B.2-p.2) (w1:=q.1-p.1) (w2:=q.2-p.2) (by rw[<-(show ae Z p B=(p.1-Z.1) *(B.2-p.2)-(p.2-Z.2) *(B.1-p.1) by unfold ae;grind)];exact pos) (by rw[<-z1];unfold ae;grind) (by rw[<-z2];unfold ae;grind)
  exact Q1 (GU (by lia) (by lia))
theorem Cl{u1 u2 v1 v2 w1 w2:Int}(h:u1*w2-u2*w1=0):(u1*v2-u2*v1) *w1=(w1*v2-w2*v1) *u1/\(u1*v2-u2*v1) *w2=(w1*v2-w2*v1) *u2:=by
 constructor
 ·have:(u1*v2-u2*v1) *w1-(w1*v2-w2*v1) *u1=v1*(u1*w2-u2*w1):=by grind
  rw[h]at this;simp at this;lia
 ·have:(u1*v2-u2*v1) *w2-(w1*v2-w2*v1) *u2=v2*(u1*w2-u2*w1):=by grind
  rw[h]at this;simp at this;lia
theorem ie{l:List P2}(h3:3<=(am l).length){A B:P2}:(A,B)∈sdl (am l)↔A∈am l/\B∈am l/\A≠B/\∀q∈am l,0<=ae A B q:=by
 constructor
 ·intro h;exact⟨(bv h).1,(bv h).2,we (bp l) (by lia) _ h,λq hq=>bZ h3 h q (aV _ q hq)⟩
 ·rintro ⟨hA,hB,Q1,cov⟩;obtain⟨C,hC⟩:=EB hA;obtain⟨Z,hZ⟩:=tG hA;by_cases hBC:B=C
  ·rw[hBC];exact hC
  ·exfalso
   obtain⟨D,hD,pD⟩:=fL h3 hC;obtain⟨C',hC',pC⟩:=fL h3 hZ;have:C'=C:=kI (bp l) hC' hC;subst this;have mC:=(bv hC).2;have mD:=(bv hD).2;have lB:=aV _ B hB;have k1:=bZ h3 hC B lB;have k2:=cov C' mC;have k3:=bZ h3 hZ B lB;have k4:=bZ h3 hD B lB;dsimp only at k1 k3 k4 mC mD
   have z:(C'.1-A.1) *(B.2-A.2)-(C'.2-A.2) *(B.1-A.1)=0:=by
    have e1:ae A C' B=(C'.1-A.1) *(B.2-A.2)-(C'.2-A.2) *(B.1-A.1):=rfl;have e2:ae A B C'=-((C'.1-A.1) *(B.2-A.2)-(C'.2-A.2) *(B.1-A.1)):=by unfold ae;grind
    omega
   obtain⟨p1,p2⟩:=Cl (v1:=Z.1-A.1) (v2:=Z.2-A.2) z
   have dpos:0<(C'.1-A.1) *(Z.2-A.2)-(C'.2-A.2) *(Z.1-A.1):=by
    rw[<-(show ae Z A C'=(C'.1-A.1) *(Z.2-A.2)-(C'.2-A.2) *(Z.1-A.1) by unfold ae;grind)];exact pC
   have spos:0<=(B.1-A.1) *(Z.2-A.2)-(B.2-A.2) *(Z.1-A.1):=by
    rw[<-(show ae Z A B=(B.1-A.1) *(Z.2-A.2)-(B.2-A.2) *(Z.1-A.1) by unfold ae;grind)];exact k3
   generalize (C'.1-A.1) *(Z.2-A.2)-(C'.2-A.2) *(Z.1-A.1)=d at *;generalize (B.1-A.1) *(Z.2-A.2)-(B.2-A.2) *(Z.1-A.1)=s at *
   have s0:s≠0:=λe=>by
    rw[e,IG]at p1 p2;have q1:=(F_.mp p1).resolve_left (by lia)
    have q2:=(F_.mp p2).resolve_left (by lia)
    exact Q1 (GU (by lia) (by lia))
   have s1:s≠d:=λe=>by
    rw[e]at p1 p2;have q1:=GL (by lia) p1
    have q2:=GL (by lia) p2
    exact hBC (GU (by lia) (by lia))
   have s2:s<=d:=by
    have e:d*ae C' D B=(d-s) *ae A C' D:=by
     have e1:d*ae C' D B=(D.1-C'.1) *(d*(B.2-A.2)-d*(C'.2-A.2))-(D.2-C'.2) *(d*(B.1-A.1)-d*(C'.1-A.1)):=by unfold ae;grind
     rw[e1,p1,p2];unfold ae;grind
    have:0<=d*ae C' D B:=FQ (by lia) k4
    rcases GO d s with h |h
    ·have:0<(s-d) *ae A C' D:=Gi (by lia) pD
     have e3:(d-s) *ae A C' D=-((s-d) *ae A C' D):=by grind
     lia
    ·exact h
   obtain⟨_,a,b,top⟩:=ce h3 hB;have t1:=top A (aV _ A hA) Q1;have t2:=top C' (aV _ C' mC) (λe=>hBC e.symm)
   have w1:d*(wth a b B-wth a b A)=s*(wth a b C'-wth a b A):=by
    have e1:d*(wth a b B-wth a b A)=a*(d*(B.1-A.1))+b*(d*(B.2-A.2)):=by unfold wth;grind
    rw[e1,p1,p2];unfold wth;grind
   have g1:0<d*(wth a b B-wth a b A):=Gi (by lia) (by lia)
   have g2:0<wth a b C'-wth a b A:=by
    rcases GO 0 (wth a b C'-wth a b A) with h |h
    ·exact h
    ·have:0<=s* -(wth a b C'-wth a b A):=FQ (by lia) (by lia)
     have e3:s*(wth a b C'-wth a b A)=-(s* -(wth a b C'-wth a b A)):=by grind
     lia
   have g3:0<(d-s) *(wth a b C'-wth a b A):=Gi (by lia) g2
   have w2:d*(wth a b B-wth a b C')=-((d-s) *(wth a b C'-wth a b A)):=by
    have:d*(wth a b B-wth a b C')=d*(wth a b B-wth a b A)-d*(wth a b C'-wth a b A):=by grind
    rw[this,w1];grind
   have g4:0<d*(wth a b B-wth a b C'):=Gi (by lia) (by lia)
   lia
structure Lin(f:P2->P2)(d:Int):Prop where
 one:d=1\/d=-1
 ex:∃a b c e:Int,a*e-b*c=d/\∀p,f p=(a*p.1+b*p.2,c*p.1+e*p.2)
theorem Lin.det{f:P2->P2}{d:Int}(L:Lin f d)(A B q:P2):ae (f A) (f B) (f q)=d*ae A B q:=by
 obtain⟨a,b,c,e,h,k⟩:=L.ex;rw[k,k,k,<-h];unfold ae;grind
theorem nQ{f:P2->P2}{d:Int}(L:Lin f d)(x y:Int):∃x' y':Int,∀p,wth x' y' (f p)=wth x y p:=by
 obtain⟨a,b,c,e,h,k⟩:=L.ex;refine⟨d*(x*e-y*c),d*(y*a-x*b),λp=>?_⟩
 rw[k];have dd:d*d=1:=by rcases L.one with z |z <;>rw[z] <;>rfl
 have:wth (d*(x*e-y*c)) (d*(y*a-x*b)) (a*p.1+b*p.2,c*p.1+e*p.2)=d*(a*e-b*c) *wth x y p:=by unfold wth;grind
 rw[this,h,dd,Kk]
theorem Lin.inj{f:P2->P2}{d:Int}(L:Lin f d){p q:P2}(e:f p=f q):p=q:=by
 obtain⟨x,y,h⟩:=nQ L 1 0;obtain⟨x',y',h'⟩:=nQ L 0 1;have h1:wth 1 0 p=wth 1 0 q:=by rw[<-h,<-h,e]
 have h2:wth 0 1 p=wth 0 1 q:=by rw[<-h',<-h',e]
 unfold wth at h1 h2;exact GU (by lia) (by lia)
theorem uC{f:P2->P2}{d:Int}(L:Lin f d){l:List P2}{p:P2}(h:uN l p):uN (l.map f) (f p):=by
 obtain⟨hp,a,b,k⟩:=h;obtain⟨x,y,e⟩:=nQ L a b;refine⟨Gz hp,x,y,λq hq Q1=>?_⟩
 obtain⟨r,hr,rfl⟩:=Fs.mp hq;rw[e,e];exact k r hr λz=>Q1 (by rw[z])
theorem yB{f:P2->P2}{d:Int}(L:Lin f d){l:List P2}{p:P2}(hp:p∈l)(h:uN (l.map f) (f p)):uN l p:=by
 obtain⟨_,a,b,k⟩:=h;obtain⟨u,v,w,z,_,kf⟩:=L.ex;refine⟨hp,a*u+b*w,a*v+b*z,λq hq Q1=>?_⟩
 have e:∀r:P2,wth (a*u+b*w) (a*v+b*z) r=wth a b (f r):=λr=>by rw[kf];unfold wth;grind
 rw[e,e];exact k (f q) (Gz hq) λz=>Q1 (L.inj z)
theorem gL{f:P2->P2}{d:Int}(L:Lin f d){l:List P2}(h3:3<=(am l).length):3<=(am (l.map f)).length:=by
 have nd:((am l).map f).Nodup:=IX _ (λa b (h:a≠b) e=>h (L.inj e)) (bp l)
 have:=c_ nd (m:=am (l.map f)) λx hx=>by
  obtain⟨p,hp,rfl⟩:=Fs.mp hx;exact eR (uC L (ce h3 hp))
 rw[Fk]at this;lia
theorem dr{f:P2->P2}{d:Int}(L:Lin f d){l:List P2}(h3:3<=(am l).length)(x:P2):x∈am (l.map f)↔∃p∈am l,f p=x:=by
 constructor
 ·intro h;obtain⟨p,hp,rfl⟩:=Fs.mp (aV _ x h);exact⟨p,eR (yB L hp (ce (gL L h3) h)),rfl⟩
 ·rintro ⟨p,hp,rfl⟩;exact eR (uC L (ce h3 hp))
def sdf(f:P2->P2)(d:Int)(s:P2×P2):P2×P2:=if d=1 then (f s.1,f s.2) else (f s.2,f s.1)
theorem xL{f:P2->P2}{d:Int}(L:Lin f d){l:List P2}(h3:3<=(am l).length)(t:P2×P2):t∈sdl (am (l.map f))↔∃s∈sdl (am l),sdf f d s=t:=by
 have Sm:=gL L h3;have sw:∀A B q:P2,ae B A q=-ae A B q:=λA B q=>by unfold ae;grind
 constructor
 ·intro h;obtain⟨x,y⟩:=t;obtain⟨hx,hy,ne,cov⟩:=(ie Sm).mp h;obtain⟨A,hA,rfl⟩:=(dr L h3 x).mp hx;obtain⟨B,hB,rfl⟩:=(dr L h3 y).mp hy
  have cv:∀q∈am l,0<=d*ae A B q:=λq hq=>by
   have:=cov (f q) ((dr L h3 _).mpr ⟨q,hq,rfl⟩)
   rwa [L.det]at this
  rcases L.one with z |z
  ·refine⟨(A,B),(ie h3).mpr ⟨hA,hB,λe=>ne (by rw[e]),λq hq=>?_⟩,by unfold sdf;rw[if_pos z]⟩
   have:=cv q hq;rw[z]at this;lia
  ·refine⟨(B,A),(ie h3).mpr ⟨hB,hA,λe=>ne (by rw[e]),λq hq=>?_⟩,by unfold sdf;rw[if_neg (by lia)]⟩
   have:=cv q hq;rw[sw];rw[z]at this;lia
 ·rintro ⟨⟨A,B⟩,hs,rfl⟩;obtain⟨hA,hB,ne,cov⟩:=(ie h3).mp hs
  have cv:∀q∈am (l.map f),0<=d*ae (f A) (f B) q:=λq hq=>by
   obtain⟨p,hp,rfl⟩:=(dr L h3 q).mp hq;have:=cov p hp;rw[L.det,<-Int.mul_assoc,show d*d=1 by rcases L.one with z |z <;>rw[z] <;>rfl]
   lia
  unfold sdf;rcases L.one with z |z
  ·rw[if_pos z];refine (ie Sm).mpr ⟨(dr L h3 _).mpr ⟨A,hA,rfl⟩,(dr L h3 _).mpr ⟨B,hB,rfl⟩,λe=>ne (L.inj e),λq hq=>?_⟩
   have:=cv q hq;dsimp only;rw[z]at this;lia
  ·rw[if_neg (by lia)]
   refine (ie Sm).mpr ⟨(dr L h3 _).mpr ⟨B,hB,rfl⟩,(dr L h3 _).mpr ⟨A,hA,rfl⟩,λe=>ne (L.inj e.symm),λq hq=>?_⟩
   have:=cv q hq;dsimp only;rw[sw];rw[z]at this;lia
theorem xF{l:List P2}(hn:l.Nodup):(sdl l).Nodup:=by
 have h:((sdl l).map (·.1)).Nodup:=by rw[nP];exact hn
 exact (Gb.mp h).imp λ{a b} k e=>k (by rw[e])
def ub(s:P2×P2):Int:=(s.2.1-s.1.1)/gst s
def vb(s:P2×P2):Int:=(s.2.2-s.1.2)/gst s
def onS(s:P2×P2)(k:Int):P2:=(s.1.1+k*ub s,s.1.2+k*vb s)
theorem eN(s:P2×P2):s.2.1-s.1.1=gst s*ub s:=by
 unfold ub;have h:gst s ∣ s.2.1-s.1.1:=Ki ..;rw[IQ h]
theorem eK(s:P2×P2):s.2.2-s.1.2=gst s*vb s:=by
 unfold vb;have h:gst s ∣ s.2.2-s.1.2:=J0 ..;rw[IQ h]
theorem xh{s:P2×P2}(h:s.1≠s.2):∃cs ct,Lvl s.1 s.2 (gst s) (ub s) (vb s) cs ct:=by
 have g0:=ca h;obtain⟨cs,ct,G⟩:=kP (s.2.1-s.1.1) (s.2.2-s.1.2);have Ge:cs*(s.2.1-s.1.1)+ct*(s.2.2-s.1.2)=gst s:=G.eq;refine⟨cs,ct,g0,eN s,eK s,?_⟩
 have e:gst s*(cs*ub s+ct*vb s)=gst s*1:=by
  rw[Mo];have:gst s*(cs*ub s+ct*vb s)=cs*(gst s*ub s)+ct*(gst s*vb s):=by grind
  rw[this,<-eN,<-eK];exact Ge
 exact GL (by lia) e
theorem jQ{s:P2×P2}(h:s.1≠s.2){p:P2}(hp:ae s.1 s.2 p=0):∃k,p=onS s k:=by
 obtain⟨cs,ct,L⟩:=xh h
 have z:ty s.1 p (ub s) (vb s)=0:=by
  rw[L.area]at hp;exact (F_.mp hp).resolve_left (by have:=L.g0;lia)
 obtain⟨b1,b2⟩:=L.back p;rw[z]at b1 b2;refine⟨tx s.1 p cs ct,GU ?_ ?_⟩
 ·show p.1=s.1.1+tx s.1 p cs ct*ub s;grind
 ·show p.2=s.1.2+tx s.1 p cs ct*vb s;grind
theorem gg(s:P2×P2)(k:Int)(X Y:P2):gst s*ae X Y (onS s k)=(gst s-k) *ae X Y s.1+k*ae X Y s.2:=by
 have h1:=eN s;have h2:=eK s;have e1:s.2.1=s.1.1+gst s*ub s:=by lia
 have e2:s.2.2=s.1.2+gst s*vb s:=by lia
 unfold onS ae;dsimp only;rw[e1,e2];grind
theorem kZ{s:P2×P2}(h:s.1≠s.2){j k:Int}(e:onS s j=onS s k):j=k:=by
 obtain⟨cs,ct,L⟩:=xh h;have st:=L.st;have e1:s.1.1+j*ub s=s.1.1+k*ub s:=congrArg LB e;have e2:s.1.2+j*vb s=s.1.2+k*vb s:=congrArg Nv e
 have a1:(j - k) *ub s=0:=by have:(j - k) *ub s=j*ub s - k*ub s:=by grind
                             omega
 have a2:(j - k) *vb s=0:=by have:(j - k) *vb s=j*vb s - k*vb s:=by grind
                             omega
 have:(j-k) *(cs*ub s+ct*vb s)=cs*((j-k) *ub s)+ct*((j-k) *vb s):=by grind
 rw[st,a1,a2]at this;simp at this;lia
theorem bh{a b:Int}(ha:0<a)(h:0<=a*b):0<=b:=by
 rcases GO b 0 with z |z
 ·have:=Gi ha (show 0 < -b by lia)
  have e:a* -b=-(a*b):=by grind
  lia
 ·exact z
def spt(s:P2×P2):List P2:=(GG (gst s).toNat).map λ(k:Nat)=>onS s (k:Int)
def apt(l:List P2):List P2:=((sdl l).map spt).flatten
def bdr(l:List P2)(p:P2):Prop:=(∀s∈sdl l,0<=ae s.1 s.2 p)/\∃s∈sdl l,ae s.1 s.2 p=0
theorem At(s:P2×P2):(spt s).length=(gst s).toNat:=by simp[spt]
theorem sW{s:P2×P2}{p:P2}:p∈spt s↔∃k:Int,0<=k/\k<gst s/\p=onS s k:=by
 unfold spt;rw[Fs];constructor
 ·rintro ⟨k,hk,rfl⟩;have:=FV.mp hk;exact⟨k,by lia,by lia,rfl⟩
 ·rintro ⟨k,h0,h1,rfl⟩;exact⟨k.toNat,FV.mpr (by lia),by rw[show ((k.toNat:Nat):Int)=k by lia]⟩
theorem Aq(l:List P2):((apt l).length:Int)=nK l:=by
 unfold apt nK;generalize sdl l=ss
 induction ss with
 |nil=>rfl
 |cons s r ih=>
  rw[FU,List.flatten_cons,FT,FU,MC,At];have:=ro s;lia
section
variable {l:List P2} (h3:3≤(am l).length)
include h3
theorem di{s:P2×P2}(hs:s∈sdl (am l)):s.1≠s.2:=we (bp l) (by lia) s hs
theorem yX{s:P2×P2}(hs:s∈sdl (am l)){k:Int}(k0:0<k)(k1:k<gst s):onS s k ∉ am l:=λh=>by
 obtain⟨_,a,b,top⟩:=ce h3 h;have ne:=di h3 hs
 have w:gst s*(wth a b (onS s k)-wth a b s.1)=k*(wth a b s.2-wth a b s.1):=by
  have h1:=eN s;have h2:=eK s;have e:wth a b s.2-wth a b s.1=a*(s.2.1-s.1.1)+b*(s.2.2-s.1.2):=by unfold wth;grind
  rw[e,h1,h2];unfold wth onS;grind
 have n1:s.1≠onS s k:=λe=>by
  have:onS s 0=onS s k:=by rw[<-e];unfold onS;simp
  have:=kZ ne this;lia
 have n2:s.2≠onS s k:=λe=>by
  have h1:=eN s;have h2:=eK s;have:onS s (gst s)=onS s k:=by rw[<-e];unfold onS;exact GU (by dsimp only;lia) (by dsimp only;lia)
  have:=kZ ne this;lia
 have t1:=top s.1 (aV _ _ (bv hs).1) n1;have t2:=top s.2 (aV _ _ (bv hs).2) n2;have g1:0<gst s*(wth a b (onS s k)-wth a b s.1):=Gi (by lia) (by lia)
 have g2:0<wth a b s.2-wth a b s.1:=by
  rcases GO 0 (wth a b s.2-wth a b s.1) with z |z
  ·exact z
  ·have:=FQ (show 0<=k by lia) (show 0<=-(wth a b s.2-wth a b s.1) by lia)
   have e:k* -(wth a b s.2-wth a b s.1)=-(k*(wth a b s.2-wth a b s.1)):=by grind
   lia
 have g3:k*(wth a b s.2-wth a b s.1)<gst s*(wth a b s.2-wth a b s.1):=Int.mul_lt_mul_of_pos_right k1 g2;have g4:gst s*(wth a b (onS s k)-wth a b s.1)<gst s*(wth a b s.2-wth a b s.1):=by lia
 have:=Int.lt_of_mul_lt_mul_left g4 (by lia)
 lia
theorem yf{s:P2×P2}(hs:s∈sdl (am l)){P:P2}(hP:P∈am l)(h0:ae s.1 s.2 P=0):P=s.1\/P=s.2:=by
 have hb:bdr (am l) P:=⟨λt ht=>bZ h3 ht P (aV _ _ hP),s,hs,h0⟩
 obtain⟨k,e⟩:=jQ (di h3 hs) h0;have ne:=di h3 hs;have g0:=ca ne;obtain⟨A,B⟩:=s;obtain⟨Z,hZ⟩:=tG (bv hs).1;obtain⟨B',hB',pZ⟩:=fL h3 hZ;have:B'=B:=kI (bp l) hB' hs;subst this;obtain⟨C,hC,pC⟩:=fL h3 hs
 have k0:0<=k:=by
  have m:=gg (A,B') k Z A;have z:ae Z A A=0:=by unfold ae;grind
  dsimp only at m;rw[z,G5,Ll,<-e]at m;have:0<=gst (A,B') *ae Z A P:=FQ (by lia) (hb.1 _ hZ)
  rw[m,Li]at this;exact bh pZ this
 have k1:k<=gst (A,B'):=by
  have m:=gg (A,B') k B' C;have z:ae B' C B'=0:=by unfold ae;grind
  have z2:ae B' C A=ae A B' C:=by unfold ae;grind
  dsimp only at m;rw[z,G5,Nl,z2,<-e]at m;have:0<=gst (A,B') *ae B' C P:=FQ (by lia) (hb.1 _ hC)
  rw[m,Li]at this;have:=bh pC this;lia
 rcases Hm k0 with z |z
 ·rcases Hm k1 with w |w
  ·exact absurd (e ▸ hP) (yX h3 hs z w)
  ·right
   rw[e,w];have h1:=eN (A,B');have h2:=eK (A,B');dsimp only at h1 h2;unfold onS;exact GU (by dsimp only;lia) (by dsimp only;lia)
 ·left
  rw[e,<-z];unfold onS;simp
theorem apart{s t:P2×P2}(hs:s∈sdl (am l))(ht:t∈sdl (am l))(RB:s≠t):∀p∈spt s,∀q∈spt t,p≠q:=by
 intro p hp q hq e;subst e;obtain⟨k,k0,k1,rfl⟩:=sW.mp hp;obtain⟨j,j0,j1,e⟩:=sW.mp hq;have gs:=ca (di h3 hs);have gt:=ca (di h3 ht);have mA:=(bv hs).1;have mB:=(bv hs).2
 have key:∀{s t:P2×P2},s∈sdl (am l)->t∈sdl (am l)->∀{k j:Int},0<=k->k<gst s->0<=j->j<gst t->onS s k=onS t j->ae t.1 t.2 s.1=0/\(k=0\/ae t.1 t.2 s.2=0):=λ{s t} hs ht {k j} k0 k1 j0 j1 e=>by
  have z:ae t.1 t.2 (onS s k)=0:=by
   rw[e];have m:=gg t j t.1 t.2;have z1:ae t.1 t.2 t.1=0:=by unfold ae;grind
   have z2:ae t.1 t.2 t.2=0:=by unfold ae;grind
   rw[z1,z2,G5,G5,Nl]at m;have:=ca (di h3 ht);exact (F_.mp m).resolve_left (by lia)
  have m:=gg s k t.1 t.2;rw[z,G5]at m;have c1:=bZ h3 ht s.1 (aV _ _ (bv hs).1);have c2:=bZ h3 ht s.2 (aV _ _ (bv hs).2);have a1:=FQ (show 0<=gst s-k by lia) c1
  have a2:=FQ k0 c2;have b1:(gst s-k) *ae t.1 t.2 s.1=0:=by omega
  have b2:k*ae t.1 t.2 s.2=0:=by lia
  exact⟨(F_.mp b1).resolve_left (by lia),F_.mp b2⟩
 obtain⟨x1,x2⟩:=key hs ht k0 k1 j0 j1 e;obtain⟨y1,y2⟩:=key ht hs j0 j1 k0 k1 e.symm;have nd:=bp l;have o0:∀r:P2×P2,onS r 0=r.1:=λr=>by unfold onS;simp
 rcases x2 with kz |xB
 ·subst kz;rcases y2 with jz |yD
  ·subst jz;rw[o0,o0]at e;obtain⟨A,B⟩:=s;obtain⟨C,D⟩:=t;dsimp only at e;subst e;exact RB (by rw[kI nd hs ht])
  ·rw[o0]at e;rcases Hm j0 with z |z
   ·exact yX h3 ht z j1 (by rw[<-e];exact mA)
   ·rw[<-z,o0]at e;obtain⟨A,B⟩:=s;obtain⟨C,D⟩:=t;dsimp only at e;subst e;exact RB (by rw[kI nd hs ht])
 ·have eA:=yf h3 ht mA x1;have eB:=yf h3 ht mB xB;have ns:=di h3 hs;have nt:=di h3 ht;rcases eA with a |a
  ·obtain⟨A,B⟩:=s;obtain⟨C,D⟩:=t;dsimp only at a;subst a;exact RB (by rw[kI nd hs ht])
  ·rcases eB with b |b
   ·-- the side and the same turned round:a third corner lies at both hands
    obtain⟨C,D⟩:=t;obtain⟨A,B⟩:=s;dsimp only at a b;subst a b;obtain⟨E,hE,pE⟩:=fL h3 hs;have c:=bZ h3 ht E (aV _ _ (bv hE).2);have:ae B A E=-ae A B E:=by unfold ae;grind
    dsimp only at c;lia
   ·exact ns (by rw[a,b])
theorem mK:(apt (am l)).Nodup:=by
 unfold apt;refine Nm.mpr ⟨λq hq=>?_,?_⟩
 ·obtain⟨s,hs,rfl⟩:=Fs.mp hq;unfold spt;refine IX _ (λa b (h:a≠b) e=>h ?_) Lp
  have:=kZ (di h3 hs) e;lia
 ·refine Gb.mpr ?_;exact (xF (bp l)).imp_of_mem λ{s t} hs ht h=>apart h3 hs ht h
end
theorem fK{A B p:P2}(h:ST.ltP A B=true):(ae A B p=0/\ST.leP A p=true/\ST.leP p B=true)↔∃k:Int,0<=k/\k<=gst (A,B)/\p=onS (A,B) k:=by
 have Q1:(A,B).1≠(A,B).2:=λe=>by
  dsimp only at e;subst e;unfold ST.ltP at h;simp at h
 have g0:=ca Q1;have h1:=eN (A,B);have h2:=eK (A,B);dsimp only at h1 h2;unfold ST.ltP at h;have h:=of_decide_eq_true h
 have lex:0<ub (A,B)\/(ub (A,B)=0/\0<vb (A,B)):=by
  rcases h with z |⟨z,w⟩
  ·left
   have:0<gst (A,B) *ub (A,B):=by lia
   exact HW this (by lia)
  ·right
   have e:gst (A,B) *ub (A,B)=0:=by lia
   have:0<gst (A,B) *vb (A,B):=by lia
   exact⟨(F_.mp e).resolve_left (by lia),HW this (by lia)⟩
 have sg:∀k:Int,(ST.leP A (onS (A,B) k)=true↔0<=k)/\(ST.leP (onS (A,B) k) B=true↔k<=gst (A,B)):=λk=>by
  have r:∀m:Int,(0<m*ub (A,B)\/(m*ub (A,B)=0/\0<=m*vb (A,B)))↔0<=m:=λm=>by
   rcases lex with u |⟨u,v⟩
   ·constructor
    ·rintro (z |⟨z,_⟩)
     ·exact OA (Int.pos_of_mul_pos_left z (by lia))
     ·rcases F_.mp z with w |w <;>lia
    ·intro hm;rcases Hm hm with z |z
     ·left;exact Gi z u
     ·right;rw[<-z];simp
   ·rw[u,G5];constructor
    ·rintro (z |⟨_,z⟩)
     ·lia
     ·rw[Li]at z;exact bh v z
    ·intro hm;exact .inr ⟨rfl,FQ hm (by lia)⟩
  have e1:(gst (A,B)-k) *ub (A,B)=B.1-(A.1+k*ub (A,B)):=by
   have:(gst (A,B)-k) *ub (A,B)=gst (A,B) *ub (A,B)-k*ub (A,B):=by grind
   lia
  have e2:(gst (A,B)-k) *vb (A,B)=B.2-(A.2+k*vb (A,B)):=by
   have:(gst (A,B)-k) *vb (A,B)=gst (A,B) *vb (A,B)-k*vb (A,B):=by grind
   lia
  have r1:=r k;have r2:=r (gst (A,B)-k);rw[e1,e2]at r2;unfold ST.leP onS;rw[decide_eq_true_eq,decide_eq_true_eq];dsimp only;constructor
  ·rw[<-r1];omega
  ·rw[show k<=gst (A,B)↔0<=gst (A,B)-k by lia,<-r2];lia
 constructor
 ·rintro ⟨d,a,b⟩;obtain⟨k,rfl⟩:=jQ Q1 d;exact⟨k,(sg k).1.mp a,(sg k).2.mp b,rfl⟩
 ·rintro ⟨k,k0,k1,rfl⟩;refine⟨?_,(sg k).1.mpr k0,(sg k).2.mpr k1⟩;have m:=gg (A,B) k A B;have z1:ae A B A=0:=by unfold ae;grind
  have z2:ae A B B=0:=by unfold ae;grind
  dsimp only at m;rw[z1,z2,G5,G5,Nl]at m;exact (F_.mp m).resolve_left (by lia)
theorem A4{a b c e x y:Int}(h:a*e-b*c=1\/a*e-b*c=-1):Jv (a*x+b*y) (c*x+e*y)=Jv x y:=by
 apply Nat.dvd_antisymm
 ·have h1:((Jv (a*x+b*y) (c*x+e*y):Nat):Int) ∣ a*x+b*y:=Ki ..;have h2:((Jv (a*x+b*y) (c*x+e*y):Nat):Int) ∣ c*x+e*y:=J0 ..;generalize Jv (a*x+b*y) (c*x+e*y)=g at *
  have k1:(g:Int) ∣ (a*e-b*c) *x:=by
   have:(a*e-b*c) *x=e*(a*x+b*y)-b*(c*x+e*y):=by grind
   rw[this];exact MA (GH h1 (GK ..)) (GH h2 (GK ..))
  have k2:(g:Int) ∣ (a*e-b*c) *y:=by
   have:(a*e-b*c) *y=a*(c*x+e*y)-c*(a*x+b*y):=by grind
   rw[this];exact MA (GH h2 (GK ..)) (GH h1 (GK ..))
  have up:∀z:Int,(g:Int) ∣ (a*e-b*c) *z->(g:Int) ∣ z:=λz k=>by
   rcases h with w |w <;>rw[w]at k
   ·rwa [Kk]at k
   ·rw[Int.neg_one_mul]at k;exact NL.mp k
  exact Qt.mp (Nj (up x k1) (up y k2))
 ·have h1:((Jv x y:Nat):Int) ∣ x:=Ki ..;have h2:((Jv x y:Nat):Int) ∣ y:=J0 ..;exact Qt.mp (Nj (JN (GH h1 (GK ..)) (GH h2 (GK ..))) (JN (GH h1 (GK ..)) (GH h2 (GK ..))))
theorem dy(A B:P2):gst (B,A)=gst (A,B):=by
 unfold gst;dsimp only;rw[show A.1-B.1=-(B.1-A.1) by lia,show A.2-B.2=-(B.2-A.2) by lia,Int.gcd_neg,Int.neg_gcd]
theorem Bm{f:P2->P2}{d:Int}(L:Lin f d)(s:P2×P2):gst (sdf f d s)=gst s:=by
 obtain⟨A,B⟩:=s
 have key:gst (f A,f B)=gst (A,B):=by
  obtain⟨a,b,c,e,h,k⟩:=L.ex;unfold gst;rw[k,k];dsimp only;rw[show a*B.1+b*B.2-(a*A.1+b*A.2)=a*(B.1-A.1)+b*(B.2-A.2) by grind,show c*B.1+e*B.2-(c*A.1+e*A.2)=c*(B.1-A.1)+e*(B.2-A.2) by grind]
  rw[A4 (by rw[h];exact L.one)]
 unfold sdf;split
 ·exact key
 ·exact (dy _ _).trans key
theorem rX(l:List P2):sdl l=OS l (l.drop 1++l.take 1):=by
 have h1:=nP l;have h2:=rY l
 have:sdl l=OS ((sdl l).map (·.1)) ((sdl l).map (·.2)):=by
  generalize sdl l=s
  induction s with
  |nil=>rfl
  |cons x r ih=>simp only[FU,Il];rw[<-ih]
 rw[h1,h2]at this;exact this
theorem mi{l:List P2}{k:Int}{i:Nat}(e:k=(i:Int))(h:i<l.length):atI (l.map pu) k=some (pu (gp l i)):=oC e (by rw[Ft,dB h];rfl)
theorem Szp.mono{m n:Nat}{p:P2}(h:Szp m p)(le:m<=n):Szp n p:=⟨h.1.mono le,h.2.mono le⟩
def prv(l:List P2)(j:Nat):P2:=gp l ((j+l.length-1)%l.length)
theorem zh{l:List P2}{j:Nat}(h:j<l.length):atI (l.map pu) ((0+(j:Int))-1)=some (pu (prv l j)):=by
 unfold prv;by_cases h0:j=0
 ·subst h0;rw[show (0+l.length-1)%l.length=l.length-1 from by rw[F0] <;>lia]
  exact um h
 ·rw[show (j+l.length-1)%l.length=j-1 from by rw[show j+l.length-1=(j-1)+l.length by lia,J3,F0 (by lia)]]
  exact mi (by lia) (by lia)
theorem zR{l:List P2}{j:Nat}(h:j<l.length):prv l j∈l:=fP (Iw _ (by lia))
theorem wD{l:List P2}{j:Nat}(h:j<l.length):(prv l j,gp l j)∈sdl l:=by
 have hi:(j+l.length-1)%l.length<l.length:=Iw _ (by lia)
 refine Fs.mpr ⟨(j+l.length-1)%l.length,FV.mpr hi,?_⟩;unfold prv nxt;congr 2;by_cases h0:j=0
 ·subst h0;rw[show (0+l.length-1)%l.length=l.length-1 from by rw[F0] <;>lia,show l.length-1+1=l.length by lia,Lk]
 ·rw[show (j+l.length-1)%l.length=j-1 from by rw[show j+l.length-1=(j-1)+l.length by lia,J3,F0 (by lia)],show j-1+1=j by lia,F0 h]
theorem zC{l:List P2}{s:P2×P2}(hs:s∈sdl l):∃j,j<l.length/\s=(prv l j,gp l j):=by
 obtain⟨i,hi,rfl⟩:=Fs.mp hs;have Q9:=FV.mp hi;refine⟨(i+1)%l.length,Iw _ (by lia),?_⟩
 unfold prv nxt;congr 2;by_cases hk:i+1<l.length
 ·rw[F0 hk,show i+1+l.length-1=i+l.length by lia,J3,F0 Q9]
 ·rw[show i+1=l.length by lia,Lk,show 0+l.length-1=i by lia,F0 Q9]
def pvl(l:List P2):List (P2×P2):=(GG l.length).map λj=>(prv l j,gp l j)
theorem AG(l:List P2):(pvl l).length=l.length:=by simp[pvl]
theorem Bt{l:List P2}(s:P2×P2):s∈pvl l↔s∈sdl l:=by
 constructor
 ·intro h;obtain⟨j,hj,rfl⟩:=Fs.mp h;exact wD (FV.mp hj)
 ·intro h;obtain⟨j,hj,rfl⟩:=zC h;exact Fs.mpr ⟨j,FV.mpr hj,rfl⟩
theorem CA{l:List P2}(hn:l.Nodup):(pvl l).Nodup:=by
 have e:(pvl l).map (·.2)=l:=by
  apply IA;intro i;unfold pvl;rw[F5];by_cases hi:i<l.length
  ·rw[Ft,G9 hi,dB hi];rfl
  ·rw[F9 (by simp;lia),F9 (by lia)]
 have h:((pvl l).map (·.2)).Nodup:=by rw[e];exact hn
 exact (Gb.mp h).imp λ{a b} k e=>k (by rw[e])
theorem xR{l:List P2}(hn:l.Nodup):Ik (pvl l) (sdl l):=(Hy (CA hn) (xF hn)).mpr λs=>Bt s
theorem zT(Z P B q:P2)(a b:Int):ae Z P B*(wth a b q-wth a b P)=-(ae P B q*(wth a b P-wth a b Z))-ae Z P q*(wth a b P-wth a b B):=by unfold ae wth;grind
theorem sE{l:List P2}(h3:3<=(am l).length)(a b:Int):∃Z P B,(Z,P)∈sdl (am l)/\(P,B)∈sdl (am l)/\0<ae Z P B/\wth a b P=hiW a b (am l)/\wth a b Z<=wth a b P/\wth a b B<=wth a b P:=by
 obtain⟨⟨P,hP,e⟩,k⟩:=kQ a b (l:=am l) (λz=>by rw[z]at h3;simp at h3)
 obtain⟨Z,hZ⟩:=tG hP;obtain⟨B,hB,pos⟩:=fL h3 hZ;refine⟨Z,P,B,hZ,hB,pos,e,?_,?_⟩
 ·rw[e];exact k Z (bv hZ).1
 ·rw[e];exact k B (bv hB).2
theorem B6{l:List P2}(h3:3<=(am l).length)(a b:Int){q:P2}(hq:∀s∈sdl (am l),0<=ae s.1 s.2 q):wth a b q<=hiW a b (am l):=by
 obtain⟨Z,P,B,hZ,hB,pos,e,k1,k2⟩:=sE h3 a b;rw[<-e];have i1:0<=ae P B q*(wth a b P-wth a b Z):=FQ (hq _ hB) (by lia)
 have i2:0<=ae Z P q*(wth a b P-wth a b B):=FQ (hq _ hZ) (by lia)
 have pe:=zT Z P B q a b;rcases GO (wth a b P) (wth a b q) with h |h
 ·have:=Gi pos (show 0<wth a b q-wth a b P by lia)
  lia
 ·exact h
def inn(l:List P2)(p:P2):Prop:=∀s∈sdl l,0<ae s.1 s.2 p
def rimF(l:List P2):Int:=if l.length<3 then gst (gp l 0,gp l (l.length-1))+1 else nK l
def ox(a:Int)(n:Nat):List Int:=(GG n).map λ(i:Nat)=>a+(i:Int)
def zf(x:Int)(n:Nat)(y:Int)(m:Nat):List P2:=((ox x n).map λa=>(ox y m).map λb=>(a,b)).flatten
theorem fk{a:Int}{n:Nat}{x:Int}:x∈ox a n↔a<=x/\x<a+n:=by
 unfold ox;rw[Fs];constructor
 ·rintro ⟨i,hi,rfl⟩;have:=FV.mp hi;lia
 ·rintro ⟨h1,h2⟩;exact⟨(x-a).toNat,FV.mpr (by lia),by lia⟩
theorem nq(a:Int)(n:Nat):(ox a n).Nodup:=by
 unfold ox;exact IX _ (λi j (h:i≠j) e=>h (by lia)) Lp
theorem wT{x y:Int}{n m:Nat}{p:P2}:p∈zf x n y m↔(x<=p.1/\p.1<x+n)/\y<=p.2/\p.2<y+m:=by
 unfold zf;rw[OO];constructor
 ·rintro ⟨q,hq,hp⟩;obtain⟨a,ha,rfl⟩:=Fs.mp hq;obtain⟨b,hb,rfl⟩:=Fs.mp hp;exact⟨fk.mp ha,fk.mp hb⟩
 ·rintro ⟨h1,h2⟩;exact⟨_,Fs.mpr ⟨p.1,fk.mpr h1,rfl⟩,Fs.mpr ⟨p.2,fk.mpr h2,rfl⟩⟩
theorem A0(x:Int)(n:Nat)(y:Int)(m:Nat):(zf x n y m).Nodup:=by
 unfold zf;refine Nm.mpr ⟨λq hq=>?_,?_⟩
 ·obtain⟨a,_,rfl⟩:=Fs.mp hq;exact IX _ (λi j (h:i≠j) e=>h (congrArg Nv e)) (nq y m)
 ·refine Gb.mpr ((nq x n).imp λ{a b} h p hp q hq e=>?_)
  obtain⟨_,_,rfl⟩:=Fs.mp hp;obtain⟨_,_,rfl⟩:=Fs.mp hq;exact h (congrArg LB e)
def loX(l:List P2):Int:=qE (l.map (·.1))
def hiX(l:List P2):Int:=hiL (l.map (·.1))
def loY(l:List P2):Int:=qE (l.map (·.2))
def hiY(l:List P2):Int:=hiL (l.map (·.2))
theorem dg{l:List Int}(h:l≠[]):hiL l∈l/\∀a∈l,a<=hiL l:=by
 cases l with
 |nil=>exact absurd rfl h
 |cons a l=>exact⟨eX l a,fH l a⟩
def bxN(l:List P2):Nat:=(hiX l+1-loX l).toNat
def byN(l:List P2):Nat:=(hiY l+1-loY l).toNat
def box(l:List P2):List P2:=zf (loX l) (bxN l) (loY l) (byN l)
theorem eM{l:List P2}(Q1:l≠[]){p:P2}:p∈box l↔(loX l<=p.1/\p.1<=hiX l)/\loY l<=p.2/\p.2<=hiY l:=by
 unfold box bxN byN;rw[wT];lia
theorem qW{A B:List P2}(hA:A.Nodup)(hB:B.Nodup)(h:∀p,p∈A↔p∈B):A.length=B.length:=((Hy hA hB).mpr h).length_eq
theorem wL{l:List P2}(h3:3<=(am l).length){p:P2}(h:∀s∈sdl (am l),0<=ae s.1 s.2 p):p∈box (am l):=by
 have Q1:am l≠[]:=λz=>by rw[z]at h3;simp at h3
 have key:∀a b:Int,∃q∈am l,wth a b p<=wth a b q:=λa b=>by
  obtain⟨⟨q,hq,e⟩,_⟩:=kQ a b Q1;exact⟨q,hq,by rw[e];exact B6 h3 a b h⟩
 have hx:(am l).map (·.1)≠[]:=by simpa using Q1
 have hy:(am l).map (·.2)≠[]:=by simpa using Q1
 obtain⟨q1,m1,k1⟩:=key 1 0;obtain⟨q2,m2,k2⟩:=key (-1) 0;obtain⟨q3,m3,k3⟩:=key 0 1;obtain⟨q4,m4,k4⟩:=key 0 (-1);have a1:=(dg hx).2 q1.1 (Gz m1);have a2:=(cJ hx).2 q2.1 (Gz m2);have a3:=(dg hy).2 q3.2 (Gz m3);have a4:=(cJ hy).2 q4.2 (Gz m4);unfold wth at k1 k2 k3 k4;rw[eM Q1];unfold loX hiX loY hiY;lia
theorem Ag(A:P2):box [A]=[A]:=by
 have h:∀p,p∈box [A]↔p∈[A]:=λp=>by
  rw[eM (by simp),Fy]
  unfold loX hiX loY hiY qE hiL;simp only[FU,M4,List.foldl_nil];constructor
  ·intro h;exact GU (by lia) (by lia)
  ·rintro rfl;lia
 have hp:=(Hy (A0 _ _ _ _) (by simp:[A].Nodup)).mpr h
 exact List.perm_singleton.mp hp
theorem Br{A B p:P2}(h:ST.ltP A B=true):(p∈box [A,B]/\ae A B p=0)↔∃k:Int,0<=k/\k<=gst (A,B)/\p=onS (A,B) k:=by
 rw[<-fK h,eM (by simp)]
 have lt:=h;unfold ST.ltP at lt;have lt:=of_decide_eq_true lt;have e1:loX [A,B]=A.1:=by show min A.1 B.1=A.1;lia
 have e2:hiX [A,B]=B.1:=by show max A.1 B.1=B.1;lia
 have e3:loY [A,B]=min A.2 B.2:=rfl;have e4:hiY [A,B]=max A.2 B.2:=rfl;rw[e1,e2,e3,e4];unfold ST.leP;rw[decide_eq_true_eq,decide_eq_true_eq];constructor
 ·rintro ⟨⟨⟨a1,a2⟩,b1,b2⟩,d⟩;refine⟨d,?_,?_⟩
  ·rcases Hm a1 with z |z
   ·exact .inl z
   ·right
    refine⟨z,?_⟩;rcases lt with w |⟨w,w'⟩
    ·unfold ae at d;rw[<-z,Int.sub_self,G5,Nn]at d;have:=(F_.mp d).resolve_left (by lia)
     lia
    ·lia
  ·rcases Hm a2 with z |z
   ·exact .inl z
   ·right
    refine⟨z,?_⟩;rcases lt with w |⟨w,w'⟩
    ·have d':(B.1-A.1) *(p.2-B.2)=0:=by
      have:ae A B p=(B.1-A.1) *(p.2-B.2):=by unfold ae;rw[z];grind
      lia
     have:=(F_.mp d').resolve_left (by lia)
     lia
    ·lia
 ·rintro ⟨d,a,b⟩;refine⟨⟨⟨by lia,by lia⟩,?_⟩,d⟩
  rcases lt with w |⟨w,w'⟩
  ·have hd:(B.1-A.1) *(p.2-A.2)=(B.2-A.2) *(p.1-A.1):=by unfold ae at d;lia
   have R9:(B.1-A.1) *(B.2-p.2)=(B.2-A.2) *(B.1-p.1):=by grind
   rcases Nk A.2 B.2 with u |u
   ·have x1:=FQ (show 0<=B.2-A.2 by lia) (show 0<=p.1-A.1 by lia)
    have x2:=FQ (show 0<=B.2-A.2 by lia) (show 0<=B.1-p.1 by lia)
    rw[<-hd]at x1;rw[<-R9]at x2;have y1:=bh (by lia) x1
    have y2:=bh (by lia) x2
    lia
   ·have x1:=FQ (show 0<=A.2-B.2 by lia) (show 0<=p.1-A.1 by lia)
    have x2:=FQ (show 0<=A.2-B.2 by lia) (show 0<=B.1-p.1 by lia)
    have f1:(A.2-B.2) *(p.1-A.1)=(B.1-A.1) *(A.2-p.2):=by grind
    have f2:(A.2-B.2) *(B.1-p.1)=(B.1-A.1) *(p.2-B.2):=by grind
    rw[f1]at x1;rw[f2]at x2;have y1:=bh (by lia) x1
    have y2:=bh (by lia) x2
    lia
  ·lia
theorem Ax(A B:P2):sdl [A,B]=[(A,B),(B,A)]:=by
 unfold sdl nxt;simp[Ph]
theorem vw{A B:P2}(h:am [A,B]=[A,B]):ST.ltP A B=true:=by
 have nd:[A,B].Nodup:=by rw[<-h];exact bp _
 have ne:A≠B:=by simpa using nd
 have asc:=ST.srt_asc [A,B];have hm:=λz=>ST.srt_mem z [A,B]
 match e:ST.srt [A,B],asc,hm with
 |[],_,hm=>have:=(hm A).mpr (by simp);simp at this
 |[X],_,hm=>
  have a:=(hm A).mpr (by simp)
  have b:=(hm B).mpr (by simp)
  rw[Fy]at a b;exact absurd (a.trans b.symm) ne
 |X::Y::[],asc,_=>
  have c:am [A,B]=[X,Y]:=by unfold am;rw[e];simp[aj,aR]
  rw[h]at c;injection c with c1 c2
  injection c2 with c2 _
  subst c1 c2;exact (Gg.mp asc).1 _ (by simp)
 |X::Y::Z::r,_,_=>
  have:=ST.srt_len [A,B];rw[e]at this;simp at this
def nA(l:List P2):Int:=pin l+rimF l
def TP:List P2->Prop
 |[]=>True
 |a::v=>(v.Pairwise λx y=>0<ae a x y)/\TP v
theorem Ai(f:P2->P2)(l:List P2):sdl (l.map f)=(sdl l).map λs=>(f s.1,f s.2):=by
 rw[rX,rX,<-N3,<-N2,<-Gr];generalize l.drop 1++l.take 1=m
 induction l generalizing m with
 |nil=>rfl
 |cons a l ih=>
  cases m with
  |nil=>simp
  |cons b m=>simp only[FU,Il];rw[ih]
theorem mE{a b:P2}(h:ST.ltP a b=true):am [a,b]=[a,b]:=by
 have e:ST.srt [a,b]=[a,b]:=ST.asc_srt (by simp[ST.Asc,h])
 unfold am;rw[e];simp[aj,aR]
def dw(l:List P2)(p:P2):Bool:=if l.length=1 then decide (p=gp l 0) else if l.length=2 then (decide (ae (gp l 0) (gp l 1) p=0) && (ST.leP (gp l 0) p && ST.leP p (gp l 1))) else (sdl l).all λs=>decide (0<=ae s.1 s.2 p)
theorem dF{l:List P2}(h3:3<=l.length)(p:P2):dw l p=true↔∀s∈sdl l,0<=ae s.1 s.2 p:=by
 unfold dw;rw[if_neg (by lia),if_neg (by lia),Lo]
 simp only[decide_eq_true_eq]
theorem jf(A B p:P2):dw [A,B] p=true↔ae A B p=0/\ST.leP A p=true/\ST.leP p B=true:=by
 unfold dw;rw[if_neg (by simp),if_pos (by simp),Hu,Hu,decide_eq_true_eq]
 rfl
theorem iX(A p:P2):dw [A] p=true↔p=A:=by
 unfold dw;rw[if_pos (by simp),decide_eq_true_eq];rfl
theorem CU{A B:P2}(h:ST.ltP A B=true):A.1<B.1\/(A.1=B.1/\A.2<B.2):=by
 unfold ST.ltP at h;exact of_decide_eq_true h
theorem wm{A B:P2}(h:ST.ltP A B=true):loX [A,B]=A.1/\hiX [A,B]=B.1/\loY [A,B]=min A.2 B.2/\hiY [A,B]=max A.2 B.2:=by
 have:=CU h;exact⟨(by show min A.1 B.1=A.1;lia),(by show max A.1 B.1=B.1;lia),rfl,rfl⟩
theorem AT{A B:P2}(h:ST.ltP A B=true){p:P2}(hp:dw [A,B] p=true):p∈box [A,B]:=by
 have:=(jf A B p).mp hp;exact ((Br h).mpr ((fK h).mp this)).1
structure Fld(l:List P2):Prop where
 ne:l≠[]
 cr:am l=l
theorem Fld.cases{l:List P2}(F:Fld l):(∃A,l=[A])\/(∃A B,l=[A,B]/\ST.ltP A B=true)\/3<=(am l).length:=by
 match l,F with
 |[],F=>exact absurd rfl F.ne
 |[A],_=>exact .inl ⟨A,rfl⟩
 |[A,B],F=>exact .inr (.inl ⟨A,B,rfl,vw F.cr⟩)
 |A::B::C::r,F=>exact .inr (.inr (by rw[F.cr];simp))
theorem Fld.in_box{l:List P2}(F:Fld l){p:P2}(h:dw l p=true):p∈box l:=by
 rcases F.cases with ⟨A,rfl⟩ |⟨A,B,rfl,lt⟩ |h3
 ·rw[(iX A p).mp h,Ag];simp
 ·exact AT lt h
 ·rw[<-F.cr]at h |-;exact wL h3 ((dF h3 p).mp h)
def shf(s a b:Int)(p:P2):P2:=(p.1+a,p.2+s*p.1+b)
theorem A1(s a b:Int)(p q:P2)(h:plt p q):plt (shf s a b p) (shf s a b q):=by
 unfold plt shf at *;dsimp only;rcases h with h |⟨h,k⟩
 ·left;lia
 ·right;rw[h];lia
theorem nS(s a b:Int)(p q r:P2):ae (shf s a b p) (shf s a b q) (shf s a b r)=ae p q r:=by unfold ae shf;grind
theorem AJ{s a b:Int}{p q:P2}(e:shf s a b p=shf s a b q):p=q:=by
 have e1:p.1+a=q.1+a:=congrArg LB e;have e2:p.2+s*p.1+b=q.2+s*q.1+b:=congrArg Nv e;have e1:p.1=q.1:=by lia
 rw[e1]at e2;exact GU e1 (by lia)
theorem oG(s a b:Int)(l:List P2):am (l.map (shf s a b))=(am l).map (shf s a b):=yU (A1 s a b) (λp q r=>by rw[nS]) l
theorem ur(s a b:Int)(p q:P2):ST.leP (shf s a b p) (shf s a b q)=ST.leP p q:=by
 unfold ST.leP shf;dsimp only;rw[IC,decide_eq_true_eq,decide_eq_true_eq];constructor
 ·rintro (h |⟨h,k⟩)
  ·left;lia
  ·right
   have:p.1=q.1:=by lia
   rw[this]at k;lia
 ·rintro (h |⟨h,k⟩)
  ·left;lia
  ·right;rw[h];lia
theorem qB{f:P2->P2}{l:List P2}{i:Nat}(h:i<l.length):gp (l.map f) i=f (gp l i):=by simp[gp,h]
theorem CG(s a b:Int)(l:List P2)(Q1:l≠[])(p:P2):dw (l.map (shf s a b)) (shf s a b p)=dw l p:=by
 have h0:0<l.length:=G0.mpr Q1;unfold dw;rw[Fk];by_cases h1:l.length=1
 ·rw[if_pos h1,if_pos h1,qB h0];exact decide_eq_decide.mpr ⟨AJ,λe=>by rw[e]⟩
 ·rw[if_neg h1,if_neg h1];by_cases h2:l.length=2
  ·rw[if_pos h2,if_pos h2,qB h0,qB (show 1<l.length by lia),nS,ur,ur]
  ·rw[if_neg h2,if_neg h2,Ai,Qx];congr 1
   funext t
   show decide (0<=ae (shf s a b t.1) (shf s a b t.2) (shf s a b p))=_;rw[nS]
theorem ve{pts:List P2}(Q1:pts≠[]):∃mn mx,(am pts)[0]?=some mn/\mn∈pts/\mx∈pts/\(∀q∈pts,ST.ltP q mn=false)/\(∀q∈pts,ST.ltP mx q=false)/\(¬ 2<(am pts).length->(am pts)[(am pts).length-1]?=some mx):=by
 have no:∀{a b:P2},(a=b\/plt a b)->ST.ltP b a=false:=λ{a b} h=>by
  rw[ST.ltP_no];rcases h with rfl |h
  ·lia
  ·unfold plt at h;lia
 by_cases h2:2<=(ST.srt pts).length
 ·have hs:=dL pts;obtain⟨mn,mx,W⟩:=ways hs h2
  have hc:am pts=(aj (ST.srt pts)).reverse.dropLast++(aj (ST.srt pts).reverse).reverse.dropLast:=by
   unfold am;rw[if_neg (by lia)]
  have Uh:mn∈ST.srt pts:=bN _ _ (FM.mp (FD W.t0));have memX:mx∈ST.srt pts:=bN _ _ (FM.mp (FD W.t1));refine⟨mn,mx,?_,(ST.srt_mem _ _).mp Uh,(ST.srt_mem _ _).mp memX,λq hq=>no ((W.least q ((ST.srt_mem _ _).mpr hq)).imp (λe=>e.symm) id),λq hq=>no (W.most q ((ST.srt_mem _ _).mpr hq)),λh=>?_⟩
  ·have:=dU W (k:=0) (by lia)
   rw[QA]at this;rw[hc,this];exact W.t0
  ·rw[hc]at h |-;have h1:=W.lt;have h3:=W.lb;have hn:((aj (ST.srt pts)).reverse.dropLast++(aj (ST.srt pts).reverse).reverse.dropLast).length=(aj (ST.srt pts)).reverse.length-1+((aj (ST.srt pts).reverse).reverse.length-1):=by simp
   have:=dU W (k:=(aj (ST.srt pts)).reverse.length-1) (Fu _);rw[W.t1,F0 (by lia)]at this
   rw[<-this];congr 1;lia
 ·have h1:(ST.srt pts).length=1:=by
   obtain⟨x,hx⟩:=List.exists_mem_of_ne_nil pts Q1;have:=GV ((ST.srt_mem x pts).mpr hx);lia
  obtain⟨x,hx⟩:=KL.mp h1;have all:∀q∈pts,q=x:=λq hq=>by have:=(ST.srt_mem q pts).mpr hq;rw[hx]at this;simpa using this
  have mx:x∈pts:=(ST.srt_mem _ _).mp (by rw[hx];simp)
  rw[cL h2,hx];exact⟨x,x,rfl,mx,mx,λq hq=>no (.inl (all q hq).symm),λq hq=>no (.inl (all q hq)),λ_=>rfl⟩
theorem s_{f:P2->P2}{d:Int}(L:Lin f d)(A B:P2):gst (f A,f B)=gst (A,B):=by
 have:=Bm L (A,B);unfold sdf at this;split at this
 ·exact this
 ·rw[<-dy];exact this
theorem xl{f:P2->P2}{d:Int}(L:Lin f d){A B:P2}(h:A≠B)(k:Int):onS (f A,f B) k=f (onS (A,B) k):=by
 have g0:0<gst (A,B):=ca h;have e1:=eN (A,B);have e2:=eK (A,B);have eg:=s_ L A B;obtain⟨a,b,c,e,_,hf⟩:=L.ex
 have u1:ub (f A,f B)=a*ub (A,B)+b*vb (A,B):=by
  unfold ub;rw[eg];dsimp only at *;rw[hf,hf];dsimp only
  rw[show a*B.1+b*B.2-(a*A.1+b*A.2)=gst (A,B) *(a*ub (A,B)+b*vb (A,B)) by
   have:a*B.1+b*B.2-(a*A.1+b*A.2)=a*(B.1-A.1)+b*(B.2-A.2):=by grind
   rw[this,e1,e2];grind]
  rw[HV _ (by lia)]
  rfl
 have v1:vb (f A,f B)=c*ub (A,B)+e*vb (A,B):=by
  unfold vb;rw[eg];dsimp only at *;rw[hf,hf];dsimp only
  rw[show c*B.1+e*B.2-(c*A.1+e*A.2)=gst (A,B) *(c*ub (A,B)+e*vb (A,B)) by
   have:c*B.1+e*B.2-(c*A.1+e*A.2)=c*(B.1-A.1)+e*(B.2-A.2):=by grind
   rw[this,e1,e2];grind]
  rw[HV _ (by lia)]
  rfl
 unfold onS;rw[u1,v1];dsimp only;rw[hf,hf];dsimp only;exact GU (by dsimp only;grind) (by dsimp only;grind)
theorem Ar{A B:P2}(h:A≠B)(k:Int):onS (B,A) k=onS (A,B) (gst (A,B)-k):=by
 have e1:=eN (A,B);have e2:=eK (A,B);have e3:=eN (B,A);have e4:=eK (B,A);have g0:0<gst (A,B):=ca h;rw[dy]at e3 e4;dsimp only at *;have u:ub (B,A)=-ub (A,B):=GL (a:=gst (A,B)) (by lia) (by rw[NN];lia)
 have v:vb (B,A)=-vb (A,B):=GL (a:=gst (A,B)) (by lia) (by rw[NN];lia)
 unfold onS;rw[u,v];dsimp only;exact GU (by dsimp only;grind) (by dsimp only;grind)
def pJ(A B p:P2):Prop:=∃k:Int,0<=k/\k<=gst (A,B)/\p=onS (A,B) k
theorem xM{A B:P2}(h:A≠B)(p:P2):pJ B A p↔pJ A B p:=by
 have key:∀{A B:P2},A≠B->pJ B A p->pJ A B p:=λ{A B} h ⟨k,k0,k1,e⟩=>by
  rw[dy]at k1;exact⟨gst (A,B)-k,by lia,by lia,by rw[e,Ar h]⟩
 exact⟨key h,key h.symm⟩
theorem Bg{f:P2->P2}{d:Int}(L:Lin f d){A B:P2}(h:A≠B)(p:P2):pJ (f A) (f B) (f p)↔pJ A B p:=by
 unfold pJ;rw[s_ L];constructor
 ·rintro ⟨k,k0,k1,e⟩;exact⟨k,k0,k1,L.inj (by rw[e,xl L h])⟩
 ·rintro ⟨k,k0,k1,e⟩;exact⟨k,k0,k1,by rw[e,xl L h]⟩
theorem rO{A B:P2}(h:ST.ltP A B=true)(p:P2):dw [A,B] p=true↔pJ A B p:=by rw[jf,fK h];rfl
theorem ke{A B:P2}(h:A≠B):(ST.ltP A B=true/\am [A,B]=[A,B])\/(ST.ltP B A=true/\am [A,B]=[B,A]):=by
 by_cases hl:ST.ltP A B=true
 ·exact .inl ⟨hl,mE hl⟩
 ·have hb:=ST.ltP_tot h (by simpa using hl)
  refine .inr ⟨hb,?_⟩;rw[rD (l5 (m:=[B,A]) λz=>by simp[or_comm]),mE hb]
theorem Di{f:P2->P2}{d:Int}(L:Lin f d){l:List P2}(F:Fld l)(p:P2):dw (am (l.map f)) (f p)=dw l p:=by
 rw[IC];rcases F.cases with ⟨A,rfl⟩ |⟨A,B,rfl,lt⟩ |h3
 ·have e:am ([A].map f)=[f A]:=rfl;rw[e,iX,iX];exact⟨λh=>L.inj h,λh=>by rw[h]⟩
 ·have ne:A≠B:=λe=>by rw[e,ST.asc_irr]at lt;cases lt
  have ne':f A≠f B:=λe=>ne (L.inj e)
  rw[rO lt,<-Bg L ne];show dw (am [f A,f B]) (f p)=true↔_;rcases ke ne' with ⟨h,e⟩ |⟨h,e⟩
  ·rw[e,rO h]
  ·rw[e,rO h,xM ne']
 ·have l3:=gL L h3;have Sm:3<=l.length:=by rw[<-F.cr];exact h3
  rw[dF l3,dF Sm];constructor
  ·intro h s hs;have:=h _ ((xL L h3 _).mpr ⟨s,by rw[F.cr];exact hs,rfl⟩)
   unfold sdf at this;rcases L.one with e |e
   ·rw[if_pos e]at this;dsimp only at this;rw[L.det,e,Kk]at this;exact this
   ·rw[if_neg (by lia)]at this
    dsimp only at this;rw[L.det,e]at this;have sw:ae s.2 s.1 p=-ae s.1 s.2 p:=by unfold ae;grind
    lia
  ·intro h t ht;obtain⟨s,hs,rfl⟩:=(xL L h3 t).mp ht;have k:=h s (by rw[F.cr]at hs;exact hs)
   unfold sdf;rcases L.one with e |e
   ·rw[if_pos e];dsimp only;rw[L.det,e,Kk];exact k
   ·rw[if_neg (by lia)]
    dsimp only;rw[L.det,e];have sw:ae s.2 s.1 p=-ae s.1 s.2 p:=by unfold ae;grind
    lia
theorem wG{a b c d:Int}(h:a*d-b*c=1\/a*d-b*c=-1):Lin (λp:P2=>(a*p.1+b*p.2,c*p.1+d*p.2)) (a*d-b*c):=⟨h,a,b,c,d,rfl,λ_=>rfl⟩
theorem oN(a b c d e f:Int)(l:List P2):l.map (ap a b c d e f)=(l.map λp:P2=>(a*p.1+b*p.2,c*p.1+d*p.2)).map (shf 0 e f):=by
 rw[F5];refine List.map_congr_left λp _=>?_
 unfold ap shf;exact GU rfl (by dsimp only[Function.comp];lia)
theorem EF{a b c d:Int}(e f:Int)(h:a*d-b*c=1\/a*d-b*c=-1){l:List P2}(F:Fld l)(p:P2):dw (am (l.map (ap a b c d e f))) (ap a b c d e f p)=dw l p:=by
 rw[oN,oG]
 have hp:ap a b c d e f p=shf 0 e f (a*p.1+b*p.2,c*p.1+d*p.2):=by
  unfold ap shf;exact GU rfl (by dsimp only;lia)
 rw[hp,CG _ _ _ _ (iJ (by simpa using F.ne))]
 exact Di (wG h) F p
theorem DI{a b c d:Int}(e f:Int){l:List P2}(F:Fld l):Fld (am (l.map (ap a b c d e f))):=⟨iJ (by simpa using F.ne),gI _⟩
theorem Cv{a b c d e f:Int}(h:a*d-b*c=1\/a*d-b*c=-1)(q:P2):∃p,ap a b c d e f p=q:=by
 rcases h with h |h
 ·refine⟨(d*(q.1-e)-b*(q.2-f),a*(q.2-f)-c*(q.1-e)),?_⟩;unfold ap;refine GU ?_ ?_
  ·dsimp only;have:a*(d*(q.1-e)-b*(q.2-f))+b*(a*(q.2-f)-c*(q.1-e))=(a*d-b*c) *(q.1-e):=by grind
   rw[this,h];lia
  ·dsimp only;have:c*(d*(q.1-e)-b*(q.2-f))+d*(a*(q.2-f)-c*(q.1-e))=(a*d-b*c) *(q.2-f):=by grind
   rw[this,h];lia
 ·refine⟨(-(d*(q.1-e)-b*(q.2-f)),-(a*(q.2-f)-c*(q.1-e))),?_⟩;unfold ap;refine GU ?_ ?_
  ·dsimp only;have:a* -(d*(q.1-e)-b*(q.2-f))+b* -(a*(q.2-f)-c*(q.1-e))=-((a*d-b*c) *(q.1-e)):=by grind
   rw[this,h];lia
  ·dsimp only;have:c* -(d*(q.1-e)-b*(q.2-f))+d* -(a*(q.2-f)-c*(q.1-e))=-((a*d-b*c) *(q.2-f)):=by grind
   rw[this,h];lia
def j_(s:P2×P2)(y:Int):Int:=(s.2.1-s.1.1) *(y-s.1.2)
def xW(y:Int)(s:P2×P2):Int:=s.1.1+j_ s y/(s.2.2-s.1.2)
def zB(y:Int)(s:P2×P2):Int:=s.1.1-j_ s y / -(s.2.2-s.1.2)
def cW(l:List P2)(ss:List (P2×P2))(y:Int):List Int:=hiX l::(ss.filter λs=>decide (0<s.2.2-s.1.2)).map (xW y)
def cY(l:List P2)(ss:List (P2×P2))(y:Int):List Int:=loX l::(ss.filter λs=>decide (s.2.2-s.1.2<0)).map (zB y)
def lC(l:List P2)(y:Int):Int:=qE (cW l (sdl l) y)
def fV(l:List P2)(y:Int):Int:=hiL (cY l (sdl l) y)
theorem jT(s:P2×P2)(x y:Int):ae s.1 s.2 (x,y)=j_ s y-(s.2.2-s.1.2) *(x-s.1.1):=by unfold ae j_;grind
theorem uv{s:P2×P2}{x y:Int}(h:0<s.2.2-s.1.2):0<=ae s.1 s.2 (x,y)↔x<=xW y s:=by
 rw[jT];unfold xW;have k:x-s.1.1<=j_ s y/(s.2.2-s.1.2)↔(x-s.1.1) *(s.2.2-s.1.2)<=j_ s y:=MT h;rw[Li]at k;lia
theorem sO{s:P2×P2}{x y:Int}(h:s.2.2-s.1.2<0):0<=ae s.1 s.2 (x,y)↔zB y s<=x:=by
 rw[jT];unfold zB;have k:s.1.1-x<=j_ s y / -(s.2.2-s.1.2)↔(s.1.1-x) * -(s.2.2-s.1.2)<=j_ s y:=MT (by lia)
 have e:(s.1.1-x) * -(s.2.2-s.1.2)=(s.2.2-s.1.2) *(x-s.1.1):=by grind
 rw[e]at k;lia
theorem tJ{l:List P2}{ss:List (P2×P2)}{x y:Int}:x<=qE (cW l ss y)↔x<=hiX l/\∀s∈ss,0<s.2.2-s.1.2->x<=xW y s:=by
 have ok:=cJ (l:=cW l ss y) (by unfold cW;simp)
 constructor
 ·intro h;refine⟨Np h (ok.2 _ (by unfold cW;simp)),λs hs hr=>Np h (ok.2 _ ?_)⟩
  unfold cW;exact Fn _ (Gz (GP.mpr ⟨hs,decide_eq_true hr⟩))
 ·rintro ⟨h1,h2⟩;have m:=ok.1;unfold cW at m;rcases Fw.mp m with e |e
  ·unfold cW;rw[e];exact h1
  ·obtain⟨s,hs,e2⟩:=Fs.mp e;obtain⟨hs,hr⟩:=GP.mp hs;unfold cW;rw[<-e2];exact h2 s hs (of_decide_eq_true hr)
theorem tF{l:List P2}{ss:List (P2×P2)}{x y:Int}:hiL (cY l ss y)<=x↔loX l<=x/\∀s∈ss,s.2.2-s.1.2<0->zB y s<=x:=by
 have ok:=dg (l:=cY l ss y) (by unfold cY;simp)
 constructor
 ·intro h;refine⟨Np (ok.2 _ (by unfold cY;simp)) h,λs hs hr=>Np (ok.2 _ ?_) h⟩
  unfold cY;exact Fn _ (Gz (GP.mpr ⟨hs,decide_eq_true hr⟩))
 ·rintro ⟨h1,h2⟩;have m:=ok.1;unfold cY at m;rcases Fw.mp m with e |e
  ·unfold cY;rw[e];exact h1
  ·obtain⟨s,hs,e2⟩:=Fs.mp e;obtain⟨hs,hr⟩:=GP.mp hs;unfold cY;rw[<-e2];exact h2 s hs (of_decide_eq_true hr)
theorem zl{l:List P2}(Q1:l≠[]):∃q∈l,q.2=loY l:=by
 obtain⟨q,hq,e⟩:=Fs.mp (cJ (l:=l.map (·.2)) (by simpa using Q1)).1
 exact⟨q,hq,e⟩
theorem zd{l:List P2}(Q1:l≠[]):∃q∈l,q.2=hiY l:=by
 obtain⟨q,hq,e⟩:=Fs.mp (dg (l:=l.map (·.2)) (by simpa using Q1)).1
 exact⟨q,hq,e⟩
theorem xo{l:List P2}(F:Fld l)(h3:3<=l.length){x y:Int}(y0:loY l<=y)(y1:y<=hiY l):dw l (x,y)=true↔fV l y<=x/\x<=lC l y:=by
 have hc:=F.cr;have c3:3<=(am l).length:=by rw[hc];exact h3
 unfold fV lC;rw[tJ,tF];constructor
 ·intro h;have d:=(dF h3 _).mp h;have b:=(eM F.ne).mp (F.in_box h);exact⟨⟨b.1.1,λs hs hr=>(sO hr).mp (d s hs)⟩,b.1.2,λs hs hr=>(uv hr).mp (d s hs)⟩
 ·rintro ⟨⟨_,hb⟩,_,he⟩;refine (dF h3 _).mpr λs hs=>?_
  rcases GO 0 (s.2.2-s.1.2) with z |z
  ·exact (uv z).mpr (he s hs z)
  ·rcases GO (s.2.2-s.1.2) 0 with w |w
   ·exact (sO w).mpr (hb s hs w)
   ·have e0:s.2.2-s.1.2=0:=by lia
    have cov:∀q∈l,0<=(s.2.1-s.1.1) *(q.2-s.1.2):=λq hq=>by
     have k:=bZ c3 (by rw[hc];exact hs) q hq
     have:=jT s q.1 q.2;rw[e0,IG,Nn]at this;rw[<-show j_ s q.2=(s.2.1-s.1.1) *(q.2-s.1.2) from rfl,<-this]
     exact k
    rw[jT,e0,IG,Nn];show 0<=(s.2.1-s.1.1) *(y-s.1.2);rcases GO 0 (s.2.1-s.1.1) with u |u
    ·obtain⟨q,hq,eq⟩:=zl F.ne;have k:=II (cov q hq) u;exact FQ (by lia) (by lia)
    ·rcases GO (s.2.1-s.1.1) 0 with v |v
     ·obtain⟨q,hq,eq⟩:=zd F.ne;have c:=cov q hq;have e2:(s.2.1-s.1.1) *(q.2-s.1.2)=(-(s.2.1-s.1.1)) *(s.1.2-q.2):=by grind
      rw[e2]at c;have k:=II c (by lia)
      have e3:(s.2.1-s.1.1) *(y-s.1.2)=(-(s.2.1-s.1.1)) *(s.1.2-y):=by grind
      rw[e3];exact FQ (by lia) (by lia)
     ·rw[show s.2.1-s.1.1=0 by lia,IG];exact LG _
theorem n_{a b:P2}:ST.leP a b=true↔a.1<b.1\/(a.1=b.1/\a.2<=b.2):=by unfold ST.leP;exact decide_eq_true_iff
theorem ya{A B:P2}(lt:ST.ltP A B=true)(h:A.2=B.2){x y:Int}(hy:y=A.2):dw [A,B] (x,y)=true↔fV [A,B] y<=x/\x<=lC [A,B] y:=by
 obtain⟨b1,b2,_,_⟩:=wm lt;unfold fV lC;rw[tJ,tF,jf,Ax,b1,b2];have hl:=CU lt;constructor
 ·rintro ⟨_,h1,h2⟩;rw[n_]at h1 h2;dsimp only at h1 h2;refine⟨⟨by lia,λs hs hr=>?_⟩,by lia,λs hs hr=>?_⟩
  ·simp at hs;rcases hs with rfl |rfl <;>dsimp only at hr <;>lia
  ·simp at hs;rcases hs with rfl |rfl <;>dsimp only at hr <;>lia
 ·rintro ⟨⟨h1,_⟩,h2,_⟩;rw[n_,n_];dsimp only;refine⟨?_,by lia,by lia⟩
  unfold ae;rw[hy,<-h];grind
def lh(l:List P2)(y:Int):List P2:=(ox (fV l y) (lC l y+1-fV l y).toNat).map λx=>(x,y)
def eo(l:List P2)(n:Nat):List P2:=((GG n).map λy:Nat=>lh l (0+(y:Int))).flatten
theorem fj{l:List P2}{y:Int}{p:P2}:p∈lh l y↔p.2=y/\fV l y<=p.1/\p.1<=lC l y:=by
 unfold lh;rw[Fs];constructor
 ·rintro ⟨x,hx,rfl⟩;have:=fk.mp hx;exact⟨rfl,by lia,by lia⟩
 ·rintro ⟨e,h1,h2⟩;exact⟨p.1,fk.mpr ⟨h1,by lia⟩,by rw[<-e]⟩
theorem dN{l:List P2}{n:Nat}{p:P2}:p∈eo l n↔(0<=p.2/\p.2<n)/\fV l p.2<=p.1/\p.1<=lC l p.2:=by
 unfold eo;rw[OO];constructor
 ·rintro ⟨r,hr,hp⟩;obtain⟨y,hy,rfl⟩:=Fs.mp hr;have:=FV.mp hy;obtain⟨e,h1,h2⟩:=fj.mp hp;rw[<-e]at h1 h2;exact⟨by lia,h1,h2⟩
 ·rintro ⟨h0,h1,h2⟩;exact⟨_,Fs.mpr ⟨p.2.toNat,FV.mpr (by lia),rfl⟩,fj.mpr ⟨by lia,by rw[show 0+(p.2.toNat:Int)=p.2 by lia];exact⟨h1,h2⟩⟩⟩
theorem uu(l:List P2)(y:Int):(lh l y).Nodup:=IX _ (λa b h e=>h (congrArg LB e)) (nq _ _)
theorem j8(l:List P2)(n:Nat):eo l (n+1)=eo l n++lh l (0+(n:Int)):=by
 unfold eo;rw[Ph,Gr,List.flatten_append];simp
theorem km(l:List P2):∀n,(eo l n).Nodup
 |0=>by unfold eo;simp
 |n+1=>by
  rw[j8];refine Gm.mpr ⟨km l n,uu l _,λa ha b hb e=>?_⟩
  have h1:=dN.mp ha;have h2:=(fj.mp hb).1;rw[<-e]at h2;lia
structure Lev(l:List P2):Prop where
 F:Fld l
 y0:loY l=0
 two:l.length=2->hiY l=0
 ne1:2<=l.length
theorem kM{l:List P2}(L:Lev l)(p:P2):p∈eo l (hiY l+1).toNat↔dw l p=true:=by
 obtain⟨q,hq,eq⟩:=zl L.F.ne
 have hh:0<=hiY l:=by
  have:=(dg (l:=l.map (·.2)) (by simpa using L.F.ne)).2 q.2 (Gz hq)
  have e:=L.y0;unfold hiY;lia
 rw[dN]
 have key:0<=p.2->p.2<=hiY l->(dw l (p.1,p.2)=true↔fV l p.2<=p.1/\p.1<=lC l p.2):=λh0 h1=>by
  rcases L.F.cases with ⟨A,rfl⟩ |⟨A,B,e,lt⟩ |h3
  ·have:=L.ne1;simp at this
  ·subst e;obtain⟨_,_,b3,b4⟩:=wm lt;have t:=L.two rfl;have y0:=L.y0;exact ya lt (by lia) (by lia)
  ·exact xo L.F (by rw[<-L.F.cr];exact h3) (by rw[L.y0];exact h0) h1
 constructor
 ·rintro ⟨h0,h1⟩;exact (key h0.1 (by lia)).mpr h1
 ·intro h;have b:=(eM L.F.ne).mp (L.F.in_box h);rw[L.y0]at b;exact⟨by lia,(key b.2.1 b.2.2).mp h⟩
structure LvP(a b:P2)(g u v s t:Int):Prop where
 gp:0<g
 hu:g*u=b.1-a.1
 hv:g*v=b.2-a.2
 st:s*u+t*v=1
abbrev lvF(a:P2)(u v s t:Int):P2->P2:=ap s t (-v) u (-s*a.1-t*a.2) (v*a.1-u*a.2)
abbrev bkF(a:P2)(u v s t:Int):P2->P2:=ap u (-t) v s a.1 a.2
theorem tZ{a b:P2}{g u v s t:Int}(L:LvP a b g u v s t)(p:P2):bkF a u v s t (lvF a u v s t p)=p/\lvF a u v s t (bkF a u v s t p)=p:=by
 have h:=L.st;unfold bkF lvF ap;refine⟨GU ?_ ?_,GU ?_ ?_⟩ <;>dsimp only
 ·have:u*(s*p.1+t*p.2+(-s*a.1-t*a.2))+-t*(-v*p.1+u*p.2+(v*a.1-u*a.2))+a.1=(s*u+t*v) *p.1-(s*u+t*v) *a.1+a.1:=by grind
  rw[this,h];lia
 ·have:v*(s*p.1+t*p.2+(-s*a.1-t*a.2))+s*(-v*p.1+u*p.2+(v*a.1-u*a.2))+a.2=(s*u+t*v) *p.2-(s*u+t*v) *a.2+a.2:=by grind
  rw[this,h];lia
 ·have:s*(u*p.1+-t*p.2+a.1)+t*(v*p.1+s*p.2+a.2)+(-s*a.1-t*a.2)=(s*u+t*v) *p.1:=by grind
  rw[this,h];lia
 ·have:-v*(u*p.1+-t*p.2+a.1)+u*(v*p.1+s*p.2+a.2)+(v*a.1-u*a.2)=(s*u+t*v) *p.2:=by grind
  rw[this,h];lia
theorem Cz{a b:P2}{g u v s t:Int}(L:LvP a b g u v s t)(q:P2):g*(lvF a u v s t q).2=ae a b q:=by
 unfold lvF ap ae;dsimp only;rw[<-L.hu,<-L.hv];grind
theorem yk{l:List P2}(F:Fld l)(h2:2<=l.length){g u v s t:Int}(L:LvP (gp l 0) (gp l 1) g u v s t):Lev (am (l.map (lvF (gp l 0) u v s t))):=by
 have hd:s*u-t* -v=1:=by have:=L.st;grind
 have F':=DI (a:=s) (b:=t) (c:=-v) (d:=u) (-s*(gp l 0).1-t*(gp l 0).2) (v*(gp l 0).1-u*(gp l 0).2) F;have hg:=L.gp;have im0:lvF (gp l 0) u v s t (gp l 0)=(0,0):=by unfold lvF ap;refine GU ?_ ?_ <;>dsimp only <;>grind
 have up:∀q∈l,0<=(lvF (gp l 0) u v s t q).2:=λq hq=>by
  have e:=Cz L q
  have k:0<=ae (gp l 0) (gp l 1) q:=by
   rcases F.cases with ⟨A,rfl⟩ |⟨A,B,rfl,lt⟩ |h3
   ·simp at h2
   ·simp at hq;rcases hq with rfl |rfl
    ·show 0<=ae q B q;unfold ae;grind
    ·show 0<=ae A q q;unfold ae;grind
   ·have c3:3<=l.length:=by rw[<-F.cr];exact h3
    have hs:=sZ (l:=l) (i:=0) (by lia)
    rw[show (0+1)%l.length=1 from F0 (by lia)]at hs
    exact bZ h3 (by rw[F.cr];exact hs) q hq
  rw[<-e]at k;exact II k hg
 have g0:gp l 0∈l:=fP (by lia)
 have yb:∀q∈am (l.map (lvF (gp l 0) u v s t)),0<=q.2:=λq hq=>by
  obtain⟨p,hp,rfl⟩:=Fs.mp (aV _ q hq);exact up p hp
 have len3:3<=l.length->3<=(am (l.map (lvF (gp l 0) u v s t))).length:=λh3=>by
  unfold lvF;rw[oN,oG,Fk];exact gL (wG (.inl hd)) (by rw[F.cr];exact h3)
 have two:∀A B,l=[A,B]->ST.ltP A B=true->am (l.map (lvF (gp l 0) u v s t))=[(0,0),(g,0)]:=λA B e lt=>by
  subst e
  have im1:lvF A u v s t B=(g,0):=by
   have k1:=L.hu;have k2:=L.hv;have k3:=L.st;have k1':g*u=B.1-A.1:=k1;have k2':g*v=B.2-A.2:=k2;unfold lvF ap;refine GU ?_ ?_ <;>dsimp only
   ·have:s*B.1+t*B.2+(-s*A.1-t*A.2)=s*(B.1-A.1)+t*(B.2-A.2):=by grind
    rw[this,<-k1',<-k2'];have:s*(g*u)+t*(g*v)=g*(s*u+t*v):=by grind
    rw[this,k3,Mo]
   ·have:-v*B.1+u*B.2+(v*A.1-u*A.2)=u*(B.2-A.2)-v*(B.1-A.1):=by grind
    rw[this,<-k1',<-k2'];grind
  have im0':lvF A u v s t A=(0,0):=im0;show am [lvF A u v s t A,lvF A u v s t B]=_;rw[im0',im1];rcases ke (A:=(0,0)) (B:=(g,0)) (λe=>by have:=congrArg LB e;dsimp only at this;lia) with ⟨_,e⟩ |⟨z,_⟩
  ·exact e
  ·have:=CU z;dsimp only at this;lia
 refine⟨F',?_,λe=>?_,?_⟩
 ·obtain⟨c,hc,k⟩:=qi 0 (-1) (Gz (f:=lvF (gp l 0) u v s t) g0);rw[im0]at k;unfold wth at k;dsimp only at k;have c0:=yb c hc;have ok:=cJ (l:=(am (l.map (lvF (gp l 0) u v s t))).map (·.2)) (by simpa using F'.ne)
  have le:=ok.2 c.2 (Gz (f:=λp:P2=>p.2) hc)
  obtain⟨d,R9,ed⟩:=Fs.mp ok.1;have:=yb d R9;unfold loY;lia
 ·rcases F.cases with ⟨A,rfl⟩ |⟨A,B,e2,lt⟩ |h3
  ·simp at h2
  ·rw[two A B e2 lt];rfl
  ·have:=len3 (by rw[<-F.cr];exact h3);lia
 ·rcases F.cases with ⟨A,rfl⟩ |⟨A,B,e2,lt⟩ |h3
  ·simp at h2
  ·rw[two A B e2 lt];exact Fu _
  ·have:=len3 (by rw[<-F.cr];exact h3);lia
noncomputable def yt(l:List P2)(u v s t:Int):List P2:=(eo (am (l.map (lvF (gp l 0) u v s t))) (hiY (am (l.map (lvF (gp l 0) u v s t)))+1).toNat).map (bkF (gp l 0) u v s t)
theorem ud{l:List P2}(F:Fld l)(h2:2<=l.length){g u v s t:Int}(L:LvP (gp l 0) (gp l 1) g u v s t)(p:P2):p∈yt l u v s t↔dw l p=true:=by
 have hd:s*u-t* -v=1:=by have:=L.st;grind
 have iw:=λq=>EF (a:=s) (b:=t) (c:=-v) (d:=u) (-s*(gp l 0).1-t*(gp l 0).2) (v*(gp l 0).1-u*(gp l 0).2) (.inl hd) F q
 have V:=yk F h2 L;unfold yt;rw[Fs];constructor
 ·rintro ⟨q,hq,rfl⟩;have k:=(kM V q).mp hq;rw[<-(tZ L q).2]at k;rw[<-iw];exact k
 ·intro h;exact⟨lvF (gp l 0) u v s t p,(kM V _).mpr (by rw[iw];exact h),(tZ L p).1⟩
theorem wQ{l:List P2}{g u v s t:Int}(L:LvP (gp l 0) (gp l 1) g u v s t):(yt l u v s t).Nodup:=
 IX _ (λa b h e=>h (by rw[<-(tZ L a).2,<-(tZ L b).2,e])) (km _ _)
def aN(l:List P2):List P2:=ST.srt ((box l).filter λp=>dw l p)
theorem ck{l:List P2}(F:Fld l)(p:P2):p∈aN l↔dw l p=true:=by
 unfold aN;rw[ST.srt_mem,GP];exact⟨λh=>h.2,λh=>⟨F.in_box h,h⟩⟩
theorem jJ{l R:List P2}(F:Fld l)(h:∀p,p∈R↔dw l p=true):ST.srt R=aN l:=by
 unfold aN;refine l5 λp=>?_
 rw[h,GP];exact⟨λk=>⟨F.in_box k,k⟩,λk=>k.2⟩
def y9:List U->Out->Prop:=λus o=>∃l:List P2,us=[lp l]/\0<l.length/\l.length<=900/\(∀p∈l,Szp 2500 p)/\o=.val (.int (rimF l))
theorem xf(T:Txt w K mg):bg P w K mg base (CXF P w) 4 T.aaT.a T.aaT.d ["land"] (spU K (y9)):=by
 refine be T.aaT.F qI (λus o h=>?_) (λQ6 A outer s H E O us o hr h=>?_)
 ·obtain⟨l,rfl,h0,hl,sz,rfl⟩:=h;rfl
 obtain⟨l,rfl,h0,hl,sz,rfl⟩:=h;refine Ws.nox ?_;have hm:((l.map pu).length:Int)=(l.length:Int):=by rw[Fk]
 unfold rimF;by_cases h3:l.length<3
 ·rw[if_pos h3];refine af (fS (aI ic (av (bX rfl) rfl T.aak Gd (ah (aa 0 rfl) ao ai)) ag) (by rw[hm];exact decide_eq_true (by lia)) ?_)
  have z0:=sz _ (fP h0);have z1:=sz _ (fP (l:=l) (i:=l.length-1) (by lia))
  obtain⟨cs,ct,G⟩:=kP ((gp l (l.length-1)).1-(gp l 0).1) ((gp l (l.length-1)).2-(gp l 0).2);refine af (bj (bR (aH ((ku T).mono (by decide)) hr rfl T.aau.m T.aau.F.kp T.aau.b aD (ah (aB (aa 0 rfl) ag rfl (Fb h0)) (ah (aB (aa 0 rfl) (cq ag) rfl (um h0)) ao aZ) aZ) ⟨_,_,_,_,_,cs,ct,rfl,⟨z0.1.mono (by decide),z0.2.mono (by decide),z1.1.mono (by decide),z1.2.mono (by decide)⟩,G,rfl⟩) ag) ?_)
  exact rfl
 ·rw[if_neg h3];refine af (bQ (aI ic (av (bX rfl) rfl T.aak Gd (ah (aa 0 rfl) ao ai)) ag) (by rw[hm];exact decide_eq_false (by lia)) (aG ?_))
  refine af (bj (av (yP rfl ) rfl T.aa3 boot_sum (ah (EvN.ev (eT (ys:=(((sdl l).map gst).map U.int)) rfl (blk (ak wt) ["land","A","B"] [1,2] rfl rfl rfl rfl (by decide+kernel)) (cM (EvN.ev (b9 ((kS T).mono (by decide)) hr rfl T.aaw.m T.aaw.F.kp T.aaw.b aD (ah (aa 0 rfl) ao ai) ⟨l,rfl,hl,rfl⟩)) (.inl rfl)) (λ_ _ _ _=>qA rfl (cG (br (i:=1) qI.nd rfl (Or.inl rfl)) (cG (br (i:=2) qI.nd rfl (Or.inl rfl)) iI))) (r_ (js:=[1,2]) (by decide)) ?clen ?csz ?dom ?celt)) ao eI)) ?_)
  case clen=>simp
  case csz=>simp only[nY,Fk];exact GW (aJ (by lia))
  case dom=>
   intro x hx;obtain⟨s,_,rfl⟩:=Fs.mp hx;exact⟨_,rfl,rfl⟩
  case celt=>
   intro C s' H' fp j x y hx hy;rw[F5]at hy;obtain⟨s,hs,ms,rfl,rfl⟩:=im hx hy;obtain⟨m1,m2⟩:=bv ms;obtain⟨cs,ct,G⟩:=kP (s.2.1-s.1.1) (s.2.2-s.1.2);exact (aH ((ku T).mono (by decide)) hr rfl T.aau.m T.aau.F.kp T.aau.b aD (ah (aa 1 rfl) (ah (aa 2 rfl) ao ai) ai) ⟨_,_,_,_,_,cs,ct,rfl,⟨(sz _ m1).1.mono (by decide),(sz _ m1).2.mono (by decide),(sz _ m2).1.mono (by decide),(sz _ m2).2.mono (by decide)⟩,G,rfl⟩)
  exact rfl
theorem wN{m n:Nat}{k:Int}{p:P2}(sk:Sz n k)(s:Szp m p):Szp (n+m) (scl k p):=⟨L2.Sz.mul sk s.1,L2.Sz.mul sk s.2⟩
def vS:List U->Out->Prop:=λus o=>∃(pts:List P2) (k:Int),us=[lp pts,.int k]/\Sz 1000 k/\(∀p∈pts,Szp 3000 p)/\pts≠[]/\pts.length<64/\o=.new ((am (pts.map (scl k))).map pu)
theorem zO(T:Txt w K mg):bg P w K mg base (CXF P w) 5 T.aaR.a T.aaR.d ["land","k"] (spU K (vS)):=by
 refine be T.aaR.F sS (λus o h=>?_) (λQ6 A outer s H E O us o hr h=>?_)
 ·obtain⟨pts,k,rfl,sk,sz,Q1,hl,rfl⟩:=h;rfl
 obtain⟨pts,k,rfl,sk,sz,Q1,hl,rfl⟩:=h;refine Ws.nox ?_;refine af (c8 (b9 ((kN T).mono (by decide)) hr rfl T.aav.m T.aav.F.kp T.aav.b aD (ah (EvN.ev (eT (ys:=(pts.map λp=>pu (scl k p))) rfl (blk (ak qY) ["land","k","P"] [2] rfl rfl rfl rfl (by decide+kernel)) (cM (aa 0 rfl) (.inl rfl)) (λ_ _ _ _=>br (i:=2) sS.nd rfl (Or.inl rfl)) (cX (by decide)) ?clen ?csz (λ_ _=>trivial) ?celt)) ao eI) ⟨pts.map (scl k),by rw[lp,F5];rfl,λp hp=>by obtain⟨q,hq,rfl⟩:=Fs.mp hp;have z:=wN sk (sz q hq);exact⟨z.1.mono (by decide),z.2.mono (by decide)⟩,by rw[Fk];exact hl,by simpa using Q1,rfl⟩) ?_)
 case clen=>simp
 case csz=>rw[Fk];exact GW (aJ (by lia))
 case celt=>
  intro C s' H' fp j x y hx hy;obtain⟨p,hp,mp,rfl,rfl⟩:=im hx hy;have s1:=(sz p mp).1;have s2:=(sz p mp).2;exact (bW (ay (bn (aa 1 rfl) (aB (aa 2 rfl) ag rfl rfl) (by walk_at"mul")) (ay (bn (aa 1 rfl) (aB (aa 2 rfl) ag rfl rfl) (by walk_at"mul")) bA bq) bq))
 exact rfl
def vF:List U->Out->Prop:=λus o=>∃(pts:List P2) (k:Int),us=[lp pts,.int k]/\0<=k/\Sz 1000 k/\(∀p∈pts,Szp 3000 p)/\pts≠[]/\pts.length<64/\o=.new ((am (pts.map (scl k))).map pu)
theorem pN(T:Txt w K mg):bg P w K mg base (CXF P w) 6 T.aaA.a T.aaA.d ["land","k"] (spU K (vF)):=by
 refine be T.aaA.F qk (λus o h=>?_) (λQ6 A outer s H E O us o hr h=>?_)
 ·obtain⟨pts,k,rfl,k0,sk,sz,Q1,hl,rfl⟩:=h;rfl
 obtain⟨pts,k,rfl,k0,sk,sz,Q1,hl,rfl⟩:=h;refine Ws.nox ?_;refine af (bQ (aI ic (aa 1 rfl) ag) (decide_eq_false (by lia)) (aG ?_))
 refine af (c8 (b9 ((zO T).mono (by decide)) hr rfl T.aaR.m T.aaR.F.kp T.aaR.b aD (ah (aa 0 rfl) (ah (aa 1 rfl) ao ai) ai) ⟨pts,k,rfl,sk,sz,Q1,hl,rfl⟩) ?_)
 exact rfl
def xq:List U->Out->Prop:=λus o=>∃l:List P2,us=[lp l]/\l.length<=900/\(∀p∈l,Szp 2500 p)/\o=.val (.int (pin l))
theorem nI(T:Txt w K mg):bg P w K mg base (CXF P w) 5 T.aaq.a T.aaq.d ["land"] (spU K (xq)):=by
 refine be T.aaq.F nL (λus o h=>?_) (λQ6 A outer s H E O us o hr h=>?_)
 ·obtain⟨l,rfl,hl,sz,rfl⟩:=h;rfl
 obtain⟨l,rfl,hl,sz,rfl⟩:=h;refine Ws.nox ?_;have hm:((l.map pu).length:Int)=(l.length:Int):=by rw[Fk]
 by_cases h3:l.length<3
 ·refine af (fS (aI ic (av (bX rfl) rfl T.aak Gd (ah (aa 0 rfl) ao ai)) ag) (by rw[hm];exact decide_eq_true (by lia)) ?_)
  refine af (bj ag ?_);exact vIO (by unfold pin;rw[if_pos h3])
 ·refine af (bQ (aI ic (av (bX rfl) rfl T.aak Gd (ah (aa 0 rfl) ao ai)) ag) (by rw[hm];exact decide_eq_false (by lia)) (aG ?_))
  have er:rimF l=nK l:=by unfold rimF;rw[if_neg h3]
  refine af (bj (dH (bR (bm (aH ((kK T).mono (by decide)) hr rfl T.aal.m T.aal.F.kp T.aal.b aD (ah (aa 0 rfl) ao ai) ⟨l,rfl,hl,sz,rfl⟩) (aH ((xf T).mono (by decide)) hr rfl T.aaT.m T.aaT.F.kp T.aaT.b aD (ah (aa 0 rfl) ao ai) ⟨l,rfl,by lia,hl,sz,rfl⟩)) ag) ag (by walk_at"div")) ?_)
  exact vIO (by unfold pin;rw[if_neg h3,er])
theorem zj{pts:List P2}{k:Int}(sk:Sz 1000 k)(sz:∀p∈pts,Szp 1500 p):∀p∈am (pts.map (scl k)),Szp 2500 p:=λp hp=>by
 obtain⟨q,hq,rfl⟩:=Fs.mp (aV _ p hp);exact wN sk (sz q hq)
def k9:List U->Out->Prop:=λus o=>∃(pts:List P2) (k:Int),us=[lp pts,.int k]/\0<=k/\Sz 1000 k/\(∀p∈pts,Szp 1500 p)/\pts≠[]/\pts.length<64/\o=.val (.int (nA (am (pts.map (scl k)))))
theorem wn(T:Txt w K mg):bg P w K mg base (CXF P w) 7 T.aaP.a T.aaP.d ["land","k"] (spU K (k9)):=by
 refine Cb T.aaP.F o5 (λus o h=>?_) (λQ6 A outer s H E O us o hr h=>?_)
 ·obtain⟨pts,k,rfl,k0,sk,sz,Q1,hl,rfl⟩:=h;rfl
 obtain⟨pts,k,rfl,k0,sk,sz,Q1,hl,rfl⟩:=h;refine Ws.nox ?_;have cl:(am (pts.map (scl k))).length<=900:=Hh (jI _) (by rw[Fk];lia)
 have cn:0<(am (pts.map (scl k))).length:=G0.mpr (iJ (by simpa using Q1))
 refine af (aE (i:=2) o5.nd rfl (Or.inl rfl) (EvN.ev (b9 ((pN T).mono (by decide)) hr rfl T.aaA.m T.aaA.F.kp T.aaA.b aD (ah (aa 0 rfl) (ah (aa 1 rfl) ao ai) ai) ⟨pts,k,rfl,k0,sk,qH (by decide) sz,Q1,hl,rfl⟩)) ?_)
 refine af (bj (bR (aH ((nI T).mono (by decide)) hr rfl T.aaq.m T.aaq.F.kp T.aaq.b aD (ah (aa 2 rfl) ao ai) ⟨_,rfl,cl,zj sk sz,rfl⟩) (aH ((xf T).mono (by decide)) hr rfl T.aaT.m T.aaT.F.kp T.aaT.b aD (ah (aa 2 rfl) ao ai) ⟨_,rfl,cn,cl,zj sk sz,rfl⟩)) ?_)
 exact rfl
theorem rR(l:List P2)(L:List (P2×P2))(s:P2×P2)(y:Int):cW l (L++[s]) y=cW l L y++(if 0<s.2.2-s.1.2 then [xW y s] else []):=by
 unfold cW;rw[Od,Gr];by_cases h:0<s.2.2-s.1.2
 ·rw[if_pos h,MD (by simpa using h)];rfl
 ·rw[if_neg h,ME (by simpa using h)];rfl
theorem qR(l:List P2)(L:List (P2×P2))(s:P2×P2)(y:Int):cY l (L++[s]) y=cY l L y++(if s.2.2-s.1.2<0 then [zB y s] else []):=by
 unfold cY;rw[Od,Gr];by_cases h:s.2.2-s.1.2<0
 ·rw[if_pos h,MD (by simpa using h)];rfl
 ·rw[if_neg h,ME (by simpa using h)];rfl
theorem x8(l:List P2)(y:Int)(L:List (P2×P2)):(cW l L y).length<=L.length+1/\(cY l L y).length<=L.length+1:=by
 unfold cW cY;simp only[F8,Fk];exact⟨OP (Nq _ _),OP (Nq _ _)⟩
def q0:List U->Out->Prop:=λus o=>∃(l:List P2) (y:Int),us=[lp l,.int y]/\l≠[]/\l.length<=900/\(∀q∈l,Szp 1000 q)/\Sz 1001 y/\o=.val (.tup [.int (fV l y),.int (lC l y)])
theorem qr(T:Txt w K mg):bg P w K mg base (CXF P w) 2 T.aaB.a T.aaB.d ["land","y"] (spU K (q0)):=by
 refine be T.aaB.F cf (λus o h=>?_) (λQ6 A outer s H E O us o hr h=>?_)
 ·obtain⟨l,y,rfl,Q1,hl,sz,sy,rfl⟩:=h;rfl
 obtain⟨l,y,rfl,Q1,hl,sz,sy,rfl⟩:=h;refine Ws.nox ?_;obtain⟨mn,mx,_,m1,m2,q1,q2,_⟩:=ve Q1;have hx:l.map (·.1)≠[]:=by simpa using Q1
 have e1:mn.1=loX l:=by
  have ok:=cJ hx;obtain⟨q,hq,e⟩:=Fs.mp ok.1;have a:=ok.2 mn.1 (Gz (f:=λp:P2=>p.1) m1)
  have b:=q1 q hq;rw[ST.ltP_no]at b;unfold loX;lia
 have e2:mx.1=hiX l:=by
  have ok:=dg hx;obtain⟨q,hq,e⟩:=Fs.mp ok.1;have a:=ok.2 mx.1 (Gz (f:=λp:P2=>p.1) m2)
  have b:=q2 q hq;rw[ST.ltP_no]at b;unfold hiX;lia
 refine af (jq (i:=2) cf.nd rfl (Or.inl rfl) (cP (ay (aB (av (Dv rfl (gO hr) m1 q1) rfl T.aa2 boot_min (ah (aa 0 rfl) ao ai)) ag rfl rfl) bA aZ)) ?_);refine af (jq (i:=3) cf.nd rfl (Or.inl rfl) (cP (ay (aB (av (Dm rfl (gO hr) m2 q2) rfl T.aaZ boot_max (ah (aa 0 rfl) ao ai)) ag rfl rfl) bA aZ)) ?_);rw[e1,e2];refine af (d8 (λi:Nat=>[some (.val (lp l)),some (.val (.int y)),some (.own ((cY l ((sdl l).take i) y).map U.int)),some (.own ((cW l ((sdl l).take i) y).map U.int)),none,none,none,none]) (λi j=>i=j) rfl PassesOwn.never (cM (EvN.ev (b9 ((kS T).mono (by decide)) hr rfl T.aaw.m T.aaw.F.kp T.aaw.b aD (ah (aa 0 rfl) ao ai) ⟨l,rfl,hl,rfl⟩)) (.inl rfl)) ?h0 ?hs ?hd)
 case h0=>exact⟨0,rfl,rfl,rfl,rfl,rfl,trivial⟩
 case hs=>
  rintro H0 i x _ Tg rfl
  have hq:∃s,(sdl l)[i]?=some s/\x=pq s:=by
   rw[Ft]at Tg;cases e:(sdl l)[i]? with
   |none=>rw[e]at Tg;cases Tg
   |some s=>rw[e]at Tg;cases Tg;exact⟨s,rfl,rfl⟩
  obtain⟨s,hs,rfl⟩:=hq;obtain⟨n1,n2⟩:=bv (FD hs);have hi:i<(sdl l).length:=aC hs;rw[nY]at hi;have z1:=(sz _ n1).1;have z2:=(sz _ n1).2;have z3:=(sz _ n2).1;have z4:=(sz _ n2).2;have tk:(sdl l).take (i+1)=(sdl l).take i++[s]:=by rw[IB,hs];rfl
  have bE:=rR l ((sdl l).take i) s y;have bB:=qR l ((sdl l).take i) s y;rw[<-tk]at bE bB;obtain⟨r1,r2⟩:=x8 l y ((sdl l).take i);have r0:((sdl l).take i).length<=i:=by simp;lia
  refine⟨_,(yO [4,5] rfl (cG (br (i:=4) cf.nd rfl (Or.inl rfl)) (cG (br (i:=5) cf.nd rfl (Or.inl rfl)) iI)) rfl),?_⟩;refine af (aE (i:=6) cf.nd rfl (Or.inl rfl) (bm (aB (aa 5 rfl) ag rfl rfl) (aB (aa 4 rfl) ag rfl rfl)) ?_);refine af (aE (i:=7) cf.nd rfl (Or.inl rfl) (bn (bm (aB (aa 5 rfl) ag rfl rfl) (aB (aa 4 rfl) ag rfl rfl)) (bm (aa 1 rfl) (aB (aa 4 rfl) ag rfl rfl)) (by walk_at"mul")) ?_)
  rw[show (s.2.1-s.1.1) *(y-s.1.2)=j_ s y from rfl]
  have rz:Sz 1001 (s.2.2-s.1.2):=(L2.Sz.sub' z4 z2).mono (by decide)
  have rn:Sz 1001 (-(s.2.2-s.1.2)):=rz.natle (by lia)
  show Ws _ _ _ _ _ _ [some (.val (lp l)),some (.val (.int y)),some (.own ((cY l ((sdl l).take i) y).map U.int)),some (.own ((cW l ((sdl l).take i) y).map U.int)),some (.val (pu s.1)),some (.val (pu s.2)),some (.val (.int (s.2.2-s.1.2))),some (.val (.int (j_ s y)))];by_cases p:0<s.2.2-s.1.2
  ·rw[if_pos p]at bE;rw[if_neg (by lia),Ib]at bB
   refine af (fS (aI iE (aa 6 rfl) ag) (decide_eq_true p) ?_);refine af (fe 3 rfl (bR (aB (aa 4 rfl) ag rfl rfl) (dH (aa 7 rfl) (aa 6 rfl) ⟨p,rz.mono (by decide)⟩)) (by rw[Fk];exact aJ (by lia)) (aG ?_))
   refine af (bQ (aI ic (aa 6 rfl) ag) (decide_eq_false (by lia)) (aG (aG ?_)))
   refine⟨i+1,rfl,rfl,rfl,?_,?_,trivial⟩
   ·exact congrArg (λl=>some (Sl.own l)) (by rw[bB])
   ·exact congrArg (λl=>some (Sl.own l)) (by rw[bE,Gr];rfl)
  ·rw[if_neg p,Ib]at bE;refine af (bQ (aI iE (aa 6 rfl) ag) (decide_eq_false p) (aG ?_));by_cases n:s.2.2-s.1.2<0
   ·rw[if_pos n]at bB;refine af (fS (aI ic (aa 6 rfl) ag) (decide_eq_true n) ?_);refine af (fe 2 rfl (bm (aB (aa 4 rfl) ag rfl rfl) (dH (aa 7 rfl) (cq (aa 6 rfl)) ⟨by lia,rn.mono (by decide)⟩)) (by rw[Fk];exact aJ (by lia)) (aG (aG ?_)))
    refine⟨i+1,rfl,rfl,rfl,?_,?_,trivial⟩
    ·exact congrArg (λl=>some (Sl.own l)) (by rw[bB,Gr];rfl)
    ·exact congrArg (λl=>some (Sl.own l)) (by rw[bE])
   ·rw[if_neg n,Ib]at bB;refine af (bQ (aI ic (aa 6 rfl) ag) (decide_eq_false n) (aG (aG ?_)));refine⟨i+1,rfl,rfl,rfl,?_,?_,trivial⟩
    ·exact congrArg (λl=>some (Sl.own l)) (by rw[bB])
    ·exact congrArg (λl=>some (Sl.own l)) (by rw[bE])
 case hd=>
  rintro q ps hq Rh;refine cE ?_ Rh;have e:q=(sdl l).length:=by rw[<-hq,Fk]
  subst e;rw[Hv];refine mU 2 rfl (mU 3 rfl ?_);show Ws _ _ _ _ _ _ [some (.val (lp l)),some (.val (.int y)),some (.val (.lst ((cY l (sdl l) y).map U.int))),some (.val (.lst ((cW l (sdl l) y).map U.int))),none,none,none,none];refine af (bj (bW (ay (av (xz rfl (dg (l:=cY l (sdl l) y) (by unfold cY;simp))) rfl T.aaZ boot_max (ah (aa 2 rfl) ao ai)) (ay (av (CN rfl (cJ (l:=cW l (sdl l) y) (by unfold cW;simp))) rfl T.aa2 boot_min (ah (aa 3 rfl) ao ai)) bA de) de)) ?_)
  exact rfl
theorem En{a b c d e f a' b' c' d' e' f':Int}(h1:a=a')(h2:b=b')(h3:c=c')(h4:d=d')(h5:e=e')(h6:f=f'):mv a b c d e f=mv a' b' c' d' e' f':=by rw[h1,h2,h3,h4,h5,h6]
theorem Dz{a b:P2}(h:a≠b):∃g s1 t1 s t:Int,fN (b.1-a.1) (b.2-a.2) g s1 t1/\g≠0/\fN ((b.1-a.1)/g) ((b.2-a.2)/g) 1 s t/\LvP a b g ((b.1-a.1)/g) ((b.2-a.2)/g) s t:=by
 obtain⟨g,s1,t1,G⟩:=jX (b.1-a.1) (b.2-a.2)
 have gn:g≠0:=λe=>h (by
  obtain⟨h1,h2⟩:=u_ G e;exact GU h1 h2)
 have gp:0<g:=by have:=G.g0;lia
 obtain⟨g',s,t,G'⟩:=jX ((b.1-a.1)/g) ((b.2-a.2)/g);have:=vV G gp G';subst this;exact⟨g,s1,t1,s,t,G,gn,G',gp,IQ G.da,IQ G.db,G'.eq⟩
theorem zU{a:P2}{u v s t:Int}(h:s*u+t*v=1):Dq s t (-v) u (-s*a.1-t*a.2) (v*a.1-u*a.2)=mv u (-t) v s a.1 a.2:=by
 have k:s*u-t* -v=1:=by grind
 unfold Dq;rw[k];refine En (by lia) (by lia) (by lia) (by lia) ?_ ?_
 ·have:-(1*u*(-s*a.1-t*a.2)+-1*t*(v*a.1-u*a.2))=(s*u+t*v) *a.1:=by grind
  rw[this,h,Kk]
 ·have:-(-1* -v*(-s*a.1-t*a.2)+1*s*(v*a.1-u*a.2))=(s*u+t*v) *a.2:=by grind
  rw[this,h,Kk]
theorem Bb{l:List P2}(F:Fld l)(h2:2<=l.length):gp l 0≠gp l 1:=λe=>by
 have nd:l.Nodup:=by rw[<-F.cr];exact bp l
 have:l[0]?=l[1]?:=by rw[dB (by lia),dB (by lia),e]
 have:=(J2 (by lia) nd).mp this
 lia
theorem Aj{l:List P2}{n y:Nat}(h:y<n):(lh l (0+(y:Int))).length<=(eo l n).length:=c_ (uu _ _) λp hp=>by
 have k:=fj.mp hp;refine dN.mpr ⟨by lia,?_⟩
 rw[k.1];exact k.2
theorem yE{l:List P2}{n y:Nat}(h:y<=n):(eo l y).length<=(eo l n).length:=c_ (km _ _) λp hp=>by
 have k:=dN.mp hp;exact dN.mpr ⟨by lia,k.2⟩
def o3:List U->Out->Prop:=λus o=>∃l:List P2,us=[lp l]/\Fld l/\2<=l.length/\l.length<64/\(∀p∈l,Szp 150 p)/\(nA l<=100/\(aN l).length<=100)/\o=.new ((aN l).map pu)
theorem wo{l:List P2}(F:Fld l)(h2:2<=l.length){g u v s t:Int}(L:LvP (gp l 0) (gp l 1) g u v s t):(yt l u v s t).length=(aN l).length:=qW (wQ L) ((ST.srt_asc _).imp λ{a b} h e=>by subst e;rw[ST.asc_irr]at h;cases h) λp=>by rw[ud F h2 L,ck F]
theorem qF(T:Txt w K mg):bg P w K mg base (CXF P w) 6 T.aaE.a T.aaE.d ["land"] (spU K (o3)):=by
 refine be T.aaE.F bV (λus o h=>?_) (λQ6 A outer s H E O us o hr h=>?_)
 ·obtain⟨l,rfl,F,h2,hl,sz,⟨_,hc⟩,rfl⟩:=h;rfl
 obtain⟨l,rfl,F,h2,hl,sz,⟨_,hc⟩,rfl⟩:=h;refine Ws.nox ?_;obtain⟨g,s1,t1,s,t,G,gn,G1,L⟩:=Dz (Bb F h2);have z0:=sz _ (fP (l:=l) (i:=0) (by lia))
 have z1:=sz _ (fP (l:=l) (i:=1) (by lia))
 have zx:Sz 151 ((gp l 1).1-(gp l 0).1):=(L2.Sz.sub' z1.1 z0.1).mono (by decide)
 have zy:Sz 151 ((gp l 1).2-(gp l 0).2):=(L2.Sz.sub' z1.2 z0.2).mono (by decide)
 have two:A2 (gp l 0).1 (gp l 0).2 (gp l 1).1 (gp l 1).2:=⟨z0.1.mono (by decide),z0.2.mono (by decide),z1.1.mono (by decide),z1.2.mono (by decide)⟩
 have su:Sz 151 (((gp l 1).1-(gp l 0).1)/g):=zx.ediv;have sv:Sz 151 (((gp l 1).2-(gp l 0).2)/g):=zy.ediv;obtain⟨_,ss,st⟩:=om G1 su sv;refine af (aE (i:=1) bV.nd rfl (Or.inl rfl) (aH ((yT T).mono (by decide)) hr rfl T.aaO.m T.aaO.F.kp T.aaO.b aD (ah (aB (aa 0 rfl) ag rfl (mi (i:=0) (by decide) (by lia))) (ah (aB (aa 0 rfl) ag rfl (mi (i:=1) (by decide) (by lia))) ao aZ) aZ) ⟨_,_,_,_,g,s1,t1,s,t,rfl,two,G,gn,G1,rfl⟩) ?_)
 have V:=yk F h2 L;have Q5:=wo F h2 L;have TU:=ud F h2 L;have SQ:=wQ L;generalize hu:((gp l 1).1-(gp l 0).1)/g=u at *;generalize hv:((gp l 1).2-(gp l 0).2)/g=v at *;have hd:s*u-t* -v=1:=by have:=L.st;grind
 have a5:Sz 500 s:=ss.mono (by decide)
 have b5:Sz 500 t:=st.mono (by decide)
 have c5:Sz 500 (-v):=(sv.natle (by lia):Sz 151 (-v)).mono (by decide)
 have d5:Sz 500 u:=su.mono (by decide)
 have ns:Sz 310 (-s):=(ss.natle (by lia):Sz _ (-s)).mono (by decide)
 have e5:Sz 500 (-s*(gp l 0).1-t*(gp l 0).2):=(L2.Sz.sub' (L2.Sz.mul ns z0.1) (L2.Sz.mul (st.mono (n:=310) (by decide)) z0.2)).mono (by decide)
 have f5:Sz 500 (v*(gp l 0).1-u*(gp l 0).2):=(L2.Sz.sub' (L2.Sz.mul sv z0.1) (L2.Sz.mul su z0.2)).mono (by decide)
 have k5:500<=30000:=by decide
 have M:Mv s t (-v) u (-s*(gp l 0).1-t*(gp l 0).2) (v*(gp l 0).1-u*(gp l 0).2):=⟨.inl hd,a5.mono k5,b5.mono k5,c5.mono k5,d5.mono k5,e5.mono k5,f5.mono k5⟩;refine af (aE (i:=2) bV.nd rfl (Or.inl rfl) (EvN.ev (b9 ((kT T).mono (by decide)) hr rfl T.aam.m T.aam.F.kp T.aam.b aD (ah (aa 0 rfl) (ah (aa 1 rfl) ao ai) ai) ⟨l,_,_,_,_,_,_,rfl,M,qH (by decide) sz,λp hp=>by have z:=BC a5 b5 c5 d5 e5 f5 (by decide) (sz p hp);exact⟨z.1.mono (by decide),z.2.mono (by decide)⟩,F.ne,hl,rfl⟩)) ?_)
 have mz:∀p∈am (l.map (lvF (gp l 0) u v s t)),Szp 1000 p:=λp hp=>by
  obtain⟨q,hq,rfl⟩:=Fs.mp (aV _ p hp);have z:=BC a5 b5 c5 d5 e5 f5 (by decide) (sz q hq)
  exact⟨z.1.mono (by decide),z.2.mono (by decide)⟩
 have ml:(am (l.map (lvF (gp l 0) u v s t))).length<=900:=Hh (jI _) (by rw[Fk];lia)
 refine af (aE (i:=3) bV.nd rfl (Or.inr rfl) (aH ((p9 T).mono (by decide)) hr rfl T.aaz.m T.aaz.F.kp T.aaz.b aD (ah (aa 1 rfl) ao ai) ⟨_,_,_,_,_,_,rfl,M,rfl⟩) ?_)
 rw[zU L.st];unfold yt at Q5 TU SQ;rw[Fk]at Q5;have hbk:∀p:P2,pu (bkF (gp l 0) u v s t p)=pt (u*p.1+-t*p.2+(gp l 0).1) (v*p.1+s*p.2+(gp l 0).2):=λp=>rfl
 have nt:Sz 30000 (-t):=(st.natle (by lia):Sz _ (-t)).mono (by decide)
 have MB:Mv u (-t) v s (gp l 0).1 (gp l 0).2:=⟨.inl (by have:=L.st;grind),d5.mono k5,nt,sv.mono (by decide),a5.mono k5,z0.1.mono (by decide),z0.2.mono (by decide)⟩
 have mne:=V.F.ne;have hY:=dg (l:=(am (l.map (lvF (gp l 0) u v s t))).map (·.2)) (by simpa using mne)
 have zY:Sz 1000 (hiY (am (l.map (lvF (gp l 0) u v s t)))):=by
  obtain⟨q,hq,e⟩:=zd mne;rw[<-e];exact (mz q hq).2
 show Ws _ _ _ _ _ _ [some (.val (lp l)),some (.val (mv s t (-v) u (-s*(gp l 0).1-t*(gp l 0).2) (v*(gp l 0).1-u*(gp l 0).2))),some (.val (lp (am (l.map (lvF (gp l 0) u v s t))))),some (.val (mv u (-t) v s (gp l 0).1 (gp l 0).2)),none,none,none,none,none];generalize hM:am (l.map (lvF (gp l 0) u v s t))=m at *;refine af (jq (i:=4) bV.nd rfl (Or.inl rfl) (cP bA) ?_);refine af (d8 (λi:Nat=>[some (.val (lp l)),some (.val (mv s t (-v) u (-s*(gp l 0).1-t*(gp l 0).2) (v*(gp l 0).1-u*(gp l 0).2))),some (.val (lp m)),some (.val (mv u (-t) v s (gp l 0).1 (gp l 0).2)),some (.own (((eo m i).map (bkF (gp l 0) u v s t)).map pu)),none,none,none,none]) (λi j=>i=j) rfl PassesOwn.never (vM rfl T.aaJ (ah (bR (av (xz rfl hY) rfl T.aaZ boot_max (ah (EvN.ev (eT (ys:=((m.map (·.2)).map U.int)) rfl (blk (ak gH) ["land","move","levelled","back","found","y","ends","x","P"] [8] rfl rfl rfl rfl (by decide+kernel)) (cM (aa 2 rfl) (.inl rfl)) (λ_ _ _ _=>br (i:=8) bV.nd rfl (Or.inl rfl)) (cX (by decide)) ?clen ?csz (λ_ _=>trivial) ?celt)) ao eI)) ag) ao bq)) ?h0 ?hs ?hd)
 case clen=>simp
 case csz=>rw[Fk];exact GW (aJ (by lia))
 case celt=>
  intro C s' H' fp j x y hx hy;rw[F5]at hy;obtain⟨p,hp,mp,rfl,rfl⟩:=im hx hy;exact (aB (aa 8 rfl) ag rfl rfl)
 case h0=>exact⟨0,rfl,rfl,rfl,rfl,rfl,rfl,trivial⟩
 case hs=>
  rintro H0 i x _ hx rfl;obtain⟨hi,rfl⟩:=cO hx
  have Q9:i<(hiY m+1).toNat:=by
   have:hiL (m.map (·.2))=hiY m:=rfl;rw[this]at hi;lia
  have rf:=Aj (l:=m) Q9;have rg:=yE (l:=m) (GW Q9)
  have iz:Sz 1001 (0+(i:Int)):=by
   have one:Sz 1000 (1:Int):=Sz.mono (m:=8) (by decide) (by decide)
   exact Sz.le (by lia) (L2.Sz.add' zY one)
  have rl:(lh m (0+(i:Int))).length=(lC m (0+(i:Int))+1-fV m (0+(i:Int))).toNat:=by unfold lh ox;simp
  refine⟨_,(fu (i:=5) bV.nd rfl (Or.inr rfl)),?_⟩;refine af (aE (i:=6) bV.nd rfl (Or.inl rfl) (aH ((qr T).mono (by decide)) hr rfl T.aaB.m T.aaB.F.kp T.aaB.b aD (ah (aa 2 rfl) (ah (aa 5 rfl) ao ai) ai) ⟨m,_,rfl,mne,ml,mz,iz,rfl⟩) ?_)
  refine af (yx 4 rfl (EvN.ev (eT (ys:=(((lh m (0+(i:Int))).map (bkF (gp l 0) u v s t)).map pu)) rfl (blk (ak gH) ["land","move","levelled","back","found","y","ends","x","P"] [7] rfl rfl rfl rfl (by decide+kernel)) (uQ rfl T.aaJ (ah (aB (aa 6 rfl) ag rfl rfl) (ah (bR (aB (aa 6 rfl) ag rfl rfl) ag) ao bq) aZ)) (λ_ _ _ _=>br (i:=7) bV.nd rfl (Or.inl rfl)) (cX (by decide)) ?clen ?csz (λ_ _=>trivial) ?celt)) (by simp only[Fk];exact GW (aJ (by lia))) (aG ?_))
  case clen=>rw[bH,Fk,Fk,rl]
  case csz=>rw[bH];exact GW (aJ (by lia))
  case celt=>
   intro C s' H' fp j x y hx hy;obtain⟨hj,rfl⟩:=cO hx
   have ey:y=pu (bkF (gp l 0) u v s t (fV m (0+(i:Int))+(j:Int),0+(i:Int))):=by
    unfold lh ox at hy;rw[F5,F5,F5,Ft,G9 hj]at hy;cases hy;rfl
   have hp:(fV m (0+(i:Int))+(j:Int),0+(i:Int))∈lh m (0+(i:Int)):=fj.mpr ⟨rfl,by dsimp only;lia,by dsimp only;lia⟩
   have hq:(fV m (0+(i:Int))+(j:Int),0+(i:Int))∈eo m (hiY m+1).toNat:=by
    have k:=fj.mp hp;exact dN.mpr ⟨by dsimp only;lia,k.2⟩
   have bx:=(eM mne).mp (V.F.in_box ((kM V _).mp hq))
   have zX:Sz 30000 (fV m (0+(i:Int))+(j:Int)):=by
    obtain⟨q1,m1,e1⟩:=Fs.mp (cJ (l:=m.map (·.1)) (by simpa using mne)).1
    obtain⟨q2,m2,e2⟩:=Fs.mp (dg (l:=m.map (·.1)) (by simpa using mne)).1
    have y1:=(mz q1 m1).1;have y2:=(mz q2 m2).1;have b1:q1.1<=fV m (0+(i:Int))+(j:Int):=by have:=bx.1.1;unfold loX at this;rw[<-e1]at this;exact this
    have b2:fV m (0+(i:Int))+(j:Int)<=q2.1:=by have:=bx.1.2;unfold hiX at this;rw[<-e2]at this;exact this
    rcases GO (fV m (0+(i:Int))+(j:Int)) 0 with z |z
    ·exact (y1.natle (by lia):Sz 1000 _).mono (by decide)
    ·exact (y2.natle (by lia):Sz 1000 _).mono (by decide)
   rw[ey,hbk];exact (aH ((qb T).mono (by decide)) hr rfl T.aaF.m T.aaF.F.kp T.aaF.b aD (ah (bW (ay (aa 7 rfl) (ay (aa 5 rfl) bA ai) ai)) (ah (aa 3 rfl) ao ai) oo) ⟨_,_,_,_,_,_,_,_,rfl,MB,zX,iz.mono (by decide),rfl⟩)
  refine⟨i+1,rfl,rfl,rfl,rfl,rfl,?_,trivial⟩;exact congrArg (λl=>some (Sl.own l)) (by rw[j8,Gr,Gr])
 case hd=>
  rintro q ps hq Rh;refine cE ?_ Rh;rw[bH]at hq;have e:q=(hiY m+1).toNat:=by rw[<-hq];show (hiY m+1-0).toNat=_;lia
  subst e;refine mU 4 rfl ?_;have fs:=jJ F TU;have n64:((eo m (hiY m+1).toNat).map (bkF (gp l 0) u v s t)).length<1000:=by rw[Fk];lia
  refine af (c8 (xr rfl T.aaN (gO hr) (aa 4 rfl) ⟨n64,SQ⟩ ai) ?_);rw[fs]
def oX:List U->Out->Prop:=λus o=>∃l:List P2,us=[lp l]/\Fld l/\l.length<64/\(∀p∈l,Szp 150 p)/\(nA l<=100/\(aN l).length<=100)/\o=.new ((aN l).map pu)
theorem vP(T:Txt w K mg):bg P w K mg base (CXF P w) 8 T.aaH.a T.aaH.d ["land"] (spU K (oX)):=by
 refine be T.aaH.F vW (λus o h=>?_) (λQ6 A outer s H E O us o hr h=>?_)
 ·obtain⟨l,rfl,F,hl,sz,hc,rfl⟩:=h;rfl
 obtain⟨l,rfl,F,hl,sz,hc,rfl⟩:=h;refine Ws.nox ?_;have hm:((l.map pu).length:Int)=(l.length:Int):=by rw[Fk]
 have one:am (l.map (scl 1))=l:=by rw[show scl 1=id from funext Ap,QM];exact F.cr
 have cs:k9 [lp l,.int 1] (.val (.int (nA l))):=⟨l,1,rfl,by decide,Sz.mono (m:=8) (by decide) (by decide),qH (by decide) sz,F.ne,hl,by rw[one]⟩
 have l0:0<l.length:=G0.mpr F.ne;have hc1:=hc.1;refine af (bQ (aI iE (Al ((wn T).mono (by decide)) hr rfl T.aaP.m T.aaP.F.kp T.aaP.bd aD (ah (aa 0 rfl) ao ai) cs) (D9 rfl T.aaU)) (decide_eq_false (by lia)) (aG ?_))
 by_cases h1:l.length=1
 ·refine af (fS (aI cB (av (bX rfl) rfl T.aak Gd (ah (aa 0 rfl) ao ai)) ag) (by rw[hm];exact decide_eq_true (by lia)) ?_)
  refine af (c8 (uh (yo rfl) rfl T.aaS N6 (ah (aa 0 rfl) ao ai)) ?_);obtain⟨A,rfl⟩:=KL.mp h1
  have:aN [A]=[A]:=by
   rw[<-jJ (R:=[A]) F λp=>by rw[iX];simp]
   exact cL (pts:=[A]) (by have:=ST.srt_len [A];simp at this;lia) ▸ F.cr
  rw[this]
 ·refine af (bQ (aI cB (av (bX rfl) rfl T.aak Gd (ah (aa 0 rfl) ao ai)) ag) (by rw[hm];exact decide_eq_false (by lia)) (aG ?_))
  refine af (c8 (b9 ((qF T).mono (by decide)) hr rfl T.aaE.m T.aaE.F.kp T.aaE.b aD (ah (aa 0 rfl) ao ai) ⟨l,rfl,F,by lia,hl,sz,hc,rfl⟩) ?_)
  exact rfl
theorem ul{A B C:P2}(hD:0<ae A B C)(h:∀p,0<=ae A B p->0<=ae B C p->0<=ae C A p->p=A\/p=B\/p=C):ae A B C=1:=by
 refine Gn λn1=>?_
 obtain⟨g,s,t,G⟩:=jX (B.1-A.1) (B.2-A.2);obtain⟨u,hu⟩:=G.da;obtain⟨v,hv⟩:=G.db;have ge:=G.eq;have g0:=G.g0
 have gn:g≠0:=λe=>by
  rw[e,IG]at hu hv;have:ae A B C=0:=by unfold ae;rw[hu,hv];lia
  lia
 have gp:0<g:=by lia
 have no:∀p:P2,0<=ae A B p->0<=ae B C p->0<=ae C A p->p≠A->p≠B->p≠C->False:=λp h1 h2 h3 a b c=>by
  rcases h p h1 h2 h3 with e |e |e
  ·exact a e
  ·exact b e
  ·exact c e
 have suv:s*u+t*v=1:=by
  have:g*(s*u+t*v)=g*1:=by rw[Mo];rw[hu,hv]at ge;rw[<-ge];grind
  exact GL gn this
 have eD:ae A B C=g*(u*(C.2-A.2)-v*(C.1-A.1)):=by unfold ae;rw[hu,hv];grind
 by_cases g1:g=1
 ·subst g1;have hx:ae A B C=u*(C.2-A.2)-v*(C.1-A.1):=by rw[eD];lia
  generalize hd:ae A B C=d at *;obtain⟨x,hx0⟩:∃x,x=s*(C.1-A.1)+t*(C.2-A.2):=⟨_,rfl⟩
  have c1:C.1-A.1=x*u-d*t:=by
   have:x*u-d*t=(s*u+t*v) *(C.1-A.1):=by rw[hx0,hx];grind
   rw[this,suv];lia
  have c2:C.2-A.2=x*v+d*s:=by
   have:x*v+d*s=(s*u+t*v) *(C.2-A.2):=by rw[hx0,hx];grind
   rw[this,suv];lia
  have q1:=ID (-x) (show d≠0 by lia)
  have q2:=Hz (-x) hD;have q3:=Int.mul_ediv_add_emod (-x) d;generalize -x/d=m at *;generalize -x%d=r at *;have er:r=-x-d*m:=by lia
  have b1:B.1=A.1+u:=by lia
  have b2:B.2=A.2+v:=by lia
  have d1:ae A B (A.1-m*u-t,A.2-m*v+s)=1:=by
   unfold ae;dsimp only;rw[b1,b2,<-suv];grind
  have d3:ae C A (A.1-m*u-t,A.2-m*v+s)=r:=by
   have:ae C A (A.1-m*u-t,A.2-m*v+s)=(-m*u-t) *(C.2-A.2)-(-m*v+s) *(C.1-A.1):=by unfold ae;dsimp only;grind
   rw[this,c1,c2,er];have:(-m*u-t) *(x*v+d*s)-(-m*v+s) *(x*u-d*t)=(s*u+t*v) *(-x-d*m):=by grind
   rw[this,suv];lia
  have d2:ae B C (A.1-m*u-t,A.2-m*v+s)=d-1-r:=by
   have:ae A B (A.1-m*u-t,A.2-m*v+s)+ae B C (A.1-m*u-t,A.2-m*v+s)+ae C A (A.1-m*u-t,A.2-m*v+s)=ae A B C:=by unfold ae;dsimp only;grind
   lia
  have z:∀p q:P2,ae p q p=0/\ae p q q=0:=λp q=>by unfold ae;constructor <;>grind
  refine no (A.1-m*u-t,A.2-m*v+s) (by lia) (by lia) (by lia) (λe=>?_) (λe=>?_) (λe=>?_)
  ·rw[e,(z A B).1]at d1;lia
  ·rw[e,(z A B).2]at d1;lia
  ·rw[e,hd]at d1;lia
 ·have d1:ae A B (A.1+u,A.2+v)=0:=by unfold ae;dsimp only;rw[hu,hv];grind
  generalize hy:u*(C.2-A.2)-v*(C.1-A.1)=y at *;have yp:0<y:=by rw[eD]at hD;exact HW hD gp
  have d3:ae C A (A.1+u,A.2+v)=y:=by unfold ae;dsimp only;rw[<-hy];grind
  have d2:ae B C (A.1+u,A.2+v)=(g-1) *y:=by
   have:ae A B (A.1+u,A.2+v)+ae B C (A.1+u,A.2+v)+ae C A (A.1+u,A.2+v)=ae A B C:=by unfold ae;dsimp only;grind
   rw[eD]at this;have e:(g-1) *y=g*y-y:=by grind
   rw[e];lia
  have d2':0<=(g-1) *y:=FQ (by lia) (by lia)
  have z:∀p q:P2,ae p q q=0/\ae p q p=0:=λp q=>by unfold ae;constructor <;>grind
  refine no (A.1+u,A.2+v) (by lia) (by lia) (by lia) (λe=>?_) (λe=>?_) (λe=>?_)
  ·rw[e,(z C A).1]at d3;lia
  ·rw[e,(z B C).2]at d2;have:=Gi (show 0<g-1 by lia) yp
   lia
  ·rw[e]at d1;lia
def b6(s:Int)(P:P2):List P2->List P2
 |b::a::r=>if 0<s*ae a b P then b6 s P (a::r) else b::a::r
 |st=>st
def cu(s:Int)(P:P2):List P2->List (P2×P2×P2)
 |b::a::r=>if 0<s*ae a b P then (a,b,P)::cu s P (a::r) else []
 |_=>[]
noncomputable def lL(s:Int)(done:List P2):List P2->Prop
 |b::a::r=>(∀q∈done,s*ae a b q<=0/\(s*ae a b q=0->plt a q->plt q b->False))/\lL s done (a::r)
 |_=>True
theorem wH{s:Int}(hs:s=1\/s=-1){u1 u2 v1 v2 w1 w2:Int}(hu:bu u1 u2)(hv:bu v1 v2)(hw:bu w1 w2)(h1:s*(u1*v2-u2*v1)<=0)(h2:s*(v1*w2-v2*w1)<=0):s*(u1*w2-u2*w1)<=0:=by
 rcases hs with e |e <;>subst e
 ·have:=dq hw hv hu (by grind) (by grind)
  grind
 ·have:=dq hu hv hw (by lia) (by lia)
  lia
theorem Ej{s:Int}(hs:s=1\/s=-1){u1 u2 p1 p2 w1 w2:Int}(hu:bu u1 u2)(hp:bu p1 p2)(hw:bu w1 w2)(h1:0<s*(u1*p2-u2*p1))(h2:s*(u1*w2-u2*w1)<0):s*(p1*w2-p2*w1)<0:=by
 rcases hs with e |e <;>subst e
 ·have:=dW hw hu hp (by grind) (by lia)
  grind
 ·have:=dW hp hu hw (by grind) (by lia)
  lia
structure KW(s:Int)(done st:List P2):Prop where
 ne:st≠[]
 desc:eF st
 cov:lL s done st
 sub:∀p∈st,p∈done
 bot:∀z,st.getLast?=some z->∀q∈done,¬ plt q z
structure DW(s:Int)(done st:List P2)(P:P2):Prop extends KW s done st where
 pend:∀h r,st=h::r->∀q∈done,plt h q->s*ae h P q<0
theorem nC{s:Int}(hs:s=1\/s=-1){done:List P2}{P b a:P2}{r:List P2}(hP:∀q∈done,plt q P)(D:DW s done (b::a::r) P)(h:0<s*ae a b P):DW s done (a::r) P:=by
 refine⟨⟨by simp,D.desc.tail,D.cov.2,λp hp=>D.sub p (Fn _ hp),λz hz=>D.bot z (by rw[Gy];exact hz)⟩,?_⟩
 intro h' r' e q hq Q4;cases e;have R7:=D.desc.1;obtain⟨c1,c2⟩:=D.cov.1 q hq;have hbP:=hP b (D.sub b Fv);rcases cZ q b with z |z |z
 ·have Sy:s*ae a b q<0:=by
   rcases Hm c1 with y |y
   ·exact y
   ·exact (c2 y Q4 z).elim
  have:=Ej hs (u1:=b.1-a.1) (u2:=b.2-a.2) (p1:=P.1-a.1) (p2:=P.2-a.2) (w1:=q.1-a.1) (w2:=q.2-a.2) (au R7) (au (aM R7 hbP)) (au Q4) (by unfold ae at h;exact h) (by unfold ae at Sy;exact Sy)
  unfold ae;exact this
 ·subst z;have:ae a P q=- ae a q P:=by unfold ae;grind
  rw[this,NN];lia
 ·have p:=D.pend b _ rfl q hq z;have:ae a P q=ae a b q-ae a b P+ae b P q:=by unfold ae;grind
  rw[this];have e:s*(ae a b q-ae a b P+ae b P q)=s*ae a b q-s*ae a b P+s*ae b P q:=by grind
  lia
theorem zi{s:Int}(hs:s=1\/s=-1){done:List P2}{P:P2}(hP:∀q∈done,plt q P):∀st:List P2,DW s done st P->DW s done (b6 s P st) P/\(∀b a r,b6 s P st=b::a::r->s*ae a b P<=0)
 |[],D=>absurd rfl D.ne
 |[b],D=>⟨D,λ_ _ _ e=>by simp[b6]at e⟩
 |b::a::r,D=>by
  by_cases h:0<s*ae a b P
  ·rw[b6,if_pos h];exact zi hs hP (a::r) (nC hs hP D h)
  ·rw[b6,if_neg h];refine⟨D,λb' a' r' e=>?_⟩
   cases e;lia
theorem p7{s:Int}(hs:s=1\/s=-1){done:List P2}{P:P2}(hP:∀q∈done,plt q P):∀{st:List P2},eF st->lL s done st->(∀p∈st,p∈done)->(∀b a r,st=b::a::r->s*ae a b P<=0)->lL s (done++[P]) st
 |[],_,_,_,_=>trivial
 |[_],_,_,_,_=>trivial
 |b::a::r,d,c,sub,h=>by
  have h0:=h b a r rfl;have mb:=sub b Fv;refine⟨λq hq=>?_,p7 hs hP d.tail c.2 (λp hp=>sub p (Fn _ hp)) λb' a' r' e=>?_⟩
  ·rcases FB.mp hq with k |k
   ·exact c.1 q k
   ·rw[Fy.mp k];refine⟨h0,λ_ _ k2=>?_⟩
    have:=hP b mb;unfold plt at *;lia
  ·cases e;have d2:=d.tail.1;have c2:=(c.2.1 b mb).1;have hb:=hP b mb
   have:=wH hs (u1:=a.1-a'.1) (u2:=a.2-a'.2) (v1:=b.1-a.1) (v2:=b.2-a.2) (w1:=P.1-b.1) (w2:=P.2-b.2) (au d2) (au d.1) (au hb) (by
    have:ae a' a b=(a.1-a'.1) *(b.2-a.2)-(a.2-a'.2) *(b.1-a.1):=by unfold ae;grind
    rw[<-this];exact c2) (by
    have:ae a b P=(b.1-a.1) *(P.2-b.2)-(b.2-a.2) *(P.1-b.1):=by unfold ae;grind
    rw[<-this];exact h0)
   have e:s*ae a' a P=s*ae a' a b+s*((a.1-a'.1) *(P.2-b.2)-(a.2-a'.2) *(P.1-b.1)):=by unfold ae;grind
   lia
theorem DA{s:Int}(hs:s=1\/s=-1){done st:List P2}{P:P2}(hP:∀q∈done,plt q P)(K:KW s done st)(top:∀h r,st=h::r->∀q∈done,¬ plt h q):KW s (done++[P]) (P::b6 s P st):=by
 obtain⟨D,stop⟩:=zi hs hP st ⟨K,λh r e q hq Q4=>absurd Q4 (top h r e q hq)⟩
 generalize b6 s P st=t at *;have hPn:¬ plt P P:=by unfold plt;lia
 have TV:∀b a r,t=b::a::r->s*ae a b P<=0:=stop;have cm:=p7 hs hP D.desc D.cov D.sub TV
 match t,D,TV,cm with
 |[],D,_,_=>exact absurd rfl D.ne
 |[b],D,TV,cm=>
  have mb:=D.sub b Fv;refine⟨by simp,⟨hP b mb,trivial⟩,⟨λq hq=>?_,trivial⟩,λp hp=>?_,λz hz q hq=>?_⟩
  ·rcases FB.mp hq with k |k
   ·rcases cZ q b with y |y |y
    ·exact absurd y (D.bot b rfl q k)
    ·subst y;exact⟨by unfold ae;grind,λ_ k1 _=>by unfold plt at k1;lia⟩
    ·have:=D.pend b _ rfl q k y;exact⟨by lia,λe _ _=>by lia⟩
   ·rw[Fy.mp k];exact⟨by unfold ae;grind,λ_ _ k2=>hPn k2⟩
  ·rcases Fw.mp hp with k |k
   ·rw[k];simp
   ·exact FJ _ (D.sub p k)
  ·have ez:z=b:=by simpa using hz.symm
   subst ez;rcases FB.mp hq with k |k
   ·exact D.bot z rfl q k
   ·rw[Fy.mp k];have:=hP z mb;unfold plt at *;lia
 |b::a::r,D,TV,cm=>
  have mb:=D.sub b Fv;have h0:=TV b a r rfl;refine⟨by simp,⟨hP b mb,D.desc⟩,⟨λq hq=>?_,cm⟩,λp hp=>?_,λz hz q hq=>?_⟩
  ·rcases FB.mp hq with k |k
   ·rcases cZ q b with y |y |y
    ·have c1:=(D.cov.1 q k).1;have hb:=hP b mb
     have:=wH hs (u1:=b.1-q.1) (u2:=b.2-q.2) (v1:=b.1-a.1) (v2:=b.2-a.2) (w1:=P.1-b.1) (w2:=P.2-b.2) (au y) (au D.desc.1) (au hb) (by
      have:(b.1-q.1) *(b.2-a.2)-(b.2-q.2) *(b.1-a.1)=ae a b q:=by unfold ae;grind
      rw[this];exact c1) (by
      have:ae a b P=(b.1-a.1) *(P.2-b.2)-(b.2-a.2) *(P.1-b.1):=by unfold ae;grind
      rw[<-this];exact h0)
     have e:ae b P q=(b.1-q.1) *(P.2-b.2)-(b.2-q.2) *(P.1-b.1):=by unfold ae;grind
     rw[e];exact⟨this,λ_ k1 _=>by unfold plt at *;lia⟩
    ·subst y;exact⟨by unfold ae;grind,λ_ k1 _=>by unfold plt at k1;lia⟩
    ·have:=D.pend b _ rfl q k y;exact⟨by lia,λe _ _=>by lia⟩
   ·rw[Fy.mp k];exact⟨by unfold ae;grind,λ_ _ k2=>hPn k2⟩
  ·rcases Fw.mp hp with k |k
   ·rw[k];simp
   ·exact FJ _ (D.sub p k)
  ·have hz':(b::a::r).getLast?=some z:=by rw[Gy]at hz;exact hz
   rcases FB.mp hq with k |k
   ·exact D.bot z hz' q k
   ·rw[Fy.mp k];have:=hP z (D.sub z (IP hz'));unfold plt at *;lia
abbrev Tri:=P2×P2×P2
def iN(t:Tri):Int:=ae t.1 t.2.1 t.2.2
def wst(s:Int)(z:List P2×List Tri)(P:P2):List P2×List Tri:=(P::b6 s P z.1,z.2++cu s P z.1)
def aA(s:Int)(row:List P2):List P2×List Tri:=row.foldl (wst s) ([],[])
theorem b8(s:Int)(row:List P2)(P:P2):aA s (row++[P])=wst s (aA s row) P:=by unfold aA;rw[J1];rfl
theorem ci{Q:List P2->Prop}(h0:Q [])(h1:∀l P,Q l->Q (l++[P])):∀l,Q l:=λl=>by
 have key:∀m:List P2,Q m.reverse:=λm=>by
  induction m with
  |nil=>exact h0
  |cons a m ih=>rw[JW];exact h1 _ _ ih
 have:=key l.reverse
 rwa [IM]at this
theorem cg{l:List P2}{P:P2}(h:(l++[P]).Pairwise plt):l.Pairwise plt/\∀q∈l,plt q P:=by
 rw[GQ]at h;exact⟨h.1,λq hq=>h.2.2 q hq P (by simp)⟩
theorem oe(s:Int)(row:List P2)(P:P2):(aA s (row++[P])).1.head?=some P:=by rw[b8];rfl
theorem jy{s:Int}(hs:s=1\/s=-1):∀row:List P2,row.Pairwise plt->row≠[]->KW s row (aA s row).1:=by
 refine ci (λ_ h=>absurd rfl h) λl P ih hs2 _=>?_
 obtain⟨h1,h2⟩:=cg hs2;rw[b8];show KW s (l++[P]) (P::b6 s P (aA s l).1);by_cases hl:l=[]
 ·subst hl;show KW s [P] [P];refine⟨by simp,trivial,trivial,λp hp=>by simpa using hp,λz hz q hq=>?_⟩
  have e1:q=P:=by simpa using hq
  have e2:P=z:=by simpa using hz
  rw[e1,<-e2];unfold plt;lia
 ·have K:=ih h1 hl;refine DA hs h2 K λh r e q hq=>?_
  have:l=l.dropLast++[l.getLast hl]:=(GI hl).symm;have hd:=oe s l.dropLast (l.getLast hl);rw[<-this,e]at hd;have eh:h=l.getLast hl:=by simpa using hd
  rw[eh];rw[this]at h1 hq;rcases FB.mp hq with k |k
  ·have:=(cg h1).2 q k;unfold plt at *;lia
  ·rw[Fy.mp k];unfold plt;lia
def chS:List P2->Int
 |b::a::r=>crs (a,b)+chS (a::r)
 |_=>0
theorem tM(s:Int)(P:P2):∀st:List P2,chS (P::b6 s P st)+((cu s P st).map iN).sum=chS (P::st)
 |[]=>by simp[b6,cu]
 |[b]=>by simp[b6,cu]
 |b::a::r=>by
  by_cases h:0<s*ae a b P
  ·rw[b6,cu,if_pos h,if_pos h,FU,MC];have ih:=tM s P (a::r);show _+(ae a b P+_)=crs (b,P)+(crs (a,b)+chS (a::r));have e:chS (P::a::r)=crs (a,P)+chS (a::r):=rfl;rw[e]at ih;have d:ae a b P=crs (a,b)+crs (b,P)-crs (a,P):=by unfold ae crs;grind
   lia
  ·rw[b6,cu,if_neg h,if_neg h];simp
theorem qa{P t:P2}{st:List P2}(h:st.head?=some t):chS (P::st)=crs (t,P)+chS st:=by
 cases st with
 |nil=>cases h
 |cons a r=>cases h;rfl
theorem tD(s:Int):∀row:List P2,((aA s row).2.map iN).sum=chS row.reverse-chS (aA s row).1:=by
 refine ci rfl λl P ih=>?_
 rw[b8,Ht];show (((aA s l).2++cu s P (aA s l).1).map iN).sum=chS (P::l.reverse)-chS (P::b6 s P (aA s l).1);have h:=tM s P (aA s l).1;rw[Gr,List.sum_append,ih];by_cases hl:l=[]
 ·subst hl;simp[aA,b6,cu,chS]
 ·have e:l=l.dropLast++[l.getLast hl]:=(GI hl).symm;have hd:=oe s l.dropLast (l.getLast hl);rw[<-e]at hd;have hr:l.reverse.head?=some (l.getLast hl):=by rw[KC,Kt hl]
  rw[qa hd]at h;rw[qa hr];lia
def qZ(s:Int)(W:List P2):List P2->Prop
 |b::a::r=>(∀q∈W,s*ae a b q<=0)/\qZ s W (a::r)
 |_=>True
theorem lL.weak{s:Int}{W:List P2}:∀{st:List P2},lL s W st->qZ s W st
 |[],_=>trivial
 |[_],_=>trivial
 |b::a::r,h=>⟨λq hq=>(h.1 q hq).1,lL.weak h.2⟩
theorem yS{s:Int}{a m b q:P2}(h1:plt a m)(h2:plt a b)(h0:ae a b m=0)(h:s*ae a b q<=0):s*ae a m q<=0:=by
 have l1:=au h1;have l2:=au h2;unfold bu at l1 l2;unfold ae at *;generalize b.1-a.1=u1 at *;generalize b.2-a.2=u2 at *;generalize m.1-a.1=v1 at *;generalize m.2-a.2=v2 at *;generalize q.1-a.1=w1 at *;generalize q.2-a.2=w2 at *;rcases l2 with k |⟨k,k2⟩
 ·have e:u1*(s*(v1*w2-v2*w1))=v1*(s*(u1*w2-u2*w1)):=by grind
  have v0:0<=v1:=by lia
  have r:v1*(s*(u1*w2-u2*w1))<=0:=GY v0 h;rw[<-e]at r;rcases GO 0 (s*(v1*w2-v2*w1)) with z |z
  ·have:=Gi k z;lia
  ·exact z
 ·subst k
  have v10:v1=0:=by
   have:u2*v1=0:=by grind
   rcases F_.mp this with z |z
   ·lia
   ·exact z
  subst v10;have e:u2*(s*(0*w2-v2*w1))=v2*(s*(0*w2-u2*w1)):=by grind
  have v0:0<=v2:=by lia
  have r:v2*(s*(0*w2-u2*w1))<=0:=GY v0 h;rw[<-e]at r;rcases GO 0 (s*(0*w2-v2*w1)) with z |z
  ·have:=Gi k2 z;lia
  ·exact z
theorem iW:∀{b a:P2}{r:List P2},eF (b::a::r)->∀z,(b::a::r).getLast?=some z->plt z b
 |b,a,[],d,z,h=>by
  have e:a=z:=by simpa using h
  rw[<-e];exact d.1
 |b,a,c::r,d,z,h=>aM (iW (b:=a) d.tail z (by rw[Gy]at h;exact h)) d.1
theorem l4(P:P2):∀st:List P2,OB (aR P st) st
 |[]=>J4 _
 |[_]=>J4 _
 |b::a::r=>by
  rw[aR];split
  ·exact (l4 P (a::r)).trans (List.sublist_cons_self _ _)
  ·exact J4 _
theorem qN:∀r:List P2,OB (aj r).reverse r:=by
 refine ci (J4 _) λl P ih=>?_
 have e:aj (l++[P])=P::aR P (aj l):=by unfold aj;rw[J1];rfl
 rw[e,JW];exact ((l4 P (aj l)).reverse.trans ih).append (J4 _)
theorem sr:∀{l:List P2},l.Pairwise (λx y=>plt y x)->eF l
 |[],_=>trivial
 |[_],_=>trivial
 |b::a::r,h=>⟨(Gg.mp h).1 a (by simp),sr (Gg.mp h).2⟩
theorem sV{s:Int}{W:List P2}:∀{L:List P2},(∀(i:Nat) (a b:P2),L[i]?=some b->L[i+1]?=some a->∀q∈W,s*ae a b q<=0)->qZ s W L
 |[],_=>trivial
 |[_],_=>trivial
 |b::a::r,h=>⟨h 0 a b rfl rfl,sV λi x y h1 h2=>h (i+1) x y h1 h2⟩
def chG(g:P2×P2->Int):List P2->Int
 |a::b::r=>g (a,b)+chG g (b::r)
 |_=>0
theorem rS(g:P2×P2->Int)(m:P2):∀u v:List P2,chG g (u++m::v)=chG g (u++[m])+chG g (m::v)
 |[],v=>by simp[chG]
 |[a],v=>by simp[chG]
 |a::b::u,v=>by
  have ih:=rS g m (b::u) v;show g (a,b)+chG g (b::u++m::v)=g (a,b)+chG g (b::u++[m])+chG g (m::v);rw[ih];exact (Int.add_assoc ..).symm
theorem pL(g:P2×P2->Int)(a:P2):∀(x:P2) (r:List P2),((OS (x::r) (r++[a])).map g).sum=chG g (x::r++[a])
 |x,[]=>by simp[chG]
 |x,y::r=>by
  have ih:=pL g a y r;rw[Jf,Il,FU,MC,ih];rfl
theorem zG(a:P2)(r:List P2):sdl (a::r)=OS (a::r) (r++[a]):=by
 have key:∀l:List (P2×P2),l=OS (l.map (·.1)) (l.map (·.2)):=λl=>by
  induction l with
  |nil=>rfl
  |cons x l ih=>rw[FU,FU,Il,<-ih]
 rw[key (sdl (a::r)),nP,rY];rfl
theorem cV(a:P2):¬ plt a a:=by unfold plt;lia
theorem e9{a b:P2}(h:plt a b):¬ plt b a:=by unfold plt at *;lia
theorem fZ(s:Int){row:List P2}(h:row≠[]):∃b r,(aA s row).1=b::r/\row.getLast?=some b:=by
 obtain⟨l,P,rfl⟩:∃l P,row=l++[P]:=⟨row.dropLast,row.getLast h,(GI h).symm⟩;rw[b8];exact⟨P,_,rfl,by simp⟩
def Ad(g:P2×P2->Int):Prop:=∀a m b:P2,plt a m->plt m b->ae a b m=0->g (a,b)=g (a,m)+g (m,b)
def chD(g:P2×P2->Int):List P2->Int
 |b::a::r=>g (a,b)+chD g (a::r)
 |_=>0
theorem iV{g:P2×P2->Int}(hg:Ad g){s:Int}(hs:s=1\/s=-1){W:List P2}:∀(n:Nat) (C D:List P2),C.length+D.length<=n->C≠[]->D≠[]->eF C->eF D->C.head?=D.head?->C.getLast?=D.getLast?->qZ s W C->qZ s W D->(∀p∈C,p∈W)->(∀p∈D,p∈W)->chD g C=chD g D
 |n,[x],[y],_,_,_,_,_,_,_,_,_,_,_=>rfl
 |n,[x],y::a::r,_,_,_,_,dD,hh,hl,_,_,_,_=>by
  have e:x=y:=by simpa using hh
  have:=iW dD x (by rw[<-hl];rfl)
  rw[e]at this;exact absurd this (cV _)
 |n,y::a::r,[x],_,_,_,dC,_,hh,hl,_,_,_,_=>by
  have e:y=x:=by simpa using hh
  have:=iW dC x (by rw[hl];rfl)
  rw[e]at this;exact absurd this (cV _)
 |0,b::a::r,_::_::_,hn,_,_,_,_,_,_,_,_,_,_=>by simp at hn
 |n+1,b::a::r,b'::a'::r',hn,_,_,dC,dD,hh,hl,cC,cD,sC,sD=>by
  have e:b=b':=by simpa using hh
  subst e;have ma:=sC a (by simp)
  have ma':=sD a' (by simp)
  have k1:=cC.1 a' ma';have k2:=cD.1 a ma;have ee:ae a' b a=- ae a b a':=by unfold ae;grind
  have z0:ae a b a'=0:=by
   rw[ee]at k2;rcases hs with e |e <;>subst e <;>lia
  have z0':ae a' b a=0:=by rw[ee,z0];rfl
  have t1:(a::r).getLast?=(a'::r').getLast?:=by rw[Gy,Gy]at hl;exact hl
  have sC':∀p∈a::r,p∈W:=λp hp=>sC p (Fn _ hp)
  have sD':∀p∈a'::r',p∈W:=λp hp=>sD p (Fn _ hp)
  simp only[F8]at hn;show g (a,b)+chD g (a::r)=g (a',b)+chD g (a'::r');rcases cZ a a' with y |y |y
  ·have ih:=iV hg hs n (a'::a::r) (a'::r') (by simp only[F8];lia) (by simp) (by simp) ⟨y,dC.tail⟩ dD.tail rfl (by rw[Gy];exact t1) ⟨λq hq=>yS y dC.1 z0 (cC.1 q hq),cC.2⟩ cD.2 (λp hp=>by
    rcases Fw.mp hp with k |k
    ·rw[k];exact ma'
    ·exact sC' p k) sD'
   have e1:chD g (a'::a::r)=g (a,a')+chD g (a::r):=rfl;have e2:=hg a a' b y dD.1 z0;lia
  ·subst y;have ih:=iV hg hs n (a::r) (a::r') (by simp only[F8];lia) (by simp) (by simp) dC.tail dD.tail rfl t1 cC.2 cD.2 sC' sD'
   lia
  ·have ih:=iV hg hs n (a::r) (a::a'::r') (by simp only[F8];lia) (by simp) (by simp) dC.tail ⟨y,dD.tail⟩ rfl (by rw[Gy];exact t1) cC.2 ⟨λq hq=>yS y dD.1 z0' (cD.1 q hq),cD.2⟩ sC' (λp hp=>by
    rcases Fw.mp hp with k |k
    ·rw[k];exact ma
    ·exact sD' p k)
   have e1:chD g (a::a'::r')=g (a',a)+chD g (a'::r'):=rfl;have e2:=hg a' a b y dC.1 z0';lia
 |_,[],_,_,h,_,_,_,_,_,_,_,_,_=>absurd rfl h
 |_,_::_,[],_,_,h,_,_,_,_,_,_,_,_=>absurd rfl h
theorem xS(g:P2×P2->Int):∀l:List P2,chG g l=chD (λs=>g (s.2,s.1)) l
 |[]=>rfl
 |[_]=>rfl
 |a::b::r=>by rw[chG,chD,xS g (b::r)]
theorem zn(g:P2×P2->Int):∀l:List P2,chG g l.reverse=chD g l
 |[]=>rfl
 |[_]=>rfl
 |b::a::r=>by
  have e:(b::a::r).reverse=r.reverse++a::[b]:=by simp
  rw[e,rS,chD,<-zn g (a::r),JW];show _+(g (a,b)+0)=_;lia
theorem xn{g:P2×P2->Int}(hg:Ad g)(hg':Ad λs=>g (s.2,s.1)){pts:List P2}(h2:2<=(ST.srt pts).length):((sdl (am pts)).map g).sum=chD g (aA (-1) (ST.srt pts)).1+chD (λs=>g (s.2,s.1)) (aA 1 (ST.srt pts)).1:=by
 have asc:(ST.srt pts).Pairwise plt:=(ST.srt_asc pts).imp λ{a b} h=>by
  unfold ST.ltP at h;unfold plt;simpa using h
 have ec:am pts=(aj (ST.srt pts)).reverse.dropLast++(aj (ST.srt pts).reverse).reverse.dropLast:=by unfold am;rw[if_neg (by lia)]
 generalize ST.srt pts=row at *;have Q1:row≠[]:=λz=>by rw[z]at h2;simp at h2
 obtain⟨mn,mx,Wy⟩:=ways asc h2;obtain⟨kb,kl,kh⟩:=b7 asc Q1;have bc:=@h7 row asc Q1;have bs:=qN row.reverse;generalize hT:(aj row).reverse=T at *;generalize hB:(aj row.reverse).reverse=B at *;have bT:aj row=T.reverse:=by rw[<-hT,IM]
 have mxr:row.getLast?=some mx:=by
  rw[<-kh,bT,KC,GM];exact Wy.t1
 have mnr:row.head?=some mn:=by
  rw[<-kl,bT,JO,Hi];exact Wy.t0
 have bots:∀s,s=1\/s=-1->(aA s row).1≠[]/\eF (aA s row).1/\(aA s row).1.head?=some mx/\(aA s row).1.getLast?=some mn/\qZ s row (aA s row).1/\∀p∈(aA s row).1,p∈row:=λs hs=>by
  have K:=jy hs row asc Q1;obtain⟨b,r,e,hb⟩:=fZ s Q1;refine⟨K.ne,K.desc,by rw[e,<-mxr,hb];rfl,?_,K.cov.weak,K.sub⟩
  obtain⟨z,hz⟩:∃z,(aA s row).1.getLast?=some z:=⟨_,Kt K.ne⟩;have zr:=K.sub z (IP hz);have hm:mn∈row:=Ou mnr;have:=K.bot z hz mn hm;rcases Wy.least z zr with y |y
  ·rw[hz,y]
  ·exact absurd y this
 obtain⟨p1,p2,p3,p4,p5,p6⟩:=bots 1 (.inl rfl);obtain⟨n1,n2,n3,n4,n5,n6⟩:=bots (-1) (.inr rfl)
 have low:chD g (aA (-1) row).1=chD g (aj row):=by
  refine iV hg (.inr rfl) (W:=row) _ _ _ (Fu _) n1 kb.ne n2 kb.desc (by rw[n3,kh,mxr]) (by rw[n4,kl,mnr]) n5 ?_ n6 kb.sub
  have conv:∀{st:List P2},gr row st→qZ (-1) row st:=λ{st}=>by
   induction st with
   |nil=>intro _;trivial
   |cons b st ih=>
    cases st with
    |nil=>intro _;trivial
    |cons a r=>exact λc=>⟨λq hq=>by have:=c.1 q hq;lia,ih c.2⟩
  exact conv kb.cover
 have bne:B≠[]:=λe=>by have:=Wy.lb;rw[e]at this;simp at this
 have tne:T≠[]:=λe=>by have:=Wy.lt;rw[e]at this;simp at this
 have up:chD (λs=>g (s.2,s.1)) (aA 1 row).1=chD (λs=>g (s.2,s.1)) B:=by
  refine iV hg' (.inl rfl) (W:=row) _ _ _ (Fu _) p1 bne p2 ?_ ?_ ?_ p5 ?_ p6 ?_
  ·refine sr (QB bs ?_);rw[HU];exact asc
  ·rw[p3,Hi];exact Wy.b0.symm
  ·rw[p4,GM];exact Wy.b1.symm
  ·refine sV λi a b h1 h2 q hq=>?_
   have:=bc h1 h2 q hq;have e:ae a b q=- ae b a q:=by unfold ae;grind
   rw[e];lia
  ·exact λp hp=>FM.mp (bs.subset hp)
 rw[low,up,bT,<-zn,IM,<-xS,ec]
 have key:∀{L:List P2}{x y:P2},2<=L.length->L.head?=some x->L.getLast?=some y->∃t,L=x::t++[y]/\L.dropLast=x::t:=λ{L x y} hl hh hy=>by
  have ln:L≠[]:=λe=>by rw[e]at hl;simp at hl
  have e:L=L.dropLast++[y]:=by
   have h:L.getLast ln=y:=by rw[Kt ln]at hy;exact Gv hy
   rw[<-h];exact (GI ln).symm
  match L,hl,hh,e with
  |a::b::r,_,hh,e=>cases hh;exact⟨(b::r).dropLast,e,rfl⟩
 obtain⟨t,e1,d1⟩:=key Wy.lt (by rw[Hi];exact Wy.t0) (by rw[GM];exact Wy.t1)
 obtain⟨v,e2,d2⟩:=key Wy.lb (by rw[Hi];exact Wy.b0) (by rw[GM];exact Wy.b1)
 rw[d1,d2,Jf,zG,pL,e1,e2];rw[show mn::(t++mx::v)++[mn]=(mn::t)++mx::(v++[mn]) by simp,rS]
 rfl
theorem ym:∀l:List P2,chS l=chD crs l
 |[]=>rfl
 |[_]=>rfl
 |b::a::r=>by rw[chS,chD,ym (a::r)]
theorem xI:∀l:List P2,chD (λs=>crs (s.2,s.1)) l=- chS l
 |[]=>rfl
 |[_]=>rfl
 |b::a::r=>by
  have e:crs (b,a)=- crs (a,b):=by unfold crs;grind
  rw[chS,chD,xI (a::r),e,Int.neg_add]
theorem vX{pts:List P2}(h2:2<=(ST.srt pts).length):area (am pts)=chS (aA (-1) (ST.srt pts)).1-chS (aA 1 (ST.srt pts)).1:=by
 have h:=xn (g:=crs) (λa m b _ _ h=>by unfold ae at h;unfold crs;grind) (λa m b _ _ h=>by unfold ae at h;unfold crs;grind) h2
 rw[xI,<-ym]at h;unfold area;rw[h];lia
structure TOk(s:Int)(row:List P2)(t:Tri):Prop where
 ma:t.1∈row
 mb:t.2.1∈row
 mP:t.2.2∈row
 ab:plt t.1 t.2.1
 bP:plt t.2.1 t.2.2
 d:0<s*iN t
 cov:∀q∈row,plt q t.2.2->s*ae t.1 t.2.1 q<=0/\(s*ae t.1 t.2.1 q=0->plt t.1 q->plt q t.2.1->False)
theorem BR{s:Int}(hs:s=1\/s=-1){done:List P2}{P:P2}(hP:∀q∈done,plt q P):∀st:List P2,DW s done st P->∀t∈cu s P st,TOk s (done++[P]) t
 |[],_,t,h=>by cases h
 |[_],_,t,h=>by cases h
 |b::a::r,D,t,h=>by
  rw[cu]at h;split at h
  ·rename_i k
   rcases Fw.mp h with e |e
   ·subst e;have ma:=D.sub a (by simp)
    have mb:=D.sub b (by simp)
    refine⟨FJ _ ma,FJ _ mb,by simp,D.desc.1,hP b mb,k,λq hq Q4=>?_⟩
    rcases FB.mp hq with y |y
    ·exact D.cov.1 q y
    ·rw[Fy.mp y]at Q4;have hlt':plt P P:=Q4;unfold plt at hlt';lia
   ·exact BR hs hP (a::r) (nC hs hP D k) t e
  ·cases h
theorem w8{s:Int}{row:List P2}{P:P2}(hP:∀q∈row,plt q P){t:Tri}(h:TOk s row t):TOk s (row++[P]) t:=by
 refine⟨FJ _ h.ma,FJ _ h.mb,FJ _ h.mP,h.ab,h.bP,h.d,λq hq Q4=>?_⟩
 rcases FB.mp hq with y |y
 ·exact h.cov q y Q4
 ·rw[Fy.mp y]at Q4;have:=hP _ h.mP;unfold plt at *;lia
theorem dj{s:Int}(hs:s=1\/s=-1):∀row:List P2,row.Pairwise plt->∀t∈(aA s row).2,TOk s row t:=by
 refine ci (λ_ t h=>by cases h) λl P ih hs2 t ht=>?_
 obtain⟨h1,h2⟩:=cg hs2;rw[b8]at ht;rcases FB.mp (show t∈(aA s l).2++cu s P (aA s l).1 from ht) with k |k
 ·exact w8 h2 (ih h1 t k)
 ·by_cases hl:l=[]
  ·subst hl;cases k
  ·refine BR hs h2 _ ⟨jy hs l h1 hl,λh r e q hq Q4=>?_⟩ t k
   have e2:l=l.dropLast++[l.getLast hl]:=(GI hl).symm;have hd:=oe s l.dropLast (l.getLast hl);rw[<-e2,e]at hd;have eh:h=l.getLast hl:=by simpa using hd
   rw[eh]at Q4;rw[e2]at h1 hq
   exfalso
   rcases FB.mp hq with k |k
   ·have:=(cg h1).2 q k;unfold plt at *;lia
   ·rw[Fy.mp k]at Q4;unfold plt at Q4;lia
theorem md{s:Int}(hs:s=1\/s=-1){row:List P2}{t:Tri}(h:TOk s row t){p:P2}(hp:p∈row)(h1:0<=s*ae t.1 t.2.1 p)(h2:0<=s*ae t.2.1 t.2.2 p)(h3:0<=s*ae t.2.2 t.1 p):p=t.1\/p=t.2.1\/p=t.2.2:=by
 obtain⟨a,b,P⟩:=t;have ab:=h.ab;have bP:=h.bP;have d:=h.d;have cv:=h.cov p hp;dsimp only at *;unfold iN at d;dsimp only at d;have sum:s*ae a b p+s*ae b P p+s*ae P a p=s*ae a b P:=by unfold ae;grind
 have x1:s*ae a b P*(P.1-p.1)=s*ae b P p*(P.1-a.1)+s*ae P a p*(P.1-b.1):=by unfold ae;grind
 have x2:s*ae a b P*(P.2-p.2)=s*ae b P p*(P.2-a.2)+s*ae P a p*(P.2-b.2):=by unfold ae;grind
 have y1:s*ae a b P*(p.1-a.1)=s*ae P a p*(b.1-a.1)+s*ae a b p*(P.1-a.1):=by unfold ae;grind
 have y2:s*ae a b P*(p.2-a.2)=s*ae P a p*(b.2-a.2)+s*ae a b p*(P.2-a.2):=by unfold ae;grind
 have z1:s*ae a b P*(b.1-p.1)=s*ae b P p*(b.1-a.1)-s*ae a b p*(P.1-b.1):=by unfold ae;grind
 have z2:s*ae a b P*(b.2-p.2)=s*ae b P p*(b.2-a.2)-s*ae a b p*(P.2-b.2):=by unfold ae;grind
 generalize s*ae a b P=D at *;generalize s*ae b P p=α at *;generalize s*ae P a p=β at *;generalize s*ae a b p=γ at *;have aP:=aM ab bP
 have zero:∀{x:Int},D*x=0->x=0:=λ{x} e=>by
  rcases F_.mp e with k |k
  ·lia
  ·exact k
 have neg:∀{x:Int},0<=D*x->0<=x:=λ{x} e=>by
  rcases GO x 0 with k |k
  ·have:=L4 d k;lia
  ·exact k
 have Ui:∀{x:Int},0<D*x->0<x:=λ{x} e=>by
  rcases GO 0 x with k |k
  ·exact k
  ·have:=GY (show 0<=D by lia) k
   lia
 have lex:∀{u1 u2 v1 v2:Int},bu u1 u2->bu v1 v2->∀{m n:Int},0<=m->0<=n->(m*u1+n*v1=0/\m*u2+n*v2=0/\m=0/\n=0)\/bu (m*u1+n*v1) (m*u2+n*v2):=λ{u1 u2 v1 v2} hu hv {m n} hm hn=>by
  by_cases m0:m=0
  ·by_cases n0:n=0
   ·subst m0;subst n0;left;simp
   ·subst m0
    right
    unfold bu at *;rcases hv with k |⟨k1,k2⟩
    ·left;have:=Gi (show 0<n by lia) k;lia
    ·right;rw[k1];have:=Gi (show 0<n by lia) k2;exact⟨by lia,by lia⟩
  ·right
   unfold bu at *;have mp:0<m:=by lia
   rcases hu with k |⟨k1,k2⟩
   ·left
    have:=Gi mp k;have:0<=n*v1:=FQ hn (by lia)
    lia
   ·rcases hv with j |⟨j1,j2⟩
    ·by_cases n0:n=0
     ·subst n0;right;rw[k1];have:=Gi mp k2;exact⟨by lia,by lia⟩
     ·left;rw[k1];have:=Gi (show 0<n by lia) j;lia
    ·right
     rw[k1,j1];have:=Gi mp k2;have:0<=n*v2:=FQ hn (by lia)
     exact⟨by lia,by lia⟩
 by_cases hpP:p=P
 ·exact .inr (.inr hpP)
 have ltP:plt p P:=by
  rcases lex (au aP) (au bP) h2 h3 with ⟨e1,e2,_⟩ |k
  ·rw[<-x1]at e1;rw[<-x2]at e2;have e1:=zero e1;have e2:=zero e2;exact absurd (GU (by lia) (by lia)) hpP
  ·rw[<-x1,<-x2]at k;unfold bu at k;unfold plt;rcases k with k |⟨k1,k2⟩
   ·have:=Ui k;lia
   ·have:=zero k1;have:=Ui k2;lia
 obtain⟨g1,g2⟩:=cv ltP;have g0:γ=0:=by lia
 rw[g0]at y1 y2 z1 z2;simp only[IG,Nl,Nn]at y1 y2 z1 z2;by_cases b0:β=0
 ·rw[b0,IG]at y1 y2;have e1:=zero y1;have e2:=zero y2;exact .inl (GU (by lia) (by lia))
 by_cases a0:α=0
 ·rw[a0,IG]at z1 z2;have e1:=zero z1;have e2:=zero z2;exact .inr (.inl (GU (by lia) (by lia)))
 have l:=au ab
 have mid:∀{m x1 x2:Int},0<m->D*x1=m*(b.1-a.1)->D*x2=m*(b.2-a.2)->bu x1 x2:=λ{m x1 x2} hm e1 e2=>by
  unfold bu at l |-;rcases l with k |⟨k1,k2⟩
  ·left;apply Ui;rw[e1];exact Gi hm k
  ·right
   rw[k1,G5]at e1;exact⟨zero e1,Ui (by rw[e2];exact Gi hm k2)⟩
 have m1:=mid (show 0<β by lia) y1 y2
 have m2:=mid (show 0<α by lia) z1 z2
 refine (g2 g0 ?_ ?_).elim
 ·unfold bu at m1;unfold plt;lia
 ·unfold bu at m2;unfold plt;lia
theorem nu {s:Int} (hs:s=1∨s=-1) {row:List P2} (hr:row.Pairwise plt) (conv:∀a b c p:P2,a∈row→b∈row→c∈row→0<ae a b c→0≤ae a b p→0≤ae b c p→0≤ae c a p→p∈row):∀t∈(aA s row).2,iN t=s:=λt ht=>by
 have K:=dj hs row hr t ht;have d:=K.d;rcases hs with e |e <;>subst e
 ·have d1:0<ae t.1 t.2.1 t.2.2:=by unfold iN at d;lia
  refine ul d1 λp h1 h2 h3=>?_
  exact md (.inl rfl) K (conv _ _ _ p K.ma K.mb K.mP d1 h1 h2 h3) (by lia) (by lia) (by lia)
 ·have e1:ae t.2.1 t.1 t.2.2=- iN t:=by unfold iN ae;grind
  have d1:0<ae t.2.1 t.1 t.2.2:=by rw[e1];lia
  have:=ul d1 λp h1 h2 h3=>by
   have mp:=conv _ _ _ p K.mb K.ma K.mP d1 h1 h2 h3
   have f1:ae t.1 t.2.1 p=- ae t.2.1 t.1 p:=by unfold ae;grind
   have f2:ae t.2.1 t.2.2 p=- ae t.2.2 t.2.1 p:=by unfold ae;grind
   have f3:ae t.2.2 t.1 p=- ae t.1 t.2.2 p:=by unfold ae;grind
   rcases md (.inr rfl) K mp (by rw[f1];lia) (by rw[f2];lia) (by rw[f3];lia) with k |k |k
   ·exact .inr (.inl k)
   ·exact .inl k
   ·exact .inr (.inr k)
  rw[e1]at this;lia
theorem jg{c:Int}:∀{l:List Tri},(∀t∈l,iN t=c)->(l.map iN).sum=c*(l.length:Int)
 |[],_=>by simp
 |t::l,h=>by
  rw[FU,MC,h t Fv,jg λx hx=>h x (Fn _ hx),F8]
  grind
theorem uT {pts:List P2} (h2:2≤(ST.srt pts).length) (conv:∀a b c p:P2,a∈ST.srt pts→b∈ST.srt pts→c∈ST.srt pts→0<ae a b c→0≤ae a b p→0≤ae b c p→0≤ae c a p→p∈ST.srt pts):
  (((aA 1 (ST.srt pts)).2.length+(aA (-1) (ST.srt pts)).2.length:Nat):Int)=area (am pts):=by
 have asc:(ST.srt pts).Pairwise plt:=(ST.srt_asc pts).imp λ{a b} h=>by
  unfold ST.ltP at h;unfold plt;simpa using h
 have a:=vX h2;have c1:=tD 1 (ST.srt pts);have c2:=tD (-1) (ST.srt pts)
 rw[jg (nu (.inl rfl) asc conv)]at c1
 rw[jg (nu (.inr rfl) asc conv)]at c2
 lia
theorem mW(s:Int)(P:P2):∀st:List P2,(cu s P st).map (λt=>t.2.1)++b6 s P st=st
 |[]=>rfl
 |[_]=>rfl
 |b::a::r=>by
  by_cases h:0<s*ae a b P
  ·rw[b6,cu,if_pos h,if_pos h,FU,Jf,mW s P (a::r)]
  ·rw[b6,cu,if_neg h,if_neg h];rfl
theorem nW(s:Int):∀row:List P2,Ik ((aA s row).2.map (λt=>t.2.1)++(aA s row).1) row:=by
 refine ci (LX _) λl P ih=>?_
 rw[b8];show Ik (((aA s l).2++cu s P (aA s l).1).map (λt=>t.2.1)++(P::b6 s P (aA s l).1)) (l++[P])
 have e:=mW s P (aA s l).1;rw[Gr,FF]
 have k:Ik ((cu s P (aA s l).1).map (λt=>t.2.1)++(P::b6 s P (aA s l).1)) ((aA s l).1++[P]):=by
  refine Jy.trans ?_;rw[e];exact (LK P _).symm
 refine (Hq _ k).trans ?_;rw[<-FF];exact ih.append_right [P]
theorem xH(s:Int){row:List P2}(h:row.Nodup):((aA s row).2.map (λt=>t.2.1)).Nodup:=by
 have:=(nW s row).nodup_iff.mpr h;exact (Gm.mp this).1
theorem zM{row:List P2}(hr:row.Pairwise plt)(hn:row.Nodup):((aA 1 row).2++(aA (-1) row).2).Nodup:=by
 refine Gm.mpr ⟨?_,?_,λt h1 u h2 e=>?_⟩
 ·exact (Gb.mp (xH 1 hn)).imp λ{a b} k e=>k (by rw[e])
 ·exact (Gb.mp (xH (-1) hn)).imp λ{a b} k e=>k (by rw[e])
 ·subst e;have d1:=(dj (.inl rfl) row hr t h1).d;have d2:=(dj (.inr rfl) row hr t h2).d;lia
theorem xy(s n:Int)(hs:s=1\/s=-1):decide (sgn n=s)=decide (0<s*n):=by
 refine decide_eq_decide.mpr ?_;unfold sgn;rcases hs with rfl |rfl <;>(repeat' split) <;>lia
def gU(t:Tri):ST3.TR:=if 0<ae t.1 t.2.1 t.2.2 then (t.1,t.2.1,t.2.2) else (t.1,t.2.2,t.2.1)
theorem zq{a b c:P2}(h1:plt a b)(h2:plt b c)(h:ae a b c≠0):am [a,b,c]=[(gU (a,b,c)).1,(gU (a,b,c)).2.1,(gU (a,b,c)).2.2]:=by
 have h13:=aM h1 h2
 have hs:ST.srt [a,b,c]=[a,b,c]:=ST.asc_srt (by
  refine .cons (λx hx=>?_) (.cons (λx hx=>?_) (.cons (λx hx=>by simp at hx) .nil))
  ·simp at hx;rcases hx with rfl |rfl
   ·exact (cF _ _).mp h1
   ·exact (cF _ _).mp h13
  ·simp at hx;rw[hx];exact (cF _ _).mp h2)
 have hd:ae c b a=-ae a b c:=by unfold ae;grind
 unfold am;rw[hs];unfold gU;by_cases k:0<ae a b c
 ·simp[aj,aR,hd,k,show ¬ ae a b c<=0 by lia,show -ae a b c<=0 by lia]
 ·simp[aj,aR,hd,k,show ae a b c<=0 by lia,show ¬ -ae a b c<=0 by lia]
theorem iH(s:Int)(row:List P2):(aA s row).2.length+(aA s row).1.length=row.length:=by
 have:=(nW s row).length_eq;rw[FT,Fk]at this;exact this
theorem Aa(s:Int)(row:List P2):∀q∈(aA s row).1,q∈row:=λq hq=>(nW s row).mem_iff.mp (FG _ hq)
def wC:List U->Out->Prop:=λus o=>∃(row:List P2) (s:Int),us=[lp row,.int s]/\(s=1\/s=-1)/\row.Pairwise plt/\(∀p∈row,Szp 2500 p)/\row.length<=200/\o=.new ((aA s row).2.map λt=>trU (gU t))
theorem k7(T:Txt w K mg):bg P w K mg base (CXF P w) 5 T.aap.a T.aap.d ["row","hand"] (spU K (wC)):=by
 refine be T.aap.F fv (λus o h=>?_) (λQ6 A outer s H E O us o hr h=>?_)
 ·obtain⟨row,s,rfl,hs,hr',sz,hl,rfl⟩:=h;rfl
 obtain⟨row,s,rfl,hs,hr',sz,hl,rfl⟩:=h;refine Ws.nox ?_;refine af (jq (i:=2) fv.nd rfl (Or.inl rfl) (cP bA) ?_);refine af (jq (i:=3) fv.nd rfl (Or.inl rfl) (cP bA) ?_);refine af (d8 (λz:List P2×List Tri=>[some (.val (lp row)),some (.val (.int s)),some (.own (z.1.reverse.map pu)),some (.own (z.2.map λt=>trU (gU t))),none]) (λi z=>z=aA s (row.take i)) rfl PassesOwn.never (cM (aa 0 rfl) (.inl rfl)) ?h0 ?hs ?hd)
 case h0=>exact⟨([],[]),rfl,rfl,rfl,rfl,rfl,trivial⟩
 case hs=>
  rintro H0 i x _ hx rfl;obtain⟨P,hP,mP,rfl⟩:=pX hx;have hi:i<row.length:=aC hP;have sP:=sz P mP;refine⟨_,(fu (i:=4) fv.nd rfl (Or.inl rfl)),?_⟩;have tk:row.take (i+1)=row.take i++[P]:=by rw[IB,hP];rfl
  have hp:(row.take i++[P]).Pairwise plt:=by rw[<-tk];exact hr'.sublist (L_ _ _)
  obtain⟨hp1,hp2⟩:=cg hp;have lz:=iH s (row.take i);rw[IJ]at lz
  have sub:∀q∈(aA s (row.take i)).1,q∈row/\plt q P:=λq hq=>by
   have:=Aa s _ q hq;exact⟨Jp this,hp2 q this⟩
  have hdesc:eF (aA s (row.take i)).1:=by
   by_cases h0:row.take i=[]
   ·rw[h0];exact trivial
   ·exact (jy hs _ hp1 h0).desc
  have suc:aA s (row.take (i+1))=wst s (aA s (row.take i)) P:=by rw[tk,b8]
  generalize aA s (row.take i)=z at *;refine fC (λps=>SubP [some (.val (lp row)),some (.val (.int s)),some (.own ((b6 s P z.1).reverse.map pu)),some (.own ((z.2++cu s P z.1).map λt=>trU (gU t))),some (.val (pu P))] ps) (gG (λy:List P2×List Tri=>[some (.val (lp row)),some (.val (.int s)),some (.own (y.1.reverse.map pu)),some (.own (y.2.map λt=>trU (gU t))),some (.val (pu P))]) (λn y=>n=y.1.length/\b6 s P y.1=b6 s P z.1/\y.2++cu s P y.1=z.2++cu s P z.1/\(∀q∈y.1,q∈row/\plt q P)/\eF y.1/\y.2.length+y.1.length<=i) PassesOwn.never ?h0 ?hs) ?hj
  case h0=>exact⟨_,z,⟨rfl,rfl,rfl,sub,hdesc,by lia⟩,rfl,rfl,rfl,rfl,rfl,trivial⟩
  case hs=>
   rintro m ⟨y1,y2⟩ ⟨rfl,e1,e2,sb,ds,le⟩;dsimp only at e1 e2 sb ds le |-
   match y1,e1,e2,sb,ds,le with
   |[],e1,e2,sb,ds,le=>
    refine⟨false,?_,λh=>(nomatch h),λh ps Rh=>?_⟩
    ·exact (Tw.t (iY (aI iE (eZ 2 rfl rfl T.aak) ag) rfl))
    ·rw[<-e1,<-e2];simpa [b6,cu] using Rh
   |[b],e1,e2,sb,ds,le=>
    refine⟨false,?_,λh=>(nomatch h),λh ps Rh=>?_⟩
    ·exact (Tw.t (iY (aI iE (eZ 2 rfl rfl T.aak) ag) rfl))
    ·rw[<-e1,<-e2];simpa [b6,cu] using Rh
   |b::a::r,e1,e2,sb,ds,le=>
    have sa:=sz a (sb a (by simp)).1
    have sbb:=sz b (sb b (by simp)).1
    have pbP:=(sb b (by simp)).2
    have pab:plt a b:=ds.1;have l1:decide ((1:Int)<((((b::a::r).reverse.map pu).length:Nat):Int))=true:=decide_eq_true (by simp;lia)
    have up:∀{p:P2},Szp 2500 p->Szp 5000 p:=λh=>⟨h.1.mono (by decide),h.2.mono (by decide)⟩
    refine⟨decide ((1:Int)<((((b::a::r).reverse.map pu).length:Nat):Int)) && decide (sgn (ae a b P)=s),?_,λh=>?_,λh ps Rh=>?_⟩
    ·exact (Tw.t (sq (aI iE (eZ 2 rfl rfl T.aak) ag) (λhz=>(rq (aI cB (aH ((tV T).mono (by decide)) hr rfl T.aaM.m T.aaM.F.kp T.aaM.b aD (ah (jx 2 rfl (cq ag) (tH b a r)) (ah (jx 2 rfl (cq ag) (tm b (a::r))) (ah (aa 4 rfl) ao ai) aZ) aZ) ⟨a,b,P,rfl,up sa,up sbb,up sP,rfl⟩) (aa 1 rfl))))))
    ·rw[l1,JU,xy s _ hs]at h;have hd:=dTb h;have hd0:ae a b P≠0:=λz=>by rw[z]at hd;simp at hd
     have ct:=zq pab pbP hd0
     refine af (fe 3 rfl (Ay (AW (.inl rfl)) rfl T.aaQ Nu (ah (EvN.ev (b9 ((kN T).mono (by decide)) hr rfl T.aav.m T.aav.F.kp T.aav.b aD (ah (EvN.ev (cP (ay (jx 2 rfl (cq ag) (tH b a r)) (ay (jx 2 rfl (cq ag) (tm b (a::r))) (ay (aa 4 rfl) bA ai) aZ) aZ))) ao CC) ⟨[a,b,P],rfl,λp hp=>by
      simp only[Fw,Lq,or_false]at hp;rcases hp with rfl |rfl |rfl
      ·exact up sa
      ·exact up sbb
      ·exact up sP,by simp,by simp,by rw[ct]⟩)) ao de)) (by rw[Fk];exact aJ (by simp at le;lia)) ?_)
     refine af (zt 2 rfl (by simp) (aG ?_))
     refine⟨_,(a::r,y2++[(a,b,P)]),?_,⟨rfl,?_,?_,λq hq=>sb q (Fn _ hq),ds.2,?_⟩,rfl,rfl,?_,?_,rfl,trivial⟩
     ·simp
     ·rw[←e1];conv=>rhs;unfold b6
      rw[if_pos hd]
     ·rw[←e2];conv=>rhs;unfold cu
      rw[if_pos hd];simp
     ·simp at le |-;lia
     ·exact congrArg (λl=>some (Sl.own l)) (by simp)
     ·exact congrArg (λl=>some (Sl.own l)) (by simp)
    ·rw[l1,JU,xy s _ hs]at h;have hd:=dFb h
     have k1:b6 s P (b::a::r)=b::a::r:=by conv=>lhs;unfold b6
                                          rw[if_neg hd]
     have k2:cu s P (b::a::r)=[]:=by conv=>lhs;unfold cu
                                     rw[if_neg hd]
     rw[<-e1,<-e2,k1,k2,Ib];exact Rh
  case hj=>
   intro ps Rh;refine cE ?_ Rh
   have kl:(b6 s P z.1).length<=z.1.length:=by
    have:∀st:List P2,(b6 s P st).length<=st.length:=λst=>by
     have:=congrArg Mp (mW s P st);rw[FT]at this;lia
    exact this _
   refine af (fe 2 rfl (aa 4 rfl) (by rw[Fk,Gx];exact aJ (by lia)) (aG ?_))
   refine⟨_,rfl,rfl,rfl,?_,?_,trivial⟩
   ·exact congrArg (λl=>some (Sl.own l)) (by rw[suc];simp[wst])
   ·exact congrArg (λl=>some (Sl.own l)) (by rw[suc];rfl)
 case hd=>
  rintro q ps hq Rh;refine cE ?_ Rh;rw[Fk]at hq;subst hq;rw[Hv];refine af (rG 3 rfl ?_);exact rfl
theorem nT{n:Nat}{x a b:Int}(ha:Sz n a)(hb:Sz n b)(h1:a<=x)(h2:x<=b):Sz n x:=by
 rcases GO x 0 with z |z
 ·exact ha.natle (by lia)
 ·exact hb.natle (by lia)
theorem t_{l:List P2}(Q1:l≠[])(h:∀p∈l,Szp 150 p):loX l<=hiX l/\loY l<=hiY l/\Sz 150 (loX l)/\Sz 150 (hiX l)/\Sz 150 (loY l)/\Sz 150 (hiY l):=by
 have hx:l.map (·.1)≠[]:=by simpa using Q1
 have hy:l.map (·.2)≠[]:=by simpa using Q1
 obtain⟨q1,m1,e1⟩:=Fs.mp (cJ hx).1;obtain⟨q2,m2,e2⟩:=Fs.mp (dg hx).1;obtain⟨q3,m3,e3⟩:=Fs.mp (cJ hy).1;obtain⟨q4,m4,e4⟩:=Fs.mp (dg hy).1;have l1:=(cJ hx).2 _ (dg hx).1;have l2:=(cJ hy).2 _ (dg hy).1;refine⟨l1,l2,?_,?_,?_,?_⟩
 ·unfold loX;rw[<-e1];exact (h q1 m1).1
 ·unfold hiX;rw[<-e2];exact (h q2 m2).1
 ·unfold loY;rw[<-e3];exact (h q3 m3).2
 ·unfold hiY;rw[<-e4];exact (h q4 m4).2
theorem vY{Z P B q:P2}(hD:0<ae Z P B)(h1:ae Z P q=0)(h2:ae P B q=0):q=P:=by
 have f1:ae Z P B*(q.1-P.1)=0:=by
  have:ae Z P B*(q.1-P.1)=(B.1-P.1) *ae Z P q-(P.1-Z.1) *ae P B q:=by unfold ae;grind
  rw[this,h1,h2];simp
 have f2:ae Z P B*(q.2-P.2)=0:=by
  have:ae Z P B*(q.2-P.2)=(B.2-P.2) *ae Z P q-(P.2-Z.2) *ae P B q:=by unfold ae;grind
  rw[this,h1,h2];simp
 have g1:=(F_.mp f1).resolve_left (by lia)
 have g2:=(F_.mp f2).resolve_left (by lia)
 exact GU (by lia) (by lia)
theorem DH{l:List P2}(h3:3<=(am l).length){p q:P2}{a b:Int}(hp:p∈am l)(hw:∀r∈am l,r≠p->wth a b r<wth a b p)(hq:∀s∈sdl (am l),0<=ae s.1 s.2 q)(ne:q≠p):wth a b q<wth a b p:=by
 obtain⟨Z,P,B,hZ,hB,pos,e,k1,k2⟩:=sE h3 a b;have mZ:=bv hZ;have mB:=bv hB;dsimp only at mZ mB
 have hP:P=p:=Gn λz=>by
  have w1:=hw P mZ.2 z;obtain⟨_,kk⟩:=kQ a b (l:=am l) (λz=>by rw[z]at h3;simp at h3)
  have:=kk p hp;lia
 subst hP
 have nZ:Z≠P:=fun z=>by subst z;have:ae Z Z B=0:=by unfold ae;grind
                        lia
 have nB:B≠P:=fun z=>by subst z;have:ae Z B B=0:=by unfold ae;grind
                        lia
 have wZ:=hw Z mZ.1 nZ;have wB:=hw B mB.2 nB;have i1:=hq _ hB;have i2:=hq _ hZ;dsimp only at i1 i2;have id:ae Z P B*(wth a b P-wth a b q)=ae P B q*(wth a b P-wth a b Z)+ae Z P q*(wth a b P-wth a b B):=by unfold ae wth;grind
 rcases GO (wth a b q) (wth a b P) with z |z
 ·exact z
 ·exfalso
  have t1:0<=ae P B q*(wth a b P-wth a b Z):=FQ i1 (by lia)
  have t2:0<=ae Z P q*(wth a b P-wth a b B):=FQ i2 (by lia)
  have t3:ae Z P B*(wth a b P-wth a b q)<=0:=by
   have:=FQ (show 0<=ae Z P B by lia) (show 0<=wth a b q-wth a b P by lia)
   have e2:ae Z P B*(wth a b q-wth a b P)=-(ae Z P B*(wth a b P-wth a b q)):=by grind
   lia
  have z1:ae P B q*(wth a b P-wth a b Z)=0:=by omega
  have z2:ae Z P q*(wth a b P-wth a b B)=0:=by omega
  have d1:=(F_.mp z1).resolve_right (by lia)
  have d2:=(F_.mp z2).resolve_right (by lia)
  exact ne (vY pos d2 d1)
theorem uO{A B:List P2}(h:∀p,p∈A↔p∈B):am A=am B:=by
 have:ST.srt A=ST.srt B:=ST.asc_one (ST.srt_asc _) (ST.srt_asc _) λz=>by rw[ST.srt_mem,ST.srt_mem,h]
 unfold am;rw[this]
theorem gN{l:List P2}(F:Fld l)(h3:3<=l.length):am (aN l)=l:=by
 have hc:=F.cr;have Sm:3<=(am l).length:=by rw[hc];exact h3
 have inl:∀q,q∈aN l↔∀s∈sdl (am l),0<=ae s.1 s.2 q:=λq=>by rw[ck F,dF h3,hc]
 have sub:∀p∈l,p∈aN l:=λp hp=>(inl p).mpr λs hs=>((ie Sm).mp hs).2.2.2 p (by rw[hc];exact hp)
 have up:∀p∈l,p∈am (aN l):=λp hp=>by
  obtain⟨_,a,b,hw⟩:=ce Sm (p:=p) (by rw[hc];exact hp)
  refine eR ⟨sub p hp,a,b,λq hq ne=>?_⟩
  exact DH Sm (by rw[hc];exact hp) (λr hr=>hw r (aV _ r hr)) ((inl q).mp hq) ne
 have c3:3<=(am (aN l)).length:=by
  have nd:l.Nodup:=by rw[<-hc];exact bp l
  exact Hh h3 (L2.nd_len nd up)
 have dn:∀p∈am (aN l),p∈l:=λp hp=>Gn λz=>by
  obtain⟨hm,a,b,hw⟩:=ce c3 hp;have pk:=B6 Sm a b ((inl p).mp hm);obtain⟨⟨q,hq,e⟩,_⟩:=kQ a b (l:=am l) (λz=>by rw[z]at Sm;simp at Sm)
  rw[hc]at hq;have:=hw q (sub q hq) λe=>z (e ▸ hq)
  lia
 rw[<-gI (aN l),uO λp=>⟨dn p,up p⟩,hc]
theorem mJ{l:List P2}(F:Fld l)(h3:3<=l.length):∀a b c p:P2,a∈aN l->b∈aN l->c∈aN l->0<ae a b c->0<=ae a b p->0<=ae b c p->0<=ae c a p->p∈aN l:=λa b c p ha hb hc hd h1 h2 h4=>by
 have inl:∀q,q∈aN l↔∀s∈sdl l,0<=ae s.1 s.2 q:=λq=>by rw[ck F,dF h3]
 rw[inl]at *;intro s hs;have a1:=ha s hs;have b1:=hb s hs;have c1:=hc s hs;have id:ae a b c*ae s.1 s.2 p=ae s.1 s.2 a*ae b c p+ae s.1 s.2 b*ae c a p+ae s.1 s.2 c*ae a b p:=by unfold ae;grind
 have t1:=FQ a1 h2;have t2:=FQ b1 h4;have t3:=FQ c1 h1;rcases GO (ae s.1 s.2 p) 0 with z |z
 ·exfalso
  have:=Gi hd (show 0 < -ae s.1 s.2 p by lia)
  have e:ae a b c* -ae s.1 s.2 p=-(ae a b c*ae s.1 s.2 p):=by grind
  lia
 ·exact z
theorem dz(l:List P2):(aN l).Pairwise plt:=(ST.srt_asc _).imp λ{a b} h=>(cF a b).mpr h
def lM(l:List P2):List Tri:=(aA 1 (aN l)).2++(aA (-1) (aN l)).2
def pcs(l:List P2):List ST3.TR:=(lM l).map gU
theorem yH(l:List P2):(pcs l).Nodup:=by
 have hp:=dz l;have nd:(aN l).Nodup:=hp.imp λ{a b} h e=>by subst e;exact a_ a h
 unfold pcs;refine Gb.mpr ((zM hp nd).imp_of_mem λ{x y} hx hy ne e=>ne ?_)
 have key:∀t,t∈lM l->plt t.1 t.2.1/\plt t.2.1 t.2.2:=λt ht=>by
  rcases FB.mp ht with h |h
  ·have:=dj (.inl rfl) _ hp t h;exact⟨this.ab,this.bP⟩
  ·have:=dj (.inr rfl) _ hp t h;exact⟨this.ab,this.bP⟩
 obtain⟨x1,x2⟩:=key x hx;obtain⟨y1,y2⟩:=key y hy;obtain⟨a,b,c⟩:=x;obtain⟨a',b',c'⟩:=y;unfold gU at e;dsimp only at *;split at e <;>split at e <;>simp only[N8]at e
 ·obtain⟨rfl,rfl,rfl⟩:=e;rfl
 ·obtain⟨rfl,rfl,rfl⟩:=e;exact absurd (aM x2 y2) (a_ _)
 ·obtain⟨rfl,rfl,rfl⟩:=e;exact absurd (aM x2 y2) (a_ _)
 ·obtain⟨rfl,rfl,rfl⟩:=e;rfl
theorem si(l:List P2):(lM l).length<=2*(aN l).length:=by
 unfold lM;have h1:=iH 1 (aN l);have h2:=iH (-1) (aN l);rw[FT];lia
def ji:List P2->List (List P2)
 |a::b::r=>[a,b]::ji (b::r)
 |_=>[]
noncomputable def iq(l:List P2):List (List P2):=if l.length=1 then [[gp l 0]] else if l.length=2 then ji (aN l) else (SG.srt ST3.KT (pcs l)).map λt=>[t.1,t.2.1,t.2.2]
abbrev plU(q:List P2):U:=.tup (q.map pu)
theorem mt:∀r:List P2,LS (λa b=>U.tup [a,b]) (r.map pu) ((r.map pu).drop 1)=(ji r).map plU
 |[]=>rfl
 |[_]=>rfl
 |a::b::r=>by
  have ih:=mt (b::r);simp only[FU,List.drop_succ_cons,List.drop_zero,List.zipWith_cons_cons,ji]at ih |-;rw[ih];rfl
theorem pf{A:P2}(F:Fld [A]):aN [A]=[A]:=by
 rw[<-jJ (R:=[A]) F λp=>by rw[iX];simp]
 exact cL (pts:=[A]) (by have:=ST.srt_len [A];simp at this;lia) ▸ F.cr
structure uJ(l:List P2):Prop where
 F:Fld l
 l64:l.length<64
 sz:∀p∈l,Szp 150 p
 cnt:nA l<=100
 np:(aN l).length<=100
def xN:List U->Out->Prop:=λus o=>∃l:List P2,us=[lp l]/\uJ l/\o=.new ((iq l).map plU)
theorem vH(T:Txt w K mg):bg P w K mg base (CXF P w) 9 T.aaI.a T.aaI.d ["land"] (spU K (xN)):=by
 refine be T.aaI.F mR (λus o h=>?_) (λQ6 A outer s H E O us o hr h=>?_)
 ·obtain⟨l,rfl,⟨F,hl,sz,hc,fl⟩,rfl⟩:=h;rfl
 obtain⟨l,rfl,⟨F,hl,sz,hc,fl⟩,rfl⟩:=h;refine Ws.nox ?_;have hm:((l.map pu).length:Int)=(l.length:Int):=by rw[Fk]
 have l0:0<l.length:=G0.mpr F.ne;refine af (aE (i:=1) mR.nd rfl (Or.inl rfl) (EvN.ev (b9 ((vP T).mono (by decide)) hr rfl T.aaH.m T.aaH.F.kp T.aaH.b aD (ah (aa 0 rfl) ao ai) ⟨l,rfl,F,hl,sz,⟨hc,fl⟩,rfl⟩)) ?_)
 by_cases h1:l.length=1
 ·obtain⟨A,rfl⟩:=KL.mp h1;rw[pf F];refine af (fS (aI cB (av (bX rfl) rfl T.aak Gd (ah (aa 0 rfl) ao ai)) ag) rfl ?_);refine af (c8 (cP (ay (bW (ay (aB (aa 1 rfl) ag rfl rfl) bA aZ)) bA oo)) ?_);exact rfl
 refine af (bQ (aI cB (av (bX rfl) rfl T.aak Gd (ah (aa 0 rfl) ao ai)) ag) (by rw[hm];exact decide_eq_false (by lia)) (aG ?_))
 by_cases h2:l.length=2
 ·refine af (fS (aI cB (av (bX rfl) rfl T.aak Gd (ah (aa 0 rfl) ao ai)) ag) (by rw[hm];exact decide_eq_true (by lia)) ?_)
  refine af (c8 (j6 rfl rfl T.aaS rfl T.aa4 (aa 1 rfl) (.inl rfl) (EvN.ev (fF (aa 1 rfl) (gu ag) i7 (.inl rfl))) (.inl rfl) (by rw[tj,Jc];lia) (by rw[Fk];lia) ai aZ) ?_)
  rw[tj,mt];unfold iq;rw[if_neg h1,if_pos h2]
 refine af (bQ (aI cB (av (bX rfl) rfl T.aak Gd (ah (aa 0 rfl) ao ai)) ag) (by rw[hm];exact decide_eq_false (by lia)) (aG ?_))
 have rl:=si l
 have fz:∀p∈aN l,Szp 2500 p:=λp hp=>by
  have q:=(eM F.ne).mp (F.in_box ((ck F p).mp hp));obtain⟨_,_,w1,w2,w3,w4⟩:=t_ F.ne sz;exact⟨(nT w1 w2 q.1.1 q.1.2).mono (by decide),(nT w3 w4 q.2.1 q.2.2).mono (by decide)⟩
 have hpc:U.lst (((aA 1 (aN l)).2.map λt=>trU (gU t))++((aA (-1) (aN l)).2.map λt=>trU (gU t)))=U.lst ((pcs l).map trU):=by
  unfold pcs lM;rw[F5,Gr];rfl
 refine af (c8 (qm ST3.KT trU t0 (trs:=pcs l) B9 (λa b=>ST3.KT_det a b) rfl T.aaN (gO hr) (Bi hpc (EvN.ev (uq (EvN.ev (b9 ((k7 T).mono (by decide)) hr rfl T.aap.m T.aap.F.kp T.aap.b aD (ah (aa 1 rfl) (ah ag ao d4) ai) ⟨aN l,1,rfl,.inl rfl,dz l,fz,by lia,rfl⟩)) (EvN.ev (b9 ((k7 T).mono (by decide)) hr rfl T.aap.m T.aap.F.kp T.aap.b aD (ah (aa 1 rfl) (ah (cq ag) ao j7) ai) ⟨aN l,-1,rfl,.inr rfl,dz l,fz,by lia,rfl⟩)) (by rw[Fk,Fk];exact GW (aJ (by unfold lM at rl;rw[FT]at rl;lia)))))) ⟨by unfold pcs;rw[Fk];lia,yH l⟩ bq) ?_)
 unfold iq;rw[if_neg h1,if_neg h2,F5];exact rfl
def fG(s:Int)(P:P2):List P2->List (P2×P2)
 |b::a::r=>if 0<s*ae a b P then (b,P)::fG s P (a::r) else [(b,P)]
 |[b]=>[(b,P)]
 |[]=>[]
def aF:List P2->List (P2×P2)
 |b::a::r=>(a,b)::aF (a::r)
 |_=>[]
def evr(s:Int)(row:List P2):List P2×List (P2×P2):=row.foldl (λz P=>(P::b6 s P z.1,z.2++fG s P z.1)) ([],[])
def evE(s:Int)(row:List P2):List (P2×P2):=(evr s row).2
theorem AK(s:Int):∀row:List P2,(evr s row).1=(aA s row).1:=ci rfl λl P ih=>by
 rw[b8];unfold evr at *;rw[J1];show P::b6 s P _=_;rw[ih];rfl
theorem iL(s:Int)(row:List P2)(P:P2):evE s (row++[P])=evE s row++fG s P (aA s row).1:=by
 rw[<-AK];unfold evE evr;rw[J1];rfl
def gi(t:Tri):List (P2×P2):=[(t.1,t.2.1),(t.2.1,t.2.2)]
def gQ(t:Tri):P2×P2:=(t.1,t.2.2)
theorem qv(s:Int)(P:P2):∀(b:P2) (r:List P2),fG s P (b::r)=(b,P)::(cu s P (b::r)).map gQ
 |b,[]=>rfl
 |b,a::r=>by
  by_cases h:0<s*ae a b P
  ·rw[fG,cu,if_pos h,if_pos h,qv s P a r];rfl
  ·rw[fG,cu,if_neg h,if_neg h];rfl
theorem oQ(s:Int)(P:P2):∀(b:P2) (r:List P2),Ik (aF (b::r)++fG s P (b::r)) ((cu s P (b::r)).flatMap gi++aF (P::b6 s P (b::r)))
 |b,[]=>.refl _
 |b,a::r=>by
  by_cases h:0<s*ae a b P
  ·rw[fG,cu,b6,if_pos h,if_pos h,if_pos h];have ih:=oQ s P a r;rw[HX];show Ik ((a,b)::(aF (a::r)++(b,P)::fG s P (a::r))) ((a,b)::(b,P)::((cu s P (a::r)).flatMap gi++_));exact .cons _ (Jy.trans (.cons _ ih))
  ·rw[fG,cu,b6,if_neg h,if_neg h,if_neg h];exact HS
theorem fQ(s:Int):∀row:List P2,Ik (evE s row) ((aA s row).2.flatMap gi++aF (aA s row).1):=ci (.refl _) λl P ih=>by
 rw[iL,b8];by_cases h0:l=[]
 ·subst h0;exact .refl _
 obtain⟨b,r,e,_⟩:=fZ s h0;show Ik _ (((aA s l).2++cu s P (aA s l).1).flatMap gi++aF (P::b6 s P (aA s l).1));rw[e]at ih |-;rw[Kl,FF];exact (ih.append_right _).trans (by rw[FF];exact (oQ s P b r).append_left _)
theorem ki(l:List P2)(b P:P2):aF ((l++[b])++[P]).reverse=(b,P)::aF (l++[b]).reverse:=by
 rw[Ht,Ht];rfl
theorem fO(s:Int):∀row:List P2,Ik (evE s row) ((aA s row).2.map gQ++aF row.reverse):=ci (.refl _) λl P ih=>by
 rw[iL,b8];by_cases h0:l=[]
 ·subst h0;exact .refl _
 obtain⟨b,r,e,hb⟩:=fZ s h0;obtain⟨l',P',e'⟩:∃l' P',l=l'++[P']:=⟨l.dropLast,l.getLast h0,(GI h0).symm⟩;have:P'=b:=by rw[e']at hb;simpa using hb
 subst this;show Ik _ (((aA s l).2++cu s P (aA s l).1).map gQ++aF (l++[P]).reverse);have es:aF (l++[P]).reverse=(P',P)::aF l.reverse:=by rw[e'];exact ki l' P' P
 rw[es,e,qv,Gr,FF];refine (ih.append_right _).trans ?_;rw[FF];refine Hq _ ?_;refine HS.trans ?_;rw[Jf];exact Jy.symm
theorem h9:∀l:List P2,(aF l).length=l.length-1
 |[]=>rfl
 |[_]=>rfl
 |b::a::r=>by rw[aF,F8,h9 (a::r)];rfl
structure SdO(s:Int)(row:List P2)(e:P2×P2):Prop where
 m1:e.1∈row
 m2:e.2∈row
 lt:plt e.1 e.2
 hand:∀q∈row,plt e.1 q->plt q e.2->s*ae e.1 e.2 q<0
theorem nO{s:Int}(hs:s=1\/s=-1){l:List P2}{P:P2}(hP:∀q∈l,plt q P):∀st:List P2,DW s l st P->∀e∈fG s P st,e.2=P/\SdO s (l++[P]) e
 |[],D,_,h=>absurd rfl D.ne
 |b::r,D,e,h=>by
  have one:e=(b,P)->e.2=P/\SdO s (l++[P]) e:=λz=>by
   subst z;have mb:=D.sub b Fv;refine⟨rfl,FJ _ mb,by simp,hP b mb,λq hq h1 h2=>?_⟩
   rcases FB.mp hq with k |k
   ·exact D.pend b r rfl q k h1
   ·rw[Fy.mp k]at h2;exact absurd h2 (cV _)
  cases r with
  |nil=>exact one (by simpa [fG] using h)
  |cons a r=>
   by_cases c:0<s*ae a b P
   ·rw[fG,if_pos c]at h;rcases Fw.mp h with z |z
    ·exact one z
    ·exact nO hs hP (a::r) (nC hs hP D c) e z
   ·rw[fG,if_neg c]at h;exact one (by simpa using h)
theorem BZ{s:Int}(hs:s=1\/s=-1){l:List P2}(hl:l.Pairwise plt)(h0:l≠[])(P:P2):DW s l (aA s l).1 P:=
 {jy hs l hl h0 with
  pend:=λh r e q hq Q4=>by
   obtain⟨b,r',e',hb⟩:=fZ s h0;rw[e']at e;have eh:b=h:=(JZ e).1;subst eh
   have hc:l=l.dropLast++[b]:=by
    have:l.getLast h0=b:=by rw[Lr h0]at hb;exact Gv hb
    rw[<-this];exact (GI h0).symm
   rw[hc]at hl hq;rcases FB.mp hq with k |k
   ·exact absurd Q4 (e9 ((cg hl).2 q k))
   ·rw[Fy.mp k]at Q4;exact absurd Q4 (cV _) }
theorem lW{s:Int}(hs:s=1\/s=-1):∀row:List P2,row.Pairwise plt->∀e∈evE s row,SdO s row e:=ci (λ_ e h=>by simp[evE,evr]at h) λl P ih hp e he=>by
 obtain⟨h1,h2⟩:=cg hp;rw[iL]at he;rcases FB.mp he with k |k
 ·have z:=ih h1 e k;refine⟨FJ _ z.m1,FJ _ z.m2,z.lt,λq hq g1 g2=>?_⟩
  rcases FB.mp hq with y |y
  ·exact z.hand q y g1 g2
  ·rw[Fy.mp y]at g2;exact absurd g2 (e9 (h2 _ z.m2))
 ·by_cases h0:l=[]
  ·subst h0;simp[aA,fG]at k
  ·exact (nO hs h2 _ (BZ hs h1 h0 P) e k).2
theorem oJ(s:Int)(P:P2):∀st:List P2,OB ((fG s P st).map (·.1)) st
 |[]=>.slnil
 |[b]=>.refl _
 |b::a::r=>by
  by_cases c:0<s*ae a b P
  ·rw[fG,if_pos c];exact (oJ s P (a::r)).cons_cons _
  ·rw[fG,if_neg c];exact (List.nil_sublist _).cons_cons _
theorem yQ{l:List P2}(h:l.Pairwise plt):l.Nodup:=h.imp λ{a b} (z:plt a b) (e:a=b)=>cV b (e ▸ z)
theorem Dx{l:List P2}(h:eF l):l.Nodup:=(i9 h).imp λ{a b} (z:plt b a) (e:a=b)=>cV b (e ▸ z)
theorem tz{s:Int}(hs:s=1\/s=-1):∀row:List P2,row.Pairwise plt->(evE s row).Nodup:=ci (λ_=>.nil) λl P ih hp=>by
 obtain⟨h1,h2⟩:=cg hp;rw[iL];by_cases h0:l=[]
 ·subst h0;simp[evE,evr,aA,fG]
 refine Gm.mpr ⟨ih h1,?_,λa ha b hb e=>?_⟩
 ·exact Lw _ (λa b (z:a.1≠b.1) (e:a=b)=>z (by rw[e])) ((Dx (jy hs l h1 h0).desc).sublist (oJ s P _))
 ·subst e;have z:=(nO hs h2 _ (BZ hs h1 h0 P) a hb).1;have y:=h2 _ (lW hs l h1 a ha).m2;rw[z]at y;exact cV _ y
theorem Ae:∀row:List P2,row.Pairwise plt->∀a b:P2,a∈row->b∈row->plt a b->(∀q∈row,plt a q->plt q b->False)->(a,b)∈aF row.reverse:=ci (λ_ a b h=>by simp at h) λl P ih hp a b ha hb R7 no=>by
 obtain⟨h1,h2⟩:=cg hp
 have ha':a∈l:=by
  rcases FB.mp ha with k |k
  ·exact k
  ·rw[Fy.mp k]at R7;rcases FB.mp hb with y |y
   ·exact absurd R7 (e9 (h2 b y))
   ·rw[Fy.mp y]at R7;exact absurd R7 (cV _)
 have h0:l≠[]:=Oe ha';have e:l=l.dropLast++[l.getLast h0]:=(GI h0).symm
 have es:aF (l++[P]).reverse=(l.getLast h0,P)::aF l.reverse:=by
  have:=ki l.dropLast (l.getLast h0) P;rw[<-e]at this;exact this
 rw[es];rcases FB.mp hb with y |y
 ·exact Fn _ (ih h1 a b ha' y R7 λq hq=>no q (FJ _ hq))
 ·have eb:=Fy.mp y;subst eb
  have:a=l.getLast h0:=by
   rw[e]at ha' h1;rcases FB.mp ha' with k |k
   ·exact (no (l.getLast h0) (FJ _ (OQ h0)) ((cg h1).2 a k) (h2 _ (OQ h0))).elim
   ·exact Fy.mp k
  rw[this];exact Fv
theorem nD{row:List P2}(hp:row.Pairwise plt){e:P2×P2}(h1:e∈evE 1 row)(h2:e∈evE (-1) row):e∈aF row.reverse:=by
 have a:=lW (.inl rfl) row hp e h1;have b:=lW (.inr rfl) row hp e h2
 exact Ae row hp e.1 e.2 a.m1 a.m2 a.lt λq hq g1 g2=>by
  have:=a.hand q hq g1 g2;have:=b.hand q hq g1 g2;lia
theorem Fe{u v a b c:P2}(h:plt u v)(ha:ae u v a=0)(hb:ae u v b=0)(hc:ae u v c=0):ae a b c=0:=by
 have l:=au h;unfold bu at l
 have key:(v.1-u.1) *ae a b c=0/\(v.2-u.2) *ae a b c=0:=by
  unfold ae at *;constructor
  ·grind
  ·grind
 rcases l with k |⟨k,k2⟩
 ·exact (F_.mp key.1).resolve_left (by lia)
 ·exact (F_.mp key.2).resolve_left (by lia)
theorem d7{s:Int}{W:List P2}:∀{st:List P2},eF st->lL s W st->∀e∈aF st,e.1∈st/\e.2∈st/\plt e.1 e.2/\∀q∈W,s*ae e.1 e.2 q<=0
 |[],_,_,e,h=>by simp[aF]at h
 |[_],_,_,e,h=>by simp[aF]at h
 |b::a::r,d,c,e,h=>by
  rcases Fw.mp h with z |z
  ·rw[z];exact⟨by simp,by simp,d.1,λq hq=>(c.1 q hq).1⟩
  ·obtain⟨h1,h2,h3⟩:=d7 d.tail c.2 e z;exact⟨Fn _ h1,Fn _ h2,h3⟩
structure f_(row:List P2):Prop where
 asc:row.Pairwise plt
 nc:∃a b c,a∈row/\b∈row/\c∈row/\ae a b c≠0
theorem f_.ne{row:List P2}(R:f_ row):row≠[]:=by obtain⟨a,_,_,h,_⟩:=R.nc;exact Oe h
theorem f_.kw{row:List P2}(R:f_ row){s:Int}(hs:s=1\/s=-1):KW s row (aA s row).1:=jy hs row R.asc R.ne
theorem f_.apart{row:List P2}(R:f_ row){u v:P2}(h:plt u v)(h1:∀q∈row,(1:Int) *ae u v q<=0)(h2:∀q∈row,(-1:Int) *ae u v q<=0):False:=by
 obtain⟨a,b,c,ha,hb,hc,n⟩:=R.nc;have z:∀q∈row,ae u v q=0:=λq hq=>by have:=h1 q hq;have:=h2 q hq;lia
 exact n (Fe h (z a ha) (z b hb) (z c hc))
theorem f_.kk{row:List P2}(R:f_ row){f:P2×P2}(h1:f∈aF (aA 1 row).1)(h2:f∈aF (aA (-1) row).1):False:=by
 have a:=d7 (R.kw (.inl rfl)).desc (R.kw (.inl rfl)).cov f h1;have b:=d7 (R.kw (.inr rfl)).desc (R.kw (.inr rfl)).cov f h2;exact R.apart a.2.2.1 a.2.2.2 b.2.2.2
theorem tR{a b:Int}(ha:0<a)(h:0<a*b):0<b:=by
 rcases GO 0 b with z |z
 ·exact z
 ·have:=GY (OA ha) z;lia
theorem ff{k u v:Int}(hu:bu u v)(hk:bu (k*u) (k*v)):0<k:=by
 unfold bu at *;rcases Ov k 0 with z |z |z
 ·exfalso
  rcases hu with a |⟨a,b⟩
  ·have:=L5 z a;lia
  ·subst a;have:=L5 z b;simp only[G5]at hk;lia
 ·subst z;simp only[IG]at hk;lia
 ·exact z
theorem oK{u v:Int}(h:Jv u v=1){k:Int}(hk:0<k):((Jv (k*u) (k*v):Nat):Int)=k:=by
 rw[OR,h];lia
theorem yC:Ad gst:=λa m b h1 h2 h0=>by
 have h3:=aM h1 h2;have Q1:((a,b):P2×P2).1≠((a,b):P2×P2).2:=λe=>cV _ (by have e':a=b:=e;rw[e']at h3;exact h3)
 obtain⟨k,rfl⟩:=jQ Q1 h0;have eu:=eN (a,b);have ev:=eK (a,b);have gp:=ca Q1;generalize hG:gst (a,b)=G at *
 have c1:Jv (ub (a,b)) (vb (a,b))=1:=by
  have:gst (a,b)=((Jv (G*ub (a,b)) (G*vb (a,b)):Nat):Int):=by
   conv=>lhs;unfold gst
   rw[eu,ev]
  rw[OR,hG]at this
  have e:G=G*((Jv (ub (a,b)) (vb (a,b)):Nat):Int):=by
   conv=>lhs;rw[this]
   push_cast
   congr 1;lia
  have:((Jv (ub (a,b)) (vb (a,b)):Nat):Int)=1:=by
   have z:G*(((Jv (ub (a,b)) (vb (a,b)):Nat):Int)-1)=0:=by rw[Int.mul_sub,<-e];lia
   rcases F_.mp z with y |y <;>lia
  lia
 unfold onS at *;dsimp only at *;have l3:=au h3;have l1:=au h1;have l2:=au h2;dsimp only at l1 l2;generalize ub (a,b)=u at *;generalize vb (a,b)=v at *;have q1:a.1+k*u-a.1=k*u:=by lia
 have q2:a.2+k*v-a.2=k*v:=by lia
 have q3:b.1-(a.1+k*u)=(G-k) *u:=by rw[NO];lia
 have q4:b.2-(a.2+k*v)=(G-k) *v:=by rw[NO];lia
 rw[q1,q2]at l1;rw[q3,q4]at l2;rw[eu,ev]at l3
 have lu:bu u v:=by
  unfold bu at l3 |-;rcases l3 with x |⟨x,y⟩
  ·left;exact tR gp x
  ·right;exact⟨(F_.mp x).resolve_left (by lia),tR gp y⟩
 have k0:=ff lu l1;have k1:=ff lu l2;have g1:gst (a,((a.1+k*u,a.2+k*v):P2))=k:=by unfold gst;dsimp only;rw[q1,q2];exact oK c1 k0
 have g2:gst (((a.1+k*u,a.2+k*v):P2),b)=G-k:=by unfold gst;dsimp only;rw[q3,q4];exact oK c1 k1
 rw[g1,g2];lia
theorem A9:Ad λs=>gst (s.2,s.1):=λa m b h1 h2 h0=>by
 dsimp only;rw[dy,dy a m,dy m b];exact yC a m b h1 h2 h0
def Seg(row:List P2):Prop:=∀a b m:P2,a∈row->b∈row->plt a m->plt m b->ae a b m=0->m∈row
theorem ka{s:Int}{row:List P2}(sg:Seg row):∀{st:List P2},eF st->lL s row st->(∀p∈st,p∈row)->chD gst st=((aF st).length:Int)/\chD (λs=>gst (s.2,s.1)) st=((aF st).length:Int)
 |[],_,_,_=>⟨rfl,rfl⟩
 |[_],_,_,_=>⟨rfl,rfl⟩
 |b::a::r,d,c,m=>by
  have ih:=ka sg d.tail c.2 λp hp=>m p (Fn _ hp)
  have g1:gst (a,b)=1:=by
   have Q1:((a,b):P2×P2).1≠((a,b):P2×P2).2:=λe=>cV b (by have e':a=b:=e;have:=d.1;rw[e']at this;exact this)
   have gp:=ca Q1;rcases GO 1 (gst (a,b)) with z |z
   ·exfalso
    have h0:ae a b (onS (a,b) 1)=0:=by
     have:=gg (a,b) 1 a b;have e1:ae a b a=0:=by unfold ae;grind
     have e2:ae a b b=0:=by unfold ae;grind
     rw[e1,e2,G5,G5]at this;exact (F_.mp this).resolve_left (by lia)
    have l3:=au d.1;have eu:=eN (a,b);have ev:=eK (a,b);dsimp only at eu ev;rw[eu,ev]at l3
    have lu:bu (ub (a,b)) (vb (a,b)):=by
     unfold bu at l3 |-;rcases l3 with x |⟨x,y⟩
     ·left;exact tR gp x
     ·right;exact⟨(F_.mp x).resolve_left (by lia),tR gp y⟩
    have lw:bu ((gst (a,b)-1) *ub (a,b)) ((gst (a,b)-1) *vb (a,b)):=by
     unfold bu at lu |-;rcases lu with x |⟨x,y⟩
     ·left;exact Gi (by lia) x
     ·right;exact⟨by rw[x,G5],Gi (by lia) y⟩
    have p1:plt a (onS (a,b) 1):=by unfold plt onS;unfold bu at lu;dsimp only;lia
    have p2:plt (onS (a,b) 1) b:=by
     unfold plt onS;unfold bu at lw;rw[NO,NO,<-eu,<-ev]at lw;dsimp only;lia
    have mm:=sg a b _ (m a (by simp)) (m b (by simp)) p1 p2 h0
    exact (c.1 _ mm).2 (by rw[h0,G5]) p1 p2
   ·lia
  have e1:chD gst (b::a::r)=gst (a,b)+chD gst (a::r):=rfl;have e2:chD (λs=>gst (s.2,s.1)) (b::a::r)=gst (b,a)+chD (λs=>gst (s.2,s.1)) (a::r):=rfl
  have e3:(aF (b::a::r)).length=(aF (a::r)).length+1:=rfl;rw[e1,e2,e3,dy a b,g1,ih.1,ih.2];constructor <;>lia
theorem lZ{pts:List P2}(h2:2<=(ST.srt pts).length)(sg:Seg (ST.srt pts)):nK (am pts)=((aF (aA 1 (ST.srt pts)).1).length:Int)+((aF (aA (-1) (ST.srt pts)).1).length:Int):=by
 have asc:(ST.srt pts).Pairwise plt:=(ST.srt_asc pts).imp λ{a b} h=>by
  unfold ST.ltP at h;unfold plt;simpa using h
 have Q1:ST.srt pts≠[]:=λz=>by rw[z]at h2;simp at h2
 have K1:=jy (.inl rfl) _ asc Q1;have K2:=jy (.inr rfl) _ asc Q1;have:=xn yC A9 h2;rw[(ka sg K2.desc K2.cov K2.sub).1,(ka sg K1.desc K1.cov K1.sub).2]at this;unfold nK;rw[this];lia
theorem AZ{l:List P2}(h:2<=(am l).length):2<=(ST.srt l).length:=Gn λz=>by
 rw[cL z]at h;exact z h
theorem iu(l:List P2):ST.srt (aN l)=aN l:=ST.asc_srt (ST.srt_asc _)
theorem nv{l:List P2}(F:Fld l)(h3:3<=l.length):f_ (aN l):=by
 refine⟨dz l,?_⟩;have Sm:3<=(am l).length:=by rw[F.cr];exact h3
 have h2:2<=(ST.srt l).length:=AZ (by lia)
 obtain⟨a,b,ha,hb,_,hc⟩:=ij h2 (i:=0) (by lia)
 obtain⟨c,hc,hd⟩:=hc (by lia)
 have m:∀{i:Nat}{p:P2},(am l)[i]?=some p->p∈aN l:=λ{i p} h=>by
  have:p∈l:=by have:=FD h;rw[F.cr]at this;exact this
  exact aV (aN l) p (by rw[gN F h3];exact this)
 exact⟨a,b,c,m ha,m hb,m hc,by lia⟩
theorem tI{a b:P2}(h:plt a b):ST.leP a b=true:=by
 unfold plt at h;unfold ST.leP;simp;lia
theorem wJ{l:List P2}(F:Fld l)(h3:3<=l.length):Seg (aN l):=λa b m ha hb h1 h2 h0=>by
 rw[ck F,dF h3]at *;have Q1:((a,b):P2×P2).1≠((a,b):P2×P2).2:=λe=>cV b (by have e':a=b:=e;have:=aM h1 h2;rw[e']at this;exact this)
 have lt:ST.ltP a b=true:=(cF a b).mp (aM h1 h2);obtain⟨k,k0,k1,rfl⟩:=(fK lt).mp ⟨h0,tI h1,tI h2⟩;intro s hs;have e:=gg (a,b) k s.1 s.2;dsimp only at e;refine bh (ca Q1) ?_;rw[e];exact NI (FQ (by lia) (ha s hs)) (FQ k0 (hb s hs))
theorem pR{l:List P2}(F:Fld l)(h3:3<=l.length):area l=((lM l).length:Int)/\nK l=2*(((aN l).length:Int)-1)-((lM l).length:Int)/\3<=(aN l).length:=by
 have hc:=gN F h3;have hs:=iu l;have n3:3<=(aN l).length:=by have:=jI (aN l);rw[hc]at this;lia
 have h2:2<=(ST.srt (aN l)).length:=by rw[hs];lia
 have c:=uT h2 (by rw[hs];exact mJ F h3)
 have r:=lZ h2 (by rw[hs];exact wJ F h3)
 rw[hs,hc]at c r;have l1:=iH 1 (aN l);have l2:=iH (-1) (aN l);have R:=nv F h3;have w1:=G0.mpr (R.kw (.inl rfl)).ne;have w2:=G0.mpr (R.kw (.inr rfl)).ne;rw[h9,h9]at r;unfold lM;rw[FT];refine⟨c.symm,?_,n3⟩;rw[r];lia
theorem pU{A B:P2}(F:Fld [A,B])(lt:ST.ltP A B=true):((aN [A,B]).length:Int)=gst (A,B)+1:=by
 have Q1:((A,B):P2×P2).1≠((A,B):P2×P2).2:=λe=>cV B (by have e':A=B:=e;have:=(cF A B).mpr lt;rw[e']at this;exact this)
 have gp:=ca Q1;have nd:(aN [A,B]).Nodup:=yQ (dz _)
 have nd2:((GG ((gst (A,B)).toNat+1)).map λ(k:Nat)=>onS (A,B) (k:Int)).Nodup:=by
  refine Gb.mpr (Lp.imp λ{x y} h e=>h ?_)
  have:=kZ Q1 e;lia
 have p:=((Hy nd nd2).mpr λq=>by
  rw[ck F,jf,fK lt,Fs];constructor
  ·rintro ⟨k,k0,k1,rfl⟩;exact⟨k.toNat,FV.mpr (by lia),by rw[show ((k.toNat:Nat):Int)=k by lia]⟩
  ·rintro ⟨k,hk,rfl⟩;have:=FV.mp hk;exact⟨(k:Int),by lia,by lia,rfl⟩).length_eq
 rw[p,Fk,KY];lia
theorem zJ(A:P2):gst (A,A)=0:=by unfold gst;simp
theorem Bk{l:List P2}(F:Fld l):nA l=((aN l).length:Int):=by
 rcases F.cases with ⟨A,rfl⟩ |⟨A,B,rfl,lt⟩ |h3
 ·rw[pf F];unfold nA pin rimF;simp[gp,zJ]
 ·rw[pU F lt];unfold nA pin rimF;simp[gp]
 ·rw[F.cr]at h3;obtain⟨a,r,n3⟩:=pR F h3;unfold nA pin rimF;rw[if_neg (by lia),if_neg (by lia),a,r]
  lia
theorem jd{s:Int}(hs:s=1\/s=-1){row:List P2}{x y:P2}(mx:x∈row)(my:y∈row)(lt:plt x y)(hh:∀q∈row,s*ae x y q<=0)(no:∀q∈row,ae x y q=0->plt x q->plt q y->False):
  ∀st:List P2,st≠[]->eF st->lL s row st->(∀p∈st,p∈row)->(∀z,st.getLast?=some z->¬ plt x z)->(∀h,st.head?=some h->plt x h)->(x,y)∈aF st
 |[],ne,_,_,_,_,_=>absurd rfl ne
 |[b],_,_,_,_,lo,hi=>absurd (hi b rfl) (lo b rfl)
 |b::a::r,_,d,c,sub,lo,hi=>by
  by_cases xa:plt x a
  ·exact Fn _ (jd hs mx my lt hh no (a::r) (by simp) d.tail c.2 (λp hp=>sub p (Fn _ hp)) (λz hz=>lo z (by rw[Gy];exact hz)) λh e=>by cases e;exact xa)
  ·have xb:=hi b rfl;have ab:=d.1;have ma:=sub a (by simp)
   have mb:=sub b (by simp)
   obtain⟨a1,a1'⟩:=c.1 x mx;obtain⟨a2,a2'⟩:=c.1 y my;have b1:=hh a ma;have b2:=hh b mb;have lv:=au lt;have lr:=au xb
   have xe:x=a:=Gn λne=>by
    have ax:plt a x:=by
     rcases cZ x a with z |z |z
     ·exact absurd z xa
     ·exact absurd z ne
     ·exact z
    have lp:=au ax;have e1:ae x y a=(x.1-a.1) *(y.2-x.2)-(x.2-a.2) *(y.1-x.1):=by unfold ae;grind
    have e2:ae x y b=(y.1-x.1) *(b.2-x.2)-(y.2-x.2) *(b.1-x.1):=by unfold ae;grind
    have e3:ae a b x=- ((x.1-a.1) *(b.2-x.2)-(x.2-a.2) *(b.1-x.1)):=by unfold ae;grind
    rw[e1]at b1;rw[e2]at b2;have t:=wH hs lp lv lr b1 b2;rw[e3]at a1 a1'
    have z:s* -((x.1-a.1) *(b.2-x.2)-(x.2-a.2) *(b.1-x.1))=0:=by
     rw[NN]at a1 |-;lia
    exact a1' z ax xb
   subst xe;have e:ae x y b=- ae x b y:=by unfold ae;grind
   have z:ae x b y=0:=by
    rw[e]at b2;rcases hs with h |h <;>subst h <;>lia
   rcases cZ y b with w |w |w
   ·exact (a2' (by rw[z,G5]) lt w).elim
   ·rw[w];exact Fv
   ·exact (no b mb (by rw[e,z];rfl) xb w).elim
def c9(s:P2×P2):List (P2×P2):=(GG (gst s).toNat).map λ(k:Nat)=>(onS s (k:Int),onS s ((k:Int)+1))
def jo(l:List P2):List (P2×P2):=(sdl l).flatMap c9
theorem jY(l:List P2):(jo l).map (·.1)=apt l:=by
 unfold jo apt c9 spt;rw[List.map_flatMap,List.flatMap_def];simp only[F5];rfl
theorem xj(l:List P2):((jo l).length:Int)=nK l:=by
 rw[<-Aq,<-jY,Fk]
def swp(f:P2×P2):P2×P2:=(f.2,f.1)
def fU(row:List P2):List (P2×P2):=aF (aA (-1) row).1++(aF (aA 1 row).1).map swp
theorem tY{a b:P2×P2}(h:swp a=swp b):a=b:=by
 have e1:a.2=b.2:=congrArg LB h;have e2:a.1=b.1:=congrArg Nv h;exact GU e2 e1
theorem qs{s:P2×P2}(k:Int)(q:P2):gst s*ae (onS s k) (onS s (k+1)) q=ae s.1 s.2 q:=by
 have eu:=eN s;have ev:=eK s;unfold ae onS;dsimp only;grind
theorem pz{l:List P2}(F:Fld l)(h3:3<=l.length):∀f∈jo l,f∈fU (aN l):=λf hf=>by
 have R:=nv F h3;have Sm:3<=(am l).length:=by rw[F.cr];exact h3
 obtain⟨s,hs,hf⟩:=MJ.mp hf;obtain⟨k,hk,rfl⟩:=Fs.mp hf;have hk:=FV.mp hk;have Q1:s.1≠s.2:=by rw[<-F.cr]at hs;exact di Sm hs
 have gp:=ca Q1;have sA:∀q∈aN l,0<=ae s.1 s.2 q:=λq hq=>(dF h3 q).mp ((ck F q).mp hq) s hs
 have all:∀q∈aN l,0<=ae (onS s k) (onS s (k+1)) q:=λq hq=>bh gp (by rw[qs];exact sA q hq)
 have inn:∀j:Int,0<=j->j<=gst s->onS s j∈aN l:=λj j0 j1=>by
  rw[ck F,dF h3];intro u hu;refine bh gp ?_;rw[gg];have m:=bv hs;have c:=λ(p:P2) (hp:p∈l)=>(dF h3 p).mp ((ck F p).mp (aV (aN l) p (by rw[gN F h3];exact hp))) u hu
  exact NI (FQ (by lia) (c _ m.1)) (FQ j0 (c _ m.2))
 have mx:=inn k (by lia) (by lia)
 have my:=inn (k+1) (by lia) (by lia)
 have nob:∀q,ae (onS s k) (onS s (k+1)) q=0->∃j,q=onS s j:=λq h=>jQ Q1 (by rw[<-qs (k:=k),h,G5])
 have ne:onS s k≠onS s (k+1):=λe=>by have:=kZ Q1 e;lia
 have lin:∀i j:Int,(onS s j).1-(onS s i).1=(j-i) *ub s/\(onS s j).2-(onS s i).2=(j-i) *vb s:=λi j=>by unfold onS;constructor <;>dsimp only <;>grind
 have bet:∀j:Int,(plt (onS s k) (onS s (k+1))->plt (onS s k) (onS s j)->plt (onS s j) (onS s (k+1))->False)/\(plt (onS s (k+1)) (onS s k)->plt (onS s (k+1)) (onS s j)->plt (onS s j) (onS s k)->False):=λj=>by
  have key:∀i i':Int,plt (onS s i) (onS s i')->bu ((i'-i) *ub s) ((i'-i) *vb s):=λi i' h=>by
   have:=au h;rw[(lin i i').1,(lin i i').2]at this;exact this
  constructor
  ·intro h1 h2 h4;have u:=key _ _ h1;rw[show (k:Int)+1-k=1 by lia,Kk,Kk]at u
   have:=ff u (key _ _ h2);have:=ff u (key _ _ h4);lia
  ·intro h1 h2 h4;have u:=key _ _ h1;rw[show (k:Int)-(k+1)=-1 by lia]at u
   have e:∀i:Int,i*ub s=(-i) *(-1*ub s)/\i*vb s=(-i) *(-1*vb s):=λi=>by constructor <;>grind
   have a:=key _ _ h2;have b:=key _ _ h4;rw[(e _).1,(e _).2]at a b;have:=ff u a;have:=ff u b;lia
 unfold fU;have lo:∀t,t=1\/t=-1->∀{x:P2},x∈aN l->∀z,(aA t (aN l)).1.getLast?=some z->¬ plt x z:=λt ht x hx z hz=>(R.kw ht).bot z hz x hx
 have hi:∀t,t=1\/t=-1->∀{x y:P2},y∈aN l->plt x y->∀h,(aA t (aN l)).1.head?=some h->plt x h:=λt ht x y hy T7 h e=>by
  obtain⟨b,r,eb,hb⟩:=fZ t R.ne;rw[eb]at e;have:b=h:=by simpa using e
  subst this;rcases cZ b y with w |w |w
  ·exfalso
   have h0:=R.ne
   have hc:aN l=(aN l).dropLast++[b]:=by
    have:(aN l).getLast h0=b:=by rw[Lr h0]at hb;exact Gv hb
    rw[<-this];exact (GI h0).symm
   have as:=R.asc;rw[hc]at as hy;rcases FB.mp hy with k |k
   ·exact e9 ((cg as).2 y k) w
   ·rw[Fy.mp k]at w;exact cV _ w
  ·rw[w];exact T7
  ·exact aM T7 w
 rcases cZ (onS s k) (onS s (k+1)) with w |w |w
 ·refine FJ _ (jd (.inr rfl) mx my w (λq hq=>by have:=all q hq;lia) (λq hq h0 h1 h2=>?_) _ (R.kw (.inr rfl)).ne (R.kw (.inr rfl)).desc (R.kw (.inr rfl)).cov (R.kw (.inr rfl)).sub (lo _ (.inr rfl) mx) (hi _ (.inr rfl) my w))
  obtain⟨j,rfl⟩:=nob q h0;exact (bet j).1 w h1 h2
 ·exact absurd w ne
 ·have sw:∀q,ae (onS s (k+1)) (onS s k) q=- ae (onS s k) (onS s (k+1)) q:=λq=>by unfold ae;grind
  refine FG _ (Fs.mpr ⟨(onS s (k+1),onS s k),jd (.inl rfl) my mx w (λq hq=>by have:=all q hq;rw[sw];lia) (λq hq h0 h1 h2=>?_) _ (R.kw (.inl rfl)).ne (R.kw (.inl rfl)).desc (R.kw (.inl rfl)).cov (R.kw (.inl rfl)).sub (lo _ (.inl rfl) my) (hi _ (.inl rfl) mx w),rfl⟩)
  obtain⟨j,rfl⟩:=nob q (by rw[sw]at h0;lia)
  exact (bet j).2 w h1 h2
theorem v4{l:List P2}(F:Fld l)(h3:3<=l.length)(f:P2×P2):f∈jo l↔f∈fU (aN l):=by
 have R:=nv F h3;have Sm:3<=(am l).length:=by rw[F.cr];exact h3
 have nd:(jo l).Nodup:=by
  have:=mK Sm;rw[F.cr,<-jY]at this;exact Lw _ (λa b (z:a.1≠b.1) (e:a=b)=>z (by rw[e])) this
 have len:(jo l).length=(fU (aN l)).length:=by
  have r:=lZ (pts:=aN l) (by rw[iu];have:=(pR F h3).2.2;lia) (by rw[iu];exact wJ F h3)
  rw[iu,gN F h3,<-xj]at r;unfold fU;rw[FT,Fk];lia
 refine⟨pz F h3 f,λhf=>Gn λz=>?_⟩
 have:=L2.nd_lenL (HG.mpr ⟨z,nd⟩) (m:=fU (aN l)) λx hx=>by
  rcases Fw.mp hx with h |h
  ·rw[h];exact hf
  ·exact pz F h3 x h
 rw[F8]at this;lia
def Bs(t:Tri):List (P2×P2):=gi t++[swp (gQ t)]
def AY(t:Tri):List (P2×P2):=gQ t::(gi t).map swp
def fW(row:List P2):List (P2×P2):=(aA 1 row).2.flatMap Bs++(aA (-1) row).2.flatMap AY
theorem n9(C:List Tri):Ik (C.flatMap Bs) (C.flatMap gi++(C.map gQ).map swp):=by
 induction C with
 |nil=>exact .refl _
 |cons t C ih=>
  rw[HX,HX,FU,FU];unfold Bs;rw[FF,FF];exact Hq _ ((ih.cons _).trans Jy.symm)
theorem ot(C:List Tri):Ik (C.flatMap AY) (C.map gQ++(C.flatMap gi).map swp):=by
 induction C with
 |nil=>exact .refl _
 |cons t C ih=>
  rw[HX,HX,FU,Gr];unfold AY;rw[Jf,Jf];refine .cons _ ((ih.append_left _).trans ?_);rw[<-FF,<-FF];exact HS.append_right _
structure EV(row:List P2)(f:P2×P2):Prop where
 fwd:f∈fW row↔f∈(aA 1 row).2.flatMap gi\/f∈(aA (-1) row).2.map gQ
 bwd:swp f∈fW row↔f∈(aA 1 row).2.map gQ\/f∈(aA (-1) row).2.flatMap gi
 rimF:f∈fU row↔f∈aF (aA (-1) row).1
 rimB:swp f∈fU row↔f∈aF (aA 1 row).1
theorem jS{f:P2×P2}{L:List (P2×P2)}:swp f∈L.map swp↔f∈L:=by
 rw[Fs];exact⟨λ⟨g,hg,e⟩=>tY e ▸ hg,λh=>⟨f,h,rfl⟩⟩
theorem f_.ways{row:List P2}(R:f_ row){f:P2×P2}(lt:plt f.1 f.2):EV row f:=by
 have e1:=λg:P2×P2=>(lW (.inl rfl) row R.asc g)
 have e2:=λg:P2×P2=>(lW (.inr rfl) row R.asc g)
 have low1:∀g∈(aA 1 row).2.flatMap gi,plt g.1 g.2:=λg hg=>(e1 g ((fQ 1 row).mem_iff.mpr (FJ _ hg))).lt
 have top1:∀g∈(aA 1 row).2.map gQ,plt g.1 g.2:=λg hg=>(e1 g ((fO 1 row).mem_iff.mpr (FJ _ hg))).lt
 have low2:∀g∈(aA (-1) row).2.flatMap gi,plt g.1 g.2:=λg hg=>(e2 g ((fQ (-1) row).mem_iff.mpr (FJ _ hg))).lt
 have top2:∀g∈(aA (-1) row).2.map gQ,plt g.1 g.2:=λg hg=>(e2 g ((fO (-1) row).mem_iff.mpr (FJ _ hg))).lt
 have k1:∀g∈aF (aA 1 row).1,plt g.1 g.2:=λg hg=>(d7 (R.kw (.inl rfl)).desc (R.kw (.inl rfl)).cov g hg).2.2.1
 have k2:∀g∈aF (aA (-1) row).1,plt g.1 g.2:=λg hg=>(d7 (R.kw (.inr rfl)).desc (R.kw (.inr rfl)).cov g hg).2.2.1
 have no:∀{L:List (P2×P2)},(∀g∈L,plt g.1 g.2)->f ∉ L.map swp:=λ{L} h z=>by
  obtain⟨g,hg,rfl⟩:=Fs.mp z;exact e9 lt (h g hg)
 have no':∀{L:List (P2×P2)},(∀g∈L,plt g.1 g.2)->swp f ∉ L:=λ{L} h z=>e9 lt (h _ z)
 constructor
 ·unfold fW;rw[FB,(n9 _).mem_iff,(ot _).mem_iff,FB,FB];simp only[no top1,no low2,or_false]
 ·unfold fW;rw[FB,(n9 _).mem_iff,(ot _).mem_iff,FB,FB,jS,jS];simp only[no' low1,no' top2,false_or]
 ·unfold fU;rw[FB];simp only[no k1,or_false]
 ·unfold fU;rw[FB,jS];simp only[no' k2,false_or]
theorem f_.parts{row:List P2}(R:f_ row)(f:P2×P2):(f∈(aA 1 row).2.flatMap gi↔f∈evE 1 row/\f ∉ aF (aA 1 row).1)/\(f∈(aA 1 row).2.map gQ↔f∈evE 1 row/\f ∉ aF row.reverse)/\
  (f∈(aA (-1) row).2.flatMap gi↔f∈evE (-1) row/\f ∉ aF (aA (-1) row).1)/\(f∈(aA (-1) row).2.map gQ↔f∈evE (-1) row/\f ∉ aF row.reverse):=by
 have key:∀{E A B:List (P2×P2)},E.Nodup->Ik E (A++B)->(f∈A↔f∈E/\f ∉ B):=λ{E A B} nd p=>by
  have nd':=p.nodup_iff.mp nd;obtain⟨_,_,h⟩:=Gm.mp nd';rw[p.mem_iff,FB];exact⟨λa=>⟨.inl a,λb=>h f a f b rfl⟩,λ⟨a,b⟩=>a.resolve_right b⟩
 have n1:=tz (.inl rfl) row R.asc;have n2:=tz (.inr rfl) row R.asc;exact⟨key n1 (fQ 1 row),key n1 (fO 1 row),key n2 (fQ (-1) row),key n2 (fO (-1) row)⟩
theorem f_.fill{row:List P2}(R:f_ row):(∀d∈fU row,d∈fW row)/\∀d∈fW row,(swp d∈fW row↔d ∉ fU row):=by
 have S9:∀f:P2×P2,plt f.1 f.2->((f∈fU row->f∈fW row)/\(swp f∈fU row->swp f∈fW row))/\(f∈fW row->(swp f∈fW row↔f ∉ fU row))/\(swp f∈fW row->(f∈fW row↔swp f ∉ fU row)):=λf lt=>by
  have W:=R.ways lt;obtain⟨p1,p2,p3,p4⟩:=R.parts f;have s1:f∈aF (aA 1 row).1->f∈evE 1 row:=λh=>(fQ 1 row).mem_iff.mpr (FG _ h)
  have s2:f∈aF (aA (-1) row).1->f∈evE (-1) row:=λh=>(fQ (-1) row).mem_iff.mpr (FG _ h)
  have t1:f∈aF row.reverse->f∈evE 1 row:=λh=>(fO 1 row).mem_iff.mpr (FG _ h)
  have t2:f∈aF row.reverse->f∈evE (-1) row:=λh=>(fO (-1) row).mem_iff.mpr (FG _ h)
  have bo:=nD R.asc (e:=f);have kk:=R.kk (f:=f);rw[W.fwd,W.bwd,W.rimF,W.rimB,p1,p2,p3,p4];by_cases a:f∈evE 1 row <;>by_cases b:f∈evE (-1) row <;>by_cases c:f∈aF (aA 1 row).1 <;>by_cases d:f∈aF (aA (-1) row).1 <;>by_cases e:f∈aF row.reverse <;>simp_all
 have ori:∀d,(d∈fW row\/d∈fU row)->plt d.1 d.2\/plt d.2 d.1:=λd h=>by
  have lt12:∀t,(t∈(aA 1 row).2\/t∈(aA (-1) row).2)->plt t.1 t.2.1/\plt t.2.1 t.2.2:=λt h=>by
   rcases h with h |h
   ·have:=dj (.inl rfl) _ R.asc t h;exact⟨this.ab,this.bP⟩
   ·have:=dj (.inr rfl) _ R.asc t h;exact⟨this.ab,this.bP⟩
  rcases h with h |h
  ·rcases FB.mp h with h |h
   ·obtain⟨t,ht,hd⟩:=MJ.mp h;obtain⟨a,b⟩:=lt12 t (.inl ht);simp only[Bs,gi,gQ,swp,Jf,List.nil_append,Fw,Lq,or_false]at hd;rcases hd with e |e |e <;>rw[e]
    ·exact .inl a
    ·exact .inl b
    ·exact .inr (aM a b)
   ·obtain⟨t,ht,hd⟩:=MJ.mp h;obtain⟨a,b⟩:=lt12 t (.inr ht);simp only[AY,gi,gQ,swp,FU,M4,Fw,Lq,or_false]at hd;rcases hd with e |e |e <;>rw[e]
    ·exact .inl (aM a b)
    ·exact .inr a
    ·exact .inr b
  ·rcases FB.mp h with h |h
   ·exact .inl (d7 (R.kw (.inr rfl)).desc (R.kw (.inr rfl)).cov d h).2.2.1
   ·obtain⟨g,hg,rfl⟩:=Fs.mp h;exact .inr (d7 (R.kw (.inl rfl)).desc (R.kw (.inl rfl)).cov g hg).2.2.1
 constructor
 ·intro d hd;rcases ori d (.inr hd) with lt |lt
  ·exact (S9 d lt).1.1 hd
  ·exact (S9 (swp d) lt).1.2 hd
 ·intro d hd;rcases ori d (.inl hd) with lt |lt
  ·exact (S9 d lt).2.1 hd
  ·exact (S9 (swp d) lt).2.2 hd
theorem f_.dnd{row:List P2}(R:f_ row):(fW row).Nodup:=by
 have n1:=tz (.inl rfl) row R.asc;have n2:=tz (.inr rfl) row R.asc;have l1:=(Gm.mp ((fQ 1 row).nodup_iff.mp n1)).1;have t1:=(Gm.mp ((fO 1 row).nodup_iff.mp n1)).1;have l2:=(Gm.mp ((fQ (-1) row).nodup_iff.mp n2)).1;have t2:=(Gm.mp ((fO (-1) row).nodup_iff.mp n2)).1;have sw:∀{L:List (P2×P2)},L.Nodup->(L.map swp).Nodup:=λ{L} h=>Gb.mpr (h.imp λ{a b} h e=>h (tY e))
 have fw:∀{s:Int},s=1\/s=-1->∀g,(g∈(aA s row).2.flatMap gi\/g∈(aA s row).2.map gQ)->g∈evE s row/\plt g.1 g.2:=λ{s} hs g h=>by
  have m:g∈evE s row:=by
   rcases h with h |h
   ·exact (fQ s row).mem_iff.mpr (FJ _ h)
   ·exact (fO s row).mem_iff.mpr (FJ _ h)
  exact⟨m,(lW hs row R.asc g m).lt⟩
 unfold fW;refine (((n9 _).append (ot _)).nodup_iff).mpr ?_;refine Gm.mpr ⟨Gm.mpr ⟨l1,sw t1,λa ha b hb e=>?_⟩,Gm.mpr ⟨t2,sw l2,λa ha b hb e=>?_⟩,λa ha b hb e=>?_⟩
 ·subst e;obtain⟨g,hg,rfl⟩:=Fs.mp hb;exact e9 (fw (.inl rfl) _ (.inl ha)).2 (fw (.inl rfl) g (.inr hg)).2
 ·subst e;obtain⟨g,hg,rfl⟩:=Fs.mp hb;exact e9 (fw (.inr rfl) _ (.inr ha)).2 (fw (.inr rfl) g (.inl hg)).2
 ·subst e;rcases FB.mp ha with h |h <;>rcases FB.mp hb with k |k
  ·have:=nD R.asc (fw (.inl rfl) a (.inl h)).1 (fw (.inr rfl) a (.inr k)).1;exact ((R.parts a).2.2.2.mp k).2 this
  ·obtain⟨g,hg,rfl⟩:=Fs.mp k;exact e9 (fw (.inl rfl) _ (.inl h)).2 (fw (.inr rfl) g (.inl hg)).2
  ·obtain⟨g,hg,rfl⟩:=Fs.mp h;exact e9 (fw (.inr rfl) _ (.inr k)).2 (fw (.inl rfl) g (.inr hg)).2
  ·obtain⟨g,hg,rfl⟩:=Fs.mp h;have k':=jS.mp k;have:=nD R.asc (fw (.inl rfl) g (.inr hg)).1 (fw (.inr rfl) g (.inl k')).1;exact ((R.parts g).2.1.mp hg).2 this
theorem je{α β γ:Type}{f:α->List γ}{g:β->List γ}(k:α->β):∀{l:List α},(∀x∈l,Ik (g (k x)) (f x))->Ik ((l.map k).flatMap g) (l.flatMap f)
 |[],_=>.refl _
 |x::l,h=>by
  rw[FU,HX,HX];exact (h x Fv).append (je k λy hy=>h y (Fn _ hy))
theorem qc(l:List P2):Ik (SG.srt ST3.KT (pcs l)) (pcs l):=
 (Hy ((SG.srt_asc ST3.KT (pcs l)).imp λ{a b} h e=>by
  subst e;have:=ST3.KT.asy h;rw[h]at this;cases this) (yH l)).mpr λt=>SG.srt_mem _ _ _
theorem zK{l:List P2}(F:Fld l)(h3:3<=l.length):(jo l).Nodup:=by
 have:=mK (show 3<=(am l).length by rw[F.cr];exact h3)
 rw[F.cr,<-jY]at this;exact Lw _ (λa b (z:a.1≠b.1) (e:a=b)=>z (by rw[e])) this
def rwL(l:List P2)(i:Nat):List (P2×P2):=((pvl l).take i).flatMap c9
theorem CH{l:List P2}(F:Fld l)(h3:3<=l.length):((pvl l).flatMap c9).Nodup/\∀f,f∈(pvl l).flatMap c9↔f∈fU (aN l):=by
 have nd:l.Nodup:=by rw[<-F.cr];exact bp l
 have p:=(xR nd).flatMap_right c9;exact⟨p.nodup_iff.mpr (zK F h3),λf=>p.mem_iff.trans (v4 F h3 f)⟩
def dS3(t:ST3.TR):List (P2×P2):=[(t.2.2,t.1),(t.1,t.2.1),(t.2.1,t.2.2)]
theorem Ak(l:List P2):Ik ((SG.srt ST3.KT (pcs l)).flatMap dS3) (fW (aN l)):=by
 refine ((qc l).flatMap_right _).trans ?_;unfold pcs lM fW;rw[Gr,Kl];have hp:=dz l;refine List.Perm.append (je _ λt ht=>?_) (je _ λt ht=>?_)
 ·have:=(dj (.inl rfl) _ hp t ht).d;unfold iN at this;unfold gU;rw[if_pos (by lia)]
  show Ik [(t.2.2,t.1),(t.1,t.2.1),(t.2.1,t.2.2)] [(t.1,t.2.1),(t.2.1,t.2.2),(t.2.2,t.1)];exact (List.Perm.swap _ _ _).trans (.cons _ (.swap _ _ _))
 ·have:=(dj (.inr rfl) _ hp t ht).d;unfold iN at this;unfold gU;rw[if_neg (by lia)]
  exact .swap _ _ _
structure AD(t:ST3.TR):Prop where
 l1:ST.ltP t.1 t.2.1=true
 l2:ST.ltP t.1 t.2.2=true
 d:ae t.1 t.2.1 t.2.2=1
 z:Szp 150 t.1/\Szp 150 t.2.1/\Szp 150 t.2.2
theorem Eb{l:List P2}(F:Fld l)(sz:∀p∈l,Szp 150 p):∀p∈aN l,Szp 150 p:=λp hp=>by
 have q:=(eM F.ne).mp (F.in_box ((ck F p).mp hp));obtain⟨_,_,w1,w2,w3,w4⟩:=t_ F.ne sz;exact⟨nT w1 w2 q.1.1 q.1.2,nT w3 w4 q.2.1 q.2.2⟩
theorem CS{l:List P2}(F:Fld l)(h3:3<=l.length)(sz:∀p∈l,Szp 150 p):∀t∈SG.srt ST3.KT (pcs l),AD t:=λt ht=>by
 have fz:=Eb F sz;obtain⟨r,hr,rfl⟩:=Fs.mp ((SG.srt_mem _ _ _).mp ht);have hp:=dz l
 have key:∀{s:Int},s=1\/s=-1->r∈(aA s (aN l)).2->AD (gU r):=λ{s} hs hr=>by
  have K:=dj hs _ hp r hr;have d:=nu hs hp (mJ F h3) r hr;unfold iN at d;have aP:=aM K.ab K.bP;unfold gU;rcases hs with rfl |rfl
  ·rw[if_pos (by lia)]
   exact⟨(cF _ _).mp K.ab,(cF _ _).mp aP,d,fz _ K.ma,fz _ K.mb,fz _ K.mP⟩
  ·rw[if_neg (by lia)]
   refine⟨(cF _ _).mp aP,(cF _ _).mp K.ab,?_,fz _ K.ma,fz _ K.mP,fz _ K.mb⟩;have:ae r.1 r.2.2 r.2.1=- ae r.1 r.2.1 r.2.2:=by unfold ae;grind
   dsimp only;rw[this,d];rfl
 rcases FB.mp hr with h |h
 ·exact key (.inl rfl) h
 ·exact key (.inr rfl) h
theorem AX{u v m:Int}(h:bu u v)(hm:0<m):bu (m*u) (m*v):=by
 unfold bu at *;rcases h with h |⟨h,k⟩
 ·exact .inl (Gi hm h)
 ·exact .inr ⟨by rw[h,G5],Gi hm k⟩
theorem uS{f:Nat->P2}:∀n:Nat,ji ((GG (n+1)).map f)=(GG n).map λk=>[f k,f (k+1)]:=λn=>by
 induction n generalizing f with
 |zero=>rfl
 |succ n ih=>
  have i2:=ih (f:=λk=>f (k+1))
  rw[JB,FU,F5]at i2;rw[JB,FU,F5];rw[JB (n:=n),FU,FU,F5,F5];exact congrArg (List.cons _) i2
theorem Bq{A B:P2}(F:Fld [A,B])(lt:ST.ltP A B=true):aN [A,B]=(GG ((gst (A,B)).toNat+1)).map λ(k:Nat)=>onS (A,B) (k:Int):=by
 have pl:=(cF A B).mpr lt;have Q1:((A,B):P2×P2).1≠((A,B):P2×P2).2:=λe=>cV B (by have e':A=B:=e;rw[e']at pl;exact pl)
 have gp:=ca Q1;have e0:onS (A,B) 0=A:=by unfold onS;simp
 have asc:∀i j:Nat,i<j->plt (onS (A,B) (i:Int)) (onS (A,B) (j:Int)):=λi j h=>by
  have d1:gst (A,B) *ub (A,B)=B.1-A.1:=IQ (by unfold gst;exact Ki ..)
  have d2:gst (A,B) *vb (A,B)=B.2-A.2:=IQ (by unfold gst;exact J0 ..)
  have lp:=au pl
  have lu:bu (ub (A,B)) (vb (A,B)):=by
   rw[<-d1,<-d2]at lp;generalize ub (A,B)=u at *;generalize vb (A,B)=v at *;generalize gst (A,B)=g at *;unfold bu at *;rcases Ov u 0 with z |z |z
   ·have:=L4 gp z;lia
   ·subst z
    right
    refine⟨rfl,?_⟩;rcases GO 0 v with k |k
    ·exact k
    ·have:=GY (show 0<=g by lia) k
     lia
   ·exact .inl z
  have k:=AX lu (show 0<(j:Int)-i by lia)
  unfold bu at k;unfold plt onS;dsimp only;have x1:((j:Int)-i) *ub (A,B)=(A.1+j*ub (A,B))-(A.1+i*ub (A,B)):=by grind
  have x2:((j:Int)-i) *vb (A,B)=(A.2+j*vb (A,B))-(A.2+i*vb (A,B)):=by grind
  rw[x1,x2]at k;omega
 have L:ST.Asc ((GG ((gst (A,B)).toNat+1)).map λ(k:Nat)=>onS (A,B) (k:Int)):=by
  refine Gb.mpr (KF.imp λ{i j} h=>(cF _ _).mp (asc i j h))
 rw[<-ST.asc_srt L];refine (jJ F λp=>?_).symm
 rw[jf,fK lt,Fs];constructor
 ·rintro ⟨k,hk,rfl⟩;have:=FV.mp hk;exact⟨(k:Int),by lia,by lia,rfl⟩
 ·rintro ⟨k,k0,k1,rfl⟩;exact⟨k.toNat,FV.mpr (by lia),by rw[show ((k.toNat:Nat):Int)=k by lia]⟩
theorem AC{A B:P2}(F:Fld [A,B])(lt:ST.ltP A B=true):iq [A,B]=(c9 (A,B)).map λs=>[s.1,s.2]:=by
 show ji (aN [A,B])=_;rw[Bq F lt,uS];unfold c9;rw[F5];rfl
def d9(ns:List Int)(k:Int):Int:=if k<(ns.length:Int) then ns.getD k.toNat 0 else 0
theorem uw{ns:List Int}(h:∀m∈ns,Sz 1048576 m)(k:Int):Sz 1048576 (d9 ns k):=by
 unfold d9;split
 ·exact Aw h _
 ·exact Sz.mono (m:=8) (by decide) (by decide)
def u7:List U->Out->Prop:=λus o=>∃(ns:List Int) (k:Int),us=[.scr (ns.map U.int),.int k]/\0<=k/\o=.val (.int (d9 ns k))
theorem bJ(T:Txt w K mg):bg P w K mg base (CXF P w) 1 T.aaa.a T.aaa.d ["script","k"] (spU K (u7)):=by
 refine be T.aaa.F jD (λus o h=>?_) (λQ6 A outer s H E O us o hr h=>?_)
 ·obtain⟨ns,k,rfl,h0,rfl⟩:=h;rfl
 obtain⟨ns,k,rfl,h0,rfl⟩:=h;refine Ws.nox ?_;have hm:((ns.map U.int).length:Int)=(ns.length:Int):=by rw[Fk]
 refine af (k_ (aI ic (aa 1 rfl) (av (bX rfl) rfl T.aak Gd (ah (aa 0 rfl) ao ai))) (λhT=>?_) (λhF=>(aG ?_)))
 ·rw[hm]at hT;have hk:=dTb hT;refine af (bj (aB (aa 0 rfl) (aa 1 rfl) rfl (xV h0 hk)) ?_);exact vIO (by unfold d9;rw[if_pos hk])
 ·rw[hm]at hF;have hk:=dFb hF;refine af (bj ag ?_);exact vIO (by unfold d9;rw[if_neg hk])
def AN:List U->Out->Prop:=λus o=>∃n:Int,us=[.int n]/\o=.val (.bl true)
theorem gW(T:Txt w K mg):bg P w K mg base (CXF P w) 1 T.aae.a T.aae.d ["found"] (spU K (AN)):=by
 refine be T.aae.F lJ (λus o h=>?_) (λQ6 A outer s H E O us o hr h=>?_)
 ·obtain⟨n,rfl,rfl⟩:=h;rfl
 obtain⟨n,rfl,rfl⟩:=h;refine Ws.nox ?_;refine af (bj (kX (av (cS (by intro _ h;cases h) (by walk_at"kit")) rfl T.aag IH (ah (aa 0 rfl) (ah (mV rfl T.aa1 boot_int) ao ai) ai)) (λhz=>(r8 (BI (av (cS (by intro _ h;cases h) (by walk_at"kit")) rfl T.aag IH (ah (aa 0 rfl) (ah (mV rfl T.aaY boot_bool) ao ai) ai)))))) ?_)
 exact rfl
def vZ:List U->Out->Prop:=λus o=>∃p:P2,us=[pu p]/\o=.val (.bl true)
theorem fi(T:Txt w K mg):bg P w K mg base (CXF P w) 2 T.aab.a T.aab.d ["found"] (spU K (vZ)):=by
 refine be T.aab.F jb (λus o h=>?_) (λQ6 A outer s H E O us o hr h=>?_)
 ·obtain⟨p,rfl,rfl⟩:=h;rfl
 obtain⟨p,rfl,rfl⟩:=h;refine Ws.nox ?_;refine af (bj (kX (av (cS (by intro _ h;cases h) (by walk_at"kit")) rfl T.aag IH (ah (aa 0 rfl) (ah (mV rfl T.aaQ Nu) ao ai) ai)) (λhz=>(kX (jn cB (av (bX rfl) rfl T.aak Gd (ah (aa 0 rfl) ao ai)) ag) (λhz=>(kX (aH ((gW T).mono (by decide)) hr rfl T.aae.m T.aae.F.kp T.aae.b aD (ah (aB (aa 0 rfl) ag rfl rfl) ao aZ) ⟨_,rfl,rfl⟩) (λhz=>(r8 (aH ((gW T).mono (by decide)) hr rfl T.aae.m T.aae.F.kp T.aae.b aD (ah (aB (aa 0 rfl) ag rfl rfl) ao aZ) ⟨_,rfl,rfl⟩)))))))) ?_)
 exact rfl
def rE:List U->Out->Prop:=λus o=>∃P Q R:P2,us=[pu P,pu Q,pu R]/\Szp 5000 P/\Szp 5000 Q/\Szp 5000 R/\o=.val (.int (ae P Q R))
theorem g7(T:Txt w K mg):bg P w K mg base (CXF P w) 1 T.aaf.a T.aaf.d ["one","two","three"] (spU K (rE)):=by
 refine be T.aaf.F g8 (λus o h=>?_) (λQ6 A outer s H E O us o hr h=>?_)
 ·obtain⟨P,Q,R,rfl,⟨p1,p2⟩,⟨q1,q2⟩,⟨r1,r2⟩,rfl⟩:=h;rfl
 obtain⟨P,Q,R,rfl,⟨p1,p2⟩,⟨q1,q2⟩,⟨r1,r2⟩,rfl⟩:=h;refine Ws.nox ?_;refine af (aE (i:=3) g8.nd rfl (Or.inl rfl) (bn (bm (aB (aa 1 rfl) ag rfl rfl) (aB (aa 0 rfl) ag rfl rfl)) (bm (aB (aa 2 rfl) ag rfl rfl) (aB (aa 0 rfl) ag rfl rfl)) (by walk_at"mul")) ?_)
 refine af (bj (bm (aa 3 rfl) (bn (bm (aB (aa 1 rfl) ag rfl rfl) (aB (aa 0 rfl) ag rfl rfl)) (bm (aB (aa 2 rfl) ag rfl rfl) (aB (aa 0 rfl) ag rfl rfl)) (by walk_at"mul"))) ?_)
 exact rfl
theorem yw{pts:List P2}(h:(ST.srt pts).length=2):am pts=ST.srt pts:=by
 match e:ST.srt pts,h with
 |[a,b],_=>
  unfold am;rw[e];simp[aj,aR]
noncomputable def iT(row:List P2)(j:Nat):List P2:=if j=0 then [] else if j=1 then (aj row).reverse.dropLast else (aj row).reverse.dropLast++(aj row.reverse).reverse.dropLast
def lP:List U->Out->Prop:=λus o=>∃pts:List P2,us=[lp pts]/\(∀p∈pts,Szp 5000 p)/\pts.length<64/\o=.val (lp (am pts))
theorem jH(T:Txt w K mg):bg P w K mg base (CXF P w) 2 T.aaj.a T.aaj.d ["points"] (spU K (lP)):=by
 refine be T.aaj.F bC (λus o h=>?_) (λQ6 A outer s H E O us o hr h=>?_)
 ·obtain⟨pts,rfl,sz,hl,rfl⟩:=h;rfl
 obtain⟨pts,rfl,sz,hl,rfl⟩:=h;refine Ws.nox ?_;have sl:=ST.srt_len pts;have hms:(((ST.srt pts).map pu).length:Int)=((ST.srt pts).length:Int):=by rw[Fk]
 have szs:=x5 sz;have b1:=gj (ST.srt pts);have b2:=gj (ST.srt pts).reverse;rw[Gx]at b2;refine af (aE (i:=1) bC.nd rfl (Or.inl rfl) (EvN.ev (g_ rfl (gO hr) rfl T.aaN rfl T.aa0 (aa 0 rfl) (qJ hl) ai)) ?_);by_cases h1:(ST.srt pts).length<3
 ·have ec:am pts=ST.srt pts:=by
   by_cases h2:(ST.srt pts).length=2
   ·exact yw h2
   ·exact cL (by lia)
  refine af (fS (aI ic (av (bX rfl) rfl T.aak Gd (ah (aa 1 rfl) ao ai)) ag) (by rw[hms];exact decide_eq_true (by lia)) ?_)
  refine af (bj (aa 1 rfl) ?_);rw[ec]
 ·have ec:am pts=iT (ST.srt pts) 2:=by unfold am iT;rw[if_neg (by lia)];rfl
  rw[ec];refine af (bQ (aI ic (av (bX rfl) rfl T.aak Gd (ah (aa 1 rfl) ao ai)) ag) (by rw[hms];exact decide_eq_false (by lia)) (aG ?_))
  generalize ST.srt pts=row at *;refine af (aE (i:=2) bC.nd rfl (Or.inl rfl) (EvN.ev (cP bA)) ?_);refine af (d8 (λj:Nat=>[some (.val (lp pts)),some (.val (lp row)),some (.val (lp (iT row j))),none,none,none]) (λi j=>i=j) rfl PassesOwn.never (cM (EvN.ev (cP (ay (aa 1 rfl) (ay (EvN.ev (vg rfl rfl T.aaS rfl T.aaW (aa 1 rfl) ai)) bA de) ai))) (.inl rfl)) ?h0 ?hs ?hd)
  case h0=>exact⟨0,rfl,rfl,rfl,rfl,trivial⟩
  case hs=>
   rintro H0 j x _ hx rfl
   have hz:∃w:List P2,x=lp w/\(∀p∈w,Szp 5000 p)/\w.length<=63/\iT row (j+1)=iT row j++(aj w).reverse.dropLast/\(iT row j).length<=63:=by
    match j,hx with
    |0,hx=>
     cases hx;exact⟨row,rfl,szs,by lia,by simp[iT],by simp[iT]⟩
    |1,hx=>
     have e:x=U.lst ((row.map pu).reverse):=by cases hx;rfl
     subst e;exact⟨row.reverse,by rw[lp,Io],λp hp=>szs p (FM.mp hp),by rw[Gx];lia,by simp[iT],by simp[iT];lia⟩
    |j+2,hx=>simp at hx
   obtain⟨w,rfl,wz,wl,Td,RX⟩:=hz;refine⟨_,(fu (i:=3) bC.nd rfl (Or.inl rfl)),?_⟩;have bw:=gj w;refine af (jq (i:=4) bC.nd rfl (Or.inl rfl) (cP bA) ?_);refine fC (λps=>SubP [some (.val (lp pts)),some (.val (lp row)),some (.val (lp (iT row j))),some (.val (lp w)),some (.own ((aj w).reverse.map pu)),none] ps) (d8 (λst:List P2=>[some (.val (lp pts)),some (.val (lp row)),some (.val (lp (iT row j))),some (.val (lp w)),some (.own (st.reverse.map pu)),none]) (λi st=>st=aj (w.take i)) rfl PassesOwn.never (cM (aa 3 rfl) (.inl rfl)) ?h02 ?hs2 ?hd2) ?hj
   case h02=>exact⟨[],rfl,rfl,rfl,rfl,rfl,rfl,trivial⟩
   case hs2=>
    rintro H0 i x _ hx rfl;obtain⟨P,hP,mP,rfl⟩:=pX hx;have hi:i<w.length:=aC hP;have sP:=wz P mP;refine⟨_,(fu (i:=5) bC.nd rfl (Or.inl rfl)),?_⟩;have len0:=gM w i;refine fC (λps=>SubP [some (.val (lp pts)),some (.val (lp row)),some (.val (lp (iT row j))),some (.val (lp w)),some (.own ((aR P (aj (w.take i))).reverse.map pu)),some (.val (pu P))] ps) (gG (λs2:List P2=>[some (.val (lp pts)),some (.val (lp row)),some (.val (lp (iT row j))),some (.val (lp w)),some (.own (s2.reverse.map pu)),some (.val (pu P))]) (λm s2=>m=s2.length/\aR P s2=aR P (aj (w.take i))/\(∀p∈s2,p∈w)/\s2.length<=i) PassesOwn.never ?h03 ?hs3) ?hj3
    case h03=>exact⟨_,_,⟨rfl,rfl,λq hq=>fg w i q hq,len0⟩,rfl,rfl,rfl,rfl,rfl,rfl,trivial⟩
    case hs3=>
     rintro m s2 ⟨rfl,e2,sub,len2⟩
     match s2,e2,sub,len2 with
     |[],e2,sub,len2=>
      refine⟨false,?_,λh=>(nomatch h),λh ps Rh=>e2 ▸ Rh⟩
      exact (Tw.t (iY (aI iE (eZ 4 rfl rfl T.aak) ag) rfl))
     |[b],e2,sub,len2=>
      refine⟨false,?_,λh=>(nomatch h),λh ps Rh=>e2 ▸ Rh⟩
      exact (Tw.t (iY (aI iE (eZ 4 rfl rfl T.aak) ag) rfl))
     |b::a::r,e2,sub,len2=>
      have sa:=wz a (sub a (by simp))
      have sb:=wz b (sub b (by simp))
      have e1:decide ((1:Int)<((((b::a::r).reverse.map pu).length:Nat):Int))=true:=decide_eq_true (by simp;lia)
      refine⟨decide ((1:Int)<((((b::a::r).reverse.map pu).length:Nat):Int)) && decide (ae a b P<=0),?_,λh=>?_,λh ps Rh=>?_⟩
      ·exact (Tw.t (sq (aI iE (eZ 4 rfl rfl T.aak) ag) (λhz=>(rq (aI EN (aH ((g7 T).mono (by decide)) hr rfl T.aaf.m T.aaf.F.kp T.aaf.b aD (ah (jx 4 rfl (cq ag) (tH b a r)) (ah (jx 4 rfl (cq ag) (tm b (a::r))) (ah (aa 5 rfl) ao ai) aZ) aZ) ⟨a,b,P,rfl,sa,sb,sP,rfl⟩) ag)))))
      ·rw[e1,JU]at h;have hd:=dTb h;refine af (zt 4 rfl (by simp) (aG ?_))
       refine⟨_,a::r,?_,⟨rfl,?_,λq hq=>sub q (Fn _ hq),?_⟩,rfl,rfl,rfl,rfl,?_,rfl,trivial⟩
       ·simp
       ·rw[←e2];conv=>rhs;unfold aR
        rw[if_pos hd]
       ·simp only[F8]at *;lia
       ·exact congrArg (λl=>some (Sl.own l)) (by simp)
      ·rw[e1,JU]at h;have hd:=dFb h
       have e3:aR P (b::a::r)=b::a::r:=by conv=>lhs;unfold aR
                                          rw[if_neg hd]
       rw[<-e2,e3];exact Rh
    case hj3=>
     intro ps Rh;refine cE ?_ Rh;have e4:=fD hP;have len3:=jL P (aj (w.take i));refine af (fe 4 rfl (aa 5 rfl) (by rw[Fk,Gx];exact aJ (by lia)) (aG ?_))
     refine⟨_,rfl,rfl,rfl,rfl,rfl,?_,trivial⟩;exact congrArg (λl=>some (Sl.own l)) (by rw[e4];simp)
   case hd2=>
    rintro st ps RB Rh;rw[RB]at Rh;rw[Fk,Hv]at Rh;exact Rh
   case hj=>
    intro ps Rh;refine cE ?_ Rh;refine mU 4 rfl ?_;refine af (aE (i:=2) bC.nd rfl (Or.inl rfl) (EvN.ev (uq (aa 2 rfl) (EvN.ev (fF (aa 4 rfl) i7 (gu (cq ag)) (.inl rfl))) (by rw[i_,Fk,Fk,IL,Gx];exact GW (aJ (by lia))))) (aG ?_))
    rw[i_,<-Gr,<-Td];exact⟨j+1,rfl,rfl,rfl,rfl,trivial⟩
  case hd=>
   rintro q ps hq Rh;refine cE ?_ Rh;have:q=2:=by rw[<-hq];rfl
   subst this;refine af (bj (aa 2 rfl) ?_);exact rfl
def lnF(c:Int)(b:Bool):Int:=if b=true then c%9-4 else c%(2*10 ^ (20:Int).toNat+1)-10 ^ (20:Int).toNat
theorem nU(c:Int)(b:Bool):Sz 67 (lnF c b):=by
 unfold lnF;split
 ·exact Sz.mono (m:=8) (by unfold Sz;lia) (by decide)
 ·have h1:=ID c (show (2*10 ^ (20:Int).toNat+1:Int)≠0 by decide+kernel)
  have h2:=Hz c (show (0:Int)<2*10 ^ (20:Int).toNat+1 by decide+kernel)
  have z:Sz 67 ((10:Int) ^ (20:Int).toNat):=by decide+kernel
  exact z.natle (by lia)
def vA:List U->Out->Prop:=λus o=>∃(c:Int) (b:Bool),us=[.int c,.bl b]/\Sz 1048576 c/\o=.val (.int (lnF c b))
theorem iP(T:Txt w K mg):bg P w K mg base (CXF P w) 1 T.aai.a T.aai.d ["cell","small"] (spU K (vA)):=by
 refine be T.aai.F og (λus o h=>?_) (λQ6 A outer s H E O us o hr h=>?_)
 ·obtain⟨c,b,rfl,sc,rfl⟩:=h;rfl
 obtain⟨c,b,rfl,sc,rfl⟩:=h;refine Ws.nox ?_;unfold lnF;cases b with
 |true=>
  refine af (fS (fY (aa 1 rfl)) rfl ?_);refine af (bj (bm (dJ (aa 0 rfl) ag (by walk_at"mod")) ag) ?_)
  exact rfl
 |false=>
  refine af (bQ (fY (aa 1 rfl)) rfl (aG ?_));refine af (bj (bm (dJ (aa 0 rfl) (bR (bn ag (mw ag ag ⟨by decide,by decide,by decide⟩) (by walk_at"mul")) ag) (by decide+kernel)) (mw ag ag ⟨by decide,by decide,by decide⟩)) ?_)
  exact rfl
def shp(ns:List Int):Int:=d9 ns 0/42
def lA(ns:List Int):Int:=lnF (d9 ns 1) (decide (shp ns/2%2=1))
def lB(ns:List Int):Int:=lnF (d9 ns 2) (decide (shp ns/4%2=1))
def sR(ns:List Int):Int:=d9 ns 3%(2*10 ^ (40:Int).toNat+1)-10 ^ (40:Int).toNat
def sU(ns:List Int):Int:=d9 ns 4%(2*10 ^ (40:Int).toNat+1)-10 ^ (40:Int).toNat
def swF(ns:List Int)(p:P2):P2:=if shp ns%2=1 then (p.2,p.1) else p
def yF(ns:List Int)(p:P2):Int:=(swF ns p).2+lA ns*(swF ns p).1
def putF(ns:List Int)(p:P2):P2:=((swF ns p).1+lB ns*yF ns p+sR ns,yF ns p+sU ns)
theorem s40(c:Int):Sz 134 (c%(2*10 ^ (40:Int).toNat+1)-10 ^ (40:Int).toNat):=by
 have h1:=ID c (show (2*10 ^ (40:Int).toNat+1:Int)≠0 by decide+kernel)
 have h2:=Hz c (show (0:Int)<2*10 ^ (40:Int).toNat+1 by decide+kernel)
 have z:Sz 134 ((10:Int) ^ (40:Int).toNat):=by decide+kernel
 exact z.natle (by lia)
theorem ue{m:Nat}{ns:List Int}{p:P2}(h:Szp m p):Szp m (swF ns p):=by
 unfold swF;split
 ·exact⟨h.2,h.1⟩
 ·exact h
theorem xD{ns:List Int}{p:P2}(h:Szp 8 p):Sz 76 (yF ns p):=(L2.Sz.add' ((ue (ns:=ns) h).2.mono (n:=75) (by decide)) (L2.Sz.mul (nU _ _) (ue (ns:=ns) h).1)).mono (by decide)
theorem Cs{ns:List Int}{p:P2}(h:Szp 8 p):Szp 150 (putF ns p):=
 ⟨(L2.Sz.add' (L2.Sz.add' ((ue (ns:=ns) h).1.mono (n:=143) (by decide)) (L2.Sz.mul (nU _ _) (xD h))) ((s40 _).mono (n:=144) (by decide))).mono (by decide),(L2.Sz.add' ((xD h).mono (n:=134) (by decide)) (s40 _)).mono (by decide)⟩
theorem CI(ns:List Int):∃a b c d e f:Int,(a*d-b*c=1\/a*d-b*c=-1)/\putF ns=ap a b c d e f:=by
 by_cases h:shp ns%2=1
 ·refine⟨lB ns,1+lA ns*lB ns,1,lA ns,sR ns,sU ns,.inr (by grind),funext λp=>?_⟩
  unfold putF yF swF ap;rw[if_pos h];refine GU ?_ ?_ <;>dsimp only <;>grind
 ·refine⟨1+lA ns*lB ns,lB ns,lA ns,1,sR ns,sU ns,.inl (by grind),funext λp=>?_⟩
  unfold putF yF swF ap;rw[if_neg h];refine GU ?_ ?_ <;>dsimp only <;>grind
def x6:List U->Out->Prop:=λus o=>∃(p:P2) (ns:List Int),us=[pu p,.scr (ns.map U.int)]/\(∀m∈ns,Sz 1048576 m)/\Szp 8 p/\o=.val (pu (putF ns p))
theorem pH(T:Txt w K mg):bg P w K mg base (CXF P w) 2 T.aaC.a T.aaC.d ["spot","script"] (spU K (x6)):=by
 refine be T.aaC.F bM (λus o h=>?_) (λQ6 A outer s H E O us o hr h=>?_)
 ·obtain⟨p,ns,rfl,hB,sp,rfl⟩:=h;rfl
 obtain⟨p,ns,rfl,hB,sp,rfl⟩:=h;refine Ws.nox ?_;have c1:=uw hB 1;have c2:=uw hB 2;have w:=ue (ns:=ns) sp;have w1:=w.1;have w2:=w.2;have yz:=xD (ns:=ns) sp;have az:Sz 67 (lA ns):=nU _ _;have bz:Sz 67 (lB ns):=nU _ _;refine af (DR (aa 0 rfl) (yO [2,3] rfl (cG (br (i:=2) bM.nd rfl (Or.inl rfl)) (cG (br (i:=3) bM.nd rfl (Or.inl rfl)) iI)) rfl) ?_);refine af (aE (i:=4) bM.nd rfl (Or.inl rfl) (dH (aH ((bJ T).mono (by decide)) hr rfl T.aaa.m T.aaa.F.kp T.aaa.b aD (ah (aa 1 rfl) (ah ag ao d4) ai) ⟨ns,_,rfl,by decide,rfl⟩) ag (by walk_at"div")) ?_)
 rw[show d9 ns 0/42=shp ns from rfl]
 refine fC (λps=>SubP [some (.val (pu p)),some (.val (.scr (ns.map U.int))),some (.val (.int (swF ns p).1)),some (.val (.int (swF ns p).2)),some (.val (.int (shp ns))),none,none] ps) (k_ (aI cB (dJ (aa 4 rfl) ag (by walk_at"mod")) ag) (λhT=>?_) (λhF=>(aG ?_))) ?hj
 ·have e:swF ns p=(p.2,p.1):=by unfold swF;rw[if_pos (dTb hT)]
  refine af (B1 (i:=2) (j:=3) rfl bM.nd rfl rfl (by decide) rfl rfl (ah (aa 3 rfl) (ah (aa 2 rfl) ao ai) ai) rfl (aG ?_))
  rw[e];exact⟨rfl,rfl,rfl,rfl,rfl,trivial⟩
 ·have e:swF ns p=p:=by unfold swF;rw[if_neg (dFb hF)]
  rw[e];exact⟨rfl,rfl,rfl,rfl,rfl,trivial⟩
 case hj=>
  intro ps Rh;refine cE ?_ Rh;refine af (aE (i:=3) bM.nd rfl (Or.inl rfl) (bR (aa 3 rfl) (bn (aH ((iP T).mono (by decide)) hr rfl T.aai.m T.aai.F.kp T.aai.b aD (ah (aH ((bJ T).mono (by decide)) hr rfl T.aaa.m T.aaa.F.kp T.aaa.b aD (ah (aa 1 rfl) (ah ag ao d4) ai) ⟨ns,_,rfl,by decide,rfl⟩) (ah (jn cB (dJ (dH (aa 4 rfl) ag (by walk_at"div")) ag (by walk_at"mod")) ag) ao yL) de) ⟨_,_,rfl,c1,rfl⟩) (aa 2 rfl) (L2.Sz.ok az w1 (by decide)))) ?_)
  refine af (aE (i:=2) bM.nd rfl (Or.inl rfl) (bR (aa 2 rfl) (bn (aH ((iP T).mono (by decide)) hr rfl T.aai.m T.aai.F.kp T.aai.b aD (ah (aH ((bJ T).mono (by decide)) hr rfl T.aaa.m T.aaa.F.kp T.aaa.b aD (ah (aa 1 rfl) (ah ag ao d4) ai) ⟨ns,_,rfl,by decide,rfl⟩) (ah (jn cB (dJ (dH (aa 4 rfl) ag (by walk_at"div")) ag (by walk_at"mod")) ag) ao yL) de) ⟨_,_,rfl,c2,rfl⟩) (aa 3 rfl) (L2.Sz.ok bz yz (by decide)))) ?_)
  refine af (aE (i:=5) bM.nd rfl (Or.inl rfl) (bm (dJ (aH ((bJ T).mono (by decide)) hr rfl T.aaa.m T.aaa.F.kp T.aaa.b aD (ah (aa 1 rfl) (ah ag ao d4) ai) ⟨ns,_,rfl,by decide,rfl⟩) (bR (bn ag (mw ag ag ⟨by decide,by decide,by decide⟩) (by walk_at"mul")) ag) (by decide+kernel)) (mw ag ag ⟨by decide,by decide,by decide⟩)) ?_)
  refine af (aE (i:=6) bM.nd rfl (Or.inl rfl) (bm (dJ (aH ((bJ T).mono (by decide)) hr rfl T.aaa.m T.aaa.F.kp T.aaa.b aD (ah (aa 1 rfl) (ah ag ao d4) ai) ⟨ns,_,rfl,by decide,rfl⟩) (bR (bn ag (mw ag ag ⟨by decide,by decide,by decide⟩) (by walk_at"mul")) ag) (by decide+kernel)) (mw ag ag ⟨by decide,by decide,by decide⟩)) ?_)
  refine af (bj (bW (ay (bR (aa 2 rfl) (aa 5 rfl)) (ay (bR (aa 3 rfl) (aa 6 rfl)) bA bq) bq)) ?_);exact rfl
theorem Dc(l:List U):ig l (some 5) (some 60)=(l.drop 5).take 55:=by
 unfold ig;rw[show HT.sIx l.length 0 (some 5)=min 5 l.length from rfl,show HT.sIx l.length l.length (some 60)=min 60 l.length from rfl]
 by_cases h5:5<=l.length
 ·rw[Pi h5];by_cases h60:60<=l.length
  ·rw[Pi h60]
  ·rw[Nat.min_eq_right (by lia),Iq (by simp),Iq (by simp;lia)]
 ·rw[MU (by lia),MU (by lia)];simp
def eC(ns:List Int):List Int:=if (ns.drop 5).take 55=[] then [0] else (ns.drop 5).take 55
def eQ(ns:List Int):Int:=d9 ns 0/336%16
def eW1(ns:List Int):Int:=if eQ ns=1 then 1+d9 ns 0%7+7 else 1+d9 ns 0%7
def eH1(ns:List Int):Int:=if eQ ns=1 then 1+d9 ns 0/7%6+1 else 1+d9 ns 0/7%6
def eW(ns:List Int):Int:=if eQ ns=2 then 10 else eW1 ns
def eH(ns:List Int):Int:=if eQ ns=2 then 10 else eH1 ns
def e0(ns:List Int):List P2:=(eC ns).map λc=>(c%eW ns,c/eW ns%eH ns)
def eP(ns:List Int):List P2:=(e0 ns).map (putF ns)
theorem BL{ns:List Int}(hB:∀m∈ns,Sz 1048576 m):(eC ns).length<=55/\eC ns≠[]/\∀c∈eC ns,Sz 1048576 c:=by
 unfold eC;split
 ·exact⟨by simp,by simp,λc hc=>by simp at hc;rw[hc];exact Sz.mono (m:=8) (by decide) (by decide)⟩
 ·rename_i h
  exact⟨by simp;lia,h,λc hc=>hB c (Im (Jp hc))⟩
theorem eWH(ns:List Int):(0<eW ns/\eW ns<=14)/\(0<eH ns/\eH ns<=10)/\eW ns*eH ns<=100:=by
 unfold eW eH eW1 eH1;by_cases h2:eQ ns=2
 ·simp only[if_pos h2];decide
 ·simp only[if_neg h2];by_cases h1:eQ ns=1
  ·simp only[if_pos h1];have:=PX (show 1+d9 ns 0%7+7<=14 by lia) (show 1+d9 ns 0/7%6+1<=7 by lia) (by lia) (by decide)
   lia
  ·simp only[if_neg h1];have:=PX (show 1+d9 ns 0%7<=7 by lia) (show 1+d9 ns 0/7%6<=6 by lia) (by lia) (by decide)
   lia
def Wn(W H:Int)(p:P2):Prop:=(0<=p.1/\p.1<W)/\0<=p.2/\p.2<H
theorem Da(ns:List Int):∀p∈e0 ns,Wn (eW ns) (eH ns) p:=λp hp=>by
 obtain⟨c,_,rfl⟩:=Fs.mp hp;obtain⟨w0,h0,_⟩:=eWH ns;exact⟨⟨ID c (show eW ns≠0 by lia),Hz c w0.1⟩,ID (c/eW ns) (show eH ns≠0 by lia),Hz (c/eW ns) h0.1⟩
theorem BV{ns:List Int}{p:P2}(h:Wn (eW ns) (eH ns) p):Szp 8 p:=by
 obtain⟨w0,h0,_⟩:=eWH ns;unfold Wn at h;exact⟨by unfold Sz;lia,by unfold Sz;lia⟩
theorem Ci{l:List P2}(F:Fld l){p:P2}(h:dw l p=true)(a b:Int):∃q∈l,wth a b p<=wth a b q:=by
 rcases F.cases with ⟨A,rfl⟩ |⟨A,B,rfl,lt⟩ |h3
 ·rw[(iX A p).mp h];exact⟨A,by simp,LG _⟩
 ·obtain⟨k,k0,k1,rfl⟩:=(fK lt).mp ((jf A B p).mp h);have e1:wth a b (onS (A,B) k)=wth a b A+k*(a*ub (A,B)+b*vb (A,B)):=by unfold wth onS;grind
  have e2:wth a b B=wth a b A+gst (A,B) *(a*ub (A,B)+b*vb (A,B)):=by
   have q1:=eN (A,B);have q2:=eK (A,B);dsimp only at q1 q2;have:gst (A,B) *(a*ub (A,B)+b*vb (A,B))=a*(gst (A,B) *ub (A,B))+b*(gst (A,B) *vb (A,B)):=by grind
   rw[this,<-q1,<-q2];unfold wth;grind
  rcases GO (a*ub (A,B)+b*vb (A,B)) 0 with z |z
  ·refine⟨A,by simp,?_⟩
   rw[e1];have:=FQ k0 (show 0<=-(a*ub (A,B)+b*vb (A,B)) by lia)
   have e3:k* -(a*ub (A,B)+b*vb (A,B))=-(k*(a*ub (A,B)+b*vb (A,B))):=by grind
   lia
  ·refine⟨B,by simp,?_⟩
   rw[e1,e2];have:=Int.mul_le_mul_of_nonneg_right k1 z;lia
 ·have hc:=F.cr;have w:=B6 h3 a b (q:=p) (by rw[hc];exact (dF (by rw[<-hc];exact h3) p).mp h)
  rw[hc]at w;obtain⟨⟨q,hq,e⟩,_⟩:=kQ a b F.ne;exact⟨q,hq,by lia⟩
def wnL(W H:Nat):List P2:=(GG (W*H)).map λk=>(((k%W:Nat):Int),((k/W:Nat):Int))
theorem Be{W H:Nat}{p:P2}(h:Wn W H p):p∈wnL W H:=by
 obtain⟨⟨h1,h2⟩,h3,h4⟩:=h;obtain⟨x,y⟩:=p;dsimp only at *;obtain⟨a,rfl⟩:=Jx h1;obtain⟨b,rfl⟩:=Jx h3;have ha:a<W:=by lia
 have hb:b<H:=by lia
 refine Fs.mpr ⟨a+W*b,FV.mpr ?_,GU ?_ ?_⟩
 ·have:=NM W (show b+1<=H by lia)
  rw[Nat.mul_succ]at this;lia
 ·show (((a+W*b)%W:Nat):Int)=(a:Int);rw[LW,F0 ha]
 ·show (((a+W*b)/W:Nat):Int)=(b:Int);rw[Nat.add_mul_div_left _ _ (by lia),OE ha,Lh]
theorem Co{P0:List P2}{W H:Nat}(Q1:P0≠[])(hw:∀p∈P0,Wn W H p){a b c d:Int}(e f:Int)(h:a*d-b*c=1\/a*d-b*c=-1):(aN (am (P0.map (ap a b c d e f)))).length<=W*H:=by
 have F:Fld (am (P0.map (ap a b c d e f))):=⟨iJ (by simpa using Q1),gI _⟩
 have DD:(a*d-b*c) *(a*d-b*c)=1:=by rcases h with h |h <;>rw[h] <;>rfl
 have:=c_ (yQ (dz (am (P0.map (ap a b c d e f))))) (m:=(wnL W H).map (ap a b c d e f)) λq hq=>by
  obtain⟨p,rfl⟩:=Cv (e:=e) (f:=f) h q;refine Fs.mpr ⟨p,Be ?_,rfl⟩
  have kk:∀u v:Int,∃p'∈P0,u*p.1+v*p.2<=u*p'.1+v*p'.2:=λu v=>by
   obtain⟨q,hq,Tq⟩:=Ci F ((ck F _).mp hq) ((a*d-b*c) *(u*d-v*c)) ((a*d-b*c) *(v*a-u*b));obtain⟨p',RO,rfl⟩:=Fs.mp (aV _ q hq);refine⟨p',RO,?_⟩;have key:∀r:P2,wth ((a*d-b*c) *(u*d-v*c)) ((a*d-b*c) *(v*a-u*b)) (ap a b c d e f r)=(a*d-b*c) *(a*d-b*c) *(u*r.1+v*r.2)+wth ((a*d-b*c) *(u*d-v*c)) ((a*d-b*c) *(v*a-u*b)) (e,f):=λr=>by unfold wth ap;grind
   rw[key,key,DD]at Tq;lia
  obtain⟨x1,m1,h1⟩:=kk 1 0;obtain⟨x2,m2,h2⟩:=kk (-1) 0;obtain⟨x3,m3,h3⟩:=kk 0 1;obtain⟨x4,m4,h4⟩:=kk 0 (-1);have w1:=hw x1 m1;have w2:=hw x2 m2;have w3:=hw x3 m3;have w4:=hw x4 m4;unfold Wn at *;lia
 have e:(wnL W H).length=W*H:=by unfold wnL;simp
 rw[Fk,e]at this;exact this
theorem tp(l:List Int):eqW (.lst (l.map U.int)) (.lst [])=decide (l=[]):=by
 cases l with
 |nil=>rfl
 |cons a l=>simp[eqW,eqWs]
theorem BM(ns:List Int):∀p∈eP ns,Szp 150 p:=λp hp=>by
 obtain⟨q,hq,rfl⟩:=Fs.mp hp;exact Cs (BV (Da ns q hq))
theorem C9{ns:List Int}(hB:∀m∈ns,Sz 1048576 m):uJ (am (eP ns)):=by
 obtain⟨k1,k2,k3⟩:=BL hB;have ene:eP ns≠[]:=by unfold eP e0;simpa using k2
 have el:(eP ns).length<=55:=by unfold eP e0;rw[Fk,Fk];exact k1
 have F:Fld (am (eP ns)):=⟨iJ ene,gI _⟩;have cl:(am (eP ns)).length<=55:=Hh (jI _) el
 have np:(aN (am (eP ns))).length<=100:=by
  obtain⟨a,b,c,d,e,f,hd,hp⟩:=CI ns;obtain⟨w0,h0,wh⟩:=eWH ns;obtain⟨W,hW⟩:=Jx (show 0<=eW ns by lia)
  obtain⟨H,hH⟩:=Jx (show 0<=eH ns by lia)
  have ew:=Da ns;rw[hW,hH]at ew wh;have:=Co (by unfold e0;simpa using k2) ew e f hd
  unfold eP;rw[hp];have z:W*H<=100:=by exact_mod_cast wh
  lia
 exact⟨F,by lia,λp hp=>BM ns p (aV _ p hp),by rw[Bk F];lia,np⟩
def uM:List U->Out->Prop:=λus o=>∃ns:List Int,us=[.scr (ns.map U.int)]/\(∀m∈ns,Sz 1048576 m)/\o=.val (lp (am (eP ns)))
theorem mY(T:Txt w K mg):bg P w K mg base (CXF P w) 3 T.aar.a T.aar.d ["script"] (spU K (uM)):=by
 refine be T.aar.F bi (λus o h=>?_) (λQ6 A outer s H E O us o hr h=>?_)
 ·obtain⟨ns,rfl,hB,rfl⟩:=h;rfl
 obtain⟨ns,rfl,hB,rfl⟩:=h;refine Ws.nox ?_;obtain⟨w0,h0,_⟩:=eWH ns;have wz:Sz 9000 (eW ns):=Sz.mono (m:=8) (by unfold Sz;lia) (by decide)
 obtain⟨k1,k2,k3⟩:=BL hB;have ew:=Da ns;refine af (aE (i:=1) bi.nd rfl (Or.inl rfl) (aH ((bJ T).mono (by decide)) hr rfl T.aaa.m T.aaa.F.kp T.aaa.b aD (ah (aa 0 rfl) (ah ag ao d4) ai) ⟨ns,_,rfl,by decide,rfl⟩) ?_)
 refine af (aE (i:=2) bi.nd rfl (Or.inr rfl) (bR ag (dJ (aa 1 rfl) ag (by walk_at"mod"))) ?_)
 refine af (aE (i:=3) bi.nd rfl (Or.inr rfl) (bR ag (dJ (dH (aa 1 rfl) ag (by walk_at"div")) ag (by walk_at"mod"))) ?_)
 refine fC (λps=>SubP [some (.val (.scr (ns.map U.int))),some (.val (.int (d9 ns 0))),some (.val (.int (eW1 ns))),some (.val (.int (eH1 ns))),none,none] ps) (k_ (aI cB (dJ (dH (aa 1 rfl) ag (by walk_at"div")) ag (by walk_at"mod")) ag) (λhT=>?_) (λhF=>(aG ?_))) ?hj
 ·have e:eQ ns=1:=dTb hT;refine af (aE (i:=2) bi.nd rfl (Or.inr rfl) (bR (aa 2 rfl) ag) ?_);refine af (aE (i:=3) bi.nd rfl (Or.inr rfl) (bR (aa 3 rfl) ag) (aG ?_));unfold eW1 eH1;rw[if_pos e,if_pos e];exact⟨rfl,rfl,rfl,rfl,trivial⟩
 ·have e:¬ eQ ns=1:=dFb hF;unfold eW1 eH1;rw[if_neg e,if_neg e];exact⟨rfl,rfl,rfl,rfl,trivial⟩
 case hj=>
  intro ps Rh;refine cE ?_ Rh;refine fC (λps=>SubP [some (.val (.scr (ns.map U.int))),some (.val (.int (d9 ns 0))),some (.val (.int (eW ns))),some (.val (.int (eH ns))),none,none] ps) (k_ (aI cB (dJ (dH (aa 1 rfl) ag (by walk_at"div")) ag (by walk_at"mod")) ag) (λhT=>?_) (λhF=>(aG ?_))) ?hj
  ·have e:eQ ns=2:=dTb hT;refine af (aE (i:=2) bi.nd rfl (Or.inr rfl) ag ?_);refine af (aE (i:=3) bi.nd rfl (Or.inr rfl) ag (aG ?_));unfold eW eH;rw[if_pos e,if_pos e];exact⟨rfl,rfl,rfl,rfl,trivial⟩
  ·have e:¬ eQ ns=2:=dFb hF;unfold eW eH;rw[if_neg e,if_neg e];exact⟨rfl,rfl,rfl,rfl,trivial⟩
  case hj=>
   intro ps Rh;refine cE ?_ Rh;refine af (aE (i:=4) bi.nd rfl (Or.inl rfl) (EvN.ev (fF (aa 0 rfl) (gu ag) (gu ag) (.inr rfl))) ?_);rw[Dc,<-N3,<-N2];refine fC (λps=>SubP [some (.val (.scr (ns.map U.int))),some (.val (.int (d9 ns 0))),some (.val (.int (eW ns))),some (.val (.int (eH ns))),some (.val (.lst ((eC ns).map U.int))),none] ps) (k_ (aI (Ct (gO hr) (gD λ_=>rfl) rfl) (aa 4 rfl) (EvN.ev (cP bA))) (λhT=>?_) (λhF=>(aG ?_))) ?hj
   ·rw[tp]at hT;have e:eC ns=[0]:=by unfold eC;rw[if_pos (dTb hT)]
    refine af (aE (i:=4) bi.nd rfl (Or.inl rfl) (EvN.ev (cP (ay ag bA d4))) (aG ?_));rw[e];exact⟨rfl,rfl,rfl,rfl,rfl,trivial⟩
   ·rw[tp]at hF;have e:eC ns=(ns.drop 5).take 55:=by unfold eC;rw[if_neg (dFb hF)]
    rw[e];exact⟨rfl,rfl,rfl,rfl,rfl,trivial⟩
   case hj=>
    intro ps Rh;refine cE ?_ Rh;refine af (bj (aH ((jH T).mono (by decide)) hr rfl T.aaj.m T.aaj.F.kp T.aaj.b aD (ah (EvN.ev (eT (ys:=((eP ns).map pu)) rfl (blk (ak gm) ["script","shape","wide","high","cells","cell"] [5] rfl rfl rfl rfl (by decide+kernel)) (cM (aa 4 rfl) (.inl rfl)) (λ_ _ _ _=>br (i:=5) bi.nd rfl (Or.inl rfl)) (cX (by decide)) ?clen ?csz (λ_ _=>trivial) ?celt)) ao eI) ⟨eP ns,rfl,λp hp=>Szp.mono (BM ns p hp) (by decide),by unfold eP e0;rw[Fk,Fk];lia,rfl⟩) ?_)
    case clen=>unfold eP e0;simp
    case csz=>rw[Fk];exact GW (aJ (by lia))
    case celt=>
     intro C s' H' fp j x y hx hy;unfold eP e0 at hy;rw[F5,F5]at hy;rw[Ft]at hx hy;cases e:(eC ns)[j]? with
     |none=>rw[e]at hx;cases hx
     |some c=>
      rw[e]at hx hy;cases hx;cases hy;have cz:=k3 c (FD e);have cw:Wn (eW ns) (eH ns) (c%eW ns,c/eW ns%eH ns):=ew _ (Fs.mpr ⟨c,FD e,rfl⟩);exact (aH ((pH T).mono (by decide)) hr rfl T.aaC.m T.aaC.F.kp T.aaC.b aD (ah (bW (ay (dJ (aa 5 rfl) (aa 2 rfl) w0.1) (ay (dJ (dH (aa 5 rfl) (aa 2 rfl) ⟨w0.1,wz⟩) (aa 3 rfl) h0.1) bA bq) bq)) (ah (aa 0 rfl) ao ai) oo) ⟨(c%eW ns,c/eW ns%eH ns),ns,rfl,hB,BV cw,rfl⟩)
    exact rfl
theorem wf(a:Int):(if a<0 then -a else a)=(a.natAbs:Int):=by split <;>lia
theorem sY(s:P2×P2):((c9 s).length:Int)=gst s:=by
 unfold c9;rw[Fk,KY];have:0<=gst s:=by unfold gst;lia
 lia
def xE:List U->Out->Prop:=λus o=>∃a b:P2,us=[pu a,pu b]/\Szp 150 a/\Szp 150 b/\gst (a,b)<=900/\o=.new ((c9 (a,b)).map pq)
theorem ju(T:Txt w K mg):bg P w K mg base (CXF P w) 1 T.aan.a T.aan.d ["one","two"] (spU K (xE)):=by
 refine be T.aan.F bK (λus o h=>?_) (λQ6 A outer s H E O us o hr h=>?_)
 ·obtain⟨a,b,rfl,za,zb,gl,rfl⟩:=h;rfl
 obtain⟨a,b,rfl,za,zb,gl,rfl⟩:=h;refine Ws.nox ?_;have a1:=za.1;have a2:=za.2;have b1:=zb.1;have b2:=zb.2;refine af (aE (i:=2) bK.nd rfl (Or.inl rfl) (av o9 rfl T.aaX PyProof.Rows.boot_abs (ah (bm (aB (aa 1 rfl) ag rfl rfl) (aB (aa 0 rfl) ag rfl rfl)) ao bq)) ?_);refine af (aE (i:=3) bK.nd rfl (Or.inl rfl) (av o9 rfl T.aaX PyProof.Rows.boot_abs (ah (bm (aB (aa 1 rfl) ag rfl rfl) (aB (aa 0 rfl) ag rfl rfl)) ao bq)) ?_);rw[wf,wf];refine af (gG (λq:Nat×Nat=>[some (.val (pu a)),some (.val (pu b)),some (.val (.int (q.1:Int))),some (.val (.int (q.2:Int))),none,none,none,none]) (λm q=>m=q.2/\Nat.gcd q.1 q.2=Jv (b.1-a.1) (b.2-a.2)) PassesOwn.never ?h0 ?hs)
 case h0=>exact⟨_,((b.1-a.1).natAbs,(b.2-a.2).natAbs),⟨rfl,rfl⟩,rfl,rfl,rfl,rfl,trivial⟩
 case hs=>
  rintro m ⟨p,q⟩ ⟨hm,hg⟩;dsimp only at hm hg |-;refine⟨decide ((0:Int)<(q:Int)),(aI iE (aa 3 rfl) ag),λh=>?_,λh ps Rh=>?_⟩
  ·have hy:=dTb h;refine af (B1 (i:=2) (j:=3) rfl bK.nd rfl rfl (by decide) rfl rfl (ah (aa 3 rfl) (ah (dJ (aa 2 rfl) (aa 3 rfl) (by walk_at"mod")) ao bq) ai) rfl (aG ?_))
   refine⟨p%q,(q,p%q),by rw[hm];exact Iw _ (by lia),⟨rfl,?_⟩,rfl,rfl,?_,?_,trivial⟩
   ·rw[<-hg,QC q,<-Nat.gcd_rec,QC]
   ·rfl
   ·exact congrArg (λz=>some (Sl.val (.int z))) (by simp)
  ·have hy:q=0:=by have:=dFb h;lia
   subst hy;have e:(p:Int)=gst (a,b):=by unfold gst;rw[<-hg];simp
   refine cE ?_ Rh;by_cases h0:p=0
   ·subst h0;refine af (fS (aI cB (aa 2 rfl) ag) rfl ?_);refine af (c8 (cP bA) ?_);unfold c9;rw[<-e];exact rfl
   ·refine af (bQ (aI cB (aa 2 rfl) ag) (decide_eq_false (by lia)) (aG ?_))
    have gz:Sz 9000 (p:Int):=Sz.mono (m:=10) (by unfold Sz;lia) (by decide)
    have zx:Sz 151 (b.1-a.1):=(L2.Sz.sub' b1 a1).mono (by decide)
    have zy:Sz 151 (b.2-a.2):=(L2.Sz.sub' b2 a2).mono (by decide)
    refine af (aE (i:=4) bK.nd rfl (Or.inr rfl) (dH (bm (aB (aa 1 rfl) ag rfl rfl) (aB (aa 0 rfl) ag rfl rfl)) (aa 2 rfl) ⟨by lia,gz⟩) ?_)
    refine af (aE (i:=5) bK.nd rfl (Or.inr rfl) (dH (bm (aB (aa 1 rfl) ag rfl rfl) (aB (aa 0 rfl) ag rfl rfl)) (aa 2 rfl) ⟨by lia,gz⟩) ?_)
    rw[show (b.1-a.1)/(p:Int)=ub (a,b) by rw[e];rfl,show (b.2-a.2)/(p:Int)=vb (a,b) by rw[e];rfl]
    have uz:Sz 151 (ub (a,b)):=zx.ediv;have vz:Sz 151 (vb (a,b)):=zy.ediv;refine af (aE (i:=6) bK.nd rfl (Or.inr rfl) (EvN.ev (eT (ys:=(((GG (p+1)).map λ(k:Nat)=>onS (a,b) (k:Int)).map pu)) rfl (blk (ak fJ) ["one","two","wide","high","x","y","row","k"] [7] rfl rfl rfl rfl (by decide+kernel)) (f9 rfl T.aaJ (ah (bR (aa 2 rfl) ag) ao bq) (by lia) (by lia)) (λ_ _ _ _=>br (i:=7) bK.nd rfl (Or.inl rfl)) (cX (by decide)) ?clen ?csz (λ_ _=>trivial) ?celt)) ?_)
    case clen=>rw[bH,Fk,Fk,KY];lia
    case csz=>rw[bH];exact GW (aJ (by lia))
    case celt=>
     intro C s' H' fp j x y hx hy;obtain⟨hj,rfl⟩:=cO hx;have hj':j<p+1:=by lia
     rw[F5,Ft,G9 hj']at hy;cases hy;have jz:Sz 10 (0+(j:Int)):=by unfold Sz;lia
     have ej:pu (onS (a,b) (j:Int))=.tup [.int (a.1+(0+(j:Int)) *ub (a,b)),.int (a.2+(0+(j:Int)) *vb (a,b))]:=by rw[Ll];rfl
     show Ev _ _ _ _ _ (pu (onS (a,b) (j:Int)));rw[ej];exact (bW (ay (bR (aB (aa 0 rfl) ag rfl rfl) (bn (aa 7 rfl) (aa 4 rfl) (L2.Sz.ok jz uz (by decide)))) (ay (bR (aB (aa 0 rfl) ag rfl rfl) (bn (aa 7 rfl) (aa 5 rfl) (L2.Sz.ok jz vz (by decide)))) bA bq) bq))
    refine af (c8 (eT (ys:=((c9 (a,b)).map pq)) rfl (blk (ak fJ) ["one","two","wide","high","x","y","row","k"] [7] rfl rfl rfl rfl (by decide+kernel)) (f9 rfl T.aaJ (ah (aa 2 rfl) ao ai) (by lia) (by lia)) (λ_ _ _ _=>br (i:=7) bK.nd rfl (Or.inl rfl)) (cX (by decide)) ?clen ?csz (λ_ _=>trivial) ?celt) ?_)
    case clen=>rw[bH,Fk];have:=sY (a,b);lia
    case csz=>rw[bH];exact GW (aJ (by lia))
    case celt=>
     intro C s' H' fp j x y hx hy;obtain⟨hj,rfl⟩:=cO hx;have hj':j<p:=by lia
     unfold c9 at hy;rw[<-e,Hf,F5,Ft,G9 hj']at hy;cases hy;have at1:∀i:Nat,i<p+1->atI (((GG (p+1)).map λ(k:Nat)=>onS (a,b) (k:Int)).map pu) (i:Int)=some (pu (onS (a,b) (i:Int))):=λi hi=>oC rfl (by rw[F5,Ft,G9 hi];rfl)
     exact (bW (ay (aB (aa 6 rfl) (aa 7 rfl) rfl (by rw[Ll];exact at1 j (by lia))) (ay (aB (aa 6 rfl) (bR (aa 7 rfl) ag) rfl (by rw[Ll];exact at1 (j+1) (by lia))) bA aZ) aZ))
    exact rfl
def zI:List U->Out->Prop:=λus o=>∃t:ST3.TR,us=[trU t]/\AD t/\o=.val (.bl true)
theorem gR(T:Txt w K mg):bg P w K mg base (CXF P w) 3 T.aac.a T.aac.d ["piece"] (spU K (zI)):=by
 refine be T.aac.F dI (λus o h=>?_) (λQ6 A outer s H E O us o hr h=>?_)
 ·obtain⟨t,rfl,K,rfl⟩:=h;rfl
 obtain⟨t,rfl,K,rfl⟩:=h;refine Ws.nox ?_;have z1:=K.z.1.mono (n:=5000) (by decide)
 have z2:=K.z.2.1.mono (n:=5000) (by decide)
 have z3:=K.z.2.2.mono (n:=5000) (by decide)
 refine af (bQ (Tw.t (A8 (iS (fY (av (cS (by intro _ h;cases h) (L2.kit_tuple_tuple _)) rfl T.aag IH (ah (aa 0 rfl) (ah (mV rfl T.aaQ Nu) ao ai) ai)))) (λhz=>(ux (aI sF (av (bX rfl) rfl T.aak Gd (ah (aa 0 rfl) ao ai)) ag))))) (by rfl) (aG ?_))
 refine af (d8 (λ_:Nat=>[some (.val (trU t)),none]) (λi j=>i=j) rfl PassesOwn.never (wV (aa 0 rfl)) ?h0 ?hs ?hd)
 case h0=>exact⟨0,rfl,rfl,trivial⟩
 case hs=>
  rintro H0 i x _ hx rfl
  obtain⟨p,rfl⟩:∃p:P2,x=pu p:=by
   have:=FD hx;simp only[Fw,Lq,or_false]at this;rcases this with e |e |e <;>exact⟨_,e⟩
  refine⟨_,(fu (i:=1) dI.nd rfl (Or.inl rfl)),?_⟩;refine af (bQ (iS (fY (aH ((fi T).mono (by decide)) hr rfl T.aab.m T.aab.F.kp T.aab.b aD (ah (aa 1 rfl) ao ai) ⟨p,rfl,rfl⟩))) (by rfl) (aG (aG ?_)))
  exact⟨i+1,rfl,rfl,trivial⟩
 case hd=>
  rintro i ps hi Rh;refine cE ?_ Rh;refine af (bj (kX (jn (Bx (gO hr)) (aB (aa 0 rfl) ag rfl rfl) (aB (aa 0 rfl) ag rfl rfl)) (λhz=>(kX (jn (Bx (gO hr)) (aB (aa 0 rfl) ag rfl rfl) (aB (aa 0 rfl) ag rfl rfl)) (λhz=>(r8 (jn cB (aH ((g7 T).mono (by decide)) hr rfl T.aaf.m T.aaf.F.kp T.aaf.b aD (ah (aB (aa 0 rfl) ag rfl rfl) (ah (aB (aa 0 rfl) ag rfl rfl) (ah (aB (aa 0 rfl) ag rfl rfl) ao aZ) aZ) aZ) ⟨t.1,t.2.1,t.2.2,rfl,z1,z2,z3,rfl⟩) ag)))))) ?_)
  exact vB (by rw[K.l1,K.l2,K.d];rfl)
def tg1(L:List K4):List (K4×Int):=L.map λk=>(k,1)
theorem oB(L:List K4)(k:K4):(tg1 L).any (λx=>decide (x.1=k))=decide (k∈L):=by
 unfold tg1;rw[List.any_map]
 induction L with
 |nil=>simp
 |cons a L ih=>
  rw[NY,ih];by_cases e:a=k
  ·subst e;simp
  ·simp[e,Ne.symm (a:=a) (b:=k) e]
theorem sG(L:List K4)(k:K4):tg1 (L++[k])=tg1 L++[(k,1)]:=by unfold tg1;rw[Gr];rfl
theorem fresh{A B C:List K4}(nd:(A++(B++C)).Nodup){k:Nat}{x:K4}(h:B[k]?=some x):(tg1 (A++B.take k)).any (λy=>decide (y.1=x))=false:=by
 rw[oB,decide_eq_false_iff_not]
 have e:A++(B++C)=(A++B.take k)++(x::(B.drop (k+1)++C)):=by
  have hk:k<B.length:=(FA.mp h).1;have hx:B[k]=x:=(FA.mp h).2
  conv=>lhs;rw[←Gc k B,Gp hk,hx]
  simp
 rw[e]at nd;exact λm=>(Gm.mp nd).2.2 x m x Fv rfl
theorem kr{α:Type}{f:α->List K4}{L:List α}{i:Nat}{x:α}(h:L[i]?=some x):L.flatMap f=(L.take i).flatMap f++(f x++(L.drop (i+1)).flatMap f)/\(L.take (i+1)).flatMap f=(L.take i).flatMap f++f x:=by
 have hk:i<L.length:=(FA.mp h).1;have hx:L[i]=x:=(FA.mp h).2;constructor
 ·conv=>lhs;rw[←Gc i L,Gp hk,hx,Kl,HX]
 ·rw[IB,h,Kl];simp
theorem mj{B:List K4}{k:Nat}{x:K4}(h:B[k]?=some x):B.take (k+1)=B.take k++[x]:=by rw[IB,h];rfl
theorem qK(L:List K4):(tg1 L).length=L.length:=Fk _
theorem xt(ts:List ST3.TR):(ts.flatMap dS3).length=3*ts.length:=by
 induction ts with
 |nil=>rfl
 |cons t ts ih=>rw[HX,FT,ih,F8];simp only[dS3,F8,JI];lia
theorem Eg(t:ST3.TR){k:Nat}(h:k<3):(dS3 t)[k]?=some (prv [t.1,t.2.1,t.2.2] k,gp [t.1,t.2.1,t.2.2] k):=by
 match k,h with
 |0,_=>simp[dS3,prv]
 |1,_=>simp[dS3,prv]
 |2,_=>simp[dS3,prv]
def pO(P:FK)(w:Gj):List U->Out->Prop:=λus o=>∃ts:List ST3.TR,us=[.lst (ts.map trU)]/\ts.length<=200/\(ts.flatMap dS3).Nodup/\o=.val (.ty (.dp (ST2.hsq P w) (tg1 (ts.flatMap dS3))))
theorem lE(T:Txt w K mg):bg P w K mg base (CXF P w) 1 T.aao.a T.aao.d ["found"] (spU K ((pO P w))):=by
 refine be T.aao.F cI (λus o h=>?_) (λQ6 A outer s H E O us o hr h=>?_)
 ·obtain⟨ts,rfl,hl,nd,rfl⟩:=h;rfl
 obtain⟨ts,rfl,hl,nd,rfl⟩:=h;refine Ws.nox ?_;have T9:_:=(JD (NP (show 2<=10 by decide) _) (gO hr))
 refine y8 (j:=1) (m:=tg1 (ts.flatMap dS3)) cI.nd rfl (Or.inl rfl) rfl ?hv (nE (kk:=2) (λi=>tg1 ((ts.take i).flatMap dS3)) rfl PassesOwn.never cI.nd rfl (Or.inl rfl) (by decide) (cM (aa 0 rfl) (.inl rfl)) rfl ?b1 ⟨SubP.rfl' _,by rw[Fk,Hv]⟩) ?_
 case hv=>
  intro i s h
  match i,h with
  |0,h=>cases h;exact⟨_,rfl⟩
  |1,h=>cases h
  |2,h=>cases h
  |3,h=>cases h
  |4,h=>cases h
  |i+5,h=>cases h
 case b1=>
  intro H1 i x hx;rw[Ft]at hx;obtain⟨t,ht,rfl⟩:=Ir.mp hx;obtain⟨f1,f2⟩:=kr (f:=dS3) ht;rw[f1]at nd;have il:i<ts.length:=aC ht;have l1:((ts.take i).flatMap dS3).length<=600:=by rw[xt,IJ];lia
  refine wv (nE (kk:=3) (λk=>tg1 ((ts.take i).flatMap dS3++(dS3 t).take k)) rfl PassesOwn.never cI.nd rfl (Or.inl rfl) (by decide) (f9 rfl T.aaJ (ah ag ao d4) (by decide) (by decide)) (by simp) ?b2 ⟨⟨rfl,trivial⟩,?e2⟩)
  case e2=>
   rw[bH,f2];rfl
  case b2=>
   intro H2 k y hy;obtain⟨hk,rfl⟩:=cO hy;have SN:k<3:=hk;have da:=Eg t SN;have fr:=fresh nd da;refine C0 (zz:=4) (u:=.tup [.tup [.int (prv [t.1,t.2.1,t.2.2] k).1,.int (prv [t.1,t.2.1,t.2.2] k).2],.tup [.int (gp [t.1,t.2.1,t.2.2] k).1,.int (gp [t.1,t.2.1,t.2.2] k).2]]) cI.nd rfl (Or.inl rfl) (by decide) ?es ?_
   case es=>exact (bW (ay (aB (aa 2 rfl) (bm (aa 3 rfl) ag) rfl (zh (l:=[t.1,t.2.1,t.2.2]) SN)) (ay (aB (aa 2 rfl) (aa 3 rfl) rfl (mi (l:=[t.1,t.2.1,t.2.2]) (i:=k) (by lia) SN)) bA aZ) aZ))
   refine Dh (zz:=4) (a:=prv [t.1,t.2.1,t.2.2] k) (b:=gp [t.1,t.2.1,t.2.2] k) T9 rfl rfl rfl fr ?_;refine wK (zz:=4) (a:=prv [t.1,t.2.1,t.2.2] k) (b:=gp [t.1,t.2.1,t.2.2] k) T9 rfl rfl rfl fr ?hz (wR ⟨⟨rfl,rfl,trivial⟩,?ez⟩)
   case hz=>
    rw[qK,FT,IJ];exact aJ (by lia)
   case ez=>rw[mj da,<-FF,sG]
 refine af (bj (aa 1 rfl) ?_);exact rfl
structure Ek(l:List P2)(ts:List ST3.TR)(D R:List K4):Prop where
 tri:∀t∈ts,AD t
 asc:ts.Pairwise λa b=>ST3.ltT a b=true
 len:ts.length<=200
 dn:D.Nodup
 rn:R.Nodup
 sub:∀d∈R,d∈D
 fill:∀d∈D,(swp d∈D↔d ∉ R)
 rl:R.length<=600
theorem Bf{l:List P2}(O:uJ l)(h3:3<=l.length):Ek l (SG.srt ST3.KT (pcs l)) ((SG.srt ST3.KT (pcs l)).flatMap dS3) ((pvl l).flatMap c9):=by
 have F:=O.F;have Rw:=nv F h3;obtain⟨n1,n2⟩:=CH F h3;obtain⟨g1,g2⟩:=Rw.fill;have p:=Ak l
 have tl:(SG.srt ST3.KT (pcs l)).length<=200:=by
  rw[(qc l).length_eq];unfold pcs;rw[Fk];have:=si l;have:=O.np;lia
 have sub:∀d∈(pvl l).flatMap c9,d∈(SG.srt ST3.KT (pcs l)).flatMap dS3:=λd hd=>p.mem_iff.mpr (g1 d ((n2 d).mp hd))
 refine⟨CS F h3 O.sz,SG.srt_asc ST3.KT (pcs l),tl,p.nodup_iff.mpr Rw.dnd,n1,sub,λd hd=>?_,?_⟩
 ·rw[p.mem_iff,n2];exact g2 d (p.mem_iff.mp hd)
 ·have:=L2.nd_lenL n1 sub;rw[xt]at this;lia
def vq:List U->Out->Prop:=λus o=>∃(l:List P2) (ts:List ST3.TR),us=[.lst (ts.map trU),lp l]/\uJ l/\Ek l ts (ts.flatMap dS3) ((pvl l).flatMap c9)/\o=.val (.bl true)
theorem mX(T:Txt w K mg):bg P w K mg base (CXF P w) 4 T.aas.a T.aas.d ["found","ends"] (spU K (vq)):=by
 refine be T.aas.F bD (λus o h=>?_) (λQ6 A outer s H E O us o hr h=>?_)
 ·obtain⟨l,ts,rfl,O,K,rfl⟩:=h;rfl
 obtain⟨l,ts,rfl,O,K,rfl⟩:=h;refine Ws.nox ?_;have T9:_:=(JD (NP (show 2<=10 by decide) _) (gO hr))
 have hm:((ts.map trU).length:Int)=(ts.length:Int):=by rw[Fk]
 have hl:((l.map pu).length:Int)=(l.length:Int):=by rw[Fk]
 have tl:=K.len;have l64:=O.l64;refine af (d8 (λ_:Nat=>[some (.val (.lst (ts.map trU))),some (.val (lp l)),none,none,none,none,none,none,none]) (λi j=>i=j) rfl PassesOwn.never (cM (aa 0 rfl) (.inl rfl)) ?h0 ?hs ?hd)
 case h0=>exact⟨0,rfl,rfl,rfl,trivial⟩
 case hs=>
  rintro H0 i x _ hx rfl;rw[Ft]at hx;obtain⟨t,ht,rfl⟩:=Ir.mp hx;refine⟨_,(fu (i:=2) bD.nd rfl (Or.inl rfl)),?_⟩;refine af (bQ (iS (fY (aH ((gR T).mono (by decide)) hr rfl T.aac.m T.aac.F.kp T.aac.b aD (ah (aa 2 rfl) ao ai) ⟨t,rfl,K.tri t (FD ht),rfl⟩))) (by rfl) (aG (aG ?_)))
  exact⟨i+1,rfl,rfl,rfl,trivial⟩
 case hd=>
  rintro i ps _ Rh;refine cE ?_ Rh;refine af (d8 (λ_:Nat=>[some (.val (.lst (ts.map trU))),some (.val (lp l)),none,none,none,none,none,none,none]) (λi j=>i=j) rfl PassesOwn.never (f9 rfl T.aaJ (ah (bm (av (bX rfl) rfl T.aak Gd (ah (aa 0 rfl) ao ai)) ag) ao bq) (by rw[hm];lia) (by rw[hm];lia)) ?h02 ?hs2 ?hd2)
  case h02=>exact⟨0,rfl,rfl,rfl,trivial⟩
  case hs2=>
   rintro H0 k x _ hx rfl;obtain⟨hk,rfl⟩:=cO hx;rw[hm]at hk;have k1:k+1<ts.length:=by lia
   have at1:∀i:Nat,(h:i<ts.length)->atI (ts.map trU) (i:Int)=some (trU ts[i]):=λi h=>oC rfl (by rw[Ft,Fj h];rfl)
   have lt:=FO.mp K.asc k (k+1) (by lia) k1 (by lia)
   refine⟨_,(fu (i:=3) bD.nd rfl (Or.inl rfl)),?_⟩;refine af (bQ (iS (aI (Ey (gO hr)) (aB (aa 0 rfl) (aa 3 rfl) rfl (by rw[Ll];exact at1 k (by lia))) (aB (aa 0 rfl) (bR (aa 3 rfl) ag) rfl (by rw[Ll];exact at1 (k+1) k1)))) (by rw[lt];rfl) (aG (aG ?_)))
   exact⟨k+1,rfl,rfl,rfl,trivial⟩
  case hd2=>
   rintro i ps _ Rh;refine cE ?_ Rh;refine af (aE (i:=4) bD.nd rfl (Or.inl rfl) (aH ((lE T).mono (by decide)) hr rfl T.aao.m T.aao.F.kp T.aao.b aD (ah (aa 0 rfl) ao ai) ⟨ts,rfl,tl,K.dn,rfl⟩) ?_)
   refine af (bQ (EH (aa 4 rfl) (Dl _)) (by rfl) (aG ?_))
   have dl:=qK (ts.flatMap dS3);have Kd:=K.fill;have Ks:=K.sub;have Kr:=K.rn;have Krl:=K.rl;generalize hD:ts.flatMap dS3=D at *;refine y8 (j:=5) (m:=tg1 ((pvl l).flatMap c9)) bD.nd rfl (Or.inl rfl) rfl ?hv (nE (kk:=3) (λi=>tg1 (rwL l i)) rfl PassesOwn.never bD.nd rfl (Or.inl rfl) (by decide) (f9 rfl T.aaJ (ah (av (bX rfl) rfl T.aak Gd (ah (aa 1 rfl) ao ai)) ao de) (by rw[hl];lia) (by rw[hl];lia)) rfl ?b1 ⟨SubP.rfl' _,?e1⟩) ?_
   case e1=>
    unfold rwL;rw[bH,hl,Hf,Iq (by rw[AG];exact Fu _)]
   case hv=>
    intro i s h
    match i,h with
    |0,h=>cases h;exact⟨_,rfl⟩
    |1,h=>cases h;exact⟨_,rfl⟩
    |2,h=>cases h
    |3,h=>cases h
    |4,h=>cases h;exact⟨_,rfl⟩
    |5,h=>cases h
    |6,h=>cases h
    |7,h=>cases h
    |8,h=>cases h
    |i+9,h=>cases h
   case b1=>
    intro H1 k x hx;obtain⟨hk,rfl⟩:=cO hx;have SN:k<l.length:=by rw[hl]at hk;lia
    have pk:(pvl l)[k]?=some (prv l k,gp l k):=by unfold pvl;rw[Ft,G9 SN];rfl
    obtain⟨f1,f2⟩:=kr (f:=c9) pk;have nd:=Kr;rw[f1]at nd;have sub2:∀d∈c9 (prv l k,gp l k),d∈D:=λd hd=>Ks d (by rw[f1];exact FG _ (FJ _ hd))
    have gl:gst (prv l k,gp l k)<=900:=by
     have h:=congrArg Mp f1;rw[FT,FT]at h;have:=sY (prv l k,gp l k);lia
    have z1:=O.sz _ (zR SN);have z2:=O.sz _ (fP SN);have ql:(((c9 (prv l k,gp l k)).take ((c9 (prv l k,gp l k)).map pq).length))=c9 (prv l k,gp l k):=by rw[Fk,Hv]
    refine wv (nE (kk:=6) (λi=>tg1 (rwL l k++(c9 (prv l k,gp l k)).take i)) rfl PassesOwn.never bD.nd rfl (Or.inl rfl) (by decide) (cM (EvN.ev (b9 ((ju T).mono (by decide)) hr rfl T.aan.m T.aan.F.kp T.aan.b aD (ah (aB (aa 1 rfl) (bm (aa 3 rfl) ag) rfl (zh SN)) (ah (aB (aa 1 rfl) (aa 3 rfl) rfl (mi (i:=k) (by lia) SN)) ao aZ) aZ) ⟨_,_,rfl,z1,z2,gl,rfl⟩)) (.inl rfl)) (by simp) ?b2 ⟨⟨rfl,rfl,rfl,trivial⟩,?e2⟩)
    case e2=>
     rw[ql];unfold rwL;rw[f2]
    case b2=>
     intro H2 i y hy;rw[Ft]at hy;obtain⟨f,hf,rfl⟩:=Ir.mp hy;have fr:(tg1 (rwL l k++(c9 (prv l k,gp l k)).take i)).any (λy=>decide (y.1=f))=false:=fresh nd hf
     have Tc:((tg1 D).any λx=>decide (x.1=f))=true:=by rw[oB];exact decide_eq_true (sub2 f (FD hf))
     refine wK (zz:=6) (a:=f.1) (b:=f.2) T9 rfl rfl rfl fr ?hz (CK (yZ (k:=f) T9 (aa 6 rfl) (aa 4 rfl) Tc) (wR ⟨⟨rfl,rfl,rfl,rfl,trivial⟩,?ez⟩))
     case hz=>
      rw[qK];refine aJ ?_;have h:=congrArg Mp f1;rw[FT,FT]at h;unfold rwL;rw[FT,IJ];lia
     case ez=>rw[mj hf,<-FF,sG]
   generalize (pvl l).flatMap c9=R at *;refine af (d8 (λ_:Nat=>[some (.val (.lst (ts.map trU))),some (.val (lp l)),none,none,some (.val (.ty (.dp (ST2.hsq P w) (tg1 D)))),some (.val (.ty (.dp (ST2.hsq P w) (tg1 R)))),none,none,none]) (λi j=>i=j) rfl PassesOwn.never (Ez (aa 4 rfl)) ?h03 ?hs3 ?hd3)
   case h03=>exact⟨0,rfl,rfl,rfl,rfl,rfl,trivial⟩
   case hs3=>
    rintro H0 i x _ hx rfl;rw[Ft]at hx;obtain⟨y,hy,rfl⟩:=Ir.mp hx
    have my:y.1∈D:=by
     obtain⟨d,hd,e⟩:=Fs.mp (FD hy);rw[<-e];exact hd
    have fl:=Kd y.1 my;have hx1:((tg1 D).any λx=>decide (x.1=swp y.1))=decide (swp y.1∈D):=oB _ _
    have hx2:((tg1 R).any λx=>decide (x.1=y.1))=decide (y.1∈R):=oB _ _
    have hF':eqW (.bl ((tg1 D).any λx=>decide (x.1=swp y.1))) (.bl ((tg1 R).any λx=>decide (x.1=y.1)))=false:=by
     rw[hx1,hx2];by_cases h:y.1∈R
     ·have:swp y.1 ∉ D:=λz=>fl.mp z h
      simp[h,this,eqW]
     ·have:=fl.mpr h;simp[h,this,eqW]
    rw[show prU y.1=U.tup [pu y.1.1,pu y.1.2] from rfl]
    refine⟨_,(yO [7,8] rfl (cG (br (i:=7) bD.nd rfl (Or.inl rfl)) (cG (br (i:=8) bD.nd rfl (Or.inl rfl)) iI)) rfl),?_⟩;refine af (bQ (aI (Ct (gO hr) rfl rfl) (t6 (k:=(swp y.1)) T9 (bW (ay (aa 8 rfl) (ay (aa 7 rfl) bA ai) ai)) (aa 4 rfl)) (t6 (k:=y.1) T9 (bW (ay (aa 7 rfl) (ay (aa 8 rfl) bA ai) ai)) (aa 5 rfl))) hF' (aG (aG ?_)));exact⟨i+1,rfl,rfl,rfl,rfl,rfl,trivial⟩
   case hd3=>
    rintro i ps _ Rh;refine cE ?_ Rh;refine af (bj ET ?_);exact rfl
abbrev tpU(l:List P2):U:=.tup (l.map pu)
theorem zH(l:List P2):okU 8 (tpU l)=true:=by rw[okU];exact oW λ_ _=>rfl
theorem DT{ls:List (List P2)}{i:Nat}{x:U}(h:(ls.map tpU)[i]?=some x):∃l,ls[i]?=some l/\l∈ls/\x=tpU l:=by
 rw[Ft]at h;obtain⟨q,hq,rfl⟩:=Ir.mp h;exact⟨q,hq,FD hq,rfl⟩
theorem An{l:List P2}(O:uJ l)(h3:l.length<3):(∃A,l=[A])\/∃A B,l=[A,B]/\iq l=(c9 (A,B)).map (λs=>[s.1,s.2])/\gst (A,B)<=900:=by
 rcases O.F.cases with ⟨A,rfl⟩ |⟨A,B,rfl,lt⟩ |h
 ·exact .inl ⟨A,rfl⟩
 ·have:=pU O.F lt;have:=O.np;exact .inr ⟨A,B,rfl,AC O.F lt,by lia⟩
 ·rw[O.F.cr]at h;lia
def vU:List U->Out->Prop:=λus o=>∃l:List P2,us=[.lst ((iq l).map tpU),lp l]/\uJ l/\l.length<3/\o=.val (.bl true)
theorem ou(T:Txt w K mg):bg P w K mg base (CXF P w) 3 T.aat.a T.aat.d ["found","ends"] (spU K (vU)):=by
 refine be T.aat.F cT (λus o h=>?_) (λQ6 A outer s H E O us o hr h=>?_)
 ·obtain⟨l,rfl,O,h3,rfl⟩:=h;rfl
 obtain⟨l,rfl,O,h3,rfl⟩:=h;refine Ws.nox ?_;have hl:((l.map pu).length:Int)=(l.length:Int):=by rw[Fk]
 have l0:0<l.length:=G0.mpr O.F.ne;have fo:=An O h3
 have ql:∀q∈iq l,q.length=l.length:=λq hq=>by
  rcases fo with ⟨A,rfl⟩ |⟨A,B,rfl,e,_⟩
  ·have:q=[A]:=by simpa [iq,gp] using hq
   rw[this]
  ·rw[e]at hq;obtain⟨s,_,rfl⟩:=Fs.mp hq;rfl
 refine af (aE (i:=2) cT.nd rfl (Or.inl rfl) (EvN.ev (cP (ay (bW (ay (aB (aa 1 rfl) ag rfl (mi (i:=0) (by decide) l0)) bA aZ)) bA oo))) ?_)
 refine fC (λps=>SubP [some (.val (.lst ((iq l).map tpU))),some (.val (lp l)),some (.val (.lst ((iq l).map tpU))),none,none] ps) (k_ (aI cB (av (bX rfl) rfl T.aak Gd (ah (aa 1 rfl) ao ai)) ag) (λhT=>?_) (λhF=>(aG ?_))) ?hj
 ·have h2:l.length=2:=by have:=dTb hT;rw[hl]at this;lia
  rcases fo with ⟨A,rfl⟩ |⟨A,B,rfl,e,gl⟩
  ·simp at h2
  ·refine af (aE (i:=2) cT.nd rfl (Or.inl rfl) (EvN.ev (b9 ((ju T).mono (by decide)) hr rfl T.aan.m T.aan.F.kp T.aan.b aD (ah (aB (aa 1 rfl) ag rfl rfl) (ah (aB (aa 1 rfl) ag rfl rfl) ao aZ) aZ) ⟨A,B,rfl,O.sz A (by simp),O.sz B (by simp),gl,rfl⟩)) (aG ?_))
   refine⟨rfl,rfl,?_,trivial⟩;rw[e,F5];exact rfl
 ·have h2:¬ l.length=2:=by have:=dFb hF;rw[hl]at this;lia
  rcases fo with ⟨A,rfl⟩ |⟨A,B,rfl,e,gl⟩
  ·exact⟨rfl,rfl,rfl,trivial⟩
  ·simp at h2
 case hj=>
  intro ps Rh;refine cE ?_ Rh;refine af (d8 (λ_:Nat=>[some (.val (.lst ((iq l).map tpU))),some (.val (lp l)),some (.val (.lst ((iq l).map tpU))),none,none]) (λi j=>i=j) rfl PassesOwn.never (cM (aa 0 rfl) (.inl rfl)) ?h0 ?hs ?hd)
  case h0=>exact⟨0,rfl,rfl,rfl,rfl,trivial⟩
  case hs=>
   rintro H0 i x _ hx rfl;obtain⟨q,Rb,mq,rfl⟩:=DT hx;have q1:=ql q mq;refine⟨_,(fu (i:=3) cT.nd rfl (Or.inl rfl)),?_⟩;refine af (bQ (Tw.t (A8 (iS (fY (av (cS (by intro _ h;cases h) (L2.kit_tuple_tuple _)) rfl T.aag IH (ah (aa 3 rfl) (ah (mV rfl T.aaQ Nu) ao ai) ai)))) (λhz=>(ux (aI sF (av (bX rfl) rfl T.aak Gd (ah (EvN.ev (A7 (q.map λp=>some (pu p)) rfl (blk (ak gF) ["found","ends","due","piece","spot"] [4] rfl rfl rfl rfl (by decide+kernel)) (wV (aa 3 rfl)) (λ_ _ _ _=>br (i:=4) cT.nd rfl (Or.inl rfl)) (cX (by decide)) ?clen ?csz (λ_ _=>trivial) ?ctest ?celt)) ao eI)) (av (bX rfl) rfl T.aak Gd (ah (aa 1 rfl) ao ai))))))) (by rw[hl,←q1];simp) (aG (aG ?_)))
   case clen=>simp
   case csz=>rw[Fk];exact GW (aJ (by lia))
   case ctest=>
    intro C s' H' fp j x o hx ho;obtain⟨p,hp,mp,rfl⟩:=pX hx;rw[Ft,hp]at ho;cases ho;exact (fY (aH ((fi T).mono (by decide)) hr rfl T.aab.m T.aab.F.kp T.aab.b aD (ah (aa 4 rfl) ao ai) ⟨p,rfl,rfl⟩))
   case celt=>
    intro C s' H' fp j x y hx hy;obtain⟨p,hp,mp,rfl⟩:=pX hx;rw[Ft,hp]at hy;cases hy;exact (aa 4 rfl)
   exact⟨i+1,rfl,rfl,rfl,rfl,trivial⟩
  case hd=>
   rintro i ps _ Rh;refine cE ?_ Rh;refine af (bj (jn (Ct (gO hr) (gD λ_=>zH _) (gD λ_=>zH _)) (aa 0 rfl) (aa 2 rfl)) ?_)
   exact vB (pF 9 _ (gD λ_=>zH _))
theorem Cj(T:Txt w K mg):bg P w K mg base (CXF P w) 10 T.aaV.a T.aaV.d ["script"] (spU K (iM)):=by
 refine be T.aaV.F n8 (λus o h=>?_) (λQ6 A outer s H E O us o hr h=>?_)
 ·obtain⟨ns,rfl,h63,hB,rfl⟩:=h;rfl
 obtain⟨ns,rfl,h63,hB,rfl⟩:=h;refine Ws.nox ?_;have O:=C9 hB;refine af (aE (i:=1) n8.nd rfl (Or.inl rfl) (aH ((mY T).mono (by decide)) hr rfl T.aar.m T.aar.F.kp T.aar.b aD (ah (aa 0 rfl) ao ai) ⟨ns,rfl,hB,rfl⟩) ?_)
 generalize am (eP ns)=l at *;have hm:((l.map pu).length:Int)=(l.length:Int):=by rw[Fk]
 refine af (aE (i:=2) n8.nd rfl (Or.inl rfl) (EvN.ev (uh (yo rfl) rfl T.aaS N6 (ah (aa 1 rfl) ao ai))) ?_);refine af (aE (i:=3) n8.nd rfl (Or.inl rfl) (EvN.ev (b9 ((vH T).mono (by decide)) hr rfl T.aaI.m T.aaI.F.kp T.aaI.b aD (ah (aa 2 rfl) ao ai) ⟨l,rfl,O,rfl⟩)) ?_)
 refine af (bQ (Tw.t (A8 (aI (E2 (gO hr) (Bz _) (Bz _)) (aa 2 rfl) (aa 1 rfl)) (λhz=>(ux (iS (fY (av (cS (by intro _ h;cases h) (L2.kit_list_list _)) rfl T.aag IH (ah (aa 3 rfl) (ah (mV rfl T.aaS N6) ao ai) ai)))))))) (show (!eqW (lp l) (lp l) || !true)=false by rw[B_];simp) (aG ?_))
 by_cases h3:l.length<3
 ·refine af (fS (aI ic (av (bX rfl) rfl T.aak Gd (ah (aa 1 rfl) ao ai)) ag) (by rw[hm];exact decide_eq_true (by lia)) ?_)
  refine af (bj (aH ((ou T).mono (by decide)) hr rfl T.aat.m T.aat.F.kp T.aat.b aD (ah (aa 3 rfl) (ah (aa 1 rfl) ao ai) ai) ⟨l,rfl,O,h3,rfl⟩) ?_)
  exact rfl
 ·refine af (bQ (aI ic (av (bX rfl) rfl T.aak Gd (ah (aa 1 rfl) ao ai)) ag) (by rw[hm];exact decide_eq_false (by lia)) (aG ?_))
  have e:(iq l).map plU=(SG.srt ST3.KT (pcs l)).map trU:=by
   unfold iq;rw[if_neg (by lia),if_neg (by lia),F5];rfl
  rw[e];refine af (bj (aH ((mX T).mono (by decide)) hr rfl T.aas.m T.aas.F.kp T.aas.b aD (ah (aa 3 rfl) (ah (aa 1 rfl) ao ai) ai) ⟨l,_,rfl,O,Bf O (by lia),rfl⟩) ?_)
  exact rfl
end
theorem ar1{fd:Ia}{ps:List Str}{us:List Fq}(h:us.length=1)(q:∀a0,LO fd ⟨[a0],[]⟩=pure (ps.zip [a0])):LO fd ⟨us,[]⟩=pure (ps.zip us):=by obtain⟨_,rfl⟩:=L2.len1 h;exact q _
theorem ar2{fd:Ia}{ps:List Str}{us:List Fq}(h:us.length=2)(q:∀a0 a1,LO fd ⟨[a0,a1],[]⟩=pure (ps.zip [a0,a1])):LO fd ⟨us,[]⟩=pure (ps.zip us):=by obtain⟨_,_,rfl⟩:=L2.len2 h;exact q _ _
theorem ar3{fd:Ia}{ps:List Str}{us:List Fq}(h:us.length=3)(q:∀a0 a1 a2,LO fd ⟨[a0,a1,a2],[]⟩=pure (ps.zip [a0,a1,a2])):LO fd ⟨us,[]⟩=pure (ps.zip us):=by obtain⟨_,_,_,rfl⟩:=L2.len3 h;exact q _ _ _
theorem bd_count{K:Fm}{D:FI}{x1 x2 x3 t:_}(q:K.lookup D=some ⟨.type "tuple",x1,.seq #[.int 1 t] x2,x3⟩)(kV dc pm:Fq)(an:Option FI)(cd ct:Fq):dY K (IS "count" "count" (b_ eS) (bI eS) (ak eS) (.ref D) kV dc pm an cd ct) ["land","k"] []∧∃t,dY K (IS "count" "count" (b_ eS) (bI eS) (ak eS) (.ref D) kV dc pm an cd ct) ["land","k"] [.int 1 t]:=
 ⟨λs us X hl=>by obtain⟨_,_,rfl⟩:=L2.len2 (show us.length=2 by simpa using hl);exact BindsTo.of_defaults rfl (X _ _ q) rfl rfl rfl,t,λs us X hl=>by obtain⟨_,rfl⟩:=L2.len1 (show us.length=1 by simpa using hl);exact BindsTo.of_defaults rfl (X _ _ q) rfl rfl rfl⟩
noncomputable abbrev spLaw(K:Fm):Sp:=spU K iM
theorem law_start(K:Fm)(H:Hp)(a:FI)(ns:List Int)(h1:ns.length<=63)(h2:∀m∈ns,Sz 1048576 m)(_:AI H)(h3:SqL K H a (ns.map V.int)):spLaw K [.ref a] H (λv _=>v=.bl true) λ_ _ _=>False:=uW h1 h2 h3
theorem law_ok{P:FK}{w:Gj}{K:Fm}{mg:Str→Option Fq}{fa:FI}(hfa:mg "law"=some (.ref fa))(T:Txt w K mg):
  ∃fd:Ia,(∀(s:Fp) (u:Fq),Qn s fd ⟨[u],[]⟩ [("script",u)])∧∀base:HF,K.In base→base.Ns HJ mg→bg P w K mg base CX0 10 fa fd ["script"] (spLaw K):=by
 cases hfa.symm.trans T.aaV.m;obtain⟨_,_,_,_,_,_,_,_,_,hd,_⟩:=T.aaV.F.ex;exact⟨T.aaV.d,λs v=>by rw[hd];exact .of_eq rfl,λbase _ _=>(Cj T).calm wI⟩
end My
namespace PySem.W.Fast
theorem tw10994389094738689704:0=0:=rfl
theorem tw18070475849710561718:0=0:=rfl
theorem tw4105544534684150802:0=0:=rfl
theorem tw2915466334229056460:0=0:=rfl
theorem tw11264100801525937563:0=0:=rfl
theorem tw7100547642562454495:0=0:=rfl
theorem tw5677304188323209217:0=0:=rfl
theorem tw11924478689804968695:0=0:=rfl
theorem tw3241530797267927052:0=0:=rfl
theorem tw1547010682342694257:0=0:=rfl
theorem tw14129619349724988819:0=0:=rfl
theorem tw5093629833530395010:0=0:=rfl
theorem tw7974357898263758978:0=0:=rfl
theorem tw4679103673355612179:0=0:=rfl
theorem tw3944494682179790910:0=0:=rfl
theorem tw15546341244137038671:0=0:=rfl
theorem tw17268660846317935570:0=0:=rfl
theorem tw17157219101516260151:0=0:=rfl
theorem tw1209438497950259613:0=0:=rfl
theorem tw6940761522800797983:0=0:=rfl
theorem tw3808333614738793115:0=0:=rfl
theorem tw13626568527853411789:0=0:=rfl
theorem tw7292455838925621230:0=0:=rfl
theorem tw4150713469844930517:0=0:=rfl
theorem tw9700424487690481929:0=0:=rfl
theorem tw5299804911886428553:0=0:=rfl
theorem tw2903795392835821277:0=0:=rfl
theorem tw13893820596322046715:0=0:=rfl
theorem tw13308630934620221966:0=0:=rfl
theorem tw14116981825529444985:0=0:=rfl
theorem tw17974747324175729387:0=0:=rfl
theorem tw3801150462356657138:0=0:=rfl
theorem tw11307868235469300591:0=0:=rfl
theorem tw12679008078439524311:0=0:=rfl
theorem tw9247737684320344509:0=0:=rfl
theorem tw4322025354116884300:0=0:=rfl
theorem tw6046117516218296871:0=0:=rfl
theorem tw4995568952588518299:0=0:=rfl
theorem tw18120524427416545792:0=0:=rfl
theorem tw13654261233282016092:0=0:=rfl
theorem tw3807287485263346677:0=0:=rfl
theorem tw6215697896784126761:0=0:=rfl
theorem tw417692497271555788:0=0:=rfl
theorem tw12323815651269828023:0=0:=rfl
theorem tw18000012582978668413:0=0:=rfl
theorem tw13474449808194152435:0=0:=rfl
theorem tw4421904280986218464:0=0:=rfl
theorem tw3161941768233271629:0=0:=rfl
theorem tw7747013750478518647:0=0:=rfl
theorem tw13870153513122848164:0=0:=rfl
theorem tw8704142685743933899:0=0:=rfl
theorem tw1921779684620575288:0=0:=rfl
theorem tw8236181953477513000:0=0:=rfl
theorem tw4889296717269020054:0=0:=rfl
theorem tw2634238386786626877:0=0:=rfl
theorem tw10044992806181169079:0=0:=rfl
theorem tw3684891927409739928:0=0:=rfl
theorem tw5320936307916191779:0=0:=rfl
theorem tw13139690045913742083:0=0:=rfl
theorem tw8802299463514314029:0=0:=rfl
theorem tw17439657103625728063:0=0:=rfl
theorem tw4821400492642714295:0=0:=rfl
theorem tw5901166178023830364:0=0:=rfl
theorem tw4371993453842940490:0=0:=rfl
theorem tw12422812361372044671:0=0:=rfl
theorem tw12567410824127259274:0=0:=rfl
theorem tw4576426769042973457:0=0:=rfl
theorem tw14480097047112019743:0=0:=rfl
theorem tw1672407587297921273:0=0:=rfl
theorem tw9268441129546066109:0=0:=rfl
theorem tw7148111308888089953:0=0:=rfl
theorem tw6217419997524784792:0=0:=rfl
theorem tw14981695907683574674:0=0:=rfl
theorem tw3389172353017844812:0=0:=rfl
theorem tw5004479263001184843:0=0:=rfl
theorem tw6271494160919465459:0=0:=rfl
theorem tw803279520781742722:0=0:=rfl
theorem tw5407193736014190231:0=0:=rfl
theorem tw1698420150957196764:0=0:=rfl
theorem tw9754516764204406872:0=0:=rfl
theorem tw7944697490551584252:0=0:=rfl
theorem tw10660544531645130506:0=0:=rfl
theorem tw10189006413263075442:0=0:=rfl
theorem tw17568539756878864262:0=0:=rfl
theorem tw180215547715372183:0=0:=rfl
theorem tw4206481838359495746:0=0:=rfl
theorem tw6293540122439608469:0=0:=rfl
theorem tw17435304740134572011:0=0:=rfl
theorem tw6823577119714133803:0=0:=rfl
theorem tw12541566159529068005:0=0:=rfl
theorem tw15741562026425211040:0=0:=rfl
theorem tw4582545504620966019:0=0:=rfl
theorem tw14969229020917623291:0=0:=rfl
theorem tw7825803999486856950:0=0:=rfl
theorem tw11065582691662247492:0=0:=rfl
theorem tw17502762042842620238:0=0:=rfl
theorem tw13514988463883096262:0=0:=rfl
theorem tw10877779562522474792:0=0:=rfl
theorem tw12352807990698218202:0=0:=rfl
theorem tw14688714412541673976:0=0:=rfl
theorem tw2047485484406063725:0=0:=rfl
theorem tw15606716984490879632:0=0:=rfl
theorem tw9451503433245574121:0=0:=rfl
theorem tw6545273459515562315:0=0:=rfl
theorem tw962488977280114104:0=0:=rfl
theorem tw8005155049851889972:0=0:=rfl
theorem tw6309387673171916983:0=0:=rfl
theorem tw14280711025430155440:0=0:=rfl
theorem tw13765459075841175034:0=0:=rfl
theorem tw16613066508024481618:0=0:=rfl
end PySem.W.Fast
open PySem PySem.W PyProof.Rows L2
set_option maxRecDepth 100000 in
set_option maxHeartbeats 0 in
set_option maxHeartbeats 0 in
theorem PySem.Challenge.cw_stakefield_k27_whole_pieces_fill_holds : PySem.Challenge.rw_stakefield_k27_whole_pieces_fill.Holds := by
 w_on;o_law;k_head;(case hw=>w_witness2)
 k_fill
 refine L2.walk_ofB (l:=PySem.Challenge.rw_stakefield_k27_whole_pieces_fill) (n:=63) (k:=10) (x:="script") (CX:=CX0) (sp:=My.spLaw) rfl (by decide) rfl ⟨rfl,by decide,by decide⟩ (λw h Y=>by first |exact PF Y |exact PySem.W.km_in_of Y) ?F My.law_start (λ_ _ _ _ z=>z)
 case F=>
  intro w mg fa h KX G hmg
  refine' My.law_ok hmg ⟨L2.dfn KX G (by walk_at"b1") ?_ ?_ ?_ ?_,L2.dfn KX G (by walk_at"b1") ?_ ?_ ?_ ?_,L2.dfn KX G (by walk_at"b2") ?_ ?_ ?_ ?_,L2.dfn KX G (by walk_at"b1") ?_ ?_ ?_ ?_,L2.dfn KX G (by walk_at"b1") ?_ ?_ ?_ ?_,L2.dfn KX G (by walk_at"b1") ?_ ?_ ?_ ?_,L2.dfn KX G (by walk_at"b2") ?_ ?_ ?_ ?_,L2.dfn KX G (by walk_at"b2") ?_ ?_ ?_ ?_,L2.dfn KX G (by walk_at"b1") ?_ ?_ ?_ ?_,L2.dfn KX G (by walk_at"b2") ?_ ?_ ?_ ?_,L2.dfn KX G (by walk_at"b2") ?_ ?_ ?_ ?_,L2.dfn KX G (λ_ _ _ _ _ _ _ h=>My.ar3 h λ_ _ _=>rfl) ?_ ?_ ?_ ?_,L2.dfn KX G (by walk_at"b1") ?_ ?_ ?_ ?_,L2.dfn KX G (by walk_at"b1") ?_ ?_ ?_ ?_,L2.dfn KX G (by walk_at"b1") ?_ ?_ ?_ ?_,L2.dfn KX G (by walk_at"b1") ?_ ?_ ?_ ?_,L2.dfn KX G (by walk_at"b1") ?_ ?_ ?_ ?_,L2.dfn KX G (by walk_at"b2") ?_ ?_ ?_ ?_,L2.dfn KX G (by walk_at"b2") ?_ ?_ ?_ ?_,L2.dfn KX G (by walk_at"b2") ?_ ?_ ?_ ?_,L2.dfn KX G (by walk_at"b1") ?_ ?_ ?_ ?_,L2.dfD KX G My.bd_count ?_ ?_ ?_ ?_ ?_,L2.dfn KX G (by walk_at"b2") ?_ ?_ ?_ ?_,L2.dfn KX G (by walk_at"b1") ?_ ?_ ?_ ?_,L2.dfn KX G (by walk_at"b1") ?_ ?_ ?_ ?_,L2.dfn KX G (by walk_at"b2") ?_ ?_ ?_ ?_,L2.dfn KX G (by walk_at"b1") ?_ ?_ ?_ ?_,L2.dfn KX G (by walk_at"b2") ?_ ?_ ?_ ?_,L2.dfn KX G (by walk_at"b1") ?_ ?_ ?_ ?_,L2.dfn KX G (by walk_at"b1") ?_ ?_ ?_ ?_,L2.dfn KX G (λ_ _ _ _ _ _ _ h=>My.ar3 h λ_ _ _=>rfl) ?_ ?_ ?_ ?_,L2.dfn KX G (by walk_at"b1") ?_ ?_ ?_ ?_,L2.dfn KX G (by walk_at"b2") ?_ ?_ ?_ ?_,L2.dfn KX G (by walk_at"b2") ?_ ?_ ?_ ?_,L2.dfn KX G (by walk_at"b1") ?_ ?_ ?_ ?_,L2.dfn KX G (by walk_at"b2") ?_ ?_ ?_ ?_,L2.dfn KX G (by walk_at"b1") ?_ ?_ ?_ ?_,L2.dfn KX G (by walk_at"b1") ?_ ?_ ?_ ?_,L2.dfn KX G (by walk_at"b2") ?_ ?_ ?_ ?_,L2.dfn KX G (by walk_at"b2") ?_ ?_ ?_ ?_,L2.dfn KX G (by walk_at"b1") ?_ ?_ ?_ ?_,GA KX G ?_,GA KX G ?_,GA KX G ?_,GA KX G ?_,GA KX G ?_,GA KX G ?_,GA KX G ?_,GA KX G ?_,GA KX G ?_,GA KX G ?_,GA KX G ?_,GA KX G ?_,GA KX G ?_,GA KX G ?_,GA KX G ?_,GA KX G ?_,L2.g_i KX G ?_⟩
  all_goals try first |k_is | (dsimp only[L2.exn];first |k_is |k_exc |kit_is)
