import PyProof.Rows.All
import Wide.All
import OpenK.AllK
import Wide.FinOn
import Lean
import PyProof.EqAt
import PyProof.EqKinds
import PyProof.NeKinds
import PyProof.TupleCall
import KE.KDictSum
import KE.KSortTup
import KE.KRevIter
import KE.KRevSl
import PySem.Challenge.RW_stakefield_k30_refused_counts_and_stakes
open PySem renaming wpAny_bind->EN,Shared->EU,Value->EW,wpAny_pure->EY,starEach->E4,Addr->E6,Program->E8,wpAny->Fy,Around->FC,World->FE,model->FF,wpAny_holding->Gk,FuncData->Gn,boot_len->GA,wpAny_Call_Name_kw->GH,codeAny_builtin->GM,wpAny_call_entry->GN,wpAny_updateSeq->GO,bootBuiltins->GQ,plainId_quiet->GS,Heap->GV,argBest->G3,wpAny_seqItems->G5,mainGlobals->Hh,mem_of_lookup->Hj,compareOp->Hl,sizeLine_eq->Hv,wpAny_pyIter_list->HE,wpAny_setState_of->HI,intKind_is->HJ,Stmt->HL,builtinLookup_eq_fast->HQ,backTo->HV,wpAny_callSpecial?_slot->Ia,wpAny_truthy_bool->Ii,wpAny_newObj_type->Ij,wpAny_isInstance->Iu,wpAny_tryCatch->IB,eval->IJ,wpAny_passesOwn->IK,foldedSetIterable->IL,wpAny_ite_split->IP,wpAny_attempt->IU,wpAny_letGo->IX,codeAny->Jc,wpAny_execs_nil->Jg,wpAny_specialOf->Jk,typeLookup_type->Jl,GenState->Jq,wpAny_mono->Jr,attributeBase->Jt,swapsWith->JE,pyNext->JF,updateSeq->JI,wpAny_askSetting->JM,cLine->JQ,wpAny_field->JR,assignEach->JT,codeAny_mono->JU,binaryOp->J2,behindInMarks->J3,wpAny_eqBool_tuple->J9,wpAny_tupleItemsOf->Kc,wpAny_nextOf_list_item->Kj,wpAny_rule->Kp,sliceBounds->Kr,ofAClassStatement->Ks,isSubtype_type->KC,ZipApart->KD,codeAny_call_builtin->KZ,NameKind->K2,typeIs_int->K8,Keyword->K_,wpAny_setEntries_of->La,IsPair->Lc,wpAny_richCompare_same_room->Ld,Scope->Lk,rawInt->Lv,bindArgs->Lw,intKind->LB,wpAny_getItem_list_slice->LJ,seqItems?->LL,wpAny_pyIter_slot->LM,swapsWithSole->LV,swappedStores->LW,keywordEach->LX,setSearchFrom->LY,richCompare->L9,Builtin->Ma,wpAny_execs_cons->Mf,checkBuiltinCall->Mh,wpAny_forIn_list->Mi,PassesOwn->Mz,letOwnedTupleGo->MA,wpAny_typeOf->MF,wpAny_eqIsQuiet_tuple->MG,wpAny_nextOf_list_end->MN,isSubtype_tuple_tuple->MR,wpAny_call->M4,call_meets->M5,isInstance->M6,codeAny_extend_loopS->M_,Result->Ng,wpAny_setField->Ni,isSubtype_stop->Nj,hashByValue->Nk,wpAny_of_eq->Nl,assignInOrder->Nq,wpAny_pyIter_range->Nr,evalPart_none->Nv,pickOrder->NB,call_function_tree->NC,wpAny_newList->NI,holding->NM,BindsTo->NR,typeLookup->NS,callerA->NT,searchCouldBeSeen->NV,wpAny_storeSet_of->NW,richCompare_gives->N1,pyIter->N6,Model->N_,bindName->Ol,backToKw->Om,spliced->On,IsRangeIter->Oo,cellsFrom->Oq,relabel->Ov,getAttrByItsOwn->Ox,unsupported->OA,putSet_of->OB,codeAny_of_tree->OC,wpAny_Expr_any->OO,wpAny_bindName->OP,recursionLimit->O1,boundAndCalled->O5,wpAny_loadPart->O6,entryFor_alias->O_,wpAny_fieldsOf->Pa,firstArgMember->Pb,callType_codes->Pc,wpAny_newTuple->Pd,sysModules->Pl,builtinsNs->Pm,wpAny_Name->Pn,closureFor->PN,setsByText->PR,Operator->PX,compEnvC->P3,Within->P8,Fin->Qe,CmpOp->Qm,bindL->Qn,bindC->Qo,typeOf->Qs,revObj->Qv,call->Qy
open List renaming getElem?_eq_getElem->EO,length_map->ES,mem_cons_of_mem->ET,mem_map->EZ,mem_cons->E1,mem_cons_self->E3,getElem?_map->E7,mem_singleton->E9,getElem?_eq_some_iff->Fb,mem_reverse->Fd,size_toArray->Ff,pairwise_cons->Fh,append_assoc->Fi,getD_eq_getElem?_getD->Fj,pairwise_iff_getElem->Fm,mem_append->Fn,getLast?_cons_cons->Fo,getElem?_append_left->Fp,getElem?_append_right->Fq,mem_of_getElem?->Fs,map_cons->Ft,mem_range->Fu,mem_append_right->Fw,length_append->Fx,mem_append_left->FH,getElem?_set_ne->FI,getElem?_eq_none->FK,take_append_drop->FL,length_cons->FN,map_map->FP,pairwise_map->FR,map_append->F4,length_reverse->F5,mem_map_of_mem->F6,getElem_mem->F7,range->F_,replicate->Gc,drop_eq_getElem_cons->Gd,getLast?_eq_getElem?->Gh,pairwise_append->Gp,mem_filter->Gr,mem_iff_getElem?->Gy,dropLast_concat_getLast->GC,length_pos_of_mem->GD,perm_ext_iff_of_nodup->GJ,getElem_of_mem->GK,append_nil->GL,zip_cons_cons->GT,getLast?_eq_getLast->GW,getElem?_reverse->G0,length_eq_zero_iff->G6,nodup_append->G8,foldl_cons->He,filterMap_cons->Hi,replicate_succ->Hk,getElem?_take_of_lt->Hn,pairwise_reverse->Hq,mem_of_mem_drop->Hx,mem_of_mem_take->Hy,mem_of_getLast?->Hz,map_reverse->HB,cons_append->HC,head?_eq_getElem?->HD,flatten_cons->HF,length_pos_iff->HH,reverse_append->HK,sum_cons->HM,nodup_cons->HP,all_eq_true->HW,take_length->HX,getElem?_zipWith_eq_some->HY,length_dropLast->HZ,getElem?_replicate->H_,zip->Ib,ext_getElem?->Im,take_of_length_le->Ip,length_replicate->Iw,getElem?_drop->Iy,tail_cons->IC,take_succ_eq_append_getElem->ID,reverse_reverse->IF,reverse_cons->IQ,drop_sublist->IR,getElem_append_left->IS,getElem?_range->IV,map_congr_left->I0,length_take->I_,length_drop->Ja,getElem?_dropLast->Jd,forIn_cons->Jh,getElem?_toArray->Jj,perm_append_comm->Jm,getLast?_reverse->Jo,getElem_drop->Jz,getElem?_inj->JA,take_succ->JG,getElem_append_right->JJ,mem_take_iff_getElem->JK,nodup_range->JL,not_mem_nil->JP,mem_filterMap->J0,of_mem_zip->J4,length_set->J5,length_nil->J6,getElem?_cons_succ->J8,head?_reverse->Kg,getElem?_set_self->Kh,take_sublist->Kq,getElem_take->Kv,getLast?_map->Kw,forIn_nil->KG,map_nil->KH,Perm->KJ,lookup_cons->KO,all_cons->K5,take_succ_cons->Le,nodup_iff_pairwise_ne->Ln,perm_append_singleton->Lo,exists_cons_of_ne_nil->Lr,head?_map->LG,getElem?_set->LK,length_erase_of_mem->LO,reverse_perm->LP,foldl_append->LR,map_dropLast->LS,map_take->LZ,filter_cons_of_pos->Mc,filter_cons_of_neg->Md,getElem_inj->Me,perm_middle->Mj,mem_flatten->Mo,pairwise_lt_range->Ms,length_eq_one_iff->Mw,length_singleton->MC,zipWith->MQ,set_append_right->MU,range_succ->MW,pairwise_flatten->MX,length_filter_le->M0,sum_append->M3,mem_erase_of_ne->Na,getElem_reverse->Nb,mem_iff_getElem->Nc,dropLast_subset->Nd,flatten_append->Nn,map_drop->NA,filter_append->NL,length_range->NX,zip_nil_left->N2,mem_of_head?->N4,filter_cons->Oc,drop_length->Og,length->Os,head?_cons->OM,take_zero->O8,nodup_nil->Pe,drop_drop->Pf,foldl->PM,any_cons->PY,all_map->Qd,Sublist->Qj,map_id->Qr,sum->Qx
open PySem.W renaming Frag->ER,mg_none_of->FT,kitOne->FU,kia_one->Gx,keepIn->G4,fnOf->HA,cellsFrom_some->Ki,findIn->Kz,codeIn->KA,mroIn->K0,methodObj->LH,kitx_list->LI,instObj->Mx,lookIn->Nf,kitx_tuple->Nt,callWith_K->Nu,excIn->Ny,specialIn->NP,kitx_dict->NQ,plainGet->Oa,OpenLaw->Ou,kIn_of->O4,typeIn->Pj,WalkO->P1,isFn->P_
open PySem.Heap renaming get?_push_of_some->EV,lt_size->E_,get?_push_size->Fe,get?_update_other->FD,get?_update_self->FW,size_push->Hu,SameBut->JS,get?_none_of_le->KU
open Nat renaming le_refl->E2,lt_of_lt_of_le->Fz,lt_or_eq_of_le->FB,ne_of_lt->FJ,lt_irrefl->FM,mod_eq_of_lt->F8,le_of_lt->Gw,zero_le->Gz,lt_or_ge->GR,le_trans->GY,le_of_lt_succ->G7,lt_succ_self->Hg,lt_succ_of_lt->HG,pow_succ->Ie,mod_lt->IM,add_zero->Ji,lt_trichotomy->Jv,lt_of_succ_lt->Jy,pow_le_pow_right->JC,eq_zero_or_pos->J_,le_of_not_lt->KN,ne_of_gt->Lu,lt_of_le_of_lt->Lx,mod_eq_sub_mod->Ly,sub_zero->Lz,zero_add->LA,div_div_eq_div_mul->Mr,lt_trans->MD,mod_add_mod->ME,mod_self->MV,mul_le_mul_right->M9,mod_mod_of_dvd->Nz,add_sub_cancel->NK,le_succ_of_le->N3,add_mod_right->N5,sub_self->N8,le_max_right->Ob,succ_ne_self->Oe,not_lt_of_gt->Of,succ_le_succ->Oj,le_max_left->Ot,not_lt_zero->Oy,strongRecOn->Oz,one_pos->OF,sub_lt->PU,add_assoc->P5,add_comm->Qa,mul_comm->Qb,le_of_eq->Qc,zero_mod->Qh,add_mod->Qq,sub_le->Qz
open Array renaming length_toList->E5,toList_append->FS,getElem?_eq_getElem->F3,getElem?_toList->Gi,getD_eq_getD_getElem?->GZ,toList_push->Ik,getElem?_eq_some_iff->Iq,toList_reverse->IG,forIn_toList->Jf,getD->Jw,getElem?_replicate->JX,mem_toList_iff->KY,toList_setIfInBounds->Lp,toList_inj->Ml,toList_map->Mm,append_assoc->Np,toList_zip->Oh,size_map->O9,toList->P9
open Int renaming mul_nonneg->Fc,mul_pos->FO,dvd_trans->FQ,dvd_mul_left->F9,mul_eq_zero->Ga,emod_lt_of_pos->Gb,eq_of_mul_eq_mul_left->Gg,emod_add_mul_ediv->Gj,lt_or_le->Gm,emod_nonneg->Gs,pos_of_mul_pos_right->GG,lt_or_eq_of_le->GU,dvd_mul_right->G9,ediv_eq_zero_of_lt->Hd,mul_ediv_cancel_left->Hr,mul_nonpos_of_nonneg_of_nonpos->Ht,mul_zero->HS,nonneg_of_mul_nonneg_right->HU,zero_mul->Ih,toNat_natCast->Il,mul_comm->IA,mul_ediv_cancel'->II,gcd_dvd_right->IT,dvd_add->IY,gcd->IZ,gcd_dvd_left->Jb,add_mul_ediv_left->Jn,add_zero->Jp,natAbs_of_nonneg->JD,dvd_refl->JY,le_total->JZ,dvd_coe_gcd->Ke,dvd_of_emod_eq_zero->Kf,le_ediv_iff_mul_le->Kn,one_mul->Kx,natAbs_mul->KB,natAbs_dvd_natAbs->KL,le_of_lt->KM,mul_le_mul_of_nonneg_left->KS,mul_one->K9,dvd_neg->Lg,dvd_sub->Lh,toNat_of_nonneg->Li,gcd_eq_zero_iff->Lj,add_mul_emod_self_left->Lq,emod_eq_of_lt->LQ,le_refl->Mb,dvd_antisymm->Mn,add_mul_ediv_right->Mu,sub_zero->MY,le_trans->MZ,mul_assoc->NJ,zero_dvd->N9,ediv_le_self->Oi,ediv_nonneg->OJ,mul_add->OK,mul_neg->ON,add_nonneg->Pk,ofNat_dvd->P7,dvd_zero->Qf,add_comm->Qg,zero_add->Qi
open PyProof.Rows renaming wpS_bind->Fg,boot_isinstance->Fl,wpS_pure->Fv,Keyed->FY,arrOf->FZ,SortSt->G_,wpS_forRange->Ig,pendingOf->Io,wpS_mono->IE,SortKind->JN,envOfC->JV,wpS_modify->Ku,failedOf->K6,boot_list->Lb,assignInOrder_cons->Ls,wpS_get->LF,AllBare->LU,subscriptTail_builtinR->Mp,subscriptTail->Nx,gallopOf->NF,seqObj->NG,listUpdate_at->NH,assignInOrder_nil->NO,tuples'->OD,seqEpoch_at->OG,entry_list_sort->OH,slot_list_sort->Pg,args_list_sort->Ph,sortedHeap_old->Pi,boot_range->Po,Subscript_->PL,mirror->PV,IntsAre->PZ,bubble->Qw
open Bool renaming false_eq_true->Fk,false_ne_true->FA,and_eq_true->GE,not_true->Hf,eq_iff_iff->HN,true_and->Jx,not_false->JH,beq_eq_decide_eq->KI,and_eq_true_iff->M8,and_false->Nh,not_eq_true'->NU,or_eq_true->Ow,and_true->P4,or_false->P6
open PySem.Value renaming ref->FG,none->FX,int->Gv,bool->GF,type->GI,str->GX,isInt_shape->Ko,float->Ql
open Option.some renaming inj->FV
open Classical renaming byContradiction->F2,choose_spec->MM,choose->Od
open Prod renaming ext->Gf,fst->JO,snd->K7
open PySem.Obj renaming mapSeq->Gq,data_mapFields->Iz,putSet->Kt,isFreed_of_fields->MK,cls_mapFields->N0
open PySem.Around renaming under_plainId->Gu
open PySem.F renaming plain_extend_loop->GP,plain_min_loop->Ha,plain_max_loop->Hb,slot_zip_next->Ho,called_set->Hw,plainAttrs_list->J7,args_zip_next_1->Ka,entry_zip_next->Kk,entry_min_loop->Kl,entry_max_loop->Km,excBase_ValueError->Lm,entry_extend_loop->LD,args_list_init_2->LN,typeCall_list_1->L7,entry_list_init->L8,plain_set_new->MH,slot_set_iter->MJ,slot_zip_iter->MP,slot_tuple_lt->MS,slot_tuple_gt->MT,called_list->Nm
open Option renaming isSome_iff_exists->Hm,getD_some->Ir,getD_none->Mg,map->NZ,none->Qp
open List.Pairwise renaming map->Hs,nil->Ju,imp_of_mem->JW,sublist->Qk
open List.Perm renaming append_left->HR,refl->LC,append_right->Mt,trans->OE
open PySem.Heap.SameBut renaming update->IW,refl->NY
open PySem.Calls renaming spliced_cons->Je,spliced_nil->Js,Name_function_global->Ll,callWith_builtin->Mq,evalArgs_plain->M7
open List.Sublist renaming refl->JB
open ToString renaming toString->Kb
open List.cons renaming inj->Kd,injEq->ML
open MonadExcept renaming tryCatch->L_
open PySem.Heap.IsSliceOf renaming new->Nw
open Prod.mk renaming injEq->ND
open List.Nodup renaming length_le_of_subset->N7
open PySem.EqNone renaming eq_none_none->OQ,eq_none_bool->OR,eq_bool_none->OS,ne_none_none->OV,ne_none_bool->OW,ne_bool_none->OX,eq_none_int->Pp,eq_none_str->Pq,eq_int_none->Pr,eq_str_none->Pv,ne_none_int->Px,ne_none_str->Py,ne_int_none->Pz,ne_str_none->PH
open PySem.EqMixed renaming eq_bool_str->OT,eq_str_bool->OU,ne_bool_str->OY,ne_str_bool->OZ,eq_int_str->Pu,eq_str_int->Pw,ne_int_str->PF,ne_str_int->PJ
open PySem.Value.type renaming inj->O7
open PySem.W.Dflts renaming none->Qt,noKw->Qu
set_option hygiene false
set_option hygiene true
set_option hygiene false
local macro_rules|`(tactic|walk_at"sC")=>`(tactic|exact⟨rfl,rfl,rfl,by decide+kernel,rfl,by decide+kernel,by decide+kernel⟩)
local macro_rules|`(tactic|walk_at"b1")=>`(tactic|exact λ_ _ _ _ _ _ _ h=>My.ar1 h λ_=>rfl)
local macro_rules|`(tactic|walk_at"b2")=>`(tactic|exact λ_ _ _ _ _ _ _ h=>My.ar2 h λ_ _=>rfl)
set_option hygiene true
set_option maxHeartbeats 8000000
set_option Elab.async false
set_option linter.all false
set_option maxRecDepth 100000
namespace L2
open PySem PySem.Spec PyProof.Rows
abbrev Key:=Sum Int Str
def Bj:Key->EW->Bool
 | .inl k,v=>Value.isInt k v
 | .inr x,v=>Value.isStrOf x v
def Em(w:FE):Key->Int
 | .inl k=>hashInt k
 | .inr x=>hashStr w x
theorem bO:∀{k:Key}{v:EW},Bj k v=true->(∃i t,k=Sum.inl i/\v=Gv i t)\/(∃x t,k=Sum.inr x/\v=GX x t)
 | .inl i,v,h=>by
  obtain⟨t,e⟩:=Ko (k:=i) (v:=v) h;exact .inl ⟨i,t,rfl,e⟩
 | .inr x,v,h=>by
  obtain⟨t,e⟩:=Value.isStrOf_shape (x:=x) (v:=v) h;exact .inr ⟨x,t,rfl,e⟩
theorem CT(a b:Int):decide ((Sum.inl a:Key)=Sum.inl b)=(a==b):=by
 by_cases e:a=b
 ·subst e;simp
 ·have h:¬ (Sum.inl a:Key)=Sum.inl b:=λq=>e (Sum.inl.inj q)
  rw[decide_eq_false h];exact (beq_eq_false_iff_ne.mpr e).symm
theorem B7(a b:Str):decide ((Sum.inr a:Key)=Sum.inr b)=decide (a=b):=by
 by_cases e:a=b
 ·subst e;simp
 ·have h:¬ (Sum.inr a:Key)=Sum.inr b:=λq=>e (Sum.inr.inj q)
  rw[decide_eq_false h,decide_eq_false e]
theorem CP(a:Int)(b:Str):decide ((Sum.inl a:Key)=Sum.inr b)=false:=decide_eq_false (λq=>nomatch q)
theorem BX(a:Str)(b:Int):decide ((Sum.inr a:Key)=Sum.inl b)=false:=decide_eq_false (λq=>nomatch q)
def uG(prog:E8)(w:FE):PySem.KeyKind prog w Key where
 is:=Bj
 hash:=Em w
 inj:=λv a b ha hb=>by
  rcases bO ha with ⟨i,t,rfl,rfl⟩ |⟨x,t,rfl,rfl⟩
  ·rcases bO hb with ⟨j,u,rfl,e⟩ |⟨y,u,rfl,e⟩
   ·injection e with e1 _;rw[e1]
   ·exact nomatch e
  ·rcases bO hb with ⟨j,u,rfl,e⟩ |⟨y,u,rfl,e⟩
   ·exact nomatch e
   ·injection e with e1 _;rw[e1]
 byValue:=λk v h=>by
  rcases bO h with ⟨i,t,rfl,rfl⟩ |⟨x,t,rfl,rfl⟩ <;>rfl
 pyHash:=λhv h=>by
  rcases bO hv with ⟨i,t,rfl,rfl⟩ |⟨x,t,rfl,rfl⟩
  ·exact wpAny_pyHash_int h
  ·exact wpAny_pyHash_str h
 eqBool:=λhu hv h=>by
  rcases bO hu with ⟨i,t,rfl,rfl⟩ |⟨x,t,rfl,rfl⟩
  ·rcases bO hv with ⟨j,u,rfl,rfl⟩ |⟨y,u,rfl,rfl⟩
   ·rw[CT]at h;exact wpAny_eqBool_int h
   ·rw[CP]at h;exact SeqAt.EqAt.int_str i t y u _ _ _ _ h
  ·rcases bO hv with ⟨j,u,rfl,rfl⟩ |⟨y,u,rfl,rfl⟩
   ·rw[BX]at h;exact SeqAt.EqAt.str_int x t j u _ _ _ _ h
   ·rw[B7]at h;exact wpAny_eqBool_str h
 «strs»:=λk x t v h=>by
  rcases bO h with ⟨i,u,rfl,e⟩ |⟨y,u,rfl,e⟩
  ·exact nomatch e
  ·injection e with e1 _
   subst e1;cases v <;>rfl
inductive V where
 |non |bl (b:Bool) |int (i:Int) |str (x:Str) |byt (b:Array UInt8) |flt (b:UInt64) |ref (a:E6) |ty (n:String)
 deriving DecidableEq
def bi:V->EW->Prop
 | .non,u=>u=FX
 | .bl b,u=>u=GF b
 | .int i,u=>∃t,u=Gv i t
 | .str x,u=>∃t,u=GX x t
 | .byt b,u=>∃t,u=Value.bytes b t
 | .flt b,u=>∃t,u=Ql b t
 | .ref a,u=>u=FG a
 | .ty n,u=>u=GI n
abbrev aM:List V->List EW->Prop:=Paired bi
theorem aM.length{xs:List V}{us:List EW}(r:aM xs us):xs.length=us.length:=Paired.length r
theorem aM.get:∀{xs:List V}{us:List EW}{i:Nat}{x:V},aM xs us->xs[i]?=some x->∃u,us[i]?=some u/\bi x u
 |_,_,_,_,.nil,e=>by simp at e
 |_,_,0,_,.cons r _,e=>by simp at e;subst e;exact⟨_,rfl,r⟩
 |_,_,i+1,x,.cons _ t,e=>by
  obtain⟨u,h1,h2⟩:=aM.get (i:=i) (x:=x) t (by simpa using e)
  exact⟨u,by simpa using h1,h2⟩
theorem aM.append:∀{xs ys:List V}{us ws:List EW},aM xs us->aM ys ws->aM (xs++ys) (us++ws)
 |_,_,_,_,.nil,s=>s
 |_,_,_,_,.cons r t,s=>.cons r (aM.append t s)
theorem aM.take:∀{xs:List V}{us:List EW} (n:Nat),aM xs us->aM (xs.take n) (us.take n)
 |_,_,0,_=>.nil
 |_,_,_+1,.nil=>.nil
 |_,_,n+1,.cons r t=>.cons r (aM.take n t)
theorem aM.drop:∀{xs:List V}{us:List EW} (n:Nat),aM xs us->aM (xs.drop n) (us.drop n)
 |_,_,0,r=>r
 |_,_,_+1,.nil=>.nil
 |_,_,n+1,.cons _ t=>aM.drop n t
def B1:Option V->Option EW->Prop
 |some v,some u=>bi v u
 |none,none=>True
 |_,_=>False
def KV{κ:Type}:List (κ×V)->List (κ×EW)->Prop:=Paired λ(p:κ×V) (q:κ×EW)=>p.1=q.1/\bi p.2 q.2
def kV:Key->V
 | .inl i=>.int i
 | .inr x=>.str x
inductive HO where
 /-- a list -/
 |lst (xs:List V)
 /-- a tuple (never changes) -/
 |tup (xs:List V)
 /-- a dict whose keys are ints and texts;one whose keys are tuples of ints and texts (the empty one is both) -/
 |dK (QW:List (Key×V)) |dT (QW:List (List Key×V))
 /-- a set of ints:QC members,QC size -/
 |set (S:Int->Bool) (n:Nat)
 /-- an instance of the class at C,QC dict at dx,QC attributes -/
 |ins (C dx:E6) (fs:List (Str×V))
 /-- the dict of the instance at x -/
 |own (x:E6)
 /-- the dict of an exception -/
 |xd (fs:List (Str×V))
 /-- a bound method,f of x -/
 |met (f x:E6)
 /-- a range object lo,lo+1,.. below hi -/
 |rng (lo hi:Int)
 /-- a thing that is known to the object (the script;a dict while a loop walks it):read,never written while it is so -/
 |frz (o:Obj) (u:HO)
 /-- a code object's table -/
 |tbl (ps:Array EW)
 /-- any other thing,by what is true of QC one object (a def of one's own:SetO a S n:=HO.ext λh=>..) -/
 |ext (φ:GV->Prop)
abbrev Hp:=E6->Option HO
def upd(H:Hp)(a:E6)(o:HO):Hp:=λb=>if b=a then some o else H b
theorem aV{H:Hp}{a:E6}{o:HO}:upd H a o a=some o:=by unfold upd;rw[if_pos rfl]
theorem aY{H:Hp}{a b:E6}{o:HO}(h:b≠a):upd H a o b=H b:=by unfold upd;rw[if_neg h]
theorem bK{H:Hp}{a b:E6}{o:HO}(h:H a=some o)(h':H b=none):a≠b:=by
 intro e;subst e;rw[h]at h';cases h'
section
variable (P:E8) (w:FE)
def cu(H:Hp)(h:GV)(a:E6):HO->Prop
 | .lst xs=>xs.length≤sizeLine∧∃(QC:List EW) (n:Nat),aM xs QC∧h.get? a=some {cls:=.type "list",data:=.seq QC.toArray n }
 | .tup xs=>xs.length<=sizeLine/\∃QC:List EW,aM xs QC/\IsTup h a QC.toArray
 | .dK QW=>QW.length<=sizeLine/\(a==Pl)=false/\∃vs,KV QW vs/\h.DictOf (uG P w) a vs
 | .dT QW=>QW.length<=sizeLine/\(a==Pl)=false/\∃xs:List (List Key×E6×EW),
   Paired (λ(p:List Key×V) (q:List Key×E6×EW)=>p.1=q.1/\H q.2.1=some (.tup (p.1.map kV))/\bi p.2 q.2.2) QW xs/\
   ∃o es ep,h.get? a=some o/\o.ExactDict/\o.data=.dict es ep/\es.toList=xs.map (entryOfKey (tupleKind (uG P w)))/\(xs.map (·.1)).Nodup
 | .set S n=>h.SetOf (LB P w) a S n
 | .ins C dx fs=>H dx=some (.own a)/\fs.length<=1000/\dx≠a/\h.get? a=some (Mx C dx)/\
   ∃mA,h.Ns1 dx mA/\(∀f,B1 (fs.lookup f) (mA f))/\P8 mA (fs.map (·.1))
 | .own _=>∃o,h.get? a=some o
 | .xd fs=>∃mA,h.Ns1 a mA/\∀f,B1 (fs.lookup f) (mA f)
 | .rng lo hi=>∃t u v,h.get? a=some {cls:=.type "range",data:=.fields #[.int lo t,.int hi u,.int 1 v] }
 | .frz o u=>h.get? a=some o/\cu H h a u
 | .tbl ps=>h.get? a=some {cls:=.none,data:=.fields ps }
 | .met f x=>h.get? a=some (LH (.ref f) (.ref x))
 | .ext φ=>φ h/\(∃o,h.get? a=some o)/\∀h1 h2:GV,φ h1->(∀o,h1.get? a=some o->h2.get? a=some o)->φ h2
def HOk(H:Hp)(h:GV):Prop:=∀a o,H a=some o->cu P w H h a o
end
variable {H:Hp}{H':Hp}{h':GV}
section
variable {P:E8}{w:FE}{h:GV}{a:E6}{o:HO}
theorem cu.lt(x:cu P w H h a o):a<h.objs.size:=by
 cases o with
 |lst xs=>obtain⟨_,_,_,_,e⟩:=x;exact E_ e
 |tup xs=>obtain⟨_,_,_,p⟩:=x;exact p.lt
 |dK QW=>obtain⟨_,_,_,_,o,_,_,e,_⟩:=x;exact E_ e
 |dT QW=>obtain⟨_,_,_,_,o,_,_,e,_⟩:=x;exact E_ e
 |set S n=>obtain⟨o,_,_,_,e,_⟩:=x;exact E_ e
 |ins C dx fs=>obtain⟨_,_,_,e,_⟩:=x;exact E_ e
 |own y=>obtain⟨_,e⟩:=x;exact E_ e
 |xd fs=>obtain⟨_,⟨_,_,_,e,_⟩,_⟩:=x;exact E_ e
 |rng lo hi=>obtain⟨_,_,_,e⟩:=x;exact E_ e
 |frz ob u=>obtain⟨e,_⟩:=x;exact E_ e
 |tbl ps=>exact E_ (show h.get? a=some _ from x)
 |met f y=>exact E_ (show h.get? a=some _ from x)
 |ext φ=>obtain⟨_,⟨_,e⟩,_⟩:=x;exact E_ e
theorem Paired.mapP{α β:Type}{F G:α->β->Prop}:∀{l₁:List α}{l₂:List β},Paired F l₁ l₂->(∀a b,F a b->G a b)->Paired G l₁ l₂
 |_,_,.nil,_=>.nil
 |_,_,.cons r t,f=>.cons (f _ _ r) (Paired.mapP t f)
theorem cu.stay(x:cu P w H h a o)(k:∀b u,(b=a\/H b=some (.own a))->h.get? b=some u->h'.get? b=some u)
  (ho:∀b,H b=some (.own a)->H' b=some (.own a)) (ht:∀b xs,H b=some (.tup xs)->H' b=some (.tup xs)):cu P w H' h' a o:=by
 induction o with
 |lst xs=>obtain⟨z,QC,n,r,e⟩:=x;exact⟨z,QC,n,r,k _ _ (.inl rfl) e⟩
 |tup xs=>obtain⟨z,QC,r,ob,e,c⟩:=x;exact⟨z,QC,r,ob,k _ _ (.inl rfl) e,c⟩
 |dK QW=>obtain⟨z,y,vs,r,ob,es,ep,e,c⟩:=x;exact⟨z,y,vs,r,ob,es,ep,k _ _ (.inl rfl) e,c⟩
 |dT QW=>
  obtain⟨z,y,xs,r,ob,es,ep,e,c⟩:=x;exact⟨z,y,xs,Paired.mapP r λp q z=>⟨z.1,ht _ _ z.2.1,z.2.2⟩,ob,es,ep,k _ _ (.inl rfl) e,c⟩
 |set S n=>obtain⟨ob,es,ep,t,e,c⟩:=x;exact⟨ob,es,ep,t,k _ _ (.inl rfl) e,c⟩
 |ins C dx fs=>
  obtain⟨d,z,ne,e,mA,⟨od,es,ep,e2,c⟩,r⟩:=x;exact⟨ho _ d,z,ne,k _ _ (.inl rfl) e,mA,⟨od,es,ep,k _ _ (.inr d) e2,c⟩,r⟩
 |own y=>obtain⟨ob,e⟩:=x;exact⟨ob,k _ _ (.inl rfl) e⟩
 |xd fs=>obtain⟨mA,⟨od,es,ep,e,c⟩,r⟩:=x;exact⟨mA,⟨od,es,ep,k _ _ (.inl rfl) e,c⟩,r⟩
 |rng lo hi=>obtain⟨t,u,v,e⟩:=x;exact⟨t,u,v,k _ _ (.inl rfl) e⟩
 |frz ob u ih=>obtain⟨e,q⟩:=x;exact⟨k _ _ (.inl rfl) e,ih q⟩
 |tbl ps=>
  have e:h.get? a=some {cls:=.none,data:=.fields ps }:=x;show h'.get? a=some {cls:=.none,data:=.fields ps };exact k a _ (.inl rfl) e
 |met f y=>
  have e:h.get? a=some (LH (.ref f) (.ref y)):=x;show h'.get? a=some (LH (.ref f) (.ref y));exact k a _ (.inl rfl) e
 |ext φ=>obtain⟨p,⟨o,e⟩,st⟩:=x;exact⟨st _ _ p λo q=>k _ _ (.inl rfl) q,⟨o,k _ _ (.inl rfl) e⟩,st⟩
theorem HOk.lt(x:HOk P w H h)(e:H a=some o):a<h.objs.size:=(x a o e).lt
theorem HOk.fresh(x:HOk P w H h)(e:h.objs.size<=a):H a=none:=by
 cases q:H a with
 |none=>rfl
 |some u=>exact absurd (Fz (x.lt q) e) (FM _)
theorem HOk.kept(x:HOk P w H h)(k:∀b u,h.get? b=some u->h'.get? b=some u):HOk P w H h':=λa o e=>
 (x a o e).stay (λb u _ q=>k b u q) (λ_ q=>q) λ_ _ q=>q
theorem HOk.laid(x:HOk P w H h)(k:∀b u,h.get? b=some u->h'.get? b=some u)(hp:h.objs.size<=a)(new:cu P w (upd H a o) h' a o):HOk P w (upd H a o) h':=λb u e=>by
 have hn:=x.fresh hp;by_cases hb:b=a
 ·subst hb;rw[aV]at e;cases e;exact new
 ·rw[aY hb]at e;exact (x b u e).stay (λc v _ q=>k c v q) (λc q=>by rw[aY (bK q hn)];exact q) λc xs q=>by rw[aY (bK q hn)];exact q
end
def Rd(H:Hp)(a:E6)(u:HO):Prop:=H a=some u\/∃o,H a=some (.frz o u)
theorem Rd.ok{P:E8}{w:FE}{H:Hp}{h:GV}{a:E6}{u:HO}(r:Rd H a u)(x:HOk P w H h):cu P w H h a u:=by
 rcases r with r |⟨o,r⟩
 ·exact x a u r
 ·obtain⟨_,q⟩:=x a _ r;exact q
def Mut:Option HO->Prop
 |some (.lst _)=>True
 |some (.dK _)=>True
 |some (.dT _)=>True
 |some (.set _ _)=>True
 |some (.ins _ _ _)=>True
 |some (.ext _)=>True
 |_=>False
section
variable {P:E8}{w:FE}{h:GV}{x e:E6}{o':HO}
theorem HOk.write(ok:HOk P w H h)(mu:Mut (H x))(he:e=x\/H e=some (.own x))(k:∀b u,b≠e->h.get? b=some u->h'.get? b=some u)(heo:∃u,h'.get? e=some u)
  (new:cu P w (upd H x o') h' x o'):HOk P w (upd H x o') h':=λb u q=>by
 have nown:∀c y,H c=some (.own y)->c≠x:=λc y r z=>by subst z;rw[r]at mu;exact mu
 have ntup:∀c xs,H c=some (.tup xs)->c≠x:=λc xs r z=>by subst z;rw[r]at mu;exact mu
 by_cases hb:b=x
 ·subst hb;rw[aV]at q;cases q;exact new
 ·rw[aY hb]at q;by_cases hbe:b=e
  ·have q':H b=some (.own x):=by
    rcases he with z |z
    ·exact absurd (hbe.trans z) hb
    ·rw[hbe];exact z
   rw[q]at q';cases q';obtain⟨v,hv⟩:=heo;exact⟨v,by rw[hbe];exact hv⟩
  ·refine (ok b u q).stay (λc v hc r=>k c v ?_ r) (λc r=>by rw[aY (nown c b r)];exact r) λc xs r=>by rw[aY (ntup c xs r)];exact r
   rcases hc with rfl |hc
   ·exact hbe
   ·rintro rfl;rcases he with z |z
    ·exact nown c b hc z
    ·rw[hc]at z;cases z;exact hb rfl
end
structure Un(fs ex:List E6)(H H':Hp)(h h':GV):Prop where
 keep:∀b o,h.get? b=some o->H b=none->b ∉ fs->b ∉ ex->h'.get? b=some o
 slot:∀b o,h.get? b=some o->H b=none->b∈fs->b ∉ ex->∃sl,h'.get? b=some {o with slots:=sl }
 free:∀b o,h.get? b=some o->H b=none->b ∉ ex->H' b=none
 there:∀b o,h.get? b=some o->b ∉ ex->∃o',h'.get? b=some o'
 tups:∀b xs,H b=some (.tup xs)->H' b=some (.tup xs)
 frzs:∀b o u,H b=some (.frz o u)->H' b=some (.frz o u)
 tbls:∀b ps,H b=some (.tbl ps)->∃more,H' b=some (.tbl (ps++more))
section
variable {fs fs' ex ex':List E6}{H1 H2:Hp}{h h1 h2:GV}{a x e:E6}{o:HO}
theorem Un.any(u:Un fs ex H H1 h h1){b:E6}{ob:Obj}(q:h.get? b=some ob)(n:H b=none)(hx:b ∉ ex):∃sl,h1.get? b=some {ob with slots:=sl }:=by
 by_cases hb:b∈fs
 ·exact u.slot b ob q n hb hx
 ·exact⟨ob.slots,u.keep b ob q n hb hx⟩
theorem Un.kept(k:∀b u,h.get? b=some u->h'.get? b=some u):Un fs ex H H h h':=
 ⟨λb ob q _ _ _=>k b ob q,λb ob q _ _ _=>⟨ob.slots,k b ob q⟩,λ_ _ _ n _=>n,λb ob q _=>⟨ob,k b ob q⟩,λ_ _ q=>q,λ_ _ _ q=>q,λ_ ps q=>⟨#[],by rw[q];simp⟩⟩
theorem Un.refl:Un fs ex H H h h:=Un.kept λ_ _ q=>q
theorem Un.laid(k:∀b u,h.get? b=some u->h'.get? b=some u)(hp:h.objs.size<=a)(hn:H a=none):Un fs ex H (upd H a o) h h' where
 keep:=λb u q _ _ _=>k b u q
 slot:=λb u q _ _ _=>⟨u.slots,k b u q⟩
 free:=λb u q n _=>by rw[aY (FJ (Fz (E_ q) hp))];exact n
 there:=λb u q _=>⟨u,k b u q⟩
 tups:=λb xs q=>by rw[aY (bK q hn)];exact q
 frzs:=λb u xs q=>by rw[aY (bK q hn)];exact q
 tbls:=λb ps q=>⟨#[],by rw[aY (bK q hn),q];simp⟩
theorem Un.write(mu:Mut (H x))(he:e=x\/H e=some (.own x))(k:∀b u,b≠e->h.get? b=some u->h'.get? b=some u)(heo:∃u,h'.get? e=some u):Un fs ex H (upd H x o) h h':=by
 have hx:∀b,H b=none->b≠x:=λb n z=>by subst z;rw[n]at mu;exact mu
 have hb:∀b,H b=none->b≠e:=λb n z=>by
  subst z;rcases he with r |r
  ·exact hx b n r
  ·rw[n]at r;cases r
 have hm:∀b u,H b=some u->¬ Mut (some u)->b≠x:=λb u q nm z=>by subst z;rw[q]at mu;exact nm mu
 refine⟨λb u q n _ _=>k b u (hb b n) q,λb u q n _ _=>⟨u.slots,k b u (hb b n) q⟩,λb u q n _=>by rw[aY (hx b n)];exact n,λb u q _=>?_,
  λb xs q=>by rw[aY (hm b _ q λz=>z)];exact q,λb u xs q=>by rw[aY (hm b _ q λz=>z)];exact q,λb ps q=>⟨#[],by rw[aY (hm b _ q λz=>z),q];simp⟩⟩
 by_cases hbe:b=e
 ·subst hbe;exact heo
 ·exact⟨u,k b u hbe q⟩
end
def trk(h:GV)(H:Hp):List E6:=(F_ h.objs.size).filter λa=>(H a).isSome
def mS(h:GV)(H:Hp):GV:=PySem.W.hideAll h (trk h H)
theorem vR(h:GV)(H:Hp):(mS h H).objs.size=h.objs.size:=PySem.W.hideAll_size _ _
theorem xm{h:GV}{H:Hp}{b:E6}{o:Obj}(e:h.get? b=some o)(n:H b=none):(mS h H).get? b=some o:=
 PySem.W.hideAll_get _ e λhm=>by
  have q:(H b).isSome=true:=(Gr.mp hm).2;rw[n]at q;simp at q
theorem Aa{h:GV}{H:Hp}{b:E6}{o:Obj}(e:(mS h H).get? b=some o):h.get? b=some o/\H b=none:=by
 have e':h.get? b=some o:=PySem.W.of_hideAll (trk h H) e;refine⟨e',?_⟩;cases q:H b with
 |none=>rfl
 |some x=>
  have hm:b∈trk h H:=Gr.mpr ⟨Fu.mpr (E_ e'),by simp[q]⟩
  have z:(mS h H).get? b=none:=PySem.W.hideAll_none (trk h H) hm;rw[z]at e;cases e
def zL(g h:GV)(L:E6):List (E6×Obj):=(F_ h.objs.size).filterMap λa=>if a=L\/(g.get? a).isSome=true then none else (h.get? a).map λo=>(a,o)
def rest(g h:GV)(L d:E6):List (E6×Obj):=(zL g h L).filter λp=>decide (p.1≠d)
structure Mod(K:ER)(mg:Str->Option EW)(base:GV):Prop where
 kin:K.In base
 glob:base.Ns Hh mg
 blt:∃mb,base.Ns Pm mb∧∀x:Str,x≠"__name__"→mb x=GQ x
 nolimit:base.NoLimit
structure Cx where
 prog:E8
 w:FE
 K:ER
 mg:Str->Option EW
 base:GV
 A:FC
 N:List Str
 s₀:EU
 H₀:Hp
 env:Env
 outer:List Env
 stack:List Env
 ex:List E6
 fn:Str->Bool
 calm:Bool
 pn:List (E6×Obj)
 xe:EW->EU->Prop
def frs(l:List Env):List E6:=l.filterMap (·.frame)
abbrev Cx.fs(X:Cx):List E6:=frs X.outer
def Vis(sc:Lk)(x:Str):Prop:=sc.names.lookup x=some .local\/sc.names.lookup x=some .cell\/sc.names.lookup x=some .free
def Loc(sc:Lk)(x:Str):Prop:=sc.names.lookup x=some .local\/sc.names.lookup x=some .cell
def D_(env:Env)(h:GV)(m:Str->Option EW)(x:Str)(u:EW):Prop:=
 (env.kindOf x=some .local/\m x=some u)\/((env.kindOf x=some .cell\/env.kindOf x=some .free)/\∃c,env.cells.lookup x=some c/\h.IsCell c (some u))
structure Cx.Ok(X:Cx):Prop where
 mod:Mod X.K X.mg X.base
 kind:X.env.scope.kind=.function
 glob:X.env.globals=Hh
 blt:X.env.builtins=Pm
 above:X.s₀.heap.objs.size<=X.env.locals
 inj:∀x y c,X.env.cells.lookup x=some c->X.env.cells.lookup y=some c->x=y
 has:∀x,(X.env.kindOf x=some .cell\/X.env.kindOf x=some .free)->∃c,X.env.cells.lookup x=some c
 cab:∀x c,X.fn x=true->X.env.cells.lookup x=some c->X.s₀.heap.objs.size<=c
 hd:X.calm=true->X.A.handled=none
 frames:X.A.frames=some X.stack
 stk:X.stack=X.outer\/(X.stack=X.env::X.outer/\X.env.frame=some X.env.locals)
 exf:∀b∈X.ex,b≠X.env.locals/\∀x c,X.env.cells.lookup x=some c->c≠b
 bs:∀b o,X.base.get? b=some o->X.s₀.heap.get? b=some o/\X.H₀ b=none
 bsz:X.base.objs.size<=X.s₀.heap.objs.size
 noex:∀b o,X.base.get? b=some o->b ∉ X.ex
 exfs:∀b∈X.ex,b ∉ X.fs
 funs:X.s₀.heap.FunFrames X.base X.outer
 frf:∀b∈X.fs,X.H₀ b=none
structure Inv(X:Cx)(pins:List (E6×Obj))(σ:List (Option V))(H:Hp)(s:EU):Prop where
 ok:X.Ok
 os:s.os=X.s₀.os
 bare:LU s.gens
 base:Un X.fs X.ex X.H₀ H X.s₀.heap s.heap
 loc:∃m,s.heap.Ns X.env.locals m/\∀(i:Nat) (x:Str) (v:V),X.N[i]?=some x->σ[i]?=some (some v)->Vis X.env.scope x->∃u,bi v u/\D_ X.env s.heap m x u
 cell:∀x c,X.env.cells.lookup x=some c->∃v,s.heap.IsCell c v
 free:H X.env.locals=none
 freeC:∀x c,X.env.cells.lookup x=some c->H c=none
 pin:∀p∈X.pn++pins,s.heap.get? p.1=some p.2/\H p.1=none/\p.1≠X.env.locals/\p.1 ∉ X.fs/\∀v,p.2.data≠.cell v
 hok:HOk X.prog X.w H s.heap
 len:σ.length=X.N.length
variable {pins:List (E6×Obj)}{s:EU}
section
variable {X:Cx}{σ:List (Option V)}
theorem Cx.Ok.nofr(ok:X.Ok){b:E6}{o:Obj}(e:X.base.get? b=some o):b ∉ X.fs:=λhb=>by
 have:=(ok.funs.mem hb).1;rw[e]at this;cases this
theorem Inv.bs(I:Inv X pins σ H s):∀b o,X.base.get? b=some o->s.heap.get? b=some o/\H b=none:=λb o e=>
 ⟨I.base.keep b o (I.ok.bs b o e).1 (I.ok.bs b o e).2 (I.ok.nofr e) (I.ok.noex b o e),I.base.free b o (I.ok.bs b o e).1 (I.ok.bs b o e).2 (I.ok.noex b o e)⟩
theorem Inv.bk(I:Inv X pins σ H s):∀b o,X.base.get? b=some o->s.heap.get? b=some o:=λb o e=>(I.bs b o e).1
theorem Inv.mod(I:Inv X pins σ H s):Mod X.K X.mg X.base:=I.ok.mod
theorem Inv.kIn(I:Inv X pins σ H s):X.K.In s.heap:=I.ok.mod.kin.keeps I.bk
theorem Inv.lt(I:Inv X pins σ H s):X.env.locals<s.heap.objs.size:=let ⟨_,hn,_⟩:=I.loc;hn.lt
theorem Inv.sz(I:Inv X pins σ H s):X.s₀.heap.objs.size<=s.heap.objs.size:=GY I.ok.above (Gw I.lt)
theorem Inv.nofs(I:Inv X pins σ H s){a:E6}(h:s.heap.objs.size<=a):a ∉ X.fs:=λhb=>by
 obtain⟨_,o,ho,_⟩:=I.ok.funs.mem hb;exact absurd (Fz (E_ ho) (GY I.sz h)) (FM _)
theorem Inv.cne(I:Inv X pins σ H s):∀x c,X.env.cells.lookup x=some c->c≠X.env.locals:=λx c e z=>by
 obtain⟨v,o,ho,hd⟩:=I.cell x c e;obtain⟨m,⟨o',es,ep,RH,RK,_⟩,_⟩:=I.loc;rw[z,RH]at ho;cases ho;rw[RK]at hd;cases hd
theorem Inv.funs(I:Inv X pins σ H s):s.heap.FunFrames X.base X.outer:=by
 have all:∀(l:List Env),(∀b∈frs l,b∈X.fs)->X.s₀.heap.FunFrames X.base l->s.heap.FunFrames X.base l:=by
  intro l
  induction l with
  |nil=>intro _ _;trivial
  |cons env r ih=>
   intro hs hl;obtain⟨hk,⟨L,o,hf,hn,ho,hd⟩,hr⟩:=hl;have hL:L∈X.fs:=hs L (by unfold frs;rw[Hi,hf];exact E3)
   obtain⟨sl,e⟩:=I.base.slot L o ho (I.ok.frf L hL) hL λz=>I.ok.exfs L z hL
   exact⟨hk,⟨L,_,hf,hn,e,hd⟩,ih (λb hb=>hs b (by unfold frs;rw[Hi,hf];exact ET _ hb)) hr⟩
 exact all X.outer (λ_ hb=>hb) I.ok.funs
theorem Inv.stack(I:Inv X pins σ H s):s.heap.FunFrames X.base X.stack:=by
 rcases I.ok.stk with e |⟨e,hf⟩
 ·rw[e];exact I.funs
 ·rw[e];obtain⟨m,hn,_⟩:=I.loc;refine .cons (by rw[I.ok.kind];decide) hf hn ?_ I.funs
  exact KU (GY I.ok.bsz I.ok.above)
theorem Inv.stkSub(I:Inv X pins σ H s):∀b∈frs X.stack,b∈X.env.locals::X.fs:=λb hb=>by
 rcases I.ok.stk with e |⟨e,hf⟩
 ·rw[e]at hb;exact ET _ hb
 ·rw[e]at hb;unfold frs at hb;rw[Hi,hf]at hb;exact hb
theorem Inv.stkFree(I:Inv X pins σ H s):∀b∈frs X.stack,H b=none:=λb hb=>by
 rcases E1.mp (I.stkSub b hb) with e |hb
 ·rw[e];exact I.free
 ·obtain⟨_,o,ho,_⟩:=I.ok.funs.mem hb;exact I.base.free b o ho (I.ok.frf b hb) λz=>I.ok.exfs b z hb
theorem Inv.step{g':Array Jq}{t':Nat}{d':Drawn}{ch:List E6}(I:Inv X pins σ H s)
  (Tg:∀b∈ch,(b∈X.ex\/X.s₀.heap.objs.size<=b)/\b≠X.env.locals/\(∀x c,X.env.cells.lookup x=some c->c≠b)/\∀p∈X.pn++pins,p.1≠b)
  (keep:∀b o,b≠X.env.locals->b ∉ X.fs->b ∉ ch->s.heap.get? b=some o->H b=none->h'.get? b=some o)
  (slot:∀b o,b≠X.env.locals->b∈X.fs->b ∉ ch->s.heap.get? b=some o->H b=none->∃sl,h'.get? b=some {o with slots:=sl }) (free:∀b o,b ∉ ch->s.heap.get? b=some o->H b=none->H' b=none)
  (there:∀b o,b ∉ ch->s.heap.get? b=some o->∃o',h'.get? b=some o')
  (tups:∀b xs,H b=some (.tup xs)->H' b=some (.tup xs)) (frzs:∀b o u,H b=some (.frz o u)->H' b=some (.frz o u)) (tbls:∀b ps,H b=some (.tbl ps)->∃more,H' b=some (.tbl (ps++more)))
  (ns:∀m,s.heap.Ns X.env.locals m->h'.Ns X.env.locals m) (hok:HOk X.prog X.w H' h') (hg:LU g'):
  Inv X pins σ H' {s with heap:=h',gens:=g',drawn:=d',toks:=t' }:=by
 have neL:∀b o,X.s₀.heap.get? b=some o->b≠X.env.locals:=λb o e=>FJ (Fz (E_ e) I.ok.above)
 have neC:∀b o,X.s₀.heap.get? b=some o->b ∉ X.ex->b ∉ ch:=λb o e hx hb=>by
  rcases (Tg b hb).1 with z |z
  ·exact hx z
  ·exact absurd (Fz (E_ e) z) (FM _)
 have TJ:∀x c,X.env.cells.lookup x=some c->∀v,s.heap.IsCell c v->h'.IsCell c v:=λx c e v ⟨o,ho,hd⟩=>by
  have nch:c ∉ ch:=λz=>(Tg c z).2.2.1 x c e rfl
  by_cases hc:c∈X.fs
  ·obtain⟨sl,q⟩:=slot c o (I.cne x c e) hc nch ho (I.freeC x c e);exact⟨_,q,hd⟩
  ·exact⟨o,keep c o (I.cne x c e) hc nch ho (I.freeC x c e),hd⟩
 refine⟨I.ok,I.os,hg,⟨λb o e n hb hx=>?_,λb o e n hb hx=>?_,λb o e n hx=>?_,λb o e hx=>?_,λb xs e=>tups b xs (I.base.tups b xs e),λb o xs e=>frzs b o xs (I.base.frzs b o xs e),λb ps e=>?_⟩,?_,λx c e=>?_,?_,λx c e=>?_,λp hp=>?_,hok,I.len⟩
 ·exact keep b o (neL b o e) hb (neC b o e hx) (I.base.keep b o e n hb hx) (I.base.free b o e n hx)
 ·obtain⟨sl,e1⟩:=I.base.slot b o e n hb hx;obtain⟨sl',e2⟩:=slot b _ (neL b o e) hb (neC b o e hx) e1 (I.base.free b o e n hx);exact⟨sl',e2⟩
 ·obtain⟨o',e1⟩:=I.base.there b o e hx;exact free b o' (neC b o e hx) e1 (I.base.free b o e n hx)
 ·obtain⟨o',e1⟩:=I.base.there b o e hx;exact there b o' (neC b o e hx) e1
 ·obtain⟨m1,e1⟩:=I.base.tbls b ps e;obtain⟨m2,e2⟩:=tbls b _ e1;exact⟨m1++m2,by rw[e2,Np]⟩
 ·obtain⟨m,hn,hl⟩:=I.loc;refine⟨m,ns m hn,λi x v e1 e2 e3=>?_⟩
  obtain⟨u,r,l⟩:=hl i x v e1 e2 e3;refine⟨u,r,?_⟩;rcases l with l |⟨k,c,e,z⟩
  ·exact .inl l
  ·exact .inr ⟨k,c,e,TJ x c e _ z⟩
 ·obtain⟨v,z⟩:=I.cell x c e;exact⟨v,TJ x c e v z⟩
 ·obtain⟨m,⟨o,_,_,ho,_⟩,_⟩:=I.loc;exact free _ o (λz=>(Tg _ z).2.1 rfl) ho I.free
 ·obtain⟨v,o,ho,hd⟩:=I.cell x c e;exact free c o (λz=>(Tg c z).2.2.1 x c e rfl) ho (I.freeC x c e)
 ·obtain⟨e,n,ne,nf,d⟩:=I.pin p hp;have nch:p.1 ∉ ch:=λz=>(Tg p.1 z).2.2.2 p hp rfl
  exact⟨keep p.1 p.2 ne nf nch e n,free p.1 p.2 nch e n,ne,nf,d⟩
theorem Inv.un{t':Nat}(I:Inv X pins σ H s)(u:Un X.fs [] H H' s.heap h')(hok:HOk X.prog X.w H' h'):Inv X pins σ H' {s with heap:=h',toks:=t' }:=by
 obtain⟨m,⟨o,es,ep,ho,r⟩,_⟩:=id I.loc;obtain⟨sl,hL⟩:=u.any ho I.free (by simp)
 exact I.step (g':=s.gens) (d':=s.drawn) (ch:=[]) (λ_ z=>nomatch z) (λb o _ hb _ e n=>u.keep b o e n hb (by simp)) (λb o _ hb _ e n=>u.slot b o e n hb (by simp)) (λb o _ e n=>u.free b o e n (by simp)) (λb o _ e=>u.there b o e (by simp)) u.tups u.frzs u.tbls (λm' hm=>by
  obtain⟨o',es',ep',RH,r'⟩:=hm;rw[ho]at RH;cases RH;exact⟨_,es',ep',hL,r'⟩) hok I.bare
theorem Inv.call{g':Array Jq}{t':Nat}{d':Drawn}{ch:List E6}(I:Inv X pins σ H s)(u:Un (frs X.stack) ch H H' s.heap h')(hok:HOk X.prog X.w H' h')(hg:LU g')
  (Tg:∀b∈ch,(b∈X.ex\/X.s₀.heap.objs.size<=b)/\b≠X.env.locals/\(∀x c,X.env.cells.lookup x=some c->c≠b)/\∀p∈X.pn++pins,p.1≠b):
  Inv X pins σ H' {s with heap:=h',gens:=g',drawn:=d',toks:=t' }:=by
 obtain⟨m,⟨o,es,ep,ho,r⟩,_⟩:=id I.loc;obtain⟨sl,hL⟩:=u.any ho I.free λz=>(Tg _ z).2.1 rfl
 exact I.step (ch:=ch) Tg (λb o hL hb hc e n=>u.keep b o e n (λz=>(E1.mp (I.stkSub b z)).elim hL hb) hc) (λb o _ _ hc e n=>u.any e n hc) (λb o hc e n=>u.free b o e n hc) (λb o hc e=>u.there b o e hc) u.tups u.frzs u.tbls (λm' hm=>by
  obtain⟨o',es',ep',RH,r'⟩:=hm;rw[ho]at RH;cases RH;exact⟨_,es',ep',hL,r'⟩) hok hg
theorem Inv.turned{t':Nat}{it:E6}(I:Inv X pins σ H s)(k:∀b o,b≠it->s.heap.get? b=some o->h'.get? b=some o)(hn:H it=none)(hL:it≠X.env.locals)
  (h1:it∈X.ex\/X.s₀.heap.objs.size<=it) (h2:∀x c,X.env.cells.lookup x=some c->c≠it) (h3:∀p∈X.pn++pins,p.1≠it):Inv X pins σ H {s with heap:=h',toks:=t' }:=by
 have nit:∀b u,H b=some u->b≠it:=λb u e z=>by rw[z,hn]at e;cases e
 refine I.step (g':=s.gens) (d':=s.drawn) (ch:=[it]) (λb hb=>?_) (λb o _ _ hc e _=>k b o (λz=>hc (by simp[z])) e) (λb o _ _ hc e _=>⟨o.slots,k b o (λz=>hc (by simp[z])) e⟩) (λ_ _ _ _ n=>n)
  (λb o hc e=>⟨o,k b o (λz=>hc (by simp[z])) e⟩) (λ_ _ e=>e) (λ_ _ _ e=>e) (λb ps e=>⟨#[],by rw[e];simp⟩) (λm hm=>?_) (λb u e=>?_) I.bare
 ·have e:b=it:=by simpa using hb
  subst e;exact⟨h1,hL,h2,h3⟩
 ·obtain⟨o,es,ep,ho,r⟩:=hm;exact⟨o,es,ep,k _ o (Ne.symm hL) ho,r⟩
 ·refine (I.hok b u e).stay (λc v hc q=>k c v ?_ q) (λ_ q=>q) λ_ _ q=>q
  rcases hc with z |z
  ·rw[z];exact nit b u e
  ·exact nit c _ z
theorem Inv.tok(I:Inv X pins σ H s)(t:Nat):Inv X pins σ H {s with toks:=t }:=I.un (h':=s.heap) (t':=t) Un.refl I.hok
theorem Inv.kept{t':Nat}(I:Inv X pins σ H s)(k:∀b u,s.heap.get? b=some u->h'.get? b=some u):Inv X pins σ H {s with heap:=h',toks:=t' }:=I.un (Un.kept k) (I.hok.kept k)
theorem Inv.laid{a:E6}{o:HO}{t':Nat}(I:Inv X pins σ H s)(k:∀b u,s.heap.get? b=some u->h'.get? b=some u)(hp:s.heap.objs.size<=a)(new:cu X.prog X.w (upd H a o) h' a o):
  Inv X pins σ (upd H a o) {s with heap:=h',toks:=t' }:=I.un (Un.laid k hp (I.hok.fresh hp)) (I.hok.laid k hp new)
theorem Inv.write{x e:E6}{o:HO}{t':Nat}(I:Inv X pins σ H s)(mu:Mut (H x))(he:e=x\/H e=some (.own x))(k:∀b u,b≠e->s.heap.get? b=some u->h'.get? b=some u)(heo:∃u,h'.get? e=some u)
  (new:cu X.prog X.w (upd H x o) h' x o):Inv X pins σ (upd H x o) {s with heap:=h',toks:=t' }:=I.un (Un.write mu he k heo) (I.hok.write mu he k heo new)
theorem Inv.weak{QI:List (Option V)}(I:Inv X pins σ H s)(hl:QI.length=σ.length)(w:∀(i:Nat) v,QI[i]?=some (some v)->σ[i]?=some (some v)):Inv X pins QI H s:=
 ⟨I.ok,I.os,I.bare,I.base,let ⟨m,hn,QS⟩:=I.loc;⟨m,hn,λi x v e1 e2 e3=>QS i x v e1 (w i v e2) e3⟩,I.cell,I.free,I.freeC,I.pin,I.hok,hl.trans I.len⟩
theorem Inv.pins_of{TL:List (E6×Obj)}(I:Inv X pins σ H s)(h:∀p∈TL,s.heap.get? p.1=some p.2/\H p.1=none/\p.1≠X.env.locals/\p.1 ∉ X.fs/\∀v,p.2.data≠.cell v):Inv X TL σ H s:=
 ⟨I.ok,I.os,I.bare,I.base,I.loc,I.cell,I.free,I.freeC,λp hp=>(Fn.mp hp).elim (λz=>I.pin p (FH _ z)) (h p),I.hok,I.len⟩
theorem kI{N:List Str}(hN:N.Nodup){i j:Nat}{x:Str}(a:N[i]?=some x)(b:N[j]?=some x):i=j:=by
 obtain⟨h1,e1⟩:=Fb.mp a;obtain⟨h2,e2⟩:=Fb.mp b;exact (Me hN).mp (e1.trans e2.symm)
theorem lO{M:N_}{A:FC}{E:EW->EU->Prop}{i:Nat}{x:Str}{v:V}{u:EW}{Q:Unit->EU->Prop}(I:Inv X pins σ H s)(hN:X.N.Nodup)(hi:X.N[i]?=some x)(hx:Loc X.env.scope x)(r:bi v u)
  (h:∀s',Inv X pins (σ.set i (some v)) H s'->(∃a,JS a s.heap s'.heap/\(a=X.env.locals\/X.env.cells.lookup x=some a))->Q () s') (hf:X.fn x=true\/X.env.scope.names.lookup x=some .local:=by first |exact .inl rfl |exact .inr rfl |assumption):Fy M A (storeName X.env x u) Q E s:=by
 obtain⟨m,hn,hl⟩:=id I.loc;have hcls:(X.env.scope.kind==.class || (X.env.scope.kind==.module && X.env.locals !=X.env.globals))=false:=by rw[I.ok.kind];rfl
 have Tq:i<σ.length:=by rw[I.len];exact (Fb.mp hi).1
 have cne:=I.cne
 have Rw:∀{a:E6}{h':GV},(∃o,s.heap.get? a=some o/\H a=none)->JS a s.heap h'->HOk X.prog X.w H h':=λ{a h'} ha hs b ob e=>by
  obtain⟨_,_,TM⟩:=ha;refine (I.hok b ob e).stay (λc w' hc q=>(hs.2 c ?_).trans q) (λ_ q=>q) λ_ _ q=>q
  rintro rfl;rcases hc with rfl |hc
  ·rw[TM]at e;cases e
  ·rw[TM]at hc;cases hc
 rcases hx with hk |hk
 ·refine wpAny_storeName_local hk hn (λh' Tr hs=>?_) hcls
  obtain⟨oL,_,_,hoL,_⟩:=id hn;refine h _ ⟨I.ok,I.os,I.bare,⟨λb o e n hb hx=>?_,λb o e n hb hx=>?_,I.base.free,λb o e hx=>?_,I.base.tups,I.base.frzs,I.base.tbls⟩,⟨_,Tr,λj y v' e1 e2 e3=>?_⟩,λy c e=>?_,I.free,I.freeC,λp hp=>?_,Rw ⟨oL,hoL,I.free⟩ hs,by simpa using I.len⟩ ⟨_,hs,.inl rfl⟩
  ·exact (hs.2 b (FJ (Fz (E_ e) I.ok.above))).trans (I.base.keep b o e n hb hx)
  ·obtain⟨sl,e1⟩:=I.base.slot b o e n hb hx;exact⟨sl,(hs.2 b (FJ (Fz (E_ e) I.ok.above))).trans e1⟩
  ·obtain⟨o',e1⟩:=I.base.there b o e hx;exact⟨o',(hs.2 b (FJ (Fz (E_ e) I.ok.above))).trans e1⟩
  ·by_cases hj:j=i
   ·subst hj;rw[hi]at e1;cases e1;rw[Kh Tq]at e2;cases e2;exact⟨u,r,.inl ⟨hk,by simp⟩⟩
   ·rw[FI (Ne.symm hj)]at e2;obtain⟨u',r',q⟩:=hl j y v' e1 e2 e3;refine⟨u',r',?_⟩;rcases q with ⟨k,e⟩ |⟨k,c,e,z⟩
    ·refine .inl ⟨k,?_⟩;have:y≠x:=λe=>hj (kI hN e1 (e ▸ hi))
     simp[this,e]
    ·exact .inr ⟨k,c,e,z.sameBut hs (cne y c e)⟩
  ·obtain⟨w',z⟩:=I.cell y c e;exact⟨w',z.sameBut hs (cne y c e)⟩
  ·obtain⟨e,n,ne,nf,d⟩:=I.pin p hp;exact⟨(hs.2 p.1 ne).trans e,n,ne,nf,d⟩
 ·have hfn:X.fn x=true:=by
   rcases hf with z |z
   ·exact z
   ·rw[z]at hk;cases hk
  obtain⟨c,hc⟩:=I.ok.has x (.inl hk);obtain⟨w',z⟩:=I.cell x c hc;refine wpAny_storeName_cell I.ok.kind hk hc z (λh' hc' hs=>?_)
  obtain⟨oc,TN,hocd⟩:=id z;refine h {s with heap:=h' } ⟨I.ok,I.os,I.bare,⟨λb o e n hb hx=>?_,λb o e n hb hx=>?_,I.base.free,λb o e hx=>?_,I.base.tups,I.base.frzs,I.base.tbls⟩,⟨m,hn.sameBut hs (Ne.symm (cne x c hc)),λj y v' e1 e2 e3=>?_⟩,λy c' e=>?_,I.free,I.freeC,λp hp=>?_,Rw ⟨oc,TN,I.freeC x c hc⟩ hs,by simpa using I.len⟩ ⟨c,hs,.inr hc⟩
  ·exact (hs.2 b (FJ (Fz (E_ e) (I.ok.cab x c hfn hc)))).trans (I.base.keep b o e n hb hx)
  ·obtain⟨sl,e1⟩:=I.base.slot b o e n hb hx;exact⟨sl,(hs.2 b (FJ (Fz (E_ e) (I.ok.cab x c hfn hc)))).trans e1⟩
  ·obtain⟨o',e1⟩:=I.base.there b o e hx;exact⟨o',(hs.2 b (FJ (Fz (E_ e) (I.ok.cab x c hfn hc)))).trans e1⟩
  ·by_cases hj:j=i
   ·subst hj;rw[hi]at e1;cases e1;rw[Kh Tq]at e2;cases e2;exact⟨u,r,.inr ⟨.inl hk,c,hc,hc'⟩⟩
   ·rw[FI (Ne.symm hj)]at e2;obtain⟨u',r',q⟩:=hl j y v' e1 e2 e3;refine⟨u',r',?_⟩;rcases q with q |⟨k,c',e,z'⟩
    ·exact .inl q
    ·refine .inr ⟨k,c',e,z'.sameBut hs ?_⟩;rintro rfl;exact hj (kI hN e1 (I.ok.inj _ _ _ e hc ▸ hi))
  ·by_cases hcc:c'=c
   ·subst hcc;exact⟨_,hc'⟩
   ·obtain⟨w2,z2⟩:=I.cell y c' e;exact⟨w2,z2.sameBut hs hcc⟩
  ·obtain⟨e,n,ne,nf,d⟩:=I.pin p hp;refine⟨(hs.2 p.1 ?_).trans e,n,ne,nf,d⟩;intro q;rw[q,TN]at e;have q':oc=p.2:=FV e;exact d w' (by rw[<-q'];exact hocd)
theorem iq{M:N_}{A:FC}{E:EW->EU->Prop}{i:Nat}{x:Str}{v:V}{u:EW}{Q:Unit->EU->Prop}(I:Inv X pins σ H s)(hN:X.N.Nodup)(hi:X.N[i]?=some x)(hx:Loc X.env.scope x)(r:bi v u)
  (h:∀s',Inv X pins (σ.set i (some v)) H s'->Q () s') (hf:X.fn x=true\/X.env.scope.names.lookup x=some .local:=by first |exact .inl rfl |exact .inr rfl |assumption):Fy M A (storeName X.env x u) Q E s:=
 lO I hN hi hx r (λs' I' _=>h s' I') hf
theorem Inv.call'{s':EU}{ch:List E6}(I:Inv X pins σ H s)(ho:s'.os=s.os)(u:Un (frs X.stack) ch H H' s.heap s'.heap)(hok:HOk X.prog X.w H' s'.heap)(hg:LU s'.gens)
  (Tg:∀b∈ch,(b∈X.ex\/X.s₀.heap.objs.size<=b)/\b≠X.env.locals/\(∀x c,X.env.cells.lookup x=some c->c≠b)/\∀p∈X.pn++pins,p.1≠b):Inv X pins σ H' s':=by
 obtain⟨h',g',d',t',o'⟩:=s';have e:o'=s.os:=ho;subst e;exact I.call (g':=g') (t':=t') (d':=d') u hok hg Tg
end
abbrev XK:=EW->Option E6->Hp->Prop
abbrev St:=List (Option V)
abbrev VK:=V->Hp->Prop
abbrev TE:=St->Hp->VK->Prop
abbrev TT:=St->Hp->(Bool->Hp->Prop)->Prop
abbrev TA:=St->Hp->(List V->Hp->Prop)->Prop
structure j3 where
 nx:St->Hp->Prop
 rt:VK
 bk:St->Hp->Prop:=λ_ _=>False
 ct:St->Hp->Prop:=λ_ _=>False
abbrev TS:=j3->St->Hp->Prop
def EP(X:Cx)(pins:List (E6×Obj))(σ:St)(Q:VK)(u:EW)(s':EU):Prop:=∃v H',Inv X pins σ H' s'/\bi v u/\Q v H'
def TP(X:Cx)(pins:List (E6×Obj))(σ:St)(Q:Bool->Hp->Prop)(b:Bool)(s':EU):Prop:=∃H',Inv X pins σ H' s'/\Q b H'
def AP(X:Cx)(pins:List (E6×Obj))(σ:St)(Q:List V->Hp->Prop)(us:List EW)(s':EU):Prop:=∃vs H',Inv X pins σ H' s'/\aM vs us/\Q vs H'
def SP(X:Cx)(pins:List (E6×Obj))(D:j3)(f:Flow)(s':EU):Prop:=
 match f with
 | .next=>∃QI H',Inv X pins QI H' s'/\D.nx QI H'
 | .brk=>∃QI H',Inv X pins QI H' s'/\D.bk QI H'
 | .cont=>∃QI H',Inv X pins QI H' s'/\D.ct QI H'
 | .ret u=>∃v QI H',Inv X pins QI H' s'/\bi v u/\D.rt v H'
def PE(X:Cx)(e:Expr)(t:TE):Prop:=
 ∀(pins:List (E6×Obj)) (s:EU) (σ:St) (H:Hp) (Q:VK),Inv X pins σ H s->t σ H Q->Fy (FF X.prog X.w) X.A (IJ e X.env) (EP X pins σ Q) X.xe s
def PT(X:Cx)(e:Expr)(t:TT):Prop:=
 ∀(pins:List (E6×Obj)) (s:EU) (σ:St) (H:Hp) (Q:Bool->Hp->Prop),Inv X pins σ H s->t σ H Q->Fy (FF X.prog X.w) X.A (isTrue e X.env (IJ e X.env)) (TP X pins σ Q) X.xe s
def PW(X:Cx)(e:Expr)(t:TT):Prop:=
 ∀(Rx:Sem EW) (pins:List (E6×Obj)) (s:EU) (σ:St) (H:Hp) (Q:Bool->Hp->Prop),Inv X pins σ H s->t σ H Q->Fy (FF X.prog X.w) X.A (isTrue e X.env Rx) (TP X pins σ Q) X.xe s
theorem PW.pt{X:Cx}{e:Expr}{t:TT}(h:PW X e t):PT X e t:=h _
def PA(X:Cx)(es:List Expr)(t:TA):Prop:=
 ∀(QB:Pos) (pins:List (E6×Obj)) (s:EU) (σ:St) (H:Hp) (Q:List V->Hp->Prop),Inv X pins σ H s->t σ H Q->Fy (FF X.prog X.w) X.A (On (HV QB (E4 es X.env))) (AP X pins σ Q) X.xe s
def PS(X:Cx)(st:HL)(t:TS):Prop:=
 ∀(pins:List (E6×Obj)) (s:EU) (σ:St) (H:Hp) (D:j3),Inv X pins σ H s->t D σ H->Fy (FF X.prog X.w) X.A (exec st X.env) (SP X pins D) X.xe s
def PSs(X:Cx)(st:List HL)(t:TS):Prop:=
 ∀(pins:List (E6×Obj)) (s:EU) (σ:St) (H:Hp) (D:j3),Inv X pins σ H s->t D σ H->Fy (FF X.prog X.w) X.A (execs st X.env) (SP X pins D) X.xe s
theorem thn{α:Type}{t:Sem α}{Q Q':α->EU->Prop}{M:N_}{A:FC}{E:EW->EU->Prop}{s:EU}(h:Fy M A t Q E s)(hQ:∀a s,Q a s->Q' a s):Fy M A t Q' E s:=Jr h hQ λ_ _ x=>x
variable {ta:TE}{tb:TE}{QB:Pos}
section
variable {X:Cx}
def Ep(i:Nat):TE:=λσ H Q=>∃v,σ[i]?=some (some v)/\Q v H
def tC(v:V):TE:=λ_ H Q=>Q v H
theorem ic{i:Nat}{x:Str}{QB:Pos}(hN:X.N[i]?=some x)(hv:Vis X.env.scope x)(hd:(x==("__debug__":Str))=false:=by decide)(Ro:(x==("__classdict__":Str))=false:=by decide):PE X (.Name x QB) (Ep i):=by
 intro pins s σ H Q I h;obtain⟨v,e,h⟩:=h;obtain⟨m,hn,hl⟩:=I.loc;obtain⟨u,r,l⟩:=hl i x v hN e hv;have fin:EP X pins σ Q u s:=⟨v,H,I,r,h⟩;rcases l with ⟨hk,hm⟩ |⟨hk,c,hc,TU⟩
 ·exact Pn (wpAny_loadName_local I.ok.kind hk hn hm fin) hd
 ·rcases hk with hk |hk
  ·exact Pn (wpAny_loadName_cell I.ok.kind hk hc TU fin) hd
  ·exact Pn (wpAny_loadName_free I.ok.kind hk hc TU fin Ro) hd
theorem CL{i j QB}:PE X (.Constant (.int i) j QB) (tC (.int i)):=λ_ _ _ H _ I h=>wpAny_Constant_int ⟨.int i,H,I.tok _,⟨_,rfl⟩,h⟩
theorem Do{b j QB}:PE X (.Constant (.bool b) j QB) (tC (.bl b)):=λ_ _ _ H _ I h=>Constant_bool ⟨.bl b,H,I,rfl,h⟩
theorem CI{x j QB}:PE X (.Constant (.str x) j QB) (tC (.str x)):=λ_ _ _ H _ I h=>Calls.Constant_str ⟨.str x,H,I.tok _,⟨_,rfl⟩,h⟩
def Gl(X:Cx)(x:Str):Prop:=X.env.kindOf x=some .globalImplicit
theorem io{E:EW->EU->Prop}{pins:List (E6×Obj)}{s:EU}{σ:St}{H:Hp}{x:Str}{u:EW}{QB:Pos}{Q:EW->EU->Prop}(I:Inv X pins σ H s)(hg:Gl X x)(hm:X.mg x=some u)(h:Q u s)
  (hd:(x==("__debug__":Str))=false:=by decide):Fy (FF X.prog X.w) X.A (IJ (.Name x QB) X.env) Q E s:=
 Ll I.ok.kind hg (Calls.loadGlobal_global (by rw[I.ok.glob];exact I.mod.glob.keeps I.bk) hm h) hd
theorem cV{E:EW->EU->Prop}{pins:List (E6×Obj)}{s:EU}{σ:St}{H:Hp}{x:Str}{u:EW}{QB:Pos}{Q:EW->EU->Prop}(I:Inv X pins σ H s)(hg:Gl X x)(hm:X.mg x=none)(hv:GQ x=some u)(h:Q u s)
  (hn:x≠"__name__":=by decide) (hd:(x==("__debug__":Str))=false:=by decide):Fy (FF X.prog X.w) X.A (IJ (.Name x QB) X.env) Q E s:=by
 obtain⟨mb,h1,h2⟩:=I.mod.blt;exact Ll I.ok.kind hg (Calls.loadGlobal_builtin (by rw[I.ok.glob];exact I.mod.glob.keeps I.bk) hm (by rw[I.ok.blt];exact h1.keeps I.bk) ((h2 x hn).trans hv) h) hd
theorem jA{x:Str}{v:V}{u:EW}{QB:Pos}(hg:Gl X x)(hm:X.mg x=some u)(r:bi v u)(hd:(x==("__debug__":Str))=false:=by decide):PE X (.Name x QB) (tC v):=
 λ_ _ _ H _ I h=>io I hg hm ⟨v,H,I,r,h⟩ hd
theorem zN{x:Str}{v:V}{u:EW}{QB:Pos}(hg:Gl X x)(hm:X.mg x=none)(hv:GQ x=some u)(r:bi v u)(hn:x≠"__name__":=by decide)(hd:(x==("__debug__":Str))=false:=by decide):PE X (.Name x QB) (tC v):=
 λ_ _ _ H _ I h=>cV I hg hm hv ⟨v,H,I,r,h⟩ hn hd
variable {a b:Expr}
def tB(t:TE):TT:=λσ H Q=>t σ H λx H1=>∃c,x=.bl c/\Q c H1
theorem Cq{e:Expr}{t:TE}(h:PE X e t)(he:∀Rx,isTrue e X.env Rx=(do let v <-Rx;standAt e.pos;NM [v] (truthy v)):=by intro _;rfl):PT X e (tB t):=by
 intro pins s σ H Q I hw;refine isTrue_plain (thn (h pins s σ H _ I hw) λv s1 ⟨x,H1,I1,r1,q1⟩=>?_) (he _)
 obtain⟨d,rfl,q⟩:=q1;cases r1;exact Ii ⟨H1,I1,q⟩
variable {tA tB':TT}{rest:List Expr}
def Ee(t u:TT):TT:=λσ H Q=>t σ H λc H1=>if c=true then u σ H1 Q else Q false H1
def tOr(t u:TT):TT:=λσ H Q=>t σ H λc H1=>if c=true then Q true H1 else u σ H1 Q
def EG(t:TT):TT:=λσ H Q=>t σ H λc H1=>Q (!c) H1
theorem Ad(ha:PT X a tA):PW X (.BoolOp .And [a] QB) tA:=by
 intro wh pins s σ H Q I h;refine isTrue_and (thn (ha pins s σ H Q I h) λc s1 e=>?_)
 cases c with
 |true=>exact isTrue_and_nil e
 |false=>exact e
theorem Cg(ha:PT X a tA):PW X (.BoolOp .Or [a] QB) tA:=by
 intro wh pins s σ H Q I h;refine isTrue_or (thn (ha pins s σ H Q I h) λc s1 e=>?_)
 cases c with
 |false=>exact isTrue_or_nil e
 |true=>exact e
theorem yX(ha:PT X a tA)(hb:PW X (.BoolOp .And (b::rest) QB) tB'):PW X (.BoolOp .And (a::b::rest) QB) (Ee tA tB'):=by
 intro wh pins s σ H Q I h;refine isTrue_and (thn (ha pins s σ H _ I h) λc s1 ⟨H1,I1,q1⟩=>?_)
 cases c with
 |true=>exact hb wh pins s1 σ H1 Q I1 q1
 |false=>exact⟨H1,I1,q1⟩
theorem Bu(ha:PT X a tA)(hb:PW X (.BoolOp .Or (b::rest) QB) tB'):PW X (.BoolOp .Or (a::b::rest) QB) (tOr tA tB'):=by
 intro wh pins s σ H Q I h;refine isTrue_or (thn (ha pins s σ H _ I h) λc s1 ⟨H1,I1,q1⟩=>?_)
 cases c with
 |true=>exact⟨H1,I1,q1⟩
 |false=>exact hb wh pins s1 σ H1 Q I1 q1
theorem Cc(ha:PT X a tA):PT X (.UnaryOp .Not a QB) (EG tA):=by
 intro pins s σ H Q I h;exact isTrue_not (ha pins s σ H (λc H1=>Q (!c) H1) I h)
def Dz(ta tb:TE):TE:=λσ H Q=>ta σ H λx H1=>∃c,x=.bl c/\if c=true then tb σ H1 Q else Q (.bl false) H1
def DX(ta:TE):TE:=λσ H Q=>ta σ H λx H1=>∃c,x=.bl c/\Q (.bl (!c)) H1
theorem Db{op}{t:TE}(h:PE X a t):PE X (.BoolOp op [a] QB) t:=λpins s σ H Q I hw=>BoolOp_one (h pins s σ H Q I hw)
theorem xh(ha:PE X a ta)(hb:PE X (.BoolOp .And (b::rest) QB) tb):PE X (.BoolOp .And (a::b::rest) QB) (Dz ta tb):=by
 intro pins s σ H Q I h;refine BoolOp_and (thn (ha pins s σ H _ I h) λv s1 ⟨x,H1,I1,r1,q1⟩=>?_)
 obtain⟨c,rfl,q1⟩:=q1;cases r1;refine Ii ?_;cases c with
 |true=>exact hb pins s1 σ H1 Q I1 q1
 |false=>exact⟨.bl false,H1,I1,rfl,q1⟩
theorem BJ(ha:PE X a ta):PE X (.UnaryOp .Not a QB) (DX ta):=by
 intro pins s σ H Q I h;refine UnaryOp_ (thn (ha pins s σ H _ I h) λv s1 ⟨x,H1,I1,r1,q1⟩=>?_)
 obtain⟨c,rfl,q1⟩:=q1;cases r1;exact not_of (Ii ⟨.bl (!c),H1,I1,rfl,q1⟩)
end
def SqL(K:ER)(H:Hp)(a:E6)(xs:List V):Prop:=
 Rd H a (.lst xs)\/
  ∃(o:Obj) (QC:Array EW) (n:Nat),K.lookup a=some o∧o.cls=.type "list"∧o.dict=none∧o.data=.seq QC n∧QC.size≤sizeLine∧aM xs QC.toList
def SqT(K:ER)(H:Hp)(a:E6)(xs:List V):Prop:=
 Rd H a (.tup xs)\/
  ∃(o:Obj) (QC:Array EW) (n:Nat),K.lookup a=some o∧o.cls=.type "tuple"∧o.data=.seq QC n∧QC.size≤sizeLine∧aM xs QC.toList
def EC:EW->Option V
 | .none=>some .non
 | .bool b=>some (.bl b)
 | .int i _=>some (.int i)
 | .str x _=>some (.str x)
 | .bytes b _=>some (.byt b)
 | .float b _=>some (.flt b)
 | .ref a=>some (.ref a)
 | .type n=>some (.ty n)
 |_=>none
theorem bi.abs{x:V}{u:EW}(r:bi x u):EC u=some x:=by
 cases x with
 |non=>cases r;rfl
 |bl _=>cases r;rfl
 |int _=>obtain⟨t,rfl⟩:=r;rfl
 |str _=>obtain⟨t,rfl⟩:=r;rfl
 |byt _=>obtain⟨t,rfl⟩:=r;rfl
 |flt _=>obtain⟨t,rfl⟩:=r;rfl
 |ref _=>cases r;rfl
 |ty _=>cases r;rfl
theorem bi.inj{x y:V}{u:EW}(r:bi x u)(q:bi y u):x=y:=FV (r.abs.symm.trans q.abs)
theorem aM.inj:∀{xs ys:List V}{us:List EW},aM xs us->aM ys us->xs=ys
 |_,_,_,.nil,.nil=>rfl
 |_,_,_,.cons r t,.cons r' t'=>by rw[r.inj r',aM.inj t t']
variable {σ:St}
section
variable {X:Cx}{a:E6}{xs ys:List V}
theorem SqL.of{K:ER}(h:H a=some (.lst xs)):SqL K H a xs:=.inl (.inl h)
theorem SqT.of{K:ER}(h:H a=some (.tup xs)):SqT K H a xs:=.inl (.inl h)
theorem Inv.list(I:Inv X pins σ H s)(h:SqL X.K H a xs):∃QC:List EW,aM xs QC/\PlainL s.heap a QC.toArray/\xs.length<=sizeLine:=by
 rcases h with h |⟨o,QC,n,hk,hc,hd,hs,hz,r⟩
 ·obtain⟨z,QC,n,r,e⟩:=h.ok I.hok;exact⟨QC,r,⟨_,n,e,rfl,rfl,rfl⟩,z⟩
 ·refine⟨QC.toList,r,⟨o,n,I.kIn a o hk,hc,hd,by simpa using hs⟩,?_⟩
  have e:=r.length;simp only[E5]at e;lia
theorem Inv.tuple(I:Inv X pins σ H s)(h:SqT X.K H a xs):∃QC:List EW,aM xs QC/\IsTup s.heap a QC.toArray/\xs.length<=sizeLine:=by
 rcases h with h |⟨o,QC,n,hk,hc,hs,hz,r⟩
 ·obtain⟨z,QC,r,p⟩:=h.ok I.hok;exact⟨QC,r,p,z⟩
 ·refine⟨QC.toList,r,⟨o,I.kIn a o hk,hc,n,by simpa using hs⟩,?_⟩
  have e:=r.length;simp only[E5]at e;lia
theorem Inv.list_inj(I:Inv X pins σ H s)(h:SqL X.K H a xs)(h':SqL X.K H a ys):xs=ys:=by
 obtain⟨QC,r,⟨o,n,e,_,_,d⟩,_⟩:=I.list h;obtain⟨its',r',⟨o',n',e',_,_,d'⟩,_⟩:=I.list h';rw[e]at e';cases e';rw[d]at d';injection d' with d1 _
 have:QC=its':=by simpa using congrArg P9 d1
 subst this;exact r.inj r'
theorem Inv.tuple_inj(I:Inv X pins σ H s)(h:SqT X.K H a xs)(h':SqT X.K H a ys):xs=ys:=by
 obtain⟨QC,r,⟨o,e,_,n,d⟩,_⟩:=I.tuple h;obtain⟨its',r',⟨o',e',_,n',d'⟩,_⟩:=I.tuple h';rw[e]at e';cases e';rw[d]at d';injection d' with d1 _
 have:QC=its':=by simpa using congrArg P9 d1
 subst this;exact r.inj r'
end
abbrev Cx.wish(X:Cx)(E:EW->EU->Prop):Cx:={X with xe:=E }
abbrev Cx.nox(X:Cx):Cx:=X.wish λ_ _=>False
theorem Cx.Ok.wish{X:Cx}(ok:X.Ok)(E:EW->EU->Prop):(X.wish E).Ok:=
 ⟨ok.mod,ok.kind,ok.glob,ok.blt,ok.above,ok.inj,ok.has,ok.cab,ok.hd,ok.frames,ok.stk,ok.exf,ok.bs,ok.bsz,ok.noex,ok.exfs,ok.funs,ok.frf⟩
theorem Cx.Ok.unwish{X:Cx}{E:EW->EU->Prop}(ok:(X.wish E).Ok):X.Ok:=
 ⟨ok.mod,ok.kind,ok.glob,ok.blt,ok.above,ok.inj,ok.has,ok.cab,ok.hd,ok.frames,ok.stk,ok.exf,ok.bs,ok.bsz,ok.noex,ok.exfs,ok.funs,ok.frf⟩
variable {e:Expr}{E:EW→EU→Prop}{te:TE}
section
variable {X:Cx}
theorem Inv.wish(I:Inv X pins σ H s)(E:EW->EU->Prop):Inv (X.wish E) pins σ H s:=⟨I.ok.wish E,I.os,I.bare,I.base,I.loc,I.cell,I.free,I.freeC,I.pin,I.hok,I.len⟩
theorem Inv.unwish(I:Inv (X.wish E) pins σ H s):Inv X pins σ H s:=⟨I.ok.unwish,I.os,I.bare,I.base,I.loc,I.cell,I.free,I.freeC,I.pin,I.hok,I.len⟩
theorem SP.unwish{D:j3}{f:Flow}{s':EU}(h:SP (X.wish E) pins D f s'):SP X pins D f s':=by
 cases f with
 |next=>obtain⟨QI,H',I,q⟩:=h;exact⟨QI,H',I.unwish,q⟩
 |brk=>obtain⟨QI,H',I,q⟩:=h;exact⟨QI,H',I.unwish,q⟩
 |cont=>obtain⟨QI,H',I,q⟩:=h;exact⟨QI,H',I.unwish,q⟩
 |ret u=>obtain⟨v,QI,H',I,r,q⟩:=h;exact⟨v,QI,H',I.unwish,r,q⟩
theorem PSs.nox{st:List HL}{t:TS}(h:PSs X.nox st t):PSs X st t:=λpins s σ H D I hw=>
 Jr (h pins s σ H D (I.wish _) hw) (λ_ _ q=>q.unwish) λ_ _ z=>False.elim z
variable {st:HL}{rest:List HL}{t u:TS}
def Di:TS:=λD σ H=>D.nx σ H
def Eo(t u:TS):TS:=λD σ H=>t {D with nx:=u D } σ H
theorem AM:PSs X [] Di:=λ_ _ σ H _ I h=>Jg ⟨σ,H,I,h⟩
theorem xz(h1:PS X st t)(h2:PSs X rest u):PSs X (st::rest) (Eo t u):=by
 intro pins s σ H D I h;refine Mf (thn (h1 pins s σ H {D with nx:=u D } I h) λf s1 q=>?_)
 cases f with
 |next=>
  obtain⟨QI,H',I',q⟩:=q;exact h2 pins s1 QI H' D I' q
 |ret v=>exact q
 |brk=>exact q
 |cont=>exact q
theorem Inv.quiet{pins:List (E6×Obj)}{σ:St}{H:Hp}{s:EU}(I:Inv X pins σ H s):interactive X.env=false:=by simp[interactive,I.ok.kind]
def Dt(te:TE):TS:=λD σ H=>te σ H λ_ H1=>D.nx σ H1
theorem jK(he:PE X e te)(hs:JE e none QB.line X.env=pure false:=by rfl):PS X (.Expr e QB) (Dt te):=by
 intro pins s σ H D I h;exact OO (thn (he pins s σ H _ I h) λv s1 ⟨x,H1,I1,r1,q1⟩=>⟨σ,H1,I1,q1⟩) I.quiet hs
def EA(te:TE):TS:=λD σ H=>te σ H D.rt
theorem m7(he:PE X e te):PS X (.Return (some e) QB) (EA te):=by
 intro pins s σ H D I h;exact wpAny_Return_some (thn (he pins s σ H _ I h) λv s1 ⟨x,H1,I1,r1,q1⟩=>⟨x,σ,H1,I1,r1,q1⟩)
def EF(c:TT)(t u:TS):TS:=λD σ H=>c σ H λb H1=>if b=true then t D σ H1 else u D σ H1
theorem BD{c:Expr}{a b:List HL}{tc:TT}(hc:PT X c tc)(ha:PSs X a t)(hb:PSs X b u):PS X (.If c a b QB) (EF tc t u):=by
 intro pins s σ H D I h;refine wpAny_If (thn (hc pins s σ H _ I h) λd s1 ⟨H1,I1,q1⟩=>?_)
 cases d with
 |true=>exact ha pins s1 σ H1 D I1 q1
 |false=>exact hb pins s1 σ H1 D I1 q1
end
abbrev TG:=V->St->Hp->(St->Hp->Prop)->Prop
abbrev TGs:=List V->St->Hp->(St->Hp->Prop)->Prop
def PG(X:Cx)(target:Expr)(t:TG):Prop:=
 ∀(pins:List (E6×Obj)) (s:EU) (σ:St) (H:Hp) (v:V) (u:EW) (Q:St->Hp->Prop),Inv X pins σ H s->bi v u->t v σ H Q->
  Fy (FF X.prog X.w) X.A (assign target X.env u) (λ_ s'=>∃QI H',Inv X pins QI H' s'/\Q QI H') X.xe s
def PGs(X:Cx)(ts:List Expr)(t:TGs):Prop:=
 ∀(pins:List (E6×Obj)) (s:EU) (σ:St) (H:Hp) (vs:List V) (us:List EW) (Q:St->Hp->Prop),Inv X pins σ H s->aM vs us->t vs σ H Q->
  Fy (FF X.prog X.w) X.A (Nq ((JT ts X.env).map (·.2)) us) (λ_ s'=>∃QI H',Inv X pins QI H' s'/\Q QI H') X.xe s
section
variable {X:Cx}
def sH(i:Nat):TG:=λv σ H Q=>Q (σ.set i (some v)) H
theorem bv{i:Nat}{x:Str}(hN:X.N.Nodup)(hi:X.N[i]?=some x)(hx:Loc X.env.scope x)(hf:X.fn x=true\/X.env.scope.names.lookup x=some .local:=by first |exact .inl rfl |exact .inr rfl |assumption):PG X (.Name x QB) (sH i):=by
 intro pins s σ H v u Q I r h;exact wpAny_assign_Name (iq I hN hi hx r (λs' I'=>⟨_,H,I',h⟩) hf)
def DD:TGs:=λvs σ H Q=>vs=[]/\Q σ H
def A9(t:TG)(u:TGs):TGs:=λvs σ H Q=>∃v r,vs=v::r/\t v σ H λQI H'=>u r QI H' Q
theorem gB:PGs X [] DD:=by
 intro pins s σ H vs us Q I r h;obtain⟨e,h⟩:=h;subst e;cases r;exact NO ⟨σ,H,I,h⟩
theorem bW{e:Expr}{es:List Expr}{t:TG}{u:TGs}(h1:PG X e t)(h2:PGs X es u)
  (hs:(JT (e::es) X.env).map (·.2)=assign e X.env::(JT es X.env).map (·.2):=by rfl):PGs X (e::es) (A9 t u):=by
 intro pins s σ H vs us Q I r h;obtain⟨v,vr,e1,h⟩:=h;subst e1;cases r with
 |cons r rr=>
  rw[hs];refine Ls (thn (h1 pins s σ H _ _ _ I r h) λ_ s1 ⟨R5,H1,I1,q1⟩=>?_)
  exact h2 pins s1 R5 H1 _ _ Q I1 rr q1
def DH(K:ER)(n:Nat)(t:TGs):TG:=λv σ H Q=>∃a xs,v=.ref a/\SqT K H a xs/\xs.length=n/\t xs σ H Q
theorem qR{es:List Expr}{k:Nat}{t:TGs}{n:Nat}(hc:X.calm=true)(h:PGs X es t)
  (hn:(JT es X.env).length=n:=by rfl) (Q7:(JT es X.env).findIdx? (·.1)=none:=by rfl):PG X (.Tuple es k QB) (DH X.K n t):=by
 intro pins s σ H v u Q I r hw;obtain⟨a,xs,e1,hq,hl,hw⟩:=hw;subst e1;cases r;obtain⟨QC,rv,ht,hz⟩:=I.tuple hq;refine assign_Tuple_tuple (I.ok.hd hc) ht (by simp[hn,<-hl,rv.length]) Q7 λh' hx=>?_
 have I1:Inv X pins σ H {s with heap:=h' }:=I.kept (t':=s.toks) λb o e=>hx b o (FJ (E_ e)) e
 exact h pins _ σ H xs _ Q I1 (by simpa using rv) hw
def Dy(te:TE)(g:TG):TS:=λD σ H=>te σ H λx H1=>g x σ H1 D.nx
theorem CN{tg e:Expr}{te:TE}{g:TG}(he:PE X e te)(hg:PG X tg g)(hs:LV [tg] e QB.line X.env=pure false:=by rfl)(hw:LW [tg] e X.env=pure none:=by rfl)
  (h1:(JT [tg] X.env).map (·.2)=[assign tg X.env]:=by rfl):PS X (.Assign [tg] e QB) (Dy te g):=by
 intro pins s σ H D I h;refine wpAny_Assign_stores (thn (he pins s σ H _ I h) λv s1 ⟨x,H1,I1,r1,q1⟩=>?_) hs hw
 rw[h1];exact thn (hg pins s1 σ H1 x v _ I1 r1 q1) λ_ s2 q=>q
theorem qZ{i:Nat}{x:Str}{e:Expr}{te:TE}{QP:Pos}(hN:X.N.Nodup)(hi:X.N[i]?=some x)(hx:Loc X.env.scope x)(he:PE X e te)(hs:JE e (some (.Name x QP)) QB.line X.env=pure false:=by rfl)(hf:X.fn x=true\/X.env.scope.names.lookup x=some .local:=by first |exact .inl rfl |exact .inr rfl |assumption):
  PS X (.Assign [.Name x QP] e QB) (Dy te (sH i)):=by
 intro pins s σ H D I h;refine wpAny_Assign_Name (thn (he pins s σ H _ I h) λv s1 ⟨y,H1,I1,r1,q1⟩=>?_) hs
 exact iq I1 hN hi hx r1 (λs2 I2=>⟨_,H1,I2,q1⟩) hf
def En(i j:Nat)(ta:TA):TS:=λD σ H=>ta σ H λvs H1=>∃v w,vs=[v,w]/\D.nx ((σ.set i (some v)).set j (some w)) H1
theorem CK{i j:Nat}{x y:Str}{a b:Expr}{ta:TA}{px py pt:Pos}{kt k2 pt2}(hc:X.calm=true)(hN:X.N.Nodup)(hi:X.N[i]?=some x)(hj:X.N[j]?=some y)(Rt:i≠j)
  (hx:X.env.scope.names.lookup x=some .local) (hy:X.env.scope.names.lookup y=some .local) (ha:PA X [a,b] ta)
  (hw:LW [.Tuple [.Name x px,.Name y py] kt pt] (.Tuple [a,b] k2 pt2) X.env=pure (some [x,y]))
  (hs:LV [.Tuple [.Name x px,.Name y py] kt pt] (.Tuple [a,b] k2 pt2) QB.line X.env=pure false:=by rfl):
  PS X (.Assign [.Tuple [.Name x px,.Name y py] kt pt] (.Tuple [a,b] k2 pt2) QB) (En i j ta):=by
 intro pins s σ H D I h;rw[exec_Assign_arm];refine EN (wpAny_standAt ?_);rw[hs];refine EN (EY ?_);rw[if_neg (by decide)]
 refine EN (Tuple_ (thn (ha _ pins s σ H _ I h) λus s1 ⟨vs,H1,I1,r1,q1⟩=>?_))
 obtain⟨v,w,e1,q1⟩:=q1;subst e1
 obtain⟨u1,u2,rfl,rv,R6⟩:∃u1 u2,us=[u1,u2]/\bi v u1/\bi w u2:=by
  cases r1 with
  |cons p q=>
   cases q with
   |cons p' q'=>
    cases q';exact⟨_,_,rfl,p,p'⟩
 refine Ij ?_ (by show 2<=sizeLine;decide)
 have I2:Inv X pins σ H1 {s1 with heap:=s1.heap.push {cls:=.type "tuple",data:=.seq [u1,u2].toArray } }:=I1.kept (t':=s1.toks) λb o e=>EV _ e
 rw[hw];refine EN (EY ?_);show Fy (FF X.prog X.w) X.A (do rule "assign.swapped-stores";let items ←unpackItems (.ref s1.heap.objs.size) 2 none;Nq [λv=>Ol X.env y v,λv=>Ol X.env x v] items.reverse;pure Flow.next) _ _ _
 refine EN (Kp (EN (unpackItems_tuple (items:=#[u1,u2]) (I.ok.hd hc) (IsTup.new s1.heap _) λh' RX=>?_)))
 have I3:=I2.kept (h':=h') (t':=s1.toks) λb o e=>RX b o (FJ (E_ e)) e
 show Fy _ _ (Nq [λv=>Ol X.env y v,λv=>Ol X.env x v] [u2,u1] >>=λ_=>pure Flow.next) _ _ _
 refine EN (Ls (OP (iq I3 hN hj (.inl hy) R6 (λs2 I4=>?_) (.inr hy))))
 refine Ls (OP (iq I4 hN hi (.inl hx) rv (λs3 I5=>NO (EY ?_)) (.inr hx)))
 rw[List.set_comm _ _ (Ne.symm Rt)]at I5;exact⟨_,H1,I5,q1⟩
def BT(c:TT)(tb:TS):TS:=λD σ H=>∃W:Nat->St->Hp->Prop,(∃m,W m σ H)/\∀m σ H,W m σ H->
 c σ H λb H1=>if b=true then ∃N:St->Hp->Prop,(∀QI H',N QI H'->∃m',m'<m/\W m' QI H')/\tb {D with nx:=N,ct:=N,bk:=D.nx } σ H1 else D.nx σ H1
theorem wR{c:Expr}{QM:List HL}{tc:TT}{tb:TS}(hp:Mz (FF X.prog X.w) X.A X.env X.xe)(hc:PT X c tc)(hb:PSs X QM tb):PS X (.While c QM [] QB) (BT tc tb):=by
 intro pins s σ H D I h;obtain⟨W,⟨m0,w0⟩,turn⟩:=h;refine wpAny_While (codeAny_whileLoop (λn s'=>∃QI H',Inv X pins QI H' s'/\W n QI H') ?_ m0 ⟨σ,H,I,w0⟩)
 rintro n s1 ⟨R5,H1,I1,w1⟩;refine IK hp (thn (hc pins s1 R5 H1 _ I1 (turn n R5 H1 w1)) λb s2 ⟨H2,I2,q2⟩=>?_)
 cases b with
 |true=>
  obtain⟨N,hN,q2⟩:=q2;rw[if_pos rfl];refine IK hp (thn (hb pins s2 R5 H2 _ I2 q2) λf s3 q3=>?_)
  cases f with
  |next=>
   obtain⟨SF,H3,I3,n3⟩:=q3;obtain⟨m',hm,w3⟩:=hN SF H3 n3;exact⟨m',hm,SF,H3,I3,w3⟩
  |cont=>
   obtain⟨SF,H3,I3,n3⟩:=q3;obtain⟨m',hm,w3⟩:=hN SF H3 n3;exact⟨m',hm,SF,H3,I3,w3⟩
  |brk=>exact q3
  |ret v=>exact q3
 |false=>
  rw[if_neg FA];exact Jg ⟨R5,H2,I2,q2⟩
end
structure It where
 go:Nat->Hp->Prop
 yld:Nat->Hp->V->Hp->Prop
 stop:Nat->Hp->Prop
def nK(X:Cx)(pins:List (E6×Obj))(H:Hp)(b:E6):Prop:=
 H b=none/\b≠X.env.locals/\b ∉ X.fs/\(b∈X.ex\/X.s₀.heap.objs.size<=b)/\(∀x c,X.env.cells.lookup x=some c->c≠b)/\∀p∈X.pn++pins,p.1≠b
theorem Inv.fpOk{X:Cx}{pins:List (E6×Obj)}{σ:St}{H H':Hp}{s:EU}{b:E6}(I:Inv X pins σ H s)(hb:s.heap.objs.size<=b)(hn:H' b=none):nK X pins H' b:=by
 refine⟨hn,Lu (Fz I.lt hb),I.nofs hb,.inr (GY I.sz hb),λx c e z=>?_,λp hp z=>?_⟩
 ·obtain⟨v,q⟩:=I.cell x c e;exact absurd (Fz q.lt (by rw[z];exact hb)) (FM _)
 ·exact absurd (Fz (E_ (I.pin p hp).1) (by rw[z];exact hb)) (FM _)
structure yx(P:E8)(w:FE)(K:ER)(tg:Expr)(J:It)(fp:List E6)(it:E6)(tn:Nat->GV->Prop):Prop where
 mem:it∈fp
 obj:∀i h,tn i h->∀b∈fp,∃o,h.get? b=some o/\∀v,o.data≠.cell v
 keep:∀i h h',tn i h->(∀b∈fp,∀o,h.get? b=some o->h'.get? b=some o)->tn i h'
 item:∀(X:Cx),X.prog=P->X.w=w->X.K=K->X.calm=true->∀(i:Nat) (pins:List (E6×Obj)) (s:EU) (σ:St) (H:Hp) (E:EW->EU->Prop),Inv X pins σ H s->(∀b∈fp,nK X pins H b)->tn i s.heap->J.go i H->
  Fy (FF P w) X.A (JF (.ref it)) (λr s1=>∃u,r=some u/\
   Fy (FF P w) X.A (MA tg (.ref it) u) (λ_ s2=>∃x H',Inv X pins σ H' s2/\bi x u/\J.yld i H x H'/\tn (i+1) s2.heap/\∀b∈fp,H' b=none) E s1) E s
 done:∀(X:Cx),X.prog=P->X.w=w->X.K=K->X.calm=true->∀(i:Nat) (pins:List (E6×Obj)) (s:EU) (σ:St) (H:Hp) (E:EW->EU->Prop),Inv X pins σ H s->(∀b∈fp,nK X pins H b)->tn i s.heap->J.stop i H->
  Fy (FF P w) X.A (JF (.ref it)) (λr s1=>r=none/\Inv X pins σ H s1) E s
 self:∀(A:FC) (i:Nat) (s:EU) (Q:EW->EU->Prop) (E:EW->EU->Prop),tn i s.heap->Q (.ref it) s->Fy (FF P w) A (N6 (.ref it)) Q E s
abbrev TI:=St->Hp->(It->Hp->Prop)->Prop
def PIE(X:Cx)(pins:List (E6×Obj))(σ:St)(tg:Expr)(R:It->Hp->Prop)(itv:EW)(s2:EU):Prop:=
 ∃(it:E6) (fp:List E6) (tn:Nat->GV->Prop) (J:It) (H':Hp),itv=.ref it/\Inv X pins σ H' s2/\yx X.prog X.w X.K tg J fp it tn/\tn 0 s2.heap/\(∀b∈fp,nK X pins H' b)/\R J H'
def PI(X:Cx)(tg iter:Expr)(wi:TI):Prop:=
 ∀(pins:List (E6×Obj)) (s:EU) (σ:St) (H:Hp) (R:It->Hp->Prop),Inv X pins σ H s->wi σ H R->
  Fy (FF X.prog X.w) X.A (IJ iter X.env) (λv s1=>Fy (FF X.prog X.w) X.A (N6 v) (PIE X pins σ tg R) X.xe s1) X.xe s
theorem tK{M:N_}{A:FC}{E:EW->EU->Prop}{s:EU}{tg:Expr}{it:E6}{u:EW}{o:Obj}{n:String}{vs:Array EW}{Q:Unit->EU->Prop}(ho:s.heap.get? it=some o)(hc:o.cls=.type n)(hd:o.data=.fields vs)
  (hn:["enumerate","zip","dict_itemiterator","dict_reverseitemiterator","odict_iterator","itertools.zip_longest","itertools.pairwise"].contains n=false) (hQ:Q () s):Fy M A (MA tg (.ref it) u) Q E s:=by
 unfold MA
 cases tg <;>first
  |exact EY hQ
  | (cases u <;>first
    |exact EY hQ
    | (refine EN (wpAny_load ho ?_)
       rw[hc,hd];show Fy M A (if (["enumerate","zip","dict_itemiterator","dict_reverseitemiterator","odict_iterator","itertools.zip_longest","itertools.pairwise"].contains n && vs[0]?==some (Lv _))=true then _ else _) Q E s
       rw[if_neg (by intro h;rw[hn,Bool.false_and]at h;cases h)]
       exact EY hQ))
def Itl(K:ER)(a:E6):It:=
 ⟨λi H=>∃xs x,SqL K H a xs/\xs[i]?=some x,λi H x H'=>H'=H/\∀xs,SqL K H a xs->xs[i]?=some x,λi H=>∃xs,SqL K H a xs/\xs.length<=i⟩
def Itt(K:ER)(a:E6):It:=
 ⟨λi H=>∃xs x,SqT K H a xs/\xs[i]?=some x,λi H x H'=>H'=H/\∀xs,SqT K H a xs->xs[i]?=some x,λi H=>∃xs,SqT K H a xs/\xs.length<=i⟩
def Itr(lo:Int)(n:Nat):It:=⟨λi _=>i<n,λi H x H'=>H'=H/\x=.int (lo+i),λi _=>n<=i⟩
theorem vO{P:E8}{w:FE}{K:ER}{tg:Expr}(a it:E6):yx P w K tg (Itl K a) [it] it (λi h=>h.IsListIter it a i) where
 mem:=by simp
 obj:=λi h st b hb=>by
  have e:b=it:=by simpa using hb
  subst e;obtain⟨o,e,c,d⟩:=st;exact⟨o,e,λv z=>by rw[d]at z;cases z⟩
 keep:=λi h h' st k=>st.at λo e=>k it (by simp) o e
 item:=by
  intro X hP hw hK hc i pins s σ H E I hf st hg;subst hP hw hK;obtain⟨xs,x,hq,hx⟩:=hg;obtain⟨QC,rv,p,hz⟩:=I.list hq;obtain⟨u,hu,ru⟩:=rv.get hx;obtain⟨f0,f1,f2,f3,f4,f5⟩:=hf it (by simp)
  refine wpAny_pyNext_list_item st p.isList (x:=u) (by simpa using hu) λh' QD sb=>?_
  have I1:Inv X pins σ H {s with heap:=h' }:=I.turned (t':=s.toks) (λb o hb e=>(sb.2 b hb).trans e) f0 f1 f3 f4 f5
  obtain⟨o,e,c,d⟩:=id QD;exact⟨u,rfl,tK (s:={s with heap:=h' }) e c d (by decide) ⟨x,H,I1,ru,⟨rfl,λys hy=>by rw[I.list_inj hy hq];exact hx⟩,QD,λb hb=>(hf b hb).1⟩⟩
 done:=by
  intro X hP hw hK hc i pins s σ H E I hf st hg;subst hP hw hK;obtain⟨xs,hq,hx⟩:=hg;obtain⟨QC,rv,p,hz⟩:=I.list hq;obtain⟨f0,f1,f2,f3,f4,f5⟩:=hf it (by simp)
  have hl:=rv.length;exact wpAny_pyNext_list_end (I.ok.hd hc) st p.isList (by simp;lia) λh' eb=>⟨rfl,I.turned (t':=s.toks) (λb o hb e=>eb b o hb e) f0 f1 f3 f4 f5⟩
 self:=λ_ _ _ _ _ st h=>wpAny_pyIter_listiter st h
theorem rL{P:E8}{w:FE}{K:ER}{tg:Expr}(a it:E6):yx P w K tg (Itt K a) [it] it (λi h=>h.IsTupleIter it a i) where
 mem:=by simp
 obj:=λi h st b hb=>by
  have e:b=it:=by simpa using hb
  subst e;obtain⟨o,e,c,d⟩:=st;exact⟨o,e,λv z=>by rw[d]at z;cases z⟩
 keep:=λi h h' st k=>st.at λo e=>k it (by simp) o e
 item:=by
  intro X hP hw hK hc i pins s σ H E I hf st hg;subst hP hw hK;obtain⟨xs,x,hq,hx⟩:=hg;obtain⟨QC,rv,p,hz⟩:=I.tuple hq;obtain⟨u,hu,ru⟩:=rv.get hx;obtain⟨f0,f1,f2,f3,f4,f5⟩:=hf it (by simp)
  refine wpAny_pyNext_tuple_item st (show s.heap.IsTuple a QC.toArray from p) (x:=u) (by simpa using hu) λh' QD sb=>?_
  have I1:Inv X pins σ H {s with heap:=h' }:=I.turned (t':=s.toks) (λb o hb e=>(sb.2 b hb).trans e) f0 f1 f3 f4 f5
  obtain⟨o,e,c,d⟩:=id QD;exact⟨u,rfl,tK (s:={s with heap:=h' }) e c d (by decide) ⟨x,H,I1,ru,⟨rfl,λys hy=>by rw[I.tuple_inj hy hq];exact hx⟩,QD,λb hb=>(hf b hb).1⟩⟩
 done:=by
  intro X hP hw hK hc i pins s σ H E I hf st hg;subst hP hw hK;obtain⟨xs,hq,hx⟩:=hg;obtain⟨QC,rv,p,hz⟩:=I.tuple hq;obtain⟨f0,f1,f2,f3,f4,f5⟩:=hf it (by simp)
  have hl:=rv.length;exact wpAny_pyNext_tuple_end (I.ok.hd hc) st (show s.heap.IsTuple a QC.toArray from p) (by simp;lia) λh' eb=>⟨rfl,I.turned (t':=s.toks) (λb o hb e=>eb b o hb e) f0 f1 f3 f4 f5⟩
 self:=λ_ _ _ _ _ st h=>wpAny_pyIter_tupleiter st h
theorem kr{P:E8}{w:FE}{K:ER}{tg:Expr}(it:E6)(lo:Int)(n:Nat):yx P w K tg (Itr lo n) [it] it (λi h=>Oo h it (lo+(i:Nat) *1) ((n:Int)-(i:Nat)) 1) where
 mem:=by simp
 obj:=λi h st b hb=>by
  have e:b=it:=by simpa using hb
  subst e
  exact⟨_,st,λv z=>by
   have z':Data.fields _=Data.cell v:=z;cases z'⟩
 keep:=λi h h' st k=>k it (by simp) _ st
 item:=by
  intro X hP hw hK hc i pins s σ H E I hf st hg;subst hP hw hK;obtain⟨f0,f1,f2,f3,f4,f5⟩:=hf it (by simp)
  have W:=Walks.range (prog:=X.prog) (w:=X.w) (I.ok.hd hc) it lo 1 n;refine W.item i s _ _ hg st λv h' tk hv QD kk=>?_
  obtain⟨t,rfl⟩:=hv;have I1:Inv X pins σ H {s with heap:=h',toks:=tk }:=I.turned (λb o hb e=>kk b o (by simpa using hb) e) f0 f1 f3 f4 f5
  refine⟨_,rfl,tK (s:={s with heap:=h',toks:=tk }) (n:="range_iterator") QD rfl rfl (by decide) ⟨.int (lo+i),H,I1,⟨t,?_⟩,⟨rfl,rfl⟩,QD,λb hb=>(hf b hb).1⟩⟩
  rw[K9]
 done:=by
  intro X hP hw hK hc i pins s σ H E I hf st hg;subst hP hw hK;obtain⟨f0,f1,f2,f3,f4,f5⟩:=hf it (by simp)
  exact wpAny_pyNext_range_end (I.ok.hd hc) st (by have:n<=i:=hg;lia) λh' eb=>⟨rfl,I.turned (t':=s.toks) (λb o hb e=>eb b o hb e) f0 f1 f3 f4 f5⟩
 self:=λ_ _ _ _ _ st h=>wpAny_pyIter_rangeiter st h
section
variable {X:Cx}{tg:Expr}
def DL(K:ER)(tl:TE):TI:=λσ H R=>tl σ H λx H1=>∃a,x=.ref a/\(∃xs,SqL K H1 a xs)/\R (Itl K a) H1
def EB(K:ER)(tl:TE):TI:=λσ H R=>tl σ H λx H1=>∃a,x=.ref a/\(∃xs,SqT K H1 a xs)/\R (Itt K a) H1
theorem Ae{l:Expr}{tl:TE}(hl:PE X l tl):PI X tg l (DL X.K tl):=by
 intro pins s σ H R I h;refine thn (hl pins s σ H _ I h) λv s1 ⟨x,H1,I1,r1,q1⟩=>?_
 obtain⟨a,e,⟨xs,hq⟩,q⟩:=q1;subst e;cases r1;obtain⟨QC,rv,p,hz⟩:=I1.list hq;refine HE p.isList ?_;refine⟨s1.heap.objs.size,[s1.heap.objs.size],_,_,H1,rfl,I1.kept (t':=s1.toks) λb o e=>EV _ e,vO a _,⟨_,Fe _ rfl,rfl,rfl⟩,λb hb=>?_,q⟩
 have e:b=s1.heap.objs.size:=by simpa using hb
 subst e;exact I1.fpOk (E2 _) (I1.hok.fresh (E2 _))
theorem C_{l:Expr}{tl:TE}(hl:PE X l tl):PI X tg l (EB X.K tl):=by
 intro pins s σ H R I h;refine thn (hl pins s σ H _ I h) λv s1 ⟨x,H1,I1,r1,q1⟩=>?_
 obtain⟨a,e,⟨xs,hq⟩,q⟩:=q1;subst e;cases r1;obtain⟨QC,rv,p,hz⟩:=I1.tuple hq;refine wpAny_pyIter_tuple (show s1.heap.IsTuple a QC.toArray from p) ?_
 refine⟨s1.heap.objs.size,[s1.heap.objs.size],_,_,H1,rfl,I1.kept (t':=s1.toks) λb o e=>EV _ e,rL a _,⟨_,Fe _ rfl,rfl,rfl⟩,λb hb=>?_,q⟩
 have e:b=s1.heap.objs.size:=by simpa using hb
 subst e;exact I1.fpOk (E2 _) (I1.hok.fresh (E2 _))
theorem w9{pins:List (E6×Obj)}{σ:St}{H:Hp}{s:EU}{R:It->Hp->Prop}{E:EW->EU->Prop}{lo hi:Int}{t u v:Tok}{tk:Nat}(I:Inv X pins σ H s)(h1:-(2 ^ 62)<=lo)(h2:lo<2 ^ 62)(h3:-(2 ^ 62)<=hi)(h4:hi<2 ^ 62)
  (q:R (Itr lo (hi-lo).toNat) H):Fy (FF X.prog X.w) X.A (N6 (.ref s.heap.objs.size)) (PIE X pins σ tg R) E {s with heap:=s.heap.push {cls:=.type "range",data:=.fields #[.int lo t,.int hi u,.int 1 v] },toks:=tk }:=by
 refine Nr (IsRange.new ..) (small_one h1 h2 h3 h4) ?_;have I1:Inv X pins σ H {s with heap:=s.heap.push {cls:=.type "range",data:=.fields #[.int lo t,.int hi u,.int 1 v] },toks:=tk }:=I.kept λb o e=>EV _ e
 refine⟨(s.heap.push {cls:=.type "range",data:=.fields #[.int lo t,.int hi u,.int 1 v] }).objs.size,[(s.heap.push {cls:=.type "range",data:=.fields #[.int lo t,.int hi u,.int 1 v] }).objs.size],_,_,H,rfl,
  I1.kept (t':=tk) λb o e=>EV _ e,kr _ lo (hi-lo).toNat,?_,λb hb=>?_,q⟩
 ·have e1:lo+((0:Nat):Int) *1=lo:=by simp
  have e2:(((hi-lo).toNat:Nat):Int)-((0:Nat):Int)=Builtin.Range.rangeSize lo hi 1:=by rw[rangeSize_one];split <;>lia
  show Oo _ _ (lo+((0:Nat):Int) *1) ((((hi-lo).toNat:Nat):Int)-((0:Nat):Int)) 1;rw[e1,e2];exact Fe _ rfl
 ·have e:b=(s.heap.push {cls:=.type "range",data:=.fields #[.int lo t,.int hi u,.int 1 v] }).objs.size:=by simpa using hb
  subst e;exact I1.fpOk (E2 _) (I1.hok.fresh (E2 _))
def DR(ta:TA):TI:=λσ H R=>ta σ H λvs H1=>∃j:Int,vs=[.int j]/\-(2 ^ 62)<=j/\j<2 ^ 62/\R (Itr 0 j.toNat) H1
theorem vg{a:Expr}{ta:TA}{p QB:Pos}(hg:Gl X "range")(hm:X.mg "range"=none)(ha:PA X [a] ta)(hs:E4 [a] X.env=[(false,IJ a X.env)]:=by rfl):PI X tg (.Call (.Name "range" p) [a] [] QB) (DR ta):=by
 intro pins s σ H R I h;refine Call_ (cV I hg hm Po (PyProof.Rows.callWith_type1 (thn (ha QB pins s σ H _ I h) λus s1 ⟨vs,H1,I1,r1,q1⟩=>?_) hs rfl))
 obtain⟨j,e,q1,q2,q⟩:=q1;subst e;cases r1 with
 |cons r rr=>
  cases rr;obtain⟨t,rfl⟩:=r;exact call_range_1 (w9 I1 (by lia) (by lia) q1 q2 (by simpa using q))
def ED(wi:TI)(g:TG)(tb:TS):TS:=λD σ H=>wi σ H λJ H1=>∃W:Nat->Nat->St->Hp->Prop,(∃m,W 0 m σ H1)/\∀i m σ H,W i m σ H->
 (J.stop i H/\D.nx σ H)\/(J.go i H/\∃N:St->Hp->Prop,(∀QI H',N QI H'->∃m',m'<m/\W (i+1) m' QI H')/\∀x H',J.yld i H x H'->g x σ H' λσ2 H2=>tb {D with nx:=N,ct:=N,bk:=D.nx } σ2 H2)
def nX(fp:List E6)(h:GV):List (E6×Obj):=fp.filterMap λb=>(h.get? b).map λo=>(b,o)
theorem fm{fp:List E6}{h:GV}{b:E6}{o:Obj}(hb:b∈fp)(e:h.get? b=some o):(b,o)∈nX fp h:=J0.mpr ⟨b,hb,by rw[e];rfl⟩
theorem vD{fp:List E6}{h:GV}{p:E6×Obj}(hp:p∈nX fp h):p.1∈fp/\h.get? p.1=some p.2:=by
 obtain⟨b,hb,e⟩:=J0.mp hp;cases q:h.get? b with
 |none=>rw[q]at e;cases e
 |some o=>
  rw[q]at e;have e':(b,o)=p:=FV e;subst e';exact⟨hb,q⟩
theorem Inv.pinned{pins:List (E6×Obj)}{σ:St}{H:Hp}{s:EU}{fp:List E6}(I:Inv X pins σ H s)(hf:∀b∈fp,nK X pins H b)(ho:∀b∈fp,∃o,s.heap.get? b=some o/\∀v,o.data≠.cell v):Inv X (pins++nX fp s.heap) σ H s:=
 I.pins_of λp hp=>(Fn.mp hp).elim (λz=>I.pin p (Fw _ z)) λz=>by
  obtain⟨hb,e⟩:=vD z;obtain⟨f0,f1,f2,_⟩:=hf p.1 hb;obtain⟨o,e',d⟩:=ho p.1 hb;rw[e]at e';cases e';exact⟨e,f0,f1,f2,d⟩
theorem Inv.unpinned{pins pl:List (E6×Obj)}{σ:St}{H:Hp}{s:EU}(I:Inv X (pins++pl) σ H s):Inv X pins σ H s:=I.pins_of λp hp=>I.pin p (Fw _ (FH _ hp))
theorem Co{iter:Expr}{QM:List HL}{wi:TI}{g:TG}{tb:TS}{QB:Pos}(hp:Mz (FF X.prog X.w) X.A X.env X.xe)(hc:X.calm=true)(hi:PI X tg iter wi)(hg:PG X tg g)(hb:PSs X QM tb)
  (hs:∀x,IL iter X.env x=pure x:=by intro _;rfl):PS X (.For tg iter QM [] QB) (ED wi g tb):=by
 intro pins s σ H D I h;refine wpAny_For (thn (hi pins s σ H _ I h) λv s1 h1=>thn h1 λitv s2 h2=>?_) hs
 obtain⟨it,fp,tn,J,H2,e,I2,T,Rl,f2,W,⟨m0,w0⟩,turn⟩:=h2;subst e;have stat:∀{H':Hp},(∀b∈fp,H' b=none)->∀b∈fp,nK X pins H' b:=λhn b hb=>⟨hn b hb,(f2 b hb).2⟩
 refine codeAny_forLoop_any (λn s'=>∃i QI H',Inv X pins QI H' s'/\tn i s'.heap/\(∀b∈fp,H' b=none)/\W i n QI H') ?_ m0 ⟨0,σ,H2,I2,Rl,λb hb=>(f2 b hb).1,w0⟩
 rintro n s3 ⟨i,SF,H3,I3,RN,fr3,w3⟩;rcases turn i n SF H3 w3 with ⟨stop,qn⟩ |⟨go,N,hN,step⟩
 ·refine IK hp (thn (T.done X rfl rfl rfl hc i pins s3 SF H3 X.xe I3 (stat fr3) RN stop) λr s4 ⟨hr,I4⟩=>?_)
  subst hr;exact Jg ⟨SF,H3,I4,qn⟩
 ·refine IK hp (thn (T.item X rfl rfl rfl hc i pins s3 SF H3 X.xe I3 (stat fr3) RN go) λr s4 ⟨u,hr,h4⟩=>?_)
  subst hr;refine IK hp (thn h4 λ_ s5 ⟨x,H5,I5,r5,y5,TV,fr5⟩=>?_)
  have I5':=I5.pinned (stat fr5) (T.obj _ _ TV);refine IK hp (thn (hg _ s5 SF H5 x u _ I5' r5 (step x H5 y5)) λ_ s6 ⟨σ6,H6,I6,q6⟩=>?_)
  refine IK hp (thn (hb _ s6 σ6 H6 _ I6 q6) λf s7 q7=>?_)
  have again:∀{SH:St}{H7:Hp},Inv X (pins++nX fp s5.heap) SH H7 s7->N SH H7->∃m,m<n/\∃i QI H',Inv X pins QI H' s7/\tn i s7.heap/\(∀b∈fp,H' b=none)/\W i m QI H':=λ{SH H7} I7 n7=>by
   obtain⟨m',hm,w7⟩:=hN SH H7 n7;refine⟨m',hm,i+1,SH,H7,I7.unpinned,T.keep _ _ _ TV λb hb o e=>(I7.pin (b,o) (Fw _ (Fw _ (fm hb e)))).1,λb hb=>?_,w7⟩
   obtain⟨o,e,d⟩:=T.obj _ _ TV b hb;exact (I7.pin (b,o) (Fw _ (Fw _ (fm hb e)))).2.1
  cases f with
  |next=>obtain⟨SH,H7,I7,n7⟩:=q7;exact again I7 n7
  |cont=>obtain⟨SH,H7,I7,n7⟩:=q7;exact again I7 n7
  |brk=>obtain⟨SH,H7,I7,q7⟩:=q7;exact⟨SH,H7,I7.unpinned,q7⟩
  |ret v=>obtain⟨x7,SH,H7,I7,r7,q7⟩:=q7;exact⟨x7,SH,H7,I7.unpinned,r7,q7⟩
end
abbrev R2:=V->V->Hp->VK->Prop
def OpR(X:Cx)(f:EW->EW->Sem EW)(r:R2):Prop:=
 ∀(pins:List (E6×Obj)) (s:EU) (σ:St) (H:Hp) (x y:V) (v u:EW) (Q:VK),Inv X pins σ H s->bi x v->bi y u->r x y H Q->
  Fy (FF X.prog X.w) X.A (f v u) (EP X pins σ Q) X.xe s
def UnR(X:Cx)(f:EW->Sem EW)(r:V->Hp->VK->Prop):Prop:=
 ∀(pins:List (E6×Obj)) (s:EU) (σ:St) (H:Hp) (x:V) (v:EW) (Q:VK),Inv X pins σ H s->bi x v->r x H Q->
  Fy (FF X.prog X.w) X.A (f v) (EP X pins σ Q) X.xe s
def de(X:Cx)(f:EW)(r:List V->Hp->VK->Prop):Prop:=
 ∀(pins:List (E6×Obj)) (s:EU) (σ:St) (H:Hp) (xs:List V) (us:List EW) (Q:VK),Inv X pins σ H s->aM xs us->r xs H Q->
  Fy (FF X.prog X.w) X.A (call f us) (EP X pins σ Q) X.xe s
def tOp(r:R2)(ta tb:TE):TE:=λσ H Q=>ta σ H λx H1=>tb σ H1 λy H2=>r x y H2 Q
def tUn(r:V->Hp->VK->Prop)(ta:TE):TE:=λσ H Q=>ta σ H λx H1=>r x H1 Q
def rI(C:Int->Int->Prop)(g:Int->Int->V):R2:=λx y H Q=>∃i j,x=.int i/\y=.int j/\C i j/\Q (g i j) H
def rI0(g:Int->Int->V):R2:=λx y H Q=>∃i j,x=.int i/\y=.int j/\Q (g i j) H
def rU(g:Int->V):V->Hp->VK->Prop:=λx H Q=>∃i,x=.int i/\Q (g i) H
section
variable {X:Cx}{a b c:Expr}{tc:TE}
theorem Da(ha:PE X a ta)(hb:PE X b tb){pins:List (E6×Obj)}{s:EU}{σ:St}{H:Hp}{R:V->V->Hp->Prop}(I:Inv X pins σ H s)
  (h:ta σ H λx H1=>tb σ H1 λy H2=>R x y H2) {Q:EW->EU->Prop}{f:EW->EW->Sem EW}
  (hf:∀v u s2 x y H2,Inv X pins σ H2 s2->bi x v->bi y u->R x y H2->Fy (FF X.prog X.w) X.A (f v u) Q X.xe s2):
  Fy (FF X.prog X.w) X.A (IJ a X.env) (λv QH=>Fy (FF X.prog X.w) X.A (IJ b X.env) (λu Ts=>Fy (FF X.prog X.w) X.A (f v u) Q X.xe Ts) X.xe QH) X.xe s:=by
 refine thn (ha pins s σ H _ I h) λv s1 ⟨x,H1,I1,r1,q1⟩=>?_
 refine thn (hb pins s1 σ H1 _ I1 q1) λu s2 ⟨y,H2,I2,r2,q2⟩=>?_
 exact hf v u s2 x y H2 I2 r1 r2 q2
theorem uE{op:PX}{r:R2}(ho:OpR X (J2 op) r)(ha:PE X a ta)(hb:PE X b tb):PE X (.BinOp a op b QB) (tOp r ta tb):=by
 intro pins s σ H Q I h;exact wpAny_BinOp (Da ha hb I h λv u s2 x y H2 I2 rx ry q=>ho pins s2 σ H2 x y v u Q I2 rx ry q)
theorem DJ{op:UnaryOp}{r:V->Hp->VK->Prop}(ho:UnR X (unaryOp op) r)(ha:PE X a ta):PE X (.UnaryOp op a QB) (tUn r ta):=by
 intro pins s σ H Q I h;exact UnaryOp_ (thn (ha pins s σ H _ I h) λv s1 ⟨x,H1,I1,r1,q1⟩=>ho pins s1 σ H1 x v Q I1 r1 q1)
theorem opI{f:EW->EW->Sem EW}{C:Int->Int->Prop}{g:Int->Int->Int}
  (rule:∀(i j:Int) (t u:Tok) (s:EU) (Q:EW->EU->Prop) (E:EW->EU->Prop),C i j->Q (.int (g i j) s.toks) {s with toks:=s.toks+1 }->Fy (FF X.prog X.w) X.A (f (.int i t) (.int j u)) Q E s):
  OpR X f (rI C λi j=>.int (g i j)):=by
 intro pins s σ H x y v u Q I rx ry h;obtain⟨i,j,rfl,rfl,hc,q⟩:=h;obtain⟨t,rfl⟩:=rx;obtain⟨t',rfl⟩:=ry;exact rule i j t t' s _ _ hc ⟨.int (g i j),H,I.tok _,⟨_,rfl⟩,q⟩
theorem DU{f:EW->EW->Sem EW}{g:Int->Int->Int}
  (rule:∀(i j:Int) (t u:Tok) (s:EU) (Q:EW->EU->Prop) (E:EW->EU->Prop),Q (.int (g i j) s.toks) {s with toks:=s.toks+1 }->Fy (FF X.prog X.w) X.A (f (.int i t) (.int j u)) Q E s):
  OpR X f (rI0 λi j=>.int (g i j)):=by
 intro pins s σ H x y v u Q I rx ry h;obtain⟨i,j,rfl,rfl,q⟩:=h;obtain⟨t,rfl⟩:=rx;obtain⟨t',rfl⟩:=ry;exact rule i j t t' s _ _ ⟨.int (g i j),H,I.tok _,⟨_,rfl⟩,q⟩
theorem BQ{f:EW->EW->Sem EW}{g:Int->Int->Bool}
  (rule:∀(i j:Int) (t u:Tok) (s:EU) (Q:EW->EU->Prop) (E:EW->EU->Prop),Q (.bool (g i j)) s->Fy (FF X.prog X.w) X.A (f (.int i t) (.int j u)) Q E s):
  OpR X f (rI0 λi j=>.bl (g i j)):=by
 intro pins s σ H x y v u Q I rx ry h;obtain⟨i,j,rfl,rfl,q⟩:=h;obtain⟨t,rfl⟩:=rx;obtain⟨t',rfl⟩:=ry;exact rule i j t t' s _ _ ⟨.bl (g i j),H,I,rfl,q⟩
def DP(i j:Int):Prop:=0<=j/\j<=1000000/\i.natAbs<2 ^ 64
theorem Cv:OpR X (J2 .Add) (rI0 λi j=>.int (i+j)):=DU λ_ _ _ _ _ _ _ q=>add_int q
theorem CY:OpR X (J2 .Sub) (rI0 λi j=>.int (i-j)):=DU λ_ _ _ _ _ _ _ q=>sub_int q
theorem B6:OpR X (J2 .Mod) (rI (λ_ j=>0<j) λi j=>.int (i%j)):=opI λi j _ _ _ _ _ hc q=>by
 have h1:(0:Int)<j:=hc;exact mod_int' (by lia) (by rw[Int.fmod_eq_emod_of_nonneg i (by lia)];exact q)
theorem Dd:OpR X (J2 .Pow) (rI DP λi j=>.int (i ^ j.toNat)):=opI λ_ _ _ _ _ _ _ hc q=>pow_int_small hc.1 hc.2.1 hc.2.2 q
theorem unI{f:EW->Sem EW}{g:Int->Int}
  (rule:∀(i:Int) (t:Tok) (s:EU) (Q:EW->EU->Prop) (E:EW->EU->Prop),Q (.int (g i) s.toks) {s with toks:=s.toks+1 }->Fy (FF X.prog X.w) X.A (f (.int i t)) Q E s):
  UnR X f (rU λi=>.int (g i)):=by
 intro pins s σ H x v Q I rx h;obtain⟨i,rfl,q⟩:=h;obtain⟨t,rfl⟩:=rx;exact rule i t s _ _ ⟨.int (g i),H,I.tok _,⟨_,rfl⟩,q⟩
theorem CC:UnR X (unaryOp .USub) (rU λi=>.int (-i)):=unI λ_ _ _ _ _ q=>neg_int q
end
def DF:V->V->Bool
 | .non,.non=>true | .non,.int _=>true | .int _,.non=>true | .non,.bl _=>true | .bl _,.non=>true | .non,.str _=>true | .str _,.non=>true
 | .int _,.int _=>true | .bl _,.bl _=>true | .str _,.str _=>true | .byt _,.byt _=>true
 | .int _,.str _=>true | .str _,.int _=>true | .bl _,.str _=>true | .str _,.bl _=>true
 |_,_=>false
def rEq:R2:=λx y H Q=>DF x y=true/\Q (.bl (decide (x=y))) H
def rNe:R2:=λx y H Q=>DF x y=true/\Q (.bl (!decide (x=y))) H
theorem jM{i j:Int}:decide (V.int i=V.int j)=(i==j):=by
 rw[HN];simp
theorem xZ{i j:Bool}:decide (V.bl i=V.bl j)=(i==j):=by
 rw[HN];simp
theorem tI{i j:Str}:decide (V.str i=V.str j)=(i==j):=by
 rw[HN];simp
theorem ur{i j:Array UInt8}:decide (V.byt i=V.byt j)=(i.toList==j.toList):=by
 rw[HN];cases i;cases j;simp
section
variable {X:Cx}{a b c:Expr}{tc:TE}
theorem bb{pins:List (E6×Obj)}{σ:St}{H:Hp}{s:EU}{Q:VK}{k k':Bool}(I:Inv X pins σ H s)(q:Q (.bl k) H)(e:k=k'):EP X pins σ Q (.bool k') s:=by
 subst e;exact⟨.bl k,H,I,rfl,q⟩
theorem Df:OpR X (Hl .Eq) rEq:=by
 intro pins s σ H x y v u Q I rx ry h;obtain⟨hs,q⟩:=h;cases x with
 |non=>
  cases rx;cases y with
  |non=>cases ry;exact OQ (bb I q (by simp))
  |bl j=>cases ry;exact OR (bb I q (by simp))
  |int j=>obtain⟨t',rfl⟩:=ry;exact Pp (bb I q (by simp))
  |str j=>obtain⟨t',rfl⟩:=ry;exact Pq (bb I q (by simp))
  |_=>exact absurd (show false=true from hs) FA
 |bl i=>
  cases rx;cases y with
  |non=>cases ry;exact OS (bb I q (by simp))
  |bl j=>cases ry;exact eq_bool (bb I q xZ)
  |str j=>obtain⟨t',rfl⟩:=ry;exact OT (bb I q (by simp))
  |_=>exact absurd (show false=true from hs) FA
 |int i=>
  obtain⟨t,rfl⟩:=rx;cases y with
  |non=>cases ry;exact Pr (bb I q (by simp))
  |int j=>obtain⟨t',rfl⟩:=ry;exact eq_int (bb I q jM)
  |str j=>obtain⟨t',rfl⟩:=ry;exact Pu (bb I q (by simp))
  |_=>exact absurd (show false=true from hs) FA
 |str i=>
  obtain⟨t,rfl⟩:=rx;cases y with
  |non=>cases ry;exact Pv (bb I q (by simp))
  |bl j=>cases ry;exact OU (bb I q (by simp))
  |int j=>obtain⟨t',rfl⟩:=ry;exact Pw (bb I q (by simp))
  |str j=>obtain⟨t',rfl⟩:=ry;exact eq_str (bb I q tI)
  |_=>exact absurd (show false=true from hs) FA
 |byt i=>
  obtain⟨t,rfl⟩:=rx;cases y with
  |byt j=>obtain⟨t',rfl⟩:=ry;exact PySem.W.eq_bytes (bb I q ur)
  |_=>exact absurd (show false=true from hs) FA
 |_=>cases y <;>exact absurd (show false=true from hs) FA
theorem Dv:OpR X (Hl .NotEq) rNe:=by
 intro pins s σ H x y v u Q I rx ry h;obtain⟨hs,q⟩:=h;cases x with
 |non=>
  cases rx;cases y with
  |non=>cases ry;exact OV (bb I q (by simp))
  |bl j=>cases ry;exact OW (bb I q (by simp))
  |int j=>obtain⟨t',rfl⟩:=ry;exact Px (bb I q (by simp))
  |str j=>obtain⟨t',rfl⟩:=ry;exact Py (bb I q (by simp))
  |_=>exact absurd (show false=true from hs) FA
 |bl i=>
  cases rx;cases y with
  |non=>cases ry;exact OX (bb I q (by simp))
  |bl j=>cases ry;exact ne_bool (bb I q (congrArg not xZ))
  |str j=>obtain⟨t',rfl⟩:=ry;exact OY (bb I q (by simp))
  |_=>exact absurd (show false=true from hs) FA
 |int i=>
  obtain⟨t,rfl⟩:=rx;cases y with
  |non=>cases ry;exact Pz (bb I q (by simp))
  |int j=>obtain⟨t',rfl⟩:=ry;exact ne_int (bb I q (congrArg not jM))
  |str j=>obtain⟨t',rfl⟩:=ry;exact PF (bb I q (by simp))
  |_=>exact absurd (show false=true from hs) FA
 |str i=>
  obtain⟨t,rfl⟩:=rx;cases y with
  |non=>cases ry;exact PH (bb I q (by simp))
  |bl j=>cases ry;exact OZ (bb I q (by simp))
  |int j=>obtain⟨t',rfl⟩:=ry;exact PJ (bb I q (by simp))
  |str j=>obtain⟨t',rfl⟩:=ry;exact ne_str (bb I q (congrArg not tI))
  |_=>exact absurd (show false=true from hs) FA
 |byt i=>
  obtain⟨t,rfl⟩:=rx;cases y with
  |byt j=>obtain⟨t',rfl⟩:=ry;exact PySem.W.ne_bytes (bb I q (congrArg not ur))
  |_=>exact absurd (show false=true from hs) FA
 |_=>cases y <;>exact absurd (show false=true from hs) FA
theorem DZ:OpR X (Hl .Lt) (rI0 λi j=>.bl (decide (i<j))):=BQ λ_ _ _ _ _ _ _ q=>lt_int q
theorem DB:OpR X (Hl .LtE) (rI0 λi j=>.bl (decide (i<=j))):=BQ λ_ _ _ _ _ _ _ q=>le_int q
theorem D8:OpR X (Hl .Gt) (rI0 λi j=>.bl (decide (j<i))):=BQ λ_ _ _ _ _ _ _ q=>gt_int q
theorem x_(b:Expr){op:Qm}(h:op≠.In:=by decide)(h2:op≠.NotIn:=by decide):J3 op b=false:=by
 have e1:(op==CmpOp.In)=false:=by cases op <;>first |rfl |exact absurd rfl h
 have e2:(op==CmpOp.NotIn)=false:=by cases op <;>first |rfl |exact absurd rfl h2
 cases b <;>simp[J3,e1,e2]
theorem zD{op:Qm}{r:R2}(ho:OpR X (Hl op) r)(ha:PE X a ta)(hb:PE X b tb)(hm:J3 op b=false):PE X (.Compare a [op] [b] QB) (tOp r ta tb):=by
 intro pins s σ H Q I h;exact wpAny_Compare1 (Da ha hb I h λv u s2 x y H2 I2 rx ry q=>ho pins s2 σ H2 x y v u Q I2 rx ry q) hm
def DT(t:TE):TT:=λσ H Q=>t σ H λx H'=>∃k,x=.bl k/\Q k H'
theorem zG{op:Qm}{r:R2}(ho:OpR X (Hl op) r)(ha:PE X a ta)(hb:PE X b tb)(hm:J3 op b=false):PT X (.Compare a [op] [b] QB) (DT (tOp r ta tb)):=by
 intro pins s σ H Q I h
 refine wpAny_isTrue_Compare1 (thn (ha pins s σ H _ I h) λv s1 ⟨x,H1,I1,r1,q1⟩=>thn (hb pins s1 σ H1 _ I1 q1) λu s2 ⟨y,H2,I2,r2,q2⟩=>
  thn (ho pins s2 σ H2 x y v u _ I2 r1 r2 q2) λc s3 ⟨z,H3,I3,r3,k,e,q3⟩=>?_) hm
 subst e;cases r3;exact Ii ⟨H3,I3,q3⟩
theorem rZ:(sizeLine:Nat)<2 ^ 63:=by rw[Hv];decide
theorem eQ{x:V}{us:List EW}(r:aM [x] us):∃u,us=[u]/\bi x u:=by
 cases r with
 |cons r1 r2=>cases r2;exact⟨_,rfl,r1⟩
theorem jm{x y:V}{us:List EW}(r:aM [x,y] us):∃u w',us=[u,w']/\bi x u/\bi y w':=by
 cases r with
 |cons r1 r2=>
  cases r2 with
  |cons r3 r4=>cases r4;exact⟨_,_,rfl,r1,r3⟩
theorem xy:de X (.builtin "abs") (λxs H Q=>∃i,xs=[.int i]∧Q (.int (if i<0 then -i else i)) H):=by
 intro pins s σ H xs us Q I r h;obtain⟨i,rfl,q⟩:=h;obtain⟨u,rfl,t,rfl⟩:=eQ r;exact call_abs_int λu tk=>⟨.int (if i<0 then -i else i),H,I.tok _,⟨_,rfl⟩,q⟩
end
structure Dc(h:GV)(x dx C:E6)(mA:Str->Option EW):Prop where
 obj:h.get? x=some (Mx C dx)
 ns:h.Ns1 dx mA
 ne:dx≠x
theorem vM{h:GV}{dx:E6}{mA:Str->Option EW}(n:h.Ns1 dx mA):∃od,h.get? dx=some od/\∀name,Nf name od=some (mA name):=by
 obtain⟨o,es,ep,ho,hd,hk,_,hm⟩:=n;refine⟨o,ho,λname=>?_⟩
 have e:=hm name;unfold nsFind findBy at e;rw[<-Array.find?_toList]at e;unfold Nf;rw[hd];dsimp only;split
 ·rename_i y q
  rw[q]at e;exact congrArg some e
 ·rename_i q
  rw[q]at e
  have a:es.toList.any (·.refKey)=false:=by
   rw[List.any_eq_false];intro y hy;obtain⟨z,t,hkey⟩:=hk y (KY.mp hy);simp[DictEntry.refKey,hkey]
  have a':¬ es.toList.any (·.refKey)=true:=by rw[a];exact FA
  rw[if_neg a'];exact congrArg some e
theorem Dc.look{h:GV}{x dx C:E6}{mA:Str->Option EW}(I:Dc h x dx C mA):∃od,PySem.W.InstAt h x (Mx C dx) C (some od)/\∀name,Nf name od=some (mA name):=
 let ⟨od,ho,hl⟩:=vM I.ns
 ⟨od,⟨I.obj,rfl,rfl,ho⟩,hl⟩
variable {dx:E6}{C:E6}
section
variable {prog:E8}{w:FE}{A:FC}{K:ER}{x f:E6}{mA:Str→Option EW}{name:Str}{v:EW}
end
def putF(f:Str)(v:V):List (Str×V)->List (Str×V)
 |[]=>[(f,v)]
 | (g,x)::r=>if g=f then (g,v)::r else (g,x)::putF f v r
section
variable {P:E8}{w:FE}{h:GV}{a:E6}{fs fs':List (Str×V)}
theorem zV(hok:HOk P w H h)(e:H a=some (.ins C dx fs)):∃mA,Dc h a dx C mA/\(∀f,B1 (fs.lookup f) (mA f))/\P8 mA (fs.map (·.1))/\fs.length<=1000/\H dx=some (.own a):=by
 obtain⟨d,z,ne,ob,mA,n,r,q⟩:=(show cu P w H h a (.ins C dx fs) from hok a _ e)
 exact⟨mA,⟨ob,n,ne⟩,r,q,z,d⟩
end
structure Cls(K:ER)(C:E6):Prop where
 pg:Oa K C Str.empty=true
 hd:PySem.W.hasDictIn K C=true
 po:PySem.W.plainOver K C=true
 sa:Kz K (.ref C) "__setattr__"=some (some (.builtin "object.__setattr__"))
theorem Cls.get{K:ER}{C:E6}(c:Cls K C)(f:Str):Oa K C f=true:=c.pg
structure Con(K:ER)(C:E6)(f:Str)(v:V)(u:EW):Prop where
 at_:Kz K (.ref C) f=some (some u)
 rel:bi v u
 get:NP K u "__get__"=some none
 cp:PySem.W.copiedNames.contains f=false
structure Ex(K:ER)(C:E6)(m:Str)(f:E6):Prop where
 at_:Kz K (.ref C) m=some (some (.ref f))
 fn:P_ K (.ref f)=true
 kp:G4 K (.ref f)=true
section
variable {X:Cx}{a:E6}{fs:List (Str×V)}{f:Str}{v:V}{A:FC}
variable {o Rg:Expr}{QP tpos:Pos}{tv:TE}
end
section
variable {X:Cx}{A:FC}{Q:EW→EU→Prop}{c:EW}{b:Bool}
inductive jw (K:ER) (H:Hp):V->EW->Prop where
 |non:jw K H .non (.type "NoneType")
 |bl (x:Bool):jw K H (.bl x) (.type "bool")
 |int (i:Int):jw K H (.int i) (.type "int")
 |str (x:Str):jw K H (.str x) (.type "str")
 |flt (x:UInt64):jw K H (.flt x) (.type "float")
 |lst {a:E6}{xs:List V} (e:H a=some (.lst xs)):jw K H (.ref a) (.type "list")
 |frz {a:E6}{o:Obj}{xs:List V} (e:H a=some (.frz o (.lst xs))):jw K H (.ref a) (.type "list")
 |tup {a:E6}{xs:List V} (e:H a=some (.tup xs)):jw K H (.ref a) (.type "tuple")
 |dK {a:E6}{QW:List (Key×V)} (e:H a=some (.dK QW)):jw K H (.ref a) (.type "dict")
 |dT {a:E6}{QW:List (List Key×V)} (e:H a=some (.dT QW)):jw K H (.ref a) (.type "dict")
 |ins {a C dx:E6}{fs:List (Str×V)} (e:H a=some (.ins C dx fs)) (cl:Cls K C) (ha:Kz K (.ref C) "__class__"=some (some (.builtin "object.__class__")))
   (hn:NP K (.builtin "object.__class__") "__get__"=some (some (.builtin "getset_descriptor.__get__"))) (RB:PySem.W.takesIn K (.builtin "object.__class__")=some true)
   (hm:K0 K C (.type "object")=some true):jw K H (.ref a) (.ref C)
theorem dJ{x:V}{u t:EW}(I:Inv X pins σ H s)(rx:bi x u)(ty:jw X.K H x t)(e:FU X.K t c=some b)(h:∀tk,Q (.bool b) {s with toks:=tk }):
  Fy (FF X.prog X.w) A (call (.builtin "isinstance") [u,c]) Q E s:=by
 cases ty with
 |non=>cases (show u=FX from rx);exact Gx PySem.W.kitx_none I.kIn True.intro e (λz=>nomatch z) h
 |bl y=>cases (show u=GF y from rx);exact Gx PySem.W.kitx_bool I.kIn True.intro e (λz=>nomatch z) h
 |int i=>obtain⟨t,q⟩:=(show ∃t,u=Gv i t from rx);cases q;exact Gx PySem.W.kitx_int I.kIn True.intro e (λz=>nomatch z) h
 |str y=>obtain⟨t,q⟩:=(show ∃t,u=GX y t from rx);cases q;exact Gx PySem.W.kitx_str I.kIn True.intro e (λz=>nomatch z) h
 |flt y=>obtain⟨t,q⟩:=(show ∃t,u=Ql y t from rx);cases q;exact Gx PySem.W.kitx_float I.kIn True.intro e (λz=>nomatch z) h
 | @lst a xs ea=>
  cases (show u=FG a from rx)
  obtain⟨_,_,n,_,h1⟩:=(show cu X.prog X.w H s.heap a (.lst xs) from I.hok a _ ea)
  exact Gx LI I.kIn ⟨_,h1,rfl⟩ e (λz=>nomatch z) h
 | @frz a ob xs ea=>
  cases (show u=FG a from rx)
  obtain⟨_,_,_,n,_,h1⟩:=(show cu X.prog X.w H s.heap a (.frz ob (.lst xs)) from I.hok a _ ea)
  exact Gx LI I.kIn ⟨_,h1,rfl⟩ e (λz=>nomatch z) h
 | @tup a xs ea=>
  cases (show u=FG a from rx)
  obtain⟨_,_,_,p⟩:=(show cu X.prog X.w H s.heap a (.tup xs) from I.hok a _ ea)
  obtain⟨o,h1,h2,_⟩:=p;exact Gx Nt I.kIn ⟨o,h1,h2⟩ e (λz=>nomatch z) h
 | @dK a QW ea=>
  cases (show u=FG a from rx)
  obtain⟨_,_,vs,_,p⟩:=(show cu X.prog X.w H s.heap a (.dK QW) from I.hok a _ ea)
  obtain⟨o,es,ep,h1,h2,_⟩:=p;exact Gx NQ I.kIn ⟨o,h1,h2.1⟩ e (λz=>nomatch z) h
 | @dT a QW ea=>
  cases (show u=FG a from rx)
  obtain⟨_,_,xs,_,o,es,ep,h1,h2,_⟩:=(show cu X.prog X.w H s.heap a (.dT QW) from I.hok a _ ea)
  exact Gx NQ I.kIn ⟨o,h1,h2.1⟩ e (λz=>nomatch z) h
 | @ins a C dx fs ea cl ha hn RB hm=>
  cases (show u=FG a from rx)
  obtain⟨mA,O,_⟩:=zV I.hok ea;obtain⟨od,J,_⟩:=O.look;exact Gx (PySem.W.kitx_own (cl.get _) cl.hd ha hn RB hm) I.kIn J e (λz=>nomatch z) h
end
structure cU(k:Nat)(A:FC):Prop where
 hd:A.handled=none
 dp:A.depth+3*k+5<O1
 un:A.units+16*k+200<JQ
theorem cU.mono{j k:Nat}{A:FC}(r:cU k A)(h:j<=k):cU j A:=⟨r.hd,by have:=r.dp;lia,by have:=r.un;lia⟩
theorem cU.deeper{k:Nat}{A:FC}(r:cU (k+1) A)(env:Env):cU k (A.deeper env):=
 ⟨r.hd,by have:=r.dp;show A.depth+1+3*k+5<_;lia,by have:=r.un;show A.units+3+16*k+200<_;lia⟩
theorem cU.depth{k:Nat}{A:FC}(r:cU k A):A.depth<O1:=by have:=r.dp;lia
def Ef:TA:=λ_ H Q=>Q [] H
def DQ(ta:TE)(tr:TA):TA:=λσ H Q=>ta σ H λx H1=>tr σ H1 λxs H2=>Q (x::xs) H2
variable {es:List Expr}
section
variable {X:Cx}{t:TA}
theorem dU:PA X [] Ef:=λ_ _ _ _ H Q I h=>Js ⟨[],H,I,.nil,h⟩
theorem bV(ha:PE X e te)(hr:PA X es t)(hs:E4 (e::es) X.env=(false,IJ e X.env)::E4 es X.env:=by rfl):PA X (e::es) (DQ te t):=by
 intro QB pins s σ H Q I h;rw[hs];show Fy _ _ (On ((false,IJ e X.env)::HV QB (E4 es X.env))) _ _ s;refine Je (thn (ha pins s σ H _ I h) λu s1 ⟨x,H1,I1,r1,q1⟩=>?_)
 exact thn (hr QB pins s1 σ H1 _ I1 q1) λus s2 ⟨xs,H2,I2,r2,q2⟩=>⟨x::xs,H2,I2,.cons r1 r2,q2⟩
def Eh(t:TA):TE:=λσ H Q=>t σ H λxs H1=>xs.length<=sizeLine/\∀p,H1 p=none->Q (.ref p) (upd H1 p (.tup xs))
def EI(t:TA):TE:=λσ H Q=>t σ H λxs H1=>xs.length<=sizeLine/\∀p,H1 p=none->Q (.ref p) (upd H1 p (.lst xs))
theorem ye{x1}(h:PA X es t):PE X (.Tuple es x1 QB) (Eh t):=by
 intro pins s σ H Q I hq;refine wpAny_Tuple_spliced (thn (h QB pins s σ H _ I hq) λus s1 ⟨xs,H1,I1,r,z,q⟩=>⟨by rw[<-r.length];exact z,?_⟩)
 have hf:H1 s1.heap.objs.size=none:=I1.hok.fresh (E2 _);refine⟨.ref s1.heap.objs.size,upd H1 s1.heap.objs.size (.tup xs),I1.laid (t':=s1.toks) (λb u e=>EV _ e) (E2 _) ?_,rfl,q _ hf⟩
 exact⟨z,us,r,⟨_,Fe _ rfl,rfl,_,rfl⟩⟩
theorem CA(h:PA X es t):PE X (.List es QB) (EI t):=by
 intro pins s σ H Q I hq;refine wpAny_List_spliced (thn (h QB pins s σ H _ I hq) λus s1 ⟨xs,H1,I1,r,z,q⟩=>⟨by rw[<-r.length];exact z,?_⟩)
 have hf:H1 s1.heap.objs.size=none:=I1.hok.fresh (E2 _);refine⟨.ref s1.heap.objs.size,upd H1 s1.heap.objs.size (.lst xs),I1.laid (t':=s1.toks) (λb u e=>EV _ e) (E2 _) ?_,rfl,q _ hf⟩
 exact⟨z,us,0,r,Fe _ rfl⟩
end
abbrev Sp:=List V->Hp->VK->XK->Prop
abbrev CXT:=List Env->Hp->EU->XK->EW->EU->Prop
structure w_(P:E8)(w:FE)(K:ER)(mg:Str->Option EW)(base:GV)(A:FC)(outer:List Env)(s:EU)(H:Hp):Prop where
 frames:A.frames=some outer
 mod:Mod K mg base
 bs:∀b o,base.get? b=some o->s.heap.get? b=some o/\H b=none
 bsz:base.objs.size<=s.heap.objs.size
 funs:s.heap.FunFrames base outer
 frf:∀b∈frs outer,H b=none
 hok:HOk P w H s.heap
 bare:LU s.gens
def CE(outer:List Env)(P:E8)(w:FE)(H:Hp)(s:EU)(Q:VK)(u:EW)(s':EU):Prop:=
 ∃v H',s'.os=s.os/\LU s'.gens/\Un (frs outer) [] H H' s.heap s'.heap/\HOk P w H' s'.heap/\bi v u/\Q v H'
def CR(CX:CXT)(outer:List Env)(P:E8)(w:FE)(H:Hp)(s:EU)(Q:VK)(E:XK)(r:Ng)(s':EU):Prop:=
 match r with
 | .ok (.ret u)=>CE outer P w H s Q u s'
 | .ok _=>False
 | .error e=>CX outer H s E e s'
structure ba(P:E8)(w:FE)(K:ER)(mg:Str->Option EW)(base:GV)(CX:CXT)(k:Nat)(f:E6)(fd:Gn)(ps:List Str)(sp:Sp):Prop where
 len:∀vs H Q E,sp vs H Q E->vs.length=ps.length
 run:∀(A:FC) (outer:List Env) (s:EU) (H:Hp) (args:Args) (us:List EW) (vs:List V) (Q:VK) (E:XK),cU k A->w_ P w K mg base A outer s H->NR s fd args (ps.zip us)->aM vs us->sp vs H Q E->
  Jc (FF P w) A (.call (.ref f) args) (CR CX outer P w H s Q E) s
theorem ba.mono{P:E8}{w:FE}{K:ER}{mg:Str->Option EW}{base:GV}{CX:CXT}{j k:Nat}{f:E6}{fd:Gn}{ps:List Str}{sp:Sp}(F:ba P w K mg base CX j f fd ps sp)(h:j<=k):
  ba P w K mg base CX k f fd ps sp:=⟨F.len,λA outer s H args us vs Q E hr=>F.run A outer s H args us vs Q E (hr.mono h)⟩
section
variable {X:Cx}{s':EU}
theorem Inv.env0(I:Inv X pins σ H s):w_ X.prog X.w X.K X.mg X.base X.A X.stack s H:=
 ⟨I.ok.frames,I.ok.mod,I.bs,GY I.ok.bsz I.sz,I.stack,I.stkFree,I.hok,I.bare⟩
theorem Inv.after{Q:VK}{u:EW}(I:Inv X pins σ H s)(h:CE X.stack X.prog X.w H s Q u s'):EP X pins σ Q u s':=by
 obtain⟨v,H',os,bare,un,hok,r,q⟩:=h;obtain⟨hh,g,d,t,os'⟩:=s';obtain rfl:os'=s.os:=os;exact⟨v,H',I.call (h':=hh) (g':=g) (d':=d) (t':=t) (ch:=[]) un hok bare (λb z=>absurd z (by simp)),r,q⟩
end
def DY(sp:Sp)(Tu:List V)(E:XK)(t:TA):TE:=λσ H Q=>t σ H λvs H1=>sp (vs++Tu) H1 Q E
def cw(K:ER)(fd:Gn)(ps:List Str)(ds:List EW):Prop:=
 ∀(s:EU) (us:List EW),K.In s.heap->(us++ds).length=ps.length->NR s fd ⟨us,[]⟩ (ps.zip (us++ds))
theorem cw.all{K:ER}{fd:Gn}{ps:List Str}(h:∀us:List EW,us.length=ps.length->Lw fd ⟨us,[]⟩=pure (ps.zip us)):cw K fd ps []:=λs us _ hl=>by
 rw[GL]at hl |-;exact .of_eq (h us hl)
def fi(CX:CXT)(X:Cx)(E:XK):Prop:=∀(pins:List (E6×Obj)) (σ:St) (H:Hp) (s:EU) (e:EW) (s':EU),Inv X pins σ H s->CX X.stack H s E e s'->X.xe e s'
section
variable {X:Cx}{CX:CXT}{k:Nat}{f:E6}{fd:Gn}{ps:List Str}{sp:Sp}{Tu:List V}{ds:List EW}{E:XK}{x m:Str}{p QX:Pos}{o:Expr}{t:TA}
theorem CJ{pins:List (E6×Obj)}{σ:St}{H:Hp}{s:EU}{Q:VK}{us:List EW}{vs:List V}(F:ba X.prog X.w X.K X.mg X.base CX k f fd ps sp)(hr:cU k X.A)(hb:cw X.K fd ps ds)(hd:aM Tu ds)(hx:fi CX X E)
  (I:Inv X pins σ H s) (r:aM vs us) (h:sp (vs++Tu) H Q E):Fy (FF X.prog X.w) X.A (call (.ref f) us) (EP X pins σ Q) X.xe s:=by
 have r2:aM (vs++Tu) (us++ds):=r.append hd;have hl:(us++ds).length=ps.length:=by rw[<-r2.length];exact F.len _ _ _ _ h
 refine M4 (JU (F.run X.A X.stack s H ⟨us,[]⟩ (us++ds) (vs++Tu) Q E hr I.env0 (hb s us I.kIn hl) r2 h) λr s' hq=>?_)
 cases r with
 |error e=>exact hx pins σ H s e s' I hq
 |ok fl=>
  cases fl with
  |ret u=>exact I.after hq
  |next=>exact False.elim hq
  |brk=>exact False.elim hq
  |cont=>exact False.elim hq
theorem iQ(F:ba X.prog X.w X.K X.mg X.base CX k f fd ps sp)(hr:cU k X.A)(hg:Gl X x)(hm:X.mg x=some (.ref f))(hk:G4 X.K (.ref f)=true)(hb:cw X.K fd ps ds)(hd:aM Tu ds)(hx:fi CX X E)
  (ha:PA X (e::es) t) (Ru:(x==("__debug__":Str))=false:=by decide) (he:E4 (e::es) X.env=(false,IJ e X.env)::E4 es X.env:=by rfl) (QZ:(HV QB (E4 es X.env)).any (·.1)=false:=by rfl):
  PE X (.Call (.Name x p) (e::es) [] QB) (DY sp Tu E t):=by
 intro pins s σ H Q I h;refine GH (io I hg hm ?_ Ru);refine Nu (h₀:=X.base) I.ok.mod.kin hk (thn (ha QB pins s σ H _ I h) λus s1 ⟨vs,H1,I1,r,q⟩=>⟨I1.kIn,?_⟩) he QZ
 exact CJ F hr hb hd hx I1 r q
structure Mk(K:ER)(C f:E6):Prop where
 makes:PySem.W.makesIn K C=true
 init:Kz K (.ref C) "__init__"=some (some (.ref f))
 fn:P_ K (.ref f)=true
 kp:G4 K (.ref C)=true
variable {ks:List Str}{kpos:Pos}{kws:List K_}{tk:TA}{nm:Option Str}
structure Ej(K:ER)(fd:Gn)(ps ks:List Str)(g:List EW->List EW->List EW)(gV:List V->List V->List V):Prop where
 to:∀(s:EU) (us ws:List EW),K.In s.heap->(g us ws).length=ps.length->NR s fd ⟨us,ks.zip ws⟩ (ps.zip (g us ws))
 rel:∀{vs:List V}{us:List EW}{zs:List V}{ws:List EW},aM vs us->aM zs ws->aM (gV vs zs) (g us ws)
variable {g:List EW→List EW→List EW}{gV:List V→List V→List V}
end
structure av(N P:List Str)(sc:Lk):Prop where
 kind:sc.kind=.function
 co:sc.isCoroutine=false
 gen:sc.isGenerator=false
 nd:N.Nodup
 pre:N.take P.length=P
 par:∀x∈P,sc.names.lookup x=some .local\/sc.names.lookup x=some .cell
 nofree:∀y∈sc.names,y.2≠.free
theorem mH{kindOf:Str->Option K2}{x:Str}:∀{binds:List (Str×EW)}{m:Str->Option EW},(∀v,(x,v) ∉ binds)->Qn kindOf binds m x=m x
 |[],_,_=>rfl
 | (n,v)::r,m,h=>by
  unfold Qn;rw[mH λw hw=>h w (ET _ hw)]
  split
  ·have:x≠n:=by rintro rfl;exact h v E3
   simp[this]
  ·rfl
theorem l9{kindOf:Str->Option K2}{x:Str}:∀{binds:List (Str×EW)}{m:Str->Option EW},(∀v,(x,v) ∉ binds)->Qo kindOf binds m x=m x
 |[],_,_=>rfl
 | (n,v)::r,m,h=>by
  unfold Qo;rw[l9 λw hw=>h w (ET _ hw)]
  split
  ·rfl
  ·have:x≠n:=by rintro rfl;exact h v E3
   simp[this]
theorem my{kindOf:Str->Option K2}{x:Str}{v:EW}:∀{P:List Str}{vs:List EW}{i:Nat}{m:Str->Option EW},P.Nodup->P[i]?=some x->vs[i]?=some v->kindOf x=some .local->
  Qn kindOf (P.zip vs) m x=some v
 |[],_,_,_,_,h,_,_=>by simp at h
 |_::_,[],_,_,_,_,h,_=>by simp at h
 |p::P,w::vs,0,m,nd,h1,h2,hk=>by
  simp at h1 h2;subst h1;subst h2;show Qn kindOf ((p,w)::P.zip vs) m p=_;unfold Qn;rw[mH λv hv=>(HP.mp nd).1 (J4 hv).1,if_pos hk]
  simp
 |p::P,w::vs,i+1,m,nd,h1,h2,hk=>by
  show Qn kindOf ((p,w)::P.zip vs) m x=_;unfold Qn;exact my (i:=i) (HP.mp nd).2 (by simpa using h1) (by simpa using h2) hk
theorem lZ{kindOf:Str->Option K2}{x:Str}{v:EW}:∀{P:List Str}{vs:List EW}{i:Nat}{m:Str->Option EW},P.Nodup->P[i]?=some x->vs[i]?=some v->kindOf x≠some .local->
  Qo kindOf (P.zip vs) m x=some v
 |[],_,_,_,_,h,_,_=>by simp at h
 |_::_,[],_,_,_,_,h,_=>by simp at h
 |p::P,w::vs,0,m,nd,h1,h2,hk=>by
  simp at h1 h2;subst h1;subst h2;show Qo kindOf ((p,w)::P.zip vs) m p=_;unfold Qo;rw[l9 λv hv=>(HP.mp nd).1 (J4 hv).1,if_neg hk]
  simp
 |p::P,w::vs,i+1,m,nd,h1,h2,hk=>by
  show Qo kindOf ((p,w)::P.zip vs) m x=_;unfold Qo;exact lZ (i:=i) (HP.mp nd).2 (by simpa using h1) (by simpa using h2) hk
def start(N:List Str)(vs:List V):St:=vs.map some++Gc (N.length-vs.length) none
def d_(CX:CXT)(P:E8)(w:FE)(K:ER)(mg:Str->Option EW)(base:GV)(N:List Str)(QE:Str)(QA:Lk)(f:E6)(cd:EW)(A:FC)(outer:List Env)(s:EU)(H:Hp)(E:XK):Cx where
 prog:=P
 w:=w
 K:=K
 mg:=mg
 base:=base
 A:=A.deeper (JV QE QA s.heap.objs.size f cd)
 N:=N
 s₀:=s
 H₀:=H
 env:=JV QE QA s.heap.objs.size f cd
 outer:=outer
 stack:=JV QE QA s.heap.objs.size f cd::outer
 ex:=[]
 calm:=true
 fn:=λ_=>true
 pn:=[]
 xe:=λe s'=>Fy (FF P w) (A.deeper (JV QE QA s.heap.objs.size f cd)) (leaving (JV QE QA s.heap.objs.size f cd) e) (λ_ s''=>CX outer H s E e s'') (λe' s''=>CX outer H s E e' s'') s'
theorem qw{sc:Lk}{n:Nat}{x:Str}(h:sc.names.lookup x=some .cell):∃c,(Oq n sc.names []).lookup x=some c:=by
 have q:=Ki sc.names n [] (.inl h);exact Hm.mp q
theorem vx{CX:CXT}{P:E8}{w:FE}{K:ER}{mg:Str->Option EW}{base:GV}{N ps:List Str}{QE:Str}{QA:Lk}{f:E6}{cd:EW}{A:FC}{outer:List Env}{s s1:EU}{H:Hp}{E:XK}{us:List EW}{vs:List V}
  (S:av N ps QA) (hd:A.handled=none) (e0:w_ P w K mg base A outer s H) (hl:vs.length=ps.length) (r:aM vs us)
  (x:InCallC s s.heap.objs.size (Qn (JV QE QA s.heap.objs.size f cd).kindOf (ps.zip us) λ_=>none) (Oq (s.heap.objs.size+1) QA.names []) (Qo (JV QE QA s.heap.objs.size f cd).kindOf (ps.zip us) λ_=>none) s1):
  Inv (d_ CX P w K mg base N QE QA f cd A outer s H E) [] (start N vs) H s1:=by
 have QZ:ps.length<=N.length:=by have:=congrArg Os S.pre;rw[I_]at this;lia
 obtain⟨h1,tk,rfl,hk⟩:=x.done;have noA:∀b:E6,b ∉ (d_ CX P w K mg base N QE QA f cd A outer s H E).ex:=λb z=>absurd (show b∈([]:List E6) from z) (by simp)
 refine⟨⟨e0.mod,S.kind,rfl,rfl,E2 _,λy z c h1 h2=>?_,λy hy=>?_,λy c _ h=>?_,λ_=>hd,Around.frames_deeper e0.frames,.inr ⟨rfl,rfl⟩,λb z=>absurd z (noA b),e0.bs,e0.bsz,λb _ _=>noA b,λb z=>absurd z (noA b),e0.funs,e0.frf⟩,
  rfl,e0.bare,Un.kept hk,⟨_,x.toInCall.ns,λi y v h1 h2 h3=>?_⟩,λy c h=>⟨_,x.cell y c h⟩,e0.hok.fresh (E2 _),λy c h=>?_,λp hp=>absurd (show p∈([]:List (E6×Obj)) from hp) (by simp),e0.hok.kept hk,?_⟩
 ·exact name_of_addr x.apart (Hj h1) (Hj h2)
 ·have hy:QA.names.lookup y=some .cell\/QA.names.lookup y=some .free:=hy;rcases hy with hy |hy
  ·exact qw hy
  ·exact absurd rfl (S.nofree _ (Hj hy))
 ·exact Gw (x.above y c (Hj h))
 ·have hi:i<vs.length:=by
   unfold start at h2;by_cases hi:i<vs.length
   ·exact hi
   ·rw[Fq (by simpa using hi)]at h2
    rw[H_]at h2;split at h2 <;>cases h2
  have ha:vs[i]?=some v:=by
   unfold start at h2;rw[Fp (by simpa using hi),E7]at h2
   cases e:vs[i]? with
   |none=>rw[e]at h2;cases h2
   |some a=>rw[e]at h2;cases h2;rfl
  obtain⟨u,hu,rv⟩:=r.get ha
  have hp:ps[i]?=some y:=by
   rw[<-S.pre,Hn (by lia)];exact h1
  have ndP:ps.Nodup:=by rw[<-S.pre];exact S.nd.sublist (Kq _ _)
  refine⟨u,rv,?_⟩;rcases S.par y (Fs hp) with k |k
  ·exact .inl ⟨k,my ndP hp hu k⟩
  ·obtain⟨c,e⟩:=qw (n:=s.heap.objs.size+1) k;refine .inr ⟨.inl k,c,e,?_⟩;have q:=x.cell y c e;rw[lZ ndP hp hu (by show QA.names.lookup y≠_;rw[k];decide)]at q
   exact q
 ·exact e0.hok.fresh (Gw (x.above y c (Hj h)))
 ·unfold start;show _=N.length;rw[Fx,ES,Iw];lia
theorem Bz{CX:CXT}{P:E8}{w:FE}{K:ER}{mg:Str->Option EW}{base:GV}{k:Nat}{f:E6}{name QE:Str}{RY:Arguments}{QM:List HL}{QA:Lk}{dV kV Rm pm QK ct oc:EW}{an od:Option E6}
  {R7:Array (Option EW)}{N ps:List Str}{sp:Sp} (lk:K.lookup f=some ⟨oc,od,.func (HA name QE RY QM QA dV kV Rm pm an QK ct),R7⟩) (Ro:KA K QK QE=true) (S:av N ps QA)
  (len:∀vs H Q E,sp vs H Q E->vs.length=ps.length)
  (Rh:∀(A:FC) (outer:List Env) (s:EU) (H:Hp) (vs:List V) (Q:VK) (E:XK),cU k (A.deeper (JV QE QA s.heap.objs.size f QK))->sp vs H Q E->
   ∃t,PSs (d_ CX P w K mg base N QE QA f QK A outer s H E) QM t/\t {nx:=λ_ H'=>Q .non H',rt:=Q } (start N vs) H):
  ba P w K mg base CX (k+1) f (HA name QE RY QM QA dV kV Rm pm an QK ct) ps sp:=by
 refine⟨len,λA outer s H args us vs Q E hr e0 hb r RI=>?_⟩
 have hl:=len _ _ _ _ RI;have KX:K.In s.heap:=e0.mod.kin.keeps λb o e=>(e0.bs b o e).1
 have R8:s.heap.NoLimit:=e0.mod.nolimit.keeps λb o e=>(e0.bs b o e).1
 have hkind:∀y∈ps.zip us,QA.names.lookup y.1=some .local\/(QA.names.lookup y.1=some .cell/\((Oq (s.heap.objs.size+1) QA.names []).lookup y.1).isSome=true):=λ⟨n,v⟩ hy=>by
  rcases S.par n (J4 hy).1 with q |q
  ·exact .inl q
  ·exact .inr ⟨q,Ki _ _ _ (.inl q)⟩
 refine codeAny_call_function hr.depth (KX _ _ lk) rfl S.co S.gen rfl (PySem.W.codeRec_of KX Ro) (hb _ _ _ _ ?_);refine wpAny_newFunctionEnv_cells S.kind hkind λenv he s1 x=>?_
 subst he;refine⟨R8.keeps x.toInCall.keep,codeAny_func ?_⟩;obtain⟨t,ht,hq⟩:=Rh A outer s H vs Q E (hr.deeper _) RI;have I:Inv (d_ CX P w K mg base N QE QA f QK A outer s H E) [] (start N vs) H s1:=vx S hr.hd e0 hl r x;refine Jr (ht [] s1 (start N vs) H _ I hq) (λfl s' hs=>?_) λe s' hs=>hs
 have fin:∀{QI:St}{H':Hp}{v:V}{u:EW},Inv (d_ CX P w K mg base N QE QA f QK A outer s H E) [] QI H' s'->bi v u->Q v H'->CE outer P w H s Q u s':=
  λ{QI H' v u} J rv q=>⟨v,H',J.os,J.bare,J.base,J.hok,rv,q⟩
 cases fl with
 |ret u=>
  obtain⟨v,QI,H',J,rv,q⟩:=hs;exact fin J rv q
 |next=>
  obtain⟨QI,H',J,q⟩:=hs;exact fin (v:=V.non) (u:=FX) J rfl q
 |brk=>
  obtain⟨_,_,_,q⟩:=hs;exact False.elim q
 |cont=>
  obtain⟨_,_,_,q⟩:=hs;exact False.elim q
section
variable {X:Cx}{x:Str}{p:Pos}{t:TA}{id T:String}{r:List V→Hp→VK→Prop}
def tCB(r:List V->Hp->VK->Prop)(t:TA):TE:=λσ H Q=>t σ H λvs H1=>r vs H1 Q
theorem iP(hc:de X (.builtin id) r)(hg:Gl X x)(hm:X.mg x=none)(hv:GQ x=some (.builtin id))(ha:PA X (e::es) t)(hn:x≠"__name__":=by decide)(Ru:(x==("__debug__":Str))=false:=by decide)
  (he:E4 (e::es) X.env=(false,IJ e X.env)::E4 es X.env:=by rfl) (QZ:(HV QB (E4 es X.env)).any (·.1)=false:=by rfl):PE X (.Call (.Name x p) (e::es) [] QB) (tCB r t):=by
 intro pins s σ H Q I h;refine GH (cV I hg hm hv ?_ hn Ru);exact PyProof.Rows.callWith_builtin1 (thn (ha QB pins s σ H _ I h) λus s1 ⟨vs,H1,I1,r1,q1⟩=>hc pins s1 σ H1 vs us Q I1 r1 q1) he QZ
theorem l8(hc:de X (.type T) r)(hg:Gl X x)(hm:X.mg x=none)(hv:GQ x=some (.type T))(ha:PA X (e::es) t)(hn:x≠"__name__":=by decide)(Ru:(x==("__debug__":Str))=false:=by decide)
  (he:E4 (e::es) X.env=(false,IJ e X.env)::E4 es X.env:=by rfl) (QZ:(HV QB (E4 es X.env)).any (·.1)=false:=by rfl):PE X (.Call (.Name x p) (e::es) [] QB) (tCB r t):=by
 intro pins s σ H Q I h;refine GH (cV I hg hm hv ?_ hn Ru);exact PyProof.Rows.callWith_type1 (thn (ha QB pins s σ H _ I h) λus s1 ⟨vs,H1,I1,r1,q1⟩=>hc pins s1 σ H1 vs us Q I1 r1 q1) he QZ
end
end L2
namespace HT
open PySem PyProof.Rows
section
open PySem.SeqAt
open PySem.AutoSeq1 (wpAny_loadPart')
open PySem.MeetsSeq PySem.MeetsSeq2 PySem.MeetsSeq3
end
section
variable {prog:E8}{w:FE}{A:FC}{E:EW→EU→Prop}{s:EU}
def sIx(n d:Nat):Option Int->Nat
 |none=>d
 |some v=>if v<0 then (v+(n:Int)).toNat else min v.toNat n
theorem sIx_none(n d:Nat):sIx n d none=d:=rfl
end
end HT
namespace L2
open PySem PySem.Spec PyProof.Rows
abbrev TO:=St->Hp->(Option Int->Hp->Prop)->Prop
def PO(X:Cx)(e:Option Expr)(t:TO):Prop:=
 ∀(pins:List (E6×Obj)) (s:EU) (σ:St) (H:Hp) (Q:Option Int->Hp->Prop),Inv X pins σ H s->t σ H Q->
  Fy (FF X.prog X.w) X.A (evalPart e X.env) (λu s'=>∃o H',Inv X pins σ H' s'/\IsPart u o/\Q o H') X.xe s
def Ap:TO:=λ_ H Q=>Q none H
def Du(t:TE):TO:=λσ H Q=>t σ H λx H1=>∃i,x=.int i/\Q (some i) H1
section
variable {X:Cx}{e:Expr}{te:TE}{lo hi:Option Expr}{tl th:TO}{QB p2:Pos}
theorem zT:PO X none Ap:=by
 intro pins s σ H Q I h;rw[Nv];exact EY ⟨none,H,I,.none,h⟩
theorem AS(h:PE X e te):PO X (some e) (Du te):=by
 intro pins s σ H Q I hw;rw[evalPart_some];refine thn (h pins s σ H _ I hw) λu s1 ⟨x,H1,I1,r1,q1⟩=>?_
 obtain⟨i,rfl,q⟩:=q1;obtain⟨t,rfl⟩:=r1;exact⟨some i,H1,I1,.int i t,q⟩
def SlR(X:Cx)(r:V->Option Int->Option Int->Hp->VK->Prop):Prop:=
 ∀(pins:List (E6×Obj)) (s:EU) (σ:St) (H:Hp) (x:V) (v vl vu:EW) (lo hi:Option Int) (sl:E6) (Q:VK),Inv X pins σ H s->bi x v->s.heap.IsSliceOf sl vl vu .none->IsPart vl lo->IsPart vu hi->r x lo hi H Q->
  ∃T id,NS (.type T) "__getitem__"=pure (some (.builtin id))∧s.TypeIs v T∧Fy (FF X.prog X.w) X.A (getItem v (.ref sl)) (EP X pins σ Q) X.xe s
def tSl(r:V->Option Int->Option Int->Hp->VK->Prop)(te:TE)(tl th:TO):TE:=λσ H Q=>te σ H λx H1=>tl σ H1 λl H2=>th σ H2 λu H3=>r x l u H3 Q
theorem zk{r:V->Option Int->Option Int->Hp->VK->Prop}(hr:SlR X r)(he:PE X e te)(hl:PO X lo tl)(hu:PO X hi th):PE X (.Subscript e (.Slice lo hi none p2) QB) (tSl r te tl th):=by
 intro pins s σ H Q I h;refine PL (thn (he pins s σ H _ I h) λv s1 ⟨x,H1,I1,r1,q1⟩=>?_)
 refine wpAny_Slice (thn (hl pins s1 σ H1 _ I1 q1) λvl s2 ⟨l,H2,I2,pl,q2⟩=>thn (hu pins s2 σ H2 _ I2 q2) λvu s3 ⟨u,H3,I3,pu,q3⟩=>?_)
 rw[Nv];refine EY ?_;have I4:Inv X pins σ H3 {s3 with heap:=s3.heap.push {cls:=.type "slice",data:=.fields #[vl,vu,.none] } }:=I3.kept (t':=s3.toks) λb ob q=>EV _ q
 obtain⟨T,id,hT,ht,hg⟩:=hr pins {s3 with heap:=s3.heap.push {cls:=.type "slice",data:=.fields #[vl,vu,.none] } } σ H3 x v vl vu l u s3.heap.objs.size Q I4 r1 (Nw ..) pl pu q3
 show Fy (FF X.prog X.w) X.A (Nx e (.Slice lo hi none p2) v (.ref s3.heap.objs.size)) (EP X pins σ Q) X.xe {s3 with heap:=s3.heap.push {cls:=.type "slice",data:=.fields #[vl,vu,.none] } }
 exact tail_any (ops:=[.ref s3.heap.objs.size,v]) ht hT hg (by with_unfolding_all rfl)
def vh(xs:List V)(lo hi:Option Int):List V:=(xs.drop (HT.sIx xs.length 0 lo)).take (HT.sIx xs.length xs.length hi-HT.sIx xs.length 0 lo)
theorem oX(xs:List V)(lo hi:Option Int):(vh xs lo hi).length<=xs.length:=by
 unfold vh;rw[I_,Ja];lia
end
def ixN(n:Nat)(i:Int):Option Nat:=if 0<=i then (if i<n then some i.toNat else none) else if -(n:Int)<=i then some (i+n).toNat else none
def atI{α:Type}(xs:List α)(i:Int):Option α:=(ixN xs.length i).bind λj=>xs[j]?
theorem Am{n:Nat}{i:Int}{j:Nat}(h:ixN n i=some j):seqIndex? i n=some j/\j<n/\-(n:Int)<=i/\i<n:=by
 unfold ixN at h;by_cases h0:0<=i
 ·rw[if_pos h0]at h;by_cases h1:i<n
  ·rw[if_pos h1]at h;have e:i.toNat=j:=FV h;exact⟨by rw[seqIndex_of h0 h1,e],by lia,by lia,h1⟩
  ·rw[if_neg h1]at h;cases h
 ·rw[if_neg h0]at h;by_cases h1:-(n:Int)<=i
  ·rw[if_pos h1]at h;have e:(i+n).toNat=j:=FV h;exact⟨by rw[seqIndex_neg (by lia) h1,e],by lia,h1,by lia⟩
  ·rw[if_neg h1]at h;cases h
theorem tG{α:Type}{xs:List α}{i:Int}{v:α}(h:atI xs i=some v):∃j,seqIndex? i xs.length=some j/\xs[j]?=some v/\j<xs.length/\-(xs.length:Int)<=i/\i<xs.length:=by
 unfold atI at h;cases e:ixN xs.length i with
 |none=>rw[e]at h;cases h
 |some j=>
  rw[e]at h;obtain⟨h1,h2,h3,h4⟩:=Am e;exact⟨j,h1,h,h2,h3,h4⟩
theorem ut{α:Type}{xs:List α}{j:Nat}{v:α}(h:xs[j]?=some v):atI xs (j:Int)=some v:=by
 have hj:j<xs.length:=(Fb.mp h).1
 have e:ixN xs.length (j:Int)=some j:=by
  unfold ixN;rw[if_pos (by lia),if_pos (by lia)];simp
 unfold atI;rw[e];exact h
def nu(b:Expr):Prop:=∀o i,subscripted b false o i=operate [o,i] (getItem o i)
def IxR(X:Cx)(r:R2):Prop:=
 ∀(Rg slice:Expr) (pins:List (E6×Obj)) (s:EU) (σ:St) (H:Hp) (x y:V) (v u:EW) (Q:VK),Inv X pins σ H s->bi x v->bi y u->r x y H Q->
  subscripted slice false v u=operate [v,u] (getItem v u)->Fy (FF X.prog X.w) X.A (Nx Rg slice v u) (EP X pins σ Q) X.xe s
def MtR(X:Cx)(id:String)(r:V->List V->Hp->VK->Prop):Prop:=
 ∀(pins:List (E6×Obj)) (s:EU) (σ:St) (H:Hp) (x:V) (xs:List V) (v:EW) (us:List EW) (Q:VK),Inv X pins σ H s->bi x v->aM xs us->r x xs H Q->
  Fy (FF X.prog X.w) X.A (call (.builtin id) (v::us)) (EP X pins σ Q) X.xe s
section
variable {X:Cx}{a b:Expr}{ta tb:TE}{QB:Pos}
theorem IxR.or{r r':R2}(h:IxR X r)(h':IxR X r'):IxR X (λx y H Q=>r x y H Q\/r' x y H Q):=by
 intro Rg slice pins s σ H x y v u Q I rx ry q hs;rcases q with q |q
 ·exact h Rg slice pins s σ H x y v u Q I rx ry q hs
 ·exact h' Rg slice pins s σ H x y v u Q I rx ry q hs
theorem A8{r:R2}(hr:IxR X r)(ha:PE X a ta)(hb:PE X b tb)(hs:nu b):PE X (.Subscript a b QB) (tOp r ta tb):=by
 intro pins s σ H Q I h;exact PL (Da ha hb I h λv u s2 x y H2 I2 rx ry q=>hr a b pins s2 σ H2 x y v u Q I2 rx ry q (hs _ _))
def EH(K:ER):R2:=λx y H Q=>∃p xs i v,x=.ref p/\y=.int i/\SqL K H p xs/\atI xs i=some v/\Q v H
def Et(K:ER):R2:=λx y H Q=>∃p xs i v,x=.ref p/\y=.int i/\SqT K H p xs/\atI xs i=some v/\Q v H
theorem ux:IxR X (EH X.K):=by
 intro Rg slice pins s σ H x y v u Q I rx ry h hs;obtain⟨p,xs,i,z,rfl,rfl,hq,he,q⟩:=h;cases rx;obtain⟨t,rfl⟩:=ry;obtain⟨QC,r,pl,hz⟩:=I.list hq;obtain⟨j,h1,h2,h3,h4,h5⟩:=tG he;obtain⟨w,ew,R6⟩:=r.get h2;have hl:=r.length;have hn:=rZ;have fin:EP X pins σ Q w s:=⟨z,H,I,R6,q⟩;by_cases h0:0<=i
 ·have hj:i.toNat=j:=by
   rw[seqIndex_of h0 h5]at h1;exact FV h1
  exact item_listR pl.isList h0 (by lia) (by rw[hj];simpa using ew) fin hs
 ·have hj:(i+(QC.toArray.size:Int)).toNat=j:=by
   rw[seqIndex_neg (by lia) h4]at h1
   rw[Ff,<-hl];exact FV h1
  exact Mp (x:=w) pl.isList.typeIs slot_list_getitem.lookup
   (wpAny_getItem_list_neg (Q:=λr s'=>r=w/\EP X pins σ Q r s') pl.isList (by lia) (by rw[Ff] <;>lia) (by lia) (by rw[hj];simpa using ew) ⟨rfl,fin⟩) hs
theorem Cn:IxR X (Et X.K):=by
 intro Rg slice pins s σ H x y v u Q I rx ry h hs;obtain⟨p,xs,i,z,rfl,rfl,hq,he,q⟩:=h;cases rx;obtain⟨t,rfl⟩:=ry;obtain⟨QC,r,pl,hz⟩:=I.tuple hq;obtain⟨j,h1,h2,h3,h4,h5⟩:=tG he;obtain⟨w,ew,R6⟩:=r.get h2;have hl:=r.length;have hn:=rZ;have fin:EP X pins σ Q w s:=⟨z,H,I,R6,q⟩
 exact Mp (x:=w) pl.typeIs slot_tuple_getitem.lookup
  (getItem_tuple (j:=j) (Q:=λr s'=>r=w/\EP X pins σ Q r s') pl (by lia) (by lia) (by rw[Ff,<-hl];exact h1) (by simpa using ew) ⟨rfl,fin⟩) hs
theorem n8(lo hi:Option Int)(n:Nat):(Kr lo hi none n).1=((HT.sIx n 0 lo:Nat):Int)/\(Kr lo hi none n).2.1=((HT.sIx n n hi:Nat):Int)/\(Kr lo hi none n).2.2=1:=by
 refine⟨?_,?_,rfl⟩
 ·cases lo with
  |none=>simp[Kr,HT.sIx]
  |some i=>
   simp only[Kr,HT.sIx,Mg,show (1:Int) >0 by decide,if_true]
   by_cases h:i<0
   ·simp only[h,if_true] <;>lia
   ·simp only[h,if_false] <;>lia
 ·cases hi with
  |none=>simp[Kr,HT.sIx]
  |some i=>
   simp only[Kr,HT.sIx,Mg,show (1:Int) >0 by decide,if_true]
   by_cases h:i<0
   ·simp only[h,if_true] <;>lia
   ·simp only[h,if_false] <;>lia
theorem lh(QC:List EW)(lo hi:Option Int):slicePick QC.toArray lo hi none=((QC.drop (HT.sIx QC.length 0 lo)).take (HT.sIx QC.length QC.length hi-HT.sIx QC.length 0 lo)).toArray:=by
 obtain⟨h1,h2,h3⟩:=n8 lo hi QC.toArray.size;unfold slicePick;rw[h1,h2,h3];simp only[sliceRange_one,pick_run,Ff] <;>rfl
def Ez(K:ER):V->Option Int->Option Int->Hp->VK->Prop:=λx lo hi H Q=>∃a xs,x=.ref a/\SqL K H a xs/\∀p,H p=none->Q (.ref p) (upd H p (.lst (vh xs lo hi)))
theorem A5:SlR X (Ez X.K):=by
 intro pins s σ H x v vl vu lo hi sl Q I rx hs pl pu h;obtain⟨a,xs,rfl,hx,q⟩:=h;cases rx;obtain⟨QC,r,ht,hz⟩:=I.list hx;have QJ:=r.length;refine⟨"list",_,slot_list_getitem.lookup,ht.isList.typeIs,?_⟩;refine LJ ht.isList hs pl pu .none (by simp) ?_ (by rw[Ff] <;>lia)
 rw[lh,<-QJ];refine⟨.ref s.heap.objs.size,_,I.laid (t':=s.toks) (o:=.lst (vh xs lo hi)) (λb ob q=>EV _ q) (E2 _) ?_,rfl,q _ (I.hok.fresh (E2 _))⟩
 exact⟨GY (oX xs lo hi) hz,_,0,(r.drop (HT.sIx xs.length 0 lo)).take (HT.sIx xs.length xs.length hi-HT.sIx xs.length 0 lo),Fe _ rfl⟩
def gN:V->Bool
 | .non=>true
 | .bl _=>true
 | .int _=>true
 | .str _=>true
 |_=>false
def eqV:V->V->Bool
 | .non,.non=>true
 | .bl a,.bl b=>a==b
 | .bl a,.int b=>(if a then 1 else 0)==b
 | .int a,.bl b=>a==(if b then 1 else 0)
 | .int a,.int b=>a==b
 | .str a,.str b=>a==b
 |_,_=>false
theorem CB{A:FC}{s:EU}{y x:V}{u v:EW}(ry:bi y u)(rx:bi x v)(fy:gN y=true)(fx:gN x=true):SeqAt.EqAt A s u v (eqV y x):=by
 cases y with
 |non=>
  cases ry;cases x with
  |non=>cases rx;exact SeqAt.EqAt.same _
  |bl b=>cases rx;exact SeqAt.EqAt.none_bool b
  |int b=>obtain⟨t,rfl⟩:=rx;exact SeqAt.EqAt.none_int b t
  |str b=>obtain⟨t,rfl⟩:=rx;exact SeqAt.EqAt.none_str b t
  |_=>exact absurd (show false=true from fx) FA
 |bl a=>
  cases ry;cases x with
  |non=>cases rx;exact SeqAt.EqAt.bool_none a
  |bl b=>cases rx;exact SeqAt.EqAt.bool_bool a b
  |int b=>obtain⟨t,rfl⟩:=rx;exact SeqAt.EqAt.bool_int a b t
  |str b=>obtain⟨t,rfl⟩:=rx;exact SeqAt.EqAt.bool_str a b t
  |_=>exact absurd (show false=true from fx) FA
 |int a=>
  obtain⟨t',rfl⟩:=ry;cases x with
  |non=>cases rx;exact SeqAt.EqAt.int_none a t'
  |bl b=>cases rx;exact SeqAt.EqAt.int_bool a t' b
  |int b=>obtain⟨t,rfl⟩:=rx;exact SeqAt.EqAt.int_int a t' b t
  |str b=>obtain⟨t,rfl⟩:=rx;exact SeqAt.EqAt.int_str a t' b t
  |_=>exact absurd (show false=true from fx) FA
 |str a=>
  obtain⟨t',rfl⟩:=ry;cases x with
  |non=>cases rx;exact SeqAt.EqAt.str_none a t'
  |bl b=>cases rx;exact SeqAt.EqAt.str_bool a t' b
  |int b=>obtain⟨t,rfl⟩:=rx;exact SeqAt.EqAt.str_int a t' b t
  |str b=>obtain⟨t,rfl⟩:=rx;exact SeqAt.EqAt.str_str a t' b t
  |_=>exact absurd (show false=true from fx) FA
 |_=>exact absurd (show false=true from fy) FA
def eqU(x:V)(u:EW):Bool:=match u with
 | .none=>eqV .non x
 | .bool b=>eqV (.bl b) x
 | .int i _=>eqV (.int i) x
 | .str z _=>eqV (.str z) x
 |_=>false
theorem ze{x y:V}{u:EW}(r:bi y u)(f:gN y=true):eqU x u=eqV y x:=by
 cases y with
 |non=>cases r;rfl
 |bl b=>cases r;rfl
 |int i=>obtain⟨t,rfl⟩:=r;rfl
 |str z=>obtain⟨t,rfl⟩:=r;rfl
 |_=>exact absurd (show false=true from f) FA
theorem oA{x:V}:∀{xs:List V}{us:List EW},aM xs us->xs.all gN=true->us.any (eqU x)=xs.any λy=>eqV y x
 |_,_,.nil,_=>rfl
 |y::xs,u::us,.cons r t,f=>by
  rw[K5,GE]at f;rw[PY,PY,ze r f.1,oA t f.2]
theorem kF{A:FC}{s:EU}{x:V}{v:EW}(rx:bi x v)(fx:gN x=true):∀{xs:List V}{us:List EW},aM xs us->xs.all gN=true->∀u∈us,SeqAt.EqAt A s u v (eqU x u)
 |_,_,.nil,_=>λu hu=>by cases hu
 |y::xs,u::us,.cons r t,f=>λu' hu=>by
  rw[K5,GE]at f;rcases E1.mp hu with rfl |hu
  ·rw[ze r f.1];exact CB r rx f.1 fx
  ·exact kF rx fx t f.2 u' hu
def inV(x:V)(xs:List V):Bool:=xs.any λy=>eqV y x
def rIn(K:ER)(neg:Bool):R2:=λx y H Q=>∃p xs,y=.ref p/\(SqL K H p xs\/SqT K H p xs)/\gN x=true/\xs.all gN=true/\Q (.bl (if neg then !inV x xs else inV x xs)) H
theorem vz:OpR X (Hl .In) (rIn X.K false):=by
 intro pins s σ H x y v u Q I rx ry h;obtain⟨p,xs,rfl,hq,fx,fs,q⟩:=h;cases ry;rcases hq with hq |hq
 ·obtain⟨QC,r,pl,hz⟩:=I.list hq;refine SeqAt.in_listAt (eqU x) pl.isList (λw hw=>kF rx fx r fs w (by simpa using hw)) ⟨.bl _,H,I,rfl,?_⟩
  rw[show QC.toArray.any (eqU x)=QC.any (eqU x) by simp,oA r fs]
  exact q
 ·obtain⟨QC,r,pl,hz⟩:=I.tuple hq;refine SeqAt.in_tupleAt (eqU x) pl (λw hw=>kF rx fx r fs w (by simpa using hw)) ⟨.bl _,H,I,rfl,?_⟩
  rw[show QC.toArray.any (eqU x)=QC.any (eqU x) by simp,oA r fs]
  exact q
theorem iB:de X (.builtin "len") (λxs H Q=>∃p ys,xs=[.ref p]∧(SqL X.K H p ys∨SqT X.K H p ys)∧Q (.int ys.length) H):=by
 intro pins s σ H xs us Q I r h;obtain⟨p,ys,rfl,hq,q⟩:=h;obtain⟨u,rfl,rx⟩:=eQ r;cases rx;have hn:=rZ;rcases hq with hq |hq
 ·obtain⟨QC,r',pl,hz⟩:=I.list hq;have QJ:=r'.length;exact Calls.call_len_list pl.isList (by simp only[Ff] <;>lia) ⟨.int ys.length,H,I.tok _,⟨s.toks+1,by rw[Ff,QJ]⟩,q⟩
 ·obtain⟨QC,r',pl,hz⟩:=I.tuple hq;have QJ:=r'.length;exact len_tuple pl (by simp only[Ff] <;>lia) ⟨.int ys.length,H,I.tok _,⟨s.toks+1,by rw[Ff,QJ]⟩,q⟩
theorem ox:de X (.type "list") (λxs H Q=>∃p ys,xs=[.ref p]∧(SqL X.K H p ys∨SqT X.K H p ys)∧∀l,H l=none→Q (.ref l) (upd H l (.lst ys))):=by
 intro pins s σ H xs us Q I r h;obtain⟨p,ys,rfl,hq,q⟩:=h;obtain⟨u,rfl,rx⟩:=eQ r;cases rx
 have fin:∀(QC:List EW),aM ys QC->ys.length<=sizeLine->∀(h':GV) (c':Nat),(∀b o',s.heap.get? b=some o'->h'.get? b=some o')->
   h'.get? s.heap.objs.size=some {cls:=.type "list",dict:=none,data:=.seq QC.toArray c',slots:=#[] }→EP X pins σ Q (.ref s.heap.objs.size) {s with heap:=h' }:=λQC r' hz h' c' kp e=>
  ⟨.ref s.heap.objs.size,_,I.laid (t':=s.toks) kp (E2 _) (show cu X.prog X.w _ h' _ (.lst ys) from ⟨hz,QC,c',r',e⟩),rfl,q _ (I.hok.fresh (E2 _))⟩
 rcases hq with hq |hq
 ·obtain⟨QC,r',pl,hz⟩:=I.list hq;have QJ:=r'.length;obtain⟨o,ho,hc,n,hd⟩:=pl.isList;exact call_list_seq p (.inl rfl) ho hc hd (λh' c' kp e=>fin QC r' hz h' c' kp e) (by simp only[Ff] <;>lia)
 ·obtain⟨QC,r',pl,hz⟩:=I.tuple hq;have QJ:=r'.length;obtain⟨o,ho,hc,n,hd⟩:=pl;exact call_list_seq p (.inr rfl) ho hc hd (λh' c' kp e=>fin QC r' hz h' c' kp e) (by simp only[Ff] <;>lia)
theorem lm:de X (.type "tuple") (λxs H Q=>∃p ys,xs=[.ref p]∧((SqL X.K H p ys∧∀l,H l=none→Q (.ref l) (upd H l (.tup ys)))∨(SqT X.K H p ys∧Q (.ref p) H))):=by
 intro pins s σ H xs us Q I r h;obtain⟨p,ys,rfl,h⟩:=h;obtain⟨u,rfl,rx⟩:=eQ r;cases rx;rcases h with ⟨hq,q⟩ |⟨hq,q⟩
 ·obtain⟨QC,r',pl,hz⟩:=I.list hq;have QJ:=r'.length;refine call_tuple_list pl.isList (λh' kp=>?_) (by simp only[Ff] <;>lia)
  have I1:Inv X pins σ H {s with heap:=h' }:=I.kept (t':=s.toks) kp
  have I2:Inv X pins σ (upd H h'.objs.size (.tup ys)) {s with heap:=h'.push {cls:=.type "tuple",data:=.seq QC.toArray } }:=
   I1.laid (t':=s.toks) (λb o e=>EV _ e) (E2 _) (show cu X.prog X.w _ _ _ (.tup ys) from ⟨hz,QC,r',IsTup.new _ _⟩)
  exact⟨.ref h'.objs.size,_,I2,rfl,q _ (I1.hok.fresh (E2 _))⟩
 ·obtain⟨QC,r',pl,hz⟩:=I.tuple hq;exact call_tuple_same pl ⟨.ref p,H,I,rfl,q⟩
def tyV(K:ER)(T:String)(x:V)(H:Hp):Prop:=match x with
 | .str _=>T="str"
 | .int _=>T="int"
 | .ref p=>(T="list"∧∃xs,SqL K H p xs)∨(T="tuple"∧∃o,K.lookup p=some o∧o.cls=.type "tuple"∧o.dict=none)∨
   (T="dict"∧((∃QW,H p=some (.dK QW))∨∃QW,H p=some (.dT QW)))∨(T="set"∧∃S n,H p=some (.set S n))
 |_=>False
theorem xN{pins:List (E6×Obj)}{σ:St}{H:Hp}{s:EU}{T:String}{x:V}{v:EW}(I:Inv X pins σ H s)(r:bi x v)(ty:tyV X.K T x H):
  s.TypeIs v T/\∀a,v=.ref a->∃ob,s.heap.get? a=some ob/\ob.dict=none:=by
 cases x with
 |str z=>
  obtain⟨t,rfl⟩:=r;cases (show T="str" from ty)
  exact⟨typeIs_str s z t,λ_ e=>nomatch e⟩
 |int i=>
  obtain⟨t,rfl⟩:=r;cases (show T="int" from ty)
  exact⟨K8 s i t,λ_ e=>nomatch e⟩
 |ref p=>
  cases r;rcases ty with ⟨rfl,xs,hq⟩ |⟨rfl,o,hk,hc,hd⟩ |⟨rfl,hk⟩ |⟨rfl,S,n,hk⟩
  ·obtain⟨QC,_,pl,_⟩:=I.list hq;refine⟨pl.isList.typeIs,λa e=>?_⟩
   cases e;obtain⟨o,n,e,c,hd,_⟩:=pl;exact⟨o,e,hd⟩
  ·refine⟨⟨o,I.kIn p o hk,hc⟩,λa e=>?_⟩
   cases e;exact⟨o,I.kIn _ o hk,hd⟩
  ·have z:∃o,s.heap.get? p=some o/\o.ExactDict:=by
    rcases hk with ⟨QW,hk⟩ |⟨QW,hk⟩
    ·obtain⟨_,_,_,_,o,_,_,e,ex,_⟩:=I.hok p _ hk;exact⟨o,e,ex⟩
    ·obtain⟨_,_,_,_,o,_,_,e,ex,_⟩:=I.hok p _ hk;exact⟨o,e,ex⟩
   obtain⟨o,e,ex⟩:=z;refine⟨⟨o,e,ex.1⟩,λa e2=>?_⟩
   cases e2;exact⟨o,e,ex.2.1⟩
  ·obtain⟨o,_,_,_,e,ex,_⟩:=I.hok p _ hk;refine⟨⟨o,e,ex.1⟩,λa e2=>?_⟩
   cases e2;exact⟨o,e,ex.2.1⟩
 |_=>exact False.elim ty
def Eu(K:ER)(T:String)(r:V->List V->Hp->VK->Prop)(to:TE):TE:=λσ H Q=>to σ H λx H1=>tyV K T x H1/\r x [] H1 Q
def tBM(K:ER)(T:String)(r:V->List V->Hp->VK->Prop)(to:TE)(t:TA):TE:=λσ H Q=>to σ H λx H1=>tyV K T x H1/\t σ H1 λxs H2=>r x xs H2 Q
variable {o e:Expr}{es:List Expr}{to:TE}{t:TA}{name:Str}{QX QG:Pos}{T id:String}{r:V→List V→Hp→VK→Prop}
theorem BR(pa:PlainAttrs T)(slot:Slot T name id)(Sx:Qs (.builtin id)=pure (.type "method_descriptor"))(hm:MtR X id r)(ho:PE X o to)
  (Ri:Jt o name X.env (IJ o X.env)=IJ o X.env:=by rfl) (Rj:(QX.endLine==QG.line)=true:=by rfl):PE X (.Call (.Attribute o name QX) [] [] QG) (Eu X.K T r to):=by
 intro pins s σ H Q I h;refine wpAny_Call_method0_late Ri Rj (thn (ho pins s σ H _ I h) λv s1 ⟨x,H1,I1,r1,ty,q1⟩=>?_)
 obtain⟨h1,h2⟩:=xN I1 r1 ty;exact⟨T,id,pa,slot,Sx,h1,h2,Mq rfl (PySem.evalArgs_none (hm pins s1 σ H1 x [] v [] Q I1 r1 .nil q1))⟩
theorem By(pa:PlainAttrs T)(slot:Slot T name id)(Sx:Qs (.builtin id)=pure (.type "method_descriptor"))(hm:MtR X id r)(ho:PE X o to)(ha:PA X (e::es) t)
  (Ri:Jt o name X.env (IJ o X.env)=IJ o X.env:=by rfl)
  (SI:((HV QG (E4 (e::es) X.env)).all (λx=>!x.1) && (Om QG (LX [] X.env)).all (λx=>x.1.isSome)
   && decide ((e::es).length+([]:List K_).length+(if ([]:List K_).isEmpty then 0 else 1)<30))=true:=by rfl)
  (Rj:(QX.endLine==QG.line)=true:=by rfl) (hs:E4 (e::es) X.env=(false,IJ e X.env)::E4 es X.env:=by rfl) (Ry:(HV QG (E4 es X.env)).any (·.1)=false:=by rfl):
  PE X (.Call (.Attribute o name QX) (e::es) [] QG) (tBM X.K T r to t):=by
 intro pins s σ H Q I h;refine wpAny_Call_method_late Ri SI Rj rfl (thn (ho pins s σ H _ I h) λv s1 ⟨x,H1,I1,r1,ty,q1⟩=>?_)
 obtain⟨h1,h2⟩:=xN I1 r1 ty;refine⟨T,id,pa,slot,Sx,h1,h2,?_⟩;have hA:=ha QG pins s1 σ H1 _ I1 q1;rw[hs]at hA |-;refine Mq (by show (false || (HV QG (E4 es X.env)).any (·.1))=false;rw[Ry] <;>rfl) (M7 ?_)
 exact thn hA λus s2 ⟨vs,H2,I2,r2,q2⟩=>hm pins s2 σ H2 x vs v us Q I2 r1 r2 q2
end
def MtM(X:Cx)(id:String)(r:V->List V->Hp->VK->Prop):Prop:=
 ∀(pins:List (E6×Obj)) (s:EU) (σ:St) (H:Hp) (x:V) (xs:List V) (v:EW) (us:List EW) (Q:VK),Inv X pins σ H s->bi x v->aM xs us->r x xs H Q->
  Fy (FF X.prog X.w) X.A (call (.builtin id) (v::us)) (EP X pins σ Q) X.xe s
theorem aM.one:∀{x:V}{us:List EW},aM [x] us->∃u,us=[u]/\bi x u
 |_,_,.cons r .nil=>⟨_,rfl,r⟩
theorem aM.zero:∀{us:List EW},aM [] us->us=[]
 |_,.nil=>rfl
theorem aM.dropLast{xs:List V}{us:List EW}(h:aM xs us):aM xs.dropLast us.dropLast:=by
 induction h with
 |nil=>exact .nil
 |cons r t ih=>
  cases t with
  |nil=>exact .nil
  |cons q t'=>exact .cons r ih
theorem aM.rep{xs:List V}{us:List EW}(h:aM xs us):∀k:Nat,aM (Gc k xs).flatten (Gc k us).flatten
 |0=>.nil
 |k+1=>by
  rw[Hk,Hk,HF,HF];exact aM.append h (aM.rep h k)
theorem rG{α:Type}(l:List α):l.eraseIdx (l.length-1)=l.dropLast:=by
 induction l with
 |nil=>rfl
 |cons a r ih=>
  cases r with
  |nil=>rfl
  |cons b r=>
   have e:(a::b::r).length-1=((b::r).length-1)+1:=by
    have h1:(a::b::r).length=r.length+2:=rfl;have h2:(b::r).length=r.length+1:=rfl;lia
   rw[e,List.eraseIdx_cons_succ,ih]
   all_goals rfl
theorem lY(QC:List EW):∀(k:Nat) (acc:List EW),
  PM (λx1 x2=>x1++x2) acc.toArray (Gc k QC.toArray)=(acc++(Gc k QC).flatten).toArray
 |0,acc=>by simp
 |k+1,acc=>by
  have e:acc.toArray++QC.toArray=(acc++QC).toArray:=by simp
  have e2:(acc++QC)++(Gc k QC).flatten=acc++(Gc (k+1) QC).flatten:=by
   rw[Hk,HF,Fi]
  rw[<-e2,<-lY QC k (acc++QC),<-e,Hk,He]
section
variable {X:Cx}{pins:List (E6×Obj)}{σ:St}{H:Hp}{s:EU}{l b:E6}{xs ys zs:List V}
theorem Inv.lset{QC its':List EW}{n:Nat}{f:Array EW->Array EW}{t':Nat}(I:Inv X pins σ H s)(hH:H l=some (.lst xs))
  (e:s.heap.get? l=some {cls:=.type "list",data:=.seq QC.toArray n }) (hf:f QC.toArray=its'.toArray) (hv:aM ys its') (hz:ys.length≤sizeLine):
  Inv X pins σ (upd H l (.lst ys)) {s with heap:=s.heap.update l (Gq f),toks:=t' }:=by
 have q:=PySem.IsL.update e f;rw[hf]at q;refine I.write (x:=l) (e:=l) (by rw[hH];exact trivial) (.inl rfl) (λb' u hb hu=>(FD s.heap (Gq f) (Ne.symm hb)).trans hu) ⟨_,q⟩ ?_
 exact⟨hz,its',_,hv,q⟩
theorem Inv.lnew{QC:List EW}{t':Nat}(I:Inv X pins σ H s)(hv:aM ys QC)(hz:ys.length<=sizeLine):
  Inv X pins σ (upd H s.heap.objs.size (.lst ys)) {s with heap:=s.heap.push {cls:=.type "list",data:=.seq QC.toArray },toks:=t' }:=
 I.laid (λ_ _ q=>EV _ q) (E2 _) ⟨hz,QC,0,hv,Fe _ rfl⟩
theorem Inv.fresh(I:Inv X pins σ H s):H s.heap.objs.size=none:=I.hok.fresh (E2 _)
theorem Inv.lstM(I:Inv X pins σ H s)(hH:H l=some (.lst xs)):xs.length≤sizeLine∧∃(QC:List EW) (n:Nat),aM xs QC∧xs.length=QC.length∧s.heap.get? l=some {cls:=.type "list",data:=.seq QC.toArray n }:=by
 obtain⟨z,QC,n,r,e⟩:=I.hok l _ hH;exact⟨z,QC,n,r,r.length,e⟩
theorem o0{n:Nat}(h:n<=sizeLine):Builtin.List.listTooLong n=false:=by
 unfold Builtin.List.listTooLong;exact decide_eq_false (by lia)
end
section
variable {X:Cx}
def AQ:V->List V->Hp->VK->Prop:=λx vs H Q=>∃l xs y,x=.ref l/\vs=[y]/\H l=some (.lst xs)/\xs.length<sizeLine/\Q .non (upd H l (.lst (xs++[y])))
theorem lP:MtM X "list.append" AQ:=by
 intro pins s σ H x vs v us Q I rx rv h;obtain⟨l,xs,y,rfl,rfl,hH,hz,q⟩:=h;cases rx;obtain⟨u,rfl,ru⟩:=rv.one;obtain⟨z,QC,n,r,hl,e⟩:=I.lstM hH;refine M5 F.slot_list_append ⟨_,e,rfl⟩ F.entry_list_append (F.args_list_append_2 _ _) (PySem.list_append l QC.toArray n u (by rw[Ff];lia)) ⟨e,?_⟩
 refine⟨.non,_,I.lset (its':=QC++[u]) hH e (by simp) (r.append (.cons ru .nil)) ?_,rfl,q⟩
 rw[Fx,MC];lia
def zw:V->List V->Hp->VK->Prop:=λx vs H Q=>∃l b xs zs,x=.ref l/\vs=[.ref b]/\H l=some (.lst xs)/\H b=some (.lst zs)/\xs.length+zs.length<=sizeLine/\Q .non (upd H l (.lst (xs++zs)))
theorem uV:MtM X "list.extend" zw:=by
 intro pins s σ H x vs v us Q I rx rv h;obtain⟨l,b,xs,zs,rfl,rfl,hH,hB,hz,q⟩:=h;cases rx;obtain⟨u,rfl,ru⟩:=rv.one;cases ru;obtain⟨z,QC,n,r,hl,e⟩:=I.lstM hH;obtain⟨z2,QR,n2,r2,Ss,e2⟩:=I.lstM hB;have Q5:QC.toArray.size+QR.toArray.size<=sizeLine:=by rw[Ff,Ff];lia
 have SJ:¬ (!QC.toArray.isEmpty && Builtin.List.listTooLong (QC.toArray.size+QR.toArray.size))=true:=by
  rw[o0 Q5,Nh];exact FA
 refine M5 F.slot_list_extend ⟨_,e,rfl⟩ F.entry_list_extend (F.args_list_extend_2 _ _)
  (AutoSeq1.list_extend_list_list_0 l QC.toArray n b QR.toArray n2 SJ (by rw[Ff];lia) (by lia)) ⟨e,e2,?_⟩
 refine⟨.non,_,I.lset (its':=QC++QR) hH e (by simp) (r.append r2) ?_,rfl,q⟩
 rw[Fx];lia
def Ek:V->List V->Hp->VK->Prop:=λx vs H Q=>∃l xs y,x=.ref l/\vs=[]/\H l=some (.lst xs)/\xs[xs.length-1]?=some y/\Q y (upd H l (.lst xs.dropLast))
theorem B8:MtM X "list.pop" Ek:=by
 intro pins s σ H x vs v us Q I rx rv h;obtain⟨l,xs,y,rfl,rfl,hH,hy,q⟩:=h;cases rx;have hus:=rv.zero;subst hus;obtain⟨z,QC,n,r,hl,e⟩:=I.lstM hH;obtain⟨u,hu,ru⟩:=r.get hy
 have SK:QC.toArray[QC.toArray.size-1]?=some u:=by
  show QC.toArray[QC.length-1]?=some u;rw[<-Gi,<-hl];exact hu
 refine M5 F.slot_list_pop ⟨_,e,rfl⟩ F.entry_list_pop (F.args_list_pop_1 _) (MeetsSeq.list_pop_last l QC.toArray n u SK (by rw[Ff];lia)) ⟨e,?_⟩
 refine⟨y,_,I.lset (its':=QC.dropLast) hH e ?_ r.dropLast ?_,ru,q⟩
 ·show QC.toArray.eraseIdxIfInBounds (QC.toArray.size-1)=QC.dropLast.toArray;rw[Ff,List.eraseIdxIfInBounds_toArray,rG]
 ·rw[HZ];lia
def Ed:R2:=λx y H Q=>∃l b xs zs,x=.ref l/\y=.ref b/\H l=some (.lst xs)/\H b=some (.lst zs)/\xs.length+zs.length<=sizeLine/\∀p,H p=none->Q (.ref p) (upd H p (.lst (xs++zs)))
theorem Cj:OpR X (J2 .Add) Ed:=by
 intro pins s σ H x y v u Q I rx ry h;obtain⟨l,b,xs,zs,rfl,rfl,hH,hB,hz,q⟩:=h;cases rx;cases ry;obtain⟨z,QC,n,r,hl,e⟩:=I.lstM hH;obtain⟨z2,QR,n2,r2,Ss,e2⟩:=I.lstM hB;refine PySem.P.add_list e e2 ?_ (by rw[Ff,Ff];lia)
 have ea:QC.toArray++QR.toArray=(QC++QR).toArray:=by simp
 rw[ea];exact⟨.ref _,_,I.lnew (t':=s.toks) (r.append r2) (by rw[Fx];lia),rfl,q _ I.fresh⟩
def Ea:R2:=λx y H Q=>∃l k xs,x=.ref l/\y=.int k/\H l=some (.lst xs)/\-(2 ^ 63)<=k/\k<2 ^ 63/\xs.length*k.toNat<=sizeLine/\
 ∀p,H p=none->Q (.ref p) (upd H p (.lst (Gc k.toNat xs).flatten))
theorem zQ{α:Type}(xs:List α)(k:Nat):(Gc k xs).flatten.length=k*xs.length:=by
 induction k with
 |zero=>simp
 |succ k ih=>rw[Hk,HF,Fx,ih,Nat.succ_mul,Qa]
theorem Cp:OpR X (J2 .Mult) Ea:=by
 intro pins s σ H x y v u Q I rx ry h;obtain⟨l,k,xs,rfl,rfl,hH,h1,h2,hz,q⟩:=h;cases rx;obtain⟨t,rfl⟩:=ry;obtain⟨z,QC,n,r,hl,e⟩:=I.lstM hH;have QJ:QC.toArray.size*k.toNat<=sizeLine:=by rw[Ff,<-hl];exact hz
 have hcap:¬ QC.toArray.size*k.toNat >(2 ^ 63-1)/8:=by
  have:(sizeLine:Nat)<=(2 ^ 63-1)/8:=by decide
  lia
 have Q9:¬ (!Builtin.List.listFitsIndex k)=true:=by
  rw[fitsIndex_both h1 h2];exact FA
 have SJ:¬ Builtin.List.listTooLong (QC.toArray.size*k.toNat)=true:=by
  rw[o0 QJ];exact FA
 have hnew:PM (λx1 x2=>x1++x2) #[] (Gc (if QC.toArray.isEmpty=true then 0 else k.toNat) QC.toArray)=(Gc k.toNat QC).flatten.toArray:=by
  have f0:∀m:Nat,PM (λx1 x2=>x1++x2) #[] (Gc m QC.toArray)=(Gc m QC).flatten.toArray:=λm=>by
   have:=lY QC m [];rw[List.nil_append]at this;exact this
  rw[f0];cases QC with
  |nil=>simp
  |cons a r'=>rw[if_neg (by simp)]
 refine wpAny_binaryOp_repeat_ref (T:="list") (U:="int") (by decide) ⟨_,e,rfl⟩ (λs'=>K8 s' k t) noFill_list_mul F.fills_int_mul F.slot_int_rmul repeat_list F.slot_int_index.lookup
  (M5 F.slot_int_rmul (K8 s k t) F.entry_int_rmul (F.args_int_rmul_2 _ _) (int___rmul___int_list k t l QC.toArray n)
   ⟨e,rfl,⟨_,e,rfl⟩,M5 F.slot_list_mul ⟨_,e,rfl⟩ F.entry_list_mul (F.args_list_mul_2 _ _) (AutoListH.list___mul___list_int_3 l QC.toArray n k t Q9 hcap SJ) ⟨e,?_⟩⟩)
 rw[hnew];exact⟨.ref _,_,I.lnew (t':=s.toks) (r.rep k.toNat) (by rw[zQ,Qb];exact hz),rfl,q _ I.fresh⟩
variable {prog:E8}{w:FE}{A:FC}{E:EW→EU→Prop}{s:EU}
end
end L2
namespace Att
open PySem PySem.W PySem.Calls PyProof.Rows
theorem jq{P:Params}{h:GV}:∀(ns:List Int) (vs:List EW),WellAll P h vs (ns.map WData.int)->PZ vs ns:=by
 intro ns
 induction ns with
 |nil=>
  intro vs w;rw[KH]at w;cases w;exact .nil
 |cons n ns ih=>
  intro vs w;rw[Ft]at w;cases w with
  |cons a b=>
   cases a;exact .cons _ _ (ih _ b)
theorem script_of{l:OpenLaw}{n:Nat}(hn:l.most=some n){P:Params}{h:GV}{args:List WData}{vals:List EW}
  (RZ:l.row.toRowW.claim.pre args=true) (hwl:WellAll P h vals args):
  ∃a vs ns,vals=[FG a]∧args=[WData.list (ns.map WData.int)]∧h.get? a=some {cls:=.type "list",data:=.seq vs.toArray }∧PZ vs ns∧ns.length≤n:=by
 have hsh:WShape.hasAll [] args [.list .int]=true:=(pre_splitW RZ).1;have hc:l.pre.holds [] {args:=args }=true:=(pre_splitW RZ).2;obtain⟨d,r,rfl,h1,h2⟩:=hasAllW_cons hsh;obtain rfl:=hasAllW_nil h2;obtain⟨xs,rfl,h3⟩:=hasW_list h1;obtain⟨ns,rfl⟩:=items_int h3
 have QJ:ns.length<=n:=by
  unfold OpenLaw.pre at hc
  have h4:(WTm.not (.lt (.lit (.int (n:Int))) (.len (.arg 0)))).holds [] {args:=[.list (ns.map .int)] }=true:=by
   have h4:=(holds_andW hc).1;rw[hn]at h4;exact h4
  have h5:=condW_of h4 (w_not (w_lt w_lit (w_len_list (w_arg rfl))));rw[ES]at h5;refine KN λq=>?_
  have q':(n:Int)<((ns.length:Nat):Int):=by lia
  first
   | (rw[decide_eq_true q']at h5;exact absurd h5 (by decide))
   | (simp at h5;lia)
 cases hwl with
 |cons w1 w2=>
  cases w2;cases w1 with
  |list ho Rk=>exact⟨_,_,ns,rfl,rfl,ho,jq ns _ Rk,QJ⟩
theorem post_true(l:OpenLaw)(args:List WData):l.row.toRowW.claim.post args (.bool true) args=true:=
 postW_of (r:=l.row.toRowW) (X:=(true==true))
  (show WShape.has [] (.bool true) .bool=true by first |rfl |decide |simp[WShape.has,WShape.arms,WShape.armsAll])
  (show (WTm.eq .res (.lit (.bool true))).value [] {args:=args,res:=some (.bool true),after:=args }=some (.bool (true==true)) from w_eq_bool (w_res rfl) w_lit) rfl
section
variable {prog:E8}{w:FE}{A:FC}{E:EW→EU→Prop}{s:EU}{K:Frag}
end
end Att
namespace L2
open PySem PySem.Spec PyProof.Rows
theorem lW:∀{vs:List EW}{ns:List Int},PZ vs ns->aM (ns.map V.int) vs
 |_,_,.nil=>.nil
 |_,_,.cons n t h=>.cons ⟨t,rfl⟩ (lW h)
def AI(H:Hp):Prop:=∀b,H b=none\/∃o xs,H b=some (.frz o (.lst xs))
theorem wA{P:E8}{w:FE}{K:ER}{mg mb:Str->Option EW}{CX:CXT}{k:Nat}{fa a:E6}{fd:Gn}{x:Str}{sp:Sp}{QH:EU}{vs:List EW}{ns:List Int}
  (KX:K.In QH.heap) (hns:QH.heap.Ns Hh mg) (hb:QH.heap.Ns Pm mb) (hbb:∀x:Str,x≠"__name__"→mb x=GQ x) (hlim:QH.heap.NoLimit) (hg:QH.gens=#[])
  (ha:QH.heap.get? a=some {cls:=.type "list",data:=.seq vs.toArray }) (hi:PZ vs ns) (hl:ns.length≤sizeLine) (hr:cU k NT)
  (F:∀base:GV,K.In base->base.Ns Hh mg->ba P w K mg base CX k fa fd [x] sp) (hbind:∀(s:EU) (u:EW),NR s fd ⟨[u],[]⟩ [(x,u)])
  (RI:∀H:Hp,AI H->SqL K H a (ns.map V.int)->sp [.ref a] H (λv _=>v=.bl true) λ_ _ _=>False)
  (hCX:∀H e s',CX [] H QH (λ_ _ _=>False) e s'->False):
  Jc (FF P w) NT (.call (.ref fa) ⟨[.ref a],[]⟩) (λr s'=>r=.ok (.ret (.bool true))/\OldK QH.heap s'.heap/\s'.os=QH.os/\LU s'.gens) QH:=by
 have rv:=lW hi;have lenV:=hi.length
 have core:∀H:Hp,AI H->SqL K H a (ns.map V.int)->HOk P w H QH.heap->(∀b,H b≠none->b=a)->(H a≠none->K.lookup a=none)->
   Jc (FF P w) NT (.call (.ref fa) ⟨[.ref a],[]⟩) (λr s'=>r=.ok (.ret (.bool true))/\OldK QH.heap s'.heap/\s'.os=QH.os/\LU s'.gens) QH:=by
  intro H hO hS hok hA hK;have R9:∀{b:E6}{o:Obj},QH.heap.get? b=some o->H b=none->(mS QH.heap H).get? b=some o:=λe n=>xm e n
  have noA:∀{b:E6}{o:Obj}{es:Array DictEntry}{ep:Nat},QH.heap.get? b=some o->o.data=.dict es ep->H b=none:=λ{b o es ep} e d=>by
   cases q:H b with
   |none=>rfl
   |some u=>
    have e':b=a:=hA b (by rw[q];simp)
    subst e';rw[ha]at e;cases e;have d':Data.seq vs.toArray _=Data.dict es ep:=d;cases d'
  have nsK:∀{b:E6}{m:Str->Option EW},QH.heap.Ns b m->(mS QH.heap H).Ns b m:=λ{b m} ⟨o,es,ep,e,d,r⟩=>⟨o,es,ep,R9 e (noA e d),d,r⟩
  have hKb:K.In (mS QH.heap H):=λb o e=>R9 (KX b o e) (by
   cases q:H b with
   |none=>rfl
   |some u=>
    have e':b=a:=hA b (by rw[q];simp)
    subst e';rw[hK (by rw[q];simp)]at e;cases e)
  have hM:Mod K mg (mS QH.heap H):=⟨hKb,nsK hns,⟨mb,nsK hb,hbb⟩,let ⟨mc,h1,h2⟩:=hlim;⟨mc,nsK h1,h2⟩⟩;have e0:w_ P w K mg (mS QH.heap H) NT [] QH H:=⟨rfl,hM,λb o e=>Aa e,Qc (vR _ _),trivial,λb hb=>absurd (show b∈([]:List E6) from hb) (by simp),hok,.of_eq hg⟩
  refine JU ((F _ hKb (nsK hns)).run NT [] QH H ⟨[.ref a],[]⟩ [.ref a] [.ref a] _ _ hr e0 (hbind QH (.ref a)) (.cons rfl .nil) (RI H hO hS)) λr s' h=>?_
  cases r with
  |error e=>exact (hCX H e s' h).elim
  |ok fl=>
   cases fl with
   |next=>exact False.elim h
   |brk=>exact False.elim h
   |cont=>exact False.elim h
   |ret u=>
    obtain⟨v,H',os,bare,un,hok',r',q⟩:=h;have q':v=.bl true:=q;subst q';obtain rfl:u=GF true:=r';refine⟨rfl,OldK.of_keep λb o e=>?_,os,bare⟩
    cases q:H b with
    |none=>exact un.keep b o e q (by intro z;exact absurd (show b∈([]:List E6) from z) (by simp)) (by simp)
    |some u=>
     rcases hO b with z |⟨ob,xs,z⟩
     ·rw[q]at z;cases z
     ·have z2:=un.frzs b ob _ z;obtain⟨e1,_⟩:=hok b _ z;obtain⟨e2,_⟩:=hok' b _ z2;rw[e]at e1;cases e1;exact e2
 cases hk:K.lookup a with
 |some o=>
  have e:=KX a o hk;rw[ha]at e;cases e;refine core (λ_=>none) (λ_=>.inl rfl) (.inr ⟨_,vs.toArray,_,hk,rfl,rfl,rfl,by rw[Ff,lenV];exact hl,by simpa using rv⟩) (λb u z=>by have z':(none:Option HO)=some u:=z;cases z') (λb z=>absurd rfl z) λz=>absurd rfl z
 |none=>
  refine core (λb=>if b=a then some (.frz {cls:=.type "list",data:=.seq vs.toArray } (.lst (ns.map V.int))) else none) (λb=>?_) (.inl (.inr ⟨{cls:=.type "list",data:=.seq vs.toArray },if_pos rfl⟩)) (λb u z=>?_) (λb z=>?_) λ_=>hk
  ·by_cases hb:b=a
   ·exact .inr ⟨_,_,if_pos hb⟩
   ·exact .inl (if_neg hb)
  ·by_cases hb:b=a
   ·have z':=(if_pos hb).symm.trans z;cases z';subst hb;exact⟨ha,by rw[ES];exact hl,vs,_,rv,ha⟩
   ·have z':=(if_neg hb).symm.trans z;cases z'
  ·by_cases hb:b=a
   ·exact hb
   ·exact absurd (if_neg hb) z
abbrev KOf{K:ER}{h:GV}(_:K.In h):ER:=K
end L2
namespace L2
open PySem PySem.Spec PyProof.Rows
def bU(s:HL):Arguments:=match s with
 | .FunctionDef _ a _ _ _ _ _ _ _ _=>a
 |_=>{posonlyargs:=[],args:=[],vararg:=none,kwonlyargs:=[],kw_defaults:=[],kwarg:=none,defaults:=[] }
def bA(s:HL):List HL:=match s with
 | .FunctionDef _ _ b _ _ _ _ _ _ _=>b
 |_=>[]
def aq(s:HL):Lk:=match s with
 | .FunctionDef _ _ _ _ _ _ sc _ _ _=>sc
 |_=>{kind:=.function,names:=[],isGenerator:=false,isCoroutine:=false }
abbrev CX0:CXT:=λ_ _ _ _ _ _=>False
abbrev E0:XK:=λ_ _ _=>False
structure Fun(K:ER)(x QE:Str)(st:HL)(f:E6)(fd:Gn):Prop where
 ex:∃(oc:EW) (od:Option E6) (kV Rm pm:EW) (an:Option E6) (QK ct:EW) (R7:Array (Option EW)),
  fd=HA x QE (bU st) (bA st) (aq st) .none kV Rm pm an QK ct/\K.lookup f=some ⟨oc,od,.func fd,R7⟩/\KA K QK QE=true
 kp:G4 K (.ref f)=true
section
variable {P:E8}{w:FE}{K:ER}{mg:Str→Option EW}{base:GV}
theorem Fun.binds{x QE:Str}{st:HL}{f:E6}{fd:Gn}{ps:List Str}(F:Fun K x QE st f fd)
  (h:∀(kV Rm pm:EW) (an:Option E6) (QK ct:EW) (us:List EW),us.length=ps.length->Lw (HA x QE (bU st) (bA st) (aq st) .none kV Rm pm an QK ct) ⟨us,[]⟩=pure (ps.zip us)):cw K fd ps []:=by
 obtain⟨oc,od,kV,Rm,pm,an,QK,ct,R7,rfl,lk,Ro⟩:=F.ex;exact .all (h kV Rm pm an QK ct)
theorem wu{x QE:Str}{st:HL}{f:E6}{oc:EW}{od an:Option E6}{R7:Array (Option EW)}{kV Rm pm QK ct:EW}(l:K.lookup f=some ⟨oc,od,.func (HA x QE (bU st) (bA st) (aq st) .none kV Rm pm an QK ct),R7⟩)
  (c:KA K QK QE=true) (k:G4 K (.ref f)=true):Fun K x QE st f (HA x QE (bU st) (bA st) (aq st) .none kV Rm pm an QK ct):=⟨⟨oc,od,kV,Rm,pm,an,QK,ct,R7,rfl,l,c⟩,k⟩
end
theorem aL{n:Nat}(h:n<=1000):n<sizeLine:=Lx h (by decide)
section
variable {X:Cx}
end
theorem zp{A B:Prop}(h:B):if false=true then A else B:=by
 rw[if_neg FA];exact h
theorem xP{A B:Prop}(h:A):if true=true then A else B:=by
 rw[if_pos rfl];exact h
def aZ(H H':Hp):Prop:=∀b o,H b=some o->H' b=some o
theorem aZ.refl(H:Hp):aZ H H:=λ_ _ h=>h
theorem aZ.trans{H H1 H2:Hp}(a:aZ H H1)(b:aZ H1 H2):aZ H H2:=λc o h=>b c o (a c o h)
theorem aZ.free{H H':Hp}(e:aZ H H'){l:E6}(h:H' l=Qp):H l=Qp:=by
 cases q:H l with
 |none=>rfl
 |some o=>
  rw[e l o q]at h;cases h
theorem aZ.seq{K:ER}{H H':Hp}{a:E6}{xs:List V}(e:aZ H H')(h:SqL K H a xs):SqL K H' a xs:=by
 rcases h with (h |⟨o,h⟩) |h
 ·exact .inl (.inl (e _ _ h))
 ·exact .inl (.inr ⟨o,e _ _ h⟩)
 ·exact .inr h
def Sz(m:Nat)(x:Int):Prop:=x.natAbs<2 ^ m
theorem Sz.mono{m n:Nat}{x:Int}(h:Sz m x)(Th:m<=n):Sz n x:=Fz h (JC (by decide) Th)
theorem Sz.neg{m:Nat}{x:Int}(h:Sz m x):Sz m (-x):=by unfold Sz at *;rw[Int.natAbs_neg];exact h
theorem Sz.add{m:Nat}{x y:Int}(hx:Sz m x)(hy:Sz m y):Sz (m+1) (x+y):=by
 unfold Sz at *;have:=Int.natAbs_add_le x y;rw[Ie];lia
theorem Sz.sub{m:Nat}{x y:Int}(hx:Sz m x)(hy:Sz m y):Sz (m+1) (x-y):=by
 rw[Int.sub_eq_add_neg];exact hx.add hy.neg
theorem Sz.mul{m n:Nat}{x y:Int}(hx:Sz m x)(hy:Sz n y):Sz (m+n) (x*y):=by
 unfold Sz at *;rw[KB,Nat.pow_add];exact Nat.mul_lt_mul'' hx hy
theorem Sz.le{m:Nat}{x y:Int}(h:x.natAbs<=y.natAbs)(hy:Sz m y):Sz m x:=Lx h hy
theorem Sz.ediv{m:Nat}{x y:Int}(hx:Sz m x):Sz m (x/y):=Sz.le (Int.natAbs_ediv_le_natAbs x y) hx
theorem Sz.emod{m:Nat}{x y:Int}(h0:0<y)(hy:Sz m y):Sz m (x%y):=by
 have h1:=Gs x (show y≠0 by lia)
 have h2:=Gb x h0;exact Sz.le (by lia) hy
theorem Sz.abs{m:Nat}{x:Int}(hx:Sz m x):Sz m (if x<0 then -x else x):=by split;exact hx.neg;exact hx
instance (m:Nat) (x:Int):Decidable (Sz m x):=inferInstanceAs (Decidable (x.natAbs<2 ^ m))
theorem Sz.add'{m n:Nat}{x y:Int}(hx:Sz m x)(hy:Sz n y):Sz (max m n+1) (x+y):=(hx.mono (Ot m n)).add (hy.mono (Ob m n))
theorem Sz.sub'{m n:Nat}{x y:Int}(hx:Sz m x)(hy:Sz n y):Sz (max m n+1) (x-y):=(hx.mono (Ot m n)).sub (hy.mono (Ob m n))
theorem Sz.lit{m:Nat}{x:Int}(h:Sz m x):Sz m x:=h
theorem Sz.ok{m n:Nat}{x y:Int}(hx:Sz m x)(hy:Sz n y)(h:m+n<=134217728):IntMulOk x y:=
 PyProof.Rows.mulOk_of_bits (intBits_le_iff.mpr hx) (intBits_le_iff.mpr hy) h
theorem Sz.log{m:Nat}{x:Int}(h:Sz m x)(hm:m<=9000)(h0:x≠0):x.natAbs.log2<9000:=by
 have q:=(Nat.log2_lt (by lia)).mpr (show x.natAbs<2 ^ m from h)
 lia
def Ba(_ j:Int):Prop:=0<j/\Sz 9000 j
def BF(_ j:Int):Prop:=j≠0/\Sz 9000 j
section
variable {X:Cx}{a b c:Expr}{ta tb tc:TE}{QB:Pos}
theorem A3:OpR X (J2 .Mult) (rI IntMulOk λi j=>.int (i*j)):=opI λ_ _ _ _ _ _ _ hc q=>mul_int q hc
theorem xt:OpR X (J2 .FloorDiv) (rI Ba λi j=>.int (i/j)):=opI λi j _ _ _ _ _ hc q=>by
 have h1:(0:Int)<j:=hc.1;exact floordiv_int (by lia) (by rw[Int.fdiv_eq_ediv_of_nonneg i (by lia)];exact q) (.inl (PyProof.noPylong_of_log2 (hc.2.log (by decide) (by lia))))
theorem xu:OpR X (J2 .FloorDiv) (rI BF λi j=>.int (i.fdiv j)):=opI λi j _ _ _ _ _ hc q=>
 floordiv_int hc.1 q (.inl (PyProof.noPylong_of_log2 (hc.2.log (by decide) hc.1)))
theorem DM{x:Str}{n:String}{QB:Pos}(hg:Gl X x)(hm:X.mg x=none)(hv:GQ x=some (.type n))(hn:x≠"__name__":=by decide)(hd:(x==("__debug__":Str))=false:=by decide):PE X (.Name x QB) (tC (.ty n)):=
 zN hg hm hv rfl hn hd
end
theorem kit_int_int(K:ER):FU K (.type "int") (.type "int")=some true:=rfl
theorem kit_int_bool(K:ER):FU K (.type "int") (.type "bool")=some false:=rfl
theorem kit_list_list(K:ER):FU K (.type "list") (.type "list")=some true:=rfl
section
variable {X:Cx}{tg:Expr}
end
theorem aK{H:Hp}{p:E6}(h:H p=none)(o:HO):aZ H (upd H p o):=λb u q=>by rw[aY (bK q h)];exact q
theorem aZ.put{H H':Hp}{l:E6}(e:aZ H H')(h:H l=none)(o:HO):aZ H (upd H' l o):=λb u q=>by rw[aY (bK q h)];exact e b u q
theorem aZ.tup{K:ER}{H H':Hp}{a:E6}{xs:List V}(e:aZ H H')(h:SqT K H a xs):SqT K H' a xs:=by
 rcases h with (h |⟨o,h⟩) |h
 ·exact .inl (.inl (e _ _ h))
 ·exact .inl (.inr ⟨o,e _ _ h⟩)
 ·exact .inr h
end L2
namespace L2
open PySem PySem.W PySem.Calls PySem.Spec PyProof.Rows
theorem oE{ns:List Int}(h:WData.layableAll [WData.list (ns.map WData.int)]=true):∀n∈ns,Sz 1048576 n:=by
 intro n hn;have h1:=(PySem.W.layableW_arg h) _ (E9.mpr rfl);have h2:=PySem.W.layableW_item h1 (WData.int n) (EZ.mpr ⟨n,hn,rfl⟩);have h3:=(PySem.W.layableW_iff.mp h2).2.2;have h4:Builtin.Int.intBits n<=1048576:=by simpa only[WData.weight,Builtin.Int.intBits] using h3
 exact intBits_le_iff.mp h4
theorem nD{l:Ou}{n:Nat}{q:E8}{Si:List Str}{XP:(Str->Option EW)->GV->Prop}{YP:FE->GV->Prop}{d:DefRec}
  (hn:l.most=some n) (hdf:d.params.defaults=[])
  (call:∀(w:FE) (s₀ QH:EU) (mg mb:Str->Option EW) (fa:E6) (o:Obj) (pm cd Rm:EW) (a:E6) (vs:List EW) (ns:List Int),
   PySem.W.Ground q Si [] XP w s₀ mg mb QH.heap->YP w QH.heap->
   QH.heap.get? fa=some o->o.data=.func (docDef d.name d.params d.body d.scope pm cd Rm)->QH.heap.CodeRec cd d.name->mg d.name=some (.ref fa)->
   QH.heap.get? a=some {cls:=.type "list",data:=.seq vs.toArray }→PZ vs ns→ns.length≤n→(∀m∈ns,Sz 1048576 m)→QH.gens=#[]→
   Jc (FF l.prog w) NT (.call (.ref fa) ⟨[.ref a],[]⟩) (λr s'=>r=.ok (.ret (.bool true))/\OldK QH.heap s'.heap/\s'.os=QH.os/\LU s'.gens) QH):
  P1 q Si XP YP l.row.toRowW d [] (λf vs=>Qy f vs):=by
 intro w s₀ QH mg mb G Y fa o pm cd Rm dV kV ho hd Ro hD hmg hg args vals as RZ hlay hrd hwl Sk;obtain rfl:dV=.none:=Qt hD hdf;obtain rfl:kV=.none:=Qu hD;obtain⟨a,vs,ns,rfl,rfl,hobj,SN,QJ⟩:=Att.script_of hn RZ hwl;refine PySem.W.enter_call (JU (call w s₀ QH mg mb fa o pm cd Rm a vs ns G Y ho (PySem.W.fd_plain hd) Ro hmg hobj SN QJ (oE hlay) hg) λr s' hq=>?_)
 obtain⟨rfl,h2,h3,h4⟩:=hq;exact⟨.inl ⟨.bool true,.bool true,[],rfl,λ_=>rfl,.bool true,Att.post_true l _,λ_=>⟨Ju,λ_ hm=>(nomatch hm)⟩⟩,h2,h3,h4⟩
theorem walk_ofB{l:Ou}{n k:Nat}{q:E8}{Si:List Str}{XP:(Str->Option EW)->GV->Prop}{YP:FE->GV->Prop}{d:DefRec}{K:Params->ER}{CX:CXT}{sp:ER->Sp}{x:Str}
  (hn:l.most=some n) (hn2:n<=sizeLine) (hdf:d.params.defaults=[]) (hr:cU k NT)
  (hY:∀(w:FE) (h:GV),YP w h->(K w.params).In h)
  (F:∀(w:FE) (mg:Str->Option EW) (fa:E6) (h:GV),(K w.params).In h->h.Ns Hh mg->mg d.name=some (.ref fa)->
   ∃fd:Gn,(∀(s:EU) (u:EW),NR s fd ⟨[u],[]⟩ [(x,u)])/\
    ∀base:GV,(K w.params).In base->base.Ns Hh mg->ba l.prog w (K w.params) mg base CX k fa fd [x] (sp (K w.params)))
  (RI:∀(K:ER) (H:Hp) (a:E6) (ns:List Int),ns.length<=n->(∀m∈ns,Sz 1048576 m)->AI H->SqL K H a (ns.map V.int)->sp K [.ref a] H (λv _=>v=.bl true) λ_ _ _=>False)
  (hCX:∀(H:Hp) (s:EU) (e:EW) (s':EU),CX [] H s (λ_ _ _=>False) e s'->False):
  P1 q Si XP YP l.row.toRowW d [] (λf vs=>Qy f vs):=by
 refine nD hn hdf λw s₀ QH mg mb fa o pm cd Rm a vs ns G Y ho hd Ro hmg hobj SN QJ hbits hg=>?_
 have KX:=hY w _ Y;obtain⟨fd,hb,hF⟩:=F w mg fa _ KX G.T.g hmg;exact wA KX G.T.g G.T.b G.T.builtins G.T.nolimit hg hobj SN (GY QJ hn2) hr hF hb (λH hO hS=>RI _ H a ns QJ hbits hO hS) λH e s'=>hCX H QH e s'
end L2
namespace L2
theorem nI{α:Type}{xs:List α}{k:Int}{i:Nat}{v:α}(e:k=(i:Int))(h:xs[i]?=some v):atI xs k=some v:=by subst e;exact ut h
theorem Sz.natle{m:Nat}{x y:Int}(hy:Sz m y)(h:x.natAbs<=y.natAbs):Sz m x:=Sz.le h hy
end L2
namespace L2
open PySem PySem.Spec PyProof.Rows
abbrev b_(X:Cx)(QA:Lk)(cl:List (Str×E6))(C:E6)(s:EU)(H:Hp)(fp:List E6):Cx:=
 {X with s₀:=s,H₀:=H,env:=P3 QA cl C X.env,outer:=X.stack,ex:=fp,fn:=λ_=>false,pn:=[],xe:=λ_ _=>False }
def mask:List Nat->St->St
 |[],σ=>σ
 |i::is,σ=>mask is (σ.set i none)
theorem kS:∀(is:List Nat) (σ:St),(mask is σ).length=σ.length
 |[],_=>rfl
 |i::is,σ=>by rw[mask,kS is];simp
theorem kJ:∀(is:List Nat) (σ:St) (j:Nat) (v:V),(mask is σ)[j]?=some (some v)->σ[j]?=some (some v)/\j ∉ is
 |[],σ,j,v,h=>⟨h,by simp⟩
 |i::is,σ,j,v,h=>by
  obtain⟨h1,h2⟩:=kJ is _ j v h;by_cases e:i=j
  ·subst e;rw[LK]at h1;simp at h1
  ·rw[FI e]at h1;exact⟨h1,by simp[Ne.symm e,h2]⟩
structure iM(X:Cx)(QA:Lk)(cl:List (Str×E6))(is:List Nat):Prop where
 clos:PN QA X.env=pure cl
 cell:∀y∈QA.names,y.2≠.cell
 kind:QA.kind=.function
 names:∀y∈QA.names,y.2=.local->QA.names.lookup y.1=some .local
 cls:∀x c,cl.lookup x=some c->X.env.cells.lookup x=some c
 free:∀x,((Ov QA X.env).names.lookup x=some .cell\/(Ov QA X.env).names.lookup x=some .free)->Vis X.env.scope x/\X.env.scope.names.lookup x≠some .local/\∃c,cl.lookup x=some c
 own:∀i x,X.N[i]?=some x->(Ov QA X.env).names.lookup x=some .local->i∈is
def yI(J:It)(is:List Nat)(g:TG)(te:TE)(σ:St)(H1:Hp)(l:E6)(Q:VK):Prop:=
 ∃W:Nat->Nat->Hp->Prop,(∃m,W 0 m (upd H1 l (.lst [])))/\∀i m H2,W i m H2->
  (J.stop i H2/\Q (.ref l) H2)\/(J.go i H2/\∀x H3,J.yld i H2 x H3->g x (mask is σ) H3 λσ4 H4=>te σ4 H4 λy H5=>
   (∀(j:Nat) (v:V),(mask is σ)[j]?=some (some v)->σ4[j]?=some (some v))/\∃vs,H5 l=some (.lst vs)/\vs.length<sizeLine/\∃m',m'<m/\W (i+1) m' (upd H5 l (.lst (vs++[y]))))
def xY(is:List Nat)(g:TG)(te:TE)(σ:St)(Q:VK)(J:It)(H1:Hp):Prop:=∀l,H1 l=none->yI J is g te σ H1 l Q
def DS(is:List Nat)(wi:TI)(g:TG)(te:TE):TE:=λσ H Q=>wi σ H (xY is g te σ Q)
section
variable {X:Cx}{pins:List (E6×Obj)}{σ:St}{H:Hp}{s:EU}
theorem pF{QA:Lk}{cl:List (Str×E6)}{is:List Nat}{fp:List E6}{h₁:GV}{m:Str->Option EW}{t':Nat}(I:Inv X pins σ H s)(B:iM X QA cl is)(hf:∀b∈fp,nK X pins H b)(hfl:∀b∈fp,b<s.heap.objs.size)
  (hn:h₁.Ns s.heap.objs.size m) (hk:∀b o,s.heap.get? b=some o->h₁.get? b=some o):
  Inv (b_ X QA cl s.heap.objs.size s H fp) [] (mask is σ) H {s with heap:=h₁,toks:=t' }:=by
 refine⟨⟨I.ok.mod,B.kind,I.ok.glob,I.ok.blt,E2 _,λx y c h1 h2=>I.ok.inj x y c (B.cls x c h1) (B.cls y c h2),λx hx=>(B.free x hx).2.2,λx c h=>(by cases h),I.ok.hd,I.ok.frames,.inl rfl,λb hb=>⟨FJ (hfl b hb),λx c e=>(hf b hb).2.2.2.2.1 x c (B.cls x c e)⟩,
  I.bs,GY I.ok.bsz I.sz,λb o e hb=>?_,λb hb z=>?_,I.stack,I.stkFree⟩,rfl,I.bare,Un.kept hk,⟨m,hn,λi x v h1 h2 h3=>?_⟩,λx c e=>?_,I.hok.fresh (E2 _),λx c e=>I.freeC x c (B.cls x c e),λp hp=>absurd (show p∈([]:List (E6×Obj)) from hp) (by simp),I.hok.kept hk,?_⟩
 ·rcases (hf b hb).2.2.2.1 with z |z
  ·exact I.ok.noex b o e z
  ·exact absurd (Fz (E_ e) (GY I.ok.bsz z)) (FM _)
 ·rcases E1.mp (I.stkSub b z) with e |e
  ·exact (hf b hb).2.1 e
  ·exact (hf b hb).2.2.1 e
 ·obtain⟨e2,ni⟩:=kJ is σ i v h2;have Sm:(Ov QA X.env).names.lookup x=some .local\/(Ov QA X.env).names.lookup x=some .cell\/(Ov QA X.env).names.lookup x=some .free:=h3;rcases Sm with z |z
  ·exact absurd (B.own i x h1 z) ni
  ·obtain⟨hv,hnl,c,hc⟩:=B.free x z;obtain⟨m0,_,hl⟩:=I.loc;obtain⟨u,r,l⟩:=hl i x v h1 e2 hv;refine⟨u,r,.inr ⟨z,c,hc,?_⟩⟩;rcases l with ⟨k,_⟩ |⟨_,c',hc',o,ho,hd⟩
   ·exact absurd k hnl
   ·have ec:=B.cls x c hc;rw[hc']at ec;cases ec;exact⟨o,hk _ _ ho,hd⟩
 ·obtain⟨v,o,ho,hd⟩:=I.cell x c (B.cls x c e);exact⟨v,o,hk _ _ ho,hd⟩
 ·show (mask is σ).length=X.N.length;rw[kS];exact I.len
theorem y8{Sy iter tg:Expr}{QA:Lk}{cl:List (Str×E6)}{QB pos0:Pos}{is:List Nat}{g:TG}{te:TE}{use:Option (EW->Sem Unit)}{Q0:VK}{Q:EW->EU->Prop}(hc:X.calm=true)(B:iM X QA cl is)
  (hg:∀C s H fp,PG (b_ X QA cl C s H fp) tg g) (he:∀C s H fp,PE (b_ X QA cl C s H fp) Sy te) (hs:∀x,IL iter X.env x=pure x)
  (I:Inv X pins σ H s) (hi:Fy (FF X.prog X.w) X.A (IJ iter X.env) (λv s1=>Fy (FF X.prog X.w) X.A (N6 v) (PIE X pins σ tg (xY is g te σ Q0)) X.xe s1) X.xe s)
  (fin:∀(l C:E6) (H':Hp) (s':EU) (m:Str->Option EW),Inv X pins σ H' s'->s'.heap.Ns C m->H' C=none->C≠X.env.locals->C ∉ X.fs->X.s₀.heap.objs.size<=C->(∀x c,X.env.cells.lookup x=some c->c≠C)->(∀p∈X.pn++pins,p.1≠C)->Q0 (.ref l) H'->
   compPost (FF X.prog X.w) X.A X.xe use Q (.ref l) C (.ok .next) s'):
  Fy (FF X.prog X.w) X.A (comprehension (.ListComp Sy [⟨tg,iter,[],0⟩] QA QB) QA X.env pos0 (newList []) false (IJ iter X.env) use) Q X.xe s:=by
 refine wpAny_comprehension_free rfl hs B.clos B.kind B.names (thn hi λxv s1 h1=>thn h1 λitv s2 h2=>?_)
 obtain⟨it,fp,tn,J,H2,e,I2,T,Rl,f2,R⟩:=h2;subst e;refine Ij (wpAny_newFunctionEnv B.cell (by intro y hy;simp at hy) (λh₁ hns SA=>?_) B.kind)
 have hl:H2 s2.heap.objs.size=none:=I2.hok.fresh (E2 _);obtain⟨W,⟨m0,w0⟩,turn⟩:=R s2.heap.objs.size hl
 have I3:Inv X pins σ (upd H2 s2.heap.objs.size (.lst [])) {s2 with heap:=s2.heap.push {cls:=.type "list",dict:=none,data:=.seq ([]:List EW).toArray } }:=
  I2.laid (t':=s2.toks) (o:=.lst []) (λb u e=>EV _ e) (E2 _) ⟨Gz _,[],0,.nil,Fe _ rfl⟩
 have hfl:∀b∈fp,b<s2.heap.objs.size:=λb hb=>let ⟨o,e,_⟩:=T.obj 0 _ Rl b hb;E_ e
 have f3:∀b∈fp,nK X pins (upd H2 s2.heap.objs.size (.lst [])) b:=λb hb=>⟨by rw[aY (FJ (hfl b hb))];exact (f2 b hb).1,(f2 b hb).2⟩
 have kp:∀b o,(s2.heap.push {cls:=.type "list",dict:=none,data:=.seq ([]:List EW).toArray }).get? b=some o→h₁.get? b=some o:=λb o e=>
  SA.extBut b o (FJ (E_ e)) (EV _ e)
 have Ti:tn 0 h₁:=T.keep 0 _ _ Rl λb _ o e=>kp b o (EV _ e)
 have hfl3:∀b∈fp,b<(s2.heap.push {cls:=.type "list",dict:=none,data:=.seq ([]:List EW).toArray }).objs.size:=λb hb=>by
  rw[Hu];exact HG (hfl b hb)
 have I4:=pF (t':=s2.toks+([]:List (Str×EW)).length) I3 B f3 hfl3 hns kp
 have loop:Jc (FF X.prog X.w) X.A (.compLoop (.ListComp Sy [⟨tg,iter,[],0⟩] QA QB) 0 (.ref it) (.ref s2.heap.objs.size) (P3 QA cl (s2.heap.push {cls:=.type "list",dict:=none,data:=.seq ([]:List EW).toArray }).objs.size X.env))
   (compPost (FF X.prog X.w) X.A X.xe use Q (.ref s2.heap.objs.size) (s2.heap.push {cls:=.type "list",dict:=none,data:=.seq ([]:List EW).toArray }).objs.size)
   {s2 with heap:=h₁,toks:=s2.toks+([]:List (Str×EW)).length }:=by
  generalize hs3:({s2 with heap:=s2.heap.push {cls:=.type "list",dict:=none,data:=.seq ([]:List EW).toArray } }:EU)=s3 at *
  have hC:(s2.heap.push {cls:=.type "list",dict:=none,data:=.seq ([]:List EW).toArray }).objs.size=s3.heap.objs.size:=by rw[←hs3]
  rw[hC]
  have SQ:∀{H':Hp},(∀b∈fp,H' b=none)->∀b∈fp,nK (b_ X QA cl s3.heap.objs.size s3 (upd H2 s2.heap.objs.size (.lst [])) fp) [] H' b:=λhn b hb=>
   ⟨hn b hb,(I4.ok.exf b hb).1,I4.ok.exfs b hb,.inl hb,λx c e=>(I4.ok.exf b hb).2 x c e,λp hp=>absurd (show p∈([]:List (E6×Obj)) from hp) (by simp)⟩
  have back:∀{QI:St}{H':Hp}{pp:List (E6×Obj)}{s':EU},Inv (b_ X QA cl s3.heap.objs.size s3 (upd H2 s2.heap.objs.size (.lst [])) fp) pp QI H' s'->Inv X pins σ H' s':=λI'=>
   I3.call' (ch:=fp) I'.os I'.base I'.hok I'.bare λb hb=>⟨(f3 b hb).2.2.2.1,(f3 b hb).2.1,(f3 b hb).2.2.2.2.1,(f3 b hb).2.2.2.2.2⟩
  refine codeAny_loop rfl (λn s'=>∃i H',Inv (b_ X QA cl s3.heap.objs.size s3 (upd H2 s2.heap.objs.size (.lst [])) fp) [] (mask is σ) H' s'/\tn i s'.heap/\(∀b∈fp,H' b=none)/\W i n H') ?_ m0 ⟨0,_,(by subst hs3;exact I4),Ti,λb hb=>(f3 b hb).1,w0⟩
  rintro n s5 ⟨i,H5,I5,TV,fr5,w5⟩;show Fy _ _ ((compTurn (.ListComp Sy [⟨tg,iter,[],0⟩] QA QB) 0 (.ref it) (.ref s2.heap.objs.size) (P3 QA cl s3.heap.objs.size X.env)).onRaise (λx=>do noteFrame x (P3 QA cl s3.heap.objs.size X.env);theTreesLotGoes x)) _ _ s5
  refine wpAny_noted ?_;rw[compTurn_list1];refine EN (wpAny_standAt (EN ?_));rcases turn i n H5 w5 with ⟨stop,q⟩ |⟨go,step⟩
  ·refine thn (T.done (b_ X QA cl s3.heap.objs.size s3 (upd H2 s2.heap.objs.size (.lst [])) fp) rfl rfl rfl hc i [] s5 _ H5 _ I5 (SQ fr5) TV stop) λr s6 ⟨hr,I6⟩=>?_
   subst hr;refine EY ?_;obtain⟨m6,hn6,_⟩:=I6.loc;have hCn:∀b,b<s3.heap.objs.size->b≠s3.heap.objs.size:=λb hb=>FJ hb
   refine fin _ s3.heap.objs.size H5 s6 m6 (back I6) hn6 I6.free (Lu I3.lt) (I3.nofs (E2 _)) I3.sz (λx c e=>?_) (λp hp=>?_) q
   ·obtain⟨v,z⟩:=I3.cell x c e;exact FJ z.lt
   ·exact FJ (E_ (I3.pin p hp).1)
  ·refine thn (T.item (b_ X QA cl s3.heap.objs.size s3 (upd H2 s2.heap.objs.size (.lst [])) fp) rfl rfl rfl hc i [] s5 _ H5 _ I5 (SQ fr5) TV go) λr s6 ⟨u,hr,h6⟩=>?_
   subst hr;refine EN (thn h6 λ_ s7 ⟨x,H7,I7,r7,y7,st7,fr7⟩=>?_)
   have I7':=I7.pinned (SQ fr7) (T.obj _ _ st7);refine EN (Jr (hg _ _ _ _ _ s7 (mask is σ) H7 x u _ I7' r7 (step x H7 y7)) (λ_ s8 ⟨σ8,H8,I8,q8⟩=>?_) λ_ _ z=>z.elim)
   refine EN (EN (Jr (he _ _ _ _ _ s8 σ8 H8 _ I8 q8) (λv s9 ⟨y,H9,I9,r9,sub,vs,hl9,hz,m',hm,w'⟩=>?_) λ_ _ z=>z.elim))
   refine EN (Jr (lP (X:=b_ X QA cl s3.heap.objs.size s3 (upd H2 s2.heap.objs.size (.lst [])) fp) _ s9 σ8 H9 (.ref s2.heap.objs.size) [y] (.ref s2.heap.objs.size) [v] (λ_ H'=>H'=upd H9 s2.heap.objs.size (.lst (vs++[y]))) I9 rfl (.cons r9 .nil) ⟨_,vs,y,rfl,rfl,hl9,hz,rfl⟩) (λz s10 ⟨zv,H10,I10,_,e10⟩=>?_) λ_ _ z=>z.elim)
   subst e10;refine EY (EY ⟨rfl,m',hm,i+1,_,(I10.unpinned (pins:=[])).weak (by rw[I10.len,kS,I.len]) sub,T.keep _ _ _ st7 λb hb o e=>(I10.pin (b,o) (Fw _ (Fw _ (fm hb e)))).1,λb hb=>?_,w'⟩)
   obtain⟨o,e,d⟩:=T.obj _ _ st7 b hb;exact (I10.pin (b,o) (Fw _ (Fw _ (fm hb e)))).2.1
 exact codeAny_compStart_list loop (T.self X.A 0 _ _ _ Ti loop)
theorem Ay{Sy iter tg:Expr}{QA:Lk}{cl:List (Str×E6)}{QB:Pos}{is:List Nat}{wi:TI}{g:TG}{te:TE}(hc:X.calm=true)(B:iM X QA cl is)
  (hi:PI X tg iter wi) (hg:∀C s H fp,PG (b_ X QA cl C s H fp) tg g) (he:∀C s H fp,PE (b_ X QA cl C s H fp) Sy te) (hs:∀x,IL iter X.env x=pure x:=by intro _;rfl):
  PE X (.ListComp Sy [⟨tg,iter,[],0⟩] QA QB) (DS is wi g te):=by
 intro pins s σ H Q I h;rw[eval_ListComp];refine y8 (use:=none) hc B hg he hs I (hi pins s σ H _ I h) λl C H' s' m I' hn h1 h2 h3 h4 h5 h6 q=>⟨m,hn,λh' SA=>?_⟩
 exact⟨.ref l,H',I'.turned (t':=s'.toks) (λb o hb e=>SA.extBut b o hb e) h1 (Ne.symm h2.symm) (.inr h4) h5 h6,rfl,q⟩
variable {prog:E8}{w:FE}{A:FC}{E:EW→EU→Prop}
variable {QB:Pos}
end
def goC(cells:List (Str×E6)):List (Str×K2)->List (Str×E6)->List (Str×E6)
 |[],acc=>acc
 | (n,k)::r,acc=>goC cells r (if (k==.free)=true then (n,(cells.lookup n).getD 0)::acc else acc)
theorem rh{env:Env}{QA:Lk}(h:∀y∈QA.names,y.2=.free->(env.cells.lookup y.1).isSome=true):PN QA env=pure (goC env.cells QA.names []):=by
 have all:∀(names:List (Str×K2)) (acc:List (Str×E6)),(∀y∈names,y.2=.free->(env.cells.lookup y.1).isSome=true)->
   (forIn names acc (λx cs=>match x with | (name,kind)=>if (kind==.free)=true then (do let c <-cellOf env name;pure (ForInStep.yield ((name,c)::cs))) else pure (ForInStep.yield cs)):Sem (List (Str×E6)))=pure (goC env.cells names acc):=by
  intro names
  induction names with
  |nil=>intro acc _;rfl
  |cons y r ih=>
   intro acc hy;obtain⟨n,k⟩:=y;rw[Jh];by_cases hk:k=.free
   ·subst hk;have:=hy (n,.free) E3 rfl;obtain⟨c,hc⟩:=Hm.mp this;have e:cellOf env n=pure c:=by unfold cellOf;rw[hc]
    simp only[beq_self_eq_true,if_true,e,pure_bind];rw[ih _ λy SK=>hy y (ET _ SK)]
    simp only[goC,beq_self_eq_true,if_true,hc,Ir]
   ·have hb:(k==NameKind.free)=false:=by simpa using hk
    simp only[hb,Fk,if_false,pure_bind];rw[ih _ λy SK=>hy y (ET _ SK)]
    simp only[goC,hb,Fk,if_false]
 simp only[PN];have:=all QA.names [] h;simpa using this
theorem uF{cells:List (Str×E6)}:∀(names:List (Str×K2)) (acc:List (Str×E6)),(∀y∈names,y.2=.free->(cells.lookup y.1).isSome=true)->(∀x c,acc.lookup x=some c->cells.lookup x=some c)->
  ∀x c,(goC cells names acc).lookup x=some c->cells.lookup x=some c
 |[],_,_,ha,x,c,h=>ha x c h
 | (n,k)::r,acc,hy,ha,x,c,h=>by
  rw[goC]at h;refine uF r _ (λy SK=>hy y (ET _ SK)) (λx' c' e=>?_) x c h
  by_cases hk:k=.free
  ·subst hk;simp only[beq_self_eq_true,if_true]at e;rw[KO]at e;by_cases hx:(x'==n)=true
   ·rw[hx]at e;have RX:x'=n:=by simpa using hx
    obtain⟨c2,hc2⟩:=Hm.mp (hy (n,.free) E3 rfl);simp only[hc2,Ir]at e;rw[RX,hc2];exact e
   ·have:(x'==n)=false:=by simpa using hx
    rw[this]at e;exact ha x' c' e
  ·have hb:(k==NameKind.free)=false:=by simpa using hk
   rw[hb]at e;exact ha x' c' e
theorem ua{cells:List (Str×E6)}{x:Str}:∀(names:List (Str×K2)) (acc:List (Str×E6)),((x,NameKind.free)∈names\/∃c,acc.lookup x=some c)->∃c,(goC cells names acc).lookup x=some c
 |[],_,h=>by
  rcases h with h |h
  ·cases h
  ·exact h
 | (n,k)::r,acc,h=>by
  rw[goC];refine ua r _ ?_;rcases h with h |⟨c,h⟩
  ·rcases E1.mp h with e |h
   ·cases e
    right
    simp
   ·exact .inl h
  ·right
   by_cases hk:k=.free
   ·subst hk;simp only[beq_self_eq_true,if_true];rw[KO];cases hx:x==n with
    |true=>exact⟨_,rfl⟩
    |false=>exact⟨c,h⟩
   ·have hb:(k==NameKind.free)=false:=by simpa using hk
    rw[hb];exact⟨c,h⟩
theorem cQ{env:Env}{x:Str}{kd:K2}:∀{names:List (Str×K2)},
  (names.map λ(n,k)=>if (k==NameKind.free && env.scope.kind==.function && env.kindOf n==some .cell) then (n,NameKind.cell) else (n,k)).lookup x=some kd->names.lookup x=some kd\/(kd=.cell/\names.lookup x=some .free)
 |[],h=>by simp at h
 | (n,k)::r,h=>by
  have ih:=@cQ env x kd r
  change List.lookup x ((if (k==NameKind.free && env.scope.kind==.function && env.kindOf n==some .cell)=true then (n,NameKind.cell) else (n,k))::_)=_ at h
  by_cases hc:(k==NameKind.free && env.scope.kind==.function && env.kindOf n==some .cell)=true
  ·rw[if_pos hc]at h;rw[KO]at h |-;cases hx:x==n with
   |true=>
    rw[hx]at h
    have hk:k=.free:=by
     have:=(M8.mp (M8.mp hc).1).1;simpa using this
    subst hk;have h':some NameKind.cell=some kd:=h;cases h';exact .inr ⟨rfl,rfl⟩
   |false=>rw[hx]at h;exact ih h
  ·rw[if_neg hc]at h;rw[KO]at h |-;cases hx:x==n with
   |true=>rw[hx]at h;exact .inl h
   |false=>rw[hx]at h;exact ih h
def x6(QA Rc:Lk)(N:List Str)(is:List Nat):Bool:=
 QA.names.all (λy=>y.2 !=.cell) && QA.names.all (λy=>y.2 !=.local ||QA.names.lookup y.1==some .local) && QA.names.all (λy=>y.2 !=.free ||Rc.names.lookup y.1==some .cell) &&
  (F_ N.length).all λi=>match N[i]? with |some x=>QA.names.lookup x !=some .local ||is.contains i |none=>true
theorem blk{X:Cx}{QA:Lk}(Rc:Lk)(N:List Str)(is:List Nat)(hNN:X.N=N)(hs:X.env.scope=Rc)(hcs:X.env.cells=Oq (X.env.locals+1) Rc.names [])(hk:QA.kind=.function)(h:x6 QA Rc N is=true):iM X QA (goC X.env.cells QA.names []) is:=by
 subst hNN;unfold x6 at h;simp only[GE,HW]at h;obtain⟨⟨⟨h1,h2⟩,h3⟩,h4⟩:=h
 have f1:∀y∈QA.names,y.2=.free->Rc.names.lookup y.1=some .cell:=λy hy e=>by
  have:=h3 y hy;simp only[Ow,bne_iff_ne,ne_eq,beq_iff_eq]at this;exact this.resolve_left λz=>z e
 have f2:∀y∈QA.names,y.2=.free->(X.env.cells.lookup y.1).isSome=true:=λy hy e=>by
  rw[hcs];exact Ki _ _ _ (.inl (f1 y hy e))
 have nc:∀y∈QA.names,y.2≠.cell:=λy hy=>by have:=h1 y hy;simpa using this
 refine⟨rh f2,nc,hk,λy hy e=>?_,uF _ _ f2 (λx c e=>by simp at e),λx hx=>?_,λi x hi hl=>?_⟩
 ·have:=h2 y hy;simp only[Ow,bne_iff_ne,ne_eq,beq_iff_eq]at this;exact this.resolve_left λz=>z e
 ·have hf:(x,NameKind.free)∈QA.names:=by
   rcases hx with hx |hx
   ·rcases cQ hx with z |⟨_,z⟩
    ·exact absurd rfl (nc _ (Hj z))
    ·exact Hj z
   ·rcases cQ hx with z |⟨z,_⟩
    ·exact Hj z
    ·cases z
  have hc:=f1 _ hf rfl;refine⟨.inr (.inl (by rw[hs];exact hc)),(by rw[hs,show Rc.names.lookup x=some .cell from hc];intro z;cases z),ua _ _ (.inl hf)⟩
 ·have QO:i<X.N.length:=(Fb.mp hi).1;have:=h4 i (Fu.mpr QO);rw[hi]at this
  have QS:QA.names.lookup x=some .local:=by
   rcases cQ hl with z |⟨z,_⟩
   ·exact z
   ·cases z
  simp only[QS,bne_self_eq_false,Bool.false_or,List.contains_iff_mem]at this;exact this
end L2
namespace L2
end L2
namespace L2
open PySem PySem.Spec PySem.W PyProof.Rows
theorem zE{K:Frag}{h:GV}{mg:Str->Option EW}{x:Str}{C:E6}{bmB:List EW}{TX:String}(X:K.In h)(hb:mg x=some (.ref C))(q:excIn K C bmB TX=true):OwnCls x C bmB TX mg h:=by
 refine⟨hb,?_⟩;unfold excIn at q;split at q
 ·rename_i dd cd sl ho
  split at q
  ·rename_i C' bm k0 k1 k2 k3 n k5 hm hs
   simp only[GE,beq_iff_eq,NU]at q;obtain⟨⟨⟨⟨⟨e1,e2⟩,hdel⟩,ht⟩,hok⟩,hni⟩:=q;subst e1 e2;obtain⟨nm,bs,mro,ns,qn,hd,sn,sub,ab,col,del⟩:=cd;dsimp only at hm hdel hok hni;subst hm hdel;have TY:sl=#[k0,k1,k2,k3,some (.builtin n),k5]:=by cases sl;simp only at hs;rw[hs]
   subst TY;exact⟨bm,ns,nm,qn,bs,hd,sn,sub,ab,col,dd,k0,k1,k2,k3,k5,_,X _ _ ho,.of_isNs (isNs_of_in X hok),nsMap_none_of_in X hok hni,tail_of_in X ht⟩
  ·cases q
 ·cases q
def CXF(P:E8)(w:FE):CXT:=λouter H s E e s'=>∃(ea:E6) (cls a0:EW) (B:GV) (H':Hp),e=.ref ea/\s'.os=s.os/\LU s'.gens/\Un (frs outer) [] H H' s.heap s'.heap/\HOk P w H' s'.heap/\H' ea=none/\
 (∀b o,s.heap.get? b=some o->b ∉ frs outer->H b=none->B.get? b=some o)/\(∀b u,H' b=some u->∃o,B.get? b=some o)/\(∀b o,s.heap.get? b=some o->b ∉ frs outer->∃o',B.get? b=some o')/\
 Heap.FlyingW B outer ea cls a0 s'.heap/\E cls none H'
theorem ay{P:E8}{w:FE}{X:Cx}:fi (CXF P w) X E0:=λ_ _ _ _ _ _ _ h=>by
 obtain⟨_,_,_,_,_,_,_,_,_,_,_,_,_,_,_,hE⟩:=h;exact hE.elim
theorem md{P:E8}{w:FE}{H:Hp}{h:GV}{a:E6}{o:HO}(x:cu P w H h a o):∃ob,h.get? a=some ob:=by
 cases o with
 |lst xs=>obtain⟨_,_,_,_,e⟩:=x;exact⟨_,e⟩
 |tup xs=>obtain⟨_,_,_,ob,e,_⟩:=x;exact⟨_,e⟩
 |dK QW=>obtain⟨_,_,_,_,o,_,_,e,_⟩:=x;exact⟨_,e⟩
 |dT QW=>obtain⟨_,_,_,_,o,_,_,e,_⟩:=x;exact⟨_,e⟩
 |set S n=>obtain⟨o,_,_,_,e,_⟩:=x;exact⟨_,e⟩
 |ins C dx fs=>obtain⟨_,_,_,e,_⟩:=x;exact⟨_,e⟩
 |own y=>obtain⟨_,e⟩:=x;exact⟨_,e⟩
 |xd fs=>obtain⟨_,⟨_,_,_,e,_⟩,_⟩:=x;exact⟨_,e⟩
 |rng lo hi=>obtain⟨_,_,_,e⟩:=x;exact⟨_,e⟩
 |frz ob u=>obtain⟨e,_⟩:=x;exact⟨_,e⟩
 |tbl ps=>exact⟨_,(show h.get? a=some _ from x)⟩
 |met f y=>exact⟨_,(show h.get? a=some _ from x)⟩
 |ext φ=>obtain⟨_,⟨_,e⟩,_⟩:=x;exact⟨_,e⟩
theorem jz{P:E8}{w:FE}{H':Hp}{h h' B:GV}(ok:HOk P w H' h)(hB:∀b u,H' b=some u->∃o,B.get? b=some o)(s1:B.StaysIn h)(s2:B.StaysIn h'):HOk P w H' h':=λa o e=>by
 refine (ok a o e).stay (λb u hb q=>?_) (λ_ q=>q) λ_ _ q=>q
 have:∃v,H' b=some v:=by
  rcases hb with z |z
  ·subst z;exact⟨_,e⟩
  ·exact⟨_,z⟩
 obtain⟨v,hv⟩:=this;obtain⟨ob,hob⟩:=hB b v hv;have:=s1 b ob hob;rw[q]at this;cases this;exact s2 b _ hob
theorem xf{fs:List E6}{H0 H':Hp}{h0 h1 h2 B:GV}(u:Un fs [] H0 H' h0 h1)(k1:∀b o,h0.get? b=some o->b ∉ fs->H0 b=none->B.get? b=some o)(k3:∀b o,h0.get? b=some o->b ∉ fs->∃o',B.get? b=some o')
  (st:B.StaysIn h2) (up:h1.UpToSlots h2) (fr:∀b∈fs,∀o,h0.get? b=some o->∀vs,o.data≠.fields vs) (frf:∀b∈fs,H0 b=none):Un fs [] H0 H' h0 h2 where
 keep:=λb o e n hb _=>st b o (k1 b o e hb n)
 slot:=λb o e n hb hx=>by
  obtain⟨sl,e1⟩:=u.slot b o e n hb hx;obtain⟨sl2,e2⟩:=up b _ e1 (fr b hb o e);exact⟨sl2,e2⟩
 free:=u.free
 there:=λb o e hx=>by
  by_cases hb:b∈fs
  ·obtain⟨sl,e1⟩:=u.slot b o e (frf b hb) hb hx;obtain⟨sl2,e2⟩:=up b _ e1 (fr b hb o e);exact⟨_,e2⟩
  ·obtain⟨o',e'⟩:=k3 b o e hb;exact⟨o',st b o' e'⟩
 tups:=u.tups
 frzs:=u.frzs
 tbls:=u.tbls
theorem oo{h base:GV}:∀{l:List Env},h.FunFrames base l->∀b∈frs l,∀o,h.get? b=some o->∀vs,o.data≠.fields vs
 |[],_,b,hb,_,_=>absurd (show b∈([]:List E6) from hb) (by simp)
 |env::r,⟨_,⟨L,o',hf,_,ho,hd⟩,hr⟩,b,hb,o,e=>by
  unfold frs at hb;rw[Hi,hf]at hb;rcases E1.mp hb with z |z
  ·subst z;rw[ho]at e;cases e;exact hd
  ·exact oo hr b z o e
section
variable {P:E8}{w:FE}{K:Frag}{mg:Str→Option EW}{base:GV}{N:List Str}{QE:Str}{QA:Lk}{f:E6}{cd:EW}{A:FC}{outer:List Env}{s:EU}{H:Hp}{E:XK}
theorem xT{env:Env}{L:E6}{l:List Env}(h:env.frame=some L):frs (env::l)=L::frs l:=by unfold frs;rw[Hi,h]
theorem oJ{pins:List (E6×Obj)}{σ:St}{H1 H':Hp}{s1:EU}{B h1 h2:GV}(I:Inv (d_ (CXF P w) P w K mg base N QE QA f cd A outer s H E) pins σ H1 s1)
  (un:Un (frs (JV QE QA s.heap.objs.size f cd::outer)) [] H1 H' s1.heap h1)
  (k1:∀b o,s1.heap.get? b=some o->b ∉ frs (JV QE QA s.heap.objs.size f cd::outer)->H1 b=none->B.get? b=some o) (k3:∀b o,s1.heap.get? b=some o->b ∉ frs (JV QE QA s.heap.objs.size f cd::outer)->∃o',B.get? b=some o')
  (st:B.StaysIn h2) (up:h1.UpToSlots h2):
  Un (frs outer) [] H H' s.heap h2/\(∀b o,s.heap.get? b=some o->b ∉ frs outer->H b=none->B.get? b=some o)/\(∀b o,s.heap.get? b=some o->b ∉ frs outer->∃o',B.get? b=some o'):=by
 have ef:frs (JV QE QA s.heap.objs.size f cd::outer)=s.heap.objs.size::frs outer:=xT rfl;rw[ef]at un k1 k3
 have ne:∀b o,s.heap.get? b=some o->b ∉ frs outer->b ∉ s.heap.objs.size::frs outer:=λb o e hb z=>by
  rcases E1.mp z with y |y
  ·exact absurd (E_ e) (by rw[y];exact FM _)
  ·exact hb y
 have ib:Un (frs outer) [] H H1 s.heap s1.heap:=I.base
 have K1:∀b o,s.heap.get? b=some o->b ∉ frs outer->H b=none->B.get? b=some o:=λb o e hb n=>
  k1 b o (ib.keep b o e n hb (by simp)) (ne b o e hb) (ib.free b o e n (by simp))
 have K3:∀b o,s.heap.get? b=some o->b ∉ frs outer->∃o',B.get? b=some o':=λb o e hb=>by
  obtain⟨o',e'⟩:=ib.there b o e (by simp)
  exact k3 b o' e' (ne b o e hb)
 have ffr:∀b∈frs outer,∀o,s.heap.get? b=some o->∀vs,o.data≠.fields vs:=oo I.ok.funs;have frf:∀b∈frs outer,H b=none:=I.ok.frf;refine⟨⟨λb o e n hb _=>st b o (K1 b o e hb n),λb o e n hb hx=>?_,λb o e n hx=>?_,λb o e hx=>?_,λb xs e=>un.tups b xs (ib.tups b xs e),λb o u e=>un.frzs b o u (ib.frzs b o u e),λb ps e=>?_⟩,K1,K3⟩
 ·obtain⟨sl,e1⟩:=ib.slot b o e n hb hx;obtain⟨sl2,e2⟩:=un.slot b _ e1 (ib.free b o e n hx) (ET _ hb) hx;obtain⟨sl3,e3⟩:=up b _ e2 (ffr b hb o e);exact⟨sl3,e3⟩
 ·obtain⟨o',e1⟩:=ib.there b o e hx;exact un.free b o' e1 (ib.free b o e n hx) hx
 ·by_cases hb:b∈frs outer
  ·obtain⟨sl,e1⟩:=ib.slot b o e (frf b hb) hb hx;obtain⟨sl2,e2⟩:=un.slot b _ e1 (ib.free b o e (frf b hb) hx) (ET _ hb) hx;obtain⟨sl3,e3⟩:=up b _ e2 (ffr b hb o e);exact⟨_,e3⟩
  ·obtain⟨o',e'⟩:=K3 b o e hb;exact⟨o',st b o' e'⟩
 ·obtain⟨m1,e1⟩:=ib.tbls b ps e;obtain⟨m2,e2⟩:=un.tbls b _ e1;exact⟨m1++m2,by rw[e2,Np]⟩
theorem oC:fi (CXF P w) (d_ (CXF P w) P w K mg base N QE QA f cd A outer s H E) E:=by
 intro pins σ H1 s1 e s' I hcx;obtain⟨ea,cls,a0,B,H',rfl,os,bare,un,hok,hea,k1,k2,k3,fl,hE⟩:=hcx;show Fy _ _ (leaving (JV QE QA s.heap.objs.size f cd) (.ref ea)) _ _ s';refine wpAny_leaves_onW (L:=s.heap.objs.size) I.ok.frames rfl fl λh2 fl2 up=>?_
 obtain⟨u,K1,K3⟩:=oJ I un k1 k3 fl2.1 up;exact⟨ea,cls,a0,B,H',rfl,os.trans I.os,bare,u,jz hok k2 fl.1 fl2.1,hea,K1,k2,K3,fl2,hE⟩
def Cs(E:XK)(C:E6)(te:TE):TS:=λ_ σ H=>te σ H λ_ H1=>E (.ref C) none H1
theorem yq{x:Str}{C:E6}{e0:Expr}{te:TE}{np QG QB:Pos}(hex:excIn K C [.type "ValueError",.type "Exception",.type "BaseException",.type "object"] "ValueError.__new__"=true)
  (hg:Gl (d_ (CXF P w) P w K mg base N QE QA f cd A outer s H E) x) (hm:mg x=some (.ref C)) (he:PE (d_ (CXF P w) P w K mg base N QE QA f cd A outer s H E) e0 te)
  (Q7:E4 [e0] (d_ (CXF P w) P w K mg base N QE QA f cd A outer s H E).env=[(false,IJ e0 (d_ (CXF P w) P w K mg base N QE QA f cd A outer s H E).env)]:=by rfl) (hd:(x==("__debug__":Str))=false:=by decide):
  PS (d_ (CXF P w) P w K mg base N QE QA f cd A outer s H E) (.Raise (some (.Call (.Name x np) [e0] [] QG)) none QB) (Cs E C te):=by
 intro pins s1 σ H1 D I h;have O:=zE I.ok.mod.kin hm hex;obtain⟨tl,NN,nm,q,bs,hdct,sn,sub,ab,col,dd,k0,k1,k2,k3,k5,mN,hC,hN,hni,T⟩:=O.obj;have QZ:(HV QG (E4 [e0] (d_ (CXF P w) P w K mg base N QE QA f cd A outer s H E).env)).any (·.1)=false:=by rw[Q7];rfl
 refine wpAny_Raise_call_subT (C:=C) (nm:=nm) (q:=q) (N:=NN) (bs:=bs) (bm:=tl) (hdct:=hdct) (sn:=sn) (sub:=sub) (ab:=ab) (col:=col) (dd:=dd) (k0:=k0) (k1:=k1) (k2:=k2) (k3:=k3) (k5:=k5)
  Lm (mN:=mN) (T.hasType Lm.hasBase) (I.ok.hd rfl) QZ hni (io I hg hm ⟨rfl,?_⟩ hd)
 rw[Q7];refine M7 ?_;show Fy _ _ (On ((false,IJ e0 _)::HV QG [])) _ _ s1;refine Je (thn (he pins s1 σ H1 _ I h) λv s2 ⟨y,H2,I2,r2,hE⟩=>Js ⟨rfl,by show 1<=sizeLine;decide,I2.bk _ _ hC,hN.keeps I2.bk,T.keeps I2.bk,λh' e hx=>?_⟩)
 show Fy _ _ (leaving (JV QE QA s.heap.objs.size f cd) (.ref e)) _ _ {s2 with heap:=h' }
 have stk:s2.heap.FunFrames base (JV QE QA s.heap.objs.size f cd::outer):=I2.stack
 refine wpAny_leaves_madeW (base:=hideAll s2.heap (frs (JV QE QA s.heap.objs.size f cd::outer))) (h:=s2.heap) (L:=s.heap.objs.size) I2.ok.frames rfl (λb o q=>of_hideAll _ q)
  (funFrames_hide stk λenv he b hb=>J0.mpr ⟨env,he,hb⟩) hx λh2 t fl _ _ up=>?_
 have k2':∀b u,H2 b=some u->∃o,(hideAll s2.heap (frs (JV QE QA s.heap.objs.size f cd::outer))).get? b=some o:=λb u e=>by
  obtain⟨ob,hob⟩:=md (I2.hok b u e);exact⟨ob,hideAll_get _ hob λz=>by have:=I2.stkFree b z;rw[e]at this;cases this⟩
 obtain⟨u,K1,K3⟩:=oJ (h1:=h') I2 (Un.kept hx.keeps) (λb o e hb _=>hideAll_get _ e hb) (λb o e hb=>⟨o,hideAll_get _ e hb⟩) fl.1 up
 refine⟨e,.ref C,.ref t,_,H2,rfl,I2.os,I2.bare,u,jz (h:=s2.heap) I2.hok k2' (λb o q=>of_hideAll _ q) fl.1,?_,K1,k2',K3,fl,hE⟩
 cases z:H2 e with
 |none=>rfl
 |some u=>
  obtain⟨ob,hob⟩:=md (I2.hok e u z);rw[hx.new]at hob;cases hob
end
theorem Fun.okF{P:E8}{w:FE}{K:Frag}{mg:Str->Option EW}{base:GV}{x QE:Str}{st:HL}{f:E6}{fd:Gn}{N ps:List Str}{k:Nat}{sp:Sp}(F:Fun K x QE st f fd)(S:av N ps (aq st))(len:∀vs H Q E,sp vs H Q E->vs.length=ps.length)
  (Rh:∀(QK:EW) (A:FC) (outer:List Env) (s:EU) (H:Hp) (vs:List V) (Q:VK) (E:XK),cU k (A.deeper (JV QE (aq st) s.heap.objs.size f QK))->sp vs H Q E->
   ∃t,PSs (d_ (CXF P w) P w K mg base N QE (aq st) f QK A outer s H E) (bA st) t/\t {nx:=λ_ H'=>Q .non H',rt:=Q } (start N vs) H):ba P w K mg base (CXF P w) (k+1) f fd ps sp:=by
 obtain⟨oc,od,kV,Rm,pm,an,QK,ct,R7,rfl,lk,Ro⟩:=F.ex;exact Bz lk Ro S len λA outer s H vs Q E hr RI=>Rh QK A outer s H vs Q E hr RI
abbrev fU(X:Cx)(ea:E6):Cx:={X with A:=X.A.mark (some (.ref ea)),calm:=false,xe:=λ_ _=>False }
section
variable {X:Cx}{pins:List (E6×Obj)}{σ:St}{H:Hp}{s:EU}
theorem Inv.hand(I:Inv X pins σ H s)(ea:E6):Inv (fU X ea) pins σ H s:=
 ⟨⟨I.ok.mod,I.ok.kind,I.ok.glob,I.ok.blt,I.ok.above,I.ok.inj,I.ok.has,I.ok.cab,λh=>(by cases h),I.ok.frames,I.ok.stk,I.ok.exf,I.ok.bs,I.ok.bsz,I.ok.noex,I.ok.exfs,I.ok.funs,I.ok.frf⟩,
  I.os,I.bare,I.base,I.loc,I.cell,I.free,I.freeC,I.pin,I.hok,I.len⟩
theorem Inv.unhand{ea:E6}(hd:X.calm=true->X.A.handled=none)(I:Inv (fU X ea) pins σ H s):Inv X pins σ H s:=
 ⟨⟨I.ok.mod,I.ok.kind,I.ok.glob,I.ok.blt,I.ok.above,I.ok.inj,I.ok.has,I.ok.cab,hd,I.ok.frames,I.ok.stk,I.ok.exf,I.ok.bs,I.ok.bsz,I.ok.noex,I.ok.exfs,I.ok.funs,I.ok.frf⟩,
  I.os,I.bare,I.base,I.loc,I.cell,I.free,I.freeC,I.pin,I.hok,I.len⟩
theorem SP.unhand{ea:E6}{D:j3}{f:Flow}{s':EU}(hd:X.calm=true->X.A.handled=none)(h:SP (fU X ea) pins D f s'):SP X pins D f s':=by
 cases f with
 |next=>obtain⟨QI,H',I,q⟩:=h;exact⟨QI,H',I.unhand hd,q⟩
 |brk=>obtain⟨QI,H',I,q⟩:=h;exact⟨QI,H',I.unhand hd,q⟩
 |cont=>obtain⟨QI,H',I,q⟩:=h;exact⟨QI,H',I.unhand hd,q⟩
 |ret u=>obtain⟨v,QI,H',I,r,q⟩:=h;exact⟨v,QI,H',I.unhand hd,r,q⟩
end
end L2
namespace L2
open PySem PySem.Spec PyProof.Rows
theorem l4{n:Nat}{e:Nat->Bool}:(F_ n).all e=true↔∀j,j<n->e j=true:=by
 rw[HW];exact⟨λh j hj=>h j (Fu.mpr hj),λh j hj=>h j (Fu.mp hj)⟩
section
variable {X:Cx}
end
end L2
namespace PySem.W
open PySem PySem.Spec PySem.Calls PyProof.Rows PySem.Builtin PySem.Builtin.ObjectAttr PySem.Builtin.Getset_descriptor
section
variable {prog:E8}{w:FE}{A:FC}{E:EW→EU→Prop}{s:EU}{K:Frag}{x C:E6}
def OfCls(x C:E6)(h:GV):Prop:=∃o,h.get? x=some o/\o.cls=.ref C
theorem OfCls.type{M:N_}{h:GV}(I:OfCls x C h):Looks M h (Qs (.ref x)) (.ref C):=by
 obtain⟨o,h1,h2⟩:=I;exact h2 ▸ (Looks.ld h1).andThen .now
theorem Cd{tp:EW}{R:Ng→EU→Prop}(X:K.In s.heap)(I:OfCls x C s.heap)(hm:mroIn K C (.type "object")=some true)
  (h:R (.ok (.ret (.ref C))) s):Jc (FF prog w) A (.call (.builtin "getset_descriptor.__get__") ⟨[.builtin "object.__class__",.ref x,tp],[]⟩) R s:=by
 obtain⟨hh,g,dr,t,os⟩:=s;have L0:=I.type (M:=FF prog w);have L1:=looks_mroIn (M:=FF prog w) X hm;refine KZ KF.slot_gs.plain KF.entry_gs (KF.slot_gs.check _ _ _ _ _ _ _ _ KF.type_class (KF.args_gs _ _ _) ?_);unfold Builtin.«getset_descriptor.__get__» descrGet;rw[dga_obj];refine EN (EY ?_);unfold descrGetter descrCheckInstance descrNameAndClass M6;simp only[KF.owner_class]
 repeat lk
 refine⟨Code.quiet_builtin _ (by decide+kernel),GM KF.entry_class ?_⟩
 unfold Builtin.«object.__class__» shownTypeOf
 repeat lk
 exact h
theorem zq{M:N_}{h:GV}{name:Str}{a g:EW}(X:K.In h)(ha:findIn K (.ref C) name=some (some a))(hg:specialIn K a "__get__"=some (some g))(ht:takesIn K a=some true):
  Looks M h (find (.ref x) (.ref C) name) (.bind g a):=by
 have L1:=looks_findIn (M:=M) X ha;have L2:Looks M h (getOf (some a)) (some g):=looks_specialIn X hg;have L3:=looks_takesIn (M:=M) X ht;exact L1.andThen (L2.andThen ((show Looks M h (dataDescriptor? (some a) (some g)) (some (g,a)) from L3.andThen .now).andThen (Looks.tag .now)))
variable (hga:findIn K (.ref C) "__getattribute__"=some (some (.builtin "BaseException.__getattribute__"))) (hgn:findIn K (.ref C) "__getattr__"=some none) (ha:findIn K (.ref C) "__class__"=some (some (.builtin "object.__class__")))
 (hn:specialIn K (.builtin "object.__class__") "__get__"=some (some (.builtin "getset_descriptor.__get__"))) (RB:takesIn K (.builtin "object.__class__")=some true) (hm:mroIn K C (.type "object")=some true) (hmB:mroIn K C (.type "BaseException")=some true)
include ha hn RB hm in
theorem wk{tk:Tok}{Q:Fin->EU->Prop}(X:K.In s.heap)(I:OfCls x C s.heap)(hq:Q (.done (.ret (.ref C))) s):
  Fy (FF prog w) A (Builtin.«object.__getattribute__» ⟨[.ref x,.str "__class__" tk],[]⟩) Q E s:=by
 have L0:=I.type (M:=FF prog w);have L1:=zq (M:=FF prog w) (x:=x) X ha hn RB;obtain⟨hh,g,dr,t,os⟩:=s;unfold Builtin.«object.__getattribute__»;refine EN (EY ?_);refine EN (EY (EN (L0.at (EN (L1.at ?_)))));show Fy _ _ (bindTo _ _ _ _) _ _ _;unfold bindTo;show Fy _ _ (NM [_] (call _ [_,_,_]) >>=ret) _ _ _;refine EN (Gk (M4 (Cd X I hm ?_)));exact EY hq
include hmB in
theorem y_{TZ:EW}{M:N_}{Q:Unit→EU→Prop}(X:K.In s.heap)(I:OfCls x C s.heap)(hq:Q () s):Fy M A (Mh "BaseException.__getattribute__" ⟨[.ref x,TZ],[]⟩) Q E s:=by
 have hk:builtinKind "BaseException.__getattribute__"=some .slot:=by decide+kernel
 have hsplit:splitId "BaseException.__getattribute__"=some ("BaseException","__getattribute__"):=by decide+kernel
 have ha':=F.args_bexc_ga (.ref x) TZ;have L:Looks M s.heap (M6 (.ref x) (.type "BaseException")) true:=I.type.andThen (looks_mroIn X hmB);obtain⟨hh,g,dr,t,os⟩:=s;simp only[Mh,hk,hsplit];refine EN (L.at ?_)
 repeat (first |assumption |wp_step)
include hga hgn ha hn RB hm hmB
theorem Av{tk:Tok}{R:Ng->EU->Prop}(X:K.In s.heap)(I:OfCls x C s.heap)(hq:R (.ok (.ret (.ref C))) s):
  Jc (FF prog w) A (.call (.builtin "BaseException.__getattribute__") ⟨[.ref x,.str "__class__" tk],[]⟩) R s:=by
 exact KZ F.excAttr_ValueError.ga.plain F.entry_bexc_ga (y_ hmB X I (wk ha hn RB hm X I hq))
theorem yh{Q:Option EW→EU→Prop}(X:K.In s.heap)(I:OfCls x C s.heap)(h:Q (some (.ref C)) {s with toks:=s.toks+1 }):Fy (FF prog w) A (getAttr? (.ref x) "__class__") Q E s:=by
 obtain⟨hh,g,d,t,os⟩:=s;have L0:=I.type (M:=FF prog w);have L1:=looks_findIn (M:=FF prog w) X hga;have L2:=looks_findIn (M:=FF prog w) X hgn;have f3:=F.excAttr_ValueError.ga.bind (.ref x);unfold getAttr? getAttrBy? getAttrBy;refine EN (wpAny_mkText (EN (IU (Gk (EN (L0.at (EN (L1.at ?_))))))));show Fy _ _ (Ox _ _ _ _ _ _) _ _ _;unfold Ox;refine EN (L2.at ?_);refine EN (IU (Gk ?_));show Fy _ _ (O5 _ _ _) _ _ _;unfold O5;rw[f3];refine EN (EY (M4 ?_));exact Av hga hgn ha hn RB hm hmB X I (EY (EY h))
theorem z8(hc:(clsIn K C).isSome=true):KitX K (.ref x) (.ref C) (OfCls x C) where
 ty:=λ_ _ _ I=>I.type
 it:=λ_ _ X _=>by
  obtain⟨cdD,SR⟩:=Hm.mp hc;unfold clsIn at SR;split at SR
  ·rename_i c' d' cd' sl' ho
   intro A' Q' E' s' k q;unfold isType loadHead;exact EN (O6 (k _ _ (X _ _ ho)) (EY q))
  ·cases SR
 ne:=λh tp dd QC n sl X htp=>by
  obtain⟨cdD,SR⟩:=Hm.mp hc;refine Bool.eq_false_iff.mpr λq=>?_
  have e:C=tp:=Value.ref.inj (beq_iff_eq.mp q);subst e;unfold clsIn at SR;split at SR
  ·rename_i c' d' cd' sl' ho
   have z:=(X _ _ ho).symm.trans htp;cases z
  ·cases SR
 ca:=λX I k=>yh hga hgn ha hn RB hm hmB X I k
end
theorem lg{K:Frag}{C:E6}{v:EW}{b:Bool}(h:mroIn K C v=some b):(clsIn K C).isSome=true:=by
 obtain⟨cd,e,_⟩:=Option.bind_eq_some_iff.mp h;rw[e];rfl
structure XcOk(K:Frag)(C:E6):Prop where
 ga:findIn K (.ref C) "__getattribute__"=some (some (.builtin "BaseException.__getattribute__"))
 gn:findIn K (.ref C) "__getattr__"=some none
 at_:findIn K (.ref C) "__class__"=some (some (.builtin "object.__class__"))
 sp:specialIn K (.builtin "object.__class__") "__get__"=some (some (.builtin "getset_descriptor.__get__"))
 tk:takesIn K (.builtin "object.__class__")=some true
 mo:mroIn K C (.type "object")=some true
 mb:mroIn K C (.type "BaseException")=some true
theorem XcOk.kit{K:Frag}{x C:E6}(h:XcOk K C):KitX K (.ref x) (.ref C) (OfCls x C):=z8 h.ga h.gn h.at_ h.sp h.tk h.mo h.mb (lg h.mo)
theorem XcOk.off{x C:E6}{h:GV}{o:Obj}{T:String}(I:OfCls x C h)(e:h.get? x=some o)(c:o.cls=.type T):False:=by
 obtain⟨o',e',c'⟩:=I;rw[e]at e';cases e';rw[c]at c';cases c'
end PySem.W
namespace L2
open PySem PySem.Spec PyProof.Rows
inductive TyX where
 |nm (n:String) |xc (C:E6)
inductive U where
 |non |bl (b:Bool) |int (i:Int) |str (x:Str) |ty (n:TyX) |dic |scr (xs:List U) |tup (xs:List U) |lst (xs:List U)
def U.items:U->Option (List U)
 | .scr xs=>some xs
 | .tup xs=>some xs
 | .lst xs=>some xs
 |_=>none
def hid(H:Hp)(O:List E6):Hp:=λb=>if b∈O then none else H b
theorem gX{H:Hp}{O:List E6}{b:E6}{o:HO}(h:hid H O b=some o):H b=some o/\b ∉ O:=by
 unfold hid at h;split at h
 ·cases h
 ·exact⟨h,by assumption⟩
theorem dM{H:Hp}{O:List E6}{b:E6}{o:HO}(h:H b=some o)(n:b ∉ O):hid H O b=some o:=by
 unfold hid;rw[if_neg n];exact h
theorem ax{H:Hp}{O:List E6}:aZ (hid H O) H:=λ_ _ h=>(gX h).1
theorem bD{H H':Hp}{O:List E6}(e:aZ H H'):aZ (hid H O) (hid H' O):=λ_ _ h=>dM (e _ _ (gX h).1) (gX h).2
theorem f7{H:Hp}{O O':List E6}(e:∀a∈O',a∈O):aZ (hid H O) (hid H O'):=λ_ _ h=>dM (gX h).1 λz=>(gX h).2 (e _ z)
theorem bF{H H':Hp}{O:List E6}{a:E6}(e:aZ H H')(n:H a=none):aZ (hid H O) (hid H' (a::O)):=λb o h=>by
 obtain⟨h1,h2⟩:=gX h;refine dM (e _ _ h1) λz=>?_
 rcases E1.mp z with y |y
 ·subst y;rw[n]at h1;cases h1
 ·exact h2 y
theorem tZ{H:Hp}{O:List E6}{a:E6}{o:HO}(h:a∈O):hid (upd H a o) O=hid H O:=by
 funext b
 unfold hid;split
 ·rfl
 ·rename_i n
  rw[aY λe=>n (by rw[e];exact h)]
inductive Rp (K:ER) (H:Hp):V->U->Prop where
 |non:Rp K H .non .non
 |bl (b:Bool):Rp K H (.bl b) (.bl b)
 |int (i:Int):Rp K H (.int i) (.int i)
 |str (x:Str):Rp K H (.str x) (.str x)
 |ty (n:String):Rp K H (.ty n) (.ty (.nm n))
 |dic {a:E6}{QW:List (Key×V)} (h:H a=some (.dK QW)):Rp K H (.ref a) .dic
 |xc {a C:E6} (h:H a=some (.ext (PySem.W.OfCls a C))) (k:PySem.W.XcOk K C):Rp K H (.ref a) (.ty (.xc C))
 |scr {a:E6}{vs:List V}{xs:List U} (h:SqL K H a vs) (hl:vs.length=xs.length) (hi:∀(i:Nat) (v:V) (x:U),vs[i]?=some v->xs[i]?=some x->Rp K H v x):Rp K H (.ref a) (.scr xs)
 |tup {a:E6}{vs:List V}{xs:List U} (h:SqT K H a vs) (hl:vs.length=xs.length) (hi:∀(i:Nat) (v:V) (x:U),vs[i]?=some v->xs[i]?=some x->Rp K H v x):Rp K H (.ref a) (.tup xs)
 |lst {a:E6}{vs:List V}{xs:List U} (h:H a=some (.lst vs)) (hl:vs.length=xs.length) (hi:∀(i:Nat) (v:V) (x:U),vs[i]?=some v->xs[i]?=some x->Rp K H v x):Rp K H (.ref a) (.lst xs)
theorem Rp.same{K:ER}{H H':Hp}{v:V}{u:U}(e:aZ H H')(h:Rp K H v u):Rp K H' v u:=by
 induction h with
 |non=>exact .non
 |bl b=>exact .bl b
 |int i=>exact .int i
 |str x=>exact .str x
 |ty n=>exact .ty n
 |dic h=>exact .dic (e _ _ h)
 |xc h k=>exact .xc (e _ _ h) k
 |scr h hl hi ih=>exact .scr (e.seq h) hl ih
 |tup h hl hi ih=>exact .tup (e.tup h) hl ih
 |lst h hl hi ih=>exact .lst (e _ _ h) hl ih
structure Rps(K:ER)(H:Hp)(vs:List V)(xs:List U):Prop where
 len:vs.length=xs.length
 at_:∀(i:Nat) (v:V) (x:U),vs[i]?=some v->xs[i]?=some x->Rp K H v x
theorem Rps.same{K:ER}{H H':Hp}{vs:List V}{xs:List U}(e:aZ H H')(h:Rps K H vs xs):Rps K H' vs xs:=⟨h.len,λi v x a b=>(h.at_ i v x a b).same e⟩
theorem Rps.nil{K:ER}{H:Hp}:Rps K H [] []:=⟨rfl,λi v x h=>by simp at h⟩
theorem Rps.cons{K:ER}{H:Hp}{v:V}{x:U}{vs:List V}{xs:List U}(h:Rp K H v x)(t:Rps K H vs xs):Rps K H (v::vs) (x::xs):=by
 refine⟨by simp[t.len],λi a b h1 h2=>?_⟩
 cases i with
 |zero=>simp at h1 h2;subst h1;subst h2;exact h
 |succ i=>exact t.at_ i a b (by simpa using h1) (by simpa using h2)
theorem Rps.snoc{K:ER}{H:Hp}{vs ws:List V}{xs ys:List U}(h:Rps K H vs xs)(t:Rps K H ws ys):Rps K H (vs++ws) (xs++ys):=by
 refine⟨by simp[h.len,t.len],λi a b h1 h2=>?_⟩
 by_cases hi:i<vs.length
 ·rw[Fp hi]at h1;rw[Fp (by rw[<-h.len];exact hi)]at h2
  exact h.at_ i a b h1 h2
 ·have Tv:vs.length<=i:=KN hi;rw[Fq Tv]at h1;rw[Fq (by rw[<-h.len];exact Tv),<-h.len]at h2
  exact t.at_ _ a b h1 h2
theorem Rps.get{K:ER}{H:Hp}{vs:List V}{xs:List U}{i:Nat}{x:U}(h:Rps K H vs xs)(e:xs[i]?=some x):∃v,vs[i]?=some v/\Rp K H v x:=by
 have hi:i<vs.length:=by rw[h.len];exact (Fb.mp e).1
 exact⟨vs[i],EO hi,h.at_ i _ x (EO hi) e⟩
theorem Rps.atI{K:ER}{H:Hp}{vs:List V}{xs:List U}{i:Int}{x:U}(h:Rps K H vs xs)(e:L2.atI xs i=some x):∃v,L2.atI vs i=some v/\Rp K H v x:=by
 unfold L2.atI at e |-;rw[h.len];cases q:ixN xs.length i with
 |none=>rw[q]at e;cases e
 |some j=>
  rw[q]at e;obtain⟨v,h1,h2⟩:=h.get (show xs[j]?=some x from e)
  exact⟨v,h1,h2⟩
theorem Rps.cons_inv{K:ER}{H:Hp}{vs:List V}{x:U}{xs:List U}(h:Rps K H vs (x::xs)):∃v ws,vs=v::ws/\Rp K H v x/\Rps K H ws xs:=by
 cases vs with
 |nil=>have:=h.len;simp at this
 |cons v ws=>
  refine⟨v,ws,rfl,h.at_ 0 v x rfl rfl,by have:=h.len;simpa using this,λi a b h1 h2=>h.at_ (i+1) a b (by simpa using h1) (by simpa using h2)⟩
theorem Rps.nil_inv{K:ER}{H:Hp}{vs:List V}(h:Rps K H vs []):vs=[]:=G6.mp (by rw[h.len];rfl)
structure DkR(K:ER)(H:Hp)(kv:List (Key×V))(QW:List (Str×U)):Prop where
 len:kv.length=QW.length
 at_:∀(i:Nat) (k:Key) (v:V) (x:Str) (u:U),kv[i]?=some (k,v)->QW[i]?=some (x,u)->k=.inr x/\Rp K H v u
theorem DkR.same{K:ER}{H H':Hp}{kv:List (Key×V)}{QW:List (Str×U)}(e:aZ H H')(h:DkR K H kv QW):DkR K H' kv QW:=⟨h.len,λi k v x u a b=>⟨(h.at_ i k v x u a b).1,(h.at_ i k v x u a b).2.same e⟩⟩
inductive Sl where
 |val (u:U) |own (xs:List U) |pin (w:V) (u:U) |dsk (w:Bool) (C a d:E6) (QW:List (Str×U))
abbrev PSt:=List (Option Sl)
def AF(K:ER)(H:Hp)(O O0:List E6)(v:V):Sl->Prop
 | .val u=>Rp K (hid H O) v u
 | .own xs=>∃a vs,v=.ref a/\a∈O/\a ∉ O0/\H a=some (.lst vs)/\Rps K (hid H O) vs xs
 | .pin w u=>v=w/\Rp K (hid H O) v u
 | .dsk w C a d QW=>∃dx kv,v=.ref a∧d∈O∧(w=true→d ∉ O0)∧H a=some (.ins C dx [("lands",.ref d)])∧H d=some (.dK kv)∧DkR K (hid H O) kv QW
structure Rs(K:ER)(H0:Hp)(O0:List E6)(ps:PSt)(σ:St)(H:Hp)(O:List E6):Prop where
 same:aZ H0 H
 old:∀a∈O0,a∈O
 new:∀a∈O,a∈O0\/H0 a=none
 dom:∀a∈O,H a≠none
 len:σ.length=ps.length
 at_:∀(i:Nat) (s:Sl),ps[i]?=some (some s)->∃v,σ[i]?=some (some v)/\AF K H O O0 v s
 inj:∀(i j:Nat) (xs ys:List U) (a:E6),ps[i]?=some (some (.own xs))->ps[j]?=some (some (.own ys))->σ[i]?=some (some (.ref a))->σ[j]?=some (some (.ref a))->i=j
variable {H0:Hp}{H:Hp}{O0:List E6}
section
variable {K:ER}{H':Hp}{O:List E6}{ps:PSt}{σ:St}
theorem AF.same{v:V}{s:Sl}(e:aZ H H')(h:AF K H O O0 v s):AF K H' O O0 v s:=by
 cases s with
 |val u=>exact Rp.same (bD e) h
 |own xs=>obtain⟨a,vs,h1,h2,h3,h4,h5⟩:=h;exact⟨a,vs,h1,h2,h3,e _ _ h4,h5.same (bD e)⟩
 |pin w u=>exact⟨h.1,Rp.same (bD e) h.2⟩
 |dsk w C a d QW=>obtain⟨dx,kv,h1,h2,h3,h4,h5,h6⟩:=h;exact⟨dx,kv,h1,h2,h3,e _ _ h4,e _ _ h5,h6.same (bD e)⟩
theorem Rs.go(R:Rs K H0 O0 ps σ H O)(e:aZ H H'):Rs K H0 O0 ps σ H' O:=
 ⟨R.same.trans e,R.old,R.new,λa ha z=>R.dom a ha (e.free z),R.len,λi s h=>let ⟨v,h1,h2⟩:=R.at_ i s h;⟨v,h1,h2.same e⟩,R.inj⟩
theorem dt{α:Type}{xs:List α}{i j:Nat}{y x:α}(h:(xs.set i y)[j]?=some x):(i=j/\x=y)\/(i≠j/\xs[j]?=some x):=by
 by_cases e:i=j
 ·subst e;rw[LK]at h;simp at h;exact .inl ⟨rfl,h.2.symm⟩
 ·rw[FI e]at h;exact .inr ⟨e,h⟩
theorem iO{α:Type}{xs:List α}{i:Nat}{y:α}(h:i<xs.length):(xs.set i y)[i]?=some y:=by rw[LK];simp[h]
theorem aH{α:Type}{xs:List α}{i:Nat}{y:α}(h:xs[i]?=some y):i<xs.length:=(Fb.mp h).1
theorem kT{i:Nat}{u:U}{j:Nat}{xs:List U}(h:(ps.set i (some (.val u)))[j]?=some (some (.own xs))):i≠j/\ps[j]?=some (some (.own xs)):=by
 rcases dt h with ⟨_,e⟩ |h
 ·cases e
 ·exact h
theorem Rs.set{i:Nat}{v:V}{u:U}(R:Rs K H0 O0 ps σ H O)(r:Rp K (hid H O) v u):Rs K H0 O0 (ps.set i (some (.val u))) (σ.set i (some v)) H O:=by
 refine⟨R.same,R.old,R.new,R.dom,by simp[R.len],λj s h=>?_,λj k xs ys a h1 h2 h3 h4=>?_⟩
 ·rcases dt h with ⟨e,q⟩ |⟨n,q⟩
  ·subst e;cases q;have hi:=aH h;rw[J5]at hi;exact⟨v,iO (by rw[R.len];exact hi),r⟩
  ·obtain⟨w,h1,h2⟩:=R.at_ j s q;exact⟨w,by rw[FI n];exact h1,h2⟩
 ·obtain⟨n1,q1⟩:=kT h1;obtain⟨n2,q2⟩:=kT h2;rw[FI n1]at h3;rw[FI n2]at h4;exact R.inj j k xs ys a q1 q2 h3 h4
theorem Rs.drop{i:Nat}{o:Option V}(R:Rs K H0 O0 ps σ H O):Rs K H0 O0 (ps.set i none) (σ.set i o) H O:=by
 have key:∀{j:Nat}{s:Sl},(ps.set i none)[j]?=some (some s)->i≠j/\ps[j]?=some (some s):=λ{j s} h=>by
  rcases dt h with ⟨_,e⟩ |h
  ·cases e
  ·exact h
 refine⟨R.same,R.old,R.new,R.dom,by simp[R.len],λj s h=>?_,λj k xs ys a h1 h2 h3 h4=>?_⟩
 ·obtain⟨n,q⟩:=key h;obtain⟨w,h1,h2⟩:=R.at_ j s q;exact⟨w,by rw[FI n];exact h1,h2⟩
 ·obtain⟨n1,q1⟩:=key h1;obtain⟨n2,q2⟩:=key h2;rw[FI n1]at h3;rw[FI n2]at h4;exact R.inj j k xs ys a q1 q2 h3 h4
theorem Rs.own{i:Nat}{a:E6}{vs:List V}{xs:List U}(R:Rs K H0 O0 ps σ H O)(e:aZ H H')(n:H a=none)(h:H' a=some (.lst vs))(r:Rps K (hid H' (a::O)) vs xs):
  Rs K H0 O0 (ps.set i (some (.own xs))) (σ.set i (some (.ref a))) H' (a::O):=by
 have na:a ∉ O:=λz=>R.dom a z n
 have na0:a ∉ O0:=λz=>na (R.old a z)
 have n0:H0 a=none:=R.same.free n
 have T3:∀(j:Nat) (ys:List U),ps[j]?=some (some (.own ys))->σ[j]?≠some (some (.ref a)):=λj ys h1 h2=>by
  obtain⟨v,h3,b,ws,h4,h5,_⟩:=R.at_ j _ h1;rw[h2]at h3;cases h3;cases h4;exact na h5
 refine⟨R.same.trans e,λb hb=>ET _ (R.old b hb),λb hb=>?_,λb hb z=>?_,by simp[R.len],λj s q=>?_,λj k ys zs b h1 h2 h3 h4=>?_⟩
 ·rcases E1.mp hb with y |y
  ·subst y;exact .inr n0
  ·exact R.new b y
 ·rcases E1.mp hb with y |y
  ·subst y;rw[h]at z;cases z
  ·exact R.dom b y (e.free z)
 ·rcases dt q with ⟨e',q'⟩ |⟨ne,q'⟩
  ·subst e';cases q';have hi:=aH q;rw[J5]at hi;exact⟨.ref a,iO (by rw[R.len];exact hi),a,vs,rfl,E3,na0,h,r⟩
  ·obtain⟨w,h1,h2⟩:=R.at_ j s q';refine⟨w,by rw[FI ne];exact h1,?_⟩
   cases s with
   |val u=>exact Rp.same (bF e n) h2
   |own ys=>
    obtain⟨b,ws,k1,k2,k3,k4,k5⟩:=h2;exact⟨b,ws,k1,ET _ k2,k3,e _ _ k4,k5.same (bF e n)⟩
   |pin z u=>exact⟨h2.1,Rp.same (bF e n) h2.2⟩
   |dsk w C b d QW=>obtain⟨dx,kv,k1,k2,k3,k4,k5,k6⟩:=h2;exact⟨dx,kv,k1,ET _ k2,k3,e _ _ k4,e _ _ k5,k6.same (bF e n)⟩
 ·rcases dt h1 with ⟨e1,q1⟩ |⟨n1,q1⟩ <;>rcases dt h2 with ⟨e2,q2⟩ |⟨n2,q2⟩
  ·rw[<-e1,<-e2]
  ·subst e1;have hi:=aH h3;rw[J5]at hi;rw[iO hi]at h3;cases h3;rw[FI n2]at h4;exact absurd h4 (T3 k zs q2)
  ·subst e2;have hi:=aH h4;rw[J5]at hi;rw[iO hi]at h4;cases h4;rw[FI n1]at h3;exact absurd h3 (T3 j ys q1)
  ·rw[FI n1]at h3;rw[FI n2]at h4;exact R.inj j k ys zs b q1 q2 h3 h4
theorem Rs.write{i:Nat}{a:E6}{vs:List V}{xs ys:List U}(R:Rs K H0 O0 ps σ H O)(hp:ps[i]?=some (some (.own xs)))(hs:σ[i]?=some (some (.ref a)))(r:Rps K (hid H O) vs ys):
  Rs K H0 O0 (ps.set i (some (.own ys))) σ (upd H a (.lst vs)) O:=by
 obtain⟨v,h1,b,ws,h2,h3,h4,h5,h6⟩:=R.at_ i _ hp;rw[hs]at h1;cases h1;cases h2;have h0:H0 a=none:=(R.new a h3).resolve_left h4;have eh:hid (upd H a (.lst vs)) O=hid H O:=tZ h3;refine⟨R.same.put h0 _,R.old,R.new,λb hb z=>?_,by simp[R.len],λj s q=>?_,λj k zs us b q1 q2 q3 q4=>?_⟩
 ·by_cases e:b=a
  ·subst e;rw[aV]at z;cases z
  ·rw[aY e]at z;exact R.dom b hb z
 ·rcases dt q with ⟨e',q'⟩ |⟨ne,q'⟩
  ·subst e';cases q';exact⟨.ref a,hs,a,vs,rfl,h3,h4,aV,by rw[eh];exact r⟩
  ·obtain⟨w,k1,k2⟩:=R.at_ j s q';refine⟨w,k1,?_⟩;cases s with
   |val u=>exact (show Rp K (hid (upd H a (.lst vs)) O) w u by rw[eh];exact k2)
   |own zs=>
    obtain⟨b,us,e1,e2,e3,e4,e5⟩:=k2;subst e1;have:b≠a:=λz=>by subst z;exact ne (R.inj i j xs zs b hp q' hs k1)
    exact⟨b,us,rfl,e2,e3,by rw[aY this];exact e4,by rw[eh];exact e5⟩
   |pin z u=>exact⟨k2.1,by rw[eh];exact k2.2⟩
   |dsk w C b d QW=>
    obtain⟨dx,kv,e1,e2,e3,e4,e5,e6⟩:=k2;exact⟨dx,kv,e1,e2,e3,by rw[aY λz=>by rw[z,h5]at e4;cases e4];exact e4,by rw[aY λz=>by rw[z,h5]at e5;cases e5];exact e5,by rw[eh];exact e6⟩
 ·have c1:∃zs',ps[j]?=some (some (.own zs')):=by
   rcases dt q1 with ⟨e,_⟩ |⟨_,z⟩
   ·subst e;exact⟨_,hp⟩
   ·exact⟨_,z⟩
  have c2:∃zs',ps[k]?=some (some (.own zs')):=by
   rcases dt q2 with ⟨e,_⟩ |⟨_,z⟩
   ·subst e;exact⟨_,hp⟩
   ·exact⟨_,z⟩
  obtain⟨_,c1⟩:=c1;obtain⟨_,c2⟩:=c2;exact R.inj j k _ _ b c1 c2 q3 q4
def SubP:PSt->PSt->Prop
 |[],[]=>True
 |none::p,_::q=>SubP p q
 |some s::p,t::q=>t=some s/\SubP p q
 |_,_=>False
theorem SubP.at_:∀{p q:PSt},SubP p q->p.length=q.length/\∀(i:Nat) (s:Sl),p[i]?=some (some s)->q[i]?=some (some s)
 |[],[],_=>⟨rfl,λi s h=>by simp at h⟩
 |none::p,t::q,h=>by
  obtain⟨h1,h2⟩:=SubP.at_ (p:=p) (q:=q) h;refine⟨by simp[h1],λi s e=>?_⟩
  cases i with
  |zero=>simp at e
  |succ i=>exact h2 i s (by simpa using e)
 |some s0::p,t::q,h=>by
  obtain⟨h0,h⟩:=h;obtain⟨h1,h2⟩:=SubP.at_ (p:=p) (q:=q) h;refine⟨by simp[h1],λi s e=>?_⟩
  cases i with
  |zero=>simp at e;subst e;rw[h0];rfl
  |succ i=>exact h2 i s (by simpa using e)
 |[],_::_,h=>h.elim
 |none::_,[],h=>h.elim
 |some _::_,[],h=>h.elim
theorem Rs.sub{Q4:PSt}(R:Rs K H0 O0 ps σ H O)(h:SubP Q4 ps):Rs K H0 O0 Q4 σ H O:=by
 obtain⟨h1,h2⟩:=h.at_;exact⟨R.same,R.old,R.new,R.dom,R.len.trans h1.symm,λi s e=>R.at_ i s (h2 i s e),λi j xs ys a e1 e2=>R.inj i j xs ys a (h2 _ _ e1) (h2 _ _ e2)⟩
end
def Ev(X:Cx)(H0:Hp)(O0:List E6)(ps:PSt)(e:Expr)(u:U):Prop:=
 PE X e λσ H Q=>∃O,Rs X.K H0 O0 ps σ H O/\∀v H',aZ H H'->Rp X.K (hid H' O) v u->Q v H'
def EvN(X:Cx)(H0:Hp)(O0:List E6)(ps:PSt)(e:Expr)(xs:List U):Prop:=
 PE X e λσ H Q=>∃O,Rs X.K H0 O0 ps σ H O/\∀a vs H',aZ H H'->H a=none->H' a=some (.lst vs)->Rps X.K (hid H' (a::O)) vs xs->Q (.ref a) H'
def Tt(X:Cx)(H0:Hp)(O0:List E6)(ps:PSt)(e:Expr)(b:Bool):Prop:=
 PT X e λσ H Q=>∃O,Rs X.K H0 O0 ps σ H O/\∀H',aZ H H'->Q b H'
def Tw(X:Cx)(H0:Hp)(O0:List E6)(ps:PSt)(e:Expr)(b:Bool):Prop:=
 PW X e λσ H Q=>∃O,Rs X.K H0 O0 ps σ H O/\∀H',aZ H H'->Q b H'
def EvA(X:Cx)(H0:Hp)(O0:List E6)(ps:PSt)(es:List Expr)(us:List U):Prop:=
 PA X es λσ H Q=>∃O,Rs X.K H0 O0 ps σ H O/\∀vs H',aZ H H'->Rps X.K (hid H' O) vs us->Q vs H'
theorem PE.mono{X:Cx}{e:Expr}{t t':TE}(h:PE X e t)(m:∀σ H Q,t' σ H Q->t σ H Q):PE X e t':=λpins s σ H Q I q=>h pins s σ H Q I (m σ H Q q)
theorem PT.mono{X:Cx}{e:Expr}{t t':TT}(h:PT X e t)(m:∀σ H Q,t' σ H Q->t σ H Q):PT X e t':=λpins s σ H Q I q=>h pins s σ H Q I (m σ H Q q)
theorem PW.mono{X:Cx}{e:Expr}{t t':TT}(h:PW X e t)(m:∀σ H Q,t' σ H Q->t σ H Q):PW X e t':=λwh pins s σ H Q I q=>h wh pins s σ H Q I (m σ H Q q)
theorem PA.mono{X:Cx}{e:List Expr}{t t':TA}(h:PA X e t)(m:∀σ H Q,t' σ H Q->t σ H Q):PA X e t':=λQB pins s σ H Q I q=>h QB pins s σ H Q I (m σ H Q q)
theorem PS.mono{X:Cx}{e:HL}{t t':TS}(h:PS X e t)(m:∀D σ H,t' D σ H->t D σ H):PS X e t':=λpins s σ H D I q=>h pins s σ H D I (m D σ H q)
theorem PSs.mono{X:Cx}{e:List HL}{t t':TS}(h:PSs X e t)(m:∀D σ H,t' D σ H->t D σ H):PSs X e t':=λpins s σ H D I q=>h pins s σ H D I (m D σ H q)
variable {e:Expr}{es:List Expr}{QB:Pos}{u:U}{xs:List U}{ys:List U}{us:List U}
section
variable {X:Cx}{ps:PSt}{a b c:Expr}{p:Pos}{x y:U}{i j:Int}
theorem EvN.ev(h:EvN X H0 O0 ps e xs):Ev X H0 O0 ps e (.lst xs):=PE.mono h λσ H Q ⟨O,R,k⟩=>⟨O,R,λa vs H' s n h r=>by
 have na:a ∉ O:=λz=>R.dom a z n
 have less:aZ (hid H' (a::O)) (hid H' O):=f7 λb hb=>ET _ hb
 exact k _ H' s (.lst (dM h na) (r.same less).len (r.same less).at_)⟩
theorem aa(i:Nat){x:Str}{u:U}(h:ps[i]?=some (some (.val u)))(hN:X.N[i]?=some x:=by rfl)(hv:Vis X.env.scope x:=by first |exact Or.inl rfl |exact Or.inr (Or.inl rfl) |exact Or.inr (Or.inr rfl))(hd:(x==("__debug__":Str))=false:=by decide)
  (Ro:(x==("__classdict__":Str))=false:=by decide):Ev X H0 O0 ps (.Name x QB) u:=PE.mono (ic hN hv hd Ro) λσ H Q ⟨O,R,k⟩=>by
 obtain⟨v,h1,h2⟩:=R.at_ i _ h;exact⟨v,h1,k v H (.refl H) h2⟩
theorem ag{i j QB}:Ev X H0 O0 ps (.Constant (.int i) j QB) (.int i):=PE.mono CL λ_ H _ ⟨_,_,k⟩=>k _ H (.refl H) (.int i)
theorem nJ{i j QB}:Ev X H0 O0 ps (.Constant (.bool i) j QB) (.bl i):=PE.mono Do λ_ H _ ⟨_,_,k⟩=>k _ H (.refl H) (.bl i)
theorem Bh{i j QB}:Ev X H0 O0 ps (.Constant (.str i) j QB) (.str i):=PE.mono CI λ_ H _ ⟨_,_,k⟩=>k _ H (.refl H) (.str i)
theorem nO{x:Str}{n:String}{QB:Pos}(hg:Gl X x)(hm:X.mg x=none)(hv:GQ x=some (.type n))(hn:x≠"__name__":=by decide)(hd:(x==("__debug__":Str))=false:=by decide):Ev X H0 O0 ps (.Name x QB) (.ty (.nm n)):=
 PE.mono (DM hg hm hv hn hd) λ_ H _ ⟨_,_,k⟩=>k _ H (.refl H) (.ty n)
theorem two{ta tb:TE}{σ:St}{H:Hp}{Q:VK}{O:List E6}{r:R2}(R:Rs X.K H0 O0 ps σ H O)
  (ha:∀σ H Q,(∃O,Rs X.K H0 O0 ps σ H O/\∀v H',aZ H H'->Rp X.K (hid H' O) v x->Q v H')->ta σ H Q) (hb:∀σ H Q,(∃O,Rs X.K H0 O0 ps σ H O/\∀v H',aZ H H'->Rp X.K (hid H' O) v y->Q v H')->tb σ H Q)
  (h:∀v w H',aZ H H'->Rs X.K H0 O0 ps σ H' O->Rp X.K (hid H' O) v x->Rp X.K (hid H' O) w y->r v w H' Q):tOp r ta tb σ H Q:=
 ha σ H _ ⟨O,R,λv H1 s1 r1=>hb σ H1 _ ⟨O,R.go s1,λw H2 s2 r2=>h v w H2 (s1.trans s2) (R.go (s1.trans s2)) (r1.same (bD s2)) r2⟩⟩
theorem Bq{op:PX}{g:Int->Int->Int}(ho:OpR X (J2 op) (rI0 λi j=>.int (g i j)))(ha:Ev X H0 O0 ps a (.int i))(hb:Ev X H0 O0 ps b (.int j)):Ev X H0 O0 ps (.BinOp a op b QB) (.int (g i j)):=
 PE.mono (uE ho ha hb) λσ H Q ⟨O,R,k⟩=>two (x:=.int i) (y:=.int j) R (λ_ _ _ z=>z) (λ_ _ _ z=>z) λv w H' s _ r1 r2=>by
  cases r1;cases r2;exact⟨i,j,rfl,rfl,k _ H' s (.int _)⟩
theorem qh{op:PX}{C:Int->Int->Prop}{g:Int->Int->Int}(ho:OpR X (J2 op) (rI C λi j=>.int (g i j)))(ha:Ev X H0 O0 ps a (.int i))(hb:Ev X H0 O0 ps b (.int j))(hc:C i j):Ev X H0 O0 ps (.BinOp a op b QB) (.int (g i j)):=
 PE.mono (uE ho ha hb) λσ H Q ⟨O,R,k⟩=>two (x:=.int i) (y:=.int j) R (λ_ _ _ z=>z) (λ_ _ _ z=>z) λv w H' s _ r1 r2=>by
  cases r1;cases r2;exact⟨i,j,rfl,rfl,hc,k _ H' s (.int _)⟩
theorem bH(ha:Ev X H0 O0 ps a (.int i))(hb:Ev X H0 O0 ps b (.int j)):Ev X H0 O0 ps (.BinOp a .Add b QB) (.int (i+j)):=Bq Cv ha hb
theorem bL(ha:Ev X H0 O0 ps a (.int i))(hb:Ev X H0 O0 ps b (.int j)):Ev X H0 O0 ps (.BinOp a .Sub b QB) (.int (i-j)):=Bq CY ha hb
theorem bn(ha:Ev X H0 O0 ps a (.int i))(hb:Ev X H0 O0 ps b (.int j))(hc:IntMulOk i j):Ev X H0 O0 ps (.BinOp a .Mult b QB) (.int (i*j)):=qh A3 ha hb hc
theorem cT(ha:Ev X H0 O0 ps a (.int i))(hb:Ev X H0 O0 ps b (.int j))(hc:Ba i j):Ev X H0 O0 ps (.BinOp a .FloorDiv b QB) (.int (i/j)):=qh xt ha hb hc
theorem BP(ha:Ev X H0 O0 ps a (.int i))(hb:Ev X H0 O0 ps b (.int j))(hc:BF i j):Ev X H0 O0 ps (.BinOp a .FloorDiv b QB) (.int (i.fdiv j)):=qh xu ha hb hc
theorem cf(ha:Ev X H0 O0 ps a (.int i))(hb:Ev X H0 O0 ps b (.int j))(hc:0<j):Ev X H0 O0 ps (.BinOp a .Mod b QB) (.int (i%j)):=qh B6 ha hb hc
theorem ik(ha:Ev X H0 O0 ps a (.int i))(hb:Ev X H0 O0 ps b (.int j))(hc:DP i j):Ev X H0 O0 ps (.BinOp a .Pow b QB) (.int (i ^ j.toNat)):=qh Dd ha hb hc
theorem bZ(ha:Ev X H0 O0 ps a (.int i)):Ev X H0 O0 ps (.UnaryOp .USub a QB) (.int (-i)):=
 PE.mono (DJ CC ha) λσ H Q ⟨O,R,k⟩=>⟨O,R,λv H' s r=>by cases r;exact⟨i,rfl,k _ H' s (.int _)⟩⟩
end
mutual
def eqW:U->U->Bool
 | .non,.non=>true
 | .bl a,.bl b=>a==b
 | .bl a,.int j=>(if a then 1 else 0)==j
 | .int i,.bl b=>i==(if b then 1 else 0)
 | .int i,.int j=>i==j
 | .str a,.str b=>a==b
 | .tup xs,.tup ys=>eqWs xs ys
 | .lst xs,.lst ys=>eqWs xs ys
 | .lst xs,.scr ys=>eqWs xs ys
 | .scr xs,.lst ys=>eqWs xs ys
 | .scr xs,.scr ys=>eqWs xs ys
 |_,_=>false
def eqWs:List U->List U->Bool
 |[],[]=>true
 |x::xs,y::ys=>eqW x y && eqWs xs ys
 |_,_=>false
end
mutual
def okU:Nat->U->Bool
 |_,.ty _=>false
 |_,.dic=>false
 |0,.tup _=>false
 |0,.lst _=>false
 |0,.scr _=>false
 |n+1,.tup xs=>okUs n xs
 |n+1,.lst xs=>okUs n xs
 |n+1,.scr xs=>okUs n xs
 |_,_=>true
def okUs:Nat->List U->Bool
 |_,[]=>true
 |n,x::xs=>okU n x && okUs n xs
end
theorem jG:∀{n:Nat}{xs:List U}{i:Nat}{x:U},okUs n xs=true->xs[i]?=some x->okU n x=true
 |n,[],i,x,_,h=>by simp at h
 |n,y::xs,0,x,h,e=>by simp at e;subst e;simp[okUs]at h;exact h.1
 |n,y::xs,i+1,x,h,e=>by simp[okUs]at h;exact jG (i:=i) h.2 (by simpa using e)
theorem fO:∀(xs ys:List U),((F_ (min xs.length ys.length)).all (λj=>eqW (xs.getD j .non) (ys.getD j .non)) && xs.length==ys.length)=eqWs xs ys
 |[],[]=>rfl
 |[],y::ys=>by simp[eqWs]
 |x::xs,[]=>by simp[eqWs]
 |x::xs,y::ys=>by
  have ih:=fO xs ys;rw[eqWs,<-ih];simp only[FN,Nat.succ_min_succ];rw[List.range_succ_eq_map,K5,Qd];have e:((xs.length+1==ys.length+1))=(xs.length==ys.length):=by simp
  rw[e,Bool.and_assoc];rfl
theorem Rp.one{X:Cx}{pins:List (E6×Obj)}{σ:St}{H:Hp}{s:EU}(I:Inv X pins σ H s){v:V}{x:U}(h:Rp X.K H v x):∀{n:Nat}{y:U},Rp X.K H v y->okU n x=true->eqW x y=true:=by
 have key:∀{vs ws:List V}{xs ys:List U},vs=ws->vs.length=xs.length->ws.length=ys.length->(∀(i:Nat) (x y:U),xs[i]?=some x->ys[i]?=some y->eqW x y=true)->eqWs xs ys=true:=λ{vs ws xs ys} e h1 h2 hh=>by
  subst e;rw[<-fO,GE,l4];refine⟨λj hj=>?_,by simp[<-h1,<-h2]⟩
  have j1:j<xs.length:=by lia
  have j2:j<ys.length:=by lia
  rw[Fj,EO j1,Fj,EO j2];exact hh j _ _ (EO j1) (EO j2)
 have SS:∀{vs:List V}{xs ys:List U}{n:Nat},vs.length=xs.length->(∀(i:Nat) (v:V) (x:U),vs[i]?=some v->xs[i]?=some x->∀{n:Nat}{y:U},Rp X.K H v y->okU n x=true->eqW x y=true)->(∀(i:Nat) (v:V) (y:U),vs[i]?=some v->ys[i]?=some y->Rp X.K H v y)->okUs n xs=true->
   ∀(i:Nat) (x y:U),xs[i]?=some x->ys[i]?=some y->eqW x y=true:=λ{vs xs ys n} h1 ih hi ok i x y e1 e2=>by
  have QL:i<vs.length:=by rw[h1];exact aH e1
  exact ih i _ x (EO QL) e1 (hi i _ y (EO QL) e2) (jG ok e1)
 induction h with
 |non=>intro n y q _;cases q;rfl
 |bl b=>intro n y q _;cases q;simp[eqW]
 |int i=>intro n y q _;cases q;simp[eqW]
 |str i=>intro n y q _;cases q;simp[eqW]
 |ty=>intro n y q ok;simp[okU]at ok
 |dic=>intro n y q ok;simp[okU]at ok
 |xc=>intro n y q ok;simp[okU]at ok
 | @scr a vs xs hq hl hi ih=>
  intro n y q ok;cases n with
  |zero=>simp[okU]at ok
  |succ n=>
   rw[okU]at ok;cases q with
   |scr QT QS QO=>rw[eqW];have e:=I.list_inj hq QT;subst e;exact key rfl hl QS (SS hl (λi v x a b=>ih i v x a b) QO ok)
   |lst QT QS QO=>rw[eqW];have e:=I.list_inj hq (SqL.of QT);subst e;exact key rfl hl QS (SS hl (λi v x a b=>ih i v x a b) QO ok)
   |xc QT kk=>
    exfalso
    obtain⟨_,_,pl,_⟩:=I.list hq;obtain⟨o,n,e,c,_⟩:=pl;exact PySem.W.XcOk.off (I.hok _ _ QT).1 e c
   |dic QT=>
    exfalso
    obtain⟨_,_,pl,_⟩:=I.list hq;obtain⟨o,n,e,c,_⟩:=pl;obtain⟨_,_,_,_,o',_,_,e',ex,_⟩:=I.hok _ _ QT;rw[e]at e';cases e';rw[ex.1]at c;exact absurd (O7 c) (by decide)
   |tup QT QS QO=>
    exfalso
    obtain⟨_,_,pl,_⟩:=I.list hq;obtain⟨_,_,pt,_⟩:=I.tuple QT;exact SeqAt.ne_of_list_tuple pl.isList pt rfl
 | @tup a vs xs hq hl hi ih=>
  intro n y q ok;cases n with
  |zero=>simp[okU]at ok
  |succ n=>
   rw[okU]at ok;cases q with
   |tup QT QS QO=>rw[eqW];have e:=I.tuple_inj hq QT;subst e;exact key rfl hl QS (SS hl (λi v x a b=>ih i v x a b) QO ok)
   |scr QT QS QO=>
    exfalso
    obtain⟨_,_,pl,_⟩:=I.list QT;obtain⟨_,_,pt,_⟩:=I.tuple hq;exact SeqAt.ne_of_list_tuple pl.isList pt rfl
   |lst QT QS QO=>
    exfalso
    obtain⟨_,_,pl,_⟩:=I.list (SqL.of QT);obtain⟨_,_,pt,_⟩:=I.tuple hq;exact SeqAt.ne_of_list_tuple pl.isList pt rfl
   |xc QT kk=>
    exfalso
    obtain⟨_,_,pt,_⟩:=I.tuple hq;obtain⟨o,e,c,_⟩:=pt;exact PySem.W.XcOk.off (I.hok _ _ QT).1 e c
   |dic QT=>
    exfalso
    obtain⟨_,_,pt,_⟩:=I.tuple hq;obtain⟨o,e,c,_⟩:=pt;obtain⟨_,_,_,_,o',_,_,e',ex,_⟩:=I.hok _ _ QT;rw[e]at e';cases e';rw[ex.1]at c;exact absurd (O7 c) (by decide)
 | @lst a vs xs hq hl hi ih=>
  intro n y q ok;cases n with
  |zero=>simp[okU]at ok
  |succ n=>
   rw[okU]at ok;cases q with
   |lst QT QS QO=>rw[eqW];have e:=I.list_inj (SqL.of hq) (SqL.of QT);subst e;exact key rfl hl QS (SS hl (λi v x a b=>ih i v x a b) QO ok)
   |scr QT QS QO=>rw[eqW];have e:=I.list_inj (SqL.of hq) QT;subst e;exact key rfl hl QS (SS hl (λi v x a b=>ih i v x a b) QO ok)
   |tup QT QS QO=>
    exfalso
    obtain⟨_,_,pl,_⟩:=I.list (SqL.of hq);obtain⟨_,_,pt,_⟩:=I.tuple QT;exact SeqAt.ne_of_list_tuple pl.isList pt rfl
   |xc QT kk=>
    exfalso
    rw[hq]at QT;cases QT
   |dic QT=>
    exfalso
    rw[hq]at QT;cases QT
theorem IsU.list{X:Cx}{pins:List (E6×Obj)}{σ:St}{H:Hp}{s:EU}(I:Inv X pins σ H s){a:E6}{xs:List U}{vs:List V}(h:SqL X.K H a vs)(hl:vs.length=xs.length):∃QC:List EW,aM vs QC/\s.heap.IsList a QC.toArray/\QC.length=xs.length:=by
 obtain⟨QC,r,pl,_⟩:=I.list h;exact⟨QC,r,pl.isList,by rw[<-r.length,hl]⟩
theorem IsU.tup{X:Cx}{pins:List (E6×Obj)}{σ:St}{H:Hp}{s:EU}(I:Inv X pins σ H s){a:E6}{xs:List U}{vs:List V}(h:SqT X.K H a vs)(hl:vs.length=xs.length):∃QC:List EW,aM vs QC/\IsTup s.heap a QC.toArray/\QC.length=xs.length:=by
 obtain⟨QC,r,pl,_⟩:=I.tuple h;exact⟨QC,r,pl,by rw[<-r.length,hl]⟩
variable {pins:List (E6×Obj)}
section
variable {X:Cx}{σ:St}{s:EU}
theorem f8(I:Inv X pins σ H s){n:Nat}{vs ws:List V}{xs ys:List U}{QC QR:List EW}(r1:aM vs QC)(r2:aM ws QR)(RC:vs.length=xs.length)(Ss:ws.length=ys.length)
  (h1:∀(i:Nat) (v:V) (x:U),vs[i]?=some v->xs[i]?=some x->Rp X.K H v x) (h2:∀(i:Nat) (v:V) (x:U),ws[i]?=some v->ys[i]?=some x->Rp X.K H v x) (ok1:okUs n xs=true) (ok2:okUs n ys=true) {A:FC}
  (rc0:∀(x y:U) (v w:V) (p q:EW),Rp X.K H v x->Rp X.K H w y->bi v p->bi w q->okU n x=true->okU n y=true->SeqAt.RcAt A.in1 s p q (eqW x y)) (hu:A.units+n+1<JQ)
  (j:Nat) (j1:j<QC.length) (j2:j<QR.length):SeqAt.EqAt A.in1 s QC[j] QR[j] (eqW (xs.getD j .non) (ys.getD j .non)):=by
 have a1:j<vs.length:=by rw[r1.length];exact j1
 have a2:j<ws.length:=by rw[r2.length];exact j2
 have b1:j<xs.length:=by lia
 have b2:j<ys.length:=by lia
 rw[Fj,EO b1,Fj,EO b2,Ir,Ir];have R1:=h1 j vs[j] xs[j] (EO a1) (EO b1);have R2:=h2 j ws[j] ys[j] (EO a2) (EO b2);obtain⟨u1,e1,q1⟩:=r1.get (EO a1);obtain⟨u2,e2,q2⟩:=r2.get (EO a2);rw[EO j1]at e1;rw[EO j2]at e2;cases e1;cases e2;have o1:=jG ok1 (EO b1);have o2:=jG ok2 (EO b2);generalize vs[j]=v at *;generalize ws[j]=w at *;generalize QC[j]=p at *;generalize QR[j]=q at *;generalize xs[j]=x at *;generalize ys[j]=y at *;have main:=rc0 x y v w p q R1 R2 q1 q2 o1 o2
 have QY:∀(a b:E6),p=.ref a->q=.ref b->SeqAt.EqAt A.in1 s p q (eqW x y):=λa b ea eb=>by
  subst ea eb;by_cases e:a=b
  ·subst e;have e2:v=w:=q1.inj q2;subst e2;rw[R1.one I R2 o1];exact SeqAt.EqAt.same _
  ·exact SeqAt.EqAt.of_refs e main
 have QU:A.in1.units<JQ:=by show A.units+1<_;lia
 cases R1 with
 |non=>
  cases (show p=FX from q1)
  cases R2 with
  |non=>cases (show q=FX from q2);exact SeqAt.EqAt.same _
  |bl b=>cases (show q=GF b from q2);exact SeqAt.EqAt.none_bool b
  |int i=>obtain⟨t,rfl⟩:=(show ∃t,q=Gv i t from q2);exact SeqAt.EqAt.none_int i t
  |str i=>obtain⟨t,rfl⟩:=(show ∃t,q=GX i t from q2);exact SeqAt.EqAt.none_str i t
  |ty=>simp[okU]at o2
  |dic=>simp[okU]at o2
  |xc=>simp[okU]at o2
  |scr hq hl hi=>cases q2;obtain⟨_,_,pl,_⟩:=IsU.list I hq hl;exact SeqAt.EqAt.none_list pl QU
  |tup hq hl hi=>cases q2;obtain⟨_,_,pl,_⟩:=IsU.tup I hq hl;exact SeqAt.EqAt.none_tuple pl QU
  |lst hq hl hi=>cases q2;obtain⟨_,_,pl,_⟩:=IsU.list I (SqL.of hq) hl;exact SeqAt.EqAt.none_list pl QU
 |bl c=>
  cases (show p=GF c from q1)
  cases R2 with
  |non=>cases (show q=FX from q2);exact SeqAt.EqAt.bool_none c
  |bl b=>cases (show q=GF b from q2);exact SeqAt.EqAt.bool_bool c b
  |int i=>obtain⟨t,rfl⟩:=(show ∃t,q=Gv i t from q2);exact SeqAt.EqAt.bool_int c i t
  |str i=>obtain⟨t,rfl⟩:=(show ∃t,q=GX i t from q2);exact SeqAt.EqAt.bool_str c i t
  |ty=>simp[okU]at o2
  |dic=>simp[okU]at o2
  |xc=>simp[okU]at o2
  |scr hq hl hi=>cases q2;obtain⟨_,_,pl,_⟩:=IsU.list I hq hl;exact SeqAt.EqAt.bool_list c pl QU
  |tup hq hl hi=>cases q2;obtain⟨_,_,pl,_⟩:=IsU.tup I hq hl;exact SeqAt.EqAt.bool_tuple c pl QU
  |lst hq hl hi=>cases q2;obtain⟨_,_,pl,_⟩:=IsU.list I (SqL.of hq) hl;exact SeqAt.EqAt.bool_list c pl QU
 |int c=>
  obtain⟨t0,rfl⟩:=(show ∃t,p=Gv c t from q1)
  cases R2 with
  |non=>cases (show q=FX from q2);exact SeqAt.EqAt.int_none c t0
  |bl b=>cases (show q=GF b from q2);exact SeqAt.EqAt.int_bool c t0 b
  |int i=>obtain⟨t,rfl⟩:=(show ∃t,q=Gv i t from q2);exact SeqAt.EqAt.int_int c t0 i t
  |str i=>obtain⟨t,rfl⟩:=(show ∃t,q=GX i t from q2);exact SeqAt.EqAt.int_str c t0 i t
  |ty=>simp[okU]at o2
  |dic=>simp[okU]at o2
  |xc=>simp[okU]at o2
  |scr hq hl hi=>cases q2;obtain⟨_,_,pl,_⟩:=IsU.list I hq hl;exact SeqAt.EqAt.int_list c t0 pl QU
  |tup hq hl hi=>cases q2;obtain⟨_,_,pl,_⟩:=IsU.tup I hq hl;exact SeqAt.EqAt.int_tuple c t0 pl QU
  |lst hq hl hi=>cases q2;obtain⟨_,_,pl,_⟩:=IsU.list I (SqL.of hq) hl;exact SeqAt.EqAt.int_list c t0 pl QU
 |str c=>
  obtain⟨t0,rfl⟩:=(show ∃t,p=GX c t from q1)
  cases R2 with
  |non=>cases (show q=FX from q2);exact SeqAt.EqAt.str_none c t0
  |bl b=>cases (show q=GF b from q2);exact SeqAt.EqAt.str_bool c t0 b
  |int i=>obtain⟨t,rfl⟩:=(show ∃t,q=Gv i t from q2);exact SeqAt.EqAt.str_int c t0 i t
  |str i=>obtain⟨t,rfl⟩:=(show ∃t,q=GX i t from q2);exact SeqAt.EqAt.str_str c t0 i t
  |ty=>simp[okU]at o2
  |dic=>simp[okU]at o2
  |xc=>simp[okU]at o2
  |scr hq hl hi=>cases q2;obtain⟨_,_,pl,_⟩:=IsU.list I hq hl;exact SeqAt.EqAt.str_list c t0 pl QU
  |tup hq hl hi=>cases q2;obtain⟨_,_,pl,_⟩:=IsU.tup I hq hl;exact SeqAt.EqAt.str_tuple c t0 pl QU
  |lst hq hl hi=>cases q2;obtain⟨_,_,pl,_⟩:=IsU.list I (SqL.of hq) hl;exact SeqAt.EqAt.str_list c t0 pl QU
 |ty=>simp[okU]at o1
 |dic=>simp[okU]at o1
 |xc=>simp[okU]at o1
 | @scr a vs xs hq hl hi=>
  cases q1;obtain⟨_,_,pl,_⟩:=IsU.list I hq hl;cases R2 with
  |non=>cases (show q=FX from q2);exact SeqAt.EqAt.list_none pl QU
  |bl b=>cases (show q=GF b from q2);exact SeqAt.EqAt.list_bool b pl QU
  |int i=>obtain⟨t,rfl⟩:=(show ∃t,q=Gv i t from q2);exact SeqAt.EqAt.list_int i t pl QU
  |str i=>obtain⟨t,rfl⟩:=(show ∃t,q=GX i t from q2);exact SeqAt.EqAt.list_str i t pl QU
  |ty=>simp[okU]at o2
  |dic=>simp[okU]at o2
  |xc=>simp[okU]at o2
  |scr=>exact QY _ _ rfl q2
  |tup=>exact QY _ _ rfl q2
  |lst=>exact QY _ _ rfl q2
 | @lst a vs xs hq hl hi=>
  cases q1;obtain⟨_,_,pl,_⟩:=IsU.list I (SqL.of hq) hl;cases R2 with
  |non=>cases (show q=FX from q2);exact SeqAt.EqAt.list_none pl QU
  |bl b=>cases (show q=GF b from q2);exact SeqAt.EqAt.list_bool b pl QU
  |int i=>obtain⟨t,rfl⟩:=(show ∃t,q=Gv i t from q2);exact SeqAt.EqAt.list_int i t pl QU
  |str i=>obtain⟨t,rfl⟩:=(show ∃t,q=GX i t from q2);exact SeqAt.EqAt.list_str i t pl QU
  |ty=>simp[okU]at o2
  |dic=>simp[okU]at o2
  |xc=>simp[okU]at o2
  |scr=>exact QY _ _ rfl q2
  |tup=>exact QY _ _ rfl q2
  |lst=>exact QY _ _ rfl q2
 | @tup a vs xs hq hl hi=>
  cases q1;obtain⟨_,_,pl,_⟩:=IsU.tup I hq hl;cases R2 with
  |non=>cases (show q=FX from q2);exact SeqAt.EqAt.tuple_none pl QU
  |bl b=>cases (show q=GF b from q2);exact SeqAt.EqAt.tuple_bool b pl QU
  |int i=>obtain⟨t,rfl⟩:=(show ∃t,q=Gv i t from q2);exact SeqAt.EqAt.tuple_int i t pl QU
  |str i=>obtain⟨t,rfl⟩:=(show ∃t,q=GX i t from q2);exact SeqAt.EqAt.tuple_str i t pl QU
  |ty=>simp[okU]at o2
  |dic=>simp[okU]at o2
  |xc=>simp[okU]at o2
  |scr=>exact QY _ _ rfl q2
  |tup=>exact QY _ _ rfl q2
  |lst=>exact QY _ _ rfl q2
theorem iF{A:FC}{n:Nat}{a b:E6}{xs ys:List U}{QC QR:List EW}(p1:s.heap.IsList a QC.toArray)(p2:s.heap.IsList b QR.toArray)(l1:QC.length=xs.length)(l2:QR.length=ys.length)(hu:A.units+n<JQ)
  (he:∀(j:Nat) (j1:j<QC.length) (j2:j<QR.length),SeqAt.EqAt A.in1 s QC[j] QR[j] (eqW (xs.getD j .non) (ys.getD j .non))):SeqAt.RcAt A s (.ref a) (.ref b) (eqWs xs ys):=by
 by_cases hl:QC.length=QR.length
 ·have:=SeqAt.RcAt.lists (A:=A) (s:=s) (e:=λj=>eqW (xs.getD j .non) (ys.getD j .non)) p1 p2 (by simpa using hl) (by lia) (λj h1 h2=>by simpa using he j (by simpa using h1) (by simpa using h2))
  rw[<-fO,<-l1,<-l2,hl,Nat.min_self,beq_self_eq_true,P4]
  rwa [Ff,hl]at this
 ·have:=SeqAt.RcAt.lists_lengths (A:=A) (s:=s) p1 p2 (by simpa using hl) (by lia)
  rw[<-fO,<-l1,<-l2,show (QC.length==QR.length)=false by simpa using hl,Nh]
  exact this
theorem Az{A:FC}{n:Nat}{a b:E6}{xs ys:List U}{QC QR:List EW}(p1:IsTup s.heap a QC.toArray)(p2:IsTup s.heap b QR.toArray)(l1:QC.length=xs.length)(l2:QR.length=ys.length)(hu:A.units+n<JQ)
  (he:∀(j:Nat) (j1:j<QC.length) (j2:j<QR.length),SeqAt.EqAt A.in1 s QC[j] QR[j] (eqW (xs.getD j .non) (ys.getD j .non))):SeqAt.RcAt A s (.ref a) (.ref b) (eqWs xs ys):=by
 have:=SeqAt.RcAt.tuples (A:=A) (s:=s) (e:=λj=>eqW (xs.getD j .non) (ys.getD j .non)) p1 p2 (by lia) (λj h1 h2=>by simpa using he j (by simpa using h1) (by simpa using h2))
 rw[Ff,Ff,l1,l2,fO]at this;exact this
theorem Ec(I:Inv X pins σ H s):∀(n:Nat) (A:FC) (x y:U) (v w:V) (p q:EW),Rp X.K H v x->Rp X.K H w y->bi v p->bi w q->okU n x=true->okU n y=true->A.units+n<JQ->SeqAt.RcAt A s p q (eqW x y):=by
 intro n
 induction n with
 |zero=>
  intro A x y v w p q R1 R2 q1 q2 o1 o2 hu;cases R1 with
  |non=>
   cases (show p=FX from q1)
   cases R2 with
   |non=>cases (show q=FX from q2);exact SeqAt.RcAt.none_none
   |bl b=>cases (show q=GF b from q2);exact SeqAt.RcAt.none_bool b
   |int i=>obtain⟨t,rfl⟩:=(show ∃t,q=Gv i t from q2);exact SeqAt.RcAt.none_int i t
   |str i=>obtain⟨t,rfl⟩:=(show ∃t,q=GX i t from q2);exact SeqAt.RcAt.none_str i t
   |_=>simp[okU]at o2
  |bl c=>
   cases (show p=GF c from q1)
   cases R2 with
   |non=>cases (show q=FX from q2);exact SeqAt.RcAt.bool_none c
   |bl b=>cases (show q=GF b from q2);exact SeqAt.RcAt.bool_bool c b
   |int i=>obtain⟨t,rfl⟩:=(show ∃t,q=Gv i t from q2);exact SeqAt.RcAt.bool_int c i t
   |str i=>obtain⟨t,rfl⟩:=(show ∃t,q=GX i t from q2);exact SeqAt.RcAt.bool_str c i t
   |_=>simp[okU]at o2
  |int c=>
   obtain⟨t0,rfl⟩:=(show ∃t,p=Gv c t from q1)
   cases R2 with
   |non=>cases (show q=FX from q2);exact SeqAt.RcAt.int_none c t0
   |bl b=>cases (show q=GF b from q2);exact SeqAt.RcAt.int_bool c t0 b
   |int i=>obtain⟨t,rfl⟩:=(show ∃t,q=Gv i t from q2);exact SeqAt.RcAt.int_int c t0 i t
   |str i=>obtain⟨t,rfl⟩:=(show ∃t,q=GX i t from q2);exact SeqAt.RcAt.int_str c t0 i t
   |_=>simp[okU]at o2
  |str c=>
   obtain⟨t0,rfl⟩:=(show ∃t,p=GX c t from q1)
   cases R2 with
   |non=>cases (show q=FX from q2);exact SeqAt.RcAt.str_none c t0
   |bl b=>cases (show q=GF b from q2);exact SeqAt.RcAt.str_bool c t0 b
   |int i=>obtain⟨t,rfl⟩:=(show ∃t,q=Gv i t from q2);exact SeqAt.RcAt.str_int c t0 i t
   |str i=>obtain⟨t,rfl⟩:=(show ∃t,q=GX i t from q2);exact SeqAt.RcAt.str_str c t0 i t
   |_=>simp[okU]at o2
  |_=>simp[okU]at o1
 |succ n ih=>
  intro A x y v w p q R1 R2 q1 q2 o1 o2 hu;have QU:A.units<JQ:=by lia
  have rc0:∀(x y:U) (v w:V) (p q:EW),Rp X.K H v x->Rp X.K H w y->bi v p->bi w q->okU n x=true->okU n y=true->SeqAt.RcAt A.in1 s p q (eqW x y):=λx y v w p q r1 r2 k1 k2 z1 z2=>ih A.in1 x y v w p q r1 r2 k1 k2 z1 z2 (by show A.units+1+n<_;lia)
  cases R1 with
  |non=>
   cases (show p=FX from q1)
   cases R2 with
   |non=>cases (show q=FX from q2);exact SeqAt.RcAt.none_none
   |bl b=>cases (show q=GF b from q2);exact SeqAt.RcAt.none_bool b
   |int i=>obtain⟨t,rfl⟩:=(show ∃t,q=Gv i t from q2);exact SeqAt.RcAt.none_int i t
   |str i=>obtain⟨t,rfl⟩:=(show ∃t,q=GX i t from q2);exact SeqAt.RcAt.none_str i t
   |ty=>simp[okU]at o2
   |dic=>simp[okU]at o2
   |xc=>simp[okU]at o2
   |scr hq hl hi=>cases q2;obtain⟨_,_,pl,_⟩:=IsU.list I hq hl;exact SeqAt.RcAt.none_list pl QU
   |tup hq hl hi=>cases q2;obtain⟨_,_,pl,_⟩:=IsU.tup I hq hl;exact SeqAt.RcAt.none_tuple pl QU
   |lst hq hl hi=>cases q2;obtain⟨_,_,pl,_⟩:=IsU.list I (SqL.of hq) hl;exact SeqAt.RcAt.none_list pl QU
  |bl c=>
   cases (show p=GF c from q1)
   cases R2 with
   |non=>cases (show q=FX from q2);exact SeqAt.RcAt.bool_none c
   |bl b=>cases (show q=GF b from q2);exact SeqAt.RcAt.bool_bool c b
   |int i=>obtain⟨t,rfl⟩:=(show ∃t,q=Gv i t from q2);exact SeqAt.RcAt.bool_int c i t
   |str i=>obtain⟨t,rfl⟩:=(show ∃t,q=GX i t from q2);exact SeqAt.RcAt.bool_str c i t
   |ty=>simp[okU]at o2
   |dic=>simp[okU]at o2
   |xc=>simp[okU]at o2
   |scr hq hl hi=>cases q2;obtain⟨_,_,pl,_⟩:=IsU.list I hq hl;exact SeqAt.RcAt.bool_list c pl QU
   |tup hq hl hi=>cases q2;obtain⟨_,_,pl,_⟩:=IsU.tup I hq hl;exact SeqAt.RcAt.bool_tuple c pl QU
   |lst hq hl hi=>cases q2;obtain⟨_,_,pl,_⟩:=IsU.list I (SqL.of hq) hl;exact SeqAt.RcAt.bool_list c pl QU
  |int c=>
   obtain⟨t0,rfl⟩:=(show ∃t,p=Gv c t from q1)
   cases R2 with
   |non=>cases (show q=FX from q2);exact SeqAt.RcAt.int_none c t0
   |bl b=>cases (show q=GF b from q2);exact SeqAt.RcAt.int_bool c t0 b
   |int i=>obtain⟨t,rfl⟩:=(show ∃t,q=Gv i t from q2);exact SeqAt.RcAt.int_int c t0 i t
   |str i=>obtain⟨t,rfl⟩:=(show ∃t,q=GX i t from q2);exact SeqAt.RcAt.int_str c t0 i t
   |ty=>simp[okU]at o2
   |dic=>simp[okU]at o2
   |xc=>simp[okU]at o2
   |scr hq hl hi=>cases q2;obtain⟨_,_,pl,_⟩:=IsU.list I hq hl;exact SeqAt.RcAt.int_list c t0 pl QU
   |tup hq hl hi=>cases q2;obtain⟨_,_,pl,_⟩:=IsU.tup I hq hl;exact SeqAt.RcAt.int_tuple c t0 pl QU
   |lst hq hl hi=>cases q2;obtain⟨_,_,pl,_⟩:=IsU.list I (SqL.of hq) hl;exact SeqAt.RcAt.int_list c t0 pl QU
  |str c=>
   obtain⟨t0,rfl⟩:=(show ∃t,p=GX c t from q1)
   cases R2 with
   |non=>cases (show q=FX from q2);exact SeqAt.RcAt.str_none c t0
   |bl b=>cases (show q=GF b from q2);exact SeqAt.RcAt.str_bool c t0 b
   |int i=>obtain⟨t,rfl⟩:=(show ∃t,q=Gv i t from q2);exact SeqAt.RcAt.str_int c t0 i t
   |str i=>obtain⟨t,rfl⟩:=(show ∃t,q=GX i t from q2);exact SeqAt.RcAt.str_str c t0 i t
   |ty=>simp[okU]at o2
   |dic=>simp[okU]at o2
   |xc=>simp[okU]at o2
   |scr hq hl hi=>cases q2;obtain⟨_,_,pl,_⟩:=IsU.list I hq hl;exact SeqAt.RcAt.str_list c t0 pl QU
   |tup hq hl hi=>cases q2;obtain⟨_,_,pl,_⟩:=IsU.tup I hq hl;exact SeqAt.RcAt.str_tuple c t0 pl QU
   |lst hq hl hi=>cases q2;obtain⟨_,_,pl,_⟩:=IsU.list I (SqL.of hq) hl;exact SeqAt.RcAt.str_list c t0 pl QU
  |ty=>simp[okU]at o1
  |dic=>simp[okU]at o1
  |xc=>simp[okU]at o1
  | @scr a vs xs hq hl hi=>
   cases q1;obtain⟨QC,r1,pl,l1⟩:=IsU.list I hq hl;rw[okU]at o1;cases R2 with
   |non=>cases (show q=FX from q2);exact SeqAt.RcAt.list_none pl QU
   |bl b=>cases (show q=GF b from q2);exact SeqAt.RcAt.list_bool b pl QU
   |int i=>obtain⟨t,rfl⟩:=(show ∃t,q=Gv i t from q2);exact SeqAt.RcAt.list_int i t pl QU
   |str i=>obtain⟨t,rfl⟩:=(show ∃t,q=GX i t from q2);exact SeqAt.RcAt.list_str i t pl QU
   |ty=>simp[okU]at o2
   |dic=>simp[okU]at o2
   |xc=>simp[okU]at o2
   |scr QT QS QO=>cases q2;rw[okU]at o2;obtain⟨QR,r2,RD,l2⟩:=IsU.list I QT QS;rw[eqW];exact iF pl RD l1 l2 hu (f8 I r1 r2 hl QS hi QO o1 o2 rc0 (by lia))
   |lst QT QS QO=>cases q2;rw[okU]at o2;obtain⟨QR,r2,RD,l2⟩:=IsU.list I (SqL.of QT) QS;rw[eqW];exact iF pl RD l1 l2 hu (f8 I r1 r2 hl QS hi QO o1 o2 rc0 (by lia))
   |tup QT QS QO=>cases q2;obtain⟨QR,r2,RD,l2⟩:=IsU.tup I QT QS;exact SeqAt.RcAt.list_tuple pl RD QU
  | @lst a vs xs hq hl hi=>
   cases q1;obtain⟨QC,r1,pl,l1⟩:=IsU.list I (SqL.of hq) hl;rw[okU]at o1;cases R2 with
   |non=>cases (show q=FX from q2);exact SeqAt.RcAt.list_none pl QU
   |bl b=>cases (show q=GF b from q2);exact SeqAt.RcAt.list_bool b pl QU
   |int i=>obtain⟨t,rfl⟩:=(show ∃t,q=Gv i t from q2);exact SeqAt.RcAt.list_int i t pl QU
   |str i=>obtain⟨t,rfl⟩:=(show ∃t,q=GX i t from q2);exact SeqAt.RcAt.list_str i t pl QU
   |ty=>simp[okU]at o2
   |dic=>simp[okU]at o2
   |xc=>simp[okU]at o2
   |scr QT QS QO=>cases q2;rw[okU]at o2;obtain⟨QR,r2,RD,l2⟩:=IsU.list I QT QS;rw[eqW];exact iF pl RD l1 l2 hu (f8 I r1 r2 hl QS hi QO o1 o2 rc0 (by lia))
   |lst QT QS QO=>cases q2;rw[okU]at o2;obtain⟨QR,r2,RD,l2⟩:=IsU.list I (SqL.of QT) QS;rw[eqW];exact iF pl RD l1 l2 hu (f8 I r1 r2 hl QS hi QO o1 o2 rc0 (by lia))
   |tup QT QS QO=>cases q2;obtain⟨QR,r2,RD,l2⟩:=IsU.tup I QT QS;exact SeqAt.RcAt.list_tuple pl RD QU
  | @tup a vs xs hq hl hi=>
   cases q1;obtain⟨QC,r1,pl,l1⟩:=IsU.tup I hq hl;rw[okU]at o1;cases R2 with
   |non=>cases (show q=FX from q2);exact SeqAt.RcAt.tuple_none pl QU
   |bl b=>cases (show q=GF b from q2);exact SeqAt.RcAt.tuple_bool b pl QU
   |int i=>obtain⟨t,rfl⟩:=(show ∃t,q=Gv i t from q2);exact SeqAt.RcAt.tuple_int i t pl QU
   |str i=>obtain⟨t,rfl⟩:=(show ∃t,q=GX i t from q2);exact SeqAt.RcAt.tuple_str i t pl QU
   |ty=>simp[okU]at o2
   |dic=>simp[okU]at o2
   |xc=>simp[okU]at o2
   |scr QT QS QO=>cases q2;obtain⟨QR,r2,RD,l2⟩:=IsU.list I QT QS;exact SeqAt.RcAt.tuple_list pl RD QU
   |lst QT QS QO=>cases q2;obtain⟨QR,r2,RD,l2⟩:=IsU.list I (SqL.of QT) QS;exact SeqAt.RcAt.tuple_list pl RD QU
   |tup QT QS QO=>cases q2;rw[okU]at o2;obtain⟨QR,r2,RD,l2⟩:=IsU.tup I QT QS;rw[eqW];exact Az pl RD l1 l2 hu (f8 I r1 r2 hl QS hi QO o1 o2 rc0 (by lia))
end
def OpS(X:Cx)(f:EW->EW->Sem EW)(x y:U)(z:V):Prop:=OpR X f λv w H Q=>Rp X.K H v x/\Rp X.K H w y/\Q z H
section
variable {X:Cx}{ps:PSt}{a b c:Expr}{rest:List Expr}{p:Pos}{x y:U}{i j:Int}{k m:Bool}
theorem Rp.out{K:ER}{H:Hp}{O:List E6}{v:V}{u:U}(h:Rp K (hid H O) v u):Rp K H v u:=h.same ax
theorem eP{op:Qm}(ho:OpS X (Hl op) x y (.bl k))(ha:Ev X H0 O0 ps a x)(hb:Ev X H0 O0 ps b y)(hm:J3 op b=false:=by first |exact x_ _ |with_unfolding_all rfl):Ev X H0 O0 ps (.Compare a [op] [b] QB) (.bl k):=
 PE.mono (zD ho ha hb hm) λσ H Q ⟨O,R,q⟩=>two R (λ_ _ _ z=>z) (λ_ _ _ z=>z) λv w H' s _ r1 r2=>⟨r1.out,r2.out,q _ H' s (.bl _)⟩
theorem aR{op:Qm}(ho:OpS X (Hl op) x y (.bl k))(ha:Ev X H0 O0 ps a x)(hb:Ev X H0 O0 ps b y)(hm:J3 op b=false:=by first |exact x_ _ |with_unfolding_all rfl):Tt X H0 O0 ps (.Compare a [op] [b] QB) k:=
 PT.mono (zG ho ha hb hm) λσ H Q ⟨O,R,q⟩=>two R (λ_ _ _ z=>z) (λ_ _ _ z=>z) λv w H' s _ r1 r2=>⟨r1.out,r2.out,_,rfl,q H' s⟩
theorem wY{op:Qm}{g:Int->Int->Bool}(ho:OpR X (Hl op) (rI0 λi j=>.bl (g i j))):OpS X (Hl op) (.int i) (.int j) (.bl (g i j)):=by
 intro pins s σ H v w p q Q I r1 r2 h;obtain⟨h1,h2,h3⟩:=h;cases h1;cases h2;exact ho pins s σ H _ _ _ _ Q I r1 r2 ⟨i,j,rfl,rfl,h3⟩
theorem jv:OpS X (Hl .Lt) (.int i) (.int j) (.bl (decide (i<j))):=wY DZ
theorem Er:OpS X (Hl .LtE) (.int i) (.int j) (.bl (decide (i<=j))):=wY DB
theorem gI:OpS X (Hl .Gt) (.int i) (.int j) (.bl (decide (j<i))):=wY D8
theorem pf(hu:X.A.units+10<JQ)(h1:okU 9 x=true)(h2:okU 9 y=true):OpS X (Hl .Eq) x y (.bl (eqW x y)):=by
 intro pins s σ H v w p q Q I r1 r2 h;obtain⟨k1,k2,k3⟩:=h;exact Ec I 9 X.A x y v w p q k1 k2 r1 r2 h1 h2 (by lia) X.prog X.w _ _ (bb I k3 rfl)
theorem cB:OpS X (Hl .Eq) (.int i) (.int j) (.bl (decide (i=j))):=by
 intro pins s σ H v w p q Q I r1 r2 h;obtain⟨h1,h2,h3⟩:=h;cases h1;cases h2;exact Df pins s σ H _ _ _ _ Q I r1 r2 ⟨rfl,by rw[jM,<-KI]at *;simpa [KI] using h3⟩
theorem A6:OpS X (Hl .NotEq) (.int i) (.int j) (.bl (!decide (i=j))):=by
 intro pins s σ H v w p q Q I r1 r2 h;obtain⟨h1,h2,h3⟩:=h;cases h1;cases h2;exact Dv pins s σ H _ _ _ _ Q I r1 r2 ⟨rfl,by rw[jM];simpa [KI] using h3⟩
theorem iG(h:Ev X H0 O0 ps e (.bl k))(he:∀Rx,isTrue e X.env Rx=(do let v <-Rx;standAt e.pos;NM [v] (truthy v)):=by intro _;rfl):Tt X H0 O0 ps e k:=
 PT.mono (Cq h he) λσ H Q ⟨O,R,q⟩=>⟨O,R,λv H' s r=>by cases r;exact⟨_,rfl,q H' s⟩⟩
theorem jW(h:Tt X H0 O0 ps a k):Tt X H0 O0 ps (.UnaryOp .Not a QB) (!k):=PT.mono (Cc h) λσ H Q ⟨O,R,q⟩=>⟨O,R,q⟩
theorem Tw.t(h:Tw X H0 O0 ps e k):Tt X H0 O0 ps e k:=h.pt
theorem qC(h:Tt X H0 O0 ps a k):Tw X H0 O0 ps (.BoolOp .And [a] QB) k:=Ad h
theorem BA(h:Tt X H0 O0 ps a k):Tw X H0 O0 ps (.BoolOp .Or [a] QB) k:=Cg h
theorem tL(ha:Tt X H0 O0 ps a k)(hb:k=true->Tw X H0 O0 ps (.BoolOp .And (b::rest) QB) m):Tw X H0 O0 ps (.BoolOp .And (a::b::rest) QB) (k && m):=by
 cases k with
 |true=>exact PW.mono (yX ha (hb rfl)) λσ H Q ⟨O,R,q⟩=>⟨O,R,λH' s=>by exact xP (⟨O,R.go s,λH2 s2=>q H2 (s.trans s2)⟩)⟩
 |false=>exact PW.mono (yX ha (λ_ _ _ _ _ _ _ h=>h.elim) (tB':=λ_ _ _=>False)) λσ H Q ⟨O,R,q⟩=>⟨O,R,λH' s=>by exact zp (q H' s)⟩
theorem Dk(ha:Tt X H0 O0 ps a k)(hb:k=false->Tw X H0 O0 ps (.BoolOp .Or (b::rest) QB) m):Tw X H0 O0 ps (.BoolOp .Or (a::b::rest) QB) (k ||m):=by
 cases k with
 |false=>exact PW.mono (Bu ha (hb rfl)) λσ H Q ⟨O,R,q⟩=>⟨O,R,λH' s=>by exact zp (⟨O,R.go s,λH2 s2=>q H2 (s.trans s2)⟩)⟩
 |true=>exact PW.mono (Bu ha (λ_ _ _ _ _ _ _ h=>h.elim) (tB':=λ_ _ _=>False)) λσ H Q ⟨O,R,q⟩=>⟨O,R,λH' s=>by exact xP (q H' s)⟩
theorem o7{op}(h:Ev X H0 O0 ps a u):Ev X H0 O0 ps (.BoolOp op [a] QB) u:=Db h
theorem jd(ha:Ev X H0 O0 ps a (.bl k))(hb:k=true->Ev X H0 O0 ps (.BoolOp .And (b::rest) QB) (.bl m)):Ev X H0 O0 ps (.BoolOp .And (a::b::rest) QB) (.bl (k && m)):=by
 cases k with
 |true=>exact PE.mono (xh ha (hb rfl)) λσ H Q ⟨O,R,q⟩=>⟨O,R,λv H' s r=>by cases r;exact⟨_,rfl,by exact xP (⟨O,R.go s,λv H2 s2 r2=>q v H2 (s.trans s2) r2⟩)⟩⟩
 |false=>exact PE.mono (xh ha (λ_ _ _ _ _ _ h=>h.elim) (tb:=λ_ _ _=>False)) λσ H Q ⟨O,R,q⟩=>⟨O,R,λv H' s r=>by cases r;exact⟨_,rfl,by exact zp (q _ H' s (.bl _))⟩⟩
theorem D7(ha:Ev X H0 O0 ps a (.bl k)):Ev X H0 O0 ps (.UnaryOp .Not a QB) (.bl (!k)):=PE.mono (BJ ha) λσ H Q ⟨O,R,q⟩=>⟨O,R,λv H' s r=>by cases r;exact⟨_,rfl,q _ H' s (.bl _)⟩⟩
theorem au:EvA X H0 O0 ps [] []:=PA.mono dU λσ H Q ⟨O,R,q⟩=>q [] H (.refl H) .nil
theorem ai(ha:Ev X H0 O0 ps e u)(hr:EvA X H0 O0 ps es us)(hs:E4 (e::es) X.env=(false,IJ e X.env)::E4 es X.env:=by rfl):EvA X H0 O0 ps (e::es) (u::us):=
 PA.mono (bV ha hr hs) λσ H Q ⟨O,R,q⟩=>⟨O,R,λv H1 s1 r1=>⟨O,R.go s1,λvs H2 s2 r2=>q _ H2 (s1.trans s2) (.cons (r1.same (bD s2)) r2)⟩⟩
theorem Rs.hidnew{K:ER}{σ:St}{H:Hp}{O:List E6}(R:Rs K H0 O0 ps σ H O){p:E6}{o:HO}(n:H p=none):hid (upd H p o) O p=some o:=dM aV λz=>R.dom p z n
theorem DE{x1}(h:EvA X H0 O0 ps es us)(hz:us.length<=sizeLine:=by first |decide | (simp only[FN,J6];decide)):Ev X H0 O0 ps (.Tuple es x1 QB) (.tup us):=
 PE.mono (ye h) λσ H Q ⟨O,R,q⟩=>⟨O,R,λvs H1 s1 r1=>⟨by rw[r1.len];exact hz,λp hp=>by
  have s2:=aK hp (.tup vs);have r2:=r1.same (bD (O:=O) s2);exact q _ _ (s1.trans s2) (.tup (SqT.of ((R.go s1).hidnew hp)) r2.len r2.at_)⟩⟩
theorem Dx(h:EvA X H0 O0 ps es us)(hz:us.length<=sizeLine:=by first |decide | (simp only[FN,J6];decide)):EvN X H0 O0 ps (.List es QB) us:=
 PE.mono (CA h) λσ H Q ⟨O,R,q⟩=>⟨O,R,λvs H1 s1 r1=>⟨by rw[r1.len];exact hz,λp hp=>by
  exact q p vs _ (s1.trans (aK hp _)) (s1.free hp) aV (r1.same (bF (aK hp _) hp))⟩⟩
theorem aJ(ha:Ev X H0 O0 ps a x)(hb:Ev X H0 O0 ps b (.int i))(hx:x.items=some xs)(hi:atI xs i=some u)(hs:nu b:=by intro _ _;rfl):Ev X H0 O0 ps (.Subscript a b QB) u:=
 PE.mono (A8 (ux.or Cn) ha hb hs) λσ H Q ⟨O,R,q⟩=>two (y:=.int i) R (λ_ _ _ z=>z) (λ_ _ _ z=>z) λv w H' s _ r1 r2=>by
  cases r2;cases r1 with
  |scr h hl hh=>cases hx;obtain⟨z,h1,h2⟩:=Rps.atI ⟨hl,hh⟩ hi;exact .inl ⟨_,_,i,z,rfl,rfl,ax.seq h,h1,q z H' s h2⟩
  |lst h hl hh=>cases hx;obtain⟨z,h1,h2⟩:=Rps.atI ⟨hl,hh⟩ hi;exact .inl ⟨_,_,i,z,rfl,rfl,ax.seq (SqL.of h),h1,q z H' s h2⟩
  |tup h hl hh=>cases hx;obtain⟨z,h1,h2⟩:=Rps.atI ⟨hl,hh⟩ hi;exact .inr ⟨_,_,i,z,rfl,rfl,ax.tup h,h1,q z H' s h2⟩
  |_=>cases hx
theorem jg(n:Nat){x:Str}(h:ps[n]?=some (some (.own xs)))(hb:Ev X H0 O0 ps b (.int i))(hi:atI xs i=some u)(hN:X.N[n]?=some x:=by rfl)(hv:Vis X.env.scope x:=by first |exact Or.inl rfl |exact Or.inr (Or.inl rfl) |exact Or.inr (Or.inr rfl))(hd:(x==("__debug__":Str))=false:=by decide)
  (Ro:(x==("__classdict__":Str))=false:=by decide) (hs:nu b:=by intro _ _;rfl):Ev X H0 O0 ps (.Subscript (.Name x p) b QB) u:=
 PE.mono (A8 ux (ic hN hv hd Ro) hb hs) λσ H Q ⟨O,R,q⟩=>by
  obtain⟨v,h1,a,vs,rfl,h3,h4,h5,h6⟩:=R.at_ n _ h;refine⟨_,h1,O,R,λw H' s r=>?_⟩
  cases r;obtain⟨z,k1,k2⟩:=h6.atI hi;exact⟨a,vs,i,z,rfl,rfl,SqL.of (s _ _ h5),k1,q z H' s (k2.same (bD s))⟩
def eZ(X:Cx)(f:EW)(us:List U)(u:U):Prop:=de X f λvs H Q=>∃O,(∀a∈O,H a≠none)/\Rps X.K (hid H O) vs us/\∀v H',aZ H H'->Rp X.K (hid H' O) v u->Q v H'
def A_(X:Cx)(f:EW)(us:List U)(xs:List U):Prop:=de X f λvs H Q=>∃O,(∀a∈O,H a≠none)/\Rps X.K (hid H O) vs us/\∀a vs H',aZ H H'->H a=none->H' a=some (.lst vs)->Rps X.K (hid H' (a::O)) vs xs->Q (.ref a) H'
theorem aG{id:String}{f:Str}(hc:eZ X (.builtin id) us u)(hg:Gl X f)(hm:X.mg f=none)(hv:GQ f=some (.builtin id))(ha:EvA X H0 O0 ps (e::es) us)(hn:f≠"__name__":=by decide)(Ru:(f==("__debug__":Str))=false:=by decide)
  (he:E4 (e::es) X.env=(false,IJ e X.env)::E4 es X.env:=by rfl) (QZ:(HV QB (E4 es X.env)).any (·.1)=false:=by rfl):Ev X H0 O0 ps (.Call (.Name f p) (e::es) [] QB) u:=
 PE.mono (iP hc hg hm hv ha hn Ru he QZ) λσ H Q ⟨O,R,q⟩=>⟨O,R,λvs H1 s1 r1=>⟨O,(R.go s1).dom,r1,λv H2 s2 r2=>q v H2 (s1.trans s2) r2⟩⟩
theorem AK{id:String}{f:Str}(hc:eZ X (.type id) us u)(hg:Gl X f)(hm:X.mg f=none)(hv:GQ f=some (.type id))(ha:EvA X H0 O0 ps (e::es) us)(hn:f≠"__name__":=by decide)(Ru:(f==("__debug__":Str))=false:=by decide)
  (he:E4 (e::es) X.env=(false,IJ e X.env)::E4 es X.env:=by rfl) (QZ:(HV QB (E4 es X.env)).any (·.1)=false:=by rfl):Ev X H0 O0 ps (.Call (.Name f p) (e::es) [] QB) u:=
 PE.mono (l8 hc hg hm hv ha hn Ru he QZ) λσ H Q ⟨O,R,q⟩=>⟨O,R,λvs H1 s1 r1=>⟨O,(R.go s1).dom,r1,λv H2 s2 r2=>q v H2 (s1.trans s2) r2⟩⟩
theorem jJ{id:String}{f:Str}(hc:A_ X (.type id) us xs)(hg:Gl X f)(hm:X.mg f=none)(hv:GQ f=some (.type id))(ha:EvA X H0 O0 ps (e::es) us)(hn:f≠"__name__":=by decide)(Ru:(f==("__debug__":Str))=false:=by decide)
  (he:E4 (e::es) X.env=(false,IJ e X.env)::E4 es X.env:=by rfl) (QZ:(HV QB (E4 es X.env)).any (·.1)=false:=by rfl):EvN X H0 O0 ps (.Call (.Name f p) (e::es) [] QB) xs:=
 PE.mono (l8 hc hg hm hv ha hn Ru he QZ) λσ H Q ⟨O,R,q⟩=>⟨O,R,λvs H1 s1 r1=>⟨O,(R.go s1).dom,r1,λa vs H2 s2 n h r2=>q a vs H2 (s1.trans s2) (s1.free n) h r2⟩⟩
theorem cx{K:ER}{H:Hp}{vs:List V}(h:Rps K H vs [x]):∃v,vs=[v]/\Rp K H v x:=by
 obtain⟨v,ws,rfl,h1,h2⟩:=h.cons_inv;rw[h2.nil_inv];exact⟨v,rfl,h1⟩
theorem jC{K:ER}{H:Hp}{vs:List V}(h:Rps K H vs [x,y]):∃v w,vs=[v,w]/\Rp K H v x/\Rp K H w y:=by
 obtain⟨v,ws,rfl,h1,h2⟩:=h.cons_inv;obtain⟨w,rfl,h3⟩:=cx h2;exact⟨v,w,rfl,h1,h3⟩
theorem de.mono{f:EW}{r r':List V->Hp->VK->Prop}(h:de X f r)(m:∀vs H Q,r' vs H Q->r vs H Q):de X f r':=λpins s σ H vs us Q I v q=>h pins s σ H vs us Q I v (m vs H Q q)
theorem nF{K:ER}{H:Hp}{v:V}(h:Rp K H v x)(hx:x.items=some xs):∃a vs,v=.ref a/\(SqL K H a vs\/SqT K H a vs)/\Rps K H vs xs:=by
 cases h with
 |scr h hl hh=>cases hx;exact⟨_,_,rfl,.inl h,hl,hh⟩
 |lst h hl hh=>cases hx;exact⟨_,_,rfl,.inl (SqL.of h),hl,hh⟩
 |tup h hl hh=>cases hx;exact⟨_,_,rfl,.inr h,hl,hh⟩
 |_=>cases hx
theorem ul{K:ER}{H:Hp}{O:List E6}{a:E6}{vs:List V}(h:SqL K (hid H O) a vs\/SqT K (hid H O) a vs):SqL K H a vs\/SqT K H a vs:=h.imp (λz=>ax.seq z) λz=>ax.tup z
theorem dS(hx:x.items=some xs):eZ X (.builtin "len") [x] (.int xs.length):=de.mono iB λvs H Q ⟨O,d,r,q⟩=>by
 obtain⟨v,rfl,h⟩:=cx r;obtain⟨a,ws,rfl,h1,h2⟩:=nF h hx;exact⟨a,ws,rfl,ul h1,by rw[h2.len];exact q _ H (.refl H) (.int _)⟩
theorem CG(n:Nat){x:Str}(h:ps[n]?=some (some (.own xs)))(hg:Gl X "len")(hm:X.mg "len"=none)(hN:X.N[n]?=some x:=by rfl)(hv:Vis X.env.scope x:=by first |exact Or.inl rfl |exact Or.inr (Or.inl rfl) |exact Or.inr (Or.inr rfl))(hd:(x==("__debug__":Str))=false:=by decide)
  (Ro:(x==("__classdict__":Str))=false:=by decide) {pc p':Pos} (hs:E4 [.Name x p'] X.env=(false,IJ (.Name x p') X.env)::E4 [] X.env:=by rfl) (QZ:(HV QB (E4 [] X.env)).any (·.1)=false:=by rfl):Ev X H0 O0 ps (.Call (.Name "len" pc) [.Name x p'] [] QB) (.int xs.length):=
 PE.mono (iP iB hg hm GA (bV (ic hN hv hd Ro) dU hs) (by decide) (by decide) hs QZ) λσ H Q ⟨O,R,q⟩=>by
  obtain⟨v,h1,a,vs,rfl,h3,h4,h5,h6⟩:=R.at_ n _ h;exact⟨_,h1,a,vs,rfl,.inl (SqL.of h5),by rw[h6.len];exact q _ H (.refl H) (.int _)⟩
theorem zf:eZ X (.builtin "abs") [.int i] (.int (if i<0 then -i else i)):=de.mono xy λvs H Q ⟨O,d,r,q⟩=>by
 obtain⟨v,rfl,h⟩:=cx r;cases h;exact⟨i,rfl,q _ H (.refl H) (.int _)⟩
theorem nE(hx:x.items=some xs):A_ X (.type "list") [x] xs:=de.mono ox λvs H Q ⟨O,d,r,q⟩=>by
 obtain⟨v,rfl,h⟩:=cx r;obtain⟨a,ws,rfl,h1,h2⟩:=nF h hx;exact⟨a,ws,rfl,ul h1,λl hl=>q l ws _ (aK hl _) hl aV (h2.same (bF (aK hl _) hl))⟩
theorem zW(hx:x=.lst xs∨x=.scr xs):eZ X (.type "tuple") [x] (.tup xs):=de.mono lm λvs H Q ⟨O,d,r,q⟩=>by
 obtain⟨v,rfl,h⟩:=cx r;have nh:∀{l:E6}{o:HO},H l=none->hid (upd H l o) O l=some o:=λ{l o} hl=>dM aV λz=>d _ z hl
 rcases hx with rfl |rfl
 ·cases h with
  |lst h hl hh=>exact⟨_,_,rfl,.inl ⟨ax.seq (SqL.of h),λl QS=>q _ _ (aK QS _) (.tup (SqT.of (nh QS)) hl λi v x e1 e2=>(hh i v x e1 e2).same (bD (aK QS _)))⟩⟩
 ·cases h with
  |scr h hl hh=>exact⟨_,_,rfl,.inl ⟨ax.seq h,λl QS=>q _ _ (aK QS _) (.tup (SqT.of (nh QS)) hl λi v x e1 e2=>(hh i v x e1 e2).same (bD (aK QS _)))⟩⟩
def tyU:U->EW
 | .non=>.type "NoneType" | .bl _=>.type "bool" | .int _=>.type "int" | .str _=>.type "str" | .ty _=>.type "type" | .dic=>.type "dict" | .scr _=>.type "list" | .tup _=>.type "tuple" | .lst _=>.type "list"
theorem gi{n:String}(hn:∀m,x≠.ty m)(h:FU X.K (tyU x) (.type n)=some k):eZ X (.builtin "isinstance") [x,.ty (.nm n)] (.bl k):=by
 intro pins s σ H vs us Q I r hq;obtain⟨O,d,rs,q⟩:=hq;obtain⟨v,w,rfl,h1,h2⟩:=jC rs;cases h2;obtain⟨p1,p2,rfl,r1,r2⟩:=jm r;cases (show p2=GI n from r2)
 have fin:∀tk,EP X pins σ Q (.bool k) {s with toks:=tk }:=λtk=>⟨.bl k,H,I.tok _,rfl,q _ H (.refl H) (.bl _)⟩
 cases h1 with
 |non=>exact dJ I r1 .non h fin
 |bl b=>exact dJ I r1 (.bl b) h fin
 |int b=>exact dJ I r1 (.int b) h fin
 |str b=>exact dJ I r1 (.str b) h fin
 |ty m=>exact absurd rfl (hn _)
 |dic e=>exact dJ I r1 (.dK (ax _ _ e)) h fin
 |xc e kk=>exact absurd rfl (hn _)
 |scr e hl hh=>
  cases r1;obtain⟨QC,_,pl,_⟩:=I.list (ax.seq e);obtain⟨o,nn,e1,e2,_⟩:=pl;exact Gx LI I.kIn ⟨o,e1,e2⟩ h (λz=>nomatch z) fin
 |lst e hl hh=>exact dJ I r1 (.lst (ax _ _ e)) h fin
 |tup e hl hh=>
  cases r1;obtain⟨QC,_,pl,_⟩:=I.tuple (ax.tup e);obtain⟨o,e1,e2,_⟩:=pl;exact Gx Nt I.kIn ⟨o,e1,e2⟩ h (λz=>nomatch z) fin
end
inductive Out where
 |val (u:U) |new (xs:List U) |exc (C:E6) |dsk (d:E6) (u:U) (QW:List (Str×U))
def oO(K:ER)(H0:Hp)(O0:List E6)(Q:VK)(E:XK):Out->Prop
 | .val u=>∀v H',aZ H0 H'->Rp K (hid H' O0) v u->Q v H'
 | .new xs=>∀a vs H',aZ H0 H'->H0 a=none->H' a=some (.lst vs)->Rps K (hid H' (a::O0)) vs xs->Q (.ref a) H'
 | .exc C=>∀H',aZ H0 H'->E (.ref C) none H'
 | .dsk d u QW=>∀v kv H',aZ H0 H'->H' d=some (.dK kv)->DkR K (hid H' (d::O0)) kv QW->Rp K (hid H' (d::O0)) v u->Q v H'
theorem oO.later{K:ER}{H0 H1:Hp}{O0:List E6}{Q:VK}{E:XK}{o:Out}(e:aZ H0 H1)(h:oO K H0 O0 Q E o):oO K H1 O0 Q E o:=by
 cases o with
 |val u=>exact λv H' s r=>h v H' (e.trans s) r
 |new xs=>exact λa vs H' s n q r=>h a vs H' (e.trans s) (e.free n) q r
 |exc C=>exact λH' s=>h H' (e.trans s)
 |dsk d u QW=>exact λv kv H' s q r p=>h v kv H' (e.trans s) q r p
structure PD where
 nx:PSt->Prop
 rt:Out->Prop
 bk:PSt->Prop:=λ_=>False
 ct:PSt->Prop:=λ_=>False
structure Lf(K:ER)(H0:Hp)(O0:List E6)(E:XK)(D:PD)(D':j3):Prop where
 nx:∀ps σ H O,Rs K H0 O0 ps σ H O->D.nx ps->D'.nx σ H
 bk:∀ps σ H O,Rs K H0 O0 ps σ H O->D.bk ps->D'.bk σ H
 ct:∀ps σ H O,Rs K H0 O0 ps σ H O->D.ct ps->D'.ct σ H
 rt:∀o,D.rt o->oO K H0 O0 D'.rt E o
def Ws(X:Cx)(H0:Hp)(O0:List E6)(E:XK)(ss:List HL)(D:PD)(ps:PSt):Prop:=PSs X ss λD' σ H=>Lf X.K H0 O0 E D D'/\∃O,Rs X.K H0 O0 ps σ H O
def W1(X:Cx)(H0:Hp)(O0:List E6)(E:XK)(s:HL)(D:PD)(ps:PSt):Prop:=PS X s λD' σ H=>Lf X.K H0 O0 E D D'/\∃O,Rs X.K H0 O0 ps σ H O
variable {E:XK}{Q4:PSt}{D:PD}{ss:List HL}{QM:List HL}
section
variable {X:Cx}{ps:PSt}{s:HL}{a b c:Expr}{p:Pos}{x y:U}{k:Bool}
theorem aI(h:D.nx ps):Ws X H0 O0 E [] D ps:=PSs.mono AM λD' σ H ⟨L,O,R⟩=>L.nx ps σ H O R h
theorem af(h:W1 X H0 O0 E s {D with nx:=λp=>Ws X H0 O0 E ss D p } ps):Ws X H0 O0 E (s::ss) D ps:=by
 have h2:PSs X ss λD' σ H=>∃p,Ws X H0 O0 E ss D p/\Lf X.K H0 O0 E D D'/\∃O,Rs X.K H0 O0 p σ H O:=λpins s σ H D' I ⟨p,w,l,r⟩=>w pins s σ H D' I ⟨l,r⟩
 exact PSs.mono (xz h h2) λD' σ H ⟨L,O,R⟩=>⟨⟨λp σ H O R q=>⟨p,q,L,O,R⟩,L.bk,L.ct,L.rt⟩,O,R⟩
theorem dk(h:Ws X H0 O0 E ss D Q4)(hs:SubP Q4 ps):Ws X H0 O0 E ss D ps:=PSs.mono h λD' σ H ⟨L,O,R⟩=>⟨L,O,R.sub hs⟩
theorem aw{i:Nat}{x:Str}{QP:Pos}(hN:X.N.Nodup)(hi:X.N[i]?=some x)(hx:Loc X.env.scope x)(he:Ev X H0 O0 ps e u)(h:D.nx (ps.set i (some (.val u))))(hs:JE e (some (.Name x QP)) QB.line X.env=pure false:=by rfl)(hf:X.fn x=true\/X.env.scope.names.lookup x=some .local:=by first |exact .inl rfl |exact .inr rfl |assumption):
  W1 X H0 O0 E (.Assign [.Name x QP] e QB) D ps:=PS.mono (qZ hN hi hx he hs hf) λD' σ H ⟨L,O,R⟩=>⟨O,R,λv H' s r=>L.nx _ _ _ O ((R.go s).set r) h⟩
theorem iR{i:Nat}{x:Str}{QP:Pos}(hN:X.N.Nodup)(hi:X.N[i]?=some x)(hx:Loc X.env.scope x)(he:EvN X H0 O0 ps e xs)(h:D.nx (ps.set i (some (.own xs))))(hs:JE e (some (.Name x QP)) QB.line X.env=pure false:=by rfl)(hf:X.fn x=true\/X.env.scope.names.lookup x=some .local:=by first |exact .inl rfl |exact .inr rfl |assumption):
  W1 X H0 O0 E (.Assign [.Name x QP] e QB) D ps:=PS.mono (qZ hN hi hx he hs hf) λD' σ H ⟨L,O,R⟩=>⟨O,R,λa vs H' s n q r=>L.nx _ _ _ _ (R.own s n q r) h⟩
theorem lv{tb fb:List HL}(hc:Tt X H0 O0 ps c k)(h1:k=true->Ws X H0 O0 E tb D ps)(h2:k=false->Ws X H0 O0 E fb D ps):W1 X H0 O0 E (.If c tb fb QB) D ps:=by
 cases k with
 |true=>exact PS.mono (BD hc (h1 rfl) (λ_ _ _ _ _ _ h=>h.elim) (u:=λ_ _ _=>False)) λD' σ H ⟨L,O,R⟩=>⟨O,R,λH' s=>xP ⟨L,O,R.go s⟩⟩
 |false=>exact PS.mono (BD hc (λ_ _ _ _ _ _ h=>h.elim) (h2 rfl) (t:=λ_ _ _=>False)) λD' σ H ⟨L,O,R⟩=>⟨O,R,λH' s=>zp ⟨L,O,R.go s⟩⟩
theorem Rs.ret{K:ER}{σ:St}{H:Hp}{O:List E6}{v:V}(R:Rs K H0 O0 ps σ H O)(r:Rp K (hid H O) v u):Rp K (hid H O0) v u:=r.same (f7 R.old)
theorem bp(he:Ev X H0 O0 ps e u)(h:D.rt (.val u)):W1 X H0 O0 E (.Return (some e) QB) D ps:=
 PS.mono (m7 he) λD' σ H ⟨L,O,R⟩=>⟨O,R,λv H' s r=>L.rt _ h v H' (R.same.trans s) ((R.go s).ret r)⟩
theorem fq(he:EvN X H0 O0 ps e xs)(h:D.rt (.new xs)):W1 X H0 O0 E (.Return (some e) QB) D ps:=
 PS.mono (m7 he) λD' σ H ⟨L,O,R⟩=>⟨O,R,λa vs H' s n q r=>L.rt _ h a vs H' (R.same.trans s) (R.same.free n) q (r.same (f7 λb hb=>by
  rcases E1.mp hb with y |y
  ·subst y;exact E3
  ·exact ET _ (R.old b y)))⟩
theorem qG(i:Nat){x:Str}(hp:ps[i]?=some (some (.own xs)))(h:D.rt (.new xs))(hN:X.N[i]?=some x:=by rfl)(hv:Vis X.env.scope x:=by first |exact Or.inl rfl |exact Or.inr (Or.inl rfl) |exact Or.inr (Or.inr rfl))(hd:(x==("__debug__":Str))=false:=by decide)
  (Ro:(x==("__classdict__":Str))=false:=by decide):W1 X H0 O0 E (.Return (some (.Name x p)) QB) D ps:=
 PS.mono (m7 (ic hN hv hd Ro)) λD' σ H ⟨L,O,R⟩=>by
  obtain⟨v,h1,a,vs,rfl,h3,h4,h5,h6⟩:=R.at_ i _ hp;refine⟨_,h1,L.rt _ h a vs H R.same ((R.new a h3).resolve_left h4) h5 (h6.same (f7 λb hb=>?_))⟩
  rcases E1.mp hb with y |y
  ·subst y;exact h3
  ·exact R.old b y
theorem wv(he:Ev X H0 O0 ps e u)(h:D.nx ps)(hs:JE e none QB.line X.env=pure false:=by rfl):W1 X H0 O0 E (.Expr e QB) D ps:=
 PS.mono (jK he hs) λD' σ H ⟨L,O,R⟩=>⟨O,R,λv H' s r=>L.nx _ _ _ O (R.go s) h⟩
theorem c_(i:Nat){x:Str}{QX QG xp:Pos}(hp:ps[i]?=some (some (.own xs)))(ha:Ev X H0 O0 ps e u)(hz:xs.length<sizeLine)(h:D.nx (ps.set i (some (.own (xs++[u])))))
  (hN:X.N[i]?=some x:=by rfl) (hv:Vis X.env.scope x:=by first |exact Or.inl rfl |exact Or.inr (Or.inl rfl) |exact Or.inr (Or.inr rfl)) (hd:(x==("__debug__":Str))=false:=by decide) (Ro:(x==("__classdict__":Str))=false:=by decide)
  (Ri:Jt (.Name x xp) "append" X.env (IJ (.Name x xp) X.env)=IJ (.Name x xp) X.env:=by rfl)
  (SI:((HV QG (E4 [e] X.env)).all (λx=>!x.1) && (Om QG (LX [] X.env)).all (λx=>x.1.isSome) && decide ([e].length+([]:List K_).length+(if ([]:List K_).isEmpty then 0 else 1)<30))=true:=by rfl)
  (Rj:(QX.endLine==QG.line)=true:=by rfl) (hse:E4 [e] X.env=(false,IJ e X.env)::E4 [] X.env:=by rfl) (Ry:(HV QG (E4 [] X.env)).any (·.1)=false:=by rfl)
  (hs:JE (.Call (.Attribute (.Name x xp) "append" QX) [e] [] QG) none QB.line X.env=pure false:=by rfl):W1 X H0 O0 E (.Expr (.Call (.Attribute (.Name x xp) "append" QX) [e] [] QG) QB) D ps:=
 PS.mono (jK (By J7 PySem.F.slot_list_append PySem.F.type_list_append lP (ic hN hv hd Ro) (bV ha dU hse) Ri SI Rj hse Ry) hs) λD' σ H ⟨L,O,R⟩=>by
  obtain⟨v,h1,a,vs,rfl,h3,h4,h5,h6⟩:=R.at_ i _ hp;refine⟨_,h1,.inl ⟨rfl,_,SqL.of h5⟩,O,R,λw H' s r=>⟨a,vs,w,rfl,rfl,s _ _ h5,by rw[h6.len];exact hz,?_⟩⟩
  exact L.nx _ _ _ O ((R.go s).write hp h1 ((h6.same (bD s)).snoc (.cons r .nil))) h
theorem wF(i:Nat){x:Str}{QX QG xp:Pos}(hp:ps[i]?=some (some (.own xs)))(QF:xs≠[])(h:D.nx (ps.set i (some (.own xs.dropLast))))
  (hN:X.N[i]?=some x:=by rfl) (hv:Vis X.env.scope x:=by first |exact Or.inl rfl |exact Or.inr (Or.inl rfl) |exact Or.inr (Or.inr rfl)) (hd:(x==("__debug__":Str))=false:=by decide) (Ro:(x==("__classdict__":Str))=false:=by decide)
  (Ri:Jt (.Name x xp) "pop" X.env (IJ (.Name x xp) X.env)=IJ (.Name x xp) X.env:=by rfl)
  (Rj:(QX.endLine==QG.line)=true:=by rfl)
  (hs:JE (.Call (.Attribute (.Name x xp) "pop" QX) [] [] QG) none QB.line X.env=pure false:=by rfl):W1 X H0 O0 E (.Expr (.Call (.Attribute (.Name x xp) "pop" QX) [] [] QG) QB) D ps:=
 PS.mono (jK (BR J7 PySem.F.slot_list_pop PySem.F.type_list_pop B8 (ic hN hv hd Ro) Ri Rj) hs) λD' σ H ⟨L,O,R⟩=>by
  obtain⟨v,h1,a,vs,rfl,h3,h4,h5,h6⟩:=R.at_ i _ hp;have SU:0<vs.length:=by rw[h6.len];exact HH.mpr QF
  have QL:vs.length-1<vs.length:=by lia
  refine⟨_,h1,.inl ⟨rfl,_,SqL.of h5⟩,a,vs,vs[vs.length-1],rfl,rfl,h5,EO QL,?_⟩;refine L.nx _ _ _ O (R.write hp h1 ⟨by simp[h6.len],λj v x e1 e2=>?_⟩) h
  rw[Jd]at e1 e2;split at e1
  ·split at e2
   ·exact h6.at_ j v x e1 e2
   ·cases e2
  ·cases e1
end
def nM:List Nat->TGs
 |[]=>DD
 |j::js=>A9 (sH j) (nM js)
def setAll:PSt->List Nat->List U->PSt
 |ps,j::js,u::us=>setAll (ps.set j (some (.val u))) js us
 |ps,_,_=>ps
def jN:St->List Nat->List V->St
 |σ,j::js,u::us=>jN (σ.set j (some u)) js us
 |σ,_,_=>σ
theorem Rs.setAll{K:ER}{H0:Hp}{O0:List E6}{H:Hp}{O:List E6}:∀{js:List Nat}{ps:PSt}{σ:St}{vs:List V}{us:List U},Rs K H0 O0 ps σ H O->Rps K (hid H O) vs us->Rs K H0 O0 (L2.setAll ps js us) (jN σ js vs) H O
 |[],ps,σ,vs,us,R,r=>by cases us <;>cases vs <;>exact R
 |j::js,ps,σ,vs,[],R,r=>by rw[r.nil_inv];exact R
 |j::js,ps,σ,vs,u::us,R,r=>by
  obtain⟨v,ws,rfl,h1,h2⟩:=r.cons_inv;exact Rs.setAll (js:=js) (R.set h1) h2
theorem ja{Q:St->Hp->Prop}{H:Hp}:∀{js:List Nat}{σ:St}{vs:List V},vs.length=js.length->Q (jN σ js vs) H->nM js vs σ H Q
 |[],σ,[],_,q=>⟨rfl,q⟩
 |j::js,σ,v::vs,e,q=>⟨v,vs,rfl,ja (js:=js) (by simpa using e) q⟩
 |[],_,_::_,e,_=>by simp at e
 |_::_,_,[],e,_=>by simp at e
def TgS(X:Cx)(H0:Hp)(O0:List E6)(tg:Expr)(ps:PSt)(u:U)(Q4:PSt):Prop:=
 PG X tg λv σ H Q=>∃O,Rs X.K H0 O0 ps σ H O/\Rp X.K (hid H O) v u/\∀QI H',aZ H H'->Rs X.K H0 O0 Q4 QI H' O->Q QI H'
theorem PG.mono{X:Cx}{e:Expr}{t t':TG}(h:PG X e t)(m:∀v σ H Q,t' v σ H Q->t v σ H Q):PG X e t':=λpins s σ H v u Q I r q=>h pins s σ H v u Q I r (m v σ H Q q)
theorem PI.mono{X:Cx}{tg e:Expr}{t t':TI}(h:PI X tg e t)(m:∀σ H Q,t' σ H Q->t σ H Q):PI X tg e t':=λpins s σ H Q I q=>h pins s σ H Q I (m σ H Q q)
def Yl(K:ER)(J:It)(G:Hp)(xs:List U):Prop:=
 ∀H2,aZ G H2->(∀i,i<xs.length->J.go i H2/\∀x H3,J.yld i H2 x H3->H3=H2/\∃u,xs[i]?=some u/\Rp K G x u)/\J.stop xs.length H2
def EvI(X:Cx)(H0:Hp)(O0:List E6)(ps:PSt)(tg iter:Expr)(xs:List U):Prop:=
 PI X tg iter λσ H R=>∃O,Rs X.K H0 O0 ps σ H O/\∀J H',aZ H H'->Yl X.K J (hid H' O) xs->R J H'
variable {tg:Expr}{iter:Expr}
section
variable {X:Cx}{ps:PSt}{s:HL}{a b c:Expr}{p:Pos}{x y:U}{k:Bool}
theorem h9{i:Nat}{x:Str}(hN:X.N.Nodup)(hi:X.N[i]?=some x)(hx:Loc X.env.scope x)(hf:X.fn x=true\/X.env.scope.names.lookup x=some .local:=by first |exact .inl rfl |exact .inr rfl |assumption):TgS X H0 O0 (.Name x QB) ps u (ps.set i (some (.val u))):=
 PG.mono (bv hN hi hx hf) λv σ H Q ⟨O,R,r,q⟩=>q _ H (.refl H) (R.set r)
theorem sZ{k:Nat}(js:List Nat)(hc:X.calm=true)(h:PGs X es (nM js))(hl:us.length=js.length)(hn:(JT es X.env).length=js.length:=by rfl)(Q7:(JT es X.env).findIdx? (·.1)=none:=by rfl):TgS X H0 O0 (.Tuple es k QB) ps (.tup us) (setAll ps js us):=
 PG.mono (qR hc h hn Q7) λv σ H Q ⟨O,R,r,q⟩=>by
  cases r with
  |tup hq QS hh=>exact⟨_,_,rfl,ax.tup hq,QS.trans hl,ja (QS.trans hl) (q _ H (.refl H) (R.setAll ⟨QS,hh⟩))⟩
theorem xV(he:Ev X H0 O0 ps e u)(hg:TgS X H0 O0 tg ps u Q4)(h:D.nx Q4)(hs:LV [tg] e QB.line X.env=pure false:=by rfl)(hw:LW [tg] e X.env=pure none:=by rfl)
  (h1:(JT [tg] X.env).map (·.2)=[assign tg X.env]:=by rfl):W1 X H0 O0 E (.Assign [tg] e QB) D ps:=
 PS.mono (CN he hg hs hw h1) λD' σ H ⟨L,O,R⟩=>⟨O,R,λv H1 s1 r1=>⟨O,R.go s1,r1,λQI H2 s2 R2=>L.nx _ _ _ O R2 h⟩⟩
theorem D3{i j:Nat}{x y:Str}{px py pt:Pos}{kt k2 pt2}{u w:U}(hc:X.calm=true)(hN:X.N.Nodup)(hi:X.N[i]?=some x)(hj:X.N[j]?=some y)(Rt:i≠j)
  (hx:X.env.scope.names.lookup x=some .local) (hy:X.env.scope.names.lookup y=some .local) (ha:EvA X H0 O0 ps [a,b] [u,w])
  (hw:LW [.Tuple [.Name x px,.Name y py] kt pt] (.Tuple [a,b] k2 pt2) X.env=pure (some [x,y])) (h:D.nx ((ps.set i (some (.val u))).set j (some (.val w))))
  (hs:LV [.Tuple [.Name x px,.Name y py] kt pt] (.Tuple [a,b] k2 pt2) QB.line X.env=pure false:=by rfl):
  W1 X H0 O0 E (.Assign [.Tuple [.Name x px,.Name y py] kt pt] (.Tuple [a,b] k2 pt2) QB) D ps:=
 PS.mono (CK hc hN hi hj Rt hx hy ha hw hs) λD' σ H ⟨L,O,R⟩=>⟨O,R,λvs H1 s1 r1=>by
  obtain⟨v,z,rfl,h1,h2⟩:=jC r1;exact⟨v,z,rfl,L.nx _ _ _ O (((R.go s1).set h1).set h2) h⟩⟩
theorem dq(he:Ev X H0 O0 ps iter x)(hx:x=.lst xs\/x=.scr xs):EvI X H0 O0 ps tg iter xs:=
 PI.mono (Ae he) λσ H Q ⟨O,R,q⟩=>⟨O,R,λv H' s r=>by
  have key:∃a vs,v=.ref a/\SqL X.K (hid H' O) a vs/\Rps X.K (hid H' O) vs xs:=by
   rcases hx with rfl |rfl
   ·cases r with
    |lst hq hl hh=>exact⟨_,_,rfl,SqL.of hq,hl,hh⟩
   ·cases r with
    |scr hq hl hh=>exact⟨_,_,rfl,hq,hl,hh⟩
  obtain⟨a,vs,rfl,hq,rs⟩:=key;refine⟨a,rfl,⟨vs,ax.seq hq⟩,q _ H' s λH2 s2=>⟨λi hi=>?_,⟨vs,s2.seq hq,by rw[rs.len];exact E2 _⟩⟩⟩
  have QO:i<vs.length:=by rw[rs.len];exact hi
  refine⟨⟨vs,vs[i],s2.seq hq,EO QO⟩,λz H3 y=>⟨y.1,xs[i],EO hi,rs.at_ i z _ (y.2 vs (s2.seq hq)) (EO hi)⟩⟩⟩
theorem DK(he:Ev X H0 O0 ps iter (.tup xs)):EvI X H0 O0 ps tg iter xs:=
 PI.mono (C_ he) λσ H Q ⟨O,R,q⟩=>⟨O,R,λv H' s r=>by
  cases r with
  | @tup a vs _ hq hl hh=>
   have rs:Rps X.K (hid H' O) vs xs:=⟨hl,hh⟩;refine⟨a,rfl,⟨vs,ax.tup hq⟩,q _ H' s λH2 s2=>⟨λi hi=>?_,⟨vs,s2.tup hq,by rw[rs.len];exact E2 _⟩⟩⟩
   have QO:i<vs.length:=by rw[rs.len];exact hi
   refine⟨⟨vs,vs[i],s2.tup hq,EO QO⟩,λz H3 y=>⟨y.1,xs[i],EO hi,rs.at_ i z _ (y.2 vs (s2.tup hq)) (EO hi)⟩⟩⟩
def ft(lo:Int)(n:Nat):List U:=(F_ n).map λ(i:Nat)=>U.int (lo+(i:Int))
theorem dY{lo:Int}{n:Nat}:(ft lo n).length=n:=by simp[ft]
theorem mj{lo:Int}{n i:Nat}(h:i<n):(ft lo n)[i]?=some (.int (lo+(i:Int))):=by
 unfold ft;rw[E7,IV h];rfl
theorem ff{lo:Int}{n i:Nat}{x:U}(h:(ft lo n)[i]?=some x):i<n/\x=.int (lo+(i:Int)):=by
 have hi:=aH h;rw[dY]at hi;rw[mj hi]at h;exact⟨hi,(FV h).symm⟩
theorem kY{K:ER}{G:Hp}{lo:Int}{n:Nat}:Yl K (Itr lo n) G (ft lo n):=λH2 s2=>by
 rw[dY];refine⟨λi hi=>⟨hi,λz H3 y=>⟨y.1,_,mj hi,?_⟩⟩,E2 _⟩
 rw[y.2];exact .int _
theorem pW{j:Int}(hg:Gl X "range")(hm:X.mg "range"=none)(ha:EvA X H0 O0 ps [a] [.int j])(h1:-(2 ^ 62)≤j)(h2:j<2 ^ 62)(hs:E4 [a] X.env=[(false,IJ a X.env)]:=by rfl):EvI X H0 O0 ps tg (.Call (.Name "range" p) [a] [] QB) (ft 0 j.toNat):=
 PI.mono (vg hg hm ha hs) λσ H Q ⟨O,R,q⟩=>⟨O,R,λvs H' s r=>by
  obtain⟨v,rfl,h⟩:=cx r;cases h;exact⟨j,rfl,h1,h2,q _ H' s kY⟩⟩
theorem Rs.rebase{K:ER}{σ:St}{H:Hp}{O:List E6}(R:Rs K H0 O0 ps σ H O):Rs K (hid H (O.filter λa=>decide (a ∉ O0))) O0 ps σ H O:=
 ⟨ax,R.old,λa ha=>by
  by_cases h:a∈O0
  ·exact .inl h
  ·right;unfold hid;rw[if_pos (Gr.mpr ⟨ha,by simpa using h⟩)],R.dom,R.len,R.at_,R.inj⟩
theorem Rs.base{K:ER}{σ:St}{H:Hp}{O:List E6}(R:Rs K H0 O0 ps σ H O):aZ H0 (hid H (O.filter λa=>decide (a ∉ O0))):=λb o h=>by
 refine dM (R.same b o h) λz=>?_
 obtain⟨z1,z2⟩:=Gr.mp z;rcases R.new b z1 with y |y
 ·simp[y]at z2
 ·rw[h]at y;cases y
theorem Rs.unbase{K:ER}{H1:Hp}{σ:St}{H:Hp}{O:List E6}(e:aZ H0 H1)(R:Rs K H1 O0 ps σ H O):Rs K H0 O0 ps σ H O:=
 ⟨e.trans R.same,R.old,λa ha=>(R.new a ha).imp id λz=>e.free z,R.dom,R.len,R.at_,R.inj⟩
theorem Rs.seen{K:ER}{Tj:PSt}{σ σ2:St}{H H2:Hp}{O O2:List E6}(R:Rs K H0 O0 ps σ H O)(R2:Rs K (hid H (O.filter λa=>decide (a ∉ O0))) O0 Tj σ2 H2 O2):aZ (hid H O) (hid H2 O2):=λb o h=>by
 obtain⟨h1,h2⟩:=gX h;have h3:hid H (O.filter λa=>decide (a ∉ O0)) b=some o:=dM h1 λz=>h2 (Gr.mp z).1
 refine dM (R2.same b o h3) λz=>?_
 rcases R2.new b z with y |y
 ·exact h2 (R.old b y)
 ·rw[h3]at y;cases y
theorem Dj(hc:X.calm=true)(hp:Mz (FF X.prog X.w) X.A X.env X.xe)(hi:EvI X H0 O0 ps tg iter xs)(Iv:Nat->PSt->Prop)(h0:Iv 0 ps)
  (hs:∀(H0:Hp) (i:Nat) (x:U) (ps:PSt),xs[i]?=some x->Iv i ps->∃Q4,TgS X H0 O0 tg ps x Q4/\Ws X H0 O0 E QM {D with nx:=Iv (i+1),ct:=Iv (i+1),bk:=D.nx } Q4) (hd:∀ps,Iv xs.length ps->D.nx ps)
  (hf:∀x,IL iter X.env x=pure x:=by intro _;rfl):W1 X H0 O0 E (.For tg iter QM [] QB) D ps:=by
 have hg:PG X tg λv σ H Q=>∃H1 ps u Q4,TgS X H1 O0 tg ps u Q4/\∃O,Rs X.K H1 O0 ps σ H O/\Rp X.K (hid H O) v u/\∀QI H',aZ H H'->Rs X.K H1 O0 Q4 QI H' O->Q QI H':=
  λpins s σ H v u Q I r ⟨H1,ps,w,Q4,t,z⟩=>t pins s σ H v u Q I r z
 have hb:PSs X QM λD' σ H=>∃H1 D1 Q4,Ws X H1 O0 E QM D1 Q4/\Lf X.K H1 O0 E D1 D'/\∃O,Rs X.K H1 O0 Q4 σ H O:=λpins s σ H D' I ⟨H1,D1,Q4,w,z⟩=>w pins s σ H D' I z
 refine PS.mono (Co hp hc hi hg hb hf) λD' σ H ⟨L,O,R⟩=>⟨O,R,λJ H1 s1 Y=>?_⟩
 have R1:=R.go s1;have base:=R1.base;refine⟨λi m σ H=>m=xs.length-i/\i<=xs.length/\∃ps O',Iv i ps/\Rs X.K (hid H1 (O.filter λa=>decide (a ∉ O0))) O0 ps σ H O',⟨_,rfl,Gz _,ps,O,h0,R1.rebase⟩,?_⟩
 rintro i m σ2 H2 ⟨rfl,hi2,Tj,O2,iv,R2⟩;have seen:=R1.seen R2;obtain⟨y1,y2⟩:=Y H2 (seen.trans ax);by_cases QL:i<xs.length
 ·obtain⟨g1,g2⟩:=y1 i QL;refine .inr ⟨g1,λQI H'=>∃ps O',Iv (i+1) ps/\Rs X.K (hid H1 (O.filter λa=>decide (a ∉ O0))) O0 ps QI H' O',λQI H' z=>⟨xs.length-(i+1),by lia,rfl,QL,z⟩,λx H3 y=>?_⟩
  obtain⟨rfl,u,hu,r⟩:=g2 x H3 y;obtain⟨Q4,t,w⟩:=hs (hid H1 (O.filter λa=>decide (a ∉ O0))) i u Tj hu iv
  refine⟨_,Tj,u,Q4,t,O2,R2,r.same seen,λQI H' s' R'=>⟨_,_,Q4,w,?_,O2,R'⟩⟩
  exact⟨λp σ H O R q=>⟨p,O,q,R⟩,λp σ H O R q=>L.nx _ _ _ _ (R.unbase base) q,λp σ H O R q=>⟨p,O,q,R⟩,λo q=>(L.rt o q).later base⟩
 ·have e:i=xs.length:=by lia
  subst e;exact .inl ⟨y2,L.nx _ _ _ _ (R2.unbase base) (hd Tj iv)⟩
theorem zu(hp:Mz (FF X.prog X.w) X.A X.env X.xe)(Iv:Nat->PSt->Prop)(m:Nat)(h0:Iv m ps)
  (hs:∀m ps,Iv m ps->∃b,Tt X H0 O0 ps c b/\(b=true->Ws X H0 O0 E QM {D with nx:=λp=>∃m',m'<m/\Iv m' p,ct:=λp=>∃m',m'<m/\Iv m' p,bk:=D.nx } ps)/\(b=false->D.nx ps)):W1 X H0 O0 E (.While c QM [] QB) D ps:=by
 have ht:PT X c λσ H Q=>∃ps b,Tt X H0 O0 ps c b/\∃O,Rs X.K H0 O0 ps σ H O/\∀H',aZ H H'->Q b H':=λpins s σ H Q I ⟨ps,b,t,z⟩=>t pins s σ H Q I z
 have hb:PSs X QM λD' σ H=>∃D1 Q4,Ws X H0 O0 E QM D1 Q4/\Lf X.K H0 O0 E D1 D'/\∃O,Rs X.K H0 O0 Q4 σ H O:=λpins s σ H D' I ⟨D1,Q4,w,z⟩=>w pins s σ H D' I z
 refine PS.mono (wR hp ht hb) λD' σ H ⟨L,O,R⟩=>⟨λm σ H=>∃ps O,Iv m ps/\Rs X.K H0 O0 ps σ H O,⟨m,ps,O,h0,R⟩,?_⟩
 rintro m σ2 H2 ⟨Tj,O2,iv,R2⟩;obtain⟨b,t,h1,h2⟩:=hs m Tj iv;refine⟨Tj,b,t,O2,R2,λH3 s3=>?_⟩
 cases b with
 |true=>
  refine xP ⟨λσ H=>∃m',m'<m/\∃ps O,Iv m' ps/\Rs X.K H0 O0 ps σ H O,λQI H' z=>z,_,Tj,h1 rfl,?_,O2,R2.go s3⟩
  exact⟨λp σ H O R ⟨m',l,q⟩=>⟨m',l,p,O,q,R⟩,λp σ H O R q=>L.nx _ _ _ _ R q,λp σ H O R ⟨m',l,q⟩=>⟨m',l,p,O,q,R⟩,L.rt⟩
 |false=>exact zp (L.nx _ _ _ _ (R2.go s3) (h2 rfl))
def oK:List Nat->PSt->PSt
 |[],ps=>ps
 |i::is,ps=>oK is (ps.set i none)
theorem Rs.mask{K:ER}{H:Hp}{O:List E6}:∀{is:List Nat}{ps:PSt}{σ:St},Rs K H0 O0 ps σ H O->Rs K H0 O0 (oK is ps) (L2.mask is σ) H O
 |[],ps,σ,R=>R
 |i::is,ps,σ,R=>Rs.mask (is:=is) (R.drop (i:=i) (o:=none))
theorem Rs.hide{K:ER}{σ:St}{H H':Hp}{O:List E6}{l:E6}(R:Rs K H0 O0 ps σ H O)(e:aZ H H')(n:H l=none)(d:H' l≠none):Rs K H0 O0 ps σ H' (l::O):=by
 refine⟨R.same.trans e,λa ha=>ET _ (R.old a ha),λa ha=>?_,λa ha z=>?_,R.len,λi s h=>?_,R.inj⟩
 ·rcases E1.mp ha with y |y
  ·subst y;exact .inr (R.same.free n)
  ·exact R.new a y
 ·rcases E1.mp ha with y |y
  ·subst y;exact d z
  ·exact R.dom a y (e.free z)
 ·obtain⟨w,h1,h2⟩:=R.at_ i s h;refine⟨w,h1,?_⟩;cases s with
  |val u=>exact Rp.same (bF e n) h2
  |own ys=>
   obtain⟨b,ws,k1,k2,k3,k4,k5⟩:=h2;exact⟨b,ws,k1,ET _ k2,k3,e _ _ k4,k5.same (bF e n)⟩
  |pin z u=>exact⟨h2.1,Rp.same (bF e n) h2.2⟩
  |dsk w C b d QW=>obtain⟨dx,kv,k1,k2,k3,k4,k5,k6⟩:=h2;exact⟨dx,kv,k1,ET _ k2,k3,e _ _ k4,e _ _ k5,k6.same (bF e n)⟩
theorem oY{js is:List Nat}:∀{σ:St}{vs:List V},(∀j∈js,j∈is)->∀(n:Nat) (v:V),n ∉ is->σ[n]?=some (some v)->(jN σ js vs)[n]?=some (some v):=by
 induction js with
 |nil=>intro σ vs _ n v _ h;cases vs <;>exact h
 |cons j js ih=>
  intro σ vs hj n v hn h;cases vs with
  |nil=>exact h
  |cons w ws=>exact ih (λz hz=>hj z (ET _ hz)) n v hn (by rw[FI (λz=>hn (by rw[<-z];exact hj j E3))];exact h)
def GOk(g:TG)(K:ER)(is:List Nat)(f:PSt->U->PSt)(dom:U->Prop):Prop:=
 ∀(H0:Hp) (O0:List E6) (ps:PSt) (σ:St) (H:Hp) (O:List E6) (v:V) (u:U) (Q:St->Hp->Prop),dom u->Rs K H0 O0 ps σ H O->Rp K (hid H O) v u->
  (∀QI,Rs K H0 O0 (f ps u) QI H O->(∀(n:Nat) (w:V),n ∉ is->σ[n]?=some (some w)->QI[n]?=some (some w))->Q QI H)->g v σ H Q
theorem d8{K:ER}{is:List Nat}{i:Nat}(h:i∈is):GOk (sH i) K is (λps u=>ps.set i (some (.val u))) λ_=>True:=λH0 O0 ps σ H O v u Q _ R r q=>
 q _ (R.set r) λn w hn e=>by rw[FI (λz=>hn (by rw[<-z];exact h))];exact e
theorem tj{K:ER}{is js:List Nat}(h:∀j∈js,j∈is):GOk (DH K js.length (nM js)) K is (λps u=>match u with | .tup us=>setAll ps js us |_=>ps) λu=>∃us,u=.tup us/\us.length=js.length:=λH0 O0 ps σ H O v u Q d R r q=>by
 obtain⟨us,rfl,hl⟩:=d;cases r with
 |tup hq QS hh=>exact⟨_,_,rfl,ax.tup hq,QS.trans hl,ja (QS.trans hl) (q _ (R.setAll ⟨QS,hh⟩) λn w hn e=>oY h n w hn e)⟩
theorem uT{is:List Nat}{g:TG}{f:PSt->U->PSt}{dom:U->Prop}{σ:St}{H1:Hp}{O:List E6}{Q:VK}{J:It}{te:TE}(hg:GOk g X.K is f dom)(R1:Rs X.K H0 O0 ps σ H1 O)(Y:Yl X.K J (hid H1 O) xs)(QJ:ys.length=xs.length)(hz:xs.length<=sizeLine)(hdom:∀x∈xs,dom x)
  (hte:∀(i:Nat) (x y:U) (σ:St) (H:Hp) (O':List E6) (Q:VK),xs[i]?=some x->ys[i]?=some y->Rs X.K H0 O0 (f (oK is ps) x) σ H O'->(∀v H',aZ H H'->Rp X.K (hid H' O') v y->Q v H')->te σ H Q)
  (fin:∀a vs H',aZ H1 H'->H1 a=none->H' a=some (.lst vs)->Rps X.K (hid H' (a::O)) vs ys->Q (.ref a) H'):xY is g te σ Q J H1:=by
 intro l hl;refine⟨λi m H2=>m=xs.length-i/\i<=xs.length/\aZ H1 H2/\∃vs,H2 l=some (.lst vs)/\vs.length=i/\Rps X.K (hid H2 (l::O)) vs (ys.take i),⟨_,rfl,Gz _,aK hl _,[],aV,rfl,by rw[O8];exact .nil⟩,?_⟩
 rintro i m H2 ⟨rfl,hi,s2,vs,h2,hv,rs⟩;have seen:aZ (hid H1 O) (hid H2 (l::O)):=bF s2 hl;obtain⟨y1,y2⟩:=Y H2 (seen.trans ax);by_cases QL:i<xs.length
 ·obtain⟨g1,g2⟩:=y1 i QL;refine .inr ⟨g1,λx H3 y=>?_⟩
  obtain⟨rfl,u,hu,r⟩:=g2 x H3 y;have R2:=(R1.mask (is:=is)).hide s2 hl (by rw[h2];intro z;cases z)
  refine hg H0 O0 _ _ H3 (l::O) x u _ (hdom u (Fs hu)) R2 (r.same seen) λσ4 R4 keep=>?_
  have hy:ys[i]?=some (ys[i]'(by lia)):=EO _
  refine hte i u _ σ4 H3 (l::O) _ hu hy R4 λv H5 s5 r5=>⟨λj w e=>keep j w (kJ is σ j w e).2 e,vs,s5 _ _ h2,?_,xs.length-(i+1),by lia,rfl,QL,(s2.trans s5).put hl _,vs++[v],aV,by simp[hv],?_⟩
  ·rw[hv];lia
  ·rw[tZ E3,JG,hy];exact (rs.same (bD s5)).snoc (.cons r5 .nil)
 ·have e:i=xs.length:=by lia
  subst e;rw[<-QJ,HX]at rs;exact .inl ⟨y2,fin l vs H2 s2 hl h2 rs⟩
theorem e_{Sy:Expr}{QA:Lk}{cl:List (Str×E6)}{is:List Nat}{g:TG}{f:PSt->U->PSt}{dom:U->Prop}(hc:X.calm=true)(B:iM X QA cl is)(hi:EvI X H0 O0 ps tg iter xs)(hg:∀C s H fp,PG (b_ X QA cl C s H fp) tg g)(gk:GOk g X.K is f dom)
  (QJ:ys.length=xs.length) (hz:xs.length<=sizeLine) (hdom:∀x∈xs,dom x) (he:∀C s H fp (i:Nat) (x y:U),xs[i]?=some x->ys[i]?=some y->Ev (b_ X QA cl C s H fp) H0 O0 (f (oK is ps) x) Sy y)
  (hs:∀x,IL iter X.env x=pure x:=by intro _;rfl):EvN X H0 O0 ps (.ListComp Sy [⟨tg,iter,[],0⟩] QA QB) ys:=by
 have hte:∀C s H fp,PE (b_ X QA cl C s H fp) Sy λσ H Q=>∃i x y,xs[i]?=some x/\ys[i]?=some y/\∃O',Rs X.K H0 O0 (f (oK is ps) x) σ H O'/\∀v H',aZ H H'->Rp X.K (hid H' O') v y->Q v H':=
  λC s H fp pins s' σ H' Q I ⟨i,x,y,h1,h2,z⟩=>he C s H fp i x y h1 h2 pins s' σ H' Q I z
 refine PE.mono (Ay hc B hi hg hte hs) λσ H Q ⟨O,R,q⟩=>⟨O,R,λJ H1 s1 Y=>?_⟩
 exact uT gk (R.go s1) Y QJ hz hdom (λi x y σ H O' Q h1 h2 R' z=>⟨i,x,y,h1,h2,O',R',z⟩) λa vs H' s n h r=>q a vs H' (s1.trans s) (s1.free n) h r
end
def spU(K:ER)(QQ:List U->Out->Prop):Sp:=λvs H Q E=>∃us O o,(∀a∈O,H a≠none)/\Rps K (hid H O) vs us/\QQ us o/\oO K H O Q E o
section
variable {X:Cx}{ps:PSt}{s:HL}{a b c:Expr}{p:Pos}{x y:U}{k:Bool}
 {CX:CXT}{n:Nat}{f C:E6}{fd:Gn}{pn:List Str}{QQ:List U->Out->Prop}{nm:Str}
theorem aA(F:ba X.prog X.w X.K X.mg X.base CX n f fd pn (spU X.K QQ))(hr:cU n X.A)(hg:Gl X nm)(hm:X.mg nm=some (.ref f))(hk:G4 X.K (.ref f)=true)(hb:cw X.K fd pn [])(hx:fi CX X E0)
  (ha:EvA X H0 O0 ps (e::es) us) (h:QQ us (.val u)) (Ru:(nm==("__debug__":Str))=false:=by decide) (he:E4 (e::es) X.env=(false,IJ e X.env)::E4 es X.env:=by rfl) (QZ:(HV QB (E4 es X.env)).any (·.1)=false:=by rfl):
  Ev X H0 O0 ps (.Call (.Name nm p) (e::es) [] QB) u:=
 PE.mono (iQ F hr hg hm hk hb .nil hx ha Ru he QZ) λσ H Q ⟨O,R,q⟩=>⟨O,R,λvs H1 s1 r1=>by
  show spU X.K QQ (vs++[]) H1 Q _;rw[GL];exact⟨us,O,.val u,(R.go s1).dom,r1,h,λv H2 s2 r2=>q v H2 (s1.trans s2) r2⟩⟩
theorem ci(F:ba X.prog X.w X.K X.mg X.base CX n f fd pn (spU X.K QQ))(hr:cU n X.A)(hg:Gl X nm)(hm:X.mg nm=some (.ref f))(hk:G4 X.K (.ref f)=true)(hb:cw X.K fd pn [])(hx:fi CX X E0)
  (ha:EvA X H0 O0 ps (e::es) us) (h:QQ us (.new xs)) (Ru:(nm==("__debug__":Str))=false:=by decide) (he:E4 (e::es) X.env=(false,IJ e X.env)::E4 es X.env:=by rfl) (QZ:(HV QB (E4 es X.env)).any (·.1)=false:=by rfl):
  EvN X H0 O0 ps (.Call (.Name nm p) (e::es) [] QB) xs:=
 PE.mono (iQ F hr hg hm hk hb .nil hx ha Ru he QZ) λσ H Q ⟨O,R,q⟩=>⟨O,R,λvs H1 s1 r1=>by
  show spU X.K QQ (vs++[]) H1 Q _;rw[GL];exact⟨us,O,.new xs,(R.go s1).dom,r1,h,λa vs H2 s2 n2 h2 r2=>q a vs H2 (s1.trans s2) (s1.free n2) h2 r2⟩⟩
def Xv(X:Cx)(H0:Hp)(O0:List E6)(E:XK)(ps:PSt)(e:Expr)(C:E6):Prop:=PE X e λσ H _=>∃O,Rs X.K H0 O0 ps σ H O/\∀H',aZ H H'->E (.ref C) none H'
theorem qL(F:ba X.prog X.w X.K X.mg X.base CX n f fd pn (spU X.K QQ))(hr:cU n X.A)(hg:Gl X nm)(hm:X.mg nm=some (.ref f))(hk:G4 X.K (.ref f)=true)(hb:cw X.K fd pn [])(hx:fi CX X E)
  (ha:EvA X H0 O0 ps (e::es) us) (h:QQ us (.exc C)) (Ru:(nm==("__debug__":Str))=false:=by decide) (he:E4 (e::es) X.env=(false,IJ e X.env)::E4 es X.env:=by rfl) (QZ:(HV QB (E4 es X.env)).any (·.1)=false:=by rfl):
  Xv X H0 O0 E ps (.Call (.Name nm p) (e::es) [] QB) C:=
 PE.mono (iQ F hr hg hm hk hb .nil hx ha Ru he QZ) λσ H Q ⟨O,R,q⟩=>⟨O,R,λvs H1 s1 r1=>by
  show spU X.K QQ (vs++[]) H1 Q _;rw[GL];exact⟨us,O,.exc C,(R.go s1).dom,r1,h,λH2 s2=>q H2 (s1.trans s2)⟩⟩
theorem zo{i:Nat}{x:Str}{QP:Pos}(hN:X.N.Nodup)(hi:X.N[i]?=some x)(hx:Loc X.env.scope x)(he:Xv X H0 O0 E ps e C)(h:D.rt (.exc C))(hs:JE e (some (.Name x QP)) QB.line X.env=pure false:=by rfl)(hf:X.fn x=true\/X.env.scope.names.lookup x=some .local:=by first |exact .inl rfl |exact .inr rfl |assumption):
  W1 X H0 O0 E (.Assign [.Name x QP] e QB) D ps:=PS.mono (qZ hN hi hx he hs hf) λD' σ H ⟨L,O,R⟩=>⟨O,R,λH' s=>L.rt _ h H' (R.same.trans s)⟩
theorem BO(he:Xv X H0 O0 E ps e C)(h:D.rt (.exc C)):W1 X H0 O0 E (.Return (some e) QB) D ps:=
 PS.mono (m7 he) λD' σ H ⟨L,O,R⟩=>⟨O,R,λH' s=>L.rt _ h H' (R.same.trans s)⟩
end
section
variable {P:E8}{w:FE}{K:ER}{mg:Str→Option EW}{base:GV}{N pn:List Str}{QE nm:Str}{QA:Lk}{f:E6}{cd:EW}{A:FC}{outer:List Env}{s:EU}{ps:PSt}
theorem tT{x:Str}{C:E6}{e0:Expr}{np QG QB:Pos}(hex:Ny K C [.type "ValueError",.type "Exception",.type "BaseException",.type "object"] "ValueError.__new__"=true)
  (hg:Gl (d_ (CXF P w) P w K mg base N QE QA f cd A outer s H E) x) (hm:mg x=some (.ref C)) (he:Ev (d_ (CXF P w) P w K mg base N QE QA f cd A outer s H E) H0 O0 ps e0 u) (h:D.rt (.exc C))
  (Q7:E4 [e0] (d_ (CXF P w) P w K mg base N QE QA f cd A outer s H E).env=[(false,IJ e0 (d_ (CXF P w) P w K mg base N QE QA f cd A outer s H E).env)]:=by rfl) (hd:(x==("__debug__":Str))=false:=by decide):
  W1 (d_ (CXF P w) P w K mg base N QE QA f cd A outer s H E) H0 O0 E (.Raise (some (.Call (.Name x np) [e0] [] QG)) none QB) D ps:=
 PS.mono (yq hex hg hm he Q7 hd) λD' σ H ⟨L,O,R⟩=>⟨O,R,λv H' s r=>L.rt _ h H' (R.same.trans s)⟩
def f9(N:List Str)(us:List U):PSt:=us.map (λu=>some (.val u))++Gc (N.length-us.length) none
theorem bo{st:HL}{fd:Gn}{k:Nat}{QQ:List U->Out->Prop}(F:Fun K nm QE st f fd)(S:av N pn (aq st))(len:∀us o,QQ us o->us.length=pn.length)
  (Rh:∀(QK:EW) (A:FC) (outer:List Env) (s:EU) (H:Hp) (E:XK) (O:List E6) (us:List U) (o:Out),cU k (A.deeper (JV QE (aq st) s.heap.objs.size f QK))->QQ us o->
   Ws (d_ (CXF P w) P w K mg base N QE (aq st) f QK A outer s H E) H O E (bA st) ⟨λ_=>o=.val .non,λo'=>o'=o,λ_=>False,λ_=>False⟩ (f9 N us)):ba P w K mg base (CXF P w) (k+1) f fd pn (spU K QQ):=by
 refine F.okF S (λvs H Q E h=>?_) λQK A outer s H vs Q E hr h=>?_
 ·obtain⟨us,O,o,_,r,RI,_⟩:=h;rw[r.len];exact len us o RI
 ·obtain⟨us,O,o,d,r,RI,q⟩:=h;refine⟨_,Rh QK A outer s H E O us o hr RI,⟨λps σ H' O' R e=>?_,λ_ _ _ _ _ e=>e.elim,λ_ _ _ _ _ e=>e.elim,λo' e=>by subst e;exact q⟩,O,?_⟩
  ·subst e;exact q .non H' R.same .non
  ·refine⟨.refl H,λa h=>h,λa h=>.inl h,d,?_,λi sl e=>?_,λi j xs ys a e1 e2 _ _=>?_⟩
   ·unfold start f9;rw[Fx,Fx,ES,ES,Iw,Iw,r.len]
   ·unfold f9 at e;by_cases hi:i<us.length
    ·rw[Fp (by simpa using hi),E7,EO hi]at e
     cases e;obtain⟨v,h1,h2⟩:=r.get (EO hi);refine⟨v,?_,h2⟩;unfold start;rw[Fp (by simpa [r.len] using hi),E7,h1];rfl
    ·rw[Fq (by simpa using hi),H_]at e
     split at e <;>cases e
   ·exfalso
    unfold f9 at e1;by_cases hi:i<us.length
    ·rw[Fp (by simpa using hi),E7,EO hi]at e1
     cases e1
    ·rw[Fq (by simpa using hi),H_]at e1
     split at e1 <;>cases e1
end
section
variable {X:Cx}{ps:PSt}{a b c:Expr}{rest:List Expr}{p p2:Pos}{x y:U}{i j:Int}{k m:Bool}{lo hi:Option Expr}{l h:Option Int}
def EvO(X:Cx)(H0:Hp)(O0:List E6)(ps:PSt)(e:Option Expr)(n:Option Int):Prop:=PO X e λσ H Q=>∃O,Rs X.K H0 O0 ps σ H O/\∀H',aZ H H'->Q n H'
theorem fk:EvO X H0 O0 ps none none:=λpins s σ H Q I ⟨O,R,q⟩=>zT pins s σ H Q I (q H (.refl H))
theorem dZ(he:Ev X H0 O0 ps e (.int i)):EvO X H0 O0 ps (some e) (some i):=λpins s σ H Q I ⟨O,R,q⟩=>AS he pins s σ H Q I ⟨O,R,λv H' s r=>by cases r;exact⟨i,rfl,q H' s⟩⟩
def fo(xs:List U)(lo hi:Option Int):List U:=(xs.drop (HT.sIx xs.length 0 lo)).take (HT.sIx xs.length xs.length hi-HT.sIx xs.length 0 lo)
theorem Rps.drop{K:ER}{H:Hp}{vs:List V}{xs:List U}(r:Rps K H vs xs)(n:Nat):Rps K H (vs.drop n) (xs.drop n):=⟨by simp[r.len],λi v x h1 h2=>r.at_ _ v x (by rwa [Iy]at h1) (by rwa [Iy]at h2)⟩
theorem Rps.take{K:ER}{H:Hp}{vs:List V}{xs:List U}(r:Rps K H vs xs)(n:Nat):Rps K H (vs.take n) (xs.take n):=⟨by simp[r.len],λi v x h1 h2=>by
 by_cases hn:i<n
 ·rw[Hn hn]at h1 h2;exact r.at_ i v x h1 h2
 ·rw[List.getElem?_take_eq_none (by lia)]at h1
  cases h1⟩
theorem Rps.cut{K:ER}{H:Hp}{vs:List V}{xs:List U}(r:Rps K H vs xs):Rps K H (vh vs l h) (fo xs l h):=by
 unfold vh fo;rw[r.len];exact (r.drop _).take _
theorem c8(he:Ev X H0 O0 ps e x)(hl:EvO X H0 O0 ps lo l)(hh:EvO X H0 O0 ps hi h)(hx:x=.lst xs\/x=.scr xs):EvN X H0 O0 ps (.Subscript e (.Slice lo hi none p2) QB) (fo xs l h):=
 PE.mono (zk A5 he hl hh) λσ H Q ⟨O,R,q⟩=>⟨O,R,λv H1 s1 r1=>⟨O,R.go s1,λH2 s2=>⟨O,R.go (s1.trans s2),λH3 s3=>by
  have key:∃a vs,v=.ref a/\SqL X.K (hid H1 O) a vs/\Rps X.K (hid H1 O) vs xs:=by
   rcases hx with rfl |rfl
   ·cases r1 with
    |lst hq hl hh=>exact⟨_,_,rfl,SqL.of hq,hl,hh⟩
   ·cases r1 with
    |scr hq hl hh=>exact⟨_,_,rfl,hq,hl,hh⟩
  obtain⟨a,vs,rfl,hq,rs⟩:=key;have s13:=s2.trans s3;refine⟨a,vs,rfl,s13.seq (ax.seq hq),λp hp=>q p _ _ ((s1.trans s13).trans (aK hp _)) ((s1.trans s13).free hp) aV ?_⟩
  exact (rs.cut.same (bD s13)).same (bF (aK hp _) hp)⟩⟩⟩
theorem gj(ha:Ev X H0 O0 ps a (.lst xs))(hb:Ev X H0 O0 ps b (.lst ys))(hz:xs.length+ys.length<=sizeLine):EvN X H0 O0 ps (.BinOp a .Add b QB) (xs++ys):=
 PE.mono (uE Cj ha hb) λσ H Q ⟨O,R,q⟩=>two R (λ_ _ _ z=>z) (λ_ _ _ z=>z) λv w H' s _ r1 r2=>by
  cases r1 with
  |lst hq hl hh=>
   cases r2 with
   |lst QT QS hh'=>
    refine⟨_,_,_,_,rfl,rfl,ax _ _ hq,ax _ _ QT,by rw[hl,QS];exact hz,λp hp=>q p _ _ (s.trans (aK hp _)) (s.free hp) aV ?_⟩
    exact (Rps.snoc ⟨hl,hh⟩ ⟨QS,hh'⟩).same (bF (aK hp _) hp)
def fl:U->V
 | .bl b=>.bl b | .int i=>.int i | .str x=>.str x |_=>.non
def wW:U->Bool
 | .bl _=>true | .int _=>true | .str _=>true | .non=>true |_=>false
theorem Bs{K:ER}{H:Hp}{v:V}{u:U}(h:Rp K H v u)(f:wW u=true):v=fl u/\gN v=true:=by
 cases h <;>first |exact⟨rfl,rfl⟩ |simp[wW]at f
theorem x4{K:ER}{H:Hp}:∀{vs:List V}{xs:List U},Rps K H vs xs->xs.all wW=true->vs=xs.map fl/\vs.all gN=true
 |vs,[],r,_=>by rw[r.nil_inv];exact⟨rfl,rfl⟩
 |vs,x::xs,r,f=>by
  obtain⟨v,ws,rfl,h1,h2⟩:=r.cons_inv;simp only[K5,GE]at f;obtain⟨e1,e2⟩:=Bs h1 f.1;obtain⟨e3,e4⟩:=x4 h2 f.2;refine⟨by rw[Ft,<-e1,<-e3],?_⟩
  simp only[K5,GE];exact⟨e2,e4⟩
theorem Eg(hx:wW x=true)(hy:y.items=some ys)(hf:ys.all wW=true):OpS X (Hl .In) x y (.bl (inV (fl x) (ys.map fl))):=by
 intro pins s σ H v w p q Q I r1 r2 h;obtain⟨k1,k2,k3⟩:=h;obtain⟨a,vs,rfl,h1,h2⟩:=nF k2 hy;obtain⟨e1,e2⟩:=Bs k1 hx;obtain⟨e3,e4⟩:=x4 h2 hf;exact vz pins s σ H v _ p q Q I r1 r2 ⟨a,vs,rfl,h1,e2,e4,by rw[e1,e3];exact k3⟩
theorem Dm{bs:List Bool}(hc:X.calm=true):eZ X (.builtin "all") [.lst (bs.map U.bl)] (.bl (bs.all id)):=by
 intro pins s σ H vs us Q I r hq;obtain⟨O,d,rs,q⟩:=hq;obtain⟨v,rfl,h1⟩:=cx rs;obtain⟨p1,rfl,r1⟩:=eQ r;cases h1 with
 | @lst a ws _ hq hl hh=>
  cases r1;obtain⟨QC,rv,pl,_⟩:=I.list (SqL.of (ax _ _ hq));have QJ:QC.length=bs.length:=by rw[<-rv.length,hl,ES]
  have RQ:∀(i:Nat) (z:EW),QC.toArray[i]?=some z->z=.bool (bs.getD i false):=λi z e=>by
   have hi:i<QC.length:=by have:=aH (show QC[i]?=some z by simpa using e);exact this
   have hb:i<bs.length:=by lia
   have hw:i<ws.length:=by rw[rv.length];exact hi
   obtain⟨u,e1,e2⟩:=rv.get (EO hw);have e3:=hh i ws[i] (.bl bs[i]) (EO hw) (by rw[E7,EO hb];rfl)
   have e4:QC[i]?=some z:=by simpa using e
   rw[e4]at e1;cases e1;generalize ws[i]=wi at *;cases e3;rw[Fj,EO hb];exact e2
  refine call_all_walk (HE pl.isList ?_);have QF:a≠s.heap.objs.size:=by obtain⟨o,e,_⟩:=pl.isList;exact FJ (E_ e)
  refine⟨s.heap.objs.size,_,_,_,_,_,λi=>bs.getD i false,rfl,Walks.list (A:=X.A.in1) (I.ok.hd hc) s.heap.objs.size a QF QC.toArray,⟨⟨_,Fe _ rfl,rfl,rfl⟩,pl.isList.push _⟩,λi z s' Q' E' hP hQ=>?_,λh' tk hk=>?_⟩
  ·rw[RQ i z hP];exact Ii hQ
  ·have e:(F_ QC.toArray.size).all (λi=>bs.getD i false)=bs.all id:=by
    rw[Ff,QJ,HN,l4,HW];constructor
    ·intro h x hx;obtain⟨i,hi,rfl⟩:=GK hx;have:=h i hi
     rwa [Fj,EO hi]at this
    ·intro h j hj;rw[Fj,EO hj];exact h _ (F7 hj)
   rw[e];refine⟨.bl _,H,I.kept (t':=tk) λb o e=>hk b o ?_ (EV _ e),rfl,q _ H (.refl H) (.bl _)⟩
   intro z;have:b=s.heap.objs.size:=by simpa using z
   exact absurd (E_ e) (by rw[this];exact FM _)
variable {σ:St}{s:EU}
variable {cond:Expr}{fs:List (Option U)}
end
inductive B4:List (Option Expr)->List Expr->Prop where
 |nil:B4 [] []
 |cons {k v:Int}{a b:Nat}{p q:Pos}{ks:List (Option Expr)}{vs:List Expr} (h:B4 ks vs):B4 (some (.Constant (.int k) a p)::ks) (.Constant (.int v) b q::vs)
section
variable {X:Cx}{ps:PSt}{keys:List (Option Expr)}{values:List Expr}{k m:Bool}
end
theorem Ws.nox{X:Cx}{H0:Hp}{O0:List E6}{E:XK}{ss:List HL}{D:PD}{ps:PSt}(h:Ws X.nox H0 O0 E ss D ps):Ws X H0 O0 E ss D ps:=PSs.nox h
theorem ba.calm{P:E8}{w:FE}{K:ER}{mg:Str->Option EW}{base:GV}{k:Nat}{f:E6}{fd:Gn}{ps:List Str}{sp:Sp}(F:ba P w K mg base (CXF P w) k f fd ps sp)(h:∀vs H Q E,sp vs H Q E->sp vs H Q E0):ba P w K mg base CX0 k f fd ps sp:=by
 refine⟨F.len,λA outer s H args us vs Q E hr he hb hv hs=>JU (F.run A outer s H args us vs Q E0 hr he hb hv (h _ _ _ _ hs)) λr s' q=>?_⟩
 cases r with
 |ok fl=>
  cases fl with
  |ret u=>exact q
  |next=>exact q
  |brk=>exact q
  |cont=>exact q
 |error e=>
  obtain⟨_,_,_,_,_,_,_,_,_,_,_,_,_,_,_,hE⟩:=q;exact hE.elim
def iJ:List U->Out->Prop:=λus o=>∃ns:List Int,us=[.scr (ns.map U.int)]/\ns.length<=63/\(∀m∈ns,Sz 1048576 m)/\o=.val (.bl true)
theorem yW{K:ER}(vs:List V)(H:Hp)(Q:VK)(E:XK)(h:spU K iJ vs H Q E):spU K iJ vs H Q E0:=by
 obtain⟨us,O,o,d,r,⟨ns,h1,h2,h3,rfl⟩,q⟩:=h;exact⟨us,O,_,d,r,⟨ns,h1,h2,h3,rfl⟩,q⟩
theorem vU{K:ER}{H:Hp}{a:E6}{ns:List Int}{E:XK}(h1:ns.length<=63)(h2:∀m∈ns,Sz 1048576 m)(h3:SqL K H a (ns.map V.int)):spU K iJ [.ref a] H (λv _=>v=.bl true) E:=by
 refine⟨[.scr (ns.map U.int)],[],.val (.bl true),λa ha=>(nomatch ha),.cons ?_ .nil,⟨ns,rfl,h1,h2,rfl⟩,λv H' s r=>by cases r;rfl⟩
 have e:hid H []=H:=by funext b;unfold hid;rw[if_neg (by simp)]
 rw[e];refine .scr h3 (by simp) λi v x e1 e2=>?_
 rw[E7]at e1 e2;cases q:ns[i]? with
 |none=>rw[q]at e1;cases e1
 |some n=>rw[q]at e1 e2;cases e1;cases e2;exact .int n
theorem gu{k:Nat}{A:FC}(hr:cU k A):A.units+10<JQ:=by have:=hr.un;lia
theorem pE{ns:List Int}{k:Int}(h0:0<=k)(h:k<(ns.length:Int)):atI (ns.map U.int) k=some (.int (ns.getD k.toNat 0)):=by
 have hk:k.toNat<ns.length:=by lia
 have q:atI (ns.map U.int) ((k.toNat:Nat):Int)=some (.int (ns.getD k.toNat 0)):=ut (by rw[E7,Fj,EO hk] <;>rfl)
 rwa [show ((k.toNat:Nat):Int)=k by lia]at q
theorem ui{ns:List Int}(h:∀m∈ns,Sz 1048576 m)(i:Nat):Sz 1048576 (ns.getD i 0):=by
 by_cases hk:i<ns.length
 ·rw[Fj,EO hk,Ir];exact h _ (F7 hk)
 ·rw[Fj,FK (by lia),Mg];exact Sz.mono (m:=8) (by decide) (by decide)
abbrev pt(x y:Int):U:=.tup [.int x,.int y]
theorem dTb{p:Prop}[Decidable p](h:decide p=true):p:=of_decide_eq_true h
theorem dFb{p:Prop}[Decidable p](h:decide p=false):¬ p:=of_decide_eq_false h
theorem nTb{p:Prop}[Decidable p](h:(!decide p)=true):¬ p:=by simpa using h
theorem nFb{p:Prop}[Decidable p](h:(!decide p)=false):p:=by simpa using h
theorem vB{a b:Bool}(h:a=b):Out.val (.bl a)=Out.val (.bl b):=by rw[h]
theorem vIO{a b:Int}(h:a=b):Out.val (.int a)=Out.val (.int b):=by rw[h]
mutual
theorem ql:∀(n:Nat) (u:U),okU n u=true->eqW u u=true
 |_,.non,_=>rfl
 |_,.bl b,_=>by simp[eqW]
 |_,.int b,_=>by simp[eqW]
 |_,.str b,_=>by simp[eqW]
 |_,.ty _,h=>by simp[okU]at h
 |_,.dic,h=>by simp[okU]at h
 |0,.tup _,h=>by simp[okU]at h
 |0,.lst _,h=>by simp[okU]at h
 |0,.scr _,h=>by simp[okU]at h
 |n+1,.tup xs,h=>by rw[eqW];rw[okU]at h;exact eqWs_refl n xs h
 |n+1,.lst xs,h=>by rw[eqW];rw[okU]at h;exact eqWs_refl n xs h
 |n+1,.scr xs,h=>by rw[eqW];rw[okU]at h;exact eqWs_refl n xs h
theorem eqWs_refl:∀(n:Nat) (xs:List U),okUs n xs=true->eqWs xs xs=true
 |_,[],_=>rfl
 |n,x::xs,h=>by
  simp only[okUs,GE]at h;simp only[eqWs,GE];exact⟨ql n x h.1,eqWs_refl n xs h.2⟩
end
theorem yH{α:Type}{n:Nat}{f:α->U}{l:List α}(h:∀a∈l,okU n (f a)=true):okUs n (l.map f)=true:=by
 induction l with
 |nil=>rfl
 |cons a l ih=>
  rw[Ft,okUs,GE];exact⟨h a E3,ih λb hb=>h b (ET _ hb)⟩
theorem pM{α:Type}{n:Nat}{f:α->U}{l:List α}(h:∀a,okU n (f a)=true):okU (n+1) (.lst (l.map f))=true:=by rw[okU];exact yH λa _=>h a
theorem pR{α:Type}{f:α->U}{p:α->α->Prop}[DecidableEq α](hf:∀a b,eqW (f a) (f b)=decide (a=b)):∀(l m:List α),eqWs (l.map f) (m.map f)=decide (l=m)
 |[],[]=>rfl
 |[],_::_=>rfl
 |_::_,[]=>rfl
 |a::l,b::m=>by
  rw[Ft,Ft,eqWs,hf,pR (p:=p) hf l m,HN];simp
section
variable {X:Cx}{ps:PSt}{a b c:Expr}{rest:List Expr}{k:Bool}
theorem gs{tb fb:List HL}(hc:Tt X H0 O0 ps c k)(hk:k=true)(h:Ws X H0 O0 E tb D ps):W1 X H0 O0 E (.If c tb fb QB) D ps:=lv hc (λ_=>h) (λe=>by rw[hk]at e;cases e)
theorem cE{tb fb:List HL}(hc:Tt X H0 O0 ps c k)(hk:k=false)(h:Ws X H0 O0 E fb D ps):W1 X H0 O0 E (.If c tb fb QB) D ps:=lv hc (λe=>by rw[hk]at e;cases e) (λ_=>h)
theorem iW(ha:Tt X H0 O0 ps a k)(hk:k=false):Tw X H0 O0 ps (.BoolOp .And (a::b::rest) QB) false:=by
 subst hk;exact tL (m:=true) ha λh=>by cases h
end
section
variable {X:Cx}{ps:PSt}{c:Expr}{α:Type}
theorem TgS.sub{p p':PSt}{u:U}{Q4:PSt}(h:TgS X H0 O0 tg p u Q4)(hs:SubP p p'):TgS X H0 O0 tg p' u Q4:=PG.mono h λv σ H Q ⟨O,R,r,q⟩=>⟨O,R.sub hs,r,q⟩
theorem Tt.sub{p p':PSt}{e:Expr}{k:Bool}(h:Tt X H0 O0 p e k)(hs:SubP p p'):Tt X H0 O0 p' e k:=PT.mono h λσ H Q ⟨O,R,q⟩=>⟨O,R.sub hs,q⟩
theorem gl(st:α->PSt)(Q:Nat->α->Prop)(hc:X.calm=true)(hp:Mz (FF X.prog X.w) X.A X.env X.xe)(hi:EvI X H0 O0 ps tg iter xs)(h0:∃a,Q 0 a/\SubP (st a) ps)
  (hs:∀(H0:Hp) (i:Nat) (x:U) (a:α),xs[i]?=some x->Q i a->∃Q4,TgS X H0 O0 tg (st a) x Q4/\Ws X H0 O0 E QM {D with nx:=λp=>∃b,Q (i+1) b/\SubP (st b) p,ct:=λp=>∃b,Q (i+1) b/\SubP (st b) p,bk:=D.nx } Q4)
  (hd:∀a ps,Q xs.length a->SubP (st a) ps->D.nx ps) (hf:∀x,IL iter X.env x=pure x:=by intro _;rfl):W1 X H0 O0 E (.For tg iter QM [] QB) D ps:=
 Dj hc hp hi (λi ps=>∃a,Q i a/\SubP (st a) ps) h0 (λH0 i x ps hx ⟨a,q,sb⟩=>by
  obtain⟨Q4,t,w⟩:=hs H0 i x a hx q;exact⟨Q4,t.sub sb,w⟩) (λps ⟨a,q,sb⟩=>hd a ps q sb) hf
theorem iK(st:α->PSt)(Q:Nat->α->Prop)(hp:Mz (FF X.prog X.w) X.A X.env X.xe)(h0:∃m a,Q m a/\SubP (st a) ps)
  (hs:∀m a,Q m a->∃b,Tt X H0 O0 (st a) c b/\(b=true->Ws X H0 O0 E QM {D with nx:=λp=>∃m' a',m'<m/\Q m' a'/\SubP (st a') p,ct:=λp=>∃m' a',m'<m/\Q m' a'/\SubP (st a') p,bk:=D.nx } (st a))/\(b=false->∀ps,SubP (st a) ps->D.nx ps)):W1 X H0 O0 E (.While c QM [] QB) D ps:=by
 obtain⟨m,a,q,sb⟩:=h0;refine zu hp (λm ps=>∃a,Q m a/\SubP (st a) ps) m ⟨a,q,sb⟩ λm ps ⟨a,q,sb⟩=>?_
 obtain⟨b,t,h1,h2⟩:=hs m a q;refine⟨b,t.sub sb,λe=>?_,λe=>h2 e ps sb⟩
 refine dk (PSs.mono (h1 e) λD' σ H ⟨L,O,R⟩=>⟨⟨λp σ H O R ⟨m',a',l,q',sb'⟩=>L.nx p σ H O R ⟨m',l,a',q',sb'⟩,L.bk,λp σ H O R ⟨m',a',l,q',sb'⟩=>L.ct p σ H O R ⟨m',l,a',q',sb'⟩,L.rt⟩,O,R⟩) sb
end
abbrev P2:=Int×Int
abbrev pu(p:P2):U:=.tup [.int p.1,.int p.2]
abbrev lp(l:List P2):U:=.lst (l.map pu)
theorem Ci(p q:P2):eqW (pu p) (pu q)=decide (p=q):=by
 obtain⟨a,b⟩:=p;obtain⟨c,d⟩:=q;simp only[pu,eqW,eqWs,P4];rw[HN];simp
theorem qN(l m:List P2):eqW (lp l) (lp m)=decide (l=m):=by rw[lp,lp,eqW];exact pR (p:=λ_ _=>True) Ci l m
theorem mf(l:List P2):okU 9 (lp l)=true:=pM λ_=>rfl
theorem wd{l:List P2}{i:Nat}{x:U}(h:(l.map pu)[i]?=some x):∃p,l[i]?=some p/\p∈l/\x=pu p:=by
 rw[E7]at h;cases q:l[i]? with
 |none=>rw[q]at h;cases h
 |some p=>rw[q]at h;cases h;exact⟨p,rfl,Fs q,rfl⟩
theorem fH{α:Type}{l:List α}{f:α->U}{g:α->U}{i:Nat}{x y:U}(hx:(l.map f)[i]?=some x)(hy:(l.map g)[i]?=some y):∃a,l[i]?=some a/\a∈l/\x=f a/\y=g a:=by
 rw[E7]at hx hy;cases q:l[i]? with
 |none=>rw[q]at hx;cases hx
 |some p=>rw[q]at hx hy;cases hx;cases hy;exact⟨p,rfl,Fs q,rfl,rfl⟩
theorem W1.mono{X:Cx}{H0:Hp}{O0:List E6}{E:XK}{s:HL}{D:PD}{J:PSt->Prop}{ps:PSt}(h:W1 X H0 O0 E s {D with nx:=J } ps)(m:∀ps,J ps->D.nx ps):W1 X H0 O0 E s D ps:=
 PS.mono h λD' σ H ⟨L,O,R⟩=>⟨⟨λp σ H O R q=>L.nx p σ H O R (m p q),L.bk,L.ct,L.rt⟩,O,R⟩
theorem fX{X:Cx}{H0:Hp}{O0:List E6}{E:XK}{s:HL}{ss:List HL}{D:PD}{ps:PSt}(J:PSt->Prop)(h1:W1 X H0 O0 E s {D with nx:=J } ps)(h2:∀ps,J ps->Ws X H0 O0 E ss D ps):Ws X H0 O0 E (s::ss) D ps:=
 af (W1.mono (J:=J) (D:={D with nx:=λp=>Ws X H0 O0 E ss D p }) h1 h2)
end L2
namespace PySem.W
open PySem PySem.Spec PySem.Calls PyProof.Rows
theorem rR{M:N_}{A:FC}{E:EW→EU→Prop}{K:Frag}{s:EU}{x C B:E6}{Q:Bool→EU→Prop}(X:K.In s.heap)(I:OfCls x C s.heap)(hT:typeIn K (.ref B)=some (.type "type"))(hc:(clsIn K B).isSome=true)
  (hB:mroIn K B (.type "BaseException")=some true) (hC:mroIn K C (.ref B)=some true) (h:Q true s):Fy M A (excMatches (.ref x) (.ref B)) Q E s:=by
 have L1:Looks M s.heap (Qs (.ref x)) (.ref C):=I.type;have L2:Looks M s.heap (Qs (.ref B)) (.type "type"):=looks_typeIn X hT;have L3:Looks M s.heap (M6 (.ref B) (.type "tuple")) false:=L2.andThen (Looks.of_pure tc_notTuple);have L4:Looks M s.heap (isSubtype (.ref B) (.type "BaseException")) true:=looks_mroIn X hB;have L5:Looks M s.heap (isSubtype (.ref C) (.ref B)) true:=looks_mroIn X hC
 have L6:Looks M s.heap (isType (.ref B)) true:=by
  obtain⟨cdD,SR⟩:=Hm.mp hc;unfold clsIn at SR;split at SR
  ·rename_i c' d' cd' sl' ho
   intro A' Q' E' s' k q;unfold isType loadHead;exact EN (O6 (k _ _ (X _ _ ho)) (EY q))
  ·cases SR
 obtain⟨hh,g,dr,t,os⟩:=s;unfold excMatches isExcClass
 repeat (first |lk |wp_step)
 exact h
end PySem.W
namespace L2
open PySem PySem.Spec PySem.W PyProof.Rows
section
variable {X:Cx}{pins:List (E6×Obj)}{σ:St}{H:Hp}{s:EU}
theorem jB{M:N_}{A:FC}{E:EW->EU->Prop}{i:Nat}{x:Str}{QB:Pos}{Q:Unit->EU->Prop}(I:Inv X pins σ H s)(hN:X.N.Nodup)(hi:X.N[i]?=some x)(hk:X.env.kindOf x=some .local)
  (h:∀s',Inv X pins (σ.set i none) H s'->Q () s'):Fy M A (do Ol X.env x .none;unbindBehindTheSuite X.env x QB) Q E s:=by
 obtain⟨m,hn,hl⟩:=id I.loc;have hcls:(X.env.scope.kind==.class || (X.env.scope.kind==.module && X.env.locals !=X.env.globals))=false:=by rw[I.ok.kind];rfl
 have Tq:i<σ.length:=by rw[I.len];exact (Fb.mp hi).1
 have cne:=I.cne;refine wpAny_nameGoes_keeps hk hn hcls λh' v Tr hs=>?_
 have Rw:HOk X.prog X.w H h':=λb ob e=>by
  refine (I.hok b ob e).stay (λc w' hc q=>(hs.2 c ?_).trans q) (λ_ q=>q) λ_ _ q=>q
  rintro rfl;rcases hc with z |hc
  ·rw[<-z,I.free]at e;cases e
  ·rw[I.free]at hc;cases hc
 refine h _ ⟨I.ok,I.os,I.bare,⟨λb o e n hb hx=>?_,λb o e n hb hx=>?_,I.base.free,λb o e hx=>?_,I.base.tups,I.base.frzs,I.base.tbls⟩,⟨_,Tr,λj y v' e1 e2 e3=>?_⟩,λy c e=>?_,I.free,I.freeC,λp hp=>?_,Rw,by simpa using I.len⟩
 ·exact (hs.2 b (FJ (Fz (E_ e) I.ok.above))).trans (I.base.keep b o e n hb hx)
 ·obtain⟨sl,e1⟩:=I.base.slot b o e n hb hx;exact⟨sl,(hs.2 b (FJ (Fz (E_ e) I.ok.above))).trans e1⟩
 ·obtain⟨o',e1⟩:=I.base.there b o e hx;exact⟨o',(hs.2 b (FJ (Fz (E_ e) I.ok.above))).trans e1⟩
 ·by_cases hj:j=i
  ·subst hj;rw[Kh Tq]at e2;cases e2
  ·rw[FI (Ne.symm hj)]at e2;obtain⟨u',r',q⟩:=hl j y v' e1 e2 e3;refine⟨u',r',?_⟩;rcases q with ⟨k,e⟩ |⟨k,c,e,z⟩
   ·refine .inl ⟨k,?_⟩;have:y≠x:=λe=>hj (kI hN e1 (e ▸ hi))
    simp[this,e]
   ·exact .inr ⟨k,c,e,z.sameBut hs (cne y c e)⟩
 ·obtain⟨w',z⟩:=I.cell y c e;exact⟨w',z.sameBut hs (cne y c e)⟩
 ·obtain⟨e,n,ne,nf,d⟩:=I.pin p hp;exact⟨(hs.2 p.1 ne).trans e,n,ne,nf,d⟩
theorem ym{fs:List E6}{H0 H':Hp}{h0 h1:GV}{ea:E6}{o:HO}(u:Un fs [] H0 H' h0 h1)(n0:h0.get? ea=none)(n1:H' ea=none):Un fs [] H0 (upd H' ea o) h0 h1 where
 keep:=u.keep
 slot:=u.slot
 free:=λb ob e n hx=>by
  rw[aY λz=>by subst z;rw[n0]at e;cases e];exact u.free b ob e n hx
 there:=u.there
 tups:=λb xs e=>by have q:=u.tups b xs e;rw[aY (bK q n1)];exact q
 frzs:=λb ob xs e=>by have q:=u.frzs b ob xs e;rw[aY (bK q n1)];exact q
 tbls:=λb ps e=>by obtain⟨m,q⟩:=u.tbls b ps e;exact⟨m,by rw[aY (bK q n1)];exact q⟩
theorem vI{P:E8}{w:FE}{H':Hp}{h:GV}{ea C:E6}(ok:HOk P w H' h)(n1:H' ea=none)(I:OfCls ea C h):HOk P w (upd H' ea (.ext (OfCls ea C))) h:=λa o e=>by
 by_cases z:a=ea
 ·subst z;rw[aV]at e;cases e;obtain⟨ob,e1,e2⟩:=id I;exact⟨I,⟨ob,e1⟩,λh1 h2 ⟨o1,q1,q2⟩ q3=>⟨o1,q3 _ q1,q2⟩⟩
 ·rw[aY z]at e;refine (ok a o e).stay (λ_ _ _ q=>q) (λ_ q=>?_) λ_ _ q=>?_
  all_goals (first | (rw[aY (bK q n1)];exact q) |trace_state)
def j3.drop(D:j3)(i:Nat):j3:=⟨λσ H=>D.nx (σ.set i none) H,D.rt,λσ H=>D.bk (σ.set i none) H,λσ H=>D.ct (σ.set i none) H⟩
variable {H0:Hp}{O0:List E6}{E:XK}{ps:PSt}{D:PD}{a e:Expr}{es:List Expr}{us:List U}{k:Bool}{n:Nat}{fd:Gn}{pn:List Str}{QQ:List U→Out→Prop}
theorem yf:de X (.builtin "isinstance") (λxs H Q=>∃a C D k,xs=[.ref a,.ref D]∧H a=some (.ext (OfCls a C))∧XcOk X.K C∧kitOne X.K (.ref C) (.ref D)=some k∧Q (.bl k) H):=by
 intro pins s σ H xs us Q I r h;obtain⟨a,C,D,k,rfl,ha,hk,e,q⟩:=h;obtain⟨u,w',rfl,r1,r2⟩:=jm r;cases r1;cases r2;exact Gx hk.kit I.kIn (I.hok _ _ ha).1 e (λz=>nomatch z) λtk=>⟨.bl k,H,I.tok _,rfl,q⟩
theorem b6{C D':E6}{nm:Str}{p p2 QB:Pos}(h:kitOne X.K (.ref C) (.ref D')=some k)(hg:Gl X "isinstance")(hm:X.mg "isinstance"=none)(hv:GQ "isinstance"=some (.builtin "isinstance"))(ha:Ev X H0 O0 ps a (.ty (.xc C)))(hgD:Gl X nm)(hmD:X.mg nm=some (.ref D'))
  (hd:(nm==("__debug__":Str))=false:=by decide)
  (he:E4 [a,.Name nm p2] X.env=(false,IJ a X.env)::E4 [.Name nm p2] X.env:=by rfl) (he2:E4 [.Name nm p2] X.env=(false,IJ (.Name nm p2) X.env)::E4 [] X.env:=by rfl) (QZ:(HV QB (E4 [.Name nm p2] X.env)).any (·.1)=false:=by rfl):
  Ev X H0 O0 ps (.Call (.Name "isinstance" p) [a,.Name nm p2] [] QB) (.bl k):=
 PE.mono (iP yf hg hm hv (bV ha (bV (jA (v:=.ref D') hgD hmD rfl hd) dU he2) he) (by decide) (by decide) he QZ) λσ H Q ⟨O,R,q⟩=>⟨O,R,λv H1 s1 r1=>by
  cases r1 with
  |xc h1 h2=>exact⟨_,_,_,k,rfl,ax _ _ h1,h2,h,q _ H1 s1 (.bl k)⟩⟩
theorem gE{C:E6}{n:String}(h:FU X.K (.ref C) (.type n)=some k):eZ X (.builtin "isinstance") [.ty (.xc C),.ty (.nm n)] (.bl k):=by
 intro pins s σ H vs us Q I r hq;obtain⟨O,d,rs,q⟩:=hq;obtain⟨v,w,rfl,h1,h2⟩:=jC rs;cases h2;obtain⟨p1,p2,rfl,r1,r2⟩:=jm r;cases (show p2=GI n from r2)
 have fin:∀tk,EP X pins σ Q (.bool k) {s with toks:=tk }:=λtk=>⟨.bl k,H,I.tok _,rfl,q _ H (.refl H) (.bl _)⟩
 cases h1 with
 |xc e kk=>
  cases r1;exact Gx kk.kit I.kIn (I.hok _ _ (ax _ _ e)).1 h (λz=>nomatch z) fin
def PD.drop(D:PD)(i:Nat):PD:=⟨λp=>D.nx (p.set i none),D.rt,λp=>D.bk (p.set i none),λp=>D.ct (p.set i none)⟩
theorem Lf.drop{K:Frag}{D':j3}(L:Lf K H0 O0 E D D')(i:Nat):Lf K H0 O0 E (D.drop i) (D'.drop i):=
 ⟨λps σ H O R h=>L.nx _ _ H O R.drop h,λps σ H O R h=>L.bk _ _ H O R.drop h,λps σ H O R h=>L.ct _ _ H O R.drop h,L.rt⟩
variable {QB:Pos}
end
end L2
namespace L2
open PySem
theorem aC{c:Const}{j:Nat}{QB:Pos}{es:List Expr}{env:Env}:E4 (.Constant c j QB::es) env=(false,IJ (.Constant c j QB) env)::E4 es env:=by rw[E4];intro e p h;cases h
theorem cF{l:List Expr}{j:Nat}{QB:Pos}{es:List Expr}{env:Env}:E4 (.Tuple l j QB::es) env=(false,IJ (.Tuple l j QB) env)::E4 es env:=by rw[E4];intro e p h;cases h
theorem BG{l:List Expr}{QB:Pos}{es:List Expr}{env:Env}:E4 (.List l QB::es) env=(false,IJ (.List l QB) env)::E4 es env:=by rw[E4];intro e p h;cases h
theorem g6{o:UnaryOp}{a:Expr}{QB:Pos}{es:List Expr}{env:Env}:E4 (.UnaryOp o a QB::es) env=(false,IJ (.UnaryOp o a QB) env)::E4 es env:=by rw[E4];intro e p h;cases h
theorem bN{a b:Expr}{o:PX}{QB:Pos}{es:List Expr}{env:Env}:E4 (.BinOp a o b QB::es) env=(false,IJ (.BinOp a o b QB) env)::E4 es env:=by rw[E4];intro e p h;cases h
theorem aj{x:Str}{QB:Pos}{es:List Expr}{env:Env}:E4 (.Name x QB::es) env=(false,IJ (.Name x QB) env)::E4 es env:=by rw[E4];intro e p h;cases h
theorem bM{a b:Expr}{QB:Pos}{es:List Expr}{env:Env}:E4 (.Subscript a b QB::es) env=(false,IJ (.Subscript a b QB) env)::E4 es env:=by rw[E4];intro e p h;cases h
theorem aB{f:Expr}{a:List Expr}{k:List K_}{QB:Pos}{es:List Expr}{env:Env}:E4 (.Call f a k QB::es) env=(false,IJ (.Call f a k QB) env)::E4 es env:=by rw[E4];intro e p h;cases h
theorem xj{a:Expr}{o:List Qm}{c:List Expr}{QB:Pos}{es:List Expr}{env:Env}:E4 (.Compare a o c QB::es) env=(false,IJ (.Compare a o c QB) env)::E4 es env:=by rw[E4];intro e p h;cases h
theorem eE{e:Expr}{g:List Comprehension}{sc:Lk}{QB:Pos}{es:List Expr}{env:Env}:E4 (.ListComp e g sc QB::es) env=(false,IJ (.ListComp e g sc QB) env)::E4 es env:=by rw[E4];intro e p h;cases h
structure EvS(X:Cx)(H0:Hp)(O0:List E6)(ps:PSt)(es:List Expr)(us:List U):Prop where
 a:EvA X H0 O0 ps es us
section
variable {X:Cx}{H0:Hp}{O0:List E6}{ps:PSt}{e:Expr}{es:List Expr}{u:U}{us:List U}{QB:Pos}
theorem aF:EvS X H0 O0 ps [] []:=⟨au⟩
theorem ak(ha:Ev X H0 O0 ps e u)(hr:EvS X H0 O0 ps es us)(hs:E4 (e::es) X.env=(false,IJ e X.env)::E4 es X.env):EvS X H0 O0 ps (e::es) (u::us):=⟨ai ha hr.a hs⟩
theorem bq{x1}(h:EvS X H0 O0 ps es us)(hz:us.length<=sizeLine:=by first |decide | (simp only[FN,J6];decide)):Ev X H0 O0 ps (.Tuple es x1 QB) (.tup us):=DE h.a hz
theorem bg(h:EvS X H0 O0 ps es us)(hz:us.length<=sizeLine:=by first |decide | (simp only[FN,J6];decide)):EvN X H0 O0 ps (.List es QB) us:=Dx h.a hz
end
end L2
namespace ST
open PySem PySem.SetTable
def Ris(xs:Array Nat):Prop:=∀(i j x y:Nat),i<j->xs[i]?=some x->xs[j]?=some y->x<y
theorem Ris.inj{xs:Array Nat}(h:Ris xs){i j x:Nat}(h1:xs[i]?=some x)(h2:xs[j]?=some x):i=j:=by
 rcases Jv i j with z |z |z
 ·exact absurd (h i j x x z h1 h2) (FM _)
 ·exact z
 ·exact absurd (h j i x x z h2 h1) (FM _)
theorem eA{xs:Array Nat}{i:Nat}(h:i<xs.size):xs[i]?=some xs[i]:=by simp[h]
theorem t4{xs:Array Nat}{i x:Nat}(h:xs[i]?=some x):i<xs.size:=(Iq.mp h).1
theorem nP{xs:Array Nat}(R:Ris xs)(j:Nat):∀(QN lo hi:Nat),lo<=hi->hi<=xs.size->hi-lo<=QN->(∀(i x:Nat),i<lo->xs[i]?=some x->x<j)->(∀(i x:Nat),hi<=i->xs[i]?=some x->j<=x)->
  (∀(i x:Nat),i<below.go xs j QN lo hi->xs[i]?=some x->x<j)/\(∀(i x:Nat),below.go xs j QN lo hi<=i->xs[i]?=some x->j<=x)/\below.go xs j QN lo hi<=xs.size
 |0,lo,hi,h1,h2,h3,h4,h5=>by
  have e:lo=hi:=by lia
  subst e;rw[below.go];exact⟨h4,h5,h2⟩
 |QN+1,lo,hi,h1,h2,h3,h4,h5=>by
  rw[below.go];by_cases QL:lo<hi
  ·rw[if_pos QL];have hm:(lo+hi)/2<xs.size:=by lia
   have e:xs.getD ((lo+hi)/2) j=xs[(lo+hi)/2]:=by simp[Jw,hm]
   simp only[e];split
   ·rename_i hl
    refine nP R j QN _ hi (by lia) h2 (by lia) (λi x QO hx=>?_) h5
    rcases FB (show i<=(lo+hi)/2 by lia) with z |z
    ·exact MD (R i _ x _ z hx (eA hm)) hl
    ·subst z;rw[eA hm]at hx;cases hx;exact hl
   ·rename_i hl
    refine nP R j QN lo _ (by lia) (by lia) (by lia) h4 (λi x QO hx=>?_)
    rcases FB QO with z |z
    ·exact GY (KN hl) (Gw (R _ i _ x z (eA hm) hx))
    ·subst z;rw[eA hm]at hx;cases hx;exact KN hl
  ·rw[if_neg QL];have e:lo=hi:=by lia
   subst e;exact⟨h4,h5,h2⟩
theorem fC{xs:Array Nat}(R:Ris xs)(j:Nat):(∀(i x:Nat),i<below xs j->xs[i]?=some x->x<j)/\(∀(i x:Nat),below xs j<=i->xs[i]?=some x->j<=x)/\below xs j<=xs.size:=
 nP R j xs.size 0 xs.size (Gz _) (E2 _) (by lia) (λi x h=>absurd h (Oy _)) (λi x h e=>absurd (t4 e) (by lia))
theorem wI{xs:Array Nat}(R:Ris xs){i j:Nat}(h:xs[i]?=some j):below xs j=i:=by
 obtain⟨h1,h2,h3⟩:=fC R j;rcases Jv (below xs j) i with z |z |z
 ·have hk:below xs j<xs.size:=MD z (t4 h);have:=h2 _ _ (E2 _) (eA hk);have:=R _ _ _ _ z (eA hk) h;lia
 ·exact z
 ·have:=h1 i j z h;lia
theorem mr{t:SetTable}(R:Ris t.place){i j:Nat}(h:t.place[i]?=some j):t.slot j=.live i:=by
 unfold SetTable.slot;simp only[wI R h,h,beq_self_eq_true,if_true]
theorem vY{t:SetTable}(hd:t.dummies=#[]){j:Nat}(h:∀i:Nat,t.place[i]?≠some j):t.slot j=.empty:=by
 unfold SetTable.slot;have e:(t.place[below t.place j]?==some j)=false:=by simpa using h _
 simp only[e,hd];simp[SetTable.has]
theorem rD{t:SetTable}(R:Ris t.place)(hd:t.dummies=#[])(j:Nat):(t.slot j=.empty/\∀i:Nat,t.place[i]?≠some j)\/∃i:Nat,t.slot j=.live i/\t.place[i]?=some j:=by
 by_cases h:∃i:Nat,t.place[i]?=some j
 ·obtain⟨i,hi⟩:=h;exact .inr ⟨i,mr R hi,hi⟩
 ·exact .inl ⟨vY hd λi e=>h ⟨i,e⟩,λi e=>h ⟨i,e⟩⟩
theorem vW{xs:Array Nat}(R:Ris xs){mask:Nat}(hn:xs.size<=mask):∃s,s<=mask/\∀i:Nat,xs[i]?≠some s:=by
 apply F2;intro Rq
 have all:∀s,s<=mask->∃i:Nat,xs[i]?=some s:=λs hs=>by
  apply F2;intro h;exact Rq ⟨s,hs,λi e=>h ⟨i,e⟩⟩
 have key:∀s,s<=mask->∃i:Nat,xs[i]?=some s/\s<=i:=by
  intro s
  induction s with
  |zero=>intro h;obtain⟨i,hi⟩:=all 0 h;exact⟨i,hi,Gz _⟩
  |succ s ih=>
   intro h;obtain⟨i,hi,Tv⟩:=ih (by lia)
   obtain⟨k,hk⟩:=all (s+1) h;refine⟨k,hk,?_⟩;rcases Jv i k with z |z |z
   ·lia
   ·subst z;rw[hi]at hk;cases hk
   ·have:=R k i _ _ z hk hi;lia
 obtain⟨i,hi,Tv⟩:=key mask (E2 _);have:=t4 hi;lia
def adv(mask:Nat)(p:Probe):Probe:=
 if p.more >0 then {p with j:=p.j+1,more:=p.more-1 } else
 {p with j:=(leap mask p.i p.perturb).1,more:=runEnd mask (leap mask p.i p.perturb).1-(leap mask p.i p.perturb).1,i:=(leap mask p.i p.perturb).1,perturb:=(leap mask p.i p.perturb).2 }
theorem k_(t:SetTable)(p:Probe):t.advance p=adv t.mask p:=by
 unfold SetTable.advance adv;split
 ·rfl
 ·rfl
def start(mask:Nat)(h:Int):Probe:={j:=bits h%(mask+1),more:=runEnd mask (bits h%(mask+1))-bits h%(mask+1),i:=bits h%(mask+1),perturb:=bits h,dummy:=none }
def pth(mask:Nat)(h:Int):Nat->Probe
 |0=>start mask h
 |n+1=>adv mask (pth mask h n)
def aU(mask:Nat)(h:Int):Nat->Nat×Nat
 |0=>(bits h%(mask+1),bits h)
 |r+1=>leap mask (aU mask h r).1 (aU mask h r).2
theorem jF{mask:Nat}:∀(m:Nat) (p:Probe) (f:Nat->Probe),f 0=p->(∀n,f (n+1)=adv mask (f n))->m<=p.more->f m={p with j:=p.j+m,more:=p.more-m }
 |0,p,f,h0,_,_=>by rw[h0];rfl
 |m+1,p,f,h0,hs,hm=>by
  rw[hs m,jF m p f h0 hs (by lia)]
  unfold adv;rw[if_pos (by show p.more-m >0;lia)]
  simp only[Probe.mk.injEq];exact⟨by lia,by lia,trivial,trivial,trivial⟩
theorem kj(mask:Nat)(h:Int):∀n,(pth mask h n).dummy=none
 |0=>rfl
 |n+1=>by
  rw[pth];unfold adv;split
  ·exact kj mask h n
  ·exact kj mask h n
theorem uS(mask i:Nat):runEnd mask i-i<=9:=by unfold runEnd;split <;>lia
theorem uh(mask:Nat)(h:Int):∀r,∃n,n<=10*r/\pth mask h n={j:=(aU mask h r).1,more:=runEnd mask (aU mask h r).1-(aU mask h r).1,i:=(aU mask h r).1,perturb:=(aU mask h r).2,dummy:=none }
 |0=>⟨0,E2 _,rfl⟩
 |r+1=>by
  obtain⟨n,hn,e⟩:=uh mask h r;have hL:=uS mask (aU mask h r).1;have step:=jF (mask:=mask) (runEnd mask (aU mask h r).1-(aU mask h r).1) (pth mask h n) (λm=>pth mask h (n+m)) rfl (λm=>rfl) (by rw[e];exact E2 _)
  refine⟨n+(runEnd mask (aU mask h r).1-(aU mask h r).1)+1,by lia,?_⟩
  rw[pth];have RR:pth mask h (n+(runEnd mask (aU mask h r).1-(aU mask h r).1))=_:=step;rw[RR,e];unfold adv;rw[if_neg (by simp)]
  rfl
theorem zI(h:Int):bits h<2 ^ 64:=by
 unfold bits;have h1:=Gs h (show (2 ^ 64:Int)≠0 by decide)
 have h2:=Gb h (show (0:Int)<2 ^ 64 by decide)
 lia
theorem mJ(mask:Nat)(h:Int):∀r,(aU mask h r).2=bits h/32 ^ r
 |0=>by simp[aU]
 |r+1=>by
  rw[aU];show (aU mask h r).2/32=_;rw[mJ mask h r,Mr,Ie]
theorem vP(mask:Nat)(h:Int)(r:Nat)(hr:12<=r):(aU mask h r).2/32=0:=by
 rw[mJ];have h1:=zI h;rw[Mr];apply Nat.div_eq_of_lt;have:32 ^ 12*32<=32 ^ r*32:=M9 _ (JC (by decide) hr)
 exact Fz (Fz h1 (by decide)) this
def cK:Nat->Nat
 |0=>1
 |k+1=>cK k*(4*cK k+2)
theorem wX:∀k,∃m,cK k=2 ^ k*(2*m+1)
 |0=>⟨0,by simp[cK]⟩
 |k+1=>by
  obtain⟨m,e⟩:=wX k;refine⟨2*(cK k) *m+m+cK k,?_⟩;rw[cK,Ie];have:cK k*(4*cK k+2)=2 ^ k*(2*m+1) *(4*cK k+2):=by rw[<-e]
  rw[this];generalize cK k=c;generalize 2 ^ k=p;grind
def gH:Nat->Nat->Nat
 |0,x=>x
 |n+1,x=>5*gH n x+1
theorem kw(m x:Nat):∀n,gH (m+n) x=gH n (gH m x)
 |0=>rfl
 |n+1=>by rw[<-P5,gH,kw m x n,gH]
theorem k8:∀(k x:Nat),gH (2 ^ k) x=(1+4*cK k) *x+cK k
 |0,x=>by simp[gH,cK]
 |k+1,x=>by
  rw[Ie,Nat.mul_two,kw,k8 k,k8 k,cK];generalize cK k=c;grind
theorem qH(k x:Nat):gH (2 ^ k) x%2 ^ (k+1)=(x+2 ^ k)%2 ^ (k+1):=by
 rw[k8];obtain⟨m,e⟩:=wX k;rw[e]
 have:(1+4*(2 ^ k*(2*m+1))) *x+2 ^ k*(2*m+1)=(x+2 ^ k)+2 ^ (k+1) *(2*(2*m+1) *x+m):=by
  rw[Ie];generalize 2 ^ k=p;grind
 rw[this,Nat.add_mul_mod_self_left]
theorem gY(x:Nat):∀(k y:Nat),∃n,n<2 ^ k/\gH n x%2 ^ k=y%2 ^ k
 |0,y=>⟨0,by simp,by simp[Nat.mod_one]⟩
 |k+1,y=>by
  obtain⟨n,hn,e⟩:=gY x k y;have hp:2 ^ (k+1)=2 ^ k+2 ^ k:=by rw[Ie];lia
  have h2:0<2 ^ k:=Nat.pow_pos (by decide)
  by_cases h:gH n x%2 ^ (k+1)=y%2 ^ (k+1)
  ·exact⟨n,by lia,h⟩
  ·refine⟨n+2 ^ k,by lia,?_⟩
   rw[kw,qH];generalize gH n x=z at *;have d1:z%2 ^ (k+1)%2 ^ k=z%2 ^ k:=Nz _ ⟨2,by rw[Ie]⟩
   have d2:y%2 ^ (k+1)%2 ^ k=y%2 ^ k:=Nz _ ⟨2,by rw[Ie]⟩
   have l1:=IM z (show 0<2 ^ (k+1) by lia)
   have l2:=IM y (show 0<2 ^ (k+1) by lia)
   rw[<-ME];rw[<-d1,<-d2]at e;generalize z%2 ^ (k+1)=a at *;generalize y%2 ^ (k+1)=b at *;rw[hp]at *;generalize 2 ^ k=p at *
   have ea:a%p=if a<p then a else a-p:=by
    split
    ·exact F8 (by assumption)
    ·rw[Ly (by lia),F8 (by lia)]
   have eb:b%p=if b<p then b else b-p:=by
    split
    ·exact F8 (by assumption)
    ·rw[Ly (by lia),F8 (by lia)]
   rw[ea,eb]at e;by_cases ha:a<p
   ·rw[if_pos ha]at e;rw[F8 (by lia)]
    split at e <;>lia
   ·rw[if_neg ha]at e;rw[Ly (by lia),F8 (by lia)]
    split at e <;>lia
theorem kW{mask k:Nat}(hk:mask+1=2 ^ k)(h:Int):∀q,(aU mask h (12+q)).1=gH q (aU mask h 12).1%2 ^ k
 |0=>by
  rw[gH]
  have:(aU mask h 12).1<2 ^ k:=by
   rw[<-hk];show (leap mask (aU mask h 11).1 (aU mask h 11).2).1<_;exact IM _ (by lia)
  exact (F8 this).symm
 |q+1=>by
  show (leap mask (aU mask h (12+q)).1 (aU mask h (12+q)).2).1=_;unfold leap;simp only[vP mask h (12+q) (by lia)]
  rw[kW hk h q,hk,gH,Ji,Qb 5 _];generalize gH q (aU mask h 12).1=z;generalize 2 ^ k=m;rw[Qq,Nat.mod_mul_mod,<-Qq]
theorem cover{mask k:Nat}(hk:mask+1=2 ^ k)(h:Int)(s:Nat)(hs:s<=mask):∃n,n<10*turns mask/\(pth mask h n).j=s:=by
 obtain⟨q,hq,e⟩:=gY (aU mask h 12).1 k s;obtain⟨n,hn,en⟩:=uh mask h (12+q);refine⟨n,?_,?_⟩
 ·unfold turns;lia
 ·rw[en];show (aU mask h (12+q)).1=s;rw[kW hk h q,e];exact F8 (by lia)
def Liv(t:SetTable)(j:Nat):Prop:=∃i:Nat,t.place[i]?=some j
structure TOk(t:SetTable)(hs:List Int):Prop where
 R:Ris t.place
 d:t.dummies=#[]
 k:∃k,3<=k/\t.mask+1=2 ^ k
 n:t.place.size=hs.length
 f:t.place.size<=t.mask
 le:∀(i x:Nat),t.place[i]?=some x->x<=t.mask
 reach:∀(i j:Nat) (h:Int),t.place[i]?=some j->hs[i]?=some h->∃m,(pth t.mask h m).j=j/\∀m',m'<m->Liv t (pth t.mask h m').j
theorem least{P:Nat->Prop}:∀n,P n->∃m,m<=n/\P m/\∀k,k<m->¬ P k:=by
 intro n
 induction n using Oz with
 |_ n ih=>
  intro h;by_cases hk:∃k,k<n/\P k
  ·obtain⟨k,hk,hp⟩:=hk;obtain⟨m,h1,h2,h3⟩:=ih k hk hp;exact⟨m,by lia,h2,h3⟩
  ·exact⟨n,E2 _,h,λk T4 hp=>hk ⟨k,T4,hp⟩⟩
theorem rK{t:SetTable}{hs:List Int}(T:TOk t hs)(h:Int):∃N,N<10*turns t.mask/\¬ Liv t (pth t.mask h N).j/\∀m,m<N->Liv t (pth t.mask h m).j:=by
 obtain⟨s,hs1,hs2⟩:=vW T.R T.f;obtain⟨k,_,hk⟩:=T.k;obtain⟨n,hn,e⟩:=cover hk h s hs1;obtain⟨m,h1,h2,h3⟩:=least (P:=λn=>¬ Liv t (pth t.mask h n).j) n (by show ¬ Liv t (pth t.mask h n).j;rw[e];rintro ⟨i,hi⟩;exact hs2 i hi)
 exact⟨m,by lia,h2,λk T4=>F2 λz=>h3 k T4 z⟩
theorem pJ{t:SetTable}{hs:List Int}(T:TOk t hs)(hashAt:Nat->Int)(h:Int){N:Nat}(h0:¬ Liv t (pth t.mask h N).j)(h1:∀m,m<N->Liv t (pth t.mask h m).j):∀(QN n:Nat),n<=N->N-n<QN->
  (probe.go t hashAt h QN (pth t.mask h n)=some (.empty (pth t.mask h N).j none)/\∀(m i:Nat),n<=m->m<N->t.place[i]?=some (pth t.mask h m).j->hashAt i≠h)\/
  ∃m i:Nat,n<=m/\m<N/\t.place[i]?=some (pth t.mask h m).j/\hashAt i=h/\probe.go t hashAt h QN (pth t.mask h n)=some (.candidate (pth t.mask h m).j i (pth t.mask h (m+1)))/\
   ∀(m' i':Nat),n<=m'->m'<m->t.place[i']?=some (pth t.mask h m').j->hashAt i'≠h
 |0,n,_,hf=>by lia
 |QN+1,n,hn,hf=>by
  rw[probe.go];rcases rD T.R T.d (pth t.mask h n).j with ⟨e,Rq⟩ |⟨i,e,hi⟩
  ·have hN:n=N:=by
    rcases FB hn with z |z
    ·obtain⟨i,hi⟩:=h1 n z;exact absurd hi (Rq i)
    ·exact z
   subst hN;refine .inl ⟨by simp only[e,kj],λm i z1 z2=>by lia⟩
  ·have hN:n<N:=by
    rcases FB hn with z |z
    ·exact z
    ·subst z;exact absurd ⟨i,hi⟩ h0
   simp only[e];by_cases hh:hashAt i=h
   ·refine .inr ⟨n,i,E2 _,hN,hi,hh,?_,λm' i' z1 z2=>by lia⟩
    simp only[hh,beq_self_eq_true,if_true,k_];rfl
   ·have hb:(hashAt i==h)=false:=by simpa using hh
    simp only[hb,Fk,if_false,k_];have ih:=pJ T hashAt h h0 h1 QN (n+1) (by lia) (by lia)
    rcases ih with ⟨q1,q2⟩ |⟨m,i2,q1,q2,q3,q4,q5,q6⟩
    ·refine .inl ⟨q1,λm i' z1 z2 z3=>?_⟩
     rcases FB z1 with z |z
     ·exact q2 m i' z z2 z3
     ·subst z;rw[T.R.inj z3 hi];exact hh
    ·refine .inr ⟨m,i2,by lia,q2,q3,q4,q5,λm' i' z1 z2 z3=>?_⟩
     rcases FB z1 with z |z
     ·exact q6 m' i' z z2 z3
     ·subst z;rw[T.R.inj z3 hi];exact hh
theorem xR{t:SetTable}{hs:List Int}(T:TOk t hs){h:Int}{N i:Nat}(h0:¬ Liv t (pth t.mask h N).j)(hi:hs[i]?=some h):∃(m j:Nat),m<N/\t.place[i]?=some j/\(pth t.mask h m).j=j:=by
 have QL:i<t.place.size:=by rw[T.n];exact (Fb.mp hi).1
 obtain⟨m,e,hm⟩:=T.reach i _ h (eA QL) hi;refine⟨m,_,?_,eA QL,e⟩;rcases Jv m N with z |z |z
 ·exact z
 ·subst z;exact absurd ⟨i,by rw[e];exact eA QL⟩ h0
 ·exact absurd (hm N z) h0
theorem eI{α:Type}(xs:Array α)(p:Nat)(x:α):(insertAt xs p x).toList=xs.toList.take p++x::xs.toList.drop p:=by
 unfold insertAt;simp[Array.toList_extract];exact Ip (by simp)
theorem cy{α:Type}{xs:Array α}{p:Nat}{x:α}(hp:p<=xs.size)(i:Nat):(insertAt xs p x)[i]?=if i<p then xs[i]? else if i=p then some x else xs[i-1]?:=by
 rw[<-Gi,eI];have hl:(xs.toList.take p).length=p:=by simp;lia
 by_cases h1:i<p
 ·rw[if_pos h1,Fp (by lia),Hn h1,Gi]
 ·rw[if_neg h1,Fq (by lia),hl]
  by_cases h2:i=p
  ·subst h2;simp
  ·rw[if_neg h2];obtain⟨q,hq⟩:∃q,i-p=q+1:=⟨i-p-1,by lia⟩
   rw[hq,J8,Iy,Gi];congr 1;lia
theorem gL{α:Type}(xs:Array α)(p:Nat)(x:α)(hp:p<=xs.size):(insertAt xs p x).size=xs.size+1:=by
 rw[<-E5,eI];simp;lia
def gJ{α:Type}(xs:List α)(p:Nat)(x:α):List α:=xs.take p++x::xs.drop p
theorem wa{α:Type}{xs:List α}{p:Nat}{x:α}(hp:p<=xs.length)(i:Nat):(gJ xs p x)[i]?=if i<p then xs[i]? else if i=p then some x else xs[i-1]?:=by
 unfold gJ;have hl:(xs.take p).length=p:=by simp;lia
 by_cases h1:i<p
 ·rw[if_pos h1,Fp (by lia),Hn h1]
 ·rw[if_neg h1,Fq (by lia),hl]
  by_cases h2:i=p
  ·subst h2;simp
  ·rw[if_neg h2];obtain⟨q,hq⟩:∃q,i-p=q+1:=⟨i-p-1,by lia⟩
   rw[hq,J8,Iy];congr 1;lia
theorem Ai{xs:Array Nat}(R:Ris xs){j:Nat}(Rq:∀i:Nat,xs[i]?≠some j):Ris (insertAt xs (below xs j) j):=by
 obtain⟨h1,h2,h3⟩:=fC R j
 have gt:∀(i x:Nat),below xs j<=i->xs[i]?=some x->j<x:=λi x hi hx=>by
  rcases FB (h2 i x hi hx) with z |z
  ·exact z
  ·subst z;exact absurd hx (Rq i)
 intro a b x y Su hx hy;rw[cy h3]at hx hy;by_cases a1:a<below xs j
 ·rw[if_pos a1]at hx;by_cases b1:b<below xs j
  ·rw[if_pos b1]at hy;exact R a b x y Su hx hy
  ·rw[if_neg b1]at hy;by_cases b2:b=below xs j
   ·rw[if_pos b2]at hy;cases hy;exact h1 a x a1 hx
   ·rw[if_neg b2]at hy;exact R a (b-1) x y (by lia) hx hy
 ·rw[if_neg a1]at hx;have b1:¬ b<below xs j:=by lia
  rw[if_neg b1]at hy;have b2:¬ b=below xs j:=by lia
  rw[if_neg b2]at hy;by_cases a2:a=below xs j
  ·rw[if_pos a2]at hx;cases hx;exact gt (b-1) y (by lia) hy
  ·rw[if_neg a2]at hx;exact R (a-1) (b-1) x y (by lia) hx hy
theorem tF{xs:Array Nat}{p j:Nat}(hp:p<=xs.size)(s:Nat):(∃i:Nat,(insertAt xs p j)[i]?=some s)↔s=j\/∃i:Nat,xs[i]?=some s:=by
 constructor
 ·rintro ⟨i,hi⟩;rw[cy hp]at hi;split at hi
  ·exact .inr ⟨i,hi⟩
  ·split at hi
   ·cases hi;exact .inl rfl
   ·exact .inr ⟨i-1,hi⟩
 ·rintro (rfl |⟨i,hi⟩)
  ·exact⟨p,by rw[cy hp,if_neg (FM _),if_pos rfl]⟩
  ·by_cases h:i<p
   ·exact⟨i,by rw[cy hp,if_pos h];exact hi⟩
   ·exact⟨i+1,by rw[cy hp,if_neg (by lia),if_neg (by lia)];simpa using hi⟩
theorem TOk.put{t:SetTable}{hs:List Int}(T:TOk t hs){h:Int}{N:Nat}(h0:¬ Liv t (pth t.mask h N).j)(h1:∀m,m<N->Liv t (pth t.mask h m).j)(Tv:(pth t.mask h N).j<=t.mask)(hf:t.place.size+1<=t.mask):
  TOk (t.put (pth t.mask h N).j).1 (gJ hs (t.put (pth t.mask h N).j).2 h):=by
 have Rq:∀i:Nat,t.place[i]?≠some (pth t.mask h N).j:=λi e=>h0 ⟨i,e⟩
 obtain⟨_,_,hb⟩:=fC T.R (pth t.mask h N).j;have hbl:below t.place (pth t.mask h N).j<=hs.length:=by rw[<-T.n];exact hb
 have ed:(if SetTable.has t.dummies (pth t.mask h N).j then eraseAt t.dummies (below t.dummies (pth t.mask h N).j) else t.dummies)=#[]:=by
  rw[T.d];simp[SetTable.has]
 unfold SetTable.put;simp only[ed];refine⟨Ai T.R Rq,rfl,T.k,?_,?_,λi x e=>?_,λi j hh e1 e2=>?_⟩
 ·show (insertAt _ _ _).size=(gJ hs _ h).length;rw[gL _ _ _ hb,T.n];unfold gJ;simp;lia
 ·show (insertAt _ _ _).size<=t.mask;rw[gL _ _ _ hb];exact hf
 ·rcases (tF hb x).mp ⟨i,e⟩ with z |⟨q,hq⟩
  ·rw[z];exact Tv
  ·exact T.le q x hq
 ·have liv:∀s,Liv t s->Liv {t with place:=insertAt t.place (below t.place (pth t.mask h N).j) (pth t.mask h N).j,dummies:=#[] } s:=λs z=>(tF hb s).mpr (.inr z)
  change (insertAt t.place _ _)[i]?=some j at e1
  rw[cy hb]at e1;rw[wa hbl]at e2;split at e1
  ·rename_i z
   rw[if_pos z]at e2;obtain⟨m,q1,q2⟩:=T.reach i j hh e1 e2;exact⟨m,q1,λm' hm=>liv _ (q2 m' hm)⟩
  ·rename_i z
   rw[if_neg z]at e2;split at e1
   ·rename_i z2
    rw[if_pos z2]at e2;cases e1;cases e2;exact⟨N,rfl,λm' hm=>liv _ (h1 m' hm)⟩
   ·rename_i z2
    rw[if_neg z2]at e2;obtain⟨m,q1,q2⟩:=T.reach (i-1) j hh e1 e2;exact⟨m,q1,λm' hm=>liv _ (q2 m' hm)⟩
theorem yl{mask:Nat}(h:Int):∀n,(pth mask h n).j+(pth mask h n).more<=mask
 |0=>by
  show bits h%(mask+1)+(runEnd mask (bits h%(mask+1))-bits h%(mask+1))<=mask;have:=IM (bits h) (show 0<mask+1 by lia)
  unfold runEnd;split <;>lia
 |n+1=>by
  have ih:=yl (mask:=mask) h n;rw[pth];unfold adv;split
  ·simp only;lia
  ·show (leap mask _ _).1+(runEnd mask (leap mask _ _).1-(leap mask _ _).1)<=mask;have:(leap mask (pth mask h n).i (pth mask h n).perturb).1<mask+1:=IM _ (by lia)
   unfold runEnd;split <;>lia
def OL(owner:Array (Option Nat))(j:Nat):Prop:=∃k:Nat,owner[j]?=some (some k)
def nr(mask:Nat)(h:Int):Nat->Nat
 |0=>0
 |r+1=>nr mask h r+(runEnd mask (aU mask h r).1-(aU mask h r).1)+1
theorem Bg(mask:Nat)(h:Int):∀r,pth mask h (nr mask h r)={j:=(aU mask h r).1,more:=runEnd mask (aU mask h r).1-(aU mask h r).1,i:=(aU mask h r).1,perturb:=(aU mask h r).2,dummy:=none }
 |0=>rfl
 |r+1=>by
  have e:=Bg mask h r;have step:=jF (mask:=mask) (runEnd mask (aU mask h r).1-(aU mask h r).1) (pth mask h (nr mask h r)) (λm=>pth mask h (nr mask h r+m)) rfl (λm=>rfl) (by rw[e];exact E2 _)
  have RR:pth mask h (nr mask h r+(runEnd mask (aU mask h r).1-(aU mask h r).1))=_:=step;rw[nr,pth,RR,e];unfold adv;rw[if_neg (by simp)]
  rfl
theorem qT(mask:Nat)(h:Int)(r k:Nat)(hk:k<=runEnd mask (aU mask h r).1-(aU mask h r).1):(pth mask h (nr mask h r+k)).j=(aU mask h r).1+k:=by
 have e:=Bg mask h r;have step:=jF (mask:=mask) k (pth mask h (nr mask h r)) (λm=>pth mask h (nr mask h r+m)) rfl (λm=>rfl) (by rw[e];exact hk)
 have RR:pth mask h (nr mask h r+k)=_:=step;rw[RR,e]
theorem u5(mask i:Nat):i<=runEnd mask i:=by unfold runEnd;split <;>lia
theorem zU(mask:Nat)(h:Int):∀r,(aU mask h r).1<=mask
 |0=>G7 (IM _ (by lia))
 |r+1=>G7 (IM _ (by lia))
theorem p7{mask i:Nat}(h:i<=mask):runEnd mask i<=mask:=by unfold runEnd;split <;>lia
theorem uv{mask:Nat}{owner:Array (Option Nat)}(Q5:owner.size=mask+1)(h:Int):∀(QN r:Nat),(∃r',r<=r'/\r'<r+QN/\owner[(aU mask h r').1]?=some none)->(∀m,m<nr mask h r->OL owner (pth mask h m).j)->
  ∃N,layClean.free mask owner QN (aU mask h r).1 (aU mask h r).2=some (pth mask h N).j/\owner[(pth mask h N).j]?=some none/\∀m,m<N->OL owner (pth mask h m).j
 |0,r,⟨r',h1,h2,_⟩,_=>by lia
 |QN+1,r,hex,hl=>by
  rw[layClean.free];have hge:=u5 mask (aU mask h r).1;have hmk:=p7 (zU mask h r);have RE:∀k,k<runEnd mask (aU mask h r).1+1-(aU mask h r).1->(aU mask h r).1+k<owner.size:=λk hk=>by lia
  cases hf:(F_ (runEnd mask (aU mask h r).1+1-(aU mask h r).1)).find? λk=>(owner.getD ((aU mask h r).1+k) (some 0)).isNone with
  |some k=>
   obtain⟨p1,p2,p3⟩:=List.find?_range_eq_some.mp hf;have hk:=Fu.mp p2;have QL:=RE k hk
   have e1:owner[(aU mask h r).1+k]?=some none:=by
    have:owner.getD ((aU mask h r).1+k) (some 0)=owner[(aU mask h r).1+k]:=by simp[Jw,QL]
    rw[this]at p1;have:owner[(aU mask h r).1+k]=none:=by simpa using p1
    simp[QL,this]
   have ej:=qT mask h r k (by lia)
   refine⟨nr mask h r+k,by simp only[ej],by rw[ej];exact e1,λm hm=>?_⟩
   by_cases hm1:m<nr mask h r
   ·exact hl m hm1
   ·obtain⟨q,rfl⟩:∃q,m=nr mask h r+q:=⟨m-nr mask h r,by lia⟩
    have hq:=p3 q (by lia)
    have RS:=RE q (by lia)
    rw[qT mask h r q (by lia)]
    have:owner.getD ((aU mask h r).1+q) (some 0)=owner[(aU mask h r).1+q]:=by simp[Jw,RS]
    rw[this]at hq;cases hv:owner[(aU mask h r).1+q] with
    |none=>rw[hv]at hq;simp at hq
    |some v=>exact⟨v,by simp[RS,hv]⟩
  |none=>
   have Rk:∀q,q<runEnd mask (aU mask h r).1+1-(aU mask h r).1->OL owner ((aU mask h r).1+q):=λq hq=>by
    have:=List.find?_eq_none.mp hf q (Fu.mpr hq);have RS:=RE q hq;have e:owner.getD ((aU mask h r).1+q) (some 0)=owner[(aU mask h r).1+q]:=by simp[Jw,RS]
    rw[e]at this;cases hv:owner[(aU mask h r).1+q] with
    |none=>rw[hv]at this;simp at this
    |some v=>exact⟨v,by simp[RS,hv]⟩
   have next:=uv Q5 h QN (r+1) (by
    obtain⟨r',h1,h2,h3⟩:=hex;refine⟨r',?_,by lia,h3⟩
    rcases FB h1 with z |z
    ·exact z
    ·subst z;obtain⟨v,hv⟩:=Rk 0 (by lia)
     rw[Ji,h3]at hv;cases hv) (λm hm=>by
    by_cases hm1:m<nr mask h r
    ·exact hl m hm1
    ·obtain⟨q,rfl⟩:∃q,m=nr mask h r+q:=⟨m-nr mask h r,by lia⟩
     have hm2:nr mask h r+q<nr mask h r+(runEnd mask (aU mask h r).1-(aU mask h r).1)+1:=hm;rw[qT mask h r q (by lia)]
     exact Rk q (by lia))
   exact next
structure OI(mask:Nat)(owner:Array (Option Nat))(hs:List Int):Prop where
 sz:owner.size=mask+1
 lt:∀(j k:Nat),owner[j]?=some (some k)->k<hs.length
 inj:∀(i j k:Nat),owner[i]?=some (some k)->owner[j]?=some (some k)->i=j
 all:∀k:Nat,k<hs.length->∃j:Nat,owner[j]?=some (some k)
 reach:∀(j k:Nat) (h:Int),owner[j]?=some (some k)->hs[k]?=some h->∃m,(pth mask h m).j=j/\∀m',m'<m->OL owner (pth mask h m').j
theorem OI.free{mask:Nat}{owner:Array (Option Nat)}{hs:List Int}(O:OI mask owner hs)(hn:hs.length<=mask):∃s,s<=mask/\owner[s]?=some none:=by
 apply F2;intro Rq
 have SV:∀s,s<=mask->OL owner s:=λs SD=>by
  have QL:s<owner.size:=by rw[O.sz];lia
  cases e:owner[s] with
  |none=>exact absurd ⟨s,SD,by simp[QL,e]⟩ Rq
  |some k=>exact⟨k,by simp[QL,e]⟩
 have nd:((F_ (mask+1)).map λs=>(owner.getD s none).getD 0).Nodup:=by
  rw[Ln,FR];refine JW ?_ (Ms (n:=mask+1));intro a b ha hb Su e;obtain⟨k1,h1⟩:=SV a (by have:=Fu.mp ha;lia)
  obtain⟨k2,h2⟩:=SV b (by have:=Fu.mp hb;lia)
  have e1:(owner.getD a none).getD 0=k1:=by simp[GZ,h1]
  have e2:(owner.getD b none).getD 0=k2:=by simp[GZ,h2]
  rw[e1,e2]at e;subst e;have:=O.inj a b k1 h1 h2;lia
 have sub:((F_ (mask+1)).map λs=>(owner.getD s none).getD 0) ⊆ F_ hs.length:=by
  intro x hx;obtain⟨s,hs1,rfl⟩:=EZ.mp hx;obtain⟨k1,h1⟩:=SV s (by have:=Fu.mp hs1;lia)
  have e1:(owner.getD s none).getD 0=k1:=by simp[GZ,h1]
  rw[e1];exact Fu.mpr (O.lt s k1 h1)
 have:=N7 nd sub;simp at this;lia
theorem OI.step{mask k:Nat}(hk:mask+1=2 ^ k){owner:Array (Option Nat)}{hs:List Int}(O:OI mask owner hs)(hn:hs.length<=mask)(h:Int):
  ∃j,layClean.free mask owner (turns mask) (bits h%(mask+1)) (bits h)=some j/\OI mask (owner.setIfInBounds j (some hs.length)) (hs++[h]):=by
 obtain⟨s,hs1,hs2⟩:=O.free hn;obtain⟨q,hq,e⟩:=gY (aU mask h 12).1 k s;have er:(aU mask h (12+q)).1=s:=by rw[kW hk h q,e];exact F8 (by lia)
 obtain⟨N,f1,f2,f3⟩:=uv O.sz h (turns mask) 0 ⟨12+q,Gz _,by unfold turns;lia,by rw[er];exact hs2⟩ (λm hm=>absurd hm (Oy _))
 refine⟨_,f1,?_⟩;generalize hj:(pth mask h N).j=j at *;have hjs:j<owner.size:=(Iq.mp f2).1
 have get:∀i:Nat,(owner.setIfInBounds j (some hs.length))[i]?=if j=i then some (some hs.length) else owner[i]?:=λi=>by
  rw[Array.getElem?_setIfInBounds];split
  ·rename_i z;subst z;simp[hjs]
  ·rfl
 have liv:∀i,OL owner i->OL (owner.setIfInBounds j (some hs.length)) i:=λi ⟨v,hv⟩=>by
  refine⟨v,?_⟩;rw[get,if_neg (λz=>by subst z;rw[f2]at hv;cases hv)]
  exact hv
 refine⟨by simp[O.sz],λi v e=>?_,λa b v e1 e2=>?_,λv hv=>?_,λi v hh e1 e2=>?_⟩
 ·rw[get]at e;split at e
  ·cases e;simp
  ·have:=O.lt i v e;simp;lia
 ·rw[get]at e1 e2;split at e1 <;>split at e2
  ·lia
  ·cases e1;exact absurd (O.lt b _ e2) (FM _)
  ·cases e2;exact absurd (O.lt a _ e1) (FM _)
  ·exact O.inj a b v e1 e2
 ·simp at hv;rcases FB (G7 hv) with z |z
  ·obtain⟨i,hi⟩:=O.all v z;refine⟨i,?_⟩;rw[get,if_neg (λy=>by subst y;rw[f2]at hi;cases hi)]
   exact hi
  ·subst z;exact⟨j,by rw[get,if_pos rfl]⟩
 ·rw[get]at e1;split at e1
  ·rename_i z
   cases e1;rw[Fq (E2 _)]at e2;simp at e2;subst e2;exact⟨N,by rw[hj];exact z,λm hm=>liv _ (f3 m hm)⟩
  ·have hv:=O.lt i v e1;rw[Fp hv]at e2;obtain⟨m,q1,q2⟩:=O.reach i v hh e1 e2;exact⟨m,q1,λm' hm=>liv _ (q2 m' hm)⟩
theorem tE{mask k:Nat}(hk:mask+1=2 ^ k):∀(more done:List Int) (owner:Array (Option Nat)),OI mask owner done->done.length+more.length<=mask+1->∃SW,more.foldl (λacc h=>do
  let (owner,k) <-acc
  let j <-layClean.free mask owner (turns mask) (bits h%(mask+1)) (bits h)
  pure (owner.setIfInBounds j (some k),k+1)) (some (owner,done.length))=some (SW,done.length+more.length)/\OI mask SW (done++more)
 |[],done,owner,O,_=>⟨owner,by simp,by simpa using O⟩
 |h::more,done,owner,O,hl=>by
  obtain⟨j,e,O2⟩:=O.step hk (by simp at hl;lia) h
  obtain⟨ow,e2,O3⟩:=tE hk more (done++[h]) _ O2 (by simp at hl |-;lia)
  refine⟨ow,?_,by simpa using O3⟩
  rw[He]
  have:(do
   let (owner,k) <-some (owner,done.length)
   let j <-layClean.free mask owner (turns mask) (bits h%(mask+1)) (bits h)
   pure (owner.setIfInBounds j (some k),k+1):Option (Array (Option Nat)×Nat))=some (owner.setIfInBounds j (some done.length),done.length+1):=by
   simp[e]
  rw[this];simp only[Fx,MC]at e2;rw[e2];simp;lia
theorem o3{mask k:Nat}(hk:mask+1=2 ^ k){hs:Array Int}(hl:hs.size<=mask+1):∃owner,layClean mask hs=some owner/\OI mask owner hs.toList:=by
 have O0:OI mask (Array.replicate (mask+1) none) []:=⟨by simp,λj k e=>by simp[JX]at e,λi j k e=>by simp[JX]at e,λk h=>by simp at h,λj k h e=>by simp[JX]at e⟩
 obtain⟨ow,e,O⟩:=tE hk hs.toList [] _ O0 (by simpa using hl)
 refine⟨ow,?_,by simpa using O⟩
 unfold layClean;rw[<-Array.foldl_toList];simp only[J6]at e;rw[e];rfl
theorem o4(n:Nat):∀(QN k:Nat),n<2 ^ (k+QN)->∃k',k<=k'/\sizeAbove.go n QN (2 ^ k)=2 ^ k'/\n<2 ^ k'/\(2 ^ k'<=2*n\/k'=k)
 |0,k,h=>⟨k,E2 _,rfl,by simpa using h,.inr rfl⟩
 |QN+1,k,h=>by
  rw[sizeAbove.go];by_cases Tv:2 ^ k<=n
  ·rw[if_pos Tv,<-Ie];obtain⟨k',h1,h2,h3,h4⟩:=o4 n QN (k+1) (by rw[show k+1+QN=k+(QN+1) by lia];exact h)
   refine⟨k',by lia,h2,h3,.inl ?_⟩
   rcases h4 with z |z
   ·exact z
   ·subst z;rw[Ie];lia
  ·rw[if_neg Tv];exact⟨k,E2 _,rfl,by lia,.inr rfl⟩
theorem above(n:Nat)(h:n<2 ^ 60):∃k,3<=k/\sizeAbove n=2 ^ k/\n<2 ^ k/\2 ^ k<=2*n+8:=by
 obtain⟨k,h1,h2,h3,h4⟩:=o4 n 64 3 (Fz h (JC (by decide) (by decide)))
 refine⟨k,h1,h2,h3,?_⟩;rcases h4 with z |z
 ·lia
 ·subst z;lia
def dj(mask:Nat)(owner:Array (Option Nat)):List (Nat×Nat):=(F_ (mask+1)).filterMap λj=>(owner.getD j none).map (j,·)
theorem p_(owner:Array (Option Nat)):∀l:List Nat,(l.filterMap λj=>(owner.getD j none).map (j,·)).map (·.1)=l.filter λj=>(owner.getD j none).isSome
 |[]=>rfl
 |a::l=>by
  have ih:=p_ owner l;rw[Hi,Oc];cases owner.getD a none with
  |none=>simpa using ih
  |some v=>simpa using ih
theorem dP{mask:Nat}{owner:Array (Option Nat)}(Q5:owner.size=mask+1)(j k:Nat):(j,k)∈dj mask owner↔owner[j]?=some (some k):=by
 unfold dj;rw[J0];constructor
 ·rintro ⟨a,ha,e⟩;have QL:a<owner.size:=by rw[Q5];exact Fu.mp ha
  cases hv:owner.getD a none with
  |none=>rw[hv]at e;cases e
  |some v=>
   rw[hv]at e;cases e;have:owner.getD j none=owner[j]:=by simp[Jw,QL]
   rw[this]at hv;simp[QL,hv]
 ·intro e;have QL:=(Iq.mp e).1;refine⟨j,Fu.mpr (by lia),?_⟩
  rw[GZ,e];rfl
theorem vp(mask:Nat)(owner:Array (Option Nat)):(dj mask owner).Pairwise λa b=>a.1<b.1:=by
 have:=(Ms (n:=mask+1)).filter λj=>(owner.getD j none).isSome
 rw[<-p_ owner (F_ (mask+1)),FR]at this;exact this
theorem Cm{l:List Nat}(h:l.Pairwise (· < ·)):Ris l.toArray:=by
 intro i j x y Rt hx hy;rw[Jj]at hx hy;obtain⟨h1,e1⟩:=Fb.mp hx;obtain⟨h2,e2⟩:=Fb.mp hy;have:=Fm.mp h i j h1 h2 Rt;rw[e1,e2]at this;exact this
theorem AZ{mask k:Nat}(h3:3<=k)(hk:mask+1=2 ^ k){hs:Array Int}(hl:hs.size<=mask)(finger moves:Nat)(led plain:Bool):
  ∃t order,laid mask finger moves led plain hs=some (t,order)/\TOk t (order.toList.map λi=>hs.getD i 0)/\order.toList.Perm (F_ hs.size)/\t.mask=mask/\t.led=led/\t.plain=plain/\t.moves=moves:=by
 obtain⟨owner,e,O⟩:=o3 hk (hs:=hs) (by lia)
 have pr:=vp mask owner
 have nd:((dj mask owner).map (·.2)).Nodup:=by
  rw[Ln,FR];refine JW ?_ pr;intro a b ha hb Su ee;have h1:=(dP O.sz a.1 a.2).mp ha;have h2:=(dP O.sz b.1 b.2).mp hb;rw[ee]at h1;have:=O.inj a.1 b.1 b.2 h1 h2;lia
 have perm:((dj mask owner).map (·.2)).Perm (F_ hs.size):=by
  refine (GJ nd JL).mpr λx=>?_
  rw[EZ,Fu];constructor
  ·rintro ⟨⟨j,v⟩,hm,rfl⟩;have:=O.lt j v ((dP O.sz j v).mp hm);simpa using this
  ·intro hx;obtain⟨j,hj⟩:=O.all x (by simpa using hx)
   exact⟨(j,x),(dP O.sz j x).mpr hj,rfl⟩
 have len:(dj mask owner).length=hs.size:=by have:=perm.length_eq;simpa using this
 refine⟨_,_,by unfold laid;rw[e];rfl,⟨?_,rfl,⟨k,h3,hk⟩,?_,?_,λi x ee=>?_,λi j h e1 e2=>?_⟩,?_,rfl,rfl,rfl,rfl⟩
 ·show Ris ((dj mask owner).map (·.1)).toArray;exact Cm (by rw[FR];exact pr)
 ·show ((dj mask owner).map (·.1)).toArray.size=_;simp[dj]
 ·show ((dj mask owner).map (·.1)).toArray.size<=mask;simp[len,hl]
 ·change ((dj mask owner).map (·.1)).toArray[i]?=some x at ee
  rw[Jj,E7]at ee;cases q:(dj mask owner)[i]? with
  |none=>rw[q]at ee;cases ee
  |some p=>
   rw[q]at ee;cases ee;have:=(dP O.sz p.1 p.2).mp (Fs q);have:=(Iq.mp this).1;show p.1<=mask;have hz:=O.sz;lia
 ·change ((dj mask owner).map (·.1)).toArray[i]?=some j at e1
  change (((dj mask owner).map (·.2)).toArray.toList.map λi=>hs.getD i 0)[i]?=some h at e2
  rw[Jj,E7]at e1;rw[E7,E7]at e2;cases q:(dj mask owner)[i]? with
  |none=>rw[q]at e1;cases e1
  |some p=>
   rw[q]at e1 e2;cases e1;have hp:=(dP O.sz p.1 p.2).mp (Fs q);have QL:=O.lt _ _ hp
   have e3:hs.toList[p.2]?=some h:=by
    have e4:hs.getD p.2 0=h:=by simpa using e2
    have:p.2<hs.size:=by simpa using QL
    rw[<-e4];simp[Jw,this]
   obtain⟨m,q1,q2⟩:=O.reach _ _ h hp e3;refine⟨m,q1,λm' hm=>?_⟩
   obtain⟨v,hv⟩:=q2 m' hm;obtain⟨n,hn⟩:=Gy.mp ((dP O.sz _ v).mpr hv);refine⟨n,?_⟩;show ((dj mask owner).map (·.1)).toArray[n]?=_;rw[Jj,E7,hn];rfl
 ·show ((dj mask owner).map (·.2)).toArray.toList.Perm _;simpa using perm
variable {prog:E8}{E:EW→EU→Prop}
section
variable {w:FE}{A:FC}{s:EU}
abbrev TK(prog:E8)(w:FE)(h:GV)(k:List Int)(b:E6):Prop:=IsTupleKey (LB prog w) h k b
abbrev hsh(prog:E8)(w:FE)(k:List Int):Int:=tupleKeyHash (LB prog w) k
theorem TK.ints{h:GV}{k:List Int}{vs:List EW}(x:ItemsAre (LB prog w) k vs):∀v∈vs,∃n t,v=.int n t:=by
 induction x with
 |nil=>intro v hv;simp at hv
 |cons h1 _ ih=>
  intro v hv;rcases E1.mp hv with rfl |hv
  ·obtain⟨t,rfl⟩:=Ko h1;exact⟨_,t,rfl⟩
  ·exact ih v hv
theorem mt{k:List Int}{a:E6}{Q:Bool->EU->Prop}(hk:TK prog w s.heap k a)(h:Q false s):Fy (FF prog w) A (Ks 8 (.ref a)) Q E s:=by
 have hT:=hk.typeIs;obtain⟨o,items,n,ho,_,hd,hi⟩:=hk;unfold Ks;refine EN (MF hT ?_);dsimp only;rw[if_pos (by decide)]
 refine EN (EY ?_);simp only[Hf,Fk,if_false];refine EN (G5 ho hd ?_);dsimp only;refine EN ?_;rw[<-Jf];refine Mi _ (λrest r s'=>r.1=none/\s'=s/\∀v∈rest,∃n t,v=Gv n t) _ ?_ ?_ _ _ ⟨rfl,rfl,TK.ints (h:=s.heap) hi⟩
 ·rintro v rest r s' ⟨hr,rfl,Rk⟩;obtain⟨n,t,rfl⟩:=Rk v E3;have e:Ks 7 (Gv n t)=pure false:=by unfold Ks;rfl
  rw[e];refine EN (EY ?_);simp only[Fk,if_false];exact EY ⟨rfl,rfl,λu hu'=>Rk u (ET _ hu')⟩
 ·rintro ⟨r1,r2⟩ s' ⟨hr,rfl,_⟩;simp only at hr;subst hr;exact EY h
theorem DC{k:List Int}{a:E6}{Q:Bool->EU->Prop}(hk:TK prog w s.heap k a)(h:Q true s):Fy (FF prog w) A (Nk 8 (.ref a)) Q E s:=by
 have hT:=hk.typeIs;obtain⟨o,items,n,ho,_,hd,hi⟩:=hk;unfold Nk;refine EN (Jk hT F.slot_tuple_hash.lookup ?_);show Fy _ _ (LL (.ref a) >>=_) _ _ s;refine EN (G5 ho hd ?_);refine EN ?_;show Fy _ _ (forIn items _ _) _ _ s;rw[<-Jf];refine Mi _ (λrest r s'=>r.1=none/\s'=s/\∀v∈rest,∃n t,v=Gv n t) _ ?_ ?_ _ _ ⟨rfl,rfl,TK.ints (h:=s.heap) hi⟩
 ·rintro v rest r s' ⟨hr,rfl,Rk⟩;obtain⟨n,t,rfl⟩:=Rk v E3;have e:Nk 7 (Gv n t)=pure true:=by unfold Nk;rfl
  rw[e];refine EN (EY ?_);simp only[Hf,Fk,if_false];exact EY ⟨rfl,rfl,λu hu'=>Rk u (ET _ hu')⟩
 ·rintro ⟨r1,r2⟩ s' ⟨hr,rfl,_⟩;simp only at hr;subst hr;exact EY h
theorem qM{k:List Int}{a:E6}{l:List EW}{Q:Bool->EU->Prop}(hk:TK prog w s.heap k a)(hl:∀v∈l,∃k' b,v=.ref b/\TK prog w s.heap k' b)(h:Q false s):
  Fy (FF prog w) A (NV (.ref a) l) Q E s:=by
 unfold NV;refine EN ?_;refine Mi _ (λrest r s'=>r.1=none/\s'=s/\∀v∈rest,∃k' b,v=.ref b/\TK prog w s.heap k' b) _ ?_ ?_ _ _ ⟨rfl,rfl,hl⟩
 ·rintro v rest r s' ⟨hr,rfl,Rk⟩;obtain⟨k',b,rfl,hb⟩:=Rk v E3;dsimp only;split
  ·exact EY ⟨rfl,rfl,λu hu'=>Rk u (ET _ hu')⟩
  ·refine EN (MG hk ?_);simp only[Hf,Fk,if_false];refine EN (MG hb ?_);simp only[Hf,Fk,if_false];refine EN (mt hk ?_);simp only[Fk,if_false];refine EN (mt hb ?_);simp only[Fk,if_false];exact EY ⟨rfl,rfl,λu hu'=>Rk u (ET _ hu')⟩
 ·rintro ⟨r1,r2⟩ s' ⟨hr,rfl,_⟩;simp only at hr;subst hr;exact EY h
def ents(prog:E8)(w:FE)(kb:List (List Int×E6)):List (Int×EW):=kb.map λp=>(hsh prog w p.1,.ref p.2)
theorem uB{kb:List (List Int×E6)}{i:Nat}:(ents prog w kb)[i]?=(kb[i]?).map λp=>(hsh prog w p.1,.ref p.2):=by unfold ents;rw[E7]
theorem AR(kb:List (List Int×E6)):(ents prog w kb).map (·.1)=kb.map λp=>hsh prog w p.1:=by unfold ents;rw[FP];rfl
theorem TOk.fits{t:SetTable}{hs:List Int}(T:TOk t hs){n:Nat}(hn:hs.length=n):t.fits n=true:=by
 have h1:=T.n;have h2:=T.f;have h3:t.fill=t.place.size:=by unfold fill;rw[T.d];rfl
 unfold SetTable.fits;rw[h3];simp[h1,hn];lia
theorem TOk.gave{t:SetTable}{hs:List Int}(T:TOk t hs):t.gaveWay=false:=by
 obtain⟨k,h3,hk⟩:=T.k;unfold SetTable.gaveWay;obtain⟨j,rfl⟩:∃j,k=j+1:=⟨k-1,by lia⟩
 rw[Ie]at hk;have:t.mask%2=1:=by lia
 simp[this]
theorem qq{S:E6}{o:Obj}{es:Array (Int×EW)}{ep:Nat}{t:SetTable}{kb:List (List Int×E6)}{k:List Int}{x:E6}(hu:A.units<JQ)
  (ho:s.heap.get? S=some o) (hd:o.data=.set es ep t) (he:es.toList=ents prog w kb) (T:TOk t (kb.map λp=>hsh prog w p.1)) (Tn:∀p∈kb,TK prog w s.heap p.1 p.2) (hx:TK prog w s.heap k x)
  {N:Nat} (hN:N<10*turns t.mask) (h0:¬ Liv t (pth t.mask (hsh prog w k) N).j) (h1:∀m,m<N->Liv t (pth t.mask (hsh prog w k) m).j) {Q:SetFound->EU->Prop}
  (qf:(∀p∈kb,p.1≠k)->Q (.free (pth t.mask (hsh prog w k) N).j false) s) (qt:(∃p∈kb,p.1=k)->Q (.there none) s):
  ∀(QN n:Nat) (RO:Option Probe),n<=N->N-n<QN->RO.getD (t.probeStart (hsh prog w k))=pth t.mask (hsh prog w k) n->
   (∀(m i:Nat) (p:List Int×E6),m<n->t.place[i]?=some (pth t.mask (hsh prog w k) m).j->kb[i]?=some p->p.1≠k)->
   Fy (FF prog w) A (LY S (.ref x) (hsh prog w k) true QN RO) Q E s:=by
 have Q5:es.size=kb.length:=by rw[<-E5,he];simp[ents]
 have Q9:t.fits es.size=true:=T.fits (by rw[ES,Q5])
 have eat:∀i:Nat,es[i]?=(kb[i]?).map λ(p:List Int×E6)=>(hsh prog w p.1,FG p.2):=λi=>by rw[<-Gi,he,uB]
 intro QN
 induction QN with
 |zero=>intro n RO _ h;lia
 |succ QN ih=>
  intro n RO hn hf Q7 RZ;unfold LY;refine EN (HI ho hd Q9 ?_);dsimp only;rw[T.gave];simp only[Fk,if_false];rw[Q7];have hash:∀(i:Nat) (p:List Int×E6),kb[i]?=some p->((es[i]?.map (λ(e:Int×EW)=>e.1)).getD 0:Int)=hsh prog w p.1:=λi p hp=>by rw[eat,hp];rfl
  have pg:=pJ T (λ(i:Nat)=>(es[i]?.map (λ(e:Int×EW)=>e.1)).getD 0) (hsh prog w k) h0 h1 (10*turns t.mask) n hn (by lia)
  split
  ·rename_i met hmet
   rcases pg with ⟨e,QF⟩ |⟨m,i,hnm,hmN,QZ,SX,e,hbef⟩
   ·have q:some met=some (.empty (pth t.mask (hsh prog w k) N).j none):=hmet.symm.trans e;cases q;dsimp only;refine EY (qf λp hp Sq=>?_)
    obtain⟨i,hi⟩:=Gy.mp hp;obtain⟨m,j,hm,QZ,hj⟩:=xR T (h:=hsh prog w k) h0 (i:=i) (by rw[E7,hi,<-Sq];rfl)
    rcases GR m n with Th |Th
    ·exact RZ m i p Th (by rw[hj];exact QZ) hi Sq
    ·exact QF m i Th hm (by rw[hj];exact QZ) (by rw[hash i p hi,Sq])
   ·have q:some met=some (.candidate (pth t.mask (hsh prog w k) m).j i (pth t.mask (hsh prog w k) (m+1))):=hmet.symm.trans e;cases q;dsimp only;have hik:i<kb.length:=by rw[<-Q5,<-show t.place.size=es.size by rw[T.n,ES,Q5]];exact t4 QZ
    obtain⟨p,hp⟩:∃p,kb[i]?=some p:=⟨_,EO hik⟩;have hpm:p∈kb:=Fs hp;have hei:es[i]?=some (hsh prog w p.1,FG p.2):=by rw[eat,hp];rfl
    have rest:Fy (FF prog w) A (do
      let T5 <-NM [FG p.2] (eqBool (FG p.2) (.ref x))
      let (es',_,t') <-setState S
      if true && T5 then return .there none
      let some same:=t'.sameMemory t.moves t.mask |OA "set.changed-during-lookup:is-the-new-block-at-the-old-address"
      let still <-match (if same then t'.slot (pth t.mask (hsh prog w k) m).j else .empty) with
       | .live i'=>match es'[i']? with
        |some (_,y')=>do pure (if <-isSame y' (FG p.2) then some i' else none)
        |none=>pure none
       |_=>pure none
      match still with
      |none=>rule "set.search.anew";LY S (.ref x) (hsh prog w k) true QN none
      |some i'=>if T5 then return .there (some i') else LY S (.ref x) (hsh prog w k) true QN (some (pth t.mask (hsh prog w k) (m+1)))) Q E s:=by
     refine EN (Gk (J9 hu (Tn p hpm) hx ?_));refine EN (HI ho hd Q9 ?_);dsimp only;by_cases Sq:p.1=k
     ·rw[decide_eq_true Sq];simp only[Bool.and_self,if_true];exact EY (qt ⟨p,hpm,Sq⟩)
     ·rw[decide_eq_false Sq];simp only[Nh,Fk,if_false];have hsm:t.sameMemory t.moves t.mask=some true:=by unfold SetTable.sameMemory;simp
      rw[hsm];dsimp only;rw[if_pos rfl,mr T.R QZ];dsimp only;rw[hei];dsimp only;refine EN (wpAny_isSame_ref_self ?_);refine EN (EY ?_);simp only[if_true];refine ih (m+1) (some (pth t.mask (hsh prog w k) (m+1))) (by lia) (by lia) rfl λm' i' p' T6 hpl' Rr=>?_
      rcases GR m' n with z |z
      ·exact RZ m' i' p' z hpl' Rr
      ·rcases FB (G7 T6) with y |y
       ·have:=hbef m' i' z y hpl';intro e';exact this (by rw[hash i' p' Rr,e'])
       ·subst y;have ei:=T.R.inj QZ hpl';subst ei;rw[hp]at Rr;cases Rr;exact Sq
    by_cases hled:t.led=true
    ·rw[hled];simp only[Hf,Fk,if_false];rw[hei];exact rest
    ·rw[show t.led=false by simpa using hled]
     simp only[JH,if_true];refine EN (qM hx (λv hv=>?_) ?_)
     ·obtain⟨e',he',rfl⟩:=EZ.mp hv
      have T6:e'∈es.toList:=by
       have:=KY.mp he';exact KY.mpr (Array.mem_filter.mp this).1
      rw[he]at T6;obtain⟨p',Rr,rfl⟩:=EZ.mp T6;exact⟨p'.1,p'.2,rfl,Tn p' Rr⟩
     ·simp only[Fk,if_false];rw[hei];exact rest
  ·rename_i Rq
   rcases pg with ⟨e,QF⟩ |⟨m,i,hnm,hmN,QZ,SX,e,hbef⟩
   ·exact absurd e (Rq _)
   ·exact absurd e (Rq _)
structure SP(prog:E8)(w:FE)(h:GV)(S:E6)(kb:List (List Int×E6)):Prop where
 ex:∃o es ep t,h.get? S=some o∧o.ExactSet∧o.data=.set es ep t∧es.toList=ents prog w kb∧TOk t (kb.map λp=>hsh prog w p.1)∧t.led=(!w.params.followText "set-order")∧t.plain=true∧t.tooFull=false∧t.mask<8*kb.length+8
 keys:∀p∈kb,TK prog w h p.1 p.2
 nd:(kb.map (·.1)).Nodup
theorem TK.keep{h h':GV}{k:List Int}{b S:E6}{o:Obj}{es ep t}(x:TK prog w h k b)(ho:h.get? S=some o)(hd:o.data=.set es ep t)(hs:JS S h h'):TK prog w h' k b:=by
 obtain⟨o',items,n,RH,hc,RK,hi⟩:=x
 have QF:b≠S:=by
  rintro rfl;obtain rfl:o'=o:=FV (RH.symm.trans ho);rw[hd]at RK;exact nomatch RK
 exact⟨o',items,n,(hs.2 b QF).trans RH,hc,RK,hi⟩
theorem qY(x:E6)(es:Array (Int×EW)):byScan (.ref x) es=false:=by simp[byScan,Value.scannable]
theorem qu{α β:Type}(f:α->β)(xs:List α)(p:Nat)(x:α):(gJ xs p x).map f=gJ (xs.map f) p (f x):=by
 unfold gJ;rw[F4,Ft,LZ,NA]
theorem eV{α:Type}(xs:List α)(p:Nat)(x:α):(gJ xs p x).Perm (xs++[x]):=by
 unfold gJ;refine Mj.trans ?_;rw[FL];exact (Lo x xs).symm
theorem p8{α β:Type}{kb:List α}(f:α->β)(d:β):∀(o:List Nat),(∀i∈o,i<kb.length)->o.map (λi=>((kb.map f).toArray).getD i d)=(o.filterMap λi=>kb[i]?).map f
 |[],_=>rfl
 |i::o,h=>by
  have hi:=h i E3;rw[Ft,Hi,EO hi,p8 f d o λj hj=>h j (ET _ hj)]
  simp[Jw,hi]
theorem vN{α:Type}{kb:List α}{o:List Nat}(h:o.Perm (F_ kb.length)):(o.filterMap λi=>kb[i]?).Perm kb:=by
 refine (h.filterMap _).trans ?_
 suffices (F_ kb.length).filterMap (λi=>kb[i]?)=kb by rw[this]
 have:∀(l pre:List α),(List.range' pre.length l.length).filterMap (λi=>(pre++l)[i]?)=l:=by
  intro l
  induction l with
  |nil=>intro pre;rfl
  |cons x l ih=>
   intro pre;rw[FN,List.range'_succ,Hi];have e:(pre++x::l)[pre.length]?=some x:=by rw[Fq (E2 _)];simp
   rw[e];have:=ih (pre++[x]);rw[Fi,Fx]at this;simpa using this
 have q:=this kb [];simpa [List.range_eq_range'] using q
theorem AW{t:SetTable}{hs:List Int}(T:TOk t hs)(h:t.tooFull=false):t.place.size+1<=t.mask:=by
 obtain⟨k,h3,hk⟩:=T.k;have hf:t.fill=t.place.size:=by unfold fill;rw[T.d];rfl
 have h8:2 ^ 3<=2 ^ k:=JC (by decide) h3
 unfold tooFull at h;rw[hf]at h;simp at h;lia
theorem Dg{S:E6}{o:Obj}{es:Array (Int×EW)}{ep:Nat}{t:SetTable}{kb:List (List Int×E6)}{Q:Unit->EU->Prop}(ho:s.heap.get? S=some o)(hex:o.ExactSet)(hd:o.data=.set es ep t)(he:es.toList=ents prog w kb)
  (T:TOk t (kb.map λp=>hsh prog w p.1)) (hl:t.led=(!w.params.followText "set-order")) (hp:t.plain=true) (Tn:∀p∈kb,TK prog w s.heap p.1 p.2) (R0:(kb.map (·.1)).Nodup) (h1:0<kb.length) (hn:kb.length≤1000)
  (h:∀h' RM,JS S s.heap h'->SP prog w h' S RM->RM.Perm kb->Q () {s with heap:=h' }):Fy (FF prog w) A (setRelay S (grown kb.length)) Q E s:=by
 have Q5:es.size=kb.length:=by rw[<-E5,he];simp[ents]
 have Q9:t.fits es.size=true:=T.fits (by rw[ES,Q5])
 have eat:∀i:Nat,es[i]?=(kb[i]?).map λ(p:List Int×E6)=>(hsh prog w p.1,FG p.2):=λi=>by rw[<-Gi,he,uB]
 have hg:grown kb.length=kb.length*4:=by unfold grown;rw[if_neg (by lia)]
 rw[hg];obtain⟨k,k3,ek,lk,uk⟩:=above (kb.length*4) (by lia)
 have SY:(sizeAbove (kb.length*4)-1)+1=2 ^ k:=by lia
 obtain⟨t',order,e,T',hord,em,el,ep',_⟩:=AZ k3 SY (hs:=es.map (·.1)) (by rw[O9,Q5];lia) t.finger (t.movedTo (sizeAbove (kb.length*4)-1)) t.led t.plain
 have hrel:t.relaid (es.map (·.1)) (kb.length*4)=some (t',order):=e;have S0:order.toList.Perm (F_ kb.length):=by rw[O9,Q5]at hord;exact hord
 have QL:∀i∈order.toList,i<kb.length:=λi hi=>Fu.mp (S0.mem_iff.mp hi)
 have Sq:=vN S0
 have hes:(order.filterMap (λi=>es[i]?)).toList=ents prog w (order.toList.filterMap λi=>kb[i]?):=by
  rw[Array.toList_filterMap];unfold ents;rw[List.map_filterMap];congr 1
  funext i
  rw[eat]
 have hes2:(order.filterMap (λi=>es[i]?)).size=es.size:=by
  rw[<-E5,hes,Q5];unfold ents;rw[ES,Sq.length_eq]
 unfold setRelay;refine EN (HI ho hd Q9 ?_);dsimp only;rw[if_neg (by rw[ek,Hv];lia),hrel]
 have goal:Fy (FF prog w) A (do
   if (order.filterMap (λi=>es[i]?)).size !=es.size then OA "internal:set-table-lost-an-element"
   pure (order.filterMap (λi=>es[i]?),t'):Sem (Array (Int×EW)×SetTable)) (λr s'=>Fy (FF prog w) A (storeSet S r.1 r.2) Q E s') E s:=by
  rw[hes2];simp only[bne_self_eq_false,Fk,if_false];refine EY ?_;refine NW ho hd ?_ (by rw[hes2,Q5,Hv];lia)
  have hg':(s.heap.update S (Kt (order.filterMap (λi=>es[i]?)) t')).get? S=some {o with data:=.set (order.filterMap (λi=>es[i]?)) (ep+1) t' }:=by
   have:=FW (Kt (order.filterMap (λi=>es[i]?)) t') ho (by rw[OB _ t' hd];rfl)
   rw[OB _ t' hd]at this;exact this
  have SA:=IW s.heap S (Kt (order.filterMap (λi=>es[i]?)) t')
  refine h _ (order.toList.filterMap λi=>kb[i]?) SA ⟨⟨_,_,_,t',hg',hex,rfl,hes,?_,by rw[el];exact hl,by rw[ep'];exact hp,?_,?_⟩,λp Rr=>?_,?_⟩ Sq
  ·have:=p8 (kb:=kb) (λp=>hsh prog w p.1) 0 order.toList QL
   rw[<-this]
   have e2:(es.map (·.1))=((kb.map λp=>hsh prog w p.1)).toArray:=by
    apply Ml.mp;rw[Mm,he,AR]
   rw[e2]at T';exact T'
  ·have hf:t'.fill=t'.place.size:=by unfold fill;rw[T'.d];rfl
   have Tr:=T'.n;rw[ES,S0.length_eq,NX]at Tr;unfold tooFull;rw[hf,Tr,em];simp;lia
  ·rw[em,Sq.length_eq];lia
  ·exact (Tn p (Sq.mem_iff.mp Rr)).keep ho hd SA
  ·exact ((Sq.map (·.1)).nodup_iff).mpr R0
 exact EN goal
theorem qE{S x:E6}{kb:List (List Int×E6)}{k:List Int}{Q:Bool->EU->Prop}(hu:A.units<JQ)(P:SP prog w s.heap S kb)(hx:TK prog w s.heap k x)(hn:kb.length<1000)
  (h:∀b h' RM,JS S s.heap h'->SP prog w h' S RM->(if k∈kb.map (·.1) then RM=kb else RM.Perm (kb++[(k,x)]))->Q b {s with heap:=h' }):
  Fy (FF prog w) A (setAddHashed S (.ref x) (hsh prog w k)) Q E s:=by
 obtain⟨⟨o,es,ep,t,ho,hex,hd,he,T,hl,hp,T7,SY⟩,Tn,R0⟩:=P;have P0:SP prog w s.heap S kb:=⟨⟨o,es,ep,t,ho,hex,hd,he,T,hl,hp,T7,SY⟩,Tn,R0⟩;have Q5:es.size=kb.length:=by rw[<-E5,he];simp[ents]
 have Q9:t.fits es.size=true:=T.fits (by rw[ES,Q5])
 obtain⟨N,hN,h0,h1⟩:=rK T (hsh prog w k);have hN':N<100000:=by unfold turns at hN;lia
 unfold setAddHashed setAddHashedIn;refine Gk (EN (HI ho hd Q9 ?_));dsimp only;rw[qY];simp only[Fk,if_false];unfold setSearch;refine EN (qq hu ho hd he T Tn hx hN h0 h1 (λRq=>?_) (λhyes=>?_) 100000 0 none (Gz _) (by lia) rfl λm i p hm=>by lia)
 ·dsimp only;have hk:k ∉ kb.map (·.1):=λz=>by obtain⟨p,Rr,e⟩:=EZ.mp z;exact Rq p Rr e
  refine EN (HI ho hd Q9 ?_);dsimp only;generalize hj:(pth t.mask (hsh prog w k) N).j=j at *;have T1:=T.put (h:=hsh prog w k) (N:=N) (by rw[hj];exact h0) h1 (by have:=yl (mask:=t.mask) (hsh prog w k) N;lia) (AW T T7)
  rw[hj]at T1;have epl:(t.put j).1.plain=true:=hp;have eled:(t.put j).1.led=(!w.params.followText "set-order"):=hl;have emask:(t.put j).1.mask=t.mask:=rfl;generalize (t.put j).1=t1 at *;generalize (t.put j).2=q at *;have RT:(gJ kb q (k,x)).length=kb.length+1:=by rw[(eV kb q (k,x)).length_eq];simp
  have he1:(insertAt es q (hsh prog w k,FG x)).toList=ents prog w (gJ kb q (k,x)):=by
   rw[eI,he];unfold ents;rw[qu];rfl
  have hsz1:(insertAt es q (hsh prog w k,FG x)).size=kb.length+1:=by
   rw[<-E5,he1];unfold ents;rw[ES,RT]
  have T2:TOk t1 ((gJ kb q (k,x)).map λp=>hsh prog w p.1):=by rw[qu];exact T1
  rw[if_pos epl];refine EN (DC hx ?_);rw[if_pos rfl]
  have hg1:(s.heap.update S (Kt (insertAt es q (hsh prog w k,FG x)) t1)).get? S=some {o with data:=.set (insertAt es q (hsh prog w k,FG x)) (ep+1) t1 }:=by
   have:=FW (Kt (insertAt es q (hsh prog w k,FG x)) t1) ho (by rw[OB _ t1 hd];rfl)
   rw[OB _ t1 hd]at this;exact this
  have SA:=IW s.heap S (Kt (insertAt es q (hsh prog w k,FG x)) t1)
  have hkb1:∀p∈gJ kb q (k,x),TK prog w (s.heap.update S (Kt (insertAt es q (hsh prog w k,FG x)) t1)) p.1 p.2:=λp Rr=>by
   have:=(eV kb q (k,x)).mem_iff.mp Rr;rcases Fn.mp this with z |z
   ·exact (Tn p z).keep ho hd SA
   ·rw[E9.mp z];exact hx.keep ho hd SA
  have hnd1:((gJ kb q (k,x)).map (·.1)).Nodup:=by
   rw[((eV kb q (k,x)).map (·.1)).nodup_iff,F4,G8];refine⟨R0,by simp,λa ha b hb=>?_⟩
   simp at hb;subst hb;rintro rfl;exact hk ha
  refine EN (NW ho hd ?_ (by rw[hsz1,Hv];lia))
  rw[JH,Jx];by_cases hft:t1.tooFull=true
  ·rw[if_pos hft,Q5,<-RT];refine EN (Dg (s:={s with heap:=s.heap.update S (Kt (insertAt es q (hsh prog w k,FG x)) t1) }) hg1 hex rfl he1 T2 eled epl hkb1 hnd1 (by lia) (by lia) λh' RM hsb' P' pm=>EY ?_)
   exact h true h' RM (SA.trans hsb') P' (by rw[if_neg hk];exact pm.trans (eV kb q (k,x)))
  ·rw[if_neg hft];refine EY (h true _ (gJ kb q (k,x)) SA ⟨⟨_,_,_,t1,hg1,hex,rfl,he1,T2,eled,epl,by simpa using hft,by rw[emask,RT];lia⟩,hkb1,hnd1⟩ (by rw[if_neg hk];exact eV kb q (k,x)))
 ·dsimp only;refine EY ?_;have hk:k∈kb.map (·.1):=by obtain⟨p,Rr,e⟩:=hyes;exact EZ.mpr ⟨p,Rr,e⟩
  exact h false s.heap kb (NY S s.heap) P0 (by rw[if_pos hk])
theorem TK.moved{s s':EU}{wr:List E6}{G:Array Jq->Array Jq->Prop}{k:List Int}{b:E6}(x:TK prog w s.heap k b)(hb:b ∉ wr)(m:Moved wr G s s'):TK prog w s'.heap k b:=by
 obtain⟨o,QC,n,ho,hc,hd,hi⟩:=x;exact⟨o,QC,n,m.heap b o hb ho,hc,hd,hi⟩
theorem SP.moved{s s':EU}{wr:List E6}{G:Array Jq->Array Jq->Prop}{S:E6}{kb:List (List Int×E6)}(x:SP prog w s.heap S kb)(hS:S ∉ wr)(hb:∀p∈kb,p.2 ∉ wr)(m:Moved wr G s s'):SP prog w s'.heap S kb:=by
 obtain⟨⟨o,es,ep,t,ho,r⟩,hk,hn⟩:=x;exact⟨⟨o,es,ep,t,m.heap S o hS ho,r⟩,λp hp=>(hk p hp).moved (hb p hp) m,hn⟩
structure Got(kx:Nat->List Int×E6)(i:Nat)(kb:List (List Int×E6)):Prop where
 src:∀p∈kb,∃j,j<i/\p=kx j
 all:∀j,j<i->(kx j).1∈kb.map (·.1)
 len:kb.length<=i
variable {R:Ng→EU→Prop}{I:E6}{fp wr:List E6}{G:Array Jq→Array Jq→Prop}{n:Nat}{P:Nat→EW→Prop}{St:Nat→EU→Prop}
theorem wb(W:WalksS prog w A.in1 I fp wr G n P St)(hu:A.in1.units<JQ){S:E6}(Rn:S ∉ fp)(kx:Nat->List Int×E6)(hP:∀i v,P i v->v=.ref (kx i).2)(hwr:∀i,i<n->(kx i).2 ∉ wr)(hn:n<=1000):
  ∀(k i:Nat) (s:EU) (kb:List (List Int×E6)),n-i=k->i<=n->St i s->SP prog w s.heap S kb->Got kx i kb->(∀j,j<n->TK prog w s.heap (kx j).1 (kx j).2)->
   (∀s' RM,Moved (S::wr) G s s'->SP prog w s'.heap S RM->Got kx n RM->R (.ok (.ret .none)) s')->
   Jc (FF prog w) A (.builtin "set.update.loop" ⟨[.ref S,.ref I],[]⟩) R s:=by
 have hSw:S ∉ wr:=λh=>Rn (W.sub _ h)
 have more:∀b∈wr,b∈S::wr:=λb hb=>ET _ hb
 intro k
 induction k with
 |zero=>
  intro i s kb hk hi st hS g tk hR;obtain rfl:i=n:=by lia
  refine GM PyProof.Rows.F.entry_set_update_loop ?_;rw[Gu PyProof.Rows.F.plain_set_update_loop _];show Fy _ A.in1 (JF (.ref I) >>=_) _ _ s;refine EN (W.done s _ _ st λs' m=>?_)
  exact EY (hR s' kb (m.mono more) (hS.moved hSw (λp hp=>by obtain⟨j,hj,rfl⟩:=g.src p hp;exact hwr j hj) m) g)
 |succ k ih=>
  intro i s kb hk hi st hS g tk hR;have QL:i<n:=by lia
  have Tn:∀p∈kb,p.2 ∉ wr:=λp hp=>by obtain⟨j,hj,rfl⟩:=g.src p hp;exact hwr j (by lia)
  refine GM PyProof.Rows.F.entry_set_update_loop ?_;rw[Gu PyProof.Rows.F.plain_set_update_loop _];show Fy _ A.in1 (JF (.ref I) >>=_) _ _ s;refine EN (W.item i s _ _ QL st λv s1 pv st1 m=>?_)
  obtain rfl:=hP i v pv;have hS1:=hS.moved hSw Tn m;have tk1:∀j,j<n->TK prog w s1.heap (kx j).1 (kx j).2:=λj hj=>(tk j hj).moved (hwr j hj) m
  show Fy _ A.in1 (NM [FG (kx i).2] (setAdd S (.ref (kx i).2)) >>=_) _ _ s1;refine EN (Gk ?_);unfold setAdd;refine Gk (EN (wpAny_pyHash_tuple hu (tk1 i QL) ?_));refine qE (s:={s1 with toks:=s1.toks+((kx i).1.length+1) }) hu hS1 (tk1 i QL) (by have:=g.len;lia) λb h' RM sb hS2 hkk=>?_
  obtain⟨⟨o,es,ep,t,ho,hex,hd,hrest⟩,hks,R0⟩:=hS1;have same:∀b o,b ∉ S::wr->s1.heap.get? b=some o->h'.get? b=some o:=λb o hb e=>by rw[sb.2 b (λz=>hb (by rw[z];exact E3))];exact e
  refine EY ⟨GS PyProof.Rows.F.plain_set_update_loop _,ih (i+1) _ RM (by lia) QL (W.frame _ s1 _ _ st1 (by show s1.toks<=s1.toks+_;lia) λb hb o e=>?_) hS2 ?_ (λj hj=>(tk1 j hj).keep ho hd sb) λs2 kb2 m2 hS3 g2=>?_⟩
  ·rw[sb.2 b (λz=>Rn (by rw[<-z];exact hb))];exact e
  ·by_cases RE:(kx i).1∈kb.map (·.1)
   ·rw[if_pos RE]at hkk;subst hkk;refine⟨λp hp=>?_,λj hj=>?_,by have:=g.len;lia⟩
    ·obtain⟨j,hj,e⟩:=g.src p hp;exact⟨j,by lia,e⟩
    ·rcases FB (G7 hj) with z |z
     ·exact g.all j z
     ·rw[z];exact RE
   ·rw[if_neg RE]at hkk;refine⟨λp hp=>?_,λj hj=>?_,by rw[hkk.length_eq];have:=g.len;simp;lia⟩
    ·rcases Fn.mp (hkk.mem_iff.mp hp) with z |z
     ·obtain⟨j,hj,e⟩:=g.src p z;exact⟨j,by lia,e⟩
     ·exact⟨i,Hg i,by rw[E9.mp z]⟩
    ·rw[(hkk.map (·.1)).mem_iff,F4];rcases FB (G7 hj) with z |z
     ·exact FH _ (g.all j z)
     ·rw[z];exact Fw _ (by simp)
  ·exact hR s2 kb2 (Moved.trans W.gtrans ((m.mono more).then_heap (by show s1.toks<=s1.toks+_;lia) same) m2) hS3 g2
end
section
variable {w:FE}{A:FC}{s:EU}
abbrev cq(w:FE):Obj:={cls:=.type "set",dict:=none,data:=.set #[] 0 (.fresh 0 0 (!w.params.followText "set-order")) }
theorem yP:TOk (.fresh 0 0 (!w.params.followText "set-order")) [] where
 R:=by intro i j x y _ h;simp[SetTable.fresh]at h
 d:=rfl
 k:=⟨3,by decide,rfl⟩
 n:=rfl
 f:=by show 0<=7;decide
 le:=by intro i x h;simp[SetTable.fresh]at h
 reach:=by intro i x h hi;simp[SetTable.fresh]at hi
theorem y4{h:GV}{S:E6}(e:h.get? S=some (cq w)):SP prog w h S []:=by
 refine⟨⟨_,_,_,_,e,⟨rfl,rfl,rfl⟩,rfl,rfl,yP,rfl,rfl,by simp[SetTable.tooFull,SetTable.fresh,SetTable.fill],by show 7<8;decide⟩,λp hp=>by simp at hp,by simp⟩
theorem AJ(a:EW){Q:EW->EU->Prop}(h:Q (.ref s.heap.objs.size) {s with heap:=s.heap.push (cq w) }):
  Jc (FF prog w) A (.call (.builtin "set.__new__") ⟨[.type "set",a],[]⟩) (wants Q E) s:=by
 refine OC ?_;show Fy _ A.in1 (do Mh "set.__new__" ⟨[.type "set",a],[]⟩;again (.builtin "set.__new__" ⟨[.type "set",a],[]⟩)) _ _ s
 refine EN (Nl (PySem.F.newCall_set_1 a) (EY ⟨GS MH _,GM PySem.F.entry_set_new ?_⟩));rw[Gu MH _];unfold Builtin.«set.__new__» Builtin.Frozenset.newClass;have hsub:=sub_set_self;obtain⟨hp,g,d,tk,os⟩:=s;dsimp only
 wp_walk
 refine JM (EY ?_);dsimp only;simp only[newObj];exact EN (wpAny_alloc (EY (EY h)))
set_option maxRecDepth 100000 in
theorem call_set_pts{l:E6}{items:Array EW}{Q:EW->EU->Prop}(kx:Nat->List Int×E6)(hh:A.handled=none)(hu:A.in1.in1.in1.units<JQ)(hl:s.heap.IsList l items)
  (RA:∀(i:Nat) (v:EW),items[i]?=some v->v=.ref (kx i).2) (RB:∀i,i<items.size->TK prog w s.heap (kx i).1 (kx i).2) (hn:items.size<=1000)
  (h:∀(h':GV) (tk:Nat) (kb:List (List Int×E6)),SP prog w h' s.heap.objs.size kb->Got kx items.size kb->(∀b o,s.heap.get? b=some o->h'.get? b=some o)->Q (.ref s.heap.objs.size) {s with heap:=h',toks:=tk }):
  Fy (FF prog w) A (call (.type "set") [.ref l]) Q E s:=by
 obtain⟨cc,tl,hmro⟩:=Hw.mro;have hmade:=Hw.made;have hsub:=Hw.sub;refine M4 (OC ?_);show Fy _ _ (callAny (.type "set") _) _ _ _;refine EY ⟨Code.quiet_builtin _ (by decide+kernel),GM PySem.F.entry_type_call ?_⟩
 rw[Around.under_plain (weight_type_call_type "set" [.ref l] []) rfl];have g1:=Hw.notType;have g2:=Hw.canCreate;have g3:=PySem.F.typeCall_set_1 (.ref l)
 repeat (any_goals (first |assumption |wp_step))
 refine JU (AJ (w:=w) (.ref l) (E:=E) (Q:=λobj QH=>obj=.ref s.heap.objs.size/\QH={s with heap:=s.heap.push (cq w) }) ⟨rfl,rfl⟩) λr QH hr=>?_
 cases r with
 |error e=>exact hr
 |ok fl=>
  cases fl with
  |ret obj=>
   obtain⟨rfl,rfl⟩:=hr;have hS:(s.heap.push (cq w)).get? s.heap.objs.size=some (cq w):=Fe _ rfl;have hT:Shared.TypeIs {s with heap:=s.heap.push (cq w) } (.ref s.heap.objs.size) "set":=⟨_,hS,rfl⟩
   have hli:=Hw.init.lookup;have hbi:=Hw.init.bind (.ref s.heap.objs.size)
   repeat (any_goals (first |assumption |wp_step))
   refine JU (KZ (R:=wants (λr Ts=>r=.none/\∃h' tk kb,Ts={s with heap:=h',toks:=tk }/\
     SP prog w h' s.heap.objs.size kb/\Got kx items.size kb/\(∀b o,s.heap.get? b=some o->h'.get? b=some o)) E) Hw.init.plain PySem.F.entry_set_init (check_set_init_1 hT ?_)) λr₂ Ts S6=>?_
   ·obtain⟨ol,hol,hcl,nl,hdl⟩:=hl;obtain⟨ocls,odict,odata,oslots⟩:=ol;simp only at hcl hdl;subst hcl;subst hdl;have hol':(s.heap.push (cq w)).get? l=some {cls:=.type "list",dict:=odict,data:=.seq items nl,slots:=oslots }:=EV _ hol;have k1:=PySem.F.sub_list_set;have k2:=PySem.F.sub_list_frozenset;have k3:(GI "list"==GI "dict")=false:=by decide
    have RC:(s.heap.push (cq w)).IsList l items:=⟨_,hol',rfl,nl,rfl⟩;unfold Builtin.«set.__init__» noKeywords Builtin.Frozenset.updateFrom;generalize hPI:N6=PI
    wp_walk
    subst hPI;refine HE RC (EN (wpAny_runValue ?_));have hlS:l<s.heap.objs.size:=E_ hol;have h3:A.in1.in1.in1.handled=none:=by simp[hh]
    have szI:(s.heap.push (cq w)).objs.size=s.heap.objs.size+1:=Hu ..;have hneI:l≠(s.heap.push (cq w)).objs.size:=by rw[szI];exact FJ (HG hlS)
    have Rn:s.heap.objs.size ∉ [(s.heap.push (cq w)).objs.size,l]:=by
     rw[szI];intro z;rcases E1.mp z with z |z
     ·exact absurd z (FJ (Hg _))
     ·exact absurd (E9.mp z) (Lu hlS)
    refine wb ((Walks.list h3 _ l hneI items).toS) hu Rn kx RA (λi hi=>?_) hn (items.size-0) 0 _ [] (by lia) (Gz _)
     ⟨⟨_,Fe _ rfl,rfl,rfl⟩,(RC.push _)⟩ ?_ ⟨λp hp=>by simp at hp,λj hj=>by lia,by simp⟩ (λj hj=>?_) λs' kb m RU g=>?_
    ·intro z;have z':=E9.mp z;obtain⟨o,_,_,ho,_⟩:=RB i hi;have:=E_ ho;rw[z',szI]at this;exact FM _ (MD (Hg _) this)
    ·exact y4 (EV _ hS)
    ·obtain⟨o,QC,k,ho,r⟩:=RB j hj;exact⟨o,QC,k,EV _ (EV _ ho),r⟩
    ·obtain⟨h',g',d',tk',os'⟩:=s';obtain rfl:g'=s.gens:=m.gens;obtain rfl:d'=s.drawn:=m.drawn;obtain rfl:os'=s.os:=m.os;refine EY ?_;show Fy _ _ (ret FX) _ _ _;refine EY ⟨rfl,h',tk',kb,rfl,RU,g,λb o e=>?_⟩
     have hb:=E_ e;refine m.heap b o (λz=>?_) (EV _ (EV _ e))
     rcases E1.mp z with z |z
     ·exact absurd z (FJ hb)
     ·have z':=E9.mp z;rw[z',szI]at hb;exact FM _ (MD (Hg _) hb)
   ·cases r₂ with
    |error e=>exact S6
    |ok fl₂=>
     cases fl₂ with
     |ret r=>
      obtain⟨rfl,h',tk,kb,rfl,RU,g,T4⟩:=S6
      repeat (any_goals (first |assumption |wp_step))
      exact h _ _ kb RU g T4
     |_=>exact S6.elim
  |_=>exact hr.elim
end
theorem dG:Slot "set_iterator" "__next__" "set_iterator.__next__":=
 .of (owner:="set_iterator") (n:="__next__") (by rw[Jl,HQ];kernel_rfl) (by decide+kernel) (by decide+kernel) (by decide+kernel) (by first |exact .inl (by decide+kernel) |exact .inr (by decide+kernel)) (by rw[KC];kernel_rfl)
theorem jT:entryFor table "set_iterator.__next__"=some Builtin.«set_iterator.__next__»:=entryFor_of_tree (by kernel_rfl)
theorem mi(a:EW):argsOk "set_iterator.__next__" ⟨[a],[]⟩:=by unfold argsOk;kernel_rfl
theorem rq:entryFor table "set.__iter__"=some Builtin.«frozenset.__iter__»:=O_ (id':="frozenset.__iter__") (by kernel_rfl) rfl (by decide+kernel) (by kernel_rfl)
theorem rY{α:Type}{l:List α}{i:Nat}(h:i<l.length):(l[i]::l.eraseIdx i).Perm l:=by
 rw[List.eraseIdx_eq_take_drop_succ];refine Mj.symm.trans ?_;rw[<-Gd h,FL]
theorem um{α:Type}(next:Nat->Nat):∀(QN k:Nat) (left:List α) (out:Array α),left.length=QN->(pickOrder.go next QN k left out).toList.Perm (out.toList++left)
 |0,k,left,out,h=>by
  obtain rfl:left=[]:=G6.mp h;rw[pickOrder.go,GL]
 |QN+1,k,left,out,h=>by
  have hi:next k%left.length<left.length:=IM _ (by lia)
  rw[pickOrder.go,EO hi];refine (um next QN (k+1) _ _ (by rw[List.length_eraseIdx_of_lt hi];lia)).trans ?_
  rw[Ik,Fi];refine HR _ ?_;rw[List.singleton_append];exact rY hi
theorem wJ{α:Type}(next:Nat->Nat)(xs:Array α):(NB next xs).toList.Perm xs.toList:=by
 unfold NB;have:=um next xs.size 0 xs.toList #[] (by simp)
 simpa using this
section
variable {w:FE}{A:FC}{s:EU}
def cA(w:FE)(S:E6)(es:Array (Int×EW))(ep:Nat):List EW:=(if w.params.followText "set-order"=true then NB (w.params.setOrder S ep) es else es).toList.map (·.2)
theorem eW(w:FE)(S:E6)(es:Array (Int×EW))(ep:Nat):(cA w S es ep).Perm (es.toList.map (·.2)):=by
 unfold cA;refine List.Perm.map _ ?_;split
 ·exact wJ _ es
 ·exact LC _
def fS(t:SetTable):Nat->Nat
 |0=>0
 |j+1=>t.place.getD j 0+1
def a9(w:FE)(t:SetTable)(i:Nat):Nat:=if w.params.followText "set-order"=true then 0 else fS t i
def ri(w:FE)(h:GV)(it S:E6)(t:SetTable)(i n ep:Nat):Prop:=∃o,h.get? it=some o∧o.cls=.type "set_iterator"∧o.data=.fields #[Lv (a9 w t i),Lv i,.ref S,Lv n,Lv ep]
theorem ri.ty{it S:E6}{t:SetTable}{i n ep:Nat}(x:ri w s.heap it S t i n ep):s.TypeIs (.ref it) "set_iterator":=let ⟨o,ho,hc,_⟩:=x;⟨o,ho,hc⟩
structure SO(prog:E8)(w:FE)(o:Obj)(es:Array (Int×EW))(ep:Nat)(t:SetTable)(hs:List Int):Prop where
 ex:o.ExactSet
 d:o.data=.set es ep t
 T:TOk t hs
 n:hs.length=es.size
 led:t.led=(!w.params.followText "set-order")
 plain:t.plain=true
theorem wt{S:E6}{o:Obj}{es ep t hs}{Q:Bool->EU->Prop}(O:SO prog w o es ep t hs)(ho:s.heap.get? S=some o)(h:Q false s):Fy (FF prog w) A (setDrawn S) Q E s:=by
 unfold setDrawn PR;refine EN (HI ho O.d (O.T.fits O.n) (EN (EN (JM (EY (EY ?_))))));have q:Q (!w.params.followText "set-order" && (!t.plain && decide (es.size >1))) s:=by rw[O.plain];simpa using h
 exact q
theorem xw{S:E6}{o:Obj}{es ep t hs}{Q:EW->EU->Prop}(O:SO prog w o es ep t hs)(ho:s.heap.get? S=some o)
  (hQ:Q (.ref s.heap.objs.size) {s with heap:=s.heap.push {cls:=.type "set_iterator",data:=.fields #[Lv 0,Lv 0,.ref S,Lv es.size,Lv ep] } }):Fy (FF prog w) A (N6 (.ref S)) Q E s:=by
 have hT:s.TypeIs (.ref S) "set":=⟨o,ho,O.ex.1⟩;refine LM hT MJ (GN MJ hT rq ?_ (PySem.F.args_set_iter_1 _));unfold Builtin.«frozenset.__iter__»;show Fy _ _ (Builtin.Frozenset.sizeOf S >>=_) _ _ s;unfold Builtin.Frozenset.sizeOf;refine EN (EN (La ho O.d (O.T.fits O.n) (EY ?_)));refine EN (wt O ho ?_);simp only[Fk,if_false];refine EN (EY ?_);refine EN (wpAny_setEpoch_of ho O.d (O.T.fits O.n) ?_);refine EN (Ij (EY ⟨_,rfl,"set_iterator",_,⟨_,Fe _ rfl,rfl⟩,dG.lookup,?_⟩));exact hQ
theorem sr{t:SetTable}{hs:List Int}(T:TOk t hs){i:Nat}(hi:i<=t.place.size):below t.place (fS t i)=i:=by
 obtain⟨h1,h2,h3⟩:=fC T.R (fS t i);cases i with
 |zero=>
  dsimp only[fS]at *;rcases J_ (below t.place 0) with z |z
  ·exact z
  ·have:=h1 0 _ z (eA (by lia));lia
 |succ j=>
  dsimp only[fS]at *;have hj:j<t.place.size:=by lia
  have ej:t.place.getD j 0=t.place[j]:=by simp[Jw,hj]
  rw[ej]at h1 h2 h3 |-;generalize hb:below t.place (t.place[j]+1)=b at *;rcases Jv b (j+1) with z |z |z
  ·have:=h2 j t.place[j] (by lia) (eA hj);lia
  ·exact z
  ·have q:=h1 (j+1) _ z (eA (by lia))
   have:=T.R j (j+1) _ _ (by lia) (eA hj) (eA (show j+1<t.place.size by lia))
   lia
theorem kC{S:E6}{o:Obj}{es ep t hs}{i:Nat}{Q:Option (EW×Nat)->EU->Prop}(O:SO prog w o es ep t hs)(ho:s.heap.get? S=some o)(hi:i<=es.size)
  (h:Q (((cA w S es ep)[i]?).map λv=>(v,a9 w t (i+1))) s):Fy (FF prog w) A (setNext S (a9 w t i) i ep) Q E s:=by
 have Q9:=O.T.fits O.n;have QZ:t.place.size=es.size:=by rw[O.T.n,O.n]
 unfold setNext PR;refine EN (HI ho O.d Q9 (EN (EN (JM (EY ?_)))));by_cases bt:w.params.followText "set-order"=true
 ·dsimp only;rw[show (FF prog w).w.params.followText "set-order"=true from bt,if_pos rfl,if_neg (by simp)]
  unfold setWalk PR;refine EN (EN (HI ho O.d Q9 (EN (EN (JM (EY ?_))))));dsimp only;rw[show (FF prog w).w.params.followText "set-order"=true from bt,if_pos rfl]
  refine EN (JM (EY (EY ?_)))
  have e:NZ (λ(e:Int×EW)=>(e.2,a9 w t i)) (NB (w.params.setOrder S ep) es)[i]?=((cA w S es ep)[i]?).map λv=>(v,a9 w t (i+1)):=by
   unfold cA a9;rw[if_pos bt,if_pos bt,if_pos bt,E7,Gi,Option.map_map];rfl
  have q:Q (NZ (λ(e:Int×EW)=>(e.2,a9 w t i)) (NB (w.params.setOrder S ep) es)[i]?) s:=by rw[e];exact h
  exact q
 ·have bf:w.params.followText "set-order"=false:=by simpa using bt
  dsimp only;rw[show (FF prog w).w.params.followText "set-order"=false from bf,if_neg (by simp)]
  have e1:a9 w t i=fS t i:=by unfold a9;rw[if_neg bt]
  have e2:below t.place (a9 w t i)=i:=by rw[e1];exact sr O.T (by lia)
  have e3:(match es[below t.place (a9 w t i)]?,t.place[below t.place (a9 w t i)]? with
    |some (_,x),some j=>some (x,j+1)
    |_,_=>none)=((cA w S es ep)[i]?).map λv=>(v,a9 w t (i+1)):=by
   rw[e2];unfold cA a9;rw[if_neg bt,if_neg bt,E7,Gi];rcases GR i es.size with z |z
   ·have z':i<t.place.size:=by lia
    simp[z,z',Jw,fS]
   ·have z':t.place.size<=i:=by lia
    simp[z,z']
  split
  ·rename_i hc
   exact absurd (show (!t.plain && decide (es.size >1))=true from hc) (by rw[O.plain];simp)
  ·refine EN ?_;show Fy _ _ (if (!t.led && !es.isEmpty)=true then OA "set:maker-not-led" else pure ()) _ _ _
   rw[O.led,bf,if_neg (by simp)]
   refine EY (EY ?_)
   have q:Q (match es[below t.place (a9 w t i)]?,t.place[below t.place (a9 w t i)]? with
    |some (_,x),some j=>some (x,j+1)
    |_,_=>none) s:=by rw[e3];exact h
   exact q
theorem vd{S it:E6}{o:Obj}{es ep t hs}{i:Nat}{v:EW}{Q:Option EW->EU->Prop}(O:SO prog w o es ep t hs)(ho:s.heap.get? S=some o)(RA:ri w s.heap it S t i es.size ep)(hv:(cA w S es ep)[i]?=some v)
  (hQ:∀h',ri w h' it S t (i+1) es.size ep->JS it s.heap h'->Q (some v) {s with heap:=h' }):Fy (FF prog w) A (JF (.ref it)) Q E s:=by
 obtain⟨oi,hoi,hc,hd⟩:=id RA;have Q9:=O.T.fits O.n;unfold JF;refine EN (IU (Ia (name:=Str.ofString "__next__") RA.ty dG (GN dG RA.ty jT ?_ (mi _))));unfold Builtin.«set_iterator.__next__»;refine EN (m:=slotArgs "__next__" 0 _) (EY ?_);dsimp only;refine EN (Pa hoi hd ?_);dsimp only[Lv];refine EN (La ho O.d Q9 ?_);rw[if_neg (by simp)]
 have QL:i<es.size:=by
  have q:=(Fb.mp hv).1;rw[(eW w S es ep).length_eq,ES,E5]at q;exact q
 rw[show ((a9 w t i:Nat):Int).toNat=a9 w t i from Il _,show ((i:Nat):Int).toNat=i from Il _,show ((ep:Nat):Int).toNat=ep from Il _]
 refine EN (kC O ho (Gw QL) ?_);rw[hv];dsimp only[NZ];refine EN (Ni hoi hd (by simp) ?_)
 have g1:=FW (Obj.mapFields (·.setIfInBounds 0 (Gv ((a9 w t (i+1):Nat):Int) 0))) hoi (MK (Iz hd _));refine EN (Ni g1 (Iz hd _) (by simp) ?_)
 refine EY ⟨_,rfl,EY (hQ _ ?_ ((IW ..).trans (IW ..)))⟩;refine⟨_,FW _ g1 (MK (Iz (Iz hd _) _)),(N0 ..).trans ((N0 ..).trans hc),?_⟩;rw[Iz (Iz hd _)];simp[Lv]
theorem xk{S it:E6}{o:Obj}{es ep t hs}{Q:Option EW->EU->Prop}(hh:A.handled=none)(O:SO prog w o es ep t hs)(ho:s.heap.get? S=some o)(RA:ri w s.heap it S t es.size es.size ep)
  (hQ:∀h',Heap.ExtBut it s.heap h'->Q none {s with heap:=h' }):Fy (FF prog w) A (JF (.ref it)) Q E s:=by
 obtain⟨oi,hoi,hc,hd⟩:=id RA;have Q9:=O.T.fits O.n;unfold JF;refine EN (IU (Ia (name:=Str.ofString "__next__") RA.ty dG (GN dG RA.ty jT ?_ (mi _))));unfold Builtin.«set_iterator.__next__»;refine EN (m:=slotArgs "__next__" 0 _) (EY ?_);dsimp only;refine EN (Pa hoi hd ?_);dsimp only[Lv];refine EN (La ho O.d Q9 ?_);rw[if_neg (by simp)]
 rw[show ((a9 w t es.size:Nat):Int).toNat=a9 w t es.size from Il _,show ((es.size:Nat):Int).toNat=es.size from Il _,show ((ep:Nat):Int).toNat=ep from Il _]
 refine EN (kC O ho (E2 _) ?_);rw[show (cA w S es ep)[es.size]?=none from FK (by rw[(eW w S es ep).length_eq,ES,E5];exact E2 _)]
 dsimp only[NZ];refine EN (Ni hoi hd (by simp) ?_)
 refine EN ?_;simp only[newExc,newTuple];refine EN (Ij ?_ (by size_fits))
 refine EN (m:=Pb _ _) (Nl (a:=FX) (by first |rfl | (simp only[Pb];rfl)) ?_)
 refine Ij ?_ (by size_fits)
 simp only[raiseNew];refine EN (wpAny_handled ?_);rw[show A.in1.handled=none from hh]
 refine EN (EY (wpAny_throw ?_));refine EN (Iu (T:="StopIteration") (b:=true) ⟨_,Fe _ rfl,rfl⟩ Nj ?_);exact EY (hQ _ (((IW ..).extBut.push _).push _))
end
end ST
namespace ST
open PySem PySem.SetTable PySem.W
theorem l6:Slot "set_iterator" "__iter__" "set_iterator.__iter__":=
 .of (owner:="set_iterator") (n:="__iter__") (by rw[Jl,HQ];kernel_rfl) (by decide+kernel) (by decide+kernel) (by decide+kernel) (by first |exact .inl (by decide+kernel) |exact .inr (by decide+kernel)) (by rw[KC];kernel_rfl)
theorem r6:entryFor table "set_iterator.__iter__"=some Builtin.«dict_keyiterator.__iter__»:=O_ (id':="dict_keyiterator.__iter__") (by kernel_rfl) rfl (by decide+kernel) (by kernel_rfl)
theorem uU(a:EW):argsOk "set_iterator.__iter__" ⟨[a],[]⟩:=by unfold argsOk;kernel_rfl
section
variable {prog:E8}{w:FE}{A:FC}{E:EW→EU→Prop}{s:EU}
theorem As{it S:E6}{t:SetTable}{i n ep:Nat}{Q:EW->EU->Prop}(RA:ri w s.heap it S t i n ep)(h:Q (.ref it) s):Fy (FF prog w) A (N6 (.ref it)) Q E s:=by
 refine LM RA.ty l6 (GN l6 RA.ty r6 ?_ (uU _));exact EY ⟨_,rfl,"set_iterator",_,RA.ty,dG.lookup,h⟩
theorem vF(hh:A.handled=none){it S:E6}(QF:S≠it){o:Obj}{es ep t hs}(O:SO prog w o es ep t hs):
  Walks prog w A it [it,S] [it] es.size (λi v=>(cA w S es ep)[i]?=some v) (λi h=>ri w h it S t i es.size ep/\h.get? S=some o) where
 sub:=λb hb=>by simp at hb;simp[hb]
 frame:=λ_ _ _ st hk=>⟨let ⟨x,hx,r⟩:=st.1;⟨x,hk it (by simp) x hx,r⟩,hk S (by simp) o st.2⟩
 item:=λi s Q E hi st hQ=>by
  obtain⟨v,hv⟩:∃v,(cA w S es ep)[i]?=some v:=⟨_,EO (by rw[(eW w S es ep).length_eq,ES,E5];exact hi)⟩
  refine vd O st.2 st.1 hv λh' hit' sb=>?_
  exact hQ v h' s.toks hv ⟨hit',(sb.2 S QF).trans st.2⟩ λb x hb e=>sb.extBut b x (λz=>hb (by simp[z])) e
 done:=λs Q E st hQ=>xk hh O st.2 st.1 λh' xb=>hQ h' s.toks λb x hb e=>xb b x (λz=>hb (by simp[z])) e
 self:=λ_ _ _ _ st hQ=>As st.1 hQ
theorem yE{r:E6}{Q:Bool→EU→Prop}(hT:s.TypeIs (.ref r) "set")(h:Q false s):Fy (FF prog w) A (Builtin.List.listLengthHint (.ref r)) Q E s:=by
 unfold Builtin.List.listLengthHint;refine EN (Jk hT PySem.F.slot_set_len.lookup ?_);generalize hid:("set.__len__":String)=id0
 wp_delta
 rw[show splitId id0=some ("set","__len__") from by subst hid;decide+kernel]
 subst hid;refine EN (Iu (T:="set") (b:=true) hT (by rw[KC];kernel_rfl) ?_)
 refine IP (λz=>absurd z (by decide)) (λ_=>?_)
 refine IP (λ_=>?_) (λz=>absurd (by decide+kernel) z)
 exact EN (MF hT (EY h))
theorem Ao{S:E6}{o:Obj}{es ep t hs}(O:SO prog w o es ep t hs):KdlSrc prog w "set" S S es.size (λi v=>(cA w S es ep)[i]?=some v) (λh=>h.get? S=some o) where
 type:=λ_ hm=>⟨o,hm,O.ex.1⟩
 there:=λ_ hm=>⟨E_ hm,E_ hm⟩
 keep:=λ_ _ hm hk=>hk S (.inl rfl) o hm
 notList:=by decide
 notTuple:=by decide
 hint:=λ_ _ _ _ hm hq=>yE ⟨o,hm,O.ex.1⟩ hq
 iter:=λ_ s hh hm=>⟨_,_,(λ_ _ hq=>xw O hm hq),vF hh (FJ (E_ hm)) O,⟨⟨_,Fe _ rfl,rfl,by simp[a9,fS]⟩,EV _ hm⟩⟩
end
end ST
namespace ST
open PySem PySem.W PyProof.Rows
inductive B_ (lt:Nat->Nat->Bool) (n:Nat) {α:Type}:KasT α->α->Prop
 |ret (a:α):B_ lt n (.ret a) a
 |ask {i j:Nat}{k:Bool->KasT α}{a:α}:i<n->j<n->B_ lt n (k (lt i j)) a->B_ lt n (.ask i j k) a
variable {lt:Nat→Nat→Bool}{n:Nat}
structure LtO(n:Nat)(lt:Nat->Nat->Bool):Prop where
 tr:∀i j k,lt i j=true->lt j k=true->lt i k=true
 tot:∀i j,i<n->j<n->i≠j->lt i j=false->lt j i=true
 asy:∀i j,lt i j=true->lt j i=false
abbrev g(p:Array Nat)(k:Nat):Nat:=p.getD k 0
structure PP(n:Nat)(p:Array Nat):Prop where
 perm:p.toList.Perm (F_ n)
def ltP(a b:Int×Int):Bool:=decide (a.1<b.1\/(a.1=b.1/\a.2<b.2))
theorem j_{a b c:Int×Int}(h1:ltP a b=true)(h2:ltP b c=true):ltP a c=true:=by
 unfold ltP at *;simp at *;lia
theorem ie{a b:Int×Int}(h1:ltP a b=true):ltP b a=false:=by
 unfold ltP at *;simp at *;lia
theorem ltP_tot{a b:Int×Int}(h:a≠b)(h1:ltP a b=false):ltP b a=true:=by
 unfold ltP at *;have:¬ (a.1=b.1/\a.2=b.2):=λz=>h (Gf z.1 z.2)
 simp at *;lia
section
variable {prog:E8}{w:FE}{A:FC}{E:EW→EU→Prop}{s:EU}
theorem TK.two{h:GV}{x y:Int}{b:E6}(k:TK prog w h [x,y] b):∃o QC n t u,h.get? b=some o∧o.cls=.type "tuple"∧o.data=.seq QC n∧QC.toList=[.int x t,.int y u]:=by
 obtain⟨o,QC,n,ho,hc,hd,hi⟩:=k;cases QO:QC.toList with
 |nil=>rw[QO]at hi;cases hi
 |cons v1 r=>
  rw[QO]at hi;cases hi with
  |cons h1 hr=>
   cases hr with
   |cons h2 hr2=>
    cases hr2;obtain⟨t,rfl⟩:=Ko h1;obtain⟨u,rfl⟩:=Ko h2;exact⟨o,QC,n,t,u,ho,hc,hd,QO⟩
theorem B3{x y:E6}{a b:Int×Int}{Q:Bool->EU->Prop}(hx:TK prog w s.heap [a.1,a.2] x)(hy:TK prog w s.heap [b.1,b.2] y)(h:Q (ltP a b) s):Fy (FF prog w) A (keyLt' (OD true) (.ref x) (.ref y)) Q E s:=by
 obtain⟨o,QC,n,t,u,ho,_,hd,hi⟩:=hx.two;obtain⟨o',its',n',t',u',RH,_,RK,QO⟩:=hy.two;refine kat_lt ho hd RH RK ?_;rw[hi,QO];refine kat_cons ((LB prog w).eqBool (a:=a.1) (b:=b.1) (HJ _ _ _ _) (HJ _ _ _ _) ?_);by_cases e1:a.1=b.1
 ·rw[decide_eq_true e1];refine kat_yes (kat_cons ((LB prog w).eqBool (a:=a.2) (b:=b.2) (HJ _ _ _ _) (HJ _ _ _ _) ?_));by_cases e2:a.2=b.2
  ·rw[decide_eq_true e2];refine kat_yes (kat_nil ?_);have z:ltP a b=false:=by unfold ltP;simp;lia
   rw[z]at h
   have z2:decide (QC.size<its'.size)=false:=by
    rw[<-E5,<-E5,hi,QO];simp
   rw[z2];exact h
  ·rw[decide_eq_false e2];refine kat_no (kat_one _ _ (lt_int ?_));have z:ltP a b=decide (a.2<b.2):=by unfold ltP;rw[e1];simp
   rw[z]at h;exact h
 ·rw[decide_eq_false e1];refine kat_no (oneLt_int ?_);have z:ltP a b=decide (a.1<b.1):=by unfold ltP;simp[e1]
  rw[z]at h;exact h
abbrev PB:=List ((Int×Int)×E6)
abbrev refs(pb:PB):List EW:=pb.map λp=>FG p.2
theorem xL{pb:PB}{Q:JN->EU->Prop}(RB:∀p∈pb,TK prog w s.heap [p.1.1,p.1.2] p.2)(h0:0<pb.length)(h:Q (OD true) s):Fy (FF prog w) A (keyKind' (refs pb).toArray) Q E s:=by
 obtain⟨fs,hf,hl,hi⟩:∃fs,KatTups s.heap (refs pb) fs/\fs.length=pb.length/\∀v∈fs,∃n t,v=Gv n t:=by
  clear h h0
  induction pb with
  |nil=>exact⟨[],.nil,rfl,λv hv=>by simp at hv⟩
  |cons p r ih=>
   obtain⟨fs,hf,hl,hi⟩:=ih λq hq=>RB q (ET _ hq)
   obtain⟨o,QC,n,t,u,ho,hc,hd,RA⟩:=(RB p E3).two;refine⟨.int p.1.1 t::fs,.cons ho hc hd (by rw[<-Gi,RA];rfl) hf,by simp[hl],λv hv=>?_⟩
   rcases E1.mp hv with z |z
   ·exact⟨_,_,z⟩
   ·exact hi v z
 refine kat_kind (T:=.type "int") hf (by lia) (λv hv=>?_) (by decide) h
 obtain⟨n,t,rfl⟩:=hi v hv;exact Looks.of_pure rfl
end
end ST
namespace ST
open PySem PySem.W PyProof.Rows PySem.Calls
theorem y9{α β:Type}(f:α->β){l m:List β}(h:l.Perm m):∀kb:List α,m=kb.map f->∃RM:List α,KJ RM kb/\l=List.map f RM:=by
 induction h with
 |nil=>intro kb e;exact⟨kb,.refl _,e⟩
 | @cons x l m _ ih=>
  intro kb e
  match kb,e with
  |[],e=>simp at e
  |k::kb,e=>
   rw[Ft,ML]at e;obtain⟨RM,p,e'⟩:=ih kb e.2;exact⟨k::RM,p.cons k,by rw[Ft,<-e',e.1]⟩
 |swap x y l=>
  intro kb e
  match kb,e with
  |[],e=>simp at e
  |[_],e=>simp at e
  |k::k'::kb,e=>
   simp only[Ft,ML]at e;exact⟨k'::k::kb,.swap k k' kb,by rw[Ft,Ft,<-e.2.2,e.1,e.2.1]⟩
 |trans _ _ ih1 ih2=>
  intro kb e;obtain⟨kb2,p2,e2⟩:=ih2 kb e;obtain⟨T8,p1,e1⟩:=ih1 kb2 e2;exact⟨T8,p1.trans p2,e1⟩
def ptsOf(kb:List (List Int×E6)):PB:=kb.map λp=>((p.1.getD 0 0,p.1.getD 1 0),p.2)
section
variable {prog:E8}{w:FE}{A:FC}{E:EW→EU→Prop}{s:EU}
end
end ST
namespace ST
open PySem
def ins(x:Int×Int):List (Int×Int)->List (Int×Int)
 |[]=>[x]
 |y::r=>if x=y then y::r else if ltP x y=true then x::y::r else y::ins x r
def srt(pts:List (Int×Int)):List (Int×Int):=pts.foldr ins []
theorem ins_mem(x z:Int×Int):∀l,z∈ins x l↔z=x\/z∈l
 |[]=>by simp[ins]
 |y::r=>by
  unfold ins;split
  ·rename_i h;subst h;simp
  ·split
   ·simp
   ·rw[E1,ins_mem x z r,E1];constructor
    ·rintro (h |h |h)
     ·exact .inr (.inl h)
     ·exact .inl h
     ·exact .inr (.inr h)
    ·rintro (h |h |h)
     ·exact .inr (.inl h)
     ·exact .inl h
     ·exact .inr (.inr h)
abbrev Asc(l:List (Int×Int)):Prop:=l.Pairwise (λx y=>ltP x y=true)
theorem ins_asc(x:Int×Int):∀l,Asc l->Asc (ins x l)
 |[],_=>by simp[ins]
 |y::r,h=>by
  unfold ins;split
  ·exact h
  ·rename_i QF
   obtain⟨h1,h2⟩:=Fh.mp h;split
   ·rename_i QL
    refine Fh.mpr ⟨λz hz=>?_,h⟩
    rcases E1.mp hz with e |e
    ·rw[e];exact QL
    ·exact j_ QL (h1 z e)
   ·rename_i QL
    refine Fh.mpr ⟨λz hz=>?_,ins_asc x r h2⟩
    rcases (ins_mem x z r).mp hz with e |e
    ·rw[e];exact ltP_tot QF (by simpa using QL)
    ·exact h1 z e
theorem srt_mem(z:Int×Int):∀l,z∈srt l↔z∈l
 |[]=>by simp[srt]
 |y::r=>by
  show z∈ins y (srt r)↔_;rw[ins_mem,srt_mem z r,E1]
theorem srt_asc:∀l,Asc (srt l)
 |[]=>Ju
 |y::r=>ins_asc y (srt r) (srt_asc r)
theorem asc_irr{x:Int×Int}:ltP x x=false:=by unfold ltP;simp
theorem asc_one:∀{l m:List (Int×Int)},Asc l->Asc m->(∀z,z∈l↔z∈m)->l=m
 |[],[],_,_,_=>rfl
 |[],y::r,_,_,h=>by have:=(h y).mpr E3;simp at this
 |x::l,[],_,_,h=>by have:=(h x).mp E3;simp at this
 |x::l,y::m,hl,hm,h=>by
  obtain⟨a1,a2⟩:=Fh.mp hl;obtain⟨b1,b2⟩:=Fh.mp hm
  have e:x=y:=by
   rcases E1.mp ((h x).mp E3) with z |z
   ·exact z
   ·rcases E1.mp ((h y).mpr E3) with z' |z'
    ·exact z'.symm
    ·have:=ie (b1 x z);rw[a1 y z']at this;cases this
  subst e;congr 1;refine asc_one a2 b2 λz=>⟨λhz=>?_,λhz=>?_⟩
  ·rcases E1.mp ((h z).mp (ET _ hz)) with e |e
   ·have:=a1 z hz;rw[e,asc_irr]at this;cases this
   ·exact e
  ·rcases E1.mp ((h z).mpr (ET _ hz)) with e |e
   ·have:=b1 z hz;rw[e,asc_irr]at this;cases this
   ·exact e
theorem asc_srt{l:List (Int×Int)}(h:Asc l):srt l=l:=asc_one (srt_asc l) h λz=>srt_mem z l
theorem tY(x:Int×Int):∀l,(ins x l).length<=l.length+1
 |[]=>by simp[ins]
 |y::r=>by
  have:=tY x r;unfold ins;split
  ·simp
  ·split
   ·simp
   ·simp only[FN];lia
theorem srt_len:∀l,(srt l).length<=l.length
 |[]=>E2 _
 |y::r=>by
  have h1:=tY y (srt r);have h2:=srt_len r;show (ins y (srt r)).length<=_;simp only[FN];lia
end ST
namespace L2
open PySem PySem.Spec PyProof.Rows
theorem EM{p:Nat->E6->Prop}{n:Nat}(h:∀i,i<n->∃b,p i b):∃f:Nat->E6,∀i,i<n->p i (f i):=by
 refine⟨λi=>if k:i<n then Od (h i k) else 0,λi hi=>?_⟩
 dsimp only;rw[dif_pos hi];exact MM (h i hi)
theorem xK:GQ "set"=some (.type "set"):=by decide+kernel
section
variable {X:Cx}{H0:Hp}{O0:List E6}{ps:PSt}{e:Expr}{pts:List P2}{QB QP p p':Pos}
end
end L2
namespace ST
open PySem
section
variable {prog:E8}{w:FE}{A:FC}{s:EU}{R:Ng→EU→Prop}{I:E6}{fp wr:List E6}{G:Array Jq→Array Jq→Prop}{n:Nat}{P:Nat→EW→Prop}{St:Nat→EU→Prop}{T:String}
def yB(prog:E8)(w:FE)(T:String):Prop:=∀(A:FC) (E:EW->EU->Prop) (s:EU) (r:E6) (Q:Bool->EU->Prop),s.TypeIs (.ref r) T->(∀b,Q b s)->Fy (FF prog w) A (Builtin.List.listLengthHint (.ref r)) Q E s
theorem ve(W:WalksS prog w A.in1 I fp wr G n P St)(hT:∀i s,St i s→s.TypeIs (.ref I) T)(hl:(GI T==GI "list")=false)(ht:(GI T==GI "tuple")=false)(hint:yB prog w T)(S:E6)(res:EW)(c₀:Nat)(Q7:St 0 s)(Rn:S ∉ fp)(hI:I∈fp)
  (hS:s.heap.get? S=some {cls:=.type "list",data:=.seq #[] c₀ })
  (hR:∀s' Ra c',Moved (S::wr) G s s'→s'.heap.get? S=some {cls:=.type "list",dict:=none,data:=.seq Ra c',slots:=#[] }→ItemsOf P Ra n→R (.ok (.ret res)) s') (hn:n≤sizeLine):
  Fy (FF prog w) A.in1 (Builtin.List.listExtendWith (.ref S) (.ref I) res)
   (λfin s'=>match fin with | .done f=>R (.ok f) s' | .again c'=>c'.quiet=true/\Jc (FF prog w) A c' R s') (λe s'=>R (.error e) s') s:=by
 have hSI:S≠I:=λe=>Rn (e ▸ hI)
 unfold Builtin.List.listExtendWith;refine EN (MF (hT 0 _ Q7) ?_);have k1:Builtin.List.listSameRef (.ref S) (.ref I)=false:=by simp[Builtin.List.listSameRef,hSI]
 simp only[k1,hl,ht,P6,Fk,if_false];refine EN (W.self 0 _ _ _ Q7 (EN (Gk (hint _ _ _ _ _ (hT 0 _ Q7) λb=>?_))))
 refine IP (λ_=>?_) (λ_=>?_)
 ·refine EN (Kp (EN ?_));show Fy _ A.in1 (JI S (·.push .none) >>=λ_=>JI S (·.pop)) _ _ _
  refine EN (GO hS rfl ?_);have g2:=FW (Gq (·.push FX)) hS rfl;refine GO (hz:=by seq_fits) g2 rfl ?_
  have g3:=FW (Gq (·.pop)) g2 rfl;have Q3:∀b o,b≠S->s.heap.get? b=some o->((s.heap.update S (Gq (·.push FX))).update S (Gq (·.pop))).get? b=some o:=λb o hb e=>(FD _ _ (Ne.symm hb)).trans ((FD _ _ (Ne.symm hb)).trans e)
  refine EY ⟨GS GP _,M_ W hn _ Rn _ n 0 _ _ _ rfl (Gz _) (W.frame 0 s _ s.toks Q7 (E2 _) λb hb o e=>Q3 b o (λz=>Rn (z ▸ hb)) e) g3 (ItemsOf.nil P) λs' Ra c' m g' it=>?_⟩
  exact hR s' Ra c' (Moved.trans W.gtrans ((Moved.refl W.grefl).then_heap (E2 _) λb o hb e=>Q3 b o (λz=>hb (z ▸ E3)) e) m) g' it
 ·exact EY ⟨GS GP _,M_ W hn _ Rn _ n 0 _ _ _ rfl (Gz _) Q7 hS (ItemsOf.nil P) λs' Ra c' m g' it=>hR s' Ra c' m g' it⟩
theorem AT(W:WalksS prog w A.in1 I fp wr G n P St)(hT:∀i s,St i s→s.TypeIs (.ref I) T)(hl:(GI T==GI "list")=false)(ht:(GI T==GI "tuple")=false)(hint:yB prog w T)(S:E6)(Q7:St 0 s)(Rn:S ∉ fp)(hI:I∈fp)
  (hS:s.heap.get? S=some {cls:=.type "list",data:=.seq #[] })
  (hR:∀s' Ra c',Moved (S::wr) G s s'→s'.heap.get? S=some {cls:=.type "list",dict:=none,data:=.seq Ra c',slots:=#[] }→ItemsOf P Ra n→R (.ok (.ret .none)) s') (hn:n≤sizeLine):
  Fy (FF prog w) A.in1 (Builtin.«list.__init__» ⟨[.ref S,.ref I],[]⟩)
   (λfin s'=>match fin with | .done f=>R (.ok f) s' | .again c'=>c'.quiet=true/\Jc (FF prog w) A c' R s') (λe s'=>R (.error e) s') s:=by
 show Fy _ A.in1 (Builtin.List.listItems (.ref S) >>=λold=>Builtin.List.listUpdate (.ref S) (λ_=>#[]) >>=λ_=>letGo old.toList.reverse >>=λ_=>Builtin.List.listExtendWith (.ref S) (.ref I) .none) _ _ s
 refine EN ?_;unfold Builtin.List.listItems;refine EN (G5 hS rfl (EY ?_));show Fy _ A.in1 (JI S (λ_=>#[]) >>=λ_=>letGo (#[]:Array EW).toList.reverse >>=λ_=>Builtin.List.listExtendWith (.ref S) (.ref I) .none) _ _ s
 refine EN (GO hS rfl ?_);have g2:=FW (Gq (λ_=>(#[]:Array EW))) hS rfl
 have Q3:∀b o,b≠S->s.heap.get? b=some o->(s.heap.update S (Gq (λ_=>(#[]:Array EW)))).get? b=some o:=λb o hb e=>(FD _ _ (Ne.symm hb)).trans e
 refine EN (IX ?_);refine ve W hT hl ht hint S .none _ (W.frame 0 s _ s.toks Q7 (E2 _) λb hb o e=>Q3 b o (λz=>Rn (z ▸ hb)) e) Rn hI g2 (λs' Ra c' m g' it=>?_) hn
 exact hR s' Ra c' (Moved.trans W.gtrans ((Moved.refl W.grefl).then_heap (E2 _) λb o hb e=>Q3 b o (λz=>hb (z ▸ E3)) e) m) g' it
variable {E:EW→EU→Prop}
theorem call_list_it{Q:EW→EU→Prop}(W:WalksS prog w A.in1.in1 I fp wr G n P St)(hT:∀i s,St i s→s.TypeIs (.ref I) T)(hl:(GI T==GI "list")=false)(ht:(GI T==GI "tuple")=false)(hint:yB prog w T)(Q7:St 0 s)(hfp:∀b∈fp,b<s.heap.objs.size)(hI:I∈fp)
  (hQ:∀s' Ra c',Moved (s.heap.objs.size::wr) G {s with heap:=s.heap.push {cls:=.type "list",data:=.seq #[] } } s'→
   s'.heap.get? s.heap.objs.size=some {cls:=.type "list",dict:=none,data:=.seq Ra c',slots:=#[] }→ItemsOf P Ra n→Q (.ref s.heap.objs.size) s') (hn:n≤sizeLine):
  Fy (FF prog w) A (call (.type "list") [.ref I]) Q E s:=by
 have Rn:s.heap.objs.size ∉ fp:=λhm=>FM _ (hfp _ hm)
 refine Pc (Q₁:=λobj QH=>obj=.ref s.heap.objs.size∧QH={s with heap:=s.heap.push {cls:=.type "list",data:=.seq #[] } }) Nm (L7 _) L8 (code_list_new _ ⟨rfl,rfl⟩) λobj QH h₁=>?_
 obtain⟨rfl,rfl⟩:=h₁;have hS:(s.heap.push {cls:=.type "list",data:=.seq #[] }).get? s.heap.objs.size=some {cls:=.type "list",data:=.seq #[] }:=Fe _ rfl;refine⟨⟨_,hS,rfl⟩,LN _ _,AT W hT hl ht hint _ (W.frame 0 s _ s.toks Q7 (E2 _) λb _ o e=>EV _ e) Rn hI hS (λs' Ra c' m g' it=>?_) hn⟩
 exact⟨rfl,hQ s' Ra c' m g' it⟩
end
theorem zO:NS (.type "list_reverseiterator") "__len__"=pure none:=by rw[Jl,HQ];kernel_rfl
theorem lI:Slot "list_reverseiterator" "__length_hint__" "list_reverseiterator.__length_hint__":=
 .of (owner:="list_reverseiterator") (n:="__length_hint__") (by rw[Jl,HQ];kernel_rfl) (by decide+kernel) (by decide+kernel) (by decide+kernel) (by first |exact .inl (by decide+kernel) |exact .inr (by decide+kernel)) (by rw[KC];kernel_rfl)
theorem hint_rev(prog:E8)(w:FE):yB prog w "list_reverseiterator":=λA E s r Q hT h=>by
 unfold Builtin.List.listLengthHint;refine EN (Jk hT zO ?_);show Fy _ A (specialOf (FG r) (Str.ofString "__length_hint__") >>=_) _ _ _;refine EN (Jk hT lI.lookup ?_);generalize hid:("list_reverseiterator.__length_hint__":String)=id0
 wp_delta
 rw[show splitId id0=some ("list_reverseiterator","__length_hint__") from by subst hid;decide+kernel]
 subst hid;refine EN (Iu (T:="list_reverseiterator") (b:=true) hT (by rw[KC];kernel_rfl) ?_)
 refine IP (λz=>absurd z (by decide)) (λ_=>?_)
 refine IP (λ_=>?_) (λz=>absurd (by decide+kernel) z)
 refine IP (λz=>absurd z (by decide+kernel)) (λ_=>EY (h _))
end ST
namespace L2
open PySem PySem.Spec PyProof.Rows
theorem lF:GQ "reversed"=some (.type "reversed"):=by decide+kernel
theorem aM.rev:∀{xs:List V}{us:List EW},aM xs us->aM xs.reverse us.reverse:=λ{xs us} r=>by
 induction r with
 |nil=>exact .nil
 | @cons x u xs us r1 r2 ih=>
  rw[IQ,IQ]
  have app:∀{a:List V}{b:List EW},aM a b->aM (a++[x]) (b++[u]):=λ{a b} q=>by
   induction q with
   |nil=>exact .cons r1 .nil
   |cons q1 _ ih'=>exact .cons q1 ih'
  exact app ih
theorem Rps.rev{K:ER}{H:Hp}{vs:List V}{xs:List U}(r:Rps K H vs xs):Rps K H vs.reverse xs.reverse:=⟨by simp[r.len],λi v x h1 h2=>by
 have hi:i<vs.length:=by have:=aH h1;simpa using this
 have hx:i<xs.length:=by rw[<-r.len];exact hi
 rw[G0 hi]at h1;rw[G0 hx,<-r.len]at h2;exact r.at_ _ v x h1 h2⟩
section
variable {X:Cx}{H0:Hp}{O0:List E6}{ps:PSt}{e k:Expr}{x:U}{xs:List U}{QB QP p p' p2:Pos}
theorem A4{K:ER}{H:Hp}{v:V}(rp:Rp K H v x)(hx:x=.lst xs\/x=.scr xs):∃a vs,v=.ref a/\SqL K H a vs/\Rps K H vs xs:=by
 rcases hx with rfl |rfl
 ·cases rp with
  |lst hq hl hh=>exact⟨_,_,rfl,SqL.of hq,hl,hh⟩
 ·cases rp with
  |scr hq hl hh=>exact⟨_,_,rfl,hq,hl,hh⟩
theorem Dq(he:Ev X H0 O0 ps e x)(hk:Ev X H0 O0 ps k (.int (-1)))(hx:x=.lst xs\/x=.scr xs):EvN X H0 O0 ps (.Subscript e (.Slice none none (some k) p2) QB) xs.reverse:=by
 rintro pins s σ H Q I ⟨O,R,q⟩;refine PL (thn (he pins s σ H (λv H1=>aZ H H1/\Rp X.K (hid H1 O) v x) I ⟨O,R,λv H1 s1 r1=>⟨s1,r1⟩⟩) λu s1 ⟨v,H1,I1,r1,sm,rp⟩=>?_)
 obtain⟨a,vs,rfl,hq,rs⟩:=A4 rp hx;cases r1;refine wpAny_Slice ?_;rw[Nv];refine EY (EY ?_);rw[evalPart_some];refine thn (hk pins s1 σ H1 (λv H2=>aZ H1 H2/\v=.int (-1)) I1 ⟨O,R.go sm,λv H2 s2 r2=>⟨s2,by cases r2;rfl⟩⟩) λuk s2 hy=>?_
 obtain⟨vk,H2,I2,rk,s12,rfl⟩:=hy;obtain⟨t,rfl⟩:=rk;have I3:Inv X pins σ H2 {s2 with heap:=s2.heap.push {cls:=.type "slice",data:=.fields #[.none,.none,.int (-1) t] } }:=I2.kept (t':=s2.toks) λb ob z=>EV _ z
 obtain⟨QC,rv,pl,hz⟩:=I3.list (s12.seq (ax.seq hq));have QJ:=rv.length;show Fy (FF X.prog X.w) X.A (Nx e (.Slice none none (some k) p2) (.ref a) (.ref s2.heap.objs.size)) (EP X pins σ Q) X.xe {s2 with heap:=s2.heap.push {cls:=.type "slice",data:=.fields #[.none,.none,.int (-1) t] } }
 refine tail_any (ops:=[.ref a,.ref s2.heap.objs.size]) pl.isList.typeIs slot_list_getitem.lookup ?_ (by with_unfolding_all rfl)
 refine LJ pl.isList (Nw ..) .none .none (IsPart.int _ _) (by simp) ?_ (by rw[Ff];lia)
 rw[PySem.W.krv_pick];generalize hn:(s2.heap.push {cls:=.type "slice",data:=.fields #[.none,.none,.int (-1) t] }).objs.size=D;have fr:H2 D=none:=I3.hok.fresh (by rw[<-hn];exact E2 _)
 refine⟨.ref D,upd H2 D (.lst vs.reverse),I3.laid (t':=s2.toks) (o:=.lst vs.reverse) (λb ob z=>EV _ z) (by rw[<-hn];exact E2 _) ⟨by rw[F5];exact hz,QC.reverse,0,rv.rev,?_⟩,rfl,?_⟩
 ·rw[<-hn];exact Fe _ rfl
 ·refine q D _ _ ((sm.trans s12).trans (aK fr _)) ((sm.trans s12).free fr) aV ?_;exact (rs.rev.same (bD s12)).same (bF (aK fr _) fr)
theorem uW(hc:X.calm=true)(hg:Gl X "list")(hm:X.mg "list"=none)(hgr:Gl X "reversed")(hmr:X.mg "reversed"=none)(ha:Ev X H0 O0 ps e (.lst xs))
  (he:E4 [e] X.env=(false,IJ e X.env)::E4 [] X.env:=by rfl):EvN X H0 O0 ps (.Call (.Name "list" p) [.Call (.Name "reversed" p') [e] [] QP] [] QB) xs.reverse:=by
 rintro pins s σ H Q I ⟨O,R,q⟩;have hh:X.A.handled=none:=I.ok.hd hc;refine GH (cV I hg hm Lb ?_);refine callWith_type1 (e:=.Call (.Name "reversed" p') [e] [] QP) (rest:=[]) ?_ aB rfl;rw[aB];show Fy _ _ (On ((false,IJ (.Call (.Name "reversed" p') [e] [] QP) X.env)::HV QB (E4 [] X.env))) _ _ s;refine Je ?_;refine GH (cV I hgr hmr lF ?_);refine callWith_type1 (thn (bV ha dU he QP pins s σ H (λvs H1=>∃v,vs=[v]/\aZ H H1/\Rp X.K (hid H1 O) v (.lst xs)) I ⟨O,R,λv H1 s1 r1=>⟨v,rfl,s1,r1⟩⟩) λus s1 hx=>?_) he rfl
 obtain⟨vs,H1,I1,rv,v,rfl,sm,rp⟩:=hx;obtain⟨u,rfl,ru⟩:=eQ rv;obtain⟨a,ws,rfl,hq,rs⟩:=A4 rp (.inl rfl);cases ru;obtain⟨QC,R6,pl,hz⟩:=I1.list (ax.seq hq);have QJ:=R6.length;have Q5:QC.toArray.size=QC.length:=by simp
 refine call_reversed_list pl.isList ?_;have I2:Inv X pins σ H1 {s1 with heap:=s1.heap.push (Qv a ((QC.toArray.size:Int)-1)) }:=I1.kept (t':=s1.toks) λb ob z=>EV _ z
 refine Js ?_;have Rv:a<s1.heap.objs.size:=by obtain⟨o,ho,_⟩:=pl.isList;exact E_ ho
 have W:=(Walks.listRev (prog:=X.prog) (w:=X.w) (A:=X.A.in1.in1) hh s1.heap.objs.size a (FJ Rv) QC.toArray).toS;refine ST.call_list_it (T:="list_reverseiterator") (s:={s1 with heap:=s1.heap.push (Qv a ((QC.toArray.size:Int)-1)) }) W (λi s' st=>st.2.1.typeIs) (by decide) (by decide) (ST.hint_rev _ _) ⟨Gz _,⟨_,Fe _ rfl,rfl,by simp[Qv]⟩,pl.isList.push _⟩ (λb hb=>?_) (by simp) (λs3 acc c m hD RA=>?_) (by rw[Q5];lia)
 ·show b<(s1.heap.push _).objs.size;rw[Hu];simp at hb;rcases hb with z |z
  ·rw[z];exact Hg _
  ·rw[z];exact HG Rv
 ·obtain⟨h3,g3,d3,tk3,os3⟩:=s3;obtain rfl:g3=s1.gens:=m.gens;obtain rfl:d3=s1.drawn:=m.drawn;obtain rfl:os3=s1.os:=m.os;have szI:(s1.heap.push (Qv a ((QC.toArray.size:Int)-1))).objs.size=s1.heap.objs.size+1:=Hu ..
  have keep:∀b ob,s1.heap.get? b=some ob->h3.get? b=some ob:=λb ob z=>by
   have hb:=E_ z;refine m.heap b ob (λy=>?_) (EV _ (EV _ z))
   rcases E1.mp y with y |y
   ·rw[y]at hb;have R3:s1.heap.objs.size+1<s1.heap.objs.size:=by rw[<-szI];exact hb
    exact absurd R3 (by lia)
   ·rw[E9.mp y]at hb;exact FM _ hb
  have Sv:acc.toList=QC.reverse:=by
   apply Im;intro i;rcases GR i acc.size with z |z
   ·have y:=RA.2 i _ (F3 z);have hi:i<QC.length:=by rw[RA.1,Q5]at z;exact z
    rw[Gi,F3 z,G0 hi,<-y,Q5];simp
   ·have hi:QC.length<=i:=by rw[RA.1,Q5]at z;exact z
    rw[FK (by simpa using z),FK (by simpa using hi)]
  generalize hn:(s1.heap.push (Qv a ((QC.toArray.size:Int)-1))).objs.size=D at *;have fr:H1 D=none:=I2.hok.fresh (by rw[<-hn];exact E2 _)
  have I3:Inv X pins σ (upd H1 D (.lst ws.reverse)) {s1 with heap:=h3,toks:=tk3 }:=I1.laid (t':=tk3) (o:=.lst ws.reverse) keep (by rw[szI];exact Nat.le_succ _) ⟨by rw[F5];exact hz,QC.reverse,c,R6.rev,by rw[<-Sv,Array.toArray_toList];exact hD⟩
  refine⟨.ref D,_,I3,rfl,q D _ _ (sm.trans (aK fr _)) (sm.free fr) aV ?_⟩;exact rs.rev.same (bF (aK fr _) fr)
end
section
variable {X:Cx}{H0:Hp}{O0:List E6}{ps:PSt}{xs:List U}{us:List U}{es:List Expr}{x:Str}{pc p' QB:Pos}
theorem eJ(n:Nat)(h:ps[n]?=some (some (.own xs)))(hg:Gl X "len")(hm:X.mg "len"=none)(hN:X.N[n]?=some x:=by rfl)(hv:Vis X.env.scope x:=by first |exact Or.inl rfl |exact Or.inr (Or.inl rfl) |exact Or.inr (Or.inr rfl))(hd:(x==("__debug__":Str))=false:=by decide)
  (Ro:(x==("__classdict__":Str))=false:=by decide) (QZ:(HV QB (E4 [] X.env)).any (·.1)=false:=by rfl):Ev X H0 O0 ps (.Call (.Name "len" pc) [.Name x p'] [] QB) (.int xs.length):=CG n h hg hm hN hv hd Ro aj QZ
end
end L2
namespace ST
open PySem
abbrev iH(h:GV)(z TI TO T:E6)(b:Bool):Prop:=h.get? z=some {cls:=.type "zip",dict:=none,data:=.fields #[Lv T,.bool b,.bool false,.ref TI,.ref TO],slots:=#[] }
variable {prog:E8}{E:EW→EU→Prop}
section
variable {w:FE}{A:FC}{s:EU}
theorem D6{T:E6}{o:Obj}{Q:Option Obj->EU->Prop}(h:s.heap.get? T=some o)(q:Q (some o) s):Fy (FF prog w) A (loadIfAlive T) Q E s:=λΓ p hΓ=>by
 unfold loadIfAlive;rw[Sem.wp_loadIfAlive,h];simpa using q
theorem fN{z TI TO T:E6}{b:Bool}{oT:Obj}{Q:Bool->EU->Prop}(hz:iH s.heap z TI TO T b)(hT:s.heap.get? T=some oT)(h:∀h',iH h' z TI TO T true->JS z s.heap h'->Q false {s with heap:=h' }):
  Fy (FF prog w) A (Builtin.SmallTypes.ownedTupleIsFree (.ref z)) Q E s:=by
 unfold Builtin.SmallTypes.ownedTupleIsFree;refine EN (JR hz rfl (x:=Lv T) rfl ?_);dsimp only[Lv];refine EN (D6 (T:=(T:Int).toNat) (o:=oT) (by rw[Il];exact hT) ?_)
 rw[if_neg (by simp)]
 refine EN (JR hz rfl (x:=.bool b) rfl ?_);cases b with
 |true=>
  rw[if_neg (by decide)]
  exact EY (h s.heap hz (NY _ _))
 |false=>
  rw[if_pos (by decide)]
  refine EN (wpAny_setField_rec hz (by simp) λh₁ hz₁ hs₁=>EY (h h₁ hz₁ hs₁))
theorem wp{z TI TO i1 i2 l1 l2 T:E6}{b:Bool}{oT:Obj}{k1 k2:Nat}{xs ys:Array EW}{x y:EW}{Q:EW->EU->Prop}(D:KD z TI TO i1 i2 l1 l2)
  (hz:iH s.heap z TI TO T b) (hT:s.heap.get? T=some oT) (Sr:Lc s.heap TI (.ref i1) (.ref i2))
  (h1:s.heap.IsListIter i1 l1 k1) (h2:s.heap.IsListIter i2 l2 k2) (RC:s.heap.IsList l1 xs) (Ss:s.heap.IsList l2 ys) (hx:xs[k1]?=some x) (hy:ys[k2]?=some y)
  (hQ:∀h',iH h' z TI TO T true->h'.IsListIter i1 l1 (k1+1)->h'.IsListIter i2 l2 (k2+1)->Lc h' s.heap.objs.size x y->(∀c o,c≠z->c≠i1->c≠i2->s.heap.get? c=some o->h'.get? c=some o)->Q (.ref s.heap.objs.size) {s with heap:=h' }):
  Fy (FF prog w) A (Builtin.«zip.__next__» ⟨[.ref z],[]⟩) (λfin s'=>∃v,fin=.done (.ret v)/\Q v s') E s:=by
 show Fy _ _ (field (.ref z) 2 >>=_) _ _ _;refine EN (JR hz rfl (x:=.bool false) rfl ?_);show Fy _ _ (field (.ref z) 3 >>=_) _ _ _;refine EN (JR hz rfl (x:=.ref TI) rfl (EN (G5 Sr rfl ?_)));show Fy _ _ (Builtin.SmallTypes.ownedTupleIsFree (.ref z) >>=_) _ _ _;refine EN (fN hz hT λha za sa=>?_)
 simp only[Fk,if_false];refine EN ?_;rw[<-Jf];show Fy _ _ (forIn [FG i1,FG i2] _ _) _ _ _;simp only[Jh,KG];refine EN (EN (Gk ?_));show Fy _ _ (Builtin.SmallTypes.nextOf (.ref i1) >>=_) _ _ _;refine EN (Kj (h1.extBut sa.extBut D.i1z) (RC.extBut sa.extBut D.l1z) hx λhb b1 sb=>EY ?_)
 dsimp only;refine EY ?_;dsimp only;refine EN (EN (Gk ?_));show Fy _ _ (Builtin.SmallTypes.nextOf (.ref i2) >>=_) _ _ _;refine EN (Kj ((h2.extBut sa.extBut D.i2z).extBut sb.extBut D.i12.symm) ((Ss.extBut sa.extBut D.l2z).extBut sb.extBut D.l2i1) hy λhc c2 sc=>EY ?_)
 dsimp only;refine EY (EY ?_);dsimp only;refine EN (Pd ?_ (by show 2<=sizeLine;rw[Hv];lia))
 have Q5:hc.objs.size=s.heap.objs.size:=by rw[sc.1,sb.1,sa.1]
 have zc:iH hc z TI TO T true:=sc.extBut _ _ D.i2z.symm (sb.extBut _ _ D.i1z.symm za);refine EY ⟨_,rfl,?_⟩;show Q (.ref hc.objs.size) _;rw[Q5];refine hQ _ (EV _ zc) (((b1.extBut sc.extBut D.i12)).at λo e=>EV _ e) (c2.at λo e=>EV _ e) ?_ λc o n1 n2 n3 e=>EV _ (sc.extBut _ _ n3 (sb.extBut _ _ n2 (sa.extBut _ _ n1 e)))
 rw[<-Q5];exact Fe _ rfl
theorem mM{z TI TO i1 i2 l1 l2 T:E6}{b:Bool}{oT:Obj}{k1:Nat}{xs:Array EW}{Q:Qe->EU->Prop}(hh:A.handled=none)(D:KD z TI TO i1 i2 l1 l2)
  (hz:iH s.heap z TI TO T b) (hT:s.heap.get? T=some oT) (Sr:Lc s.heap TI (.ref i1) (.ref i2))
  (h1:s.heap.IsListIter i1 l1 k1) (RC:s.heap.IsList l1 xs) (hx:xs[k1]?=none)
  (hE:∀h' e,(∀c o,c≠z→c≠i1→c≠i2→s.heap.get? c=some o→h'.get? c=some o)→(∃o,h'.get? e=some o∧o.cls=.type "StopIteration")→E (.ref e) {s with heap:=h' }):
  Fy (FF prog w) A (Builtin.«zip.__next__» ⟨[.ref z],[]⟩) Q E s:=by
 show Fy _ _ (field (.ref z) 2 >>=_) _ _ _;refine EN (JR hz rfl (x:=.bool false) rfl ?_);show Fy _ _ (field (.ref z) 3 >>=_) _ _ _;refine EN (JR hz rfl (x:=.ref TI) rfl (EN (G5 Sr rfl ?_)));show Fy _ _ (Builtin.SmallTypes.ownedTupleIsFree (.ref z) >>=_) _ _ _;refine EN (fN hz hT λha za sa=>?_)
 simp only[Fk,if_false];refine EN ?_;rw[<-Jf];show Fy _ _ (forIn [FG i1,FG i2] _ _) _ _ _;simp only[Jh,KG];refine EN (EN (Gk ?_));show Fy _ _ (Builtin.SmallTypes.nextOf (.ref i1) >>=_) _ _ _;refine EN (MN hh (h1.extBut sa.extBut D.i1z) (RC.extBut sa.extBut D.l1z) hx λhb e sb he=>?_)
 exact hE hb e (λc o n1 n2 n3 q=>sb _ _ n2 (sa.extBut _ _ n1 q)) he
theorem ly{z TI TO i1 i2 l1 l2 T:E6}{b:Bool}{oT:Obj}{k1 k2:Nat}{xs ys:Array EW}{x:EW}{Q:Qe->EU->Prop}(hh:A.handled=none)(D:KD z TI TO i1 i2 l1 l2)
  (hz:iH s.heap z TI TO T b) (hT:s.heap.get? T=some oT) (Sr:Lc s.heap TI (.ref i1) (.ref i2))
  (h1:s.heap.IsListIter i1 l1 k1) (h2:s.heap.IsListIter i2 l2 k2) (RC:s.heap.IsList l1 xs) (Ss:s.heap.IsList l2 ys) (hx:xs[k1]?=some x) (hy:ys[k2]?=none)
  (hE:∀h' e,(∀c o,c≠z→c≠i1→c≠i2→s.heap.get? c=some o→h'.get? c=some o)→(∃o,h'.get? e=some o∧o.cls=.type "StopIteration")→E (.ref e) {s with heap:=h' }):
  Fy (FF prog w) A (Builtin.«zip.__next__» ⟨[.ref z],[]⟩) Q E s:=by
 show Fy _ _ (field (.ref z) 2 >>=_) _ _ _;refine EN (JR hz rfl (x:=.bool false) rfl ?_);show Fy _ _ (field (.ref z) 3 >>=_) _ _ _;refine EN (JR hz rfl (x:=.ref TI) rfl (EN (G5 Sr rfl ?_)));show Fy _ _ (Builtin.SmallTypes.ownedTupleIsFree (.ref z) >>=_) _ _ _;refine EN (fN hz hT λha za sa=>?_)
 simp only[Fk,if_false];refine EN ?_;rw[<-Jf];show Fy _ _ (forIn [FG i1,FG i2] _ _) _ _ _;simp only[Jh,KG];refine EN (EN (Gk ?_));show Fy _ _ (Builtin.SmallTypes.nextOf (.ref i1) >>=_) _ _ _;refine EN (Kj (h1.extBut sa.extBut D.i1z) (RC.extBut sa.extBut D.l1z) hx λhb b1 sb=>EY ?_)
 dsimp only;refine EY ?_;dsimp only;refine EN (EN (Gk ?_));show Fy _ _ (Builtin.SmallTypes.nextOf (.ref i2) >>=_) _ _ _;refine EN (MN hh ((h2.extBut sa.extBut D.i2z).extBut sb.extBut D.i12.symm) ((Ss.extBut sa.extBut D.l2z).extBut sb.extBut D.l2i1) hy λhc e sc he=>?_)
 exact hE hc e (λc o n1 n2 n3 q=>sc _ _ n3 (sb.extBut _ _ n2 (sa.extBut _ _ n1 q))) he
theorem u7{z TI TO i1 i2 l1 l2 T:E6}{b:Bool}{oT:Obj}{k1 k2:Nat}{xs ys:Array EW}{x y:EW}{Q:Option EW->EU->Prop}(D:KD z TI TO i1 i2 l1 l2)
  (hz:iH s.heap z TI TO T b) (hT:s.heap.get? T=some oT) (Sr:Lc s.heap TI (.ref i1) (.ref i2))
  (h1:s.heap.IsListIter i1 l1 k1) (h2:s.heap.IsListIter i2 l2 k2) (RC:s.heap.IsList l1 xs) (Ss:s.heap.IsList l2 ys) (hx:xs[k1]?=some x) (hy:ys[k2]?=some y)
  (hQ:∀h',iH h' z TI TO T true->h'.IsListIter i1 l1 (k1+1)->h'.IsListIter i2 l2 (k2+1)->Lc h' s.heap.objs.size x y->(∀c o,c≠z->c≠i1->c≠i2->s.heap.get? c=some o->h'.get? c=some o)->Q (some (.ref s.heap.objs.size)) {s with heap:=h' }):
  Fy (FF prog w) A (JF (.ref z)) Q E s:=by
 have Sx:s.TypeIs (.ref z) "zip":=⟨_,hz,rfl⟩;unfold JF
 exact EN (IU (Ia (name:=Str.ofString "__next__") Sx Ho
  (GN Ho Sx Kk (wp D hz hT Sr h1 h2 RC Ss hx hy λh' a1 a2 a3 a4 a5=>EY (hQ h' a1 a2 a3 a4 a5)) (Ka _))))
theorem lK{z TI TO i1 i2 l1 l2 T:E6}{b:Bool}{oT:Obj}{k1:Nat}{xs:Array EW}{Q:Option EW->EU->Prop}(hh:A.handled=none)(D:KD z TI TO i1 i2 l1 l2)
  (hz:iH s.heap z TI TO T b) (hT:s.heap.get? T=some oT) (Sr:Lc s.heap TI (.ref i1) (.ref i2)) (h1:s.heap.IsListIter i1 l1 k1) (RC:s.heap.IsList l1 xs) (hx:xs[k1]?=none)
  (hQ:∀h',(∀c o,c≠z->c≠i1->c≠i2->s.heap.get? c=some o->h'.get? c=some o)->Q none {s with heap:=h' }):Fy (FF prog w) A (JF (.ref z)) Q E s:=by
 have Sx:s.TypeIs (.ref z) "zip":=⟨_,hz,rfl⟩;unfold JF
 refine EN (IU (Ia (name:=Str.ofString "__next__") Sx Ho
  (GN Ho Sx Kk (mM hh D hz hT Sr h1 RC hx λh' e hk he=>?_) (Ka _))))
 obtain⟨o,ho,hc⟩:=he;refine EN (Iu (T:="StopIteration") (b:=true) ⟨o,ho,hc⟩ Nj ?_);exact EY (hQ h' hk)
theorem jU{z TI TO i1 i2 l1 l2 T:E6}{b:Bool}{oT:Obj}{k1 k2:Nat}{xs ys:Array EW}{x:EW}{Q:Option EW->EU->Prop}(hh:A.handled=none)(D:KD z TI TO i1 i2 l1 l2)
  (hz:iH s.heap z TI TO T b) (hT:s.heap.get? T=some oT) (Sr:Lc s.heap TI (.ref i1) (.ref i2)) (h1:s.heap.IsListIter i1 l1 k1) (h2:s.heap.IsListIter i2 l2 k2) (RC:s.heap.IsList l1 xs) (Ss:s.heap.IsList l2 ys) (hx:xs[k1]?=some x) (hy:ys[k2]?=none)
  (hQ:∀h',(∀c o,c≠z->c≠i1->c≠i2->s.heap.get? c=some o->h'.get? c=some o)->Q none {s with heap:=h' }):Fy (FF prog w) A (JF (.ref z)) Q E s:=by
 have Sx:s.TypeIs (.ref z) "zip":=⟨_,hz,rfl⟩;unfold JF
 refine EN (IU (Ia (name:=Str.ofString "__next__") Sx Ho
  (GN Ho Sx Kk (ly hh D hz hT Sr h1 h2 RC Ss hx hy λh' e hk he=>?_) (Ka _))))
 obtain⟨o,ho,hc⟩:=he;refine EN (Iu (T:="StopIteration") (b:=true) ⟨o,ho,hc⟩ Nj ?_);exact EY (hQ h' hk)
end
structure ZL(xs ys:Array EW)(z TI TO i1 i2 l1 l2 S:E6)(h:GV)(i:Nat)(ad:List E6)(c:Nat):Prop where
 ti:Lc h TI (.ref i1) (.ref i2)
 a1:h.IsListIter i1 l1 i
 a2:h.IsListIter i2 l2 i
 b1:h.IsList l1 xs
 b2:h.IsList l2 ys
 acc:h.get? S=some {cls:=.type "list",dict:=none,data:=.seq (ad.map FG).toArray c,slots:=#[] }
 len:ad.length=i
 tup:∀(j:Nat) (a:E6),ad[j]?=some a->∃x y,xs[j]?=some x/\ys[j]?=some y/\Lc h a x y
 far:∀a∈ad,a≠z/\a≠TO/\a≠i1/\a≠i2/\a≠S
 to:∃o,h.get? TO=some o
 nd:ad.Nodup
 zz:(i=0/\IsZip h z TI TO .none/\∃a b,Lc h TO a b)\/(∃b T,ad[0]?=some T/\iH h z TI TO T b)
variable {R:Ng→EU→Prop}
section
variable {w:FE}{A:FC}
theorem ZL.put{xs ys:Array EW}{z TI TO i1 i2 l1 l2 S:E6}{h h':GV}{i:Nat}{ad:List E6}{c:Nat}{a:E6}{x y:EW}(Z:ZL xs ys z TI TO i1 i2 l1 l2 S h i ad c)(D:KD z TI TO i1 i2 l1 l2)
  (hS:S≠z/\S≠TI/\S≠TO/\S≠i1/\S≠i2/\S≠l1/\S≠l2) (ha:a=h.objs.size) (hzlt:z<h.objs.size) (nto:∃o,h'.get? TO=some o) (hx:xs[i]?=some x) (hy:ys[i]?=some y)
  (n1:h'.IsListIter i1 l1 (i+1)) (n2:h'.IsListIter i2 l2 (i+1)) (np:Lc h' a x y) (nk:∀c o,c≠z->c≠TO->c≠i1->c≠i2->h.get? c=some o->h'.get? c=some o)
  (nz:∃b T,(ad++[a])[0]?=some T/\iH h' z TI TO T b):
  ∃c',ZL xs ys z TI TO i1 i2 l1 l2 S (h'.update S (Gq (·.push (.ref a)))) (i+1) (ad++[a]) c':=by
 obtain⟨s1,s2,s3,s4,s5,s6,s7⟩:=hS;have gS:h'.get? S=some {cls:=.type "list",dict:=none,data:=.seq (ad.map FG).toArray c,slots:=#[] }:=nk S _ s1 s3 s4 s5 Z.acc;have Q3:∀b o,b≠S->h'.get? b=some o->(h'.update S (Gq (·.push (.ref a)))).get? b=some o:=λb o hb e=>(FD _ _ (Ne.symm hb)).trans e
 have QL:∀b o,h.get? b=some o->b≠a:=λb o e z=>by rw[z,ha]at e;exact FM _ (E_ e)
 have aS:a≠S:=λe=>QL S _ Z.acc e.symm
 have ai1:a≠i1:=by obtain⟨o,e,_⟩:=Z.a1;exact λq=>QL i1 o e q.symm
 have ai2:a≠i2:=by obtain⟨o,e,_⟩:=Z.a2;exact λq=>QL i2 o e q.symm
 have az:a≠z:=by rw[ha];exact Lu hzlt
 have aTO:a≠TO:=by obtain⟨o,e⟩:=Z.to;exact λq=>QL TO o e q.symm
 obtain⟨c',gS'⟩:∃c',(h'.update S (Gq (·.push (.ref a)))).get? S=some {cls:=.type "list",dict:=none,data:=.seq ((ad.map FG).toArray.push (.ref a)) c',slots:=#[] }:=⟨_,PyProof.Rows.get?_update_seq gS (·.push (.ref a))⟩;refine⟨c',⟨Q3 _ _ s2.symm (nk TI _ D.TIz D.TITO D.TIi1 D.TIi2 Z.ti),n1.at λo e=>Q3 _ o s4.symm e,n2.at λo e=>Q3 _ o s5.symm e,?_,?_,?_,by rw[Fx,Z.len];rfl,?_,?_,?_,?_,?_⟩⟩
 ·exact (Z.b1.at λo e=>nk l1 o D.l1z D.l1TO D.l1i1 D.l1i2 e).at λo e=>Q3 _ o s6.symm e
 ·exact (Z.b2.at λo e=>nk l2 o D.l2z D.l2TO D.l2i1 D.l2i2 e).at λo e=>Q3 _ o s7.symm e
 ·rw[gS'];simp
 ·intro j b hj;rcases GR j ad.length with q |q
  ·rw[Fp q]at hj;obtain⟨x',y',e1,e2,e3⟩:=Z.tup j b hj;obtain⟨f1,f2,f3,f4,f5⟩:=Z.far b (Fs hj);exact⟨x',y',e1,e2,Q3 _ _ f5 (nk b _ f1 f2 f3 f4 e3)⟩
  ·rw[Fq q]at hj
   have hj0:j=i:=by
    have:=(Fb.mp hj).1;simp at this;rw[Z.len]at *;lia
   subst hj0;rw[Z.len,N8]at hj;cases hj;exact⟨x,y,hx,hy,Q3 _ _ aS np⟩
 ·intro b hb;rcases Fn.mp hb with q |q
  ·exact Z.far b q
  ·rw[E9.mp q];exact⟨az,aTO,ai1,ai2,aS⟩
 ·obtain⟨o,e⟩:=nto;exact⟨o,Q3 _ _ s3.symm e⟩
 ·rw[G8];refine⟨Z.nd,by simp,λp hp q hq=>?_⟩
  rw[E9.mp hq];obtain⟨j,hj⟩:=Gy.mp hp;obtain⟨_,_,_,_,e⟩:=Z.tup j p hj;exact QL p _ e
 ·obtain⟨b,T,e1,e2⟩:=nz;exact .inr ⟨b,T,e1,Q3 _ _ s1.symm e2⟩
structure ZF(xs ys:Array EW)(S:E6)(h:GV)(ad:List E6)(c:Nat):Prop where
 acc:h.get? S=some {cls:=.type "list",dict:=none,data:=.seq (ad.map FG).toArray c,slots:=#[] }
 len:ad.length=ys.size
 tup:∀(j:Nat) (a:E6),ad[j]?=some a->∃x y,xs[j]?=some x/\ys[j]?=some y/\Lc h a x y
 ne:∀a∈ad,a≠S
 nd:ad.Nodup
theorem pP(hh:A.in1.handled=none){xs ys:Array EW}{z TI TO i1 i2 l1 l2 S:E6}(D:KD z TI TO i1 i2 l1 l2)(hS:S≠z/\S≠TI/\S≠TO/\S≠i1/\S≠i2/\S≠l1/\S≠l2)(hxy:ys.size<=xs.size)(hn:xs.size<=1000)(res:EW):
  ∀(k i:Nat) (s:EU) (ad:List E6) (c:Nat),ys.size-i=k->i<=ys.size->ZL xs ys z TI TO i1 i2 l1 l2 S s.heap i ad c->
   (∀h' RF c',ZF xs ys S h' RF c'->(∀b o,b≠z->b≠TO->b≠i1->b≠i2->b≠S->s.heap.get? b=some o->h'.get? b=some o)->(∀a∈RF,a∈ad\/s.heap.get? a=none)->R (.ok (.ret res)) {s with heap:=h' })->
   Jc (FF prog w) A (.builtin "list.extend.loop" ⟨[.ref S,.ref z,res],[]⟩) R s:=by
 intro k
 induction k with
 |zero=>
  intro i s ad c hk hi Z hR;obtain rfl:i=ys.size:=by lia
  refine GM LD ?_;rw[Gu GP _];show Fy _ A.in1 (JF (.ref z) >>=_) _ _ s
  have fin:∀h',(∀b o,b≠z->b≠TO->b≠i1->b≠i2->s.heap.get? b=some o->h'.get? b=some o)->R (.ok (.ret res)) {s with heap:=h' }:=λh' kp=>
   hR h' ad c ⟨kp S _ hS.1 hS.2.2.1 hS.2.2.2.1 hS.2.2.2.2.1 Z.acc,Z.len,λj a e=>by
    obtain⟨x,y,e1,e2,e3⟩:=Z.tup j a e;obtain⟨f1,f2,f3,f4,f5⟩:=Z.far a (Fs e);exact⟨x,y,e1,e2,kp a _ f1 f2 f3 f4 e3⟩,λa ha=>(Z.far a ha).2.2.2.2,Z.nd⟩ (λb o n1 n2 n3 n4 _ e=>kp b o n1 n2 n3 n4 e) λa ha=>.inl ha
  rcases Z.zz with ⟨h0,hz,a,b,hTO⟩ |⟨b,T,hT,hz⟩
  ·refine EN (wpAny_pyNext_zip_end hh D hz Z.ti hTO Z.a1 Z.a2 Z.b1 Z.b2 (.inr (by simp)) λh' kp=>?_)
   exact EY (fin h' kp)
  ·obtain⟨x,y,_,_,hp⟩:=Z.tup 0 T hT;by_cases hq:ys.size<xs.size
   ·refine EN (jU hh D hz hp Z.ti Z.a1 Z.a2 Z.b1 Z.b2 (F3 hq) (by simp) λh' kp=>?_)
    exact EY (fin h' λb o n1 _ n3 n4 e=>kp b o n1 n3 n4 e)
   ·refine EN (lK hh D hz hp Z.ti Z.a1 Z.b1 (Array.getElem?_eq_none (by lia)) λh' kp=>?_)
    exact EY (fin h' λb o n1 _ n3 n4 e=>kp b o n1 n3 n4 e)
 |succ k ih=>
  intro i s ad c hk hi Z hR;have QL:i<xs.size:=by lia
  have hly:i+1<=ys.size:=by lia
  have hx:xs[i]?=some xs[i]:=F3 QL;have hy:ys[i]?=some (ys[i]'(by lia)):=F3 (by lia)
  refine GM LD ?_;rw[Gu GP _];show Fy _ A.in1 (JF (.ref z) >>=_) _ _ s
  have go:∀h',(∃b T,(ad++[s.heap.objs.size])[0]?=some T/\iH h' z TI TO T b)->(∃o,h'.get? TO=some o)->h'.IsListIter i1 l1 (i+1)->h'.IsListIter i2 l2 (i+1)->Lc h' s.heap.objs.size xs[i] (ys[i]'(by lia))->
    (∀b o,b≠z->b≠TO->b≠i1->b≠i2->s.heap.get? b=some o->h'.get? b=some o)->
    Fy (FF prog w) A.in1 (JI S (·.push (.ref s.heap.objs.size)) >>=λ_=>again (.builtin "list.extend.loop" ⟨[.ref S,.ref z,res],[]⟩))
     (λfin s'=>match fin with | .done f=>R (.ok f) s' | .again c'=>c'.quiet=true/\Jc (FF prog w) A c' R s') (λe s'=>R (.error e) s') {s with heap:=h' }:=λh' nz nto n1 n2 np nk=>by
   have gS:h'.get? S=some {cls:=.type "list",dict:=none,data:=.seq (ad.map FG).toArray c,slots:=#[] }:=nk S _ hS.1 hS.2.2.1 hS.2.2.2.1 hS.2.2.2.2.1 Z.acc
   have hzlt:z<s.heap.objs.size:=by
    rcases Z.zz with ⟨_,hz,_⟩ |⟨_,_,_,hz⟩ <;>exact E_ hz
   obtain⟨c',Z'⟩:=Z.put D hS rfl hzlt nto hx hy n1 n2 np nk nz;have Rv:((ad.map FG).toArray).size=i:=by simp[Z.len]
   refine EN (GO (s:={s with heap:=h' }) gS rfl (EY ⟨GS GP _,ih (i+1) _ (ad++[s.heap.objs.size]) c' (by lia) hly Z' λh2 ad2 c2 F kp fr=>?_⟩) (by rw[Rv,Hv];lia) (by rw[Array.size_push,Rv,Hv];lia))
   refine hR h2 ad2 c2 F (λb o m1 m2 m3 m4 m5 e=>kp b o m1 m2 m3 m4 m5 ((FD _ _ (Ne.symm m5)).trans (nk b o m1 m2 m3 m4 e))) λa ha=>?_
   rcases fr a ha with q |q
   ·rcases Fn.mp q with q |q
    ·exact .inl q
    ·right;rw[E9.mp q];exact KU (E2 _)
   ·right
    cases hq:s.heap.get? a with
    |none=>rfl
    |some o=>
     exfalso
     by_cases e1:a=S
     ·subst e1;exact F.ne a ha rfl
     ·have q':h'.get? a=none:=by
       have:=q;rw[FD _ _ (Ne.symm e1)]at this;exact this
      by_cases f1:a=z
      ·obtain⟨_,_,_,e⟩:=nz;rw[f1,e]at q';cases q'
      ·by_cases f2:a=TO
       ·obtain⟨o',e⟩:=nto;rw[f2,e]at q';cases q'
       ·by_cases f3:a=i1
        ·obtain⟨o',e,_⟩:=n1;rw[f3,e]at q';cases q'
        ·by_cases f4:a=i2
         ·obtain⟨o',e,_⟩:=n2;rw[f4,e]at q';cases q'
         ·rw[nk a o f1 f2 f3 f4 hq]at q';cases q'
  rcases Z.zz with ⟨h0,hz,a,b,hTO⟩ |⟨b,T,hT,hz⟩
  ·subst h0;have had:ad=[]:=G6.mp Z.len;refine EN (wpAny_pyNext_zip_item D hz Z.ti hTO Z.a1 Z.a2 Z.b1 Z.b2 hx hy λh' m1 m2 m3 m4 m5 _ kp=>?_)
   exact go h' ⟨false,_,by rw[had];rfl,m1⟩ ⟨_,m2⟩ m3 m4 m5 kp
  ·obtain⟨x,y,_,_,hp⟩:=Z.tup 0 T hT;refine EN (u7 D hz hp Z.ti Z.a1 Z.a2 Z.b1 Z.b2 hx hy λh' m1 m3 m4 m5 kp=>?_)
   refine go h' ⟨true,T,?_,m1⟩ ?_ m3 m4 m5 λb o n1 _ n3 n4 e=>kp b o n1 n3 n4 e
   ·rw[Fp (Fb.mp hT).1];exact hT
   ·obtain⟨o,e⟩:=Z.to;exact⟨o,kp TO o D.TOz D.TOi1 D.TOi2 e⟩
end
theorem AV:NS (.type "zip") "__len__"=pure none:=by rw[Jl,HQ];kernel_rfl
theorem wn:NS (.type "zip") "__length_hint__"=pure none:=by rw[Jl,HQ];kernel_rfl
theorem wS(prog:E8)(w:FE):yB prog w "zip":=λA E s r Q hT h=>by
 unfold Builtin.List.listLengthHint;refine EN (Jk hT AV ?_);show Fy _ A (specialOf (FG r) (Str.ofString "__length_hint__") >>=_) _ _ _;refine EN (Jk hT wn ?_);exact EY (h _)
section
variable {w:FE}{A:FC}{s:EU}
theorem zi{z TI TO:E6}{f:EW}{Q:EW->EU->Prop}(hz:IsZip s.heap z TI TO f)(h:Q (.ref z) s):Fy (FF prog w) A (N6 (.ref z)) Q E s:=by
 have hT:s.TypeIs (.ref z) "zip":=⟨_,hz,rfl⟩;refine LM hT MP (GN MP hT PySem.F.entry_zip_iter ?_ (PySem.F.args_zip_iter_1 _));exact EY ⟨_,rfl,"zip",_,hT,Ho.lookup,h⟩
theorem r_(hh:A.in1.handled=none){xs ys:Array EW}{z TI TO i1 i2 l1 l2 S:E6}(D:KD z TI TO i1 i2 l1 l2)(hS:S≠z/\S≠TI/\S≠TO/\S≠i1/\S≠i2/\S≠l1/\S≠l2)(hxy:ys.size<=xs.size)(hn:xs.size<=1000)(res:EW){c₀:Nat}
  (hz:IsZip s.heap z TI TO .none) (Z:∀h',(∀b o,b≠S→s.heap.get? b=some o→h'.get? b=some o)→∀c,h'.get? S=some {cls:=.type "list",dict:=none,data:=.seq #[] c,slots:=#[] }→ZL xs ys z TI TO i1 i2 l1 l2 S h' 0 [] c)
  (gS:s.heap.get? S=some {cls:=.type "list",data:=.seq #[] c₀ })
  (hR:∀h' RF c',ZF xs ys S h' RF c'->(∀b o,b≠z->b≠TO->b≠i1->b≠i2->b≠S->s.heap.get? b=some o->h'.get? b=some o)->(∀a∈RF,s.heap.get? a=none)->R (.ok (.ret res)) {s with heap:=h' }):
  Fy (FF prog w) A.in1 (Builtin.List.listExtendWith (.ref S) (.ref z) res)
   (λfin s'=>match fin with | .done f=>R (.ok f) s' | .again c'=>c'.quiet=true/\Jc (FF prog w) A c' R s') (λe s'=>R (.error e) s') s:=by
 have hT:s.TypeIs (.ref z) "zip":=⟨_,hz,rfl⟩;unfold Builtin.List.listExtendWith;refine EN (MF hT ?_);have k1:Builtin.List.listSameRef (.ref S) (.ref z)=false:=by simp[Builtin.List.listSameRef,hS.1]
 have k2:(GI "zip"==GI "list")=false:=by decide
 have k3:(GI "zip"==GI "tuple")=false:=by decide
 simp only[k1,k2,k3,P6,Fk,if_false];refine EN (zi hz (EN (Gk (wS prog w _ _ _ _ _ hT λb=>?_))))
 refine IP (λ_=>?_) (λ_=>?_)
 ·refine EN (Kp (EN ?_));show Fy _ A.in1 (JI S (·.push .none) >>=λ_=>JI S (·.pop)) _ _ _
  refine EN (GO gS rfl ?_);have g2:=FW (Gq (·.push FX)) gS rfl;refine GO (hz:=by seq_fits) g2 rfl ?_
  have g3:=FW (Gq (·.pop)) g2 rfl;have Q3:∀b o,b≠S->s.heap.get? b=some o->((s.heap.update S (Gq (·.push FX))).update S (Gq (·.pop))).get? b=some o:=λb o hb e=>(FD _ _ (Ne.symm hb)).trans ((FD _ _ (Ne.symm hb)).trans e)
  refine EY ⟨GS GP _,pP (s:={s with heap:=(s.heap.update S (Gq (·.push FX))).update S (Gq (·.pop)) }) hh D hS hxy hn res _ 0 [] _ rfl (Gz _) (Z _ Q3 _ g3) λh' RF c' F kp fr=>?_⟩
  refine hR h' RF c' F (λb o m1 m2 m3 m4 m5 e=>kp b o m1 m2 m3 m4 m5 (Q3 b o m5 e)) λa ha=>?_
  rcases fr a ha with q |q
  ·simp at q
  ·cases hq:s.heap.get? a with
   |none=>rfl
   |some o=>
    have e:=Q3 a o (F.ne a ha) hq;rw[e]at q;cases q
 ·refine EY ⟨GS GP _,pP hh D hS hxy hn res _ 0 _ [] _ rfl (Gz _) (Z _ (λ_ _ _ e=>e) _ gS) λh' RF c' F kp fr=>?_⟩
  exact hR h' RF c' F kp λa ha=>(fr a ha).resolve_left (by simp)
theorem call_list_zip{Q:EW->EU->Prop}(hh:A.handled=none){xs ys:Array EW}{z TI TO i1 i2 l1 l2:E6}(D:KD z TI TO i1 i2 l1 l2)(hxy:ys.size<=xs.size)(hn:xs.size<=1000)
  (hz:IsZip s.heap z TI TO .none) (Sr:Lc s.heap TI (.ref i1) (.ref i2)) {a b:EW} (hTO:Lc s.heap TO a b) (h1:s.heap.IsListIter i1 l1 0) (h2:s.heap.IsListIter i2 l2 0) (RC:s.heap.IsList l1 xs) (Ss:s.heap.IsList l2 ys)
  (hQ:∀h' RF c',ZF xs ys s.heap.objs.size h' RF c'->(∀b o,b≠z->b≠TO->b≠i1->b≠i2->s.heap.get? b=some o->h'.get? b=some o)->(∀a∈RF,s.heap.get? a=none)->Q (.ref s.heap.objs.size) {s with heap:=h' }):
  Fy (FF prog w) A (call (.type "list") [.ref z]) Q E s:=by
 refine Pc (Q₁:=λobj QH=>obj=.ref s.heap.objs.size∧QH={s with heap:=s.heap.push {cls:=.type "list",data:=.seq #[] } }) Nm (L7 _) L8 (code_list_new _ ⟨rfl,rfl⟩) λobj QH h₁=>?_
 obtain⟨rfl,rfl⟩:=h₁;generalize hSd:s.heap.objs.size=S at *;have lt:∀c o,s.heap.get? c=some o->S≠c:=λc o e q=>by rw[<-q,<-hSd]at e;exact FM _ (E_ e)
 have gS:(s.heap.push {cls:=.type "list",data:=.seq #[] }).get? S=some {cls:=.type "list",data:=.seq #[] }:=by rw[←hSd];exact Fe _ rfl
 have up:∀b o,s.heap.get? b=some o→(s.heap.push {cls:=.type "list",data:=.seq #[] }).get? b=some o:=λb o e=>EV _ e
 have hS:S≠z/\S≠TI/\S≠TO/\S≠i1/\S≠i2/\S≠l1/\S≠l2:=⟨lt _ _ hz,lt _ _ Sr,lt _ _ hTO,by obtain⟨o,e,_⟩:=h1;exact lt _ _ e,by obtain⟨o,e,_⟩:=h2;exact lt _ _ e,by obtain⟨o,e,_⟩:=RC;exact lt _ _ e,by obtain⟨o,e,_⟩:=Ss;exact lt _ _ e⟩
 refine⟨⟨_,gS,rfl⟩,LN _ _,?_⟩;show Fy _ A.in1.in1 (Builtin.List.listItems (.ref S) >>=λold=>Builtin.List.listUpdate (.ref S) (λ_=>#[]) >>=λ_=>letGo old.toList.reverse >>=λ_=>Builtin.List.listExtendWith (.ref S) (.ref z) .none) _ _ _
 refine EN ?_;unfold Builtin.List.listItems;refine EN (G5 gS rfl (EY ?_));show Fy _ A.in1.in1 (JI S (λ_=>#[]) >>=λ_=>letGo (#[]:Array EW).toList.reverse >>=λ_=>Builtin.List.listExtendWith (.ref S) (.ref z) .none) _ _ _
 refine EN (GO gS rfl ?_);have g2:=FW (Gq (λ_=>(#[]:Array EW))) gS rfl
 have Q3:∀b o,b≠S→s.heap.get? b=some o→((s.heap.push {cls:=.type "list",data:=.seq #[] }).update S (Gq (λ_=>(#[]:Array EW)))).get? b=some o:=λb o hb e=>(FD _ _ (Ne.symm hb)).trans (up b o e)
 refine EN (IX ?_);refine r_ (A:=A.in1) (s:={s with heap:=(s.heap.push {cls:=.type "list",data:=.seq #[] }).update S (Gq (λ_=>(#[]:Array EW))) }) hh D hS hxy hn .none (Q3 _ _ hS.1.symm hz) (λh' kp c e=>?_) g2 λh' RF c' F kp fr=>?_
 ·have k:∀b o,b≠S->s.heap.get? b=some o->h'.get? b=some o:=λb o hb e=>kp b o hb (Q3 b o hb e)
  exact⟨k _ _ hS.2.1.symm Sr,h1.at λo e=>k _ o hS.2.2.2.1.symm e,h2.at λo e=>k _ o hS.2.2.2.2.1.symm e,RC.at λo e=>k _ o hS.2.2.2.2.2.1.symm e,Ss.at λo e=>k _ o hS.2.2.2.2.2.2.symm e,e,rfl,λj a e=>by simp at e,λa ha=>by simp at ha,⟨_,k _ _ hS.2.2.1.symm hTO⟩,Pe,.inl ⟨rfl,k _ _ hS.1.symm hz,a,b,k _ _ hS.2.2.1.symm hTO⟩⟩
 ·refine⟨rfl,hQ h' RF c' F (λb o m1 m2 m3 m4 e=>kp b o m1 m2 m3 m4 (λq=>lt b o e q.symm) (Q3 b o (λq=>lt b o e q.symm) e)) λa ha=>?_⟩
  cases hq:s.heap.get? a with
  |none=>rfl
  |some o=>
   have e:=Q3 a o (F.ne a ha) hq;have q:=fr a ha;rw[show ({s with heap:=(s.heap.push {cls:=.type "list",data:=.seq #[] }).update S (Gq (λ_=>(#[]:Array EW))) }:EU).heap.get? a=some o from e]at q
   cases q
end
end ST
namespace L2
open PySem PySem.Spec PyProof.Rows
theorem xW{a b:Nat}(h:a<b\/b<a):@Ne E6 a b:=λe=>by
 have e':a=b:=e;lia
theorem zb:GQ "zip"=some (.type "zip"):=by decide+kernel
section
variable {P:E8}{w:FE}{H:Hp}{h:GV}{a:E6}{o:HO}
theorem hG(x:cu P w H h a o):∃ob,h.get? a=some ob:=by
 cases o with
 |lst xs=>obtain⟨_,_,_,_,e⟩:=x;exact⟨_,e⟩
 |tup xs=>obtain⟨_,_,_,ob,e,_⟩:=x;exact⟨_,e⟩
 |dK QW=>obtain⟨_,_,_,_,o,_,_,e,_⟩:=x;exact⟨_,e⟩
 |dT QW=>obtain⟨_,_,_,_,o,_,_,e,_⟩:=x;exact⟨_,e⟩
 |set S n=>obtain⟨o,_,_,_,e,_⟩:=x;exact⟨_,e⟩
 |ins C dx fs=>obtain⟨_,_,_,e,_⟩:=x;exact⟨_,e⟩
 |own y=>exact x
 |xd fs=>obtain⟨_,⟨_,_,_,e,_⟩,_⟩:=x;exact⟨_,e⟩
 |rng lo hi=>obtain⟨_,_,_,e⟩:=x;exact⟨_,e⟩
 |frz ob u=>obtain⟨e,_⟩:=x;exact⟨_,e⟩
 |tbl ps=>exact⟨_,(show h.get? a=some _ from x)⟩
 |met f y=>exact⟨_,(show h.get? a=some _ from x)⟩
 |ext φ=>exact x.2.1
end
theorem Aw{X:Cx}{pins:List (E6×Obj)}{σ:List (Option V)}{H H':Hp}{s:EU}{h':GV}{t':Nat}(I:Inv X pins σ H s)(k:∀b u,s.heap.get? b=some u->h'.get? b=some u)
  (old:∀b u,s.heap.get? b=some u->H' b=H b) (new:∀b o,s.heap.get? b=none->H' b=some o->cu X.prog X.w H' h' b o):Inv X pins σ H' {s with heap:=h',toks:=t' }:=by
 have at':∀b o,H b=some o->H' b=some o:=λb o e=>let ⟨ob,q⟩:=hG (I.hok b o e);(old b ob q).trans e
 refine I.un ⟨λb u q _ _ _=>k b u q,λb u q _ _ _=>⟨u.slots,k b u q⟩,λb u q n _=>(old b u q).trans n,λb u q _=>⟨u,k b u q⟩,λb xs q=>at' b _ q,λb u xs q=>at' b _ q,λb ps q=>⟨#[],by rw[at' b _ q];simp⟩⟩ λb u e=>?_
 cases hb:s.heap.get? b with
 |some ob=>
  rw[old b ob hb]at e;exact (I.hok b u e).stay (λc v _ q=>k c v q) (λc q=>at' c _ q) λc xs q=>at' c _ q
 |none=>exact new b u hb e
def kZ(H:Hp):List E6->List (List V)->Hp
 |[],_=>H
 |a::as,ps=>match ps with
  |[]=>H
  |p::ps=>upd (kZ H as ps) a (.tup p)
theorem pI{H:Hp}:∀{as:List E6}{ps:List (List V)}{b:E6},b ∉ as->kZ H as ps b=H b
 |[],_,_,_=>rfl
 |a::as,[],_,_=>rfl
 |a::as,p::ps,b,h=>by
  show upd (kZ H as ps) a (.tup p) b=H b;rw[aY λz=>h (by rw[z];exact E3)]
  exact pI λz=>h (ET _ z)
theorem uy{H:Hp}:∀{as:List E6}{ps:List (List V)}{j:Nat}{a:E6}{p:List V},as.Nodup->as[j]?=some a->ps[j]?=some p->kZ H as ps a=some (.tup p)
 |[],_,j,_,_,_,e,_=>by simp at e
 |_::_,[],j,_,_,_,_,e=>by simp at e
 |b::as,q::ps,0,a,p,_,e1,e2=>by
  simp at e1 e2;subst e1;subst e2;exact aV
 |b::as,q::ps,j+1,a,p,nd,e1,e2=>by
  show upd (kZ H as ps) b (.tup q) a=_;rw[J8]at e1 e2;have nd':=HP.mp nd;rw[aY λz=>nd'.1 (by rw[<-z];exact Fs e1)]
  exact uy nd'.2 e1 e2
theorem oF{H:Hp}:∀{as:List E6}{ps:List (List V)}{b:E6}{o:HO},kZ H as ps b=some o->H b=some o\/∃(j:Nat) (p:List V),as[j]?=some b/\ps[j]?=some p/\o=.tup p
 |[],_,_,_,e=>.inl e
 |_::_,[],_,_,e=>.inl e
 |a::as,p::ps,b,o,e=>by
  have e':upd (kZ H as ps) a (.tup p) b=some o:=e;by_cases hb:b=a
  ·subst hb;rw[aV]at e';cases e';exact .inr ⟨0,p,rfl,rfl,rfl⟩
  ·rw[aY hb]at e';rcases oF e' with z |⟨j,q,e1,e2,e3⟩
   ·exact .inl z
   ·exact .inr ⟨j+1,q,by simpa using e1,by simpa using e2,e3⟩
theorem me:∀(ad:List E6),aM (ad.map V.ref) (ad.map FG)
 |[]=>.nil
 |_::ad=>.cons rfl (me ad)
section
variable {X:Cx}{H0:Hp}{O0:List E6}{ps:PSt}{e f:Expr}{x y:U}{xs ys:List U}{QB QP p p':Pos}
theorem rC(hc:X.calm=true)(hg:Gl X "list")(hm:X.mg "list"=none)(hgz:Gl X "zip")(hmz:X.mg "zip"=none)(ha:Ev X H0 O0 ps e x)(hx:x=.lst xs∨x=.scr xs)(hb:Ev X H0 O0 ps f y)(hy:y=.lst ys∨y=.scr ys)(hl:ys.length≤xs.length)(hn:xs.length≤1000)
  (he:E4 [e,f] X.env=(false,IJ e X.env)::E4 [f] X.env:=by rfl) (hf:E4 [f] X.env=(false,IJ f X.env)::E4 [] X.env:=by rfl):
  EvN X H0 O0 ps (.Call (.Name "list" p) [.Call (.Name "zip" p') [e,f] [] QP] [] QB) (MQ (λa b=>U.tup [a,b]) xs ys):=by
 rintro pins s σ H Q I ⟨O,R,q⟩;have hh:X.A.handled=none:=I.ok.hd hc;refine GH (cV I hg hm Lb ?_);refine callWith_type1 (e:=.Call (.Name "zip" p') [e,f] [] QP) (rest:=[]) ?_ aB rfl;rw[aB];show Fy _ _ (On ((false,IJ (.Call (.Name "zip" p') [e,f] [] QP) X.env)::HV QB (E4 [] X.env))) _ _ s;refine Je ?_;refine GH (cV I hgz hmz zb ?_);refine callWith_type1 (thn (bV ha (bV hb dU hf) he QP pins s σ H (λvs H1=>∃v u,vs=[v,u]/\aZ H H1/\Rp X.K (hid H1 O) v x/\Rp X.K (hid H1 O) u y) I ⟨O,R,λv H1 s1 r1=>⟨O,R.go s1,λu H2 s2 r2=>⟨v,u,rfl,s1.trans s2,r1.same (bD s2),r2⟩⟩⟩) λus s1 RX=>?_) he (by rw[hf];rfl)
 obtain⟨vs,H1,I1,rv,v,u,rfl,sm,rp1,rp2⟩:=RX;obtain⟨w1,w2,rfl,ru1,ru2⟩:=jm rv;obtain⟨a,va,rfl,hq1,rs1⟩:=A4 rp1 hx;obtain⟨b,vb,rfl,hq2,rs2⟩:=A4 rp2 hy;cases ru1;cases ru2;obtain⟨ia,ra,pl1,hz1⟩:=I1.list (ax.seq hq1);obtain⟨ib,rb,RD,hz2⟩:=I1.list (ax.seq hq2);have la:=ra.length;have lb:=rb.length;have l1:=rs1.len;have l2:=rs2.len;have al:@LT.lt Nat instLTNat a s1.heap.objs.size:=by obtain⟨o,ho,_⟩:=pl1.isList;exact E_ ho
 have bl:@LT.lt Nat instLTNat b s1.heap.objs.size:=by obtain⟨o,ho,_⟩:=RD.isList;exact E_ ho
 refine PySem.call_zip_2 pl1.isList RD.isList λh' z1 z2 z3 z4 z5 z6 z7=>?_
 refine Js ?_;have D:KD (s1.heap.objs.size+4) (s1.heap.objs.size+2) (s1.heap.objs.size+3) s1.heap.objs.size (s1.heap.objs.size+1) a b:=by constructor <;>exact xW (by lia)
 have sxy:ib.toArray.size<=ia.toArray.size:=by simp;lia
 have sx:ia.toArray.size<=1000:=by simp;lia
 refine ST.call_list_zip (s:={s1 with heap:=h' }) hh D sxy sx z1 z2 z3 z4 z5 (pl1.isList.at λo e=>z7 _ o e) (RD.isList.at λo e=>z7 _ o e) λh3 ad c F kp fr=>?_
 have lD:s1.heap.objs.size<=({s1 with heap:=h' }:EU).heap.objs.size:=by show _<=h'.objs.size;lia
 generalize ({s1 with heap:=h' }:EU).heap.objs.size=D0 at *
 have keep:∀b o,s1.heap.get? b=some o->h3.get? b=some o:=λb o e=>by
  have this:@LT.lt Nat instLTNat b s1.heap.objs.size:=E_ e;exact kp b o (xW (by lia)) (xW (by lia)) (xW (by lia)) (xW (by lia)) (z7 b o e)
 have fr':∀a∈ad,s1.heap.get? a=none:=λa ha=>by
  cases hq:s1.heap.get? a with
  |none=>rfl
  |some o=>
   have q1:=fr a ha;rw[show ({s1 with heap:=h' }:EU).heap.get? a=some o from z7 a o hq]at q1
   cases q1
 have frD:s1.heap.get? D0=none:=KU lD
 have nH:∀a,s1.heap.get? a=none->H1 a=none:=λa e=>by
  cases hq:H1 a with
  |none=>rfl
  |some o=>
   obtain⟨ob,z⟩:=hG (I1.hok a o hq);rw[e]at z;cases z
 generalize hP:MQ (λx y:V=>[x,y]) va vb=PS
 have old:∀b u,s1.heap.get? b=some u->upd (kZ H1 ad PS) D0 (.lst (ad.map V.ref)) b=H1 b:=λb u e=>by
  rw[aY λz=>by rw[z,frD]at e;cases e]
  exact pI λz=>by rw[fr' b z]at e;cases e
 have sm1:aZ H1 (upd (kZ H1 ad PS) D0 (.lst (ad.map V.ref))):=λb o e=>let ⟨ob,z⟩:=hG (I1.hok b o e);(old b ob z).trans e
 have lad:ad.length=ib.length:=by rw[F.len];simp
 have atT:∀(j:Nat) (c:E6) (v u:V),ad[j]?=some c->va[j]?=some v->vb[j]?=some u->upd (kZ H1 ad PS) D0 (.lst (ad.map V.ref)) c=some (.tup [v,u]):=λj c v u e1 e2 e3=>by
  rw[aY (F.ne c (Fs e1))];refine uy F.nd e1 ?_;rw[<-hP];exact HY.mpr ⟨v,u,e2,e3,rfl⟩
 have I3:Inv X pins σ (upd (kZ H1 ad PS) D0 (.lst (ad.map V.ref))) {s1 with heap:=h3 }:=by
  refine Aw (t':=s1.toks) I1 keep old λb o nb e=>?_
  by_cases hbD:b=D0
  ·subst hbD;rw[aV]at e;cases e;exact⟨by rw[ES,lad,<-lb];exact hz2,ad.map FG,c,me ad,F.acc⟩
  ·rw[aY hbD]at e;rcases oF e with z |⟨j,pr,e1,e2,rfl⟩
   ·rw[nH b nb]at z;cases z
   ·rw[<-hP]at e2;obtain⟨v,u,f1,f2,rfl⟩:=HY.mp e2;obtain⟨xv,g1,r1⟩:=ra.get f1;obtain⟨yv,g2,r2⟩:=rb.get f2;obtain⟨xv',yv',k1,k2,k3⟩:=F.tup j b e1
    have m1:xv'=xv:=by
     have:ia.toArray[j]?=some xv:=by simpa using g1
     rw[this]at k1;cases k1;rfl
    have m2:yv'=yv:=by
     have:ib.toArray[j]?=some yv:=by simpa using g2
     rw[this]at k2;cases k2;rfl
    subst m1;subst m2;exact⟨(show 2<=sizeLine by decide),[xv',yv'],.cons r1 (.cons r2 .nil),_,k3,rfl,_,rfl⟩
 refine⟨.ref D0,_,I3,rfl,q D0 _ _ (sm.trans sm1) (sm.free (nH _ frD)) aV ⟨?_,λi v u h1 h2=>?_⟩⟩
 ·rw[ES,List.length_zipWith];lia
 ·rw[E7]at h1;cases hi:ad[i]? with
  |none=>rw[hi]at h1;cases h1
  |some c'=>
   rw[hi]at h1;obtain rfl:V.ref c'=v:=by simpa using h1
   obtain⟨xi,yi,f1,f2,rfl⟩:=HY.mp h2;obtain⟨vi,g1,r1⟩:=rs1.get f1;obtain⟨wi,g2,r2⟩:=rs2.get f2;have S:=bF (O:=O) sm1 (nH _ frD);have rr:=Rps.cons (r1.same S) (Rps.cons (r2.same S) Rps.nil);have hc':=Fs hi;refine .tup (SqT.of (dM (atT i c' vi wi hi g1 g2) λz=>?_)) rr.len rr.at_
   rcases E1.mp z with z |z
   ·exact F.ne c' hc' z
   ·exact (R.go sm).dom c' z (nH _ (fr' c' hc'))
theorem uO(hc:X.calm=true)(hg:Gl X "list")(hm:X.mg "list"=none)(hgz:Gl X "zip")(hmz:X.mg "zip"=none)(ha:Ev X H0 O0 ps e x)(hx:x=.lst xs∨x=.scr xs)(hb:Ev X H0 O0 ps f y)(hy:y=.lst ys∨y=.scr ys)(hl:ys.length=xs.length)(hn:xs.length≤1000)
  (he:E4 [e,f] X.env=(false,IJ e X.env)::E4 [f] X.env:=by rfl) (hf:E4 [f] X.env=(false,IJ f X.env)::E4 [] X.env:=by rfl):
  EvN X H0 O0 ps (.Call (.Name "list" p) [.Call (.Name "zip" p') [e,f] [] QP] [] QB) (MQ (λa b=>U.tup [a,b]) xs ys):=rC hc hg hm hgz hmz ha hx hb hy (Qc hl) hn he hf
end
theorem jf(ns:List Int):∀j,preSum (λi=>ns.getD i 0) j=(ns.take j).sum
 |0=>by simp[preSum]
 |j+1=>by rw[preSum,jf ns j,PySem.sum_take_succ]
section
variable {X:Cx}{ns:List Int}{M:Int}
theorem kQ{K:ER}{H:Hp}{ws:List V}{QC:List EW}(rv:aM ws QC)(rs:Rps K H ws (ns.map U.int))(i:Nat)(z:EW)(e:QC.toArray[i]?=some z):∃t,z=.int (ns.getD i 0) t:=by
 have hl:=rs.len;rw[ES]at hl;have e4:QC[i]?=some z:=by simpa using e
 have hi:i<QC.length:=aH e4;have hw:i<ws.length:=by rw[rv.length];exact hi
 have hb:i<ns.length:=by lia
 obtain⟨u,e1,e2⟩:=rv.get (EO hw);have e3:=rs.at_ i ws[i] (.int ns[i]) (EO hw) (by rw[E7,EO hb];rfl)
 rw[e4]at e1;cases e1;generalize ws[i]=wi at *;cases e3;rw[Fj,EO hb];obtain⟨t,rfl⟩:=e2;exact⟨t,rfl⟩
theorem Cw(hc:X.calm=true)(hM:M∈ns∧∀a∈ns,M≤a):eZ X (.builtin "min") [.lst (ns.map U.int)] (.int M):=by
 intro pins s σ H vs us Q I r hq;obtain⟨O,d,rs,q⟩:=hq;obtain⟨v,rfl,h1⟩:=cx rs;obtain⟨p1,rfl,r1⟩:=eQ r;cases h1 with
 | @lst a ws _ hq hl hh=>
  cases r1;obtain⟨QC,rv,pl,_⟩:=I.list (SqL.of (ax _ _ hq));have QJ:QC.length=ns.length:=by rw[<-rv.length,hl,ES]
  have RQ:=kQ (ns:=ns) rv ⟨hl,hh⟩;have hn:0<ns.length:=GD hM.1;refine call_min_walk (HE pl.isList ?_);have Rv:a<s.heap.objs.size:=by obtain⟨o,e,_⟩:=pl.isList;exact E_ e
  refine⟨s.heap.objs.size,_,_,_,_,_,_,rfl,Walks.list (A:=X.A.in1) (I.ok.hd hc) s.heap.objs.size a (FJ Rv) QC.toArray,⟨⟨_,Fe _ rfl,rfl,rfl⟩,pl.isList.push _⟩,λb hb=>?_,by rw[Ff,QJ];exact hn,CmpOf.ints_lt (λi=>ns.getD i 0) RQ,λv h' tk hP hk=>?_⟩
  ·show b<(s.heap.push _).objs.size;rw[Hu];rcases E1.mp hb with z |z
   ·rw[z];exact Hg _
   ·rw[E9.mp z];exact HG Rv
  ·obtain⟨t,rfl⟩:=RQ _ _ hP;obtain⟨b1,b2⟩:=argBest_lt (λi=>ns.getD i 0) (QC.toArray.size-1)
   have e:ns.getD (G3 (λi j=>decide (ns.getD i 0<ns.getD j 0)) (QC.toArray.size-1)) 0=M:=by
    rw[Ff,QJ]at b1 b2 |-;generalize G3 (λi j=>decide (ns.getD i 0<ns.getD j 0)) (ns.length-1)=g at *
    have hg:g<ns.length:=by lia
    obtain⟨j,hj,ej⟩:=GK hM.1;have k1:=b2 j (by lia)
    have k2:=hM.2 ns[g] (F7 hg);simp only[Fj,EO hg,EO hj,Ir]at k1 |-;lia
   rw[e];refine⟨.int M,H,I.kept (t':=tk) λb o e=>hk b o ?_ (EV _ e),⟨t,rfl⟩,q _ H (.refl H) (.int _)⟩
   intro z;have:b=s.heap.objs.size:=by simpa using z
   exact absurd (E_ e) (by rw[this];exact FM _)
theorem yQ(hc:X.calm=true):eZ X (.builtin "sum") [.lst (ns.map U.int)] (.int ns.sum):=by
 intro pins s σ H vs us Q I r hq;obtain⟨O,d,rs,q⟩:=hq;obtain⟨v,rfl,h1⟩:=cx rs;obtain⟨p1,rfl,r1⟩:=eQ r;cases h1 with
 | @lst a ws _ hq hl hh=>
  cases r1;obtain⟨QC,rv,pl,_⟩:=I.list (SqL.of (ax _ _ hq));have QJ:QC.length=ns.length:=by rw[<-rv.length,hl,ES]
  have RQ:=kQ (ns:=ns) rv ⟨hl,hh⟩;refine call_sum_walkG (HE pl.isList ?_);have Rv:a<s.heap.objs.size:=by obtain⟨o,e,_⟩:=pl.isList;exact E_ e
  refine⟨s.heap.objs.size,_,_,_,_,_,λi=>ns.getD i 0,rfl,Walks.list (A:=X.A.in1) (I.ok.hd hc) s.heap.objs.size a (FJ Rv) QC.toArray,⟨⟨_,Fe _ rfl,rfl,rfl⟩,pl.isList.push _⟩,λb hb=>?_,RQ,λh' tk t' hk=>?_⟩
  ·show b<(s.heap.push _).objs.size;rw[Hu];rcases E1.mp hb with z |z
   ·rw[z];exact Hg _
   ·rw[E9.mp z];exact HG Rv
  ·rw[jf,Ff,QJ,HX];refine⟨.int ns.sum,H,I.kept (t':=tk) λb o e=>hk b o ?_ (EV _ e),⟨t',rfl⟩,q _ H (.refl H) (.int _)⟩
   intro z;have:b=s.heap.objs.size:=by simpa using z
   exact absurd (E_ e) (by rw[this];exact FM _)
end
end L2
namespace ST
open PySem PyProof.Rows
def leP(a b:Int×Int):Bool:=decide (a.1<b.1\/(a.1=b.1/\a.2<=b.2))
section
variable {prog:E8}{w:FE}{A:FC}{E:EW→EU→Prop}{s:EU}
end
end ST
namespace L2
open PySem PySem.Spec PyProof.Rows
section
variable {X:Cx}{H0:Hp}{O0:List E6}{ps:PSt}{a b c:Expr}{QB:Pos}{x y z:U}{p q:P2}{k m:Bool}
end
section
variable {X:Cx}{p q:P2}{l:List P2}
theorem km{pins:List (E6×Obj)}{σ:List (Option V)}{H:Hp}{s:EU}(I:Inv X pins σ H s){v:V}{u:EW}(r:Rp X.K H v (pu p))(e:bi v u):∃b,u=.ref b/\∀prog w,ST.TK prog w s.heap [p.1,p.2] b:=by
 cases r with
 | @tup b zs _ hs TY hsi=>
  cases e;refine⟨b,rfl,λprog w=>?_⟩
  obtain⟨jts,rj,ht,_⟩:=I.tuple hs;have z0:zs.length=2:=TY
  match zs,z0,hsi,rj with
  |[z1,z2],_,hsi,rj=>
   have q1:=hsi 0 z1 _ rfl rfl;have q2:=hsi 1 z2 _ rfl rfl;cases q1;cases q2;obtain⟨u1,u2,rfl,r1,r2⟩:=jm rj;obtain⟨t1,rfl⟩:=r1;obtain⟨t2,rfl⟩:=r2;obtain⟨o,ho,TN,n,hod⟩:=ht;exact⟨o,_,n,ho,TN,hod,.cons (HJ _ _ _ _) (.cons (HJ _ _ _ _) .nil)⟩
end
theorem nd_len{α:Type}[DecidableEq α]:∀{l m:List α},l.Nodup->(∀x∈l,x∈m)->l.length<=m.length
 |[],_,_,_=>Gz _
 |a::l,m,nd,sub=>by
  have h:=HP.mp nd;have ha:=sub a E3;have ih:=nd_len (m:=m.erase a) h.2 λx hx=>(Na (λe=>h.1 (by rw[<-e];exact hx))).mpr (sub x (ET _ hx))
  rw[LO ha]at ih;have:=GD ha;simp only[FN];lia
section
variable {X:Cx}{H0:Hp}{O0:List E6}{ps:PSt}{e:Expr}{pts:List P2}{QB QP p p':Pos}
end
end L2
namespace ST
open PySem
def vX(prog:E8)(w:FE)(A:FC)(op:Qm)(G:GV->Prop)(P:Nat->EW->Prop)(bt:Nat->Nat->Bool):Prop:=
 ∀i j vi vj (s:EU) (Q:EW->EU->Prop) (E:EW->EU->Prop),G s.heap->P i vi->P j vj->Q (.bool (bt i j)) s->Fy (FF prog w) A (L9 op vi vj) Q E s
section
variable {prog:E8}{w:FE}{A:FC}{R:Ng→EU→Prop}{I S:E6}{fp wr:List E6}{n:Nat}{P:Nat→EW→Prop}{St:Nat→GV→Prop}{G:GV→Prop}{bt:Nat→Nat→Bool}
theorem vK(W:Walks prog w A.in1 I fp wr n P St)(hc:vX prog w A.in1 .Lt G P bt)(stay:∀h h':GV,G h->(∀b o,b ∉ wr->b≠S->h.get? b=some o->h'.get? b=some o)->G h')(Rn:S ∉ fp):
  ∀(k j:Nat) (s:EU) (vb:EW) (c:Nat),n-(j+1)=k→j+1≤n→G s.heap→St (j+1) s.heap→P (G3 bt j) vb→s.heap.get? S=some {cls:=.type "list",dict:=none,data:=.seq #[vb,vb] c,slots:=#[] }→
  (∀v h' tk,P (G3 bt (n-1)) v->(∀b o,b ∉ wr->b≠S->s.heap.get? b=some o->h'.get? b=some o)->R (.ok (.ret v)) {s with heap:=h',toks:=tk })->
  Jc (FF prog w) A (.builtin "min.loop" ⟨[.ref I,.none,.ref S],[]⟩) R s:=by
 have nw:S ∉ wr:=λh=>Rn (W.sub _ h)
 have nm:(Kb "min"++Kb ".loop":String)="min.loop":=by decide
 intro k
 induction k with
 |zero=>
  intro j s vb c hk hj g st pb hS hR;obtain rfl:j+1=n:=by lia
  refine GM Kl ?_;rw[Gu Ha _];show Fy _ A.in1 (LL (.ref S) >>=_) _ _ s;refine EN (G5 hS rfl ?_);show Fy _ A.in1 (L_ (JF (.ref I)) _ >>=_) _ _ s;refine EN (IB (W.done s _ _ st λh' tk kp=>?_))
  show Fy _ A.in1 (JI S (λ_=>#[]) >>=_) _ _ _
  refine EN (GO (kp S _ nw hS) rfl (EN (IX (EY ?_))));exact hR vb _ tk pb λb o hw hb e=>(FD _ _ (Ne.symm hb)).trans (kp b o hw e)
 |succ k ih=>
  intro j s vb c hk hj g st pb hS hR;refine GM Kl ?_;rw[Gu Ha _];show Fy _ A.in1 (LL (.ref S) >>=_) _ _ s;refine EN (G5 hS rfl ?_);show Fy _ A.in1 (L_ (JF (.ref I)) _ >>=_) _ _ s;refine EN (IB (W.item (j+1) s _ _ (by lia) st λv h' tk pv QD kp=>?_))
  have g':G h':=stay _ _ g λb o hw _ e=>kp b o hw e
  have RU:=kp S _ nw hS;show Fy _ A.in1 (L_ (NM [v,v] (L9 .Lt v vb >>=_)) _ >>=_) _ _ _;refine EN (IB (Gk (EN (hc (j+1) (G3 bt j) v vb _ _ _ g' pv pb ?_))));refine EN (Gk (Ii (EN (IX (EY ?_)))));by_cases hb:bt (j+1) (G3 bt j)=true
  ·rw[if_pos hb];refine EN (GO RU rfl (EN (IX ?_)));rw[nm];have Q3:∀b o,b≠S->h'.get? b=some o->(h'.update S (Gq λ_=>#[v,v])).get? b=some o:=λb o h e=>(FD _ _ (Ne.symm h)).trans e
   refine EY ⟨GS Ha _,ih (j+1) _ v _ (by lia) (by lia) (stay _ _ g' λb o _ h e=>Q3 b o h e) (W.frame _ _ _ QD λb hf o e=>Q3 b o (λh=>Rn (h ▸ hf)) e) (by rw[G3,if_pos hb];exact pv) (FW _ RU rfl) λv2 h2 t2 p2 k2=>?_⟩
   exact hR v2 h2 t2 p2 λb o hw h e=>k2 b o hw h (Q3 b o h (kp b o hw e))
  ·rw[if_neg hb];refine EN (IX ?_);rw[nm];refine EY ⟨GS Ha _,ih (j+1) _ vb c (by lia) (by lia) g' QD (by rw[G3,if_neg hb];exact pb) RU λv2 h2 t2 p2 k2=>?_⟩
   exact hR v2 h2 t2 p2 λb o hw h e=>k2 b o hw h (kp b o hw e)
theorem qJ(W:Walks prog w A.in1 I fp wr n P St)(hc:vX prog w A.in1 .Lt G P bt)(stay:∀h h':GV,G h->(∀b o,b ∉ wr->b≠S->h.get? b=some o->h'.get? b=some o)->G h')(Rn:S ∉ fp)(hn:0<n){s:EU}{c:Nat}(g:G s.heap)(st:St 0 s.heap)
  (hS:s.heap.get? S=some {cls:=.type "list",dict:=none,data:=.seq #[] c,slots:=#[] })
  (hR:∀v h' tk,P (G3 bt (n-1)) v->(∀b o,b ∉ wr->b≠S->s.heap.get? b=some o->h'.get? b=some o)->R (.ok (.ret v)) {s with heap:=h',toks:=tk }):
  Jc (FF prog w) A (.builtin "min.loop" ⟨[.ref I,.none,.ref S],[]⟩) R s:=by
 have nw:S ∉ wr:=λh=>Rn (W.sub _ h)
 have nm:(Kb "min"++Kb ".loop":String)="min.loop":=by decide
 refine GM Kl ?_;rw[Gu Ha _];show Fy _ A.in1 (LL (.ref S) >>=_) _ _ s;refine EN (G5 hS rfl ?_);show Fy _ A.in1 (L_ (JF (.ref I)) _ >>=_) _ _ s;refine EN (IB (W.item 0 s _ _ hn st λv h' tk pv QD kp=>?_))
 have RU:=kp S _ nw hS;show Fy _ A.in1 (JI S (λ_=>#[v,v]) >>=_) _ _ _
 refine EN (GO RU rfl ?_);rw[nm];have Q3:∀b o,b≠S->h'.get? b=some o->(h'.update S (Gq λ_=>#[v,v])).get? b=some o:=λb o h e=>(FD _ _ (Ne.symm h)).trans e
 refine EY ⟨GS Ha _,vK W hc stay Rn _ 0 _ v _ rfl hn (stay _ _ g λb o hw h e=>Q3 b o h (kp b o hw e)) (W.frame _ _ _ QD λb hf o e=>Q3 b o (λh=>Rn (h ▸ hf)) e) pv (FW _ RU rfl) λv2 h2 t2 p2 k2=>?_⟩
 exact hR v2 h2 t2 p2 λb o hw h e=>k2 b o hw h (Q3 b o h (kp b o hw e))
variable {E:EW→EU→Prop}{s:EU}
theorem call_minG{l:E6}{items:Array EW}{G:GV->Prop}{bt:Nat->Nat->Bool}{Q:EW->EU->Prop}(hh:A.handled=none)(hl:s.heap.IsList l items)(hn:0<items.size)(hc:vX prog w A.in1 .Lt G (λi v=>items[i]?=some v) bt)
  (g:G s.heap) (stay:∀h h':GV,G h->(∀b o,s.heap.get? b=some o->h.get? b=some o)->(∀b o,s.heap.get? b=some o->h'.get? b=some o)->G h')
  (hQ:∀v h' tk,items[G3 bt (items.size-1)]?=some v->(∀b o,s.heap.get? b=some o->h'.get? b=some o)->Q v {s with heap:=h',toks:=tk }):
  Fy (FF prog w) A (call (.builtin "min") [.ref l]) Q E s:=by
 have nm:(Kb "min"++Kb ".loop":String)="min.loop":=by decide
 refine NC PySem.F.kind_min PySem.F.plain_min PySem.F.entry_min (PySem.F.args_min1 _) ?_;show Fy _ A.in1 (Builtin.Builtins.bindParams "min" ["key","default"] 0 ⟨[],[]⟩ >>=_) _ _ s;refine EN (Nl (show Builtin.Builtins.bindParams "min" ["key","default"] 0 ⟨[],[]⟩=pure [none,none] from rfl) ?_)
 refine EN (EY ?_);refine EN (HE hl ?_);have Rv:l<s.heap.objs.size:=by obtain⟨o,e,_⟩:=hl;exact E_ e
 refine EN (Ij ?_);rw[nm];have W:=Walks.list (prog:=prog) (w:=w) (A:=A.in1) hh s.heap.objs.size l (FJ Rv) items;have up:∀b o,s.heap.get? b=some o→((s.heap.push {cls:=.type "list_iterator",data:=.fields #[.ref l,.int 0 0] }).push {cls:=.type "list",data:=.seq #[] }).get? b=some o:=λb o e=>EV _ (EV _ e)
 have sI:(s.heap.push {cls:=.type "list_iterator",data:=.fields #[.ref l,.int 0 0] }).objs.size=s.heap.objs.size+1:=Hu ..
 have lt:∀b o,s.heap.get? b=some o→b ∉ [s.heap.objs.size]∧b≠(s.heap.push {cls:=.type "list_iterator",data:=.fields #[.ref l,.int 0 0] }).objs.size:=λb o e=>by
  have h:=E_ e;refine⟨λz=>?_,λz=>?_⟩
  ·rw[E9.mp z]at h;exact FM _ h
  ·rw[z,sI]at h;exact FM _ (Jy h)
 refine EY ⟨GS Ha _,qJ (G:=λh=>G h/\∀b o,s.heap.get? b=some o->h.get? b=some o) W (λi j vi vj s' Q' E' g'=>hc i j vi vj s' Q' E' g'.1) (λh h' g' kp=>?_) ?_ hn ⟨stay _ _ g (λ_ _ e=>e) up,up⟩ ⟨⟨_,EV _ (Fe _ rfl),rfl,rfl⟩,(hl.push _).push _⟩ (Fe _ rfl) λv h' tk pv kp=>?_⟩
 ·have k2:∀b o,s.heap.get? b=some o->h'.get? b=some o:=λb o e=>kp b o (lt b o e).1 (lt b o e).2 (g'.2 b o e)
  exact⟨stay _ _ g'.1 g'.2 k2,k2⟩
 ·intro z;have z':(s.heap.push {cls:=.type "list_iterator",data:=.fields #[.ref l,.int 0 0] }).objs.size∈[s.heap.objs.size,l]:=z;rw[sI]at z';rcases E1.mp z' with z |z
  ·exact absurd z (Oe _)
  ·have e:=E9.mp z;rw[<-e]at Rv;exact absurd Rv (Of (Hg _))
 ·exact hQ v h' tk pv λb o e=>kp b o (lt b o e).1 (lt b o e).2 (up b o e)
theorem vv(W:Walks prog w A.in1 I fp wr n P St)(hc:vX prog w A.in1 .Gt G P bt)(stay:∀h h':GV,G h->(∀b o,b ∉ wr->b≠S->h.get? b=some o->h'.get? b=some o)->G h')(Rn:S ∉ fp):
  ∀(k j:Nat) (s:EU) (vb:EW) (c:Nat),n-(j+1)=k→j+1≤n→G s.heap→St (j+1) s.heap→P (G3 bt j) vb→s.heap.get? S=some {cls:=.type "list",dict:=none,data:=.seq #[vb,vb] c,slots:=#[] }→
  (∀v h' tk,P (G3 bt (n-1)) v->(∀b o,b ∉ wr->b≠S->s.heap.get? b=some o->h'.get? b=some o)->R (.ok (.ret v)) {s with heap:=h',toks:=tk })->
  Jc (FF prog w) A (.builtin "max.loop" ⟨[.ref I,.none,.ref S],[]⟩) R s:=by
 have nw:S ∉ wr:=λh=>Rn (W.sub _ h)
 have nm:(Kb "max"++Kb ".loop":String)="max.loop":=by decide
 intro k
 induction k with
 |zero=>
  intro j s vb c hk hj g st pb hS hR;obtain rfl:j+1=n:=by lia
  refine GM Km ?_;rw[Gu Hb _];show Fy _ A.in1 (LL (.ref S) >>=_) _ _ s;refine EN (G5 hS rfl ?_);show Fy _ A.in1 (L_ (JF (.ref I)) _ >>=_) _ _ s;refine EN (IB (W.done s _ _ st λh' tk kp=>?_))
  show Fy _ A.in1 (JI S (λ_=>#[]) >>=_) _ _ _
  refine EN (GO (kp S _ nw hS) rfl (EN (IX (EY ?_))));exact hR vb _ tk pb λb o hw hb e=>(FD _ _ (Ne.symm hb)).trans (kp b o hw e)
 |succ k ih=>
  intro j s vb c hk hj g st pb hS hR;refine GM Km ?_;rw[Gu Hb _];show Fy _ A.in1 (LL (.ref S) >>=_) _ _ s;refine EN (G5 hS rfl ?_);show Fy _ A.in1 (L_ (JF (.ref I)) _ >>=_) _ _ s;refine EN (IB (W.item (j+1) s _ _ (by lia) st λv h' tk pv QD kp=>?_))
  have g':G h':=stay _ _ g λb o hw _ e=>kp b o hw e
  have RU:=kp S _ nw hS;show Fy _ A.in1 (L_ (NM [v,v] (L9 .Gt v vb >>=_)) _ >>=_) _ _ _;refine EN (IB (Gk (EN (hc (j+1) (G3 bt j) v vb _ _ _ g' pv pb ?_))));refine EN (Gk (Ii (EN (IX (EY ?_)))));by_cases hb:bt (j+1) (G3 bt j)=true
  ·rw[if_pos hb];refine EN (GO RU rfl (EN (IX ?_)));rw[nm];have Q3:∀b o,b≠S->h'.get? b=some o->(h'.update S (Gq λ_=>#[v,v])).get? b=some o:=λb o h e=>(FD _ _ (Ne.symm h)).trans e
   refine EY ⟨GS Hb _,ih (j+1) _ v _ (by lia) (by lia) (stay _ _ g' λb o _ h e=>Q3 b o h e) (W.frame _ _ _ QD λb hf o e=>Q3 b o (λh=>Rn (h ▸ hf)) e) (by rw[G3,if_pos hb];exact pv) (FW _ RU rfl) λv2 h2 t2 p2 k2=>?_⟩
   exact hR v2 h2 t2 p2 λb o hw h e=>k2 b o hw h (Q3 b o h (kp b o hw e))
  ·rw[if_neg hb];refine EN (IX ?_);rw[nm];refine EY ⟨GS Hb _,ih (j+1) _ vb c (by lia) (by lia) g' QD (by rw[G3,if_neg hb];exact pb) RU λv2 h2 t2 p2 k2=>?_⟩
   exact hR v2 h2 t2 p2 λb o hw h e=>k2 b o hw h (kp b o hw e)
theorem sj(W:Walks prog w A.in1 I fp wr n P St)(hc:vX prog w A.in1 .Gt G P bt)(stay:∀h h':GV,G h->(∀b o,b ∉ wr->b≠S->h.get? b=some o->h'.get? b=some o)->G h')(Rn:S ∉ fp)(hn:0<n){s:EU}{c:Nat}(g:G s.heap)(st:St 0 s.heap)
  (hS:s.heap.get? S=some {cls:=.type "list",dict:=none,data:=.seq #[] c,slots:=#[] })
  (hR:∀v h' tk,P (G3 bt (n-1)) v->(∀b o,b ∉ wr->b≠S->s.heap.get? b=some o->h'.get? b=some o)->R (.ok (.ret v)) {s with heap:=h',toks:=tk }):
  Jc (FF prog w) A (.builtin "max.loop" ⟨[.ref I,.none,.ref S],[]⟩) R s:=by
 have nw:S ∉ wr:=λh=>Rn (W.sub _ h)
 have nm:(Kb "max"++Kb ".loop":String)="max.loop":=by decide
 refine GM Km ?_;rw[Gu Hb _];show Fy _ A.in1 (LL (.ref S) >>=_) _ _ s;refine EN (G5 hS rfl ?_);show Fy _ A.in1 (L_ (JF (.ref I)) _ >>=_) _ _ s;refine EN (IB (W.item 0 s _ _ hn st λv h' tk pv QD kp=>?_))
 have RU:=kp S _ nw hS;show Fy _ A.in1 (JI S (λ_=>#[v,v]) >>=_) _ _ _
 refine EN (GO RU rfl ?_);rw[nm];have Q3:∀b o,b≠S->h'.get? b=some o->(h'.update S (Gq λ_=>#[v,v])).get? b=some o:=λb o h e=>(FD _ _ (Ne.symm h)).trans e
 refine EY ⟨GS Hb _,vv W hc stay Rn _ 0 _ v _ rfl hn (stay _ _ g λb o hw h e=>Q3 b o h (kp b o hw e)) (W.frame _ _ _ QD λb hf o e=>Q3 b o (λh=>Rn (h ▸ hf)) e) pv (FW _ RU rfl) λv2 h2 t2 p2 k2=>?_⟩
 exact hR v2 h2 t2 p2 λb o hw h e=>k2 b o hw h (Q3 b o h (kp b o hw e))
theorem call_maxG{l:E6}{items:Array EW}{G:GV->Prop}{bt:Nat->Nat->Bool}{Q:EW->EU->Prop}(hh:A.handled=none)(hl:s.heap.IsList l items)(hn:0<items.size)(hc:vX prog w A.in1 .Gt G (λi v=>items[i]?=some v) bt)
  (g:G s.heap) (stay:∀h h':GV,G h->(∀b o,s.heap.get? b=some o->h.get? b=some o)->(∀b o,s.heap.get? b=some o->h'.get? b=some o)->G h')
  (hQ:∀v h' tk,items[G3 bt (items.size-1)]?=some v->(∀b o,s.heap.get? b=some o->h'.get? b=some o)->Q v {s with heap:=h',toks:=tk }):
  Fy (FF prog w) A (call (.builtin "max") [.ref l]) Q E s:=by
 have nm:(Kb "max"++Kb ".loop":String)="max.loop":=by decide
 refine NC PySem.F.kind_max PySem.F.plain_max PySem.F.entry_max (PySem.F.args_max1 _) ?_;show Fy _ A.in1 (Builtin.Builtins.bindParams "max" ["key","default"] 0 ⟨[],[]⟩ >>=_) _ _ s;refine EN (Nl (show Builtin.Builtins.bindParams "max" ["key","default"] 0 ⟨[],[]⟩=pure [none,none] from rfl) ?_)
 refine EN (EY ?_);refine EN (HE hl ?_);have Rv:l<s.heap.objs.size:=by obtain⟨o,e,_⟩:=hl;exact E_ e
 refine EN (Ij ?_);rw[nm];have W:=Walks.list (prog:=prog) (w:=w) (A:=A.in1) hh s.heap.objs.size l (FJ Rv) items;have up:∀b o,s.heap.get? b=some o→((s.heap.push {cls:=.type "list_iterator",data:=.fields #[.ref l,.int 0 0] }).push {cls:=.type "list",data:=.seq #[] }).get? b=some o:=λb o e=>EV _ (EV _ e)
 have sI:(s.heap.push {cls:=.type "list_iterator",data:=.fields #[.ref l,.int 0 0] }).objs.size=s.heap.objs.size+1:=Hu ..
 have lt:∀b o,s.heap.get? b=some o→b ∉ [s.heap.objs.size]∧b≠(s.heap.push {cls:=.type "list_iterator",data:=.fields #[.ref l,.int 0 0] }).objs.size:=λb o e=>by
  have h:=E_ e;refine⟨λz=>?_,λz=>?_⟩
  ·rw[E9.mp z]at h;exact FM _ h
  ·rw[z,sI]at h;exact FM _ (Jy h)
 refine EY ⟨GS Hb _,sj (G:=λh=>G h/\∀b o,s.heap.get? b=some o->h.get? b=some o) W (λi j vi vj s' Q' E' g'=>hc i j vi vj s' Q' E' g'.1) (λh h' g' kp=>?_) ?_ hn ⟨stay _ _ g (λ_ _ e=>e) up,up⟩ ⟨⟨_,EV _ (Fe _ rfl),rfl,rfl⟩,(hl.push _).push _⟩ (Fe _ rfl) λv h' tk pv kp=>?_⟩
 ·have k2:∀b o,s.heap.get? b=some o->h'.get? b=some o:=λb o e=>kp b o (lt b o e).1 (lt b o e).2 (g'.2 b o e)
  exact⟨stay _ _ g'.1 g'.2 k2,k2⟩
 ·intro z;have z':(s.heap.push {cls:=.type "list_iterator",data:=.fields #[.ref l,.int 0 0] }).objs.size∈[s.heap.objs.size,l]:=z;rw[sI]at z';rcases E1.mp z' with z |z
  ·exact absurd z (Oe _)
  ·have e:=E9.mp z;rw[<-e]at Rv;exact absurd Rv (Of (Hg _))
 ·exact hQ v h' tk pv λb o e=>kp b o (lt b o e).1 (lt b o e).2 (up b o e)
end
end ST
namespace ST
open PySem PyProof.Rows
section
variable {prog:E8}{w:FE}{A:FC}{E:EW→EU→Prop}{s:EU}
theorem sS{x y:Int}{t u:Tok}{Q:EW->EU->Prop}(h:Q (.bool (decide (x<y))) s):Fy (FF prog w) A (L9 .Lt (.int x t) (.int y u)) Q E s:=
 N1 (op:=.Lt) (K8 s _ t) (K8 s _ u) PySem.F.slot_int_lt PySem.F.entry_int_lt (PySem.F.args_int_lt_2 _ _) (gives_int_lt _ _ t u) (λx=>nomatch x) h
theorem xr{x y:E6}{a b:Int×Int}{P:Fin->EU->Prop}(hx:TK prog w s.heap [a.1,a.2] x)(hy:TK prog w s.heap [b.1,b.2] y)(h:P (.done (.ret (.bool (ltP a b)))) s):
  Fy (FF prog w) A (Builtin.«tuple.__lt__» ⟨[.ref x,.ref y],[]⟩) P E s:=by
 have hTb:=hy.typeIs;obtain⟨o,QC,n,t,u,ho,_,hd,hi⟩:=hx.two;obtain⟨o',its',n',t',u',RH,_,RK,QO⟩:=hy.two;show Fy _ _ (M6 (.ref y) (.type "tuple") >>=_) _ _ s;refine EN (Iu hTb MR ?_);simp only[Hf,Fk,if_false];refine EN (Kc ho hd ?_);refine EN (Kc RH RK ?_);have sz:QC.size=its'.size:=by rw[<-E5,<-E5,hi,QO];rfl
 rw[hi,QO];refine EN ?_;simp only[GT,N2,Jh,KG];refine EN (EN ((LB prog w).eqBool (a:=a.1) (b:=b.1) (HJ _ _ _ _) (HJ _ _ _ _) ?_));by_cases e1:a.1=b.1
 ·rw[decide_eq_true e1];simp only[Hf,Fk,if_false];refine EY ?_;refine EN (EN ((LB prog w).eqBool (a:=a.2) (b:=b.2) (HJ _ _ _ _) (HJ _ _ _ _) ?_));by_cases e2:a.2=b.2
  ·rw[decide_eq_true e2];simp only[Hf,Fk,if_false];refine EY (EY ?_);have z:ltP a b=false:=by unfold ltP;simp;lia
   rw[z]at h;refine EY ?_;show P (.done (.ret (.bool (decide (QC.size<its'.size))))) s;rw[sz,decide_eq_false (FM _)];exact h
  ·rw[decide_eq_false e2];simp only[JH,if_true];have z:ltP a b=decide (a.2<b.2):=by unfold ltP;rw[e1];simp
   rw[z]at h;exact EN (Kp (EN (sS (EN (EY (EY (EY (EY h))))))))
 ·rw[decide_eq_false e1];simp only[JH,if_true];have z:ltP a b=decide (a.1<b.1):=by unfold ltP;simp[e1]
  rw[z]at h;exact EN (Kp (EN (sS (EN (EY (EY (EY (EY h))))))))
theorem lt_ptsR{x y:E6}{a b:Int×Int}{Q:EW->EU->Prop}(hu:A.units<JQ)(hx:TK prog w s.heap [a.1,a.2] x)(hy:TK prog w s.heap [b.1,b.2] y)(h:Q (.bool (ltP a b)) s):
  Fy (FF prog w) A (Hl .Lt (.ref x) (.ref y)) Q E s:=
 Ld (op:=.Lt) hx.typeIs hy.typeIs MS
  (GN MS hx.typeIs PySem.F.entry_tuple_lt (xr hx hy ⟨_,rfl,(λe=>nomatch e),h⟩) (PySem.F.args_tuple_lt_2 _ _)) hu
theorem uo{x y:Int}{t u:Tok}{Q:EW->EU->Prop}(h:Q (.bool (decide (y<x))) s):Fy (FF prog w) A (L9 .Gt (.int x t) (.int y u)) Q E s:=
 N1 (op:=.Gt) (K8 s _ t) (K8 s _ u) PySem.F.slot_int_gt PySem.F.entry_int_gt (PySem.F.args_int_gt_2 _ _) (gives_int_gt _ _ t u) (λx=>nomatch x) h
theorem wH{x y:E6}{a b:Int×Int}{P:Fin->EU->Prop}(hx:TK prog w s.heap [a.1,a.2] x)(hy:TK prog w s.heap [b.1,b.2] y)(h:P (.done (.ret (.bool (ltP b a)))) s):
  Fy (FF prog w) A (Builtin.«tuple.__gt__» ⟨[.ref x,.ref y],[]⟩) P E s:=by
 have hTb:=hy.typeIs;obtain⟨o,QC,n,t,u,ho,_,hd,hi⟩:=hx.two;obtain⟨o',its',n',t',u',RH,_,RK,QO⟩:=hy.two;show Fy _ _ (M6 (.ref y) (.type "tuple") >>=_) _ _ s;refine EN (Iu hTb MR ?_);simp only[Hf,Fk,if_false];refine EN (Kc ho hd ?_);refine EN (Kc RH RK ?_);have sz:QC.size=its'.size:=by rw[<-E5,<-E5,hi,QO];rfl
 rw[hi,QO];refine EN ?_;simp only[GT,N2,Jh,KG];refine EN (EN ((LB prog w).eqBool (a:=a.1) (b:=b.1) (HJ _ _ _ _) (HJ _ _ _ _) ?_));by_cases e1:a.1=b.1
 ·rw[decide_eq_true e1];simp only[Hf,Fk,if_false];refine EY ?_;refine EN (EN ((LB prog w).eqBool (a:=a.2) (b:=b.2) (HJ _ _ _ _) (HJ _ _ _ _) ?_));by_cases e2:a.2=b.2
  ·rw[decide_eq_true e2];simp only[Hf,Fk,if_false];refine EY (EY ?_);have z:ltP b a=false:=by unfold ltP;simp;lia
   rw[z]at h;refine EY ?_;show P (.done (.ret (.bool (decide (QC.size >its'.size))))) s;rw[sz,decide_eq_false (FM _)];exact h
  ·rw[decide_eq_false e2];simp only[JH,if_true];have z:ltP b a=decide (b.2<a.2):=by unfold ltP;rw[e1];simp
   rw[z]at h;exact EN (Kp (EN (uo (EN (EY (EY (EY (EY h))))))))
 ·rw[decide_eq_false e1];simp only[JH,if_true];have z:ltP b a=decide (b.1<a.1):=by unfold ltP;simp[Ne.symm e1]
  rw[z]at h;exact EN (Kp (EN (uo (EN (EY (EY (EY (EY h))))))))
theorem gt_ptsR{x y:E6}{a b:Int×Int}{Q:EW->EU->Prop}(hu:A.units<JQ)(hx:TK prog w s.heap [a.1,a.2] x)(hy:TK prog w s.heap [b.1,b.2] y)(h:Q (.bool (ltP b a)) s):
  Fy (FF prog w) A (Hl .Gt (.ref x) (.ref y)) Q E s:=
 Ld (op:=.Gt) hx.typeIs hy.typeIs MT
  (GN MT hx.typeIs PySem.F.entry_tuple_gt (wH hx hy ⟨_,rfl,(λe=>nomatch e),h⟩) (PySem.F.args_tuple_gt_2 _ _)) hu
end
theorem ue{a b:Int×Int}:ltP a b=true↔(a.1<b.1\/(a.1=b.1/\a.2<b.2)):=by unfold ltP;exact decide_eq_true_iff
theorem ltP_no{a b:Int×Int}:ltP a b=false↔¬ (a.1<b.1\/(a.1=b.1/\a.2<b.2)):=by unfold ltP;exact decide_eq_false_iff_not
theorem ltP_one{a b:Int×Int}(h1:ltP a b=false)(h2:ltP b a=false):a=b:=by
 rw[ltP_no]at h1 h2;obtain⟨a1,a2⟩:=a;obtain⟨b1,b2⟩:=b;simp only[ND]at *;lia
theorem best_min(f:Nat->Int×Int):∀k,G3 (λi j=>ltP (f i) (f j)) k<=k/\∀j,j<=k->ltP (f j) (f (G3 (λi j=>ltP (f i) (f j)) k))=false
 |0=>⟨E2 _,λj hj=>by
  obtain rfl:j=0:=by lia
  rw[ltP_no];simp[G3]⟩
 |k+1=>by
  obtain⟨h1,h2⟩:=best_min f k;by_cases hb:ltP (f (k+1)) (f (G3 (λi j=>ltP (f i) (f j)) k))=true
  ·rw[G3,if_pos hb];refine⟨E2 _,λj hj=>?_⟩
   rw[ue]at hb;rcases GR j (k+1) with z |z
   ·have:=ltP_no.mp (h2 j (by lia))
    rw[ltP_no];lia
   ·obtain rfl:j=k+1:=by lia
    rw[ltP_no];lia
  ·rw[G3,if_neg hb];refine⟨by lia,λj hj=>?_⟩
   rcases GR j (k+1) with z |z
   ·exact h2 j (by lia)
   ·obtain rfl:j=k+1:=by lia
    simpa using hb
theorem best_max(f:Nat->Int×Int):∀k,G3 (λi j=>ltP (f j) (f i)) k<=k/\∀j,j<=k->ltP (f (G3 (λi j=>ltP (f j) (f i)) k)) (f j)=false
 |0=>⟨E2 _,λj hj=>by
  obtain rfl:j=0:=by lia
  rw[ltP_no];simp[G3]⟩
 |k+1=>by
  obtain⟨h1,h2⟩:=best_max f k;by_cases hb:ltP (f (G3 (λi j=>ltP (f j) (f i)) k)) (f (k+1))=true
  ·rw[G3,if_pos hb];refine⟨E2 _,λj hj=>?_⟩
   rw[ue]at hb;rcases GR j (k+1) with z |z
   ·have:=ltP_no.mp (h2 j (by lia))
    rw[ltP_no];lia
   ·obtain rfl:j=k+1:=by lia
    rw[ltP_no];lia
  ·rw[G3,if_neg hb];refine⟨by lia,λj hj=>?_⟩
   rcases GR j (k+1) with z |z
   ·exact h2 j (by lia)
   ·obtain rfl:j=k+1:=by lia
    simpa using hb
end ST
namespace L2
open PySem PySem.Spec PyProof.Rows
variable {H0:Hp}{O0:List E6}{xs:List U}{QB:Pos}
section
variable {X:Cx}{pts:List P2}{M:P2}
theorem wG{pins:List (E6×Obj)}{σ:List (Option V)}{H:Hp}{s:EU}(I:Inv X pins σ H s){ws:List V}{QC:List EW}(rv:aM ws QC)(rs:Rps X.K H ws (pts.map pu))(i:Nat)(y:EW)(hy:QC.toArray[i]?=some y):
  i<pts.length/\∃c,y=.ref c/\ws[i]?=some (.ref c)/\∀prog w,ST.TK prog w s.heap [(pts.getD i (0,0)).1,(pts.getD i (0,0)).2] c:=by
 have SK:QC[i]?=some y:=by simpa using hy
 have hll:ws.length=pts.length:=by rw[rs.len,ES]
 have hi:i<QC.length:=aH SK;have hw:i<ws.length:=by rw[rv.length];exact hi
 have hq:i<pts.length:=by lia
 obtain⟨u,e1,e2⟩:=rv.get (EO hw);rw[SK]at e1;cases e1;have r:=rs.at_ i _ (pu (pts.getD i (0,0))) (EO hw) (by rw[E7,EO hq];simp[hq])
 obtain⟨c,rfl,t⟩:=km I r e2;refine⟨hq,c,rfl,?_,t⟩;rw[EO hw];generalize ws[i]=z at *;cases r;cases e2;rfl
theorem BE{g:Nat}(hg:g<pts.length):(pts.map pu)[g]?=some (pu (pts.getD g (0,0))):=by
 rw[E7,EO hg];simp[hg]
theorem BH(hc:X.calm=true)(hu:X.A.units+10<JQ)(hM:M∈pts)(hL:∀q∈pts,ST.ltP q M=false):eZ X (.builtin "min") [lp pts] (pu M):=by
 intro pins s σ H vs us Q I r hq;obtain⟨O,d,rs,q⟩:=hq;obtain⟨v,rfl,h1⟩:=cx rs;obtain⟨p1,rfl,r1⟩:=eQ r;cases h1 with
 | @lst a ws _ hq hl hh=>
  cases r1;obtain⟨QC,rv,pl,_⟩:=I.list (SqL.of (ax _ _ hq));have rs':Rps X.K (hid H O) ws (pts.map pu):=⟨hl,hh⟩;have QJ:QC.toArray.size=pts.length:=by rw[Ff,<-rv.length,hl,ES]
  have RQ:=wG (pts:=pts) I rv (rs'.same ax);have hn:0<pts.length:=GD hM;refine ST.call_minG (G:=λh=>∀(i:Nat) (y:EW),QC.toArray[i]?=some y->∃c,y=.ref c/\ST.TK X.prog X.w h [(pts.getD i (0,0)).1,(pts.getD i (0,0)).2] c) (bt:=λi j=>ST.ltP (pts.getD i (0,0)) (pts.getD j (0,0))) (I.ok.hd hc) pl.isList (by rw[QJ];exact hn) (λi j vi vj s' Q' E' g hi hj k=>?_) (λi y hy=>?_) (λh h' _ _ k2 i y hy=>?_) λy h' tk hy kp=>?_
  ·obtain⟨c,rfl,t⟩:=g i vi hi;obtain⟨c',rfl,t'⟩:=g j vj hj;exact ST.lt_ptsR (show X.A.units+1<JQ by lia) t t' k
  ·obtain⟨_,c,rfl,_,t⟩:=RQ i y hy;exact⟨c,rfl,t _ _⟩
  ·obtain⟨_,c,rfl,_,t⟩:=RQ i y hy;obtain⟨o,items,n,ho,z⟩:=t X.prog X.w;exact⟨c,rfl,o,items,n,k2 c o ho,z⟩
  ·obtain⟨hg,c,rfl,hw,t⟩:=RQ _ y hy;obtain⟨b1,b2⟩:=ST.best_min (λi=>pts.getD i (0,0)) (QC.toArray.size-1)
   have e:pts.getD (G3 (λi j=>ST.ltP (pts.getD i (0,0)) (pts.getD j (0,0))) (QC.toArray.size-1)) (0,0)=M:=by
    rw[QJ]at b1 b2 hg |-;generalize G3 (λi j=>ST.ltP (pts.getD i (0,0)) (pts.getD j (0,0))) (pts.length-1)=g at *
    obtain⟨j,hj⟩:=Gy.mp hM;have k1:=b2 j (by have:=aH hj;lia)
    rw[show pts.getD j (0,0)=M by rw[Fj,hj];rfl]at k1
    exact ST.ltP_one (hL _ (by simp[hg])) k1
   refine⟨.ref c,H,I.kept (t':=tk) kp,rfl,q _ H (.refl H) ?_⟩;have z:=rs'.at_ _ _ _ hw (BE hg);rw[e]at z;exact z
theorem CV(hc:X.calm=true)(hu:X.A.units+10<JQ)(hM:M∈pts)(hL:∀q∈pts,ST.ltP M q=false):eZ X (.builtin "max") [lp pts] (pu M):=by
 intro pins s σ H vs us Q I r hq;obtain⟨O,d,rs,q⟩:=hq;obtain⟨v,rfl,h1⟩:=cx rs;obtain⟨p1,rfl,r1⟩:=eQ r;cases h1 with
 | @lst a ws _ hq hl hh=>
  cases r1;obtain⟨QC,rv,pl,_⟩:=I.list (SqL.of (ax _ _ hq));have rs':Rps X.K (hid H O) ws (pts.map pu):=⟨hl,hh⟩;have QJ:QC.toArray.size=pts.length:=by rw[Ff,<-rv.length,hl,ES]
  have RQ:=wG (pts:=pts) I rv (rs'.same ax);have hn:0<pts.length:=GD hM;refine ST.call_maxG (G:=λh=>∀(i:Nat) (y:EW),QC.toArray[i]?=some y->∃c,y=.ref c/\ST.TK X.prog X.w h [(pts.getD i (0,0)).1,(pts.getD i (0,0)).2] c) (bt:=λi j=>ST.ltP (pts.getD j (0,0)) (pts.getD i (0,0))) (I.ok.hd hc) pl.isList (by rw[QJ];exact hn) (λi j vi vj s' Q' E' g hi hj k=>?_) (λi y hy=>?_) (λh h' _ _ k2 i y hy=>?_) λy h' tk hy kp=>?_
  ·obtain⟨c,rfl,t⟩:=g i vi hi;obtain⟨c',rfl,t'⟩:=g j vj hj;exact ST.gt_ptsR (show X.A.units+1<JQ by lia) t t' k
  ·obtain⟨_,c,rfl,_,t⟩:=RQ i y hy;exact⟨c,rfl,t _ _⟩
  ·obtain⟨_,c,rfl,_,t⟩:=RQ i y hy;obtain⟨o,items,n,ho,z⟩:=t X.prog X.w;exact⟨c,rfl,o,items,n,k2 c o ho,z⟩
  ·obtain⟨hg,c,rfl,hw,t⟩:=RQ _ y hy;obtain⟨b1,b2⟩:=ST.best_max (λi=>pts.getD i (0,0)) (QC.toArray.size-1)
   have e:pts.getD (G3 (λi j=>ST.ltP (pts.getD j (0,0)) (pts.getD i (0,0))) (QC.toArray.size-1)) (0,0)=M:=by
    rw[QJ]at b1 b2 hg |-;generalize G3 (λi j=>ST.ltP (pts.getD j (0,0)) (pts.getD i (0,0))) (pts.length-1)=g at *
    obtain⟨j,hj⟩:=Gy.mp hM;have k1:=b2 j (by have:=aH hj;lia)
    rw[show pts.getD j (0,0)=M by rw[Fj,hj];rfl]at k1
    exact ST.ltP_one k1 (hL _ (by simp[hg]))
   refine⟨.ref c,H,I.kept (t':=tk) kp,rfl,q _ H (.refl H) ?_⟩;have z:=rs'.at_ _ _ _ hw (BE hg);rw[e]at z;exact z
variable {ps:PSt}{x:Str}{pc p':Pos}
variable {a b:Expr}{i j:Int}
theorem Bm(hg:Gl X x)(h:∃t,X.mg x=some (.int i t))(hd:(x==("__debug__":Str))=false:=by decide):Ev X H0 O0 ps (.Name x QB) (.int i):=by
 obtain⟨t,hm⟩:=h;exact PE.mono (jA (v:=.int i) hg hm ⟨t,rfl⟩ hd) λ_ H _ ⟨_,_,k⟩=>k _ H (.refl H) (.int i)
end
section
variable {X:Cx}{ps:PSt}{e tg:Expr}{p:Pos}{x:U}
end
theorem Rps.rep{K:ER}{H:Hp}{vs:List V}{xs:List U}(r:Rps K H vs xs):∀k,Rps K H (Gc k vs).flatten (Gc k xs).flatten
 |0=>.nil
 |k+1=>by
  rw[Hk,Hk,HF,HF];exact r.snoc (r.rep k)
section
variable {X:Cx}{ps:PSt}{a b:Expr}{u:U}{k:Int}
theorem D9(ha:Ev X H0 O0 ps a (.lst xs))(hb:Ev X H0 O0 ps b (.int k))(h1:-(2 ^ 63)<=k)(h2:k<2 ^ 63)(hz:xs.length*k.toNat<=sizeLine):EvN X H0 O0 ps (.BinOp a .Mult b QB) (Gc k.toNat xs).flatten:=
 PE.mono (uE Cp ha hb) λσ H Q ⟨O,R,q⟩=>two R (λ_ _ _ z=>z) (λ_ _ _ z=>z) λv w H' s _ r1 r2=>by
  cases r2;cases r1 with
  |lst hq hl hh=>
   refine⟨_,_,_,rfl,rfl,ax _ _ hq,h1,h2,by rw[hl];exact hz,λp hp=>q p _ _ (s.trans (aK hp _)) (s.free hp) aV ?_⟩
   exact (Rps.rep ⟨hl,hh⟩ _).same (bF (aK hp _) hp)
theorem pO{α:Type}(u:α):∀k,(Gc k [u]).flatten=Gc k u
 |0=>rfl
 |k+1=>by rw[Hk,HF,pO u k];rfl
theorem BK(ha:Ev X H0 O0 ps a (.lst [u]))(hb:Ev X H0 O0 ps b (.int k))(h1:-(2 ^ 63)<=k)(h2:k<2 ^ 63)(hz:k.toNat<=sizeLine):EvN X H0 O0 ps (.BinOp a .Mult b QB) (Gc k.toNat u):=by
 rw[<-pO];exact D9 ha hb h1 h2 (by simpa using hz)
end
end L2
namespace L2
open PySem PySem.Spec PySem.W PyProof.Rows
section
variable {X:Cx}
end
end L2
namespace L2
open PySem PySem.Spec PyProof.Rows
variable {H0:Hp}{O0:List E6}{e:Expr}{xs:List U}
section
variable {X:Cx}{E:XK}{ps Q4:PSt}{D:PD}{s:HL}{ss QM:List HL}{a b c:Expr}{es:List Expr}{QB p:Pos}{u x y:U}{ys us:List U}{k:Bool}
 {CX:CXT}{n:Nat}{f C:E6}{fd:Gn}{pn:List Str}{QQ:List U->Out->Prop}{nm:Str}
end
theorem Rs.free{K:ER}{H0 H:Hp}{O0 O:List E6}{ps:PSt}{σ:St}{xs:List U}(n:Nat)(h:ps[n]?=some (some (.own xs)))(R:Rs K H0 O0 ps σ H O):∃O',(∀b∈O',b∈O)/\Rs K H0 O0 (ps.set n (some (.val (.lst xs)))) σ H O':=by
 obtain⟨v,hv,a,vs,rfl,ha,ha0,hH,rs⟩:=R.at_ n _ h;have less:∀b∈O.filter (λb=>decide (b≠a)),b∈O:=λb hb=>(Gr.mp hb).1
 have keep:∀b∈O,b≠a->b∈O.filter (λb=>decide (b≠a)):=λb hb ne=>Gr.mpr ⟨hb,by simpa using ne⟩
 have sm:aZ (hid H O) (hid H (O.filter (λb=>decide (b≠a)))):=f7 less
 have na:a ∉ O.filter (λb=>decide (b≠a)):=λz=>by have:=(Gr.mp z).2;simp at this
 refine⟨O.filter (λb=>decide (b≠a)),less,R.same,λb hb=>keep b (R.old b hb) λe=>ha0 (e ▸ hb),λb hb=>R.new b (less b hb),λb hb=>R.dom b (less b hb),by rw[R.len,J5],λi s hs=>?_,λi j ys zs b h1 h2 h3 h4=>?_⟩
 ·rcases dt hs with ⟨rfl,e⟩ |⟨ne,hs⟩
  ·cases e;exact⟨.ref a,hv,.lst (dM hH na) (rs.same sm).len (rs.same sm).at_⟩
  ·obtain⟨w,hw,ok⟩:=R.at_ i s hs;refine⟨w,hw,?_⟩;cases s with
   |val u=>exact Rp.same sm ok
   |own ys=>
    obtain⟨b,ws,rfl,hb,To,hHb,rsb⟩:=ok;refine⟨b,ws,rfl,keep b hb λe=>?_,To,hHb,rsb.same sm⟩
    subst e;exact ne (R.inj n i _ _ b h hs hv hw)
   |pin z u=>exact⟨ok.1,Rp.same sm ok.2⟩
   |dsk w C b d QW=>
    obtain⟨dx,kv,e1,e2,e3,e4,e5,e6⟩:=ok;exact⟨dx,kv,e1,keep d e2 (λe=>by rw[e,hH]at e5;cases e5),e3,e4,e5,e6.same sm⟩
 ·rcases dt h1 with ⟨_,e⟩ |⟨_,h1⟩
  ·cases e
  ·rcases dt h2 with ⟨_,e⟩ |⟨_,h2⟩
   ·cases e
   ·exact R.inj i j _ _ b h1 h2 h3 h4
section
variable {X:Cx}{E:XK}{ps:PSt}{D:PD}{ss:List HL}{b:Bool}
theorem jY(n:Nat)(h:ps[n]?=some (some (.own xs)))(w:Ws X H0 O0 E ss D (ps.set n (some (.val (.lst xs))))):Ws X H0 O0 E ss D ps:=
 PSs.mono w λD' σ H ⟨L,O,R⟩=>by
  obtain⟨O',_,R'⟩:=R.free n h;exact⟨L,O',R'⟩
end
section
variable {X:Cx}{ns:List Int}{M:Int}
theorem zd(hc:X.calm=true)(hM:M∈ns∧∀a∈ns,a≤M):eZ X (.builtin "max") [.lst (ns.map U.int)] (.int M):=by
 intro pins s σ H vs us Q I r hq;obtain⟨O,d,rs,q⟩:=hq;obtain⟨v,rfl,h1⟩:=cx rs;obtain⟨p1,rfl,r1⟩:=eQ r;cases h1 with
 | @lst a ws _ hq hl hh=>
  cases r1;obtain⟨QC,rv,pl,_⟩:=I.list (SqL.of (ax _ _ hq));have QJ:QC.length=ns.length:=by rw[<-rv.length,hl,ES]
  have RQ:=kQ (ns:=ns) rv ⟨hl,hh⟩;have hn:0<ns.length:=GD hM.1;refine call_max_walk (HE pl.isList ?_);have Rv:a<s.heap.objs.size:=by obtain⟨o,e,_⟩:=pl.isList;exact E_ e
  refine⟨s.heap.objs.size,_,_,_,_,_,_,rfl,Walks.list (A:=X.A.in1) (I.ok.hd hc) s.heap.objs.size a (FJ Rv) QC.toArray,⟨⟨_,Fe _ rfl,rfl,rfl⟩,pl.isList.push _⟩,λb hb=>?_,by rw[Ff,QJ];exact hn,CmpOf.ints_gt (λi=>ns.getD i 0) RQ,λv h' tk hP hk=>?_⟩
  ·show b<(s.heap.push _).objs.size;rw[Hu];rcases E1.mp hb with z |z
   ·rw[z];exact Hg _
   ·rw[E9.mp z];exact HG Rv
  ·obtain⟨t,rfl⟩:=RQ _ _ hP;obtain⟨b1,b2⟩:=argBest_gt (λi=>ns.getD i 0) (QC.toArray.size-1)
   have e:ns.getD (G3 (λi j=>decide (ns.getD i 0 >ns.getD j 0)) (QC.toArray.size-1)) 0=M:=by
    rw[Ff,QJ]at b1 b2 |-;generalize G3 (λi j=>decide (ns.getD i 0 >ns.getD j 0)) (ns.length-1)=g at *
    have hg:g<ns.length:=by lia
    obtain⟨j,hj,ej⟩:=GK hM.1;have k1:=b2 j (by lia)
    have k2:=hM.2 ns[g] (F7 hg);simp only[Fj,EO hg,EO hj,Ir]at k1 |-;lia
   rw[e];refine⟨.int M,H,I.kept (t':=tk) λb o e=>hk b o ?_ (EV _ e),⟨t,rfl⟩,q _ H (.refl H) (.int _)⟩
   intro z;have:b=s.heap.objs.size:=by simpa using z
   exact absurd (E_ e) (by rw[this];exact FM _)
variable {E:XK}{ps:PSt}{D:PD}{QB:Pos}{ys:List U}
theorem yK(i:Nat){x:Str}{QX QG xp:Pos}(hp:ps[i]?=some (some (.own xs)))(ha:Ev X H0 O0 ps e (.lst ys))(hz:xs.length+ys.length<=sizeLine)(h:D.nx (ps.set i (some (.own (xs++ys)))))
  (hN:X.N[i]?=some x:=by rfl) (hv:Vis X.env.scope x:=by first |exact Or.inl rfl |exact Or.inr (Or.inl rfl) |exact Or.inr (Or.inr rfl)) (hd:(x==("__debug__":Str))=false:=by decide) (Ro:(x==("__classdict__":Str))=false:=by decide)
  (Ri:Jt (.Name x xp) "extend" X.env (IJ (.Name x xp) X.env)=IJ (.Name x xp) X.env:=by rfl)
  (SI:((HV QG (E4 [e] X.env)).all (λx=>!x.1) && (Om QG (LX [] X.env)).all (λx=>x.1.isSome) && decide ([e].length+([]:List K_).length+(if ([]:List K_).isEmpty then 0 else 1)<30))=true:=by rfl)
  (Rj:(QX.endLine==QG.line)=true:=by rfl) (hse:E4 [e] X.env=(false,IJ e X.env)::E4 [] X.env:=by rfl) (Ry:(HV QG (E4 [] X.env)).any (·.1)=false:=by rfl)
  (hs:JE (.Call (.Attribute (.Name x xp) "extend" QX) [e] [] QG) none QB.line X.env=pure false:=by rfl):W1 X H0 O0 E (.Expr (.Call (.Attribute (.Name x xp) "extend" QX) [e] [] QG) QB) D ps:=
 PS.mono (jK (By J7 PySem.F.slot_list_extend PySem.F.type_list_extend uV (ic hN hv hd Ro) (bV ha dU hse) Ri SI Rj hse Ry) hs) λD' σ H ⟨L,O,R⟩=>by
  obtain⟨v,h1,a,vs,rfl,h3,h4,h5,h6⟩:=R.at_ i _ hp;refine⟨_,h1,.inl ⟨rfl,_,SqL.of h5⟩,O,R,λw H' s r=>?_⟩
  cases r with
  | @lst b zs _ hq hl hh=>
   refine⟨a,b,vs,zs,rfl,rfl,s _ _ h5,ax _ _ hq,by rw[h6.len,hl];exact hz,?_⟩
   exact L.nx _ _ _ O ((R.go s).write hp h1 ((h6.same (bD s)).snoc ⟨hl,hh⟩)) h
end
end L2
namespace L2
open PySem PySem.Spec PySem.W PyProof.Rows
section
variable {X:Cx}
variable {H0:Hp}{O0:List E6}{E:XK}{ps:PSt}{D:PD}{a e:Expr}{es:List Expr}{us:List U}{k:Bool}{n:Nat}{fd:Gn}{pn:List Str}{QQ:List U→Out→Prop}
end
end L2
namespace L2
open PySem PySem.Spec PyProof.Rows
section
variable {X:Cx}{H0:Hp}{O0:List E6}{ps:PSt}{a b:Expr}{p:P2}{l:List P2}
end
end L2
namespace ST
open PySem PySem.W PySem.Calls PyProof.Rows
section
variable {prog:E8}{w:FE}{A:FC}{E:EW→EU→Prop}{s:EU}
end
end ST
namespace L2
open PySem PySem.Spec PyProof.Rows
section
variable {X:Cx}{H0:Hp}{O0:List E6}{ps:PSt}{e:Expr}{p QB:Pos}{a b:P2}
end
end L2
namespace ST
open PySem PySem.W PySem.Calls PyProof.Rows
section
variable {prog:E8}{w:FE}{A:FC}{E:EW→EU→Prop}{s:EU}
end
end ST
namespace L2
open PySem PySem.Spec PyProof.Rows
section
variable {X:Cx}{H0:Hp}{O0:List E6}{ps:PSt}{e:Expr}{pts:List P2}{QB p:Pos}
end
end L2
namespace L2
open PySem PySem.Spec PySem.W PyProof.Rows
variable {es:List Expr}{pn:List Str}{QQ:List U→Out→Prop}
section
variable {X:Cx}
variable {H0:Hp}{O0:List E6}{E:XK}{ps:PSt}{D:PD}{a e:Expr}{us:List U}{k:Bool}{n:Nat}{fd:Gn}
end
structure wf(K:ER)(x QE:Str)(st:HL)(f:E6)(fd:Gn)(D:E6):Prop where
 ex:∃(oc:EW) (od:Option E6) (kV Rm pm:EW) (an:Option E6) (QK ct:EW) (R7:Array (Option EW)),
  fd=HA x QE (bU st) (bA st) (aq st) (.ref D) kV Rm pm an QK ct/\K.lookup f=some ⟨oc,od,.func fd,R7⟩/\KA K QK QE=true
 kp:G4 K (.ref f)=true
theorem zJ{K:ER}{x QE:Str}{st:HL}{f D:E6}{oc:EW}{od an:Option E6}{R7:Array (Option EW)}{kV Rm pm QK ct:EW}(l:K.lookup f=some ⟨oc,od,.func (HA x QE (bU st) (bA st) (aq st) (.ref D) kV Rm pm an QK ct),R7⟩)
  (c:KA K QK QE=true) (k:G4 K (.ref f)=true):wf K x QE st f (HA x QE (bU st) (bA st) (aq st) (.ref D) kV Rm pm an QK ct) D:=⟨⟨oc,od,kV,Rm,pm,an,QK,ct,R7,rfl,l,c⟩,k⟩
section
variable {P:E8}{w:FE}{K:ER}{mg:Str→Option EW}{base:GV}{N:List Str}{QE nm:Str}{f D:E6}
theorem wf.okF{x:Str}{st:HL}{fd:Gn}{k:Nat}{sp:Sp}(F:wf K x QE st f fd D)(S:av N pn (aq st))(len:∀vs H Q E,sp vs H Q E->vs.length=pn.length)
  (Rh:∀(QK:EW) (A:FC) (outer:List Env) (s:EU) (H:Hp) (vs:List V) (Q:VK) (E:XK),cU k (A.deeper (JV QE (aq st) s.heap.objs.size f QK))->sp vs H Q E->
   ∃t,PSs (d_ (CXF P w) P w K mg base N QE (aq st) f QK A outer s H E) (bA st) t/\t {nx:=λ_ H'=>Q .non H',rt:=Q } (start N vs) H):ba P w K mg base (CXF P w) (k+1) f fd pn sp:=by
 obtain⟨oc,od,kV,Rm,pm,an,QK,ct,R7,rfl,lk,Ro⟩:=F.ex;exact Bz lk Ro S len λA outer s H vs Q E hr RI=>Rh QK A outer s H vs Q E hr RI
theorem xg{st:HL}{fd:Gn}{k:Nat}{QQ:List U->Out->Prop}(F:wf K nm QE st f fd D)(S:av N pn (aq st))(len:∀us o,QQ us o->us.length=pn.length)
  (Rh:∀(QK:EW) (A:FC) (outer:List Env) (s:EU) (H:Hp) (E:XK) (O:List E6) (us:List U) (o:Out),cU k (A.deeper (JV QE (aq st) s.heap.objs.size f QK))->QQ us o->
   Ws (d_ (CXF P w) P w K mg base N QE (aq st) f QK A outer s H E) H O E (bA st) ⟨λ_=>o=.val .non,λo'=>o'=o,λ_=>False,λ_=>False⟩ (f9 N us)):ba P w K mg base (CXF P w) (k+1) f fd pn (spU K QQ):=by
 refine F.okF S (λvs H Q E h=>?_) λQK A outer s H vs Q E hr h=>?_
 ·obtain⟨us,O,o,_,r,RI,_⟩:=h;rw[r.len];exact len us o RI
 ·obtain⟨us,O,o,d,r,RI,q⟩:=h;refine⟨_,Rh QK A outer s H E O us o hr RI,⟨λps σ H' O' R e=>?_,λ_ _ _ _ _ e=>e.elim,λ_ _ _ _ _ e=>e.elim,λo' e=>by subst e;exact q⟩,O,?_⟩
  ·subst e;exact q .non H' R.same .non
  ·refine⟨.refl H,λa h=>h,λa h=>.inl h,d,?_,λi sl e=>?_,λi j xs ys a e1 e2 _ _=>?_⟩
   ·unfold start f9;rw[Fx,Fx,ES,ES,Iw,Iw,r.len]
   ·unfold f9 at e;by_cases hi:i<us.length
    ·rw[Fp (by simpa using hi),E7,EO hi]at e
     cases e;obtain⟨v,h1,h2⟩:=r.get (EO hi);refine⟨v,?_,h2⟩;unfold start;rw[Fp (by simpa [r.len] using hi),E7,h1];rfl
    ·rw[Fq (by simpa using hi),H_]at e
     split at e <;>cases e
   ·exfalso
    unfold f9 at e1;by_cases hi:i<us.length
    ·rw[Fp (by simpa using hi),E7,EO hi]at e1
     cases e1
    ·rw[Fq (by simpa using hi),H_]at e1
     split at e1 <;>cases e1
end
section
variable {X:Cx}{H0:Hp}{O0:List E6}{ps:PSt}{e:Expr}{QB p:Pos}{u:U}{us:List U}{xs:List U}{CX:CXT}{n:Nat}{f:E6}{fd:Gn}{nm:Str}{j:Int}
theorem t6(F:ba X.prog X.w X.K X.mg X.base CX n f fd pn (spU X.K QQ))(hr:cU n X.A)(hg:Gl X nm)(hm:X.mg nm=some (.ref f))(hk:G4 X.K (.ref f)=true)(hb:∃t,cw X.K fd pn [.int j t])(hx:fi CX X E0)
  (ha:EvA X H0 O0 ps (e::es) us) (h:QQ (us++[.int j]) (.val u)) (Ru:(nm==("__debug__":Str))=false:=by decide) (he:E4 (e::es) X.env=(false,IJ e X.env)::E4 es X.env:=by rfl) (QZ:(HV QB (E4 es X.env)).any (·.1)=false:=by rfl):
  Ev X H0 O0 ps (.Call (.Name nm p) (e::es) [] QB) u:=by
 obtain⟨t,hb⟩:=hb;refine PE.mono (iQ F hr hg hm hk hb (.cons (show bi (.int j) (.int j t) from ⟨t,rfl⟩) .nil) hx ha Ru he QZ) λσ H Q ⟨O,R,q⟩=>⟨O,R,λvs H1 s1 r1=>?_⟩
 show spU X.K QQ (vs++[.int j]) H1 Q _;exact⟨us++[.int j],O,.val u,(R.go s1).dom,r1.snoc (.cons (.int _) .nil),h,λv H2 s2 r2=>q v H2 (s1.trans s2) r2⟩
end
end L2
namespace L2
open PySem PySem.Spec PyProof.Rows
section
variable {X:Cx}{H0:Hp}{O0:List E6}{ps:PSt}{a b:Expr}{k:Int}{ns:List Int}
end
theorem uX{P:E8}{w:FE}{K:ER}{tg:Expr}(it:E6)(lo:Int)(n:Nat):yx P w K tg (Itr lo n) [it] it (λi h=>IsLongIter h it (lo+(i:Nat) *1) ((n:Int)-(i:Nat)) 1) where
 mem:=by simp
 obj:=λi h st b hb=>by
  have e:b=it:=by simpa using hb
  subst e
  exact⟨_,st,λv z=>by
   have z':Data.fields _=Data.cell v:=z;cases z'⟩
 keep:=λi h h' st k=>k it (by simp) _ st
 item:=by
  intro X hP hw hK hc i pins s σ H E I hf st hg;subst hP hw hK;obtain⟨f0,f1,f2,f3,f4,f5⟩:=hf it (by simp)
  have W:=Walks.longrange (prog:=X.prog) (w:=X.w) (I.ok.hd hc) it lo 1 n;refine W.item i s _ _ hg st λv h' tk hv QD kk=>?_
  obtain⟨t,rfl⟩:=hv;have I1:Inv X pins σ H {s with heap:=h',toks:=tk }:=I.turned (λb o hb e=>kk b o (by simpa using hb) e) f0 f1 f3 f4 f5
  refine⟨_,rfl,tK (s:={s with heap:=h',toks:=tk }) (n:="longrange_iterator") QD rfl rfl (by decide) ⟨.int (lo+i),H,I1,⟨t,?_⟩,⟨rfl,rfl⟩,QD,λb hb=>(hf b hb).1⟩⟩
  rw[K9]
 done:=by
  intro X hP hw hK hc i pins s σ H E I hf st hg;subst hP hw hK;obtain⟨f0,f1,f2,f3,f4,f5⟩:=hf it (by simp)
  exact wpAny_pyNext_long_end (I.ok.hd hc) st (by have:n<=i:=hg;lia) λh' eb=>⟨rfl,I.turned (t':=s.toks) (λb o hb e=>eb b o hb e) f0 f1 f3 f4 f5⟩
 self:=λ_ _ _ _ _ st h=>wpAny_pyIter_longiter st h
section
variable {X:Cx}{tg:Expr}
theorem lR{pins:List (E6×Obj)}{σ:St}{H:Hp}{s:EU}{R:It->Hp->Prop}{E:EW->EU->Prop}{lo hi:Int}{t u v:Tok}{tk:Nat}(I:Inv X pins σ H s)
  (q:R (Itr lo (hi-lo).toNat) H):Fy (FF X.prog X.w) X.A (N6 (.ref s.heap.objs.size)) (PIE X pins σ tg R) E {s with heap:=s.heap.push {cls:=.type "range",data:=.fields #[.int lo t,.int hi u,.int 1 v] },toks:=tk }:=by
 have I1:Inv X pins σ H {s with heap:=s.heap.push {cls:=.type "range",data:=.fields #[.int lo t,.int hi u,.int 1 v] },toks:=tk }:=I.kept λb o e=>EV _ e
 have e1:lo+((0:Nat):Int) *1=lo:=by simp
 have e2:(((hi-lo).toNat:Nat):Int)-((0:Nat):Int)=Builtin.Range.rangeSize lo hi 1:=by rw[rangeSize_one];split <;>lia
 by_cases hs:Builtin.Range.small lo hi 1=true
 ·refine Nr (IsRange.new ..) hs ?_
  refine⟨(s.heap.push {cls:=.type "range",data:=.fields #[.int lo t,.int hi u,.int 1 v] }).objs.size,[(s.heap.push {cls:=.type "range",data:=.fields #[.int lo t,.int hi u,.int 1 v] }).objs.size],_,_,H,rfl,
   I1.kept (t':=tk) λb o e=>EV _ e,kr _ lo (hi-lo).toNat,?_,λb hb=>?_,q⟩
  ·show Oo _ _ (lo+((0:Nat):Int) *1) ((((hi-lo).toNat:Nat):Int)-((0:Nat):Int)) 1;rw[e1,e2];exact Fe _ rfl
  ·have e:b=(s.heap.push {cls:=.type "range",data:=.fields #[.int lo t,.int hi u,.int 1 v] }).objs.size:=by simpa using hb
   subst e;exact I1.fpOk (E2 _) (I1.hok.fresh (E2 _))
 ·refine wpAny_pyIter_longrange (IsRange.new ..) (by simpa using hs) ?_
  refine⟨(s.heap.push {cls:=.type "range",data:=.fields #[.int lo t,.int hi u,.int 1 v] }).objs.size,[(s.heap.push {cls:=.type "range",data:=.fields #[.int lo t,.int hi u,.int 1 v] }).objs.size],_,_,H,rfl,
   I1.kept (t':=tk) λb o e=>EV _ e,uX _ lo (hi-lo).toNat,?_,λb hb=>?_,q⟩
  ·show IsLongIter _ _ (lo+((0:Nat):Int) *1) ((((hi-lo).toNat:Nat):Int)-((0:Nat):Int)) 1;rw[e1,e2];exact Fe _ rfl
  ·have e:b=(s.heap.push {cls:=.type "range",data:=.fields #[.int lo t,.int hi u,.int 1 v] }).objs.size:=by simpa using hb
   subst e;exact I1.fpOk (E2 _) (I1.hok.fresh (E2 _))
def Cu(ta:TA):TI:=λσ H R=>ta σ H λvs H1=>∃i j:Int,vs=[.int i,.int j]/\R (Itr i (j-i).toNat) H1
theorem sG{a b:Expr}{ta:TA}{p QB:Pos}(hg:Gl X "range")(hm:X.mg "range"=none)(ha:PA X [a,b] ta)(hs:E4 [a,b] X.env=[(false,IJ a X.env),(false,IJ b X.env)]:=by rfl)(hs2:E4 [b] X.env=[(false,IJ b X.env)]:=by rfl):
  PI X tg (.Call (.Name "range" p) [a,b] [] QB) (Cu ta):=by
 intro pins s σ H R I h;refine Call_ (cV I hg hm Po (PyProof.Rows.callWith_type1 (thn (ha QB pins s σ H _ I h) λus s1 ⟨vs,H1,I1,r1,q1⟩=>?_) (by rw[hs,hs2]) (by rw[hs2];rfl)))
 obtain⟨i,j,e,q⟩:=q1;subst e;cases r1 with
 |cons r rr=>
  cases rr with
  |cons r' rr=>
   cases rr;obtain⟨t,rfl⟩:=r;obtain⟨t',rfl⟩:=r';exact call_range_2 (lR I1 q)
variable {H0:Hp}{O0:List E6}{ps:PSt}{a b:Expr}{p QB:Pos}
theorem vo{i j:Int}(hg:Gl X "range")(hm:X.mg "range"=none)(ha:EvA X H0 O0 ps [a,b] [.int i,.int j])(hs:E4 [a,b] X.env=[(false,IJ a X.env),(false,IJ b X.env)]:=by rfl)(hs2:E4 [b] X.env=[(false,IJ b X.env)]:=by rfl):
  EvI X H0 O0 ps tg (.Call (.Name "range" p) [a,b] [] QB) (ft i (j-i).toNat):=
 PI.mono (sG hg hm ha hs hs2) λσ H Q ⟨O,R,q⟩=>⟨O,R,λvs H' s r=>by
  obtain⟨v,w,rfl,k1,k2⟩:=jC r;cases k1;cases k2;exact⟨i,j,rfl,q _ H' s kY⟩⟩
variable {E:XK}{Q4:PSt}{D:PD}{iter cond:Expr}{xs:List U}
variable {e:Expr}{ns:List Int}
variable {c:Expr}
end
end L2
namespace TS
open PySem PyProof.Rows
def mQ:Bool->FY->Array FY->Nat->Nat->Nat->StateT G_ Sem (Option Nat):=sortPriv% PySem.Builtin.gallop
variable {prog:E8}{w:FE}{E:EW→EU→Prop}{s:EU}
section
variable {A:FC}
def gt(a:Array FY)(i:Nat):FY:=a.getD i (FX,FX)
theorem gt_eq{a:Array FY}{i:Nat}(h:i<a.toList.length):gt a i=a.toList[i]:=by
 have h':i<a.size:=by simpa using h
 simp[gt,Jw,h']
theorem bS{a:Array FY}{i:Nat}(h:i<a.size):gt a i∈a.toList:=by rw[gt_eq (by simpa using h)];exact F7 _
theorem el{a:Array FY}{i:Nat}{st:G_}{Q:FY->G_->Prop}(hi:i<a.size)(h:Q (gt a i) st):wpS (FF prog w) A E s (elem' a i) Q st:=by
 rw[elem'_eq,F3 hi];refine Fv ?_;rw[gt_eq (by simpa using hi)]at h
 simpa using h
variable {M:N_}{σ:Type}
theorem wif{α:Type}{c:Prop}[Decidable c]{x y:StateT σ Sem α}{Q:α->σ->Prop}{st:σ}(h:c->wpS M A E s x Q st)(k:¬ c->wpS M A E s y Q st):wpS M A E s (if c then x else y) Q st:=by
 by_cases e:c
 ·rw[if_pos e];exact h e
 ·rw[if_neg e];exact k e
theorem gal{left:Bool}{key:FY}{arr:Array FY}{base n hint:Nat}{st:G_}{Q:Option Nat->G_->Prop}{f:Nat->Bool}{p:Nat}(hh:hint<n)
  (RE:∀i,i<n->base+i<arr.size)
  (hT:left=true->∀i (Q:Option Bool->G_->Prop),i<n->Q (some (f i)) st->wpS (FF prog w) A E s (lt' (gt arr (base+i)) key) Q st)
  (hF:left=false->∀i (Q:Option Bool->G_->Prop),i<n->Q (some (!f i)) st->wpS (FF prog w) A E s (lt' key (gt arr (base+i))) Q st)
  (hp:p<=n) (hf:∀i,i<n->(f i=true↔i<p)) (h:Q (some p) st):wpS (FF prog w) A E s (mQ left key arr base n hint) Q st:=by
 have hb:∀{i:Nat}{Q:Option Bool->G_->Prop},i<n->Q (some (f i)) st->wpS (FF prog w) A E s (do
   let x <-elem' arr (base+i)
   if left then lt' x key else return (<-lt' key x).map (!·)) Q st:=λ{i Q} hi hq=>by
  refine Fg (el (RE _ hi) ?_);cases left with
  |true=>exact hT rfl _ _ hi hq
  |false=>exact Fg (hF rfl _ _ hi (Fv (by simpa using hq)))
 refine Fg (hb hh ?_);dsimp -zeta only
 extract_lets+onlyGivenNames j
 have hj:∀a b lo hi,lo<=p->p<=hi->hi<=n->wpS (FF prog w) A E s (j () a b lo hi) Q st:=λ_ _ lo hi b1 b2 b3=>by
  refine Fg (IE (Ig (I:=λx c Rl=>Rl=st/\∃lo hi,c=(none,lo,hi)/\lo<=p/\p<=hi/\hi<=n/\hi-lo<=n-x) (Q:=λc Rl=>Rl=st/\∃lo,c=(none,lo,p)) ?_ ?_ ⟨rfl,_,_,rfl,b1,b2,b3,by lia⟩) ?_)
  ·rintro x c _ _ hx ⟨rfl,lo,hi,rfl,a1,a2,a3,a4⟩;refine wif (λ(hlh:lo ≥ hi)=>Fv ⟨rfl,lo,by rw[show hi=p by lia]⟩) λhlh=>?_
   have hlh:¬ lo ≥ hi:=hlh;have hm:lo+(hi-lo)/2<n:=by lia
   dsimp only;refine Fg (hb hm (wif (λS7=>?_) λS7=>?_))
   ·have:=(hf _ hm).mp S7;exact Fv ⟨rfl,_,_,rfl,by lia,a2,a3,by lia⟩
   ·have:¬ lo+(hi-lo)/2<p:=λz=>S7 ((hf _ hm).mpr z)
    exact Fv ⟨rfl,_,_,rfl,a1,by lia,by lia,by lia⟩
  ·rintro c _ ⟨rfl,lo,hi,rfl,a1,a2,a3,a4⟩;exact⟨rfl,lo,by rw[show hi=p by lia]⟩
  ·rintro c _ ⟨rfl,lo,rfl⟩;exact Fv h
 refine wif (λhr=>?_) λhr=>?_
 ·have hhp:=(hf hint hh).mp hr;refine Fg (IE (Ig (I:=λx c QD=>QD=st/\∃la Q6,c=(none,la,Q6)/\x+1<=Q6/\la<Q6/\hint+la<p) (Q:=λc QD=>QD=st/\∃la Q6,c=(none,la,Q6)/\la<Q6/\hint+la<p/\p<=hint+min Q6 (n-hint)) ?_ ?_ ⟨rfl,0,1,rfl,E2 _,by lia,by lia⟩) ?_)
  ·rintro x c _ _ hx ⟨rfl,la,Q6,rfl,a1,a2,a3⟩;refine wif (λ(ho:Q6 ≥ n-hint)=>Fv ⟨rfl,la,Q6,rfl,a2,a3,by lia⟩) λho=>?_
   have ho:¬ Q6 ≥ n-hint:=ho;have hm:hint+Q6<n:=by lia
   dsimp only;refine Fg (hb hm (wif (λS7=>?_) λS7=>?_))
   ·have:¬ hint+Q6<p:=λz=>by simp[(hf _ hm).mpr z]at S7
    exact Fv ⟨rfl,la,Q6,rfl,a2,a3,by lia⟩
   ·have:=(hf _ hm).mp (by simpa using S7)
    exact Fv ⟨rfl,_,_,rfl,by lia,by lia,this⟩
  ·rintro c _ ⟨rfl,la,Q6,rfl,a1,a2,a3⟩;exact⟨rfl,la,Q6,rfl,a2,a3,by lia⟩
  rintro c _ ⟨rfl,la,Q6,rfl,a1,a2,a3⟩;exact hj 0 0 (hint+la+1) (hint+min Q6 (n-hint)) (by lia) a3 (by lia)
 ·have hhp:¬ hint<p:=λz=>hr ((hf hint hh).mpr z)
  refine Fg (IE (Ig (I:=λx c QD=>QD=st/\∃la Q6,c=(none,la,Q6)/\x+1<=Q6/\la<Q6/\la<=hint/\p<=hint-la) (Q:=λc QD=>QD=st/\∃la Q6,c=(none,la,Q6)/\la<=hint/\p<=hint-la/\hint+1-min Q6 (hint+1)<=p) ?_ ?_ ⟨rfl,0,1,rfl,E2 _,by lia,by lia,by lia⟩) ?_)
  ·rintro x c _ _ hx ⟨rfl,la,Q6,rfl,a1,a2,a3,a4⟩;refine wif (λ(ho:Q6 ≥ hint+1)=>Fv ⟨rfl,la,Q6,rfl,a3,a4,by lia⟩) λho=>?_
   have ho:¬ Q6 ≥ hint+1:=ho;have hm:hint-Q6<n:=by lia
   dsimp only;refine Fg (hb hm (wif (λS7=>?_) λS7=>?_))
   ·have:=(hf _ hm).mp S7;exact Fv ⟨rfl,la,Q6,rfl,a3,a4,by lia⟩
   ·have:¬ hint-Q6<p:=λz=>S7 ((hf _ hm).mpr z)
    exact Fv ⟨rfl,_,_,rfl,by lia,by lia,by lia,by lia⟩
  ·rintro c _ ⟨rfl,la,Q6,rfl,a1,a2,a3,a4⟩;exact⟨rfl,la,Q6,rfl,a3,a4,by lia⟩
  rintro c _ ⟨rfl,la,Q6,rfl,a1,a2,a3⟩;exact hj 0 0 (hint+1-min Q6 (hint+1)) (hint-la) a3 a2 (by lia)
end
def lL:Nat->StateT G_ Sem Unit:=sortPriv% PySem.Builtin.setMinGallop
abbrev eM(st:G_)(g:Nat):G_:=SortSt.mk' (kindOf st) (FZ st) (Io st) g (K6 st)
def xQ:Array FY->Array FY->StateT G_ Sem (Array FY):=sortPriv% PySem.Builtin.mergeLo
section
variable {α:Type}{R:α→α→Bool}{A B out:List α}{ia ib:Nat}
structure MI(R:α->α->Bool)(A B out:List α)(ia ib:Nat):Prop where
 perm:out.Perm (A.take ia++B.take ib)
 srt:out.Pairwise λx y=>R x y=true
 lA:∀x∈out,∀y∈A.drop ia,R x y=true
 lB:∀x∈out,∀y∈B.drop ib,R x y=true
structure MO(R:α->α->Bool)(A B:List α):Prop where
 tr:∀x y z,R x y=true->R y z=true->R x z=true
 sA:A.Pairwise λx y=>R x y=true
 sB:B.Pairwise λx y=>R x y=true
 tot:∀x∈A,∀y∈B,R y x=false->R x y=true
theorem fF(tr:∀x y z,R x y=true->R y z=true->R x z=true){L:List α}(sL:L.Pairwise λx y=>R x y=true){i:Nat}(hi:i<L.length){x:α}(h:R x L[i]=true):∀y∈L.drop i,R x y=true:=λy hy=>by
 rw[Gd hi]at hy;rcases E1.mp hy with e |e
 ·rw[e];exact h
 ·have:=(Fh.mp (by rw[<-Gd hi];exact sL.sublist (IR i L))).1 y e
  exact tr _ _ _ h this
theorem lM{L:List α}(sL:L.Pairwise λx y=>R x y=true){i:Nat}(hi:i<L.length):∀y∈L.drop (i+1),R L[i] y=true:=λy hy=>
 (Fh.mp (by rw[<-Gd hi];exact sL.sublist (IR i L))).1 y hy
theorem gM{L:List α}{i:Nat}{y:α}(h:y∈L.drop (i+1)):y∈L.drop i:=by
 rw[<-Pf]at h;exact Hx h
theorem je{L:List α}{i:Nat}(hi:i<L.length):L[i]∈L.drop i:=by rw[Gd hi];exact E3
theorem MI.pushA(O:MO R A B)(I:MI R A B out ia ib)(hi:ia<A.length)(h:∀y∈B.drop ib,R A[ia] y=true):MI R A B (out++[A[ia]]) (ia+1) ib where
 perm:=by
  rw[ID hi];refine (I.perm.append_right _).trans ?_;rw[Fi,Fi];exact HR _ Jm
 srt:=Gp.mpr ⟨I.srt,by simp,λx hx y hy=>by rw[E9.mp hy];exact I.lA x hx _ (je hi)⟩
 lA:=λx hx y hy=>by
  rcases Fn.mp hx with e |e
  ·exact I.lA x e y (gM hy)
  ·rw[E9.mp e];exact lM O.sA hi y hy
 lB:=λx hx y hy=>by
  rcases Fn.mp hx with e |e
  ·exact I.lB x e y hy
  ·rw[E9.mp e];exact h y hy
theorem MI.pushB(O:MO R A B)(I:MI R A B out ia ib)(hi:ib<B.length)(h:∀y∈A.drop ia,R B[ib] y=true):MI R A B (out++[B[ib]]) ia (ib+1) where
 perm:=by
  rw[ID hi,<-Fi];exact I.perm.append_right _
 srt:=Gp.mpr ⟨I.srt,by simp,λx hx y hy=>by rw[E9.mp hy];exact I.lB x hx _ (je hi)⟩
 lA:=λx hx y hy=>by
  rcases Fn.mp hx with e |e
  ·exact I.lA x e y hy
  ·rw[E9.mp e];exact h y hy
 lB:=λx hx y hy=>by
  rcases Fn.mp hx with e |e
  ·exact I.lB x e y (gM hy)
  ·rw[E9.mp e];exact lM O.sB hi y hy
theorem MI.runA(O:MO R A B)(hb:ib<B.length):∀(k:Nat) {out:List α}{ia:Nat},MI R A B out ia ib->ia+k<=A.length->(∀i (h:ia+i<A.length),i<k->R A[ia+i] B[ib]=true)->MI R A B (out++(A.drop ia).take k) (ia+k) ib
 |0,out,ia,I,_,_=>by simpa using I
 |k+1,out,ia,I,hk,h=>by
  have hi:ia<A.length:=by lia
  have I':=I.pushA O hi (fF O.tr O.sB hb (h 0 (by lia) (by lia)))
  have:=MI.runA O hb k I' (by lia) (λi QO hik=>by
   have:=h (i+1) (by lia) (by lia)
   have e:A[ia+1+i]=A[ia+(i+1)]'(by lia):=by congr 1;lia
   rw[e];exact this)
  rw[Gd hi,Le];rw[Fi,show ia+1+k=ia+(k+1) by lia]at this
  exact this
theorem MI.runB(O:MO R A B)(ha:ia<A.length):∀(k:Nat) {out:List α}{ib:Nat},MI R A B out ia ib->ib+k<=B.length->(∀i (h:ib+i<B.length),i<k->R B[ib+i] A[ia]=true)->MI R A B (out++(B.drop ib).take k) ia (ib+k)
 |0,out,ib,I,_,_=>by simpa using I
 |k+1,out,ib,I,hk,h=>by
  have hi:ib<B.length:=by lia
  have I':=I.pushB O hi (fF O.tr O.sA ha (h 0 (by lia) (by lia)))
  have:=MI.runB O ha k I' (by lia) (λi QO hik=>by
   have:=h (i+1) (by lia) (by lia)
   have e:B[ib+1+i]=B[ib+(i+1)]'(by lia):=by congr 1;lia
   rw[e];exact this)
  rw[Gd hi,Le];rw[Fi,show ib+1+k=ib+(k+1) by lia]at this
  exact this
def Mgd(R:α->α->Bool)(A B r:List α):Prop:=r.Perm (A++B)/\r.Pairwise λx y=>R x y=true
theorem MI.perm_all(I:MI R A B out ia ib):(out++A.drop ia++B.drop ib).Perm (A++B):=by
 have h:(out++A.drop ia++B.drop ib).Perm ((A.take ia++B.take ib)++A.drop ia++B.drop ib):=(I.perm.append_right _).append_right _;refine h.trans ?_;have e:A++B=(A.take ia++A.drop ia)++(B.take ib++B.drop ib):=by rw[FL,FL]
 rw[e,Fi,Fi,Fi];refine HR _ ?_;rw[<-Fi,<-Fi];exact Mt _ Jm
theorem MI.doneB(O:MO R A B)(I:MI R A B out ia ib)(h:ib=B.length):Mgd R A B (out++A.drop ia++B.drop ib):=by
 refine⟨I.perm_all,?_⟩;rw[h,Og,GL];exact Gp.mpr ⟨I.srt,O.sA.sublist (IR _ _),I.lA⟩
theorem MI.doneA(O:MO R A B)(I:MI R A B out ia ib)(h:ia=A.length):Mgd R A B (out++A.drop ia++B.drop ib):=by
 refine⟨I.perm_all,?_⟩;rw[h,Og,GL];exact Gp.mpr ⟨I.srt,O.sB.sublist (IR _ _),I.lB⟩
theorem MI.last(O:MO R A B)(I:MI R A B out ia ib)(h:ia+1=A.length)(hl:∀y∈B,R y (A[ia]'(by lia))=true):Mgd R A B (out++B.drop ib++A.drop ia):=by
 refine⟨?_,?_⟩
 ·refine OE ?_ I.perm_all;rw[Fi,Fi];exact HR _ Jm
 ·have e:A.drop ia=[A[ia]'(by lia)]:=by rw[Gd (by lia),List.drop_of_length_le (by lia)]
  rw[e];refine Gp.mpr ⟨Gp.mpr ⟨I.srt,O.sB.sublist (IR _ _),I.lB⟩,by simp,λx hx y hy=>?_⟩
  rw[E9.mp hy];rcases Fn.mp hx with z |z
  ·exact I.lA x z _ (by rw[e];simp)
  ·exact hl x (Hx z)
end
section
variable {M:N_}{A:FC}{σ:Type}
theorem rJ{β:Type}{n:Nat}{f:Nat->β->StateT σ Sem (ForInStep β)}(I:Nat->β->σ->Prop){Q:β->σ->Prop}
  (hstep:∀i c st,i<n->I i c st->∀post:ForInStep β->σ->Prop,(∀c QD,Q c QD->post (.done c) QD)->(∀c QD,I (i+1) c QD->post (.yield c) QD)->wpS M A E s (f i c) post st)
  (hend:∀c st,I n c st->Q c st) {c:β}{st:σ} (h:I 0 c st):wpS M A E s (forIn [0:n] c f) Q st:=
 Ig I (λi c st _ hi hI=>hstep i c st hi hI _ (λ_ _ h=>h) (λ_ _ h=>h)) (λc st h=>hend c st (by rwa [Nat.zero_max]at h)) h
theorem hv{α β:Type}{v:β}{f:β->StateT σ Sem α}{Q:α->σ->Prop}{st:σ}(h:wpS M A E s (f v) Q st):wpS M A E s (have x:=v;f x) Q st:=h
theorem ru{x:String}{Q:Unit->G_->Prop}{st:G_}(h:Q () st):wpS (FF prog w) A E s (liftM (rule x)) Q st:=wpS_lift (Kp ⟨rfl,h⟩)
def Asks(prog:E8)(w:FE)(A:FC)(E:EW->EU->Prop)(s:EU)(κ:JN)(P:FY->Prop)(R:FY->FY->Bool):Prop:=
 ∀x y st (Q:Option Bool->G_->Prop),P x->P y->kindOf st=κ->Q (some (R x y)) st->wpS (FF prog w) A E s (lt' x y) Q st
theorem t7{n:Nat}(q:Nat->Bool)(mono:∀i j,i<j->j<n->q j=true->q i=true):∃k,k<=n/\(∀i,i<k->q i=true)/\∀i,k<=i->i<n->q i=false:=by
 have go:∀m,m<=n->(∀i,m<=i->i<n->q i=false)->∃k,k<=n/\(∀i,i<k->q i=true)/\∀i,k<=i->i<n->q i=false:=by
  intro m
  induction m with
  |zero=>intro _ hm;exact⟨0,Gz _,λi h=>by lia,hm⟩
  |succ m ih=>
   intro Th hm;by_cases hr:q m=true
   ·refine⟨m+1,Th,λi him=>?_,hm⟩
    rcases FB (G7 him) with z |z
    ·exact mono i m z (by lia) hr
    ·subst z;exact hr
   ·refine ih (by lia) λi him hi=>?_
    rcases FB him with z |z
    ·exact hm i z hi
    ·subst z;simpa using hr
 exact go n (E2 _) λi h1 h2=>by lia
variable {κ:JN}{P:FY→Prop}{R:FY→FY→Bool} (K:Asks prog w A E s κ P R)
include K
theorem CZ{key:FY}{b:Array FY}{ib n hint:Nat}{st:G_}{Q:Option Nat->G_->Prop}(hk:kindOf st=κ)(hn:ib+n<=b.size)(hh:hint<n)(pk:P key)(pb:∀i,i<n->P (gt b (ib+i)))(tr:∀x y z,R x y=true->R y z=true->R x z=true)(sb:∀i j,i<j->j<n->R (gt b (ib+i)) (gt b (ib+j))=true)
  (h:∀k,k<=n->(∀i,i<k->R (gt b (ib+i)) key=true)->(∀i,k<=i->i<n->R (gt b (ib+i)) key=false)->Q (some k) st):wpS (FF prog w) A E s (mQ true key b ib n hint) Q st:=by
 obtain⟨k,kn,k1,k2⟩:=t7 (n:=n) (λi=>R (gt b (ib+i)) key) λi j h1 h2 hj=>tr _ _ _ (sb i j h1 h2) hj
 refine gal (f:=λi=>R (gt b (ib+i)) key) (p:=k) hh (λi hi=>by lia) (λ_ i Q' hi hq=>K _ _ _ _ (pb i hi) pk hk hq) (λz=>by cases z) kn (λi hi=>?_) (h k kn k1 k2)
 ·constructor
  ·intro hr;rcases GR i k with z |z
   ·exact z
   ·rw[k2 i z hi]at hr;cases hr
  ·intro z;exact k1 i z
theorem Ct{key:FY}{b:Array FY}{ib n hint:Nat}{st:G_}{Q:Option Nat->G_->Prop}(hk:kindOf st=κ)(hn:ib+n<=b.size)(hh:hint<n)(pk:P key)(pb:∀i,i<n->P (gt b (ib+i)))(tr:∀x y z,R x y=true->R y z=true->R x z=true)(sb:∀i j,i<j->j<n->R (gt b (ib+i)) (gt b (ib+j))=true)
  (h:∀k,k<=n->(∀i,i<k->R key (gt b (ib+i))=false)->(∀i,k<=i->i<n->R key (gt b (ib+i))=true)->Q (some k) st):wpS (FF prog w) A E s (mQ false key b ib n hint) Q st:=by
 obtain⟨k,kn,k1,k2⟩:=t7 (n:=n) (λi=>!R key (gt b (ib+i))) λi j h1 h2 hj=>by
  rw[NU]at hj |-;cases hc:R key (gt b (ib+i)) with
  |false=>rfl
  |true=>rw[tr _ _ _ hc (sb i j h1 h2)]at hj;cases hj
 refine gal (f:=λi=>!R key (gt b (ib+i))) (p:=k) hh (λi hi=>by lia) (λz=>by cases z) (λ_ i Q' hi hq=>K _ _ _ _ pk (pb i hi) hk (by simpa using hq)) kn (λi hi=>?_) (h k kn (λi hi=>by simpa using k1 i hi) λi h1 h2=>by simpa using k2 i h1 h2)
 ·constructor
  ·intro hr;rcases GR i k with z |z
   ·exact z
   ·have:=k2 i z hi;rw[this]at hr;cases hr
  ·intro z;exact k1 i z
omit K in
theorem i6(a:Array FY)(i:Nat):(a.extract i a.size).toList=a.toList.drop i:=by simp[Ip]
omit K in
theorem gA(a:Array FY)(i k:Nat):(a.extract i (i+k)).toList=(a.toList.drop i).take k:=by simp
omit K in
theorem sg{g:Nat}{st:G_}{Q:Unit->G_->Prop}(h:Q () (eM st g)):wpS (FF prog w) A E s (lL g) Q st:=Ku h
theorem mlo{a b:Array FY}{st:G_}{Q:Array FY->G_->Prop}(O:MO R a.toList b.toList)(pa:∀x∈a.toList,P x)(pb:∀x∈b.toList,P x)(ha:0<a.size)(hb:0<b.size)(h0:R (gt b 0) (gt a 0)=true)(hl:∀y∈b.toList,R y (gt a (a.size-1))=true)(hk:kindOf st=κ)
  (h:∀r g,Mgd R a.toList b.toList r.toList->Q r (eM st g)):wpS (FF prog w) A E s (xQ a b) Q st:=by
 have la:a.toList.length=a.size:=by simp
 have lb:b.toList.length=b.size:=by simp
 have dn:∀{out:Array FY}{ia ib:Nat},MI R a.toList b.toList out.toList ia ib->ib=b.size->Mgd R a.toList b.toList (out++a.extract ia a.size++b.extract ib b.size).toList:=λ{out ia ib} I e=>by
  rw[FS,FS,i6,i6];exact I.doneB O (by lia)
 have ls:∀{out:Array FY}{ia ib:Nat},MI R a.toList b.toList out.toList ia ib->ia+1=a.size->Mgd R a.toList b.toList (out++b.extract ib b.size++a.extract ia a.size).toList:=λ{out ia ib} I e=>by
  rw[FS,FS,i6,i6];refine I.last O (by lia) λy hy=>?_
  have:=hl y hy;rw[show a.size-1=ia by lia,gt_eq (by lia)]at this
  exact this
 have pA:∀{out:Array FY}{ia ib:Nat},MI R a.toList b.toList out.toList ia ib->ia<a.size->ib<b.size->R (gt b ib) (gt a ia)=false->MI R a.toList b.toList (out.push (gt a ia)).toList (ia+1) ib:=λ{out ia ib} I h1 h2 hr=>by
  rw[Ik,gt_eq (show ia<a.toList.length by lia)]
  refine I.pushA O (by lia) (fF O.tr O.sB (show ib<b.toList.length by lia) ?_)
  rw[gt_eq (show ib<b.toList.length by lia),gt_eq (show ia<a.toList.length by lia)]at hr
  exact O.tot _ (F7 _) _ (F7 _) hr
 have pB:∀{out:Array FY}{ia ib:Nat},MI R a.toList b.toList out.toList ia ib->ia<a.size->ib<b.size->R (gt b ib) (gt a ia)=true->MI R a.toList b.toList (out.push (gt b ib)).toList ia (ib+1):=λ{out ia ib} I h1 h2 hr=>by
  rw[Ik,gt_eq (show ib<b.toList.length by lia)]
  refine I.pushB O (by lia) (fF O.tr O.sA (show ia<a.toList.length by lia) ?_)
  rw[gt_eq (show ib<b.toList.length by lia),gt_eq (show ia<a.toList.length by lia)]at hr
  exact hr
 have sa:∀{ia n:Nat},ia+n<=a.size->∀i j,i<j->j<n->R (gt a (ia+i)) (gt a (ia+j))=true:=λ{ia n} hn i j h1 h2=>by
  rw[gt_eq (show ia+i<a.toList.length by lia),gt_eq (show ia+j<a.toList.length by lia)]
  exact Fm.mp O.sA _ _ _ _ (by lia)
 have sb:∀{ib n:Nat},ib+n<=b.size->∀i j,i<j->j<n->R (gt b (ib+i)) (gt b (ib+j))=true:=λ{ib n} hn i j h1 h2=>by
  rw[gt_eq (show ib+i<b.toList.length by lia),gt_eq (show ib+j<b.toList.length by lia)]
  exact Fm.mp O.sB _ _ _ _ (by lia)
 have dA:∀{out:Array FY}{ia ib:Nat},MI R a.toList b.toList out.toList ia ib->ia=a.size->Mgd R a.toList b.toList (out++a.extract ia a.size++b.extract ib b.size).toList:=λ{out ia ib} I e=>by
  rw[FS,FS,i6,i6];exact I.doneA O (by lia)
 have rA:∀{out:Array FY}{ia ib k:Nat},MI R a.toList b.toList out.toList ia ib->ib<b.size->ia+k<=a.size->(∀i,i<k->R (gt b ib) (gt a (ia+i))=false)->MI R a.toList b.toList (out++a.extract ia (ia+k)).toList (ia+k) ib:=λ{out ia ib k} I h2 h1 hr=>by
  rw[FS,gA];refine I.runA O (show ib<b.toList.length by lia) k (by lia) λi h hi=>?_
  have:=hr i hi;rw[gt_eq (show ib<b.toList.length by lia),gt_eq h]at this
  exact O.tot _ (F7 _) _ (F7 _) this
 have rB:∀{out:Array FY}{ia ib k:Nat},MI R a.toList b.toList out.toList ia ib->ia<a.size->ib+k<=b.size->(∀i,i<k->R (gt b (ib+i)) (gt a ia)=true)->MI R a.toList b.toList (out++b.extract ib (ib+k)).toList ia (ib+k):=λ{out ia ib k} I h2 h1 hr=>by
  rw[FS,gA];refine I.runB O (show ia<a.toList.length by lia) k (by lia) λi h hi=>?_
  have:=hr i hi;rw[gt_eq (show ia<a.toList.length by lia),gt_eq h]at this
  exact this
 have start:MI R a.toList b.toList (#[gt b 0]:Array FY).toList 0 1:=by
  have e:(#[gt b 0]:Array FY)=(#[]:Array FY).push (gt b 0):=rfl;rw[e];exact pB ⟨by simp,by simp,by simp,by simp⟩ ha hb h0
 refine Fg (ru ?_);refine Fg (el hb ?_);refine hv (hv (hv ?_));refine wif (λe1=>Fv (h _ (NF st) (dn start (by simpa using e1)))) λe1=>?_
 have e1':1<b.size:=by simp at e1;lia
 refine wif (λe2=>Fv (h _ (NF st) (ls start (by simpa using e2)))) λe2=>?_
 have e2':1<a.size:=by simp at e2;lia
 refine Fg (LF ?_);refine hv ?_;refine Fg (IE (rJ (I:=λx c QD=>∃g out ia ib mg,QD=eM st g/\c=(none,out,ia,ib,mg)/\MI R a.toList b.toList out.toList ia ib/\ia+1<a.size/\ib<b.size/\x+1<=ia+ib) (Q:=λc QD=>∃g r rest,QD=eM st g/\c=(some r,rest)/\Mgd R a.toList b.toList r.toList) ?step ?fin ⟨NF st,_,_,_,_,rfl,rfl,start,e2',e1',E2 _⟩) ?post)
 case fin=>
  rintro c QD ⟨g,out,ia,ib,mg,rfl,rfl,I,i1,i2,pr⟩
  exfalso;lia
 case post=>
  rintro c QD ⟨g,r,rest,rfl,rfl,m⟩;exact Fv (h r g m)
 case step=>
  rintro x c QD hx ⟨g,out,ia,ib,mg,rfl,rfl,I,i1,i2,pr⟩ post pd py;refine hv (hv (hv (hv (hv (hv (hv (hv (hv ?_))))))));refine Fg (IE (rJ (I:=λx2 c QD=>∃out ia ib ac bc,QD=eM st g/\c=(none,out,ia,ib,ac,bc)/\MI R a.toList b.toList out.toList ia ib/\ia+1<a.size/\ib<b.size/\x+1+x2<=ia+ib) (Q:=λc QD=>QD=eM st g/\((∃r rest,c=(some r,rest)/\Mgd R a.toList b.toList r.toList)\/∃out ia ib ac bc,c=(none,out,ia,ib,ac,bc)/\MI R a.toList b.toList out.toList ia ib/\ia+1<a.size/\ib<b.size/\x+2<=ia+ib)) ?s2 ?f2 ⟨out,ia,ib,0,0,rfl,rfl,I,i1,i2,pr⟩) ?p2)
  case f2=>
   rintro c QD ⟨out,ia,ib,ac,bc,rfl,rfl,I,j1,j2,pr'⟩
   exfalso;lia
  case s2=>
   rintro y c QD hy ⟨out,ia,ib,ac,bc,rfl,rfl,I,j1,j2,pr'⟩ post2 qd qy;dsimp only;have j0:ia<a.size:=by lia
   refine Fg (el j2 ?_);refine Fg (el j0 ?_);refine Fg (K _ _ _ _ (pb _ (bS j2)) (pa _ (bS j0)) hk ?_);dsimp only;refine wif (λhw=>Fg (el j2 ?_)) λhw=>Fg (el j0 ?_)
   ·have I2:=pB I j0 j2 hw;refine wif (λeb=>Fv (qd _ _ ⟨rfl,.inl ⟨_,_,rfl,dn I2 (by simpa using eb)⟩⟩)) λeb=>?_
    have Tx:ib+1<b.size:=by simp at eb;lia
    exact wif (λhm=>Fv (qd _ _ ⟨rfl,.inr ⟨_,_,_,_,_,rfl,I2,j1,Tx,by lia⟩⟩)) λhm=>Fv (qy _ _ ⟨_,_,_,_,_,rfl,rfl,I2,j1,Tx,by lia⟩)
   ·have I2:=pA I j0 j2 (by simpa using hw)
    refine wif (λea=>Fv (qd _ _ ⟨rfl,.inl ⟨_,_,rfl,ls I2 (by simpa using ea)⟩⟩)) λea=>?_
    have ea':ia+1+1<a.size:=by simp at ea;lia
    exact wif (λhm=>Fv (qd _ _ ⟨rfl,.inr ⟨_,_,_,_,_,rfl,I2,ea',j2,by lia⟩⟩)) λhm=>Fv (qy _ _ ⟨_,_,_,_,_,rfl,rfl,I2,ea',j2,by lia⟩)
  case p2=>
   rintro c QD ⟨rfl,⟨r,rest,rfl,m⟩ |⟨out,ia,ib,ac,bc,rfl,I,i1,i2,pr⟩⟩
   ·exact Fv (pd _ _ ⟨g,r,_,rfl,rfl,m⟩)
   ·refine hv (hv (hv (hv (hv (hv (hv (hv (hv (hv ?_)))))))));refine Fg (ru ?_);refine hv ?_;refine Fg (IE (rJ (I:=λx3 c QD=>∃g out ia ib mg ac bc,QD=eM st g/\c=(none,out,ia,ib,mg,ac,bc)/\MI R a.toList b.toList out.toList ia ib/\ia+1<a.size/\ib<b.size/\x+2+x3<=ia+ib) (Q:=λc QD=>∃g,QD=eM st g/\((∃r rest,c=(some r,rest)/\Mgd R a.toList b.toList r.toList)\/∃out ia ib mg ac bc,c=(none,out,ia,ib,mg,ac,bc)/\MI R a.toList b.toList out.toList ia ib/\ia+1<a.size/\ib<b.size/\x+2<=ia+ib)) ?s3 ?f3 ⟨g,out,ia,ib,_,ac,bc,rfl,rfl,I,i1,i2,pr⟩) ?p3)
    case f3=>
     rintro c QD ⟨g,out,ia,ib,mg,ac,bc,rfl,rfl,I,j1,j2,pr'⟩
     exfalso;lia
    case p3=>
     rintro c QD ⟨g,rfl,⟨r,rest,rfl,m⟩ |⟨out,ia,ib,mg,ac,bc,rfl,I,i1,i2,pr⟩⟩
     ·exact Fv (pd _ _ ⟨g,r,_,rfl,rfl,m⟩)
     ·refine hv (hv (hv (hv (hv (hv (hv (hv (hv (hv (hv (hv ?_)))))))))));refine hv ?_;refine Fg (sg ?_);exact Fv (py _ _ ⟨_,_,_,_,_,rfl,rfl,I,i1,i2,pr⟩)
    case s3=>
     rintro x3 c QD hx3 ⟨g,out,ia,ib,mg,ac,bc,rfl,rfl,I,j1,j2,pr'⟩ post3 qd qy;dsimp -zeta only
     extract_lets+onlyGivenNames q1 q2 q3 q4 q5 q6 q7 q8 q9 q10 q11 q12 j
     have hj:∀m,wpS (FF prog w) A E s (j () m) post3 (eM st g):=λm=>by
      refine Fg (sg ?_);dsimp -zeta only[q1,q2,q3,q4,q5,q6,q7,q8,q9,q10,q11,q12];refine Fg (el j2 (Fg (Ct K hk (show ia+(a.size-ia)<=a.size by lia) (by lia) (pb _ (bS j2)) (λi hi=>pa _ (bS (by lia))) O.tr (sa (by lia)) λk kn k1 k2=>?_)))
      dsimp -zeta only
      extract_lets+onlyGivenNames r1 j'
      have hj:∀o i,MI R a.toList b.toList o.toList i ib->i+1<a.size->ia<=i->R (gt b ib) (gt a i)=true->wpS (FF prog w) A E s (j' () o i) post3 (eM st m):=λout i I l1 l0 hr=>by
       have i0:i<a.size:=by lia
       have I3:=pB I i0 j2 hr;refine Fg (el j2 (wif (λeb=>Fv (qd _ _ ⟨_,rfl,.inl ⟨_,_,rfl,dn I3 (by simpa using eb)⟩⟩)) λeb=>?_))
       have Tx:ib+1<b.size:=by simp at eb;lia
       refine Fg (el i0 (Fg (CZ K hk (show ib+1+(b.size-(ib+1))<=b.size by lia) (by lia) (pa _ (bS i0)) (λi hi=>pb _ (bS (by lia))) O.tr (sb (by lia)) λl ln m1 m2=>?_)))
       dsimp -zeta only
       extract_lets+onlyGivenNames r2 r3 j''
       have hj:∀o n,MI R a.toList b.toList o.toList i n->n<b.size->ib<n->R (gt b n) (gt a i)=false->wpS (FF prog w) A E s (j'' () o n) post3 (eM st m):=λout n I l1 l0 hr=>by
        have I6:=pA I i0 l1 hr;refine Fg (el i0 (wif (λea=>Fv (qd _ _ ⟨_,rfl,.inl ⟨_,_,rfl,ls I6 (by simpa using ea)⟩⟩)) λea=>?_))
        have e6:i+1+1<a.size:=by simp at ea;lia
        exact wif (λ_=>Fv (qd _ _ ⟨_,rfl,.inr ⟨_,_,_,_,_,_,rfl,I6,e6,l1,by lia⟩⟩)) λ_=>Fv (qy _ _ ⟨_,_,_,_,_,_,_,rfl,rfl,I6,e6,l1,by lia⟩)
       refine wif (λhl0=>?_) λhl0=>hj _ _ I3 Tx (by lia) (m2 0 (by lia) (by lia))
       have I4:=rB I3 i0 (show ib+1+l<=b.size by lia) m1
       refine wif (λec=>Fv (qd _ _ ⟨_,rfl,.inl ⟨_,_,rfl,dn I4 (by simpa using ec)⟩⟩)) λec=>?_
       have ec':ib+1+l<b.size:=by simp at ec;lia
       exact hj _ _ I4 ec' (by lia) (m2 l (E2 _) (by lia))
      refine wif (λhk0=>?_) λhk0=>hj _ _ I j1 (by lia) (k2 0 (by lia) (by lia))
      have I2:=rA I j2 (show ia+k<=a.size by lia) k1
      refine wif (λec=>Fv (qd _ _ ⟨_,rfl,.inl ⟨_,_,rfl,ls I2 (by simpa using ec)⟩⟩)) λec=>wif (λed=>Fv (qd _ _ ⟨_,rfl,.inl ⟨_,_,rfl,dA I2 (by simpa using ed)⟩⟩)) λed=>?_
      have e1:¬ ia+k+1=a.size:=by simpa using ec
      have e2:¬ ia+k=a.size:=by simpa using ed
      exact hj _ _ I2 (by lia) (by lia) (k2 k (E2 _) (by lia))
     exact wif (λ_=>hj _) λ_=>hj _
end
section
variable {α:Type}{R:α→α→Bool}{A B:List α}
theorem sK(L:List α)(i k:Nat)(h:i+k<=L.length):((L.drop i).take k).reverse=(L.reverse.drop (L.length-i-k)).take k:=by
 apply List.ext_getElem
 ·simp;lia
 ·intro n h1 h2;simp only[F5,I_,Ja]at h1 h2;simp only[Nb,Kv,Jz,I_,Ja];congr 1;lia
theorem xA(L:List α)(n:Nat)(h:n<=L.length):L.reverse.drop (L.length-n)=(L.take n).reverse:=by
 rw[List.drop_reverse,Nat.sub_sub_self h]
theorem MO.rev(O:MO R A B):MO (λx y=>R y x) B.reverse A.reverse where
 tr:=λ_ _ _ h1 h2=>O.tr _ _ _ h2 h1
 sA:=Hq.mpr O.sB
 sB:=Hq.mpr O.sA
 tot:=λx hx y hy h=>O.tot y (Fd.mp hy) x (Fd.mp hx) h
theorem Mgd.rev{r:List α}(m:Mgd (λx y=>R y x) B.reverse A.reverse r):Mgd R A B r.reverse:=
 ⟨(LP r).trans (m.1.trans ((Jm).trans ((LP A).append (LP B)))),Hq.mpr m.2⟩
end
section
variable {prog:E8}{w:FE}{A:FC}{E:EW→EU→Prop}{s:EU}{κ:JN}{P:FY→Prop}{R:FY→FY→Bool} (K:Asks prog w A E s κ P R)
theorem fj{a:Array FY}{n i:Nat}(hn:n<=a.size)(hi:i<n)(h:a.size-n+i<a.toList.reverse.length):a.toList.reverse[a.size-n+i]=gt a (n-1-i):=by
 rw[Nb,gt_eq (by simp;lia)]
 congr 1;simp;lia
def yJ:Array FY->Array FY->StateT G_ Sem (Array FY):=sortPriv% PySem.Builtin.mergeHi
include K
theorem mhi{a b:Array FY}{st:G_}{Q:Array FY->G_->Prop}(O:MO R a.toList b.toList)(pa:∀x∈a.toList,P x)(pb:∀x∈b.toList,P x)(ha:0<a.size)(hb:0<b.size)(h0:R (gt b (b.size-1)) (gt a (a.size-1))=true)(hl:∀y∈a.toList,R (gt b 0) y=true)(hk:kindOf st=κ)
  (h:∀r g,Mgd R a.toList b.toList r.toList->Q r (eM st g)):wpS (FF prog w) A E s (yJ a b) Q st:=by
 have la:a.toList.reverse.length=a.size:=by simp
 have lb:b.toList.reverse.length=b.size:=by simp
 have O':=O.rev
 have xa:∀n,n<=a.size->(a.extract 0 n).toList=(a.toList.reverse.drop (a.size-n)).reverse:=λn hn=>by
  have:=xA a.toList n (by simpa using hn)
  rw[E5]at this;rw[this,IF];simp
 have xb:∀n,n<=b.size->(b.extract 0 n).toList=(b.toList.reverse.drop (b.size-n)).reverse:=λn hn=>by
  have:=xA b.toList n (by simpa using hn)
  rw[E5]at this;rw[this,IF];simp
 have dn:∀{out:Array FY}{na nb:Nat},MI (λx y=>R y x) b.toList.reverse a.toList.reverse out.toList (b.size-nb) (a.size-na)->nb<=b.size->na=0->Mgd R a.toList b.toList (a.extract 0 na++b.extract 0 nb++out.reverse).toList:=λ{out na nb} I hn e=>by
  have:=(I.doneB O' (by lia)).rev
  rw[HK,HK,<-Fi,<-xa na (by lia),<-xb nb hn]at this
  rw[FS,FS,IG];exact this
 have dA:∀{out:Array FY}{na nb:Nat},MI (λx y=>R y x) b.toList.reverse a.toList.reverse out.toList (b.size-nb) (a.size-na)->na<=a.size->nb=0->Mgd R a.toList b.toList (a.extract 0 na++b.extract 0 nb++out.reverse).toList:=λ{out na nb} I hn e=>by
  have:=(I.doneA O' (by lia)).rev
  rw[HK,HK,<-Fi,<-xa na hn,<-xb nb (by lia)]at this
  rw[FS,FS,IG];exact this
 have ls:∀{out:Array FY}{na nb:Nat},MI (λx y=>R y x) b.toList.reverse a.toList.reverse out.toList (b.size-nb) (a.size-na)->na<=a.size->nb=1->Mgd R a.toList b.toList (b.extract 0 nb++a.extract 0 na++out.reverse).toList:=λ{out na nb} I hn e=>by
  have:=(I.last O' (by lia) λy hy=>by
   have z:=hl y (Fd.mp hy);have g:=fj (a:=b) (n:=nb) (i:=0) (by lia) (by lia) (by lia)
   simp only[Ji]at g;rw[g,e];exact z).rev
  rw[HK,HK,<-Fi,<-xa na hn,<-xb nb (by lia)]at this
  rw[FS,FS,IG];exact this
 have pB:∀{out:Array FY}{na nb:Nat},MI (λx y=>R y x) b.toList.reverse a.toList.reverse out.toList (b.size-nb) (a.size-na)->0<na->na<=a.size->0<nb->nb<=b.size->R (gt b (nb-1)) (gt a (na-1))=true->MI (λx y=>R y x) b.toList.reverse a.toList.reverse (out.push (gt a (na-1))).toList (b.size-nb) (a.size-(na-1)):=λ{out na nb} I h1 h2 h3 h4 hr=>by
  have g:=fj (a:=a) (n:=na) (i:=0) h2 h1 (by lia)
  have g2:=fj (a:=b) (n:=nb) (i:=0) h4 h3 (by lia)
  simp only[Ji,Lz]at g g2;rw[Ik,<-g,show a.size-(na-1)=a.size-na+1 by lia]
  refine I.pushB O' (by lia) (fF O'.tr O'.sA (by lia) ?_)
  rw[g,g2];exact hr
 have pA:∀{out:Array FY}{na nb:Nat},MI (λx y=>R y x) b.toList.reverse a.toList.reverse out.toList (b.size-nb) (a.size-na)->0<na->na<=a.size->0<nb->nb<=b.size->R (gt b (nb-1)) (gt a (na-1))=false->MI (λx y=>R y x) b.toList.reverse a.toList.reverse (out.push (gt b (nb-1))).toList (b.size-(nb-1)) (a.size-na):=λ{out na nb} I h1 h2 h3 h4 hr=>by
  have g:=fj (a:=a) (n:=na) (i:=0) h2 h1 (by lia)
  have g2:=fj (a:=b) (n:=nb) (i:=0) h4 h3 (by lia)
  simp only[Ji,Lz]at g g2;rw[Ik,<-g2,show b.size-(nb-1)=b.size-nb+1 by lia]
  refine I.pushA O' (by lia) (fF O'.tr O'.sB (by lia) ?_)
  rw[g,g2];exact O.tot _ (bS (by lia)) _ (bS (by lia)) hr
 have rB:∀{out:Array FY}{na nb k:Nat},MI (λx y=>R y x) b.toList.reverse a.toList.reverse out.toList (b.size-nb) (a.size-na)->k<=na->na<=a.size->0<nb->nb<=b.size->(∀i,k<=i->i<na->R (gt b (nb-1)) (gt a i)=true)->MI (λx y=>R y x) b.toList.reverse a.toList.reverse (out++(a.extract k na).reverse).toList (b.size-nb) (a.size-k):=λ{out na nb k} I h1 h2 h3 h4 hr=>by
  have e:(a.extract k na).reverse.toList=(a.toList.reverse.drop (a.size-na)).take (na-k):=by
   rw[IG,<-show k+(na-k)=na by lia,gA,sK _ _ _ (by rw[E5];lia),E5]
   congr 1
   ·lia
   ·congr 1;lia
  rw[FS,e,show a.size-k=a.size-na+(na-k) by lia]
  refine I.runB O' (by lia) _ (by lia) λi h hi=>?_
  have g2:=fj (a:=b) (n:=nb) (i:=0) h4 h3 (by lia)
  simp only[Ji,Lz]at g2;rw[fj h2 (by lia),g2]
  exact hr _ (by lia) (by lia)
 have rA:∀{out:Array FY}{na nb k:Nat},MI (λx y=>R y x) b.toList.reverse a.toList.reverse out.toList (b.size-nb) (a.size-na)->k<=nb->nb<=b.size->0<na->na<=a.size->(∀i,k<=i->i<nb->R (gt b i) (gt a (na-1))=false)->MI (λx y=>R y x) b.toList.reverse a.toList.reverse (out++(b.extract k nb).reverse).toList (b.size-k) (a.size-na):=λ{out na nb k} I h1 h2 h3 h4 hr=>by
  have e:(b.extract k nb).reverse.toList=(b.toList.reverse.drop (b.size-nb)).take (nb-k):=by
   rw[IG,<-show k+(nb-k)=nb by lia,gA,sK _ _ _ (by rw[E5];lia),E5]
   congr 1
   ·lia
   ·congr 1;lia
  rw[FS,e,show b.size-k=b.size-nb+(nb-k) by lia]
  refine I.runA O' (by lia) _ (by lia) λi h hi=>?_
  have g2:=fj (a:=a) (n:=na) (i:=0) h4 h3 (by lia)
  simp only[Ji,Lz]at g2;rw[fj h2 (by lia),g2]
  exact O.tot _ (bS (by lia)) _ (bS (by lia)) (hr _ (by lia) (by lia))
 have sa:∀{n:Nat},n<=a.size->∀i j,i<j->j<n->R (gt a (0+i)) (gt a (0+j))=true:=λ{n} hn i j h1 h2=>by
  rw[gt_eq (show 0+i<a.toList.length by rw[E5];lia),gt_eq (show 0+j<a.toList.length by rw[E5];lia)]
  exact Fm.mp O.sA _ _ _ _ (by lia)
 have sb:∀{n:Nat},n<=b.size->∀i j,i<j->j<n->R (gt b (0+i)) (gt b (0+j))=true:=λ{n} hn i j h1 h2=>by
  rw[gt_eq (show 0+i<b.toList.length by rw[E5];lia),gt_eq (show 0+j<b.toList.length by rw[E5];lia)]
  exact Fm.mp O.sB _ _ _ _ (by lia)
 have sA:∀{n:Nat},0<n->n<=a.size->n-1<a.size:=λh k=>Fz (PU h OF) k
 have sB:∀{n:Nat},0<n->n<=b.size->n-1<b.size:=λh k=>Fz (PU h OF) k
 have start:MI (λx y=>R y x) b.toList.reverse a.toList.reverse (#[gt a (a.size-1)]:Array FY).toList (b.size-b.size) (a.size-(a.size-1)):=by
  have e:(#[gt a (a.size-1)]:Array FY)=(#[]:Array FY).push (gt a (a.size-1)):=rfl;rw[e];exact pB ⟨by simp,by simp,by simp,by simp⟩ ha (E2 _) hb (E2 _) h0
 refine Fg (ru ?_);refine Fg (el (sA ha (E2 _)) ?_)
 try dsimp -zeta only
 refine wif (λe1=>Fv (h _ (NF st) (dn start (E2 _) (by simpa using e1)))) λe1=>?_
 have e1':0<a.size-1:=by simp at e1;lia
 refine wif (λe2=>Fv (h _ (NF st) (ls start (by lia) (by simpa using e2)))) λe2=>?_
 have e2':1<b.size:=by simp at e2;lia
 refine Fg (LF ?_)
 try dsimp -zeta only
 refine Fg (IE (rJ (I:=λx c QD=>∃g na nb out mg,QD=eM st g/\c=(none,na,nb,out,mg)/\MI (λx y=>R y x) b.toList.reverse a.toList.reverse (out).toList (b.size-nb) (a.size-na)/\0<na/\na<=a.size/\1<nb/\nb<=b.size/\x+1<=(a.size-na)+(b.size-nb)) (Q:=λc QD=>∃g r rest,QD=eM st g/\c=(some r,rest)/\Mgd R a.toList b.toList r.toList) ?step ?fin ⟨NF st,_,_,_,_,rfl,rfl,start,e1',by lia,e2',E2 _,by lia⟩) ?post)
 case fin=>
  rintro c QD ⟨g,na,nb,out,mg,rfl,rfl,I,i1,i2,i3,i4,pr⟩
  exfalso;lia
 case post=>
  rintro c QD ⟨g,r,rest,rfl,rfl,m⟩;exact Fv (h r g m)
 case step=>
  rintro x c QD hx ⟨g,na,nb,out,mg,rfl,rfl,I,i1,i2,i3,i4,pr⟩ post pd py;refine Fg (IE (rJ (I:=λx2 c QD=>∃na nb out ac bc,QD=eM st g/\c=(none,na,nb,out,ac,bc)/\MI (λx y=>R y x) b.toList.reverse a.toList.reverse (out).toList (b.size-nb) (a.size-na)/\0<na/\na<=a.size/\1<nb/\nb<=b.size/\x+1+x2<=(a.size-na)+(b.size-nb)) (Q:=λc QD=>QD=eM st g/\((∃r rest,c=(some r,rest)/\Mgd R a.toList b.toList r.toList)\/∃na nb out ac bc,c=(none,na,nb,out,ac,bc)/\MI (λx y=>R y x) b.toList.reverse a.toList.reverse (out).toList (b.size-nb) (a.size-na)/\0<na/\na<=a.size/\1<nb/\nb<=b.size/\x+2<=(a.size-na)+(b.size-nb))) ?s2 ?f2 ⟨na,nb,out,0,0,rfl,rfl,I,i1,i2,i3,i4,pr⟩) ?p2)
  case f2=>
   rintro c QD ⟨na,nb,out,ac,bc,rfl,rfl,I,i1,i2,i3,i4,pr⟩
   exfalso;lia
  case s2=>
   rintro y c QD hy ⟨na,nb,out,ac,bc,rfl,rfl,I,i1,i2,i3,i4,pr⟩ post2 qd qy
   try dsimp only
   have i5:0<nb:=Jy i3;refine Fg (el (sB i5 i4) ?_);refine Fg (el (sA i1 i2) ?_);refine Fg (K _ _ _ _ (pb _ (bS (sB i5 i4))) (pa _ (bS (sA i1 i2))) hk ?_)
   try dsimp only
   refine wif (λhw=>Fg (el (sA i1 i2) ?_)) λhw=>Fg (el (sB i5 i4) ?_)
   ·have I2:=pB I i1 i2 i5 i4 hw;refine wif (λeb=>Fv (qd _ _ ⟨rfl,.inl ⟨_,_,rfl,dn I2 i4 (by simpa using eb)⟩⟩)) λeb=>?_
    have Tx:0<na-1:=by simp at eb;lia
    exact wif (λhm=>Fv (qd _ _ ⟨rfl,.inr ⟨_,_,_,_,_,rfl,I2,Tx,by lia,i3,i4,by lia⟩⟩)) λhm=>Fv (qy _ _ ⟨_,_,_,_,_,rfl,rfl,I2,Tx,by lia,i3,i4,by lia⟩)
   ·have I2:=pA I i1 i2 i5 i4 (by simpa using hw)
    refine wif (λea=>Fv (qd _ _ ⟨rfl,.inl ⟨_,_,rfl,ls I2 i2 (by simpa using ea)⟩⟩)) λea=>?_
    have ea':1<nb-1:=by simp at ea;lia
    exact wif (λhm=>Fv (qd _ _ ⟨rfl,.inr ⟨_,_,_,_,_,rfl,I2,i1,i2,ea',by lia,by lia⟩⟩)) λhm=>Fv (qy _ _ ⟨_,_,_,_,_,rfl,rfl,I2,i1,i2,ea',by lia,by lia⟩)
  case p2=>
   rintro c QD ⟨rfl,⟨r,rest,rfl,m⟩ |⟨na,nb,out,ac,bc,rfl,I,i1,i2,i3,i4,pr⟩⟩
   ·exact Fv (pd _ _ ⟨g,r,_,rfl,rfl,m⟩)
   ·refine Fg (ru ?_);refine Fg (IE (rJ (I:=λx3 c QD=>∃g na nb out mg ac bc,QD=eM st g/\c=(none,na,nb,out,mg,ac,bc)/\MI (λx y=>R y x) b.toList.reverse a.toList.reverse (out).toList (b.size-nb) (a.size-na)/\0<na/\na<=a.size/\1<nb/\nb<=b.size/\x+2+x3<=(a.size-na)+(b.size-nb)) (Q:=λc QD=>∃g,QD=eM st g/\((∃r rest,c=(some r,rest)/\Mgd R a.toList b.toList r.toList)\/∃na nb out mg ac bc,c=(none,na,nb,out,mg,ac,bc)/\MI (λx y=>R y x) b.toList.reverse a.toList.reverse (out).toList (b.size-nb) (a.size-na)/\0<na/\na<=a.size/\1<nb/\nb<=b.size/\x+2<=(a.size-na)+(b.size-nb))) ?s3 ?f3 ⟨g,na,nb,out,_,ac,bc,rfl,rfl,I,i1,i2,i3,i4,pr⟩) ?p3)
    case f3=>
     rintro c QD ⟨g,na,nb,out,mg,ac,bc,rfl,rfl,I,i1,i2,i3,i4,pr⟩
     exfalso;lia
    case p3=>
     rintro c QD ⟨g,rfl,⟨r,rest,rfl,m⟩ |⟨na,nb,out,mg,ac,bc,rfl,I,i1,i2,i3,i4,pr⟩⟩
     ·exact Fv (pd _ _ ⟨g,r,_,rfl,rfl,m⟩)
     ·refine Fg (sg ?_);exact Fv (py _ _ ⟨_,_,_,_,_,rfl,rfl,I,i1,i2,i3,i4,pr⟩)
    case s3=>
     rintro x3 c QD hx3 ⟨g,na,nb,out,mg,ac,bc,rfl,rfl,I,i1,i2,i3,i4,pr⟩ post3 qd qy;dsimp -zeta only
     extract_lets+onlyGivenNames q1 q2 q3 q4 q5 q6 q7 q8 q9 q10 q11 q12 j
     have hj:∀m,wpS (FF prog w) A E s (j () m) post3 (eM st g):=λm=>by
      refine Fg (sg ?_);dsimp -zeta only[q1,q2,q3,q4,q5,q6,q7,q8,q9,q10,q11,q12];have i5:0<nb:=Jy i3;refine Fg (el (sB i5 i4) (Fg (Ct K hk (show 0+na<=a.size by lia) (PU i1 OF) (pb _ (bS (sB i5 i4))) (λi hi=>pa _ (bS (by lia))) O.tr (sa (by lia)) λk kn k1 k2=>?_)))
      simp only[LA]at k1 k2;dsimp -zeta only
      extract_lets+onlyGivenNames r0 r1 j'
      have hj:∀n o,MI (λx y=>R y x) b.toList.reverse a.toList.reverse o.toList (b.size-nb) (a.size-n)->0<n->n<=na->R (gt b (nb-1)) (gt a (n-1))=false->wpS (FF prog w) A E s (j' () n o) post3 (eM st m):=λn out I n0 n1 hr=>by
       have n2:n<=a.size:=by lia
       have I3:=pA I n0 n2 i5 i4 hr;have b1:nb-1<=b.size:=GY (Qz _ _) i4;refine Fg (el (sB i5 i4) (wif (λeb=>Fv (qd _ _ ⟨_,rfl,.inl ⟨_,_,rfl,ls I3 n2 (by simpa using eb)⟩⟩)) λeb=>?_))
       have Tx:1<nb-1:=by simp at eb;lia
       refine Fg (el (sA n0 n2) (Fg (CZ K hk (show 0+(nb-1)<=b.size by lia) (by lia) (pa _ (bS (sA n0 n2))) (λi hi=>pb _ (bS (by lia))) O.tr (sb (by lia)) λl ln l1 l2=>?_)))
       simp only[LA]at l1 l2;dsimp -zeta only
       extract_lets+onlyGivenNames r2 r3 r4 j''
       have hj:∀p o,MI (λx y=>R y x) b.toList.reverse a.toList.reverse o.toList (b.size-p) (a.size-n)->1<p->p<nb->R (gt b (p-1)) (gt a (n-1))=true->wpS (FF prog w) A E s (j'' () p o) post3 (eM st m):=λp out I p0 p1 hr=>by
        have p2:p<=b.size:=by lia
        have I6:=pB I n0 n2 (Jy p0) p2 hr;refine Fg (el (sA n0 n2) (wif (λea=>Fv (qd _ _ ⟨_,rfl,.inl ⟨_,_,rfl,dn I6 p2 (by simpa using ea)⟩⟩)) λea=>?_))
        have e6:0<n-1:=by simp at ea;lia
        have n3:n-1<=a.size:=GY (Qz _ _) n2;exact wif (λ_=>Fv (qd _ _ ⟨_,rfl,.inr ⟨_,_,_,_,_,_,rfl,I6,e6,n3,p0,p2,by lia⟩⟩)) λ_=>Fv (qy _ _ ⟨_,_,_,_,_,_,_,rfl,rfl,I6,e6,n3,p0,p2,by lia⟩)
       refine wif (λhl0=>?_) λhl0=>hj _ _ I3 Tx (by lia) (l1 (nb-1-1) (by lia))
       have I4:=rA I3 ln b1 n0 n2 l2;refine wif (λec=>Fv (qd _ _ ⟨_,rfl,.inl ⟨_,_,rfl,ls I4 n2 (by simpa using ec)⟩⟩)) λec=>wif (λed=>Fv (qd _ _ ⟨_,rfl,.inl ⟨_,_,rfl,dA I4 n2 (by simpa using ed)⟩⟩)) λed=>?_
       have h1:¬ l=1:=by simpa using ec
       have h2:¬ l=0:=by simpa using ed
       exact hj _ _ I4 (by lia) (by lia) (l1 (l-1) (by lia))
      refine wif (λhk0=>?_) λhk0=>hj _ _ I i1 (by lia) (k1 (na-1) (by lia))
      have I2:=rB I kn i2 i5 i4 k2;refine wif (λec=>Fv (qd _ _ ⟨_,rfl,.inl ⟨_,_,rfl,dn I2 i4 (by simpa using ec)⟩⟩)) λec=>?_
      have h1:¬ k=0:=by simpa using ec
      exact hj _ _ I2 (by lia) (by lia) (k1 (k-1) (by lia))
     exact wif (λ_=>hj _) λ_=>hj _
end
section
theorem qk{κ:Type}:∀(m:List κ) (n p:Nat) (X Y:List κ) (arr:Array κ),arr.toList=X++Y->X.length=p+n->m.length<=Y.length->((m.zipIdx n).foldl (λa (x:κ×Nat)=>a.setIfInBounds (p+x.2) x.1) arr).toList=X++m++Y.drop m.length
 |[],n,p,X,Y,arr,e,_,_=>by simpa using e
 |x::m,n,p,X,[],arr,e,h1,h2=>by simp at h2
 |x::m,n,p,X,y::Y,arr,e,h1,h2=>by
  rw[List.zipIdx_cons,He]
  have:=qk m (n+1) p (X++[x]) Y (arr.setIfInBounds (p+n) x) (by
   rw[Lp,e,<-h1,MU _ _ (E2 _)];simp) (by simp;lia) (by simpa using h2)
  rw[this];simp
theorem w6{M:N_}{A:FC}{E:EW->EU->Prop}{s:EU}{σ:Type}{x:σ}{Q:PUnit->σ->Prop}{st:σ}(h:Q ⟨⟩ x):wpS M A E s (set x:StateT σ Sem PUnit) Q st:=by
 unfold wpS;rw[StateT.run_set];exact EY ⟨rfl,h⟩
theorem seg{κ:Type}(X S Y:List κ):((X++S++Y).drop X.length).take S.length=S:=by simp
end
section
variable {prog:E8}{w:FE}{A:FC}{E:EW→EU→Prop}{s:EU}{κ:JN}{P:FY→Prop}{R:FY→FY→Bool} (K:Asks prog w A E s κ P R)
include K
theorem mat{i sa na pw sb nb pw2:Nat}{X S1 S2 Y:List FY}{st:G_}{Q:Bool->G_->Prop}(hk:kindOf st=κ)(hf:K6 st=none)(h1:(Io st)[i]?=some (sa,na,pw))(h2:(Io st)[i+1]?=some (sb,nb,pw2))(ha:(FZ st).toList=X++S1++S2++Y)(lX:X.length=sa)(l1:S1.length=na)(l2:S2.length=nb)(SA:sb=sa+na)(p1:0<na)(p2:0<nb)(pp:∀x∈S1++S2,P x)(O:MO R S1 S2)
  (h:∀S QD,kindOf QD=κ->K6 QD=none->Io QD=((Io st).setIfInBounds i (sa,na+nb,pw)).eraseIdxIfInBounds (i+1)->(FZ QD).toList=X++S++Y->Mgd R S1 S2 S->Q true QD):wpS (FF prog w) A E s (mergeAt' i) Q st:=by
 have sz:(FZ st).size=sa+na+nb+Y.length:=by rw[<-E5,ha];simp;lia
 have g1:∀j (hj:j<S1.length),gt (FZ st) (sa+j)=S1[j]:=λj hj=>by
  rw[gt_eq (by rw[E5];lia)]
  simp only[ha];rw[IS (by simp;lia),IS (by simp;lia),JJ (by lia)]
  congr 1;lia
 have g2:∀j (hj:j<S2.length),gt (FZ st) (sb+j)=S2[j]:=λj hj=>by
  rw[gt_eq (by rw[E5];lia)]
  simp only[ha];rw[IS (by simp;lia),JJ (by simp;lia)]
  congr 1;simp;lia
 have q1:∀j,j<na->P (gt (FZ st) (sa+j)):=λj hj=>by rw[g1 j (by lia)];exact pp _ (FH _ (F7 _))
 have q2:∀j,j<nb->P (gt (FZ st) (sb+j)):=λj hj=>by rw[g2 j (by lia)];exact pp _ (Fw _ (F7 _))
 refine Fg (LF ?_);rw[h1,h2];dsimp only;refine Fg (w6 ?_);refine Fg (el (show sb<(FZ st).size by lia) ?_)
 refine Fg (Ct K hk (show sa+na<=(FZ st).size by lia) p1 (by have:=q2 0 p2;simpa using this) q1 O.tr (λx y h3 h4=>by
  rw[g1 x (by lia),g1 y (by lia)]
  exact Fm.mp O.sA _ _ _ _ h3) λk kn k1 k2=>?_)
 dsimp only;have To:gt (FZ st) sb=S2[0]'(by lia):=by have:=g2 0 (by lia);simpa using this
 rw[To]at k1 k2
 have hU:∀x∈S1.take k,∀y∈S2,R x y=true:=λx hx y hy=>by
  obtain⟨j,hj,rfl⟩:=GK hx;have jk:j<k:=by simp at hj;lia
  have z:=k1 j jk;rw[g1 j (by lia)]at z
  have z2:=O.tot _ (F7 _) _ (F7 _) z;rw[Kv];exact fF O.tr O.sB (show 0<S2.length by lia) z2 y (by simpa using hy)
 have f1:∀v∈S1.drop k,R (S2[0]'(by lia)) v=true:=λv hv=>by
  obtain⟨j,hj,rfl⟩:=GK hv;rw[Ja]at hj;rw[Jz,<-g1 (k+j) (by lia)]
  exact k2 _ (by lia) (by lia)
 by_cases e1:(na-k==0)=true
 ·rw[if_pos e1];have e1':na-k=0:=by simpa using e1
  refine Fv (h (S1++S2) _ hk hf rfl (by rw[<-Fi];exact ha) ⟨LC _,Gp.mpr ⟨O.sA,O.sB,λx hx y hy=>hU x (by rw[Ip (by lia)];exact hx) y hy⟩⟩)
 rw[if_neg e1];have e1':0<na-k:=by have z:¬ na-k=0:=(by simpa using e1);lia
 have Q1:gt (FZ st) (sa+k+(na-k)-1)=S1[na-1]'(by lia):=by
  rw[<-g1 (na-1) (by lia)];congr 1;lia
 refine Fg (el (show sa+k+(na-k)-1<(FZ st).size by lia) ?_)
 refine Fg (CZ K hk (show sb+nb<=(FZ st).size by lia) (by lia) (by rw[Q1,<-g1 (na-1) (by lia)];exact q1 _ (by lia)) q2 O.tr (λx y h3 h4=>by
  rw[g2 x (by lia),g2 y (by lia)]
  exact Fm.mp O.sB _ _ _ _ h3) λl ln m1 m2=>?_)
 dsimp only;rw[Q1]at m1 m2
 have hZ:∀x∈S1,∀z∈S2.drop l,R x z=true:=λx hx z hz=>by
  obtain⟨j,hj,rfl⟩:=GK hz;rw[Ja]at hj;obtain⟨i,hi,rfl⟩:=GK hx;rw[Jz];have z:=m2 (l+j) (by lia) (by lia)
  rw[g2 (l+j) (by lia)]at z
  have z2:=O.tot _ (F7 _) _ (F7 _) z;rcases GR i (na-1) with c |c
  ·exact O.tr _ _ _ (Fm.mp O.sA i (na-1) hi (by lia) c) z2
  ·have:i=na-1:=by lia
   subst this;exact z2
 have f2:∀v∈S2.take l,R v (S1[na-1]'(by lia))=true:=λv hv=>by
  obtain⟨j,hj,rfl⟩:=GK hv;have jl:j<l:=by simp at hj;lia
  rw[Kv,<-g2 j (by lia)]
  exact m1 _ jl
 have l0:0<l:=by
  rcases J_ l with c |c
  ·exfalso
   have z:=m2 0 (by lia) p2
   rw[g2 0 (by lia)]at z
   have z2:=f1 (S1[na-1]'(by lia)) (by
    have:S1[na-1]'(by lia)=(S1.drop k)[na-1-k]'(by rw[Ja];lia):=by rw[Jz];congr 1;lia
    rw[this];exact F7 _)
   rw[z2]at z;cases z
  ·exact c
 rw[if_neg (by simp;lia)]
 have ll:∀{a:Array FY},a.toList.length=a.size:=by simp
 have eL:(FZ st).toList=(X++S1.take k)++S1.drop k++(S2.take l++(S2.drop l++Y)):=by
  rw[ha]
  conv=>lhs;rw[←FL k S1,←FL l S2]
  simp only[Fi]
 have T9:((FZ st).extract (sa+k) sb).toList=S1.drop k:=by
  rw[show sb=sa+k+(na-k) by lia,gA,eL]
  have:=seg (X++S1.take k) (S1.drop k) (S2.take l++(S2.drop l++Y));rw[show (X++S1.take k).length=sa+k by simp;lia,show (S1.drop k).length=na-k by simp;lia]at this
  exact this
 have Ua:((FZ st).extract sb (sb+l)).toList=S2.take l:=by
  rw[gA,ha];have:=seg (X++S1) (S2.take l) (S2.drop l++Y);rw[show (X++S1).length=sb by simp;lia,show (S2.take l).length=l by simp;lia]at this
  rw[<-Fi,Fi (X++S1),FL]at this;exact this
 generalize hx:(FZ st).extract (sa+k) sb=x at T9 |-;generalize hy:(FZ st).extract sb (sb+l)=y at Ua |-;have sx:x.size=na-k:=by rw[<-ll,T9];simp;lia
 have sy:y.size=l:=by rw[<-ll,Ua];simp;lia
 have O2:MO R x.toList y.toList:=by
  rw[T9,Ua];exact⟨O.tr,O.sA.sublist (IR _ _),O.sB.sublist (Kq _ _),λu hu v hv=>O.tot u (Hx hu) v (Hy hv)⟩
 have gx:gt x (x.size-1)=S1[na-1]'(by lia):=by
  rw[gt_eq (by rw[ll];lia)]
  simp only[T9,sx,Jz];congr 1;lia
 have gy:gt y 0=S2[0]'(by lia):=by
  rw[gt_eq (by rw[ll];lia)]
  simp only[Ua,Kv]
 have px:∀u∈x.toList,P u:=λu hu=>pp u (FH _ (Hx (by rw[T9]at hu;exact hu)))
 have py:∀u∈y.toList,P u:=λu hu=>pp u (Fw _ (Hy (by rw[Ua]at hu;exact hu)))
 have Sk:∀v∈y.toList,R v (gt x (x.size-1))=true:=λv hv=>by rw[gx];exact f2 v (by rw[Ua]at hv;exact hv)
 have SX:∀v∈x.toList,R (gt y 0) v=true:=λv hv=>by rw[gy];exact f1 v (by rw[T9]at hv;exact hv)
 have fin:∀r:Array FY,Mgd R x.toList y.toList r.toList->((r.toList.zipIdx).foldl (λa (x:FY×Nat)=>a.setIfInBounds (sa+k+x.2) x.1) (FZ st)).toList=X++(S1.take k++r.toList++S2.drop l)++Y/\Mgd R S1 S2 (S1.take k++r.toList++S2.drop l):=λr m=>by
  have lr:r.toList.length=(S1.drop k++S2.take l).length:=by rw[<-T9,<-Ua];exact m.1.length_eq
  constructor
  ·rw[qk r.toList 0 (sa+k) (X++S1.take k) (S1.drop k++S2.take l++(S2.drop l++Y)) _ (by rw[eL];simp only[Fi]) (by simp;lia) (by rw[lr,Fx (as:=S1.drop k++S2.take l)];lia)]
   rw[lr,List.drop_left];simp only[Fi]
  ·have mp:r.toList.Perm (S1.drop k++S2.take l):=by rw[<-T9,<-Ua];exact m.1
   constructor
   ·refine ((mp.append_left _).append_right _).trans ?_
    have e:S1++S2=S1.take k++(S1.drop k++S2.take l)++S2.drop l:=by
     conv=>lhs;rw[←FL k S1,←FL l S2]
     simp only[Fi]
    rw[e]
   ·have sp1:=O.sA;rw[<-FL k S1]at sp1;have sp2:=O.sB;rw[<-FL l S2]at sp2;have c1:=Gp.mp sp1;have c2:=Gp.mp sp2;refine Gp.mpr ⟨Gp.mpr ⟨c1.1,m.2,λu hu v hv=>?_⟩,c2.2.1,λu hu v hv=>?_⟩
    ·rcases Fn.mp (mp.mem_iff.mp hv) with z |z
     ·exact c1.2.2 u hu v z
     ·exact hU u hu v (Hy z)
    ·rcases Fn.mp hu with z |z
     ·exact hU u z v (Hx hv)
     ·rcases Fn.mp (mp.mem_iff.mp z) with z |z
      ·exact hZ u (Hx z) v hv
      ·exact c2.2.2 u z v hv
 have fin2:∀(r:Array FY) g,Mgd R x.toList y.toList r.toList->Q true (SortSt.mk' (kindOf st) ((r.toList.zipIdx).foldl (λa (x:FY×Nat)=>a.setIfInBounds (sa+k+x.2) x.1) (FZ st)) (((Io st).setIfInBounds i (sa,na+nb,pw)).eraseIdxIfInBounds (i+1)) g (K6 st)):=λr g m=>h _ _ hk hf rfl (fin r m).1 (fin r m).2
 by_cases hc:na-k<=l
 ·rw[if_pos hc];refine Fg (mlo K O2 px py (by lia) (by lia) (SX _ (bS (by lia))) Sk hk λr g m=>?_)
  refine Fg (Ku ?_);refine Fg (LF ?_);have:=fin2 r g m;refine Fv ?_;show Q (K6 st).isNone _;rw[show (K6 st).isNone=true by rw[hf];rfl]
  exact this
 ·rw[if_neg hc];refine Fg (mhi K O2 px py (by lia) (by lia) (Sk _ (bS (by lia))) SX hk λr g m=>?_)
  refine Fg (Ku ?_);refine Fg (LF ?_);have:=fin2 r g m;refine Fv ?_;show Q (K6 st).isNone _;rw[show (K6 st).isNone=true by rw[hf];rfl]
  exact this
end
variable {R:FY→FY→Bool}{κ:JN}{P:FY→Prop}{l:List FY}{pd:Array (Nat×Nat×Nat)}
section
variable {A:FC}
structure Ord(P:FY->Prop)(R:FY->FY->Bool)(l:List FY):Prop where
 tr:∀x y z,R x y=true->R y z=true->R x z=true
 tot:∀x∈l,∀y∈l,x≠y->R x y=false->R y x=true
 nd:l.Nodup
 hp:∀x∈l,P x
structure Stt(κ:JN)(l:List FY)(pd:Array (Nat×Nat×Nat))(st:G_):Prop where
 kind:kindOf st=κ
 failed:K6 st=none
 perm:(FZ st).toList.Perm l
 pend:Io st=pd
theorem Stt.size{st:G_}(S:Stt κ l pd st):(FZ st).size=l.length:=by rw[<-E5,S.perm.length_eq]
theorem Stt.p(O:Ord P R l){st:G_}(S:Stt κ l pd st){i:Nat}(h:i<l.length):P (gt (FZ st) i):=O.hp _ (S.perm.mem_iff.mp (bS (by rw[S.size];exact h)))
theorem Stt.tot(O:Ord P R l){st:G_}(S:Stt κ l pd st){i j:Nat}(hi:i<l.length)(hj:j<l.length)(QF:i≠j)(hr:R (gt (FZ st) i) (gt (FZ st) j)=false):R (gt (FZ st) j) (gt (FZ st) i)=true:=by
 refine O.tot _ (S.perm.mem_iff.mp (bS (by rw[S.size];exact hi))) _ (S.perm.mem_iff.mp (bS (by rw[S.size];exact hj))) (λe=>QF ?_) hr
 have li:i<(FZ st).toList.length:=by rw[E5,S.size];exact hi
 have lj:j<(FZ st).toList.length:=by rw[E5,S.size];exact hj
 rw[gt_eq li,gt_eq lj]at e;exact (Me (S.perm.nodup_iff.mpr O.nd)).mp e
theorem Stt.arr{st:G_}(S:Stt κ l pd st){a:Array FY}(h:a.Perm (FZ st)):Stt κ l pd (setArr st a):=⟨S.kind,S.failed,(Array.perm_iff_toList_perm.mp h).trans S.perm,S.pend⟩
theorem ltK(K:Asks prog w A E s κ P R)(O:Ord P R l){i j:Nat}{st:G_}{Q:Option Bool->G_->Prop}(S:Stt κ l pd st)(hi:i<l.length)(hj:j<l.length)(h:Q (some (R (gt (FZ st) i) (gt (FZ st) j))) st):wpS (FF prog w) A E s (ltAt' i j) Q st:=by
 rw[ltAt'_eq];refine Fg (LF ?_);refine Fg (el (by rw[S.size];exact hi) ?_)
 refine Fg (el (by rw[S.size];exact hj) ?_)
 exact K _ _ _ _ (S.p O hi) (S.p O hj) S.kind h
theorem pX{a b:Array FY}{i j:Nat}(h:a[i]?=b[j]?):gt a i=gt b j:=by
 unfold gt;rw[GZ,GZ,h]
def Up(R:FY->FY->Bool)(a:Array FY)(lo m:Nat):Prop:=∀i j,i<j->j<m->R (gt a (lo+i)) (gt a (lo+j))=true
def Dn(R:FY->FY->Bool)(a:Array FY)(lo m:Nat):Prop:=∀i j,i<j->j<m->R (gt a (lo+j)) (gt a (lo+i))=true
def Kept(a b:Array FY)(lo:Nat):Prop:=∀j,j<lo->gt b j=gt a j
theorem BW{a:Array FY}{src d:Nat}(hs:src<a.size)(hd:d<=src)(k:Nat):gt (Qw a src d) k=if k=src-d then gt a src else if src-d<k/\k<=src then gt a (k-1) else gt a k:=by
 have e:=getElem?_bubble hs d hd k;by_cases h1:k=src-d
 ·rw[if_pos h1]at e |-;exact pX e
 ·rw[if_neg h1]at e |-;by_cases h2:src-d<k/\k<=src
  ·rw[if_pos h2]at e |-;exact pX e
  ·rw[if_neg h2]at e |-;exact pX e
theorem rW{a:Array FY}{i j:Nat}(hj:j<=a.size)(k:Nat):gt (PV a i j ((j-i)/2)) k=if i<=k/\k<j then gt a (i+j-1-k) else gt a k:=by
 have e:=getElem?_mirror_all (xs:=a) (i:=i) hj k;by_cases h1:i<=k/\k<j
 ·rw[if_pos h1]at e |-;exact pX e
 ·rw[if_neg h1]at e |-;exact pX e
variable (K:Asks prog w A E s κ P R)
include K
theorem Ey(O:Ord P R l){lo n ok:Nat}{st:G_}{Q:Bool->G_->Prop}(hn:lo+n<=l.length)(hok:ok<=n)(S:Stt κ l pd st)(hs:Up R (FZ st) lo ok)
  (h:∀QD,Stt κ l pd QD->Kept (FZ st) (FZ QD) lo->Up R (FZ QD) lo n->Q true QD):wpS (FF prog w) A E s (binarySort' lo n ok) Q st:=by
 rw[binarySort'_eq]
 refine Fg (IE (Ig (I:=λk c QD=>c=(none,())/\Stt κ l pd QD/\Kept (FZ st) (FZ QD) lo/\Up R (FZ QD) lo (min k n))
  (Q:=λc QD=>c=(none,())/\Stt κ l pd QD/\Kept (FZ st) (FZ QD) lo/\Up R (FZ QD) lo n) ?step ?fin ?init) ?post)
 case post=>
  rintro c QD ⟨rfl,S',k',u'⟩;exact Fv (h QD S' k' u')
 case init=>
  refine⟨rfl,S,λ_ _=>rfl,λi j Rt hj=>?_⟩
  exact hs i j Rt (by lia)
 case fin=>
  rintro c QD ⟨hc,S',k',u'⟩;refine⟨hc,S',k',?_⟩
  rwa [show min (max (max ok 1) n) n=n by lia]at u'
 case step=>
  rintro k c QD hak hkn ⟨rfl,S',k',u'⟩;rw[show min k n=k by lia]at u'
  have hk:lo+k<l.length:=by lia
  refine Fg (IE (Ig (I:=λx c Rb=>Rb=QD/\∃p r,c=(none,p,r)/\p<=r/\r<=k/\r-p<=k-x/\
    (∀i,i<p->R (gt (FZ QD) (lo+i)) (gt (FZ QD) (lo+k))=true)/\(∀i,r<=i->i<k->R (gt (FZ QD) (lo+k)) (gt (FZ QD) (lo+i))=true))
   (Q:=λc Rb=>Rb=QD/\∃p r,c=(none,p,r)/\p<=k/\
    (∀i,i<p->R (gt (FZ QD) (lo+i)) (gt (FZ QD) (lo+k))=true)/\(∀i,p<=i->i<k->R (gt (FZ QD) (lo+k)) (gt (FZ QD) (lo+i))=true)) ?istep ?ifin ?iinit) ?ipost)
  case iinit=>exact⟨rfl,0,k,rfl,by lia,by lia,by lia,λi hi=>by lia,λi h1 h2=>by lia⟩
  case ifin=>
   rintro c Rb ⟨rfl,p,r,rfl,hlr,hrk,hm,Sk,SX⟩;have:p=r:=by lia
   subst this;exact⟨rfl,p,p,rfl,hrk,Sk,SX⟩
  case istep=>
   rintro x c Rb _ hxk ⟨rfl,p,r,rfl,hlr,hrk,hm,Sk,SX⟩;dsimp only;by_cases hge:p ≥ r
   ·rw[if_pos hge];have:p=r:=by lia
    subst this;exact Fv ⟨rfl,p,p,rfl,hrk,Sk,SX⟩
   ·rw[if_neg hge];refine Fg (ltK K O S' hk (show lo+(p+r)/2<l.length by lia) ?_)
    dsimp only;by_cases RV:R (gt (FZ Rb) (lo+k)) (gt (FZ Rb) (lo+(p+r)/2))=true
    ·rw[if_pos RV];refine Fv ⟨rfl,p,(p+r)/2,rfl,by lia,by lia,by lia,Sk,λi h1 h2=>?_⟩
     rcases FB h1 with z |z
     ·exact O.tr _ _ _ RV (u' _ _ z h2)
     ·rw[<-z];exact RV
    ·rw[if_neg RV];have ht:=S'.tot O hk (show lo+(p+r)/2<l.length by lia) (by lia) (by simpa using RV)
     refine Fv ⟨rfl,(p+r)/2+1,r,rfl,by lia,by lia,by lia,λi h1=>?_,SX⟩
     rcases FB (G7 h1) with z |z
     ·exact O.tr _ _ _ (u' _ _ z (by lia)) ht
     ·rw[z];exact ht
  case ipost=>
   rintro c Rb ⟨rfl,p,r,rfl,hlk,Sk,SX⟩;show wpS _ _ _ _ (do moveDown' (lo+k) (lo+p);pure (ForInStep.yield (none,()))) _ _
   rw[moveDown'_eq];have hks:lo+k<(FZ Rb).size:=by rw[S'.size];exact hk
   have at_:∀j,gt (Qw (FZ Rb) (lo+k) (lo+k-(lo+p))) j=if j=lo+p then gt (FZ Rb) (lo+k) else if lo+p<j/\j<=lo+k then gt (FZ Rb) (j-1) else gt (FZ Rb) j:=λj=>by
    have:=BW hks (show lo+k-(lo+p)<=lo+k by lia) j
    rwa [show lo+k-(lo+k-(lo+p))=lo+p by lia]at this
   refine Fg (Ku (Fv ⟨rfl,S'.arr (bubble_perm _ _ _),λj hj=>?_,?_⟩))
   ·show gt (Qw (FZ Rb) (lo+k) (lo+k-(lo+p))) j=_;rw[at_,if_neg (by lia),if_neg (by lia)]
    exact k' j hj
   ·rw[show min (k+1) n=k+1 by lia]
    intro i j Rt hj;show R (gt (Qw (FZ Rb) (lo+k) (lo+k-(lo+p))) (lo+i)) (gt (Qw (FZ Rb) (lo+k) (lo+k-(lo+p))) (lo+j))=true;rw[at_,at_];have sh:∀q,lo+p<lo+q->lo+q-1=lo+(q-1):=λq hq=>by lia
    by_cases a1:lo+i=lo+p
    ·rw[if_pos a1,if_neg (by lia),if_pos (by lia),sh j (by lia)]
     exact SX _ (by lia) (by lia)
    ·rw[if_neg a1];by_cases a2:lo+p<lo+i/\lo+i<=lo+k
     ·rw[if_pos a2,if_neg (by lia),if_pos (by lia),sh i (by lia),sh j (by lia)]
      exact u' _ _ (by lia) (by lia)
     ·rw[if_neg a2];by_cases b1:lo+j=lo+p
      ·rw[if_pos b1];exact Sk _ (by lia)
      ·rw[if_neg b1];by_cases b2:lo+p<lo+j/\lo+j<=lo+k
       ·rw[if_pos b2,sh j (by lia)]
        exact u' _ _ (by lia) (by lia)
       ·rw[if_neg b2];exact u' _ _ Rt (by lia)
end
section
variable {A:FC}
theorem Up.more(tr:∀x y z,R x y=true->R y z=true->R x z=true){a:Array FY}{lo m:Nat}(S:Up R a lo m)(h1:1<=m)(h:R (gt a (lo+m-1)) (gt a (lo+m))=true):Up R a lo (m+1):=λi j Rt hj=>by
 rcases FB (G7 hj) with z |z
 ·exact S i j Rt z
 ·subst z;have e:lo+(j-1)=lo+j-1:=by lia
  rcases FB (show i<=j-1 by lia) with y |y
  ·have:=S i (j-1) y (by lia)
   rw[e]at this;exact tr _ _ _ this h
  ·subst y;rw[e];exact h
theorem Dn.more(tr:∀x y z,R x y=true->R y z=true->R x z=true){a:Array FY}{lo m:Nat}(S:Dn R a lo m)(h1:1<=m)(h:R (gt a (lo+m)) (gt a (lo+m-1))=true):Dn R a lo (m+1):=λi j Rt hj=>by
 rcases FB (G7 hj) with z |z
 ·exact S i j Rt z
 ·subst z;have e:lo+(j-1)=lo+j-1:=by lia
  rcases FB (show i<=j-1 by lia) with y |y
  ·have:=S i (j-1) y (by lia)
   rw[e]at this;exact tr _ _ _ h this
  ·subst y;rw[e];exact h
theorem rvs{i j:Nat}{Q:Unit->G_->Prop}{st:G_}(h:Q () (setArr st (PV (FZ st) i j ((j-i)/2)))):wpS (FF prog w) A E s (reverseSlice' i j) Q st:=by
 rw[reverseSlice'_eq];exact Ku h
variable (K:Asks prog w A E s κ P R)
include K
theorem cnt(O:Ord P R l){lo Q2:Nat}{st:G_}{Q:Option Nat->G_->Prop}(hn:lo+Q2<=l.length)(h1:1<=Q2)(S:Stt κ l pd st)
  (h:∀m QD,Stt κ l pd QD->Kept (FZ st) (FZ QD) lo->1<=m->m<=Q2->Up R (FZ QD) lo m->Q (some m) QD):wpS (FF prog w) A E s (countRun' lo Q2) Q st:=by
 rw[countRun'_eq];dsimp only;refine Fg (IE (Ig (I:=λx c QD=>QD=st/\c=(none,x)/\Up R (FZ st) lo x) (Q:=λc QD=>QD=st/\∃n,c=(none,n)/\1<=n/\n<=Q2/\Up R (FZ st) lo n/\(n<Q2->R (gt (FZ st) (lo+n)) (gt (FZ st) (lo+n-1))=true)) ?s1 ?f1 ⟨rfl,rfl,λi j h2 h3=>by lia⟩) ?p1)
 case s1=>
  rintro x c QD hx1 hx ⟨rfl,rfl,u⟩;dsimp only;refine Fg (ltK K O S (show lo+x<l.length by lia) (show lo+x-1<l.length by lia) ?_)
  dsimp only;by_cases hc:R (gt (FZ QD) (lo+x)) (gt (FZ QD) (lo+x-1))=true
  ·rw[if_pos hc];exact Fv ⟨rfl,x,rfl,hx1,by lia,u,λ_=>hc⟩
  ·rw[if_neg hc];exact Fv ⟨rfl,rfl,u.more O.tr hx1 (S.tot O (by lia) (by lia) (by lia) (by simpa using hc))⟩
 case f1=>
  rintro c QD ⟨rfl,rfl,u⟩;rw[show max 1 Q2=Q2 by lia]at u |-
  exact⟨rfl,Q2,rfl,h1,E2 _,u,λz=>by lia⟩
 case p1=>
  rintro c QD ⟨rfl,n,rfl,n1,n2,u,ht⟩;dsimp only;by_cases e:(n==Q2)=true
  ·rw[if_pos e];exact Fv (h n _ S (λ_ _=>rfl) n1 n2 u)
  rw[if_neg e];have e':n<Q2:=by have z:¬ n=Q2:=(by simpa using e);lia
  by_cases hg:n >1
  ·rw[if_pos hg];refine Fg (ltK K O S (show lo<l.length by lia) (show lo+n-1<l.length by lia) ?_)
   dsimp only;have z:=u 0 (n-1) (by lia) (by lia)
   rw[Ji,show lo+(n-1)=lo+n-1 by lia]at z
   rw[if_pos z];exact Fv (h n _ S (λ_ _=>rfl) n1 n2 u)
  rw[if_neg hg];obtain rfl:n=1:=by lia
  have D2:Dn R (FZ QD) lo 2:=Dn.more O.tr (λi j x y=>by lia) (E2 _) (ht e')
  refine Fg (ru ?_)
  try dsimp only
  refine Fg (IE (Ig (I:=λx c Rl=>Rl=QD/\c=(none,x,0)/\Dn R (FZ QD) lo x) (Q:=λc Rl=>Rl=QD/\∃n,c=(none,n,0)/\2<=n/\n<=Q2/\Dn R (FZ QD) lo n) ?s2 ?f2 ⟨rfl,rfl,D2⟩) ?p2)
  case s2=>
   rintro x c Rl hx1 hx ⟨rfl,rfl,u⟩;dsimp only;refine Fg (ltK K O S (show lo+x<l.length by lia) (show lo+x-1<l.length by lia) ?_)
   dsimp only;by_cases hc:R (gt (FZ Rl) (lo+x)) (gt (FZ Rl) (lo+x-1))=true
   ·rw[if_pos hc,if_neg (by lia)]
    exact Fv ⟨rfl,rfl,u.more O.tr (by lia) hc⟩
   ·rw[if_neg hc];refine Fg (ltK K O S (show lo+x-1<l.length by lia) (show lo+x<l.length by lia) ?_)
    dsimp only;rw[if_pos (S.tot O (by lia) (by lia) (by lia) (by simpa using hc))]
    exact Fv ⟨rfl,x,rfl,hx1,by lia,u⟩
  case f2=>
   rintro c Rl ⟨rfl,rfl,u⟩;rw[show max (1+1) Q2=Q2 by lia]at u |-
   exact⟨rfl,Q2,rfl,by lia,E2 _,u⟩
  case p2=>
   rintro c Rl ⟨rfl,n,rfl,n1,n2,d⟩;dsimp only;rw[if_neg (by lia)]
   refine Fg (rvs ?_);have sz:=S.size;have S2:Stt κ l pd (setArr Rl (PV (FZ Rl) lo (lo+n) ((lo+n-lo)/2))):=S.arr (mirror_perm _ _ _ _)
   have kp:Kept (FZ Rl) (PV (FZ Rl) lo (lo+n) ((lo+n-lo)/2)) lo:=λj hj=>by
    rw[rW (by lia),if_neg (by lia)]
   have up:Up R (PV (FZ Rl) lo (lo+n) ((lo+n-lo)/2)) lo n:=λi j Rt hj=>by
    rw[rW (by lia),rW (by lia),if_pos (by lia),if_pos (by lia),show lo+(lo+n)-1-(lo+i)=lo+(n-1-i) by lia,show lo+(lo+n)-1-(lo+j)=lo+(n-1-j) by lia]
    exact d _ _ (by lia) (by lia)
   generalize Q7:setArr Rl (PV (FZ Rl) lo (lo+n) ((lo+n-lo)/2))=RN at S2 |-;have ha:FZ RN=PV (FZ Rl) lo (lo+n) ((lo+n-lo)/2):=by rw[<-Q7]
   rw[<-ha]at kp up;refine Fg (IE (Ig (I:=λx c QD=>QD=RN/\c=(none,x)/\Up R (FZ RN) lo x) (Q:=λc QD=>QD=RN/\∃m,c=(none,m)/\1<=m/\m<=Q2/\Up R (FZ RN) lo m) ?s3 ?f3 ⟨rfl,rfl,up⟩) ?p3)
   case s3=>
    rintro x c QD hx1 hx ⟨rfl,rfl,u⟩;dsimp only;refine Fg (ltK K O S2 (show lo+x<l.length by lia) (show lo+x-1<l.length by lia) ?_)
    dsimp only;by_cases hc:R (gt (FZ QD) (lo+x)) (gt (FZ QD) (lo+x-1))=true
    ·rw[if_pos hc];exact Fv ⟨rfl,x,rfl,by lia,by lia,u⟩
    ·rw[if_neg hc];exact Fv ⟨rfl,rfl,u.more O.tr (by lia) (S2.tot O (by lia) (by lia) (by lia) (by simpa using hc))⟩
   case f3=>
    rintro c QD ⟨rfl,rfl,u⟩;rw[show max n Q2=Q2 by lia]at u |-
    exact⟨rfl,Q2,rfl,h1,E2 _,u⟩
   case p3=>
    rintro c QD ⟨rfl,m,rfl,m1,m2,u⟩;exact Fv (h m _ S2 kp m1 m2 u)
end
section
variable {A:FC}
def Ch(R:FY->FY->Bool)(a:Array FY):List (Nat×Nat×Nat)->Nat->Nat->Prop
 |[],x,y=>x=y
 |r::t,x,y=>r.1=x/\0<r.2.1/\Up R a x r.2.1/\Ch R a t (x+r.2.1) y
theorem Ch.len{a:Array FY}:∀{p:List (Nat×Nat×Nat)}{x y:Nat},Ch R a p x y->x+p.length<=y
 |[],x,y,h=>by have:x=y:=h;simp;lia
 |r::t,x,y,h=>by
  have:=Ch.len h.2.2.2;have:=h.2.1;simp;lia
theorem Ch.app{a:Array FY}:∀{p q:List (Nat×Nat×Nat)}{x y:Nat},Ch R a (p++q) x y↔∃z,Ch R a p x z/\Ch R a q z y
 |[],q,x,y=>⟨λh=>⟨x,rfl,h⟩,λ⟨z,h1,h2⟩=>by have:x=z:=h1;subst this;exact h2⟩
 |r::t,q,x,y=>by
  constructor
  ·rintro ⟨h1,h2,h3,h4⟩;obtain⟨z,z1,z2⟩:=Ch.app.mp h4;exact⟨z,⟨h1,h2,h3,z1⟩,z2⟩
  ·rintro ⟨z,⟨h1,h2,h3,h4⟩,h5⟩;exact⟨h1,h2,h3,Ch.app.mpr ⟨z,h4,h5⟩⟩
theorem Ch.congr{a b:Array FY}:∀{p:List (Nat×Nat×Nat)}{x y:Nat},(∀j,x<=j->j<y->gt b j=gt a j)->Ch R a p x y->Ch R b p x y
 |[],x,y,_,h=>h
 |r::t,x,y,e,h=>by
  have:=Ch.len h.2.2.2;refine⟨h.1,h.2.1,λi j Rt hj=>?_,Ch.congr (λj h1 h2=>e j (by lia) h2) h.2.2.2⟩
  rw[e _ (by lia) (by lia),e _ (by lia) (by lia)]
  exact h.2.2.1 i j Rt hj
theorem u9(a:Array FY)(j:Nat):gt a j=a.toList.getD j (FX,FX):=by simp[gt]
theorem DA{X Y:List FY}{j:Nat}{d:FY}(h:j<X.length):(X++Y).getD j d=X.getD j d:=by
 rw[Fj,Fj,Fp h]
theorem Al{X Y:List FY}{j:Nat}{d:FY}(h:X.length<=j):(X++Y).getD j d=Y.getD (j-X.length) d:=by
 rw[Fj,Fj,Fq h]
theorem BZ{α:Type}(X:List α)(r1 r2 v:α)(Y:List α):((X++r1::r2::Y).set X.length v).eraseIdx (X.length+1)=X++v::Y:=by
 rw[MU _ _ (E2 _),N8,List.eraseIdx_append_of_length_le (by lia),Nat.add_sub_cancel_left]
 rfl
theorem parts(L:List FY)(x y z:Nat):L=L.take x++(L.drop x).take y++(L.drop (x+y)).take z++L.drop (x+y+z):=by
 have h1:=FL x L;have h2:=FL y (L.drop x);have h3:=FL z (L.drop (x+y));rw[Pf]at h2 h3;rw[Fi,h3,Fi,h2,h1]
variable (K:Asks prog w A E s κ P R)
include K
theorem DI(O:Ord P R l){p:Array (Nat×Nat×Nat)}{lo i:Nat}{st:G_}{Q:Bool->G_->Prop}(S:Stt κ l p st)(C:Ch R (FZ st) p.toList 0 lo)(Sk:lo<=l.length)(hi:i+1<p.size)
  (h:∀p' QD,Stt κ l p' QD->Ch R (FZ QD) p'.toList 0 lo->p'.size+1=p.size->(∀j,lo<=j->gt (FZ QD) j=gt (FZ st) j)->Q true QD):wpS (FF prog w) A E s (mergeAt' i) Q st:=by
 have lp:p.toList.length=p.size:=by simp
 have hi0:i<p.size:=by lia
 have ep:p.toList=p.toList.take i++(p[i]::p[i+1]::p.toList.drop (i+2)):=by
  conv=>lhs;rw[←FL i p.toList,Gd (show i<p.toList.length by lia),Gd (show i+1<p.toList.length by lia)]
  rfl
 have h1:(Io st)[i]?=some (p[i].1,p[i].2.1,p[i].2.2):=by rw[S.pend,F3 hi0]
 have h2:(Io st)[i+1]?=some (p[i+1].1,p[i+1].2.1,p[i+1].2.2):=by rw[S.pend,F3 hi]
 rw[ep]at C;obtain⟨sa,C1,e1,n1,u1,e2,n2,u2,C2⟩:=Ch.app.mp C;have C2l:=C2.len;generalize hp1:p[i]=r1 at *;generalize hp2:p[i+1]=r2 at *;obtain⟨s1,na,pw⟩:=r1;obtain⟨sb,nb,pw2⟩:=r2;dsimp only at *;subst e1;subst e2;have sz:=S.size;have la:(FZ st).toList.length=l.length:=by rw[E5,sz]
 have ha:=parts (FZ st).toList s1 na nb;have lX:((FZ st).toList.take s1).length=s1:=by simp;lia
 have l1:(((FZ st).toList.drop s1).take na).length=na:=by simp;lia
 have l2:(((FZ st).toList.drop (s1+na)).take nb).length=nb:=by simp;lia
 have c1:∀j (hj:j<(((FZ st).toList.drop s1).take na).length),(((FZ st).toList.drop s1).take na)[j]=gt (FZ st) (s1+j):=λj hj=>by
  rw[gt_eq (by lia)];simp
 have c2:∀j (hj:j<(((FZ st).toList.drop (s1+na)).take nb).length),(((FZ st).toList.drop (s1+na)).take nb)[j]=gt (FZ st) (s1+na+j):=λj hj=>by
  rw[gt_eq (by lia)];simp
 generalize hX:(FZ st).toList.take s1=X at *;generalize hS1:((FZ st).toList.drop s1).take na=S1 at *;generalize hS2:((FZ st).toList.drop (s1+na)).take nb=S2 at *;generalize hY:(FZ st).toList.drop (s1+na+nb)=Y at *
 have mem:∀x∈S1++S2,x∈l:=λx hx=>S.perm.mem_iff.mp (by
  rw[ha];rcases Fn.mp hx with z |z <;>simp[z])
 have nd:(X++S1++S2++Y).Nodup:=by rw[<-ha];exact S.perm.nodup_iff.mpr O.nd
 have MO1:MO R S1 S2:=by
  refine⟨O.tr,Fm.mpr λi j hi hj Rt=>?_,Fm.mpr λi j hi hj Rt=>?_,λx hx y hy hr=>O.tot y (mem y (Fw _ hy)) x (mem x (FH _ hx)) (λe=>?_) hr⟩
  ·rw[c1 i hi,c1 j hj];exact u1 i j Rt (by lia)
  ·rw[c2 i hi,c2 j hj];exact u2 i j Rt (by lia)
  ·have nd2:=(G8.mp nd).1;exact (G8.mp nd2).2.2 x (Fw _ hx) y hy e.symm
 refine mat K S.kind S.failed h1 h2 ha lX l1 l2 rfl n1 n2 (λx hx=>O.hp x (mem x hx)) MO1 λS' QD k f pd' ar m=>?_
 have lS:S'.length=na+nb:=by rw[m.1.length_eq,Fx,l1,l2]
 have tl:(((Io st).setIfInBounds i (s1,na+nb,pw)).eraseIdxIfInBounds (i+1)).toList=p.toList.take i++((s1,na+nb,pw)::p.toList.drop (i+2)):=by
  rw[S.pend]
  have z:((p.setIfInBounds i (s1,na+nb,pw)).eraseIdxIfInBounds (i+1)).toList=(p.toList.set i (s1,na+nb,pw)).eraseIdx (i+1):=by
   rw[Array.eraseIdxIfInBounds,dif_pos (by simpa using hi),Array.toList_eraseIdx,Lp]
  have li:(p.toList.take i).length=i:=by simp;lia
  have y:=BZ (p.toList.take i) (s1,na,pw) (s1+na,nb,pw2) (s1,na+nb,pw) (p.toList.drop (i+2));rw[<-ep,li]at y;rw[z,y]
 rw[<-pd']at tl;refine h (Io QD) QD ⟨k,f,?_,rfl⟩ ?_ ?_ λj hj=>?_
 ·rw[ar];refine OE ?_ S.perm;rw[ha];refine Mt _ ?_;rw[Fi];exact HR _ m.1
 ·rw[tl];refine Ch.app.mpr ⟨s1,C1.congr λj h1 h2=>?_,rfl,(by dsimp only;lia),λx y hxy hy=>?_,?_⟩
  ·rw[u9,u9,ar,ha];simp only[Fi];rw[DA (by lia),DA (by lia)]
  ·have q:∀j (hj:j<S'.length),gt (FZ QD) (s1+j)=S'[j]:=λj hj=>by
    rw[gt_eq (by rw[ar];simp;lia)]
    simp only[ar];rw[IS (by simp;lia),JJ (by lia)]
    congr 1;lia
   dsimp only at hy;rw[q x (by lia),q y (by lia)]
   exact Fm.mp m.2 _ _ _ _ hxy
  ·dsimp only;rw[<-P5];refine C2.congr λj h1 h2=>?_
   rw[u9,u9,ar,ha];rw[Al (by simp;lia),Al (by simp;lia)]
   congr 1;simp;lia
 ·have:(Io QD).toList.length=_:=congrArg Os tl;simp at this;lia
 ·rw[u9,u9,ar,ha];rw[Al (by simp;lia),Al (by simp;lia)]
  congr 1;simp;lia
end
section
variable {A:FC}
theorem ilt{c:Prop}[Decidable c]{a b n:Nat}(h1:a+1<n)(h2:b+1<n):(if c then a else b)+1<n:=by split <;>assumption
theorem Ch.modL{a:Array FY}(pw:Nat):∀{p:List (Nat×Nat×Nat)} (k:Nat) {x y:Nat},Ch R a p x y->Ch R a (p.modify k λr=>(r.1,r.2.1,pw)) x y
 |[],k,x,y,h=>by rw[List.modify_nil];exact h
 |r::t,0,x,y,h=>by rw[List.modify_zero_cons];exact h
 |r::t,k+1,x,y,h=>by rw[List.modify_succ_cons];exact⟨h.1,h.2.1,h.2.2.1,Ch.modL pw k h.2.2.2⟩
theorem Ch.mod{a:Array FY}{p:Array (Nat×Nat×Nat)}{x y:Nat}(h:Ch R a p.toList x y)(pw k:Nat):Ch R a (p.modify k λr=>(r.1,r.2.1,pw)).toList x y:=by
 rw[Array.toList_modify];exact h.modL pw k
variable (K:Asks prog w A E s κ P R)
include K
theorem sruns(O:Ord P R l){st:G_}{Q:Unit->G_->Prop}(S:Stt κ l #[] st)(h:∀pd QD,Stt κ l pd QD->Up R (FZ QD) 0 l.length->Q () QD):wpS (FF prog w) A E s sortRuns' Q st:=by
 rw[sortRuns'_eq];refine Fg (LF ?_)
 try dsimp -zeta only
 simp -zeta only[S.size];refine Fg (IE (rJ (I:=λx c QD=>∃lo pd,c=(none,lo)/\Stt κ l pd QD/\Ch R (FZ QD) pd.toList 0 lo/\lo<=l.length/\x<=lo) (Q:=λc QD=>∃pd,c=(none,l.length)/\Stt κ l pd QD/\Ch R (FZ QD) pd.toList 0 l.length) ?step ?fin ⟨0,#[],rfl,S,rfl,Gz _,Gz _⟩) ?post)
 case fin=>
  rintro c QD ⟨lo,pd,rfl,S',C,Sk,px⟩;obtain rfl:lo=l.length:=by lia
  exact⟨pd,rfl,S',C⟩
 case step=>
  rintro x c QD hx ⟨lo,pd,rfl,S',C,Sk,px⟩ post qd qy;dsimp -zeta only;refine wif (λ(hge:lo ≥ l.length)=>Fv (qd _ _ ⟨pd,by rw[show lo=l.length by lia],S',by rw[show lo=l.length by lia]at C;exact C⟩)) λhge=>?_
  have hge:¬ lo ≥ l.length:=hge;refine Fg (cnt K O (show lo+(l.length-lo)<=l.length by lia) (by lia) S' λm Rl S2 kp m1 m2 u=>?_)
  dsimp -zeta only
  extract_lets+onlyGivenNames q1 j
  have hj:∀nn RN,0<nn->nn<=l.length-lo->Stt κ l pd RN->Ch R (FZ RN) pd.toList 0 lo->Up R (FZ RN) lo nn->wpS (FF prog w) A E s (j () nn) post RN:=λnn RN f1 f2 S3 C3 u3=>by
   refine Fg (LF ?_);have hp:Io RN=pd:=S3.pend;rw[hp];dsimp only;cases hb:pd.back? with
   |none=>
    try dsimp only
    refine Fg (Ku (Fv (qy _ _ ⟨lo+nn,pd.push (lo,nn,0),rfl,?_,?_,by lia,by lia⟩)))
    ·exact⟨S3.kind,S3.failed,S3.perm,by show (Io RN).push _=_;rw[hp]⟩
    ·rw[Ik];exact Ch.app.mpr ⟨lo,C3,rfl,f1,u3,rfl⟩
   |some v=>
    obtain⟨s1,n1,pw0⟩:=v
    try dsimp only
    generalize power' _ _ _ _=pw;refine Fg (IE (Ig (I:=λ_ c QD=>∃pd,c=(none,())/\Stt κ l pd QD/\Ch R (FZ QD) pd.toList 0 lo/\Up R (FZ QD) lo (nn)) (Q:=λc QD=>∃pd,c=(none,())/\Stt κ l pd QD/\Ch R (FZ QD) pd.toList 0 lo/\Up R (FZ QD) lo (nn)) ?_ (λ_ _ z=>z) ⟨pd,rfl,S3,C3,u3⟩) ?_)
    ·rintro y c Ti _ hy ⟨pd,rfl,S4,C4,u4⟩
     try dsimp only
     refine Fg (LF ?_);rw[S4.pend];by_cases hs:pd.size >1
     ·rw[if_pos hs,F3 (show pd.size-2<pd.size by lia)]
      generalize pd[pd.size-2]=q;obtain⟨q1,q2,q3⟩:=q
      try dsimp only
      by_cases ho:q3<=pw
      ·rw[if_pos ho];exact Fv ⟨pd,rfl,S4,C4,u4⟩
      ·rw[if_neg ho];refine Fg (DI K O S4 C4 Sk (show pd.size-2+1<pd.size by lia) λp' TV S5 C5 _ k5=>?_)
       simp only[Hf,Fk,if_false];exact Fv ⟨p',rfl,S5,C5,λi j Rt hj=>by rw[k5 _ (by lia),k5 _ (by lia)];exact u4 i j Rt hj⟩
     ·rw[if_neg hs];exact Fv ⟨pd,rfl,S4,C4,u4⟩
    ·rintro c Ti ⟨pd,rfl,S4,C4,u4⟩
     try dsimp only
     have hp4:=S4.pend;refine Fg (Ku ?_);refine Fg (Ku (Fv (qy _ _ ⟨lo+nn,(pd.modify (pd.size-1) λr=>(r.1,r.2.1,pw)).push (lo,nn,0),rfl,?_,?_,by lia,by lia⟩)))
     ·refine⟨S4.kind,S4.failed,S4.perm,?_⟩;show ((Io Ti).modify ((Io Ti).size-1) λr=>(r.1,r.2.1,pw)).push _=_
      rw[hp4]
     ·rw[Ik];exact Ch.app.mpr ⟨lo,C4.mod pw _,rfl,f1,u4,rfl⟩
  have C2:Ch R (FZ Rl) pd.toList 0 lo:=C.congr λj _ hj=>kp j hj
  refine wif (λ(hm:m<minRun' l.length l.length 0)=>?_) λ_=>hj m Rl (by lia) (by lia) S2 C2 u
  refine Fg (ru (Fg (Ey K O (show lo+min (l.length-lo) (minRun' l.length l.length 0)<=l.length by lia) (show m<=min (l.length-lo) (minRun' l.length l.length 0) by lia) S2 u λRN S3 k3 u3=>?_)))
  exact wif (λz=>by simp at z) λ_=>hj _ _ (by lia) (by lia) S3 (C2.congr λj _ hj=>k3 j hj) u3
 case post=>
  rintro c QD ⟨pd,rfl,S',C⟩
  try dsimp only
  refine Fg (IE (Ig (I:=λx c QD=>∃pd,c=(none,())/\Stt κ l pd QD/\Ch R (FZ QD) pd.toList 0 l.length/\(pd.size<=1\/pd.size<=l.length-x)) (Q:=λc QD=>∃pd,c=(none,())/\Stt κ l pd QD/\Ch R (FZ QD) pd.toList 0 l.length/\pd.size<=1) ?s2 ?f2 ⟨pd,rfl,S',C,.inr (by have:=C.len;rw[E5]at this;lia)⟩) ?p2)
  case s2=>
   rintro y c Ti _ hy ⟨pd,rfl,S4,C4,hs⟩
   try dsimp only
   refine Fg (LF ?_);rw[S4.pend];by_cases h1:pd.size<=1
   ·rw[if_pos h1];exact Fv ⟨pd,rfl,S4,C4,h1⟩
   ·rw[if_neg h1];refine Fg (DI K O S4 C4 (E2 _) (ilt (by lia) (by lia)) λp' TV S5 C5 e5 k5=>?_)
    simp only[Hf,Fk,if_false];exact Fv ⟨p',rfl,S5,C5,by lia⟩
  case f2=>
   rintro c Ti ⟨pd,rfl,S4,C4,hs⟩;exact⟨pd,rfl,S4,C4,by lia⟩
  case p2=>
   rintro c Ti ⟨pd,rfl,S4,C4,h1⟩;refine Fv (h pd Ti S4 ?_);rw[<-E5]at h1;generalize pd.toList=L at *;cases L with
   |nil=>have:0=l.length:=C4
         intro i j Rt hj;lia
   |cons r t=>
    cases t with
    |nil=>
     obtain⟨_,_,u,e⟩:=C4;have e':0+r.2.1=l.length:=e;rw[LA]at e';rw[<-e'];exact u
    |cons r2 t=>simp at h1
end
end TS
namespace ST
open PySem PySem.W PyProof.Rows
theorem D5{α β:Type}{f:α->β}:∀{l1 l2:List β},l1.Perm l2->∀l:List α,l2=l.map f->∃l':List α,l'.Perm l/\l'.map f=l1:=by
 intro l1 l2 h
 induction h with
 |nil=>intro l e;exact⟨l,.refl _,e.symm⟩
 |cons x _ ih=>
  intro l e;cases l with
  |nil=>cases e
  |cons a t=>
   obtain⟨e1,e2⟩:=Kd e;obtain⟨l',p,q⟩:=ih t e2;exact⟨a::l',p.cons a,by rw[Ft,q,e1]⟩
 |swap x y r=>
  intro l e
  match l,e with
  |a::b::t,e=>
   obtain⟨e1,e2⟩:=Kd e;obtain⟨e3,e4⟩:=Kd e2;exact⟨b::a::t,.swap a b t,by rw[Ft,Ft,e1,e3,e4]⟩
 |trans _ _ ih1 ih2=>
  intro l e;obtain⟨l',p,q⟩:=ih2 l e;obtain⟨l'',p2,q2⟩:=ih1 l' q.symm;exact⟨l'',p2.trans p,q2⟩
abbrev ky(p:(Int×Int)×E6):FY:=(FG p.2,FG p.2)
open Classical in
noncomputable def RP (pb:PB) (x y:FY):Bool:=decide (∃p∈pb,∃q∈pb,x=ky p/\y=ky q/\ltP p.1 q.1=true)
section
variable {prog:E8}{w:FE}{A:FC}{E:EW→EU→Prop}{s:EU}
theorem TK.det{h:GV}{p q:(Int×Int)×E6}(hp:TK prog w h [p.1.1,p.1.2] p.2)(hq:TK prog w h [q.1.1,q.1.2] q.2)(e:p.2=q.2):p=q:=by
 obtain⟨o,QC,n,t,u,ho,_,hd,hi⟩:=hp.two;obtain⟨o',its',n',t',u',RH,_,RK,QO⟩:=hq.two;rw[e,RH]at ho;cases ho;rw[RK]at hd;cases hd;rw[QO]at hi;have h1:=(Kd hi).1;have h2:=(Kd (Kd hi).2).1;injection h1 with h1 _
 injection h2 with h2 _
 exact Gf (Gf h1.symm h2.symm) e
end
end ST
namespace ST
open PySem PySem.W PyProof.Rows PySem.Calls
section
variable {prog:E8}{w:FE}{A:FC}{E:EW→EU→Prop}{s:EU}
end
end ST
namespace L2
open PySem PySem.Spec PyProof.Rows
theorem D4{p:Nat->E6->Prop}{n:Nat}(h:∀i,i<n->∃b,p i b):∃f:Nat->E6,∀i,i<n->p i (f i):=by
 refine⟨λi=>if k:i<n then Od (h i k) else 0,λi hi=>?_⟩
 dsimp only;rw[dif_pos hi];exact MM (h i hi)
section
variable {X:Cx}{H0:Hp}{O0:List E6}{ps:PSt}{e:Expr}{pts:List P2}{QB QP p p':Pos}
end
section
variable {X:Cx}{tg:Expr}
def C9(ta:TA):TI:=λσ H R=>ta σ H λvs H1=>∃j:Int,vs=[.int j]/\R (Itr 0 (j-0).toNat) H1
theorem si{a:Expr}{ta:TA}{p QB:Pos}(hg:Gl X "range")(hm:X.mg "range"=none)(ha:PA X [a] ta)(hs:E4 [a] X.env=[(false,IJ a X.env)]:=by rfl):
  PI X tg (.Call (.Name "range" p) [a] [] QB) (C9 ta):=by
 intro pins s σ H R I h;refine Call_ (cV I hg hm Po (PyProof.Rows.callWith_type1 (thn (ha QB pins s σ H _ I h) λus s1 ⟨vs,H1,I1,r1,q1⟩=>?_) (by rw[hs];rfl) rfl))
 obtain⟨j,e,q⟩:=q1;subst e;cases r1 with
 |cons r rr=>
  cases rr;obtain⟨t,rfl⟩:=r;exact call_range_1 (lR I1 q)
variable {H0:Hp}{O0:List E6}{ps:PSt}{a:Expr}{p QB:Pos}
theorem vm{j:Int}(hg:Gl X "range")(hm:X.mg "range"=none)(ha:EvA X H0 O0 ps [a] [.int j])(hs:E4 [a] X.env=[(false,IJ a X.env)]:=by rfl):
  EvI X H0 O0 ps tg (.Call (.Name "range" p) [a] [] QB) (ft 0 (j-0).toNat):=
 PI.mono (si hg hm ha hs) λσ H Q ⟨O,R,q⟩=>⟨O,R,λvs H' s r=>by
  obtain⟨v,rfl,h⟩:=cx r;cases h;exact⟨j,rfl,q _ H' s kY⟩⟩
end
end L2
namespace ST
open PySem PySem.W PySem.Calls PyProof.Rows
section
variable {prog:E8}{w:FE}{A:FC}{E:EW→EU→Prop}{s:EU}
end
end ST
namespace L2
open PySem PySem.Spec PyProof.Rows
section
variable {X:Cx}{H0:Hp}{O0:List E6}{ps:PSt}{e:Expr}{pts:List P2}{QB p:Pos}
variable {E:XK}{Q4:PSt}{D:PD}{a b c:Expr}{es:List Expr}{u:U}{xs ys us:List U}
 {n:Nat}{C:E6}{fd:Gn}{pn:List Str}{QQ:List U->Out->Prop}
end
end L2
namespace L2
open PySem PySem.Spec PySem.W PyProof.Rows
variable {H0:Hp}{O0:List E6}{E:XK}{QB:Pos}{xs:List U}
section
variable {X:Cx}{ps:PSt}{D:PD}{s:HL}{u:U}
variable {P:E8}{w:FE}{K:ER}{mg:Str→Option EW}{base:GV}{N pn:List Str}{QE nm:Str}{f:E6}
end
variable {e:Expr}{us:List U}
section
variable {X:Cx}{ps:PSt}{x nm:Str}{pc p':Pos}{u:U}
theorem vZ:de X (.builtin "isinstance") (λxs H Q=>∃a t C D1 D2 k,xs=[.ref a,.ref t]∧H a=some (.ext (OfCls a C))∧XcOk X.K C∧H t=some (.tup [.ref D1,.ref D2])∧kitAny X.K (.ref C) [.ref D1,.ref D2]=some k∧Q (.bl k) H):=by
 intro pins s σ H xs us Q I r h;obtain⟨a,t,C,D1,D2,k,rfl,ha,hk,ht,e,q⟩:=h;obtain⟨u,w',rfl,r1,r2⟩:=jm r;cases r1;cases r2;obtain⟨QC,rv,⟨o,g1,g2,n,g3⟩,_⟩:=I.tuple (SqT.of ht);obtain⟨i1,i2,rfl,q1,q2⟩:=jm rv;cases q1;cases q2;obtain⟨cls,dd,data,sl⟩:=o;cases g2;cases g3;exact PySem.W.kia_tup hk.kit I.kIn (I.hok _ _ ha).1 g1 e (λz=>nomatch z) λtk=>⟨.bl k,H,I.tok _,rfl,q⟩
theorem Bf{K:ER}{C D1 D2:E6}(h1:kitOne K (.ref C) (.ref D1)=some false)(h2:kitOne K (.ref C) (.ref D2)=some false):kitAny K (.ref C) [.ref D1,.ref D2]=some false:=by
 rw[kitAny.eq_def];dsimp only;rw[h1];dsimp only;rw[kitAny.eq_def];dsimp only;rw[h2];dsimp only;rw[kitAny.eq_def]
theorem yD{a:Expr}{k:Bool}{C D1 D2:E6}{n1 n2:Str}{p p1 p2 pt QB:Pos}{x1}(h:kitAny X.K (.ref C) [.ref D1,.ref D2]=some k)(hg:Gl X "isinstance")(hm:X.mg "isinstance"=none)(hv:GQ "isinstance"=some (.builtin "isinstance"))(ha:Ev X H0 O0 ps a (.ty (.xc C)))
  (hg1:Gl X n1) (hm1:X.mg n1=some (.ref D1)) (hg2:Gl X n2) (hm2:X.mg n2=some (.ref D2)) (hd1:(n1==("__debug__":Str))=false:=by decide) (hd2:(n2==("__debug__":Str))=false:=by decide)
  (he:E4 [a,.Tuple [.Name n1 p1,.Name n2 p2] x1 pt] X.env=(false,IJ a X.env)::E4 [.Tuple [.Name n1 p1,.Name n2 p2] x1 pt] X.env:=by rfl) (QZ:(HV QB (E4 [.Tuple [.Name n1 p1,.Name n2 p2] x1 pt] X.env)).any (·.1)=false:=by rfl):
  Ev X H0 O0 ps (.Call (.Name "isinstance" p) [a,.Tuple [.Name n1 p1,.Name n2 p2] x1 pt] [] QB) (.bl k):=
 PE.mono (iP vZ hg hm hv (bV ha (bV (ye (bV (jA (v:=.ref D1) hg1 hm1 rfl hd1) (bV (jA (v:=.ref D2) hg2 hm2 rfl hd2) dU aj) aj)) dU cF) he) (by decide) (by decide) he QZ) λσ H Q ⟨O,R,q⟩=>⟨O,R,λv H1 s1 r1=>by
  cases r1 with
  | @xc a _ h1 h2=>
   refine⟨by show 2<=sizeLine;decide,λp hp=>?_⟩
   have s2:=aK hp (.tup [.ref D1,.ref D2]);exact⟨a,p,C,D1,D2,k,rfl,s2 _ _ (ax _ _ h1),h2,aV,h,q _ _ (s1.trans s2) (.bl k)⟩⟩
end
variable {es:List Expr}
section
variable {X:Cx}
def TB(X:Cx)(QM:List HL)(t:(St->Hp->Prop)->(St->XK)->St->Hp->Prop):Prop:=
 ∀(pins:List (E6×Obj)) (s:EU) (σ:St) (H:Hp) (N:St->Hp->Prop) (EX:St->XK) (Q:Flow->EU->Prop) (E':EW->EU->Prop),Inv X pins σ H s->t N EX σ H->(∀QI H' s',Inv X pins QI H' s'->N QI H'->Q .next s')->
  (∀R5 s1 H1 ev s',Inv X pins R5 H1 s1->CXF X.prog X.w X.stack H1 s1 (EX R5) ev s'->E' ev s')->Fy (FF X.prog X.w) X.A (execs QM X.env) Q E' s
theorem z_{k:Nat}{fA:E6}{fd:Gn}{ps:List Str}{sp:Sp}{f:Str}{e:Expr}{es:List Expr}{ta:TA}{t2}{rest:List HL}{p QG S8:Pos}
  (F:ba X.prog X.w X.K X.mg X.base (CXF X.prog X.w) k fA fd ps sp) (hr:cU k X.A) (hg:Gl X f) (hm:X.mg f=some (.ref fA)) (hk:keepIn X.K (.ref fA)=true) (hb:cw X.K fd ps []) (ha:PA X.nox (e::es) ta) (h2:TB X rest t2)
  (Ru:(f==("__debug__":Str))=false:=by decide) (he:E4 (e::es) X.env=(false,IJ e X.env)::E4 es X.env:=by rfl) (QZ:(HV QG (E4 es X.env)).any (·.1)=false:=by rfl)
  (hsw:JE (.Call (.Name f p) (e::es) [] QG) none S8.line X.env=pure false:=by rfl):
  TB X (.Expr (.Call (.Name f p) (e::es) [] QG) S8::rest) (λN EX σ H=>ta σ H λvs H1=>sp vs H1 (λ_ H2=>t2 N EX σ H2) (EX σ)):=by
 intro pins s σ H N EX Q E' I h q x;refine Mf (OO ?_ I.quiet hsw);refine GH (io I hg hm ?_ Ru);refine Nu (h₀:=X.base) I.ok.mod.kin hk (Jr (ha QG pins s σ H _ (I.wish _) h) (λus s1 ⟨vs,H1,I1,r,q1⟩=>⟨I1.kIn,?_⟩) λ_ _ z=>z.elim) he QZ
 have J1:Inv X pins σ H1 s1:=I1.unwish;have QJ:us.length=ps.length:=by rw[<-r.length];exact F.len _ _ _ _ q1
 have hbd:=hb s1 us J1.kIn (by rw[GL];exact QJ)
 rw[GL]at hbd;refine M4 (JU (F.run X.A X.stack s1 H1 ⟨us,[]⟩ us vs _ _ hr J1.env0 hbd r q1) λres s' hq=>?_)
 cases res with
 |ok fl=>
  cases fl with
  |ret u=>
   obtain⟨v,H2,I2,_,q2⟩:=J1.after hq;exact h2 pins s' σ H2 N EX Q E' I2 q2 q x
  |next=>exact False.elim hq
  |brk=>exact False.elim hq
  |cont=>exact False.elim hq
 |error ev=>exact x σ s1 H1 ev s' J1 hq
theorem zP{B:E6}{x n:Str}{i:Nat}{tb}{th:TS}{QM:List HL}{Sw:HL}{RJ:List HL}{np SU QB:Pos}(hbd:TB X QM tb)(hstk:X.stack=X.env::X.outer)(hfr:X.env.frame=some X.env.locals)
  (hgx:Gl X x) (hmx:X.mg x=some (.ref B)) (hT:typeIn X.K (.ref B)=some (.type "type")) (hB:mroIn X.K B (.type "BaseException")=some true)
  (hN:X.N.Nodup) (hi:X.N[i]?=some n) (hl:X.env.kindOf n=some .local) (hth:∀ea,PSs (fU X ea) (Sw::RJ) th) (hdx:(x==("__debug__":Str))=false:=by decide):
  PS X (.Try QM [.ExceptHandler (some (.Name x np)) (some n) (Sw::RJ) SU] [] [] QB)
   (λD σ H=>tb D.nx (λR5 cls _ H2=>∃C,cls=.ref C/\mroIn X.K C (.ref B)=some true/\∀ea,H2 ea=none->th (D.drop i) (R5.set i (some (.ref ea))) (upd H2 ea (.ext (OfCls ea C)))) σ H):=by
 intro pins s σ H D I h;refine wpAny_Try_except (hbd pins s σ H _ _ _ _ I h (λQI H' s' I' n'=>Jg ⟨QI,H',I',n'⟩) λR5 s1 H1 ev s' J1 hq=>?_)
 obtain⟨ea,cls,a0,B0,H',rfl,os,bare,un,hok,hea,k1,k2,k3,fl,C,rfl,hmC,hT'⟩:=hq;have hfrs:=J1.ok.frames;have fl0:=fl;rw[hstk]at hfrs fl;refine wpAny_looks_onW hfrs hfr fl λh4 held4 up4=>?_
 refine wpAny_landsW held4 λh5 fl5 up5=>?_
 have ffr:∀b∈frs X.stack,∀o,s1.heap.get? b=some o->∀vs,o.data≠.fields vs:=oo J1.stack
 have inv:∀h6,B0.StaysIn h6->s'.heap.UpToSlots h6->Inv X pins R5 H' {s' with heap:=h6 }:=λh6 st up=>
  J1.call' (s':={s' with heap:=h6 }) (ch:=[]) os (xf un k1 k3 st up ffr J1.stkFree) (jz hok k2 fl.1 st) bare (λb z=>absurd z (by simp))
 have n0:s1.heap.get? ea=none:=by
  cases z:s1.heap.get? ea with
  |none=>rfl
  |some o=>
   exfalso
   by_cases R3:ea∈frs X.stack
   ·obtain⟨sl,e1⟩:=un.slot ea o z (J1.stkFree ea R3) R3 (by simp)
    obtain⟨_,_,_,oe,vs',T',oT,ts,g1,g2,g3,_⟩:=fl0;rw[e1]at g1;cases g1;exact ffr ea R3 o z _ g3
   ·obtain⟨o',e'⟩:=k3 ea o z R3;have:=fl0.2.1;rw[e']at this;cases this
 have inv2:∀h6,B0.StaysIn h6->s'.heap.UpToSlots h6->OfCls ea C h6->Inv X pins R5 (upd H' ea (.ext (OfCls ea C))) {s' with heap:=h6 }:=λh6 st up oc=>
  J1.call' (s':={s' with heap:=h6 }) (ch:=[]) os (ym (xf un k1 k3 st up ffr J1.stkFree) n0 hea) (vI (jz hok k2 fl.1 st) hea oc) bare (λb z=>absurd z (by simp))
 have I5:=inv h5 fl5.1 (up4.trans up5);refine wpAny_handleBy_cons (codeAny_handlers_test (io (X:=fU X ea) (I5.hand ea) hgx hmx ?_ hdx)) (by intro z;cases z)
 refine rR I5.kIn fl5.there hT (lg hB) hB hmC ?_;refine codeAny_handlers_suite_as (lands_againW fl5 λh6 fl6 up6=>?_)
 have I6:=inv2 h6 fl6.1 ((up4.trans up5).trans up6) fl6.there;refine lO (X:=fU X ea) (v:=.ref ea) (I6.hand ea) hN hi (.inl hl) rfl (λs7 I7 _=>?_) (.inr hl)
 refine Jr (hth ea pins s7 _ _ (D.drop i) I7 (hT' ea hea)) (λf s2 z=>?_) λ_ _ z=>z.elim
 have z1:SP X pins (D.drop i) f s2:=z.unhand I.ok.hd;cases f with
 |next=>obtain⟨QI,H8,I8,q8⟩:=z1;exact jB I8 hN hi hl λs9 I9=>⟨_,_,I9,q8⟩
 |brk=>obtain⟨QI,H8,I8,q8⟩:=z1;exact jB I8 hN hi hl λs9 I9=>⟨_,_,I9,q8⟩
 |cont=>obtain⟨QI,H8,I8,q8⟩:=z1;exact jB I8 hN hi hl λs9 I9=>⟨_,_,I9,q8⟩
 |ret u=>obtain⟨v,QI,H8,I8,r8,q8⟩:=z1;exact jB I8 hN hi hl λs9 I9=>⟨v,_,_,I9,r8,q8⟩
variable {ps:PSt}{D:PD}{c:Expr}{n:Nat}{fd:Gn}{pn:List Str}{QQ:List U→Out→Prop}{AA rest:List HL}{nx:PSt→Prop}{ex:PSt→E6→Prop}
def Tb(X:Cx)(H0:Hp)(O0:List E6)(QM:List HL)(nx:PSt->Prop)(ex:PSt->E6->Prop)(ps:PSt):Prop:=
 TB X QM λN EX σ H=>(∀p QI H' O,Rs X.K H0 O0 p QI H' O->nx p->N QI H')/\(∀p QI H' O C,Rs X.K H0 O0 p QI H' O->ex p C->EX QI (.ref C) none H')/\∃O,Rs X.K H0 O0 ps σ H O
theorem TB.mono{QM:List HL}{t t'}(h:TB X QM t)(m:∀N EX σ H,t' N EX σ H->t N EX σ H):TB X QM t':=λpins s σ H N EX Q E' I q=>h pins s σ H N EX Q E' I (m N EX σ H q)
theorem Ab{fA C:E6}{f:Str}{p QG S8:Pos}(F:ba X.prog X.w X.K X.mg X.base (CXF X.prog X.w) n fA fd pn (spU X.K QQ))(hr:cU n X.A)(hg:Gl X f)(hm:X.mg f=some (.ref fA))(hk:G4 X.K (.ref fA)=true)(hb:cw X.K fd pn [])(ha:EvA X.nox H0 O0 ps (e::es) us)(RI:QQ us (.exc C))(h:ex ps C)
  (Ru:(f==("__debug__":Str))=false:=by decide) (he:E4 (e::es) X.env=(false,IJ e X.env)::E4 es X.env:=by rfl) (QZ:(HV QG (E4 es X.env)).any (·.1)=false:=by rfl)
  (hsw:JE (.Call (.Name f p) (e::es) [] QG) none S8.line X.env=pure false:=by rfl):
  Tb X H0 O0 (.Expr (.Call (.Name f p) (e::es) [] QG) S8::rest) nx ex ps:=
 TB.mono (z_ (t2:=λ_ _ _ _=>False) F hr hg hm hk hb ha (λ_ _ _ _ _ _ _ _ _ h=>h.elim) Ru he QZ hsw) λN EX σ H ⟨a,b,O,R⟩=>⟨O,R,λvs H1 s1 r1=>⟨us,O,.exc C,(R.go s1).dom,r1,RI,λH2 s2=>b _ _ _ O C (R.go (s1.trans s2)) h⟩⟩
theorem n9{B:E6}{x m:Str}{i:Nat}{QM:List HL}{Sw:HL}{RJ:List HL}{np SU QB:Pos}(hstk:X.stack=X.env::X.outer)(hfr:X.env.frame=some X.env.locals)
  (hgx:Gl X x) (hmx:X.mg x=some (.ref B)) (hT:typeIn X.K (.ref B)=some (.type "type")) (hB:mroIn X.K B (.type "BaseException")=some true)
  (hN:X.N.Nodup) (hi:X.N[i]?=some m) (hl:X.env.kindOf m=some .local)
  (hb:Tb X H0 O0 QM D.nx (λp C=>mroIn X.K C (.ref B)=some true∧XcOk X.K C∧∀ea,Ws (fU X ea) H0 O0 E (Sw::RJ) (D.drop i) (p.set i (some (.val (.ty (.xc C)))))) ps) (hdx:(x==("__debug__":Str))=false:=by decide):
  W1 X H0 O0 E (.Try QM [.ExceptHandler (some (.Name x np)) (some m) (Sw::RJ) SU] [] [] QB) D ps:=
 PS.mono (zP (th:=λD' σ H=>∃p,(∀ea,Ws (fU X ea) H0 O0 E (Sw::RJ) (D.drop i) p)/\Lf X.K H0 O0 E (D.drop i) D'/\∃O,Rs X.K H0 O0 p σ H O) hb hstk hfr hgx hmx hT hB hN hi hl (λea pins s σ H D' I ⟨p,w,z⟩=>w ea pins s σ H D' I z) hdx) λD' σ H ⟨L,O,R⟩=>
  ⟨λp QI H' O R k=>L.nx p QI H' O R k,λp QI H' O C R ⟨k1,k2,k3⟩=>⟨C,rfl,k1,λea hn=>⟨_,k3,L.drop i,O,(R.go (aK hn _)).set (.xc (R.hidnew hn) k2)⟩⟩,O,R⟩
end
abbrev T'(l:List Nat):Str:=⟨l.toArray⟩
variable {tg:Expr}
section
variable {X:Cx}
end
abbrev sg(c:Nat):U:=.str ⟨#[c]⟩
section
variable {X:Cx}{ps:PSt}{a b:Expr}{p p2:Pos}{x y:Str}{i:Int}{lo hi:Option Expr}{l h:Option Int}
variable {QX QG:Pos}
end
inductive Cst:Expr->U->Prop
 |str (x:Str) (j) (p:Pos):Cst (.Constant (.str x) j p) (.str x)
 |int (i:Int) (j) (p:Pos):Cst (.Constant (.int i) j p) (.int i)
 |bl (b:Bool) (j) (p:Pos):Cst (.Constant (.bool b) j p) (.bl b)
 |non (j) (p:Pos):Cst (.Constant .none j p) .non
inductive BI:List Expr->List U->Prop
 |nil:BI [] []
 |cons {e:Expr}{u:U}{es:List Expr}{us:List U}:Cst e u->BI es us->BI (e::es) (u::us)
structure EvD(X:Cx)(H0:Hp)(O0:List E6)(ps:PSt)(e:Expr)(u:U):Prop where
 ev:Ev X H0 O0 ps e u
theorem dsp{X:Cx}{H0:Hp}{O0:List E6}{ps:PSt}{es:List Expr}{us:List U}{QB:Pos}(h:EvS X H0 O0 ps es us)(hz:us.length<=sizeLine):EvD X H0 O0 ps (.List es QB) (.lst us):=⟨EvN.ev (bg h hz)⟩
section
variable {X:Cx}{ps:PSt}{a b:Expr}{x y:Str}
variable {QX QG:Pos}
variable {l:List Nat}{c:Nat}{u:U}{C:E6}
theorem CF:PA X es (λ_ _ _=>False):=λ_ _ _ _ _ _ _ h=>h.elim
end
section
variable {M:N_}{A:FC}{E:EW→EU→Prop}{s:EU}
end
section
variable {P:E8}{w:FE}{K:Frag}{mg:Str→Option EW}{base:GV}{N:List Str}{QE:Str}{QA:Lk}{f:E6}{cd:EW}{A:FC}{outer:List Env}{s:EU}{H:Hp}
variable {X:Cx}{pins:List (E6×Obj)}{σ:St}
end
section
variable {X:Cx}{ps:PSt}{iter Sy:Expr}{p:Pos}{ys:List U}{C0:E6}
theorem Dr{CX:CXT}{n:Nat}{f:E6}{fd:Gn}{pn:List Str}{QQ:List U->Out->Prop}{nm:Str}(F:ba X.prog X.w X.K X.mg X.base CX n f fd pn (spU X.K QQ))(hr:cU n X.A)(hg:Gl X nm)(hm:X.mg nm=some (.ref f))(hk:G4 X.K (.ref f)=true)(hb:cw X.K fd pn [])(hx:fi CX X E0)
  (ha:Xv X H0 O0 E ps e C0) (he:E4 (e::es) X.env=(false,IJ e X.env)::E4 es X.env) (Ru:(nm==("__debug__":Str))=false:=by decide) (QZ:(HV QB (E4 es X.env)).any (·.1)=false:=by rfl):
  Xv X H0 O0 E ps (.Call (.Name nm p) (e::es) [] QB) C0:=
 PE.mono (iQ F hr hg hm hk hb .nil hx (bV ha CF he) Ru he QZ) λ_ _ _ h=>h
end
structure EvM(X:Cx)(H0:Hp)(O0:List E6)(ps:PSt)(e:Expr)(us:List U):Prop where
 ev:EvN X H0 O0 ps e us
theorem Ew{X:Cx}{H0:Hp}{O0:List E6}{ps:PSt}{es:List Expr}{us:List U}{QB:Pos}(h:EvS X H0 O0 ps es us)(hz:us.length<=sizeLine):EvM X H0 O0 ps (.List es QB) us:=⟨bg h hz⟩
end L2
namespace L2
open PySem PySem.Spec PyProof.Rows
structure Dl(K:ER)(ps:PSt)(j:Nat)(xss:Nat->List U)(H0:Hp)(O0:List E6)(σ:St)(H:Hp)(O:List E6)(d:E6)(as:Nat->E6):Prop where
 rs:Rs K H0 O0 ps σ H O
 vals:∀(i:Nat) (s:Sl),ps[i]?=some (some s)->∃u,s=.val u
 non:ps[j]?=some none
 at_:σ[j]?=some (some (.ref d))
 dO:d∈O
 dO0:d ∉ O0
 aO:∀r,r<3->as r∈O/\as r ∉ O0
 da:∀r,r<3->as r≠d
 inj:∀r t,r<3->t<3->as r=as t->r=t
 dh:H d=some (.lst [.ref (as 0),.ref (as 1),.ref (as 2)])
 ah:∀r,r<3->∃vs,H (as r)=some (.lst vs)/\Rps K (hid H O) vs (xss r)
section
variable {K:ER}{H0 H H':Hp}{O0 O:List E6}{ps:PSt}{σ:St}{j:Nat}{xss:Nat→List U}{d:E6}{as:Nat→E6}
variable {X:Cx}{E:XK}{D:PD}{iter e1 e2:Expr}{items:List U}{ss:List HL}
end
end L2
namespace ST2
open PySem PySem.SetTable ST
section
variable {prog:E8}{w:FE}{A:FC}{E:EW→EU→Prop}{s:EU}
abbrev K4:=(Int×Int)×(Int×Int)
abbrev l1(k:K4):List Int:=[k.1.1,k.1.2]
abbrev l2(k:K4):List Int:=[k.2.1,k.2.2]
def TQ(prog:E8)(w:FE)(h:GV)(k:K4)(b:E6):Prop:=∃o items n a1 a2,h.get? b=some o∧o.cls=.type "tuple"∧o.data=.seq items n∧items.toList=[.ref a1,.ref a2]∧TK prog w h (l1 k) a1∧TK prog w h (l2 k) a2
variable {hZ:K4→Int}
def ents(hZ:K4->Int)(kb:List (K4×E6)):List (Int×EW):=kb.map λp=>(hZ p.1,.ref p.2)
structure SP(prog:E8)(w:FE)(hZ:K4->Int)(h:GV)(S:E6)(kb:List (K4×E6)):Prop where
 ex:∃o es ep t,h.get? S=some o∧o.ExactSet∧o.data=.set es ep t∧es.toList=ents hZ kb∧TOk t (kb.map λp=>hZ p.1)∧t.led=(!w.params.followText "set-order")∧t.plain=true∧t.tooFull=false∧t.mask<8*kb.length+8
 keys:∀p∈kb,TQ prog w h p.1 p.2
 nd:(kb.map (·.1)).Nodup
structure Got(kx:Nat->K4×E6)(i:Nat)(kb:List (K4×E6)):Prop where
 src:∀p∈kb,∃j,j<i/\p=kx j
 all:∀j,j<i->(kx j).1∈kb.map (·.1)
 len:kb.length<=i
variable {R:Ng→EU→Prop}{I:E6}{fp wr:List E6}{G:Array Jq→Array Jq→Prop}{n:Nat}{P:Nat→EW→Prop}{St:Nat→EU→Prop}
end
end ST2
namespace ST
open PySem PySem.W PySem.Calls PyProof.Rows
section
variable {prog:E8}{w:FE}{A:FC}{E:EW→EU→Prop}{s:EU}
end
end ST
namespace L2
open PySem PySem.Spec PyProof.Rows
section
variable {X:Cx}{H0:Hp}{O0:List E6}{ps:PSt}{e:Expr}{p QB:Pos}{a b:P2}
variable {pts:List P2}{prs dd:List (P2×P2)}{QP p':Pos}
end
end L2
namespace HT
open PySem PySem.W PySem.Spec PyProof.Rows L2
section
variable {prog:E8}{w:FE}{A:FC}{E:EW→EU→Prop}{s:EU}
end
end HT
namespace L2
open PySem PySem.Spec PyProof.Rows
section
variable {X:Cx}{H0:Hp}{O0:List E6}{E:XK}{ps:PSt}{D:PD}{e:Expr}{lo hi:Option Expr}{l h:Option Int}{QB p2:Pos}{xs ys:List U}
end
end L2
namespace L2
open PySem PySem.Spec PySem.W PyProof.Rows
open PySem.Builtin.Str in
def EK(x y z:Str):Str:=if ((occurrences x y 0 x.length 1).isEmpty || (y.length==0 && z.length==0))=true then x else glued z (partsBetween x (occurrences x y 0 x.length 1) y.length)
section
variable {prog:E8}{w:FE}{A:FC}{E:EW→EU→Prop}{s:EU}{x y z:Str}{t u v k:Tok}{Q:EW→EU→Prop}
end
section
variable {X:Cx}{H0:Hp}{O0:List E6}{E:XK}{ps:PSt}{D:PD}
end
end L2
namespace ST3
open PySem PySem.W PySem.Calls PyProof.Rows ST
abbrev TR:=(Int×Int)×(Int×Int)×(Int×Int)
def ltT(a b:TR):Bool:=if a.1=b.1 then (if a.2.1=b.2.1 then ltP a.2.2 b.2.2 else ltP a.2.1 b.2.1) else ltP a.1 b.1
theorem zK{a b:TR}(h:ltT a b=true):ltT b a=false:=by
 unfold ltT at *;by_cases h1:a.1=b.1
 ·rw[if_pos h1]at h;rw[if_pos h1.symm];by_cases h2:a.2.1=b.2.1
  ·rw[if_pos h2]at h;rw[if_pos h2.symm];exact ie h
  ·rw[if_neg h2]at h;rw[if_neg (Ne.symm h2)];exact ie h
 ·rw[if_neg h1]at h;rw[if_neg (Ne.symm h1)];exact ie h
theorem Ak{a b:TR}(h:a≠b)(k:ltT a b=false):ltT b a=true:=by
 unfold ltT at *;by_cases h1:a.1=b.1
 ·rw[if_pos h1]at k;rw[if_pos h1.symm];by_cases h2:a.2.1=b.2.1
  ·rw[if_pos h2]at k;rw[if_pos h2.symm];exact ltP_tot (λe=>h (Gf h1 (Gf h2 e))) k
  ·rw[if_neg h2]at k;rw[if_neg (Ne.symm h2)];exact ltP_tot h2 k
 ·rw[if_neg h1]at k;rw[if_neg (Ne.symm h1)];exact ltP_tot h1 k
theorem n_{a:Int×Int}:ltP a a=false:=asc_irr
theorem Ce{a b c:TR}(h:ltT a b=true)(k:ltT b c=true):ltT a c=true:=by
 unfold ltT at *;by_cases h1:a.1=b.1
 ·rw[if_pos h1]at h;by_cases k1:b.1=c.1
  ·rw[if_pos k1]at k;rw[if_pos (h1.trans k1)];by_cases h2:a.2.1=b.2.1
   ·rw[if_pos h2]at h;by_cases k2:b.2.1=c.2.1
    ·rw[if_pos k2]at k;rw[if_pos (h2.trans k2)];exact j_ h k
    ·rw[if_neg k2]at k;rw[if_neg (by rw[h2];exact k2),h2];exact k
   ·rw[if_neg h2]at h;by_cases k2:b.2.1=c.2.1
    ·rw[if_neg (by rw[<-k2];exact h2),<-k2];exact h
    ·rw[if_neg k2]at k;have t:=j_ h k;rw[if_neg (λe=>by rw[e,n_]at t;cases t)];exact t
  ·rw[if_neg k1]at k;rw[if_neg (by rw[h1];exact k1),h1];exact k
 ·rw[if_neg h1]at h;by_cases k1:b.1=c.1
  ·rw[if_neg (by rw[<-k1];exact h1),<-k1];exact h
  ·rw[if_neg k1]at k;have t:=j_ h k;rw[if_neg (λe=>by rw[e,n_]at t;cases t)];exact t
section
variable {prog:E8}{w:FE}{A:FC}{E:EW→EU→Prop}{s:EU}
abbrev lq(p:Int×Int):List Int:=[p.1,p.2]
def TT(prog:E8)(w:FE)(h:GV)(t:TR)(b:E6):Prop:=∃o items n a1 a2 a3,h.get? b=some o∧o.cls=.type "tuple"∧o.data=.seq items n∧items.toList=[.ref a1,.ref a2,.ref a3]∧TK prog w h (lq t.1) a1∧TK prog w h (lq t.2.1) a2∧TK prog w h (lq t.2.2) a3
theorem TT.grow{h h':GV}{k:TR}{b:E6}(x:TT prog w h k b)(e:∀b o,o.cls=.type "tuple"→h.get? b=some o→h'.get? b=some o):TT prog w h' k b:=by
 obtain⟨o,it,n,a1,a2,a3,h1,hc,h2,h3,h4,h5,h6⟩:=x;have up:∀{k:List Int}{a:E6},TK prog w h k a->TK prog w h' k a:=λ{k a} t=>by obtain⟨o,it,n,g1,gc,g2⟩:=t;exact⟨o,it,n,e _ _ gc g1,gc,g2⟩
 exact⟨o,it,n,a1,a2,a3,e _ _ hc h1,hc,h2,h3,up h4,up h5,up h6⟩
theorem Dp{p q:Int×Int}(h:lq p=lq q):p=q:=by
 obtain⟨a,b⟩:=p;obtain⟨c,d⟩:=q;injection h with h1 h2
 injection h2 with h2 _
 simp only at h1 h2;rw[h1,h2]
theorem ro(a b:Int×Int):decide (lq a=lq b)=decide (a=b):=decide_eq_decide.mpr ⟨Dp,λe=>by rw[e]⟩
theorem CS(hu:A.units+1<JQ){x y:E6}{a b:TR}{Q:Bool->EU->Prop}(hx:TT prog w s.heap a x)(hy:TT prog w s.heap b y)(h:Q (ltT a b) s):Fy (FF prog w) A (keyLt' (OD false) (.ref x) (.ref y)) Q E s:=by
 obtain⟨o,QC,n,a1,a2,a3,ho,_,hd,hi,t1,t2,t3⟩:=hx;obtain⟨o',its',n',b1,b2,b3,RH,_,RK,QO,u1,u2,u3⟩:=hy;refine kat_lt ho hd RH RK ?_;rw[hi,QO];unfold ltT at h;refine kat_cons (J9 (by lia) t1 u1 ?_)
 rw[ro];by_cases e1:a.1=b.1
 ·rw[decide_eq_true e1];rw[if_pos e1]at h;refine kat_yes (kat_cons (J9 (by lia) t2 u2 ?_))
  rw[ro];by_cases e2:a.2.1=b.2.1
  ·rw[decide_eq_true e2];rw[if_pos e2]at h;refine kat_yes (kat_cons (J9 (by lia) t3 u3 ?_))
   rw[ro];by_cases e3:a.2.2=b.2.2
   ·rw[decide_eq_true e3];refine kat_yes (kat_nil ?_);rw[e3,n_]at h
    have z2:decide (QC.size<its'.size)=false:=by
     rw[<-E5,<-E5,hi,QO];simp
    rw[z2];exact h
   ·rw[decide_eq_false e3];exact kat_no (kat_one _ _ (lt_ptsR (by lia) t3 u3 h))
  ·rw[decide_eq_false e2];rw[if_neg e2]at h;exact kat_no (kat_one _ _ (lt_ptsR (by lia) t2 u2 h))
 ·rw[decide_eq_false e1];rw[if_neg e1]at h;exact kat_no (kat_one _ _ (lt_ptsR (by lia) t1 u1 h))
abbrev PT3:=List (TR×E6)
abbrev Bi(pb:PT3):List EW:=pb.map λp=>FG p.2
theorem v_{pb:PT3}{Q:JN->EU->Prop}(RB:∀p∈pb,TT prog w s.heap p.1 p.2)(h0:0<pb.length)(h:Q (OD false) s):Fy (FF prog w) A (keyKind' (Bi pb).toArray) Q E s:=by
 obtain⟨fs,hf,hl,hi⟩:∃fs,KatTups s.heap (Bi pb) fs∧fs.length=pb.length∧∀v∈fs,∃a o,v=FG a∧s.heap.get? a=some o∧o.cls=.type "tuple":=by
  clear h h0
  induction pb with
  |nil=>exact⟨[],.nil,rfl,λv hv=>by simp at hv⟩
  |cons p r ih=>
   obtain⟨fs,hf,hl,hi⟩:=ih λq hq=>RB q (ET _ hq)
   obtain⟨o,QC,n,a1,a2,a3,ho,hc,hd,RA,t1,_⟩:=RB p E3;refine⟨.ref a1::fs,.cons ho hc hd (by rw[<-Gi,RA];rfl) hf,by simp[hl],λv hv=>?_⟩
   rcases E1.mp hv with z |z
   ·obtain⟨o1,_,_,g1,g2,_⟩:=t1;exact⟨a1,o1,z,g1,g2⟩
   ·exact hi v z
 refine kat_kind (T:=.type "tuple") hf (by lia) (λv hv=>?_) (by decide) h
 obtain⟨a,o,rfl,g1,g2⟩:=hi v hv;rw[<-g2];exact (Looks.ld g1).andThen .now
abbrev ky3(p:TR×E6):FY:=(FG p.2,FG p.2)
open Classical in
noncomputable def RP3 (pb:PT3) (x y:FY):Bool:=decide (∃p∈pb,∃q∈pb,x=ky3 p/\y=ky3 q/\ltT p.1 q.1=true)
end
end ST3
namespace L2
open PySem PySem.Spec PyProof.Rows
abbrev trU(t:ST3.TR):U:=.tup [pu t.1,pu t.2.1,pu t.2.2]
def t0:ST3.TR:=((0,0),(0,0),(0,0))
section
variable {X:Cx}{H0:Hp}{O0:List E6}{ps:PSt}{e:Expr}{trs:List ST3.TR}{QB p:Pos}
theorem Dw{a b c:V}{us:List EW}(h:aM [a,b,c] us):∃u v w,us=[u,v,w]/\bi a u/\bi b v/\bi c w:=by
 cases h with
 |cons h1 r=>
  cases r with
  |cons h2 r=>
   cases r with
   |cons h3 r=>cases r;exact⟨_,_,_,rfl,h1,h2,h3⟩
end
end L2
namespace ST6
open PySem PySem.W PySem.Calls PyProof.Rows ST
def ltL:List Int->List Int->Bool
 |a::r,b::t=>if a=b then ltL r t else decide (a<b)
 |[],_::_=>true
 |_,[]=>false
section
variable {prog:E8}{w:FE}{A:FC}{E:EW→EU→Prop}{s:EU}
abbrev PT6:=List (List Int×E6)
abbrev ky6(p:List Int×E6):FY:=(FG p.2,FG p.2)
open Classical in
noncomputable def RP6 (pb:PT6) (x y:FY):Bool:=decide (∃p∈pb,∃q∈pb,x=ky6 p/\y=ky6 q/\ltL p.1 q.1=true)
end
end ST6
namespace L2
open PySem PySem.Spec PyProof.Rows
section
variable {X:Cx}{H0:Hp}{O0:List E6}{ps:PSt}{e:Expr}{trs:List (List Int)}{QB p:Pos}
end
end L2
namespace ST
open PySem
structure Z3A(z TI TO i1 i2 i3 l1 l2 l3:E6):Prop where
 TIz:TI≠z
 TOz:TO≠z
 i1z:i1≠z
 i2z:i2≠z
 i3z:i3≠z
 TITO:TI≠TO
 TIi1:TI≠i1
 TIi2:TI≠i2
 TIi3:TI≠i3
 TOi1:TO≠i1
 TOi2:TO≠i2
 TOi3:TO≠i3
 i12:i1≠i2
 i13:i1≠i3
 i23:i2≠i3
 l1z:l1≠z
 l1TO:l1≠TO
 l1i1:l1≠i1
 l1i2:l1≠i2
 l1i3:l1≠i3
 l2z:l2≠z
 l2TO:l2≠TO
 l2i1:l2≠i1
 l2i2:l2≠i2
 l2i3:l2≠i3
 l3z:l3≠z
 l3TO:l3≠TO
 l3i1:l3≠i1
 l3i2:l3≠i2
 l3i3:l3≠i3
section
variable {prog:E8}{w:FE}{A:FC}{E:EW→EU→Prop}{s:EU}
end
end ST
namespace L2
open PySem PySem.Spec PyProof.Rows
variable {e:Expr}
section
variable {X:Cx}{H0:Hp}{O0:List E6}{E:XK}{ps:PSt}{D:PD}{QM:List HL}{f g tg iter:Expr}{es:List Expr}{p QB:Pos}{x y z:U}{xs ys zs us:List U}
end
abbrev Ent:=List Int×E6×EW
def Sd(P:E8)(w:FE)(d:E6)(xs:List Ent)(h:GV):Prop:=
 (d==Pl)=false/\xs.length<=sizeLine/\∃o es ep,h.get? d=some o/\o.ExactDict/\o.data=.dict es ep/\es.toList=xs.map (entryOfKey (tupleKind (LB P w)))/\(xs.map (·.1)).Nodup
section
variable {X:Cx}{pins:List (E6×Obj)}{σ:St}{H:Hp}{s:EU}{a b:E6}{k:List Int}{xs:List Ent}{A:FC}{E:EW→EU→Prop}
variable {o i Rg:Expr}{QB QP tpos:Pos}{td ty tv:TE}
end
structure Sn(P:E8)(w:FE)(K:ER)(ps:PSt)(j:Nat)(xs:List Ent)(H0:Hp)(O0:List E6)(σ:St)(H:Hp)(O:List E6)(d:E6):Prop where
 rs:Rs K H0 O0 ps σ H O
 vals:∀(i:Nat) (s:Sl),ps[i]?=some (some s)->∃u,s=.val u
 non:ps[j]?=some none
 at_:σ[j]?=some (some (.ref d))
 dO:d∈O
 dO0:d ∉ O0
 dh:H d=some (.ext (Sd P w d xs))
 ky:∀x∈xs,SqT K (hid H O) x.2.1 (x.1.map V.int)
section
variable {P:E8}{w:FE}{K:ER}{H0 H H':Hp}{O0 O:List E6}{ps:PSt}{σ:St}{j:Nat}{xs:List Ent}{d:E6}
variable {X:Cx}{E:XK}{D:PD}{iter t1:Expr}{items:List U}{ss b1 b2:List HL}
end
end L2
namespace ST6
open PySem PyProof.Rows ST
section
variable {prog:E8}{w:FE}{A:FC}{E:EW→EU→Prop}{s:EU}
end
end ST6
namespace L2
open PySem PySem.Spec PyProof.Rows
section
variable {κ:Type} [DecidableEq κ]
end
abbrev KT(H:Hp):List (List Key×V)->List (List Key×E6×EW)->Prop:=Paired λp q=>p.1=q.1/\H q.2.1=some (.tup (p.1.map kV))/\bi p.2 q.2.2
variable {P:E8}{w:FE}{H:Hp}{pins:List (E6×Obj)}{σ:St}{s:EU}
section
variable {h:GV}{a:E6}
variable {X:Cx}{y v:V}{u r:EW}{o:Option V}{A:FC}{E:EW→EU→Prop}
variable {QW:List (Key×V)}{k:Key}
end
variable {o:Expr}{e:Expr}{QB:Pos}
section
variable {X:Cx}{i Rg:Expr}{QP tpos:Pos}{td ty tv:TE}
end
structure M1(X:Cx)(o:Expr)(m:Str)(QX:Pos)(e:Expr)(QG:Pos):Prop where
 base:Jt o m X.env (IJ o X.env)=IJ o X.env
 few:((HV QG (E4 [e] X.env)).all (λx=>!x.1) && (Om QG (LX [] X.env)).all (λx=>x.1.isSome)
  && decide (([e]:List Expr).length+([]:List K_).length+(if ([]:List K_).isEmpty then 0 else 1)<30))=true
 line:(QX.endLine==QG.line)=true
 trees:HV QG (E4 [e] X.env)=[(false,IJ e X.env)]
structure M2(X:Cx)(o:Expr)(m:Str)(QX:Pos)(e f:Expr)(QG:Pos):Prop where
 base:Jt o m X.env (IJ o X.env)=IJ o X.env
 few:((HV QG (E4 [e,f] X.env)).all (λx=>!x.1) && (Om QG (LX [] X.env)).all (λx=>x.1.isSome)
  && decide (([e,f]:List Expr).length+([]:List K_).length+(if ([]:List K_).isEmpty then 0 else 1)<30))=true
 line:(QX.endLine==QG.line)=true
 trees:HV QG (E4 [e,f] X.env)=[(false,IJ e X.env),(false,IJ f X.env)]
section
variable {X:Cx}{a:E6}{y d:V}{u r:EW}{o:Option V}{A:FC}{E:EW→EU→Prop}
end
variable {QX:Pos}{QG:Pos}
section
variable {X:Cx}{f:Expr}{td ty tx:TE}
variable {a:E6}{QW:List (Key×V)}{A:FC}{E:EW→EU→Prop}
variable {y:V}{u:EW}
end
variable {u:U}{E:XK}{QW:List (Str×U)}{K:ER}{H0:Hp}{O0:List E6}{D:PD}{C:E6}{d:E6}
section
variable {H':Hp}{kv:List (Key×V)}{k:Key}{v:V}{x:Str}
variable {X:Cx}{ps:PSt}{p:Pos}{n:Str}{w:Bool}{a:E6}{i:Nat}
end
variable {f:E6}{mg:Str→Option EW}{N:List Str}{pn:List Str}{QE:Str}
section
variable {base:GV}{nm:Str}
end
variable {es:List Expr}{us:List U}{fd:Gn}{CX:CXT}{QQ:E6→List (Str×U)→List U→Out→Prop}
section
variable {X:Cx}{ps ps1 Tj:PSt}{b:Expr}{rest:List Expr}{p:Pos}{z:U}{x n m:Str}{w:Bool}{Cx' a:E6}{kvs':List (Str×U)}{i k:Nat}{c c':Bool}
end
section
variable {base:GV}{nm sf:Str}{p1 p2 p3 p4:Pos}
variable {X:Cx}{ps:PSt}{p p':Pos}{x:Str}{i k:Nat}
end
variable {xs:List U}
section
variable {X:Cx}{ps:PSt}{p:Pos}{x m:Str}{w:Bool}{C' a:E6}{i k:Nat}
end
section
variable {X:Cx}{ps:PSt}{i:Expr}{p:Pos}{n nm t:Str}{vs:List (Str×EW)}{tk:Tok}{ty:TE}
variable {a:Expr}{x:Str}
end
variable {QM:List HL}
section
variable {X:Cx}{ps:PSt}{f g tg iter:Expr}{p:Pos}{x y z:U}{ys zs:List U}
variable {n nm t:Str}{vs:List (Str×Str)}
end
structure EJ(P:E8)(w:FE)(K:ER)(mg:Str->Option EW)(base:GV)(CX:CXT)(k:Nat)(f:E6)(fd:Gn)(ps:List Str)(sp:Sp):Prop where
 len:∀vs H Q E,sp vs H Q E->vs.length=ps.length
 run:∀(A:FC) (outer:List Env) (s:EU) (H:Hp) (args:Args) (us:List EW) (vs:List V) (Q:VK) (E:XK),1<=s.toks->cU k A->w_ P w K mg base A outer s H->NR s fd args (ps.zip us)->aM vs us->sp vs H Q E->
  Jc (FF P w) A (.call (.ref f) args) (CR CX outer P w H s Q E) s
section
variable {X:Cx}{k:Nat}{ps:List Str}{sp:Sp}{Tu:List V}{ds:List EW}{x m:Str}{p:Pos}{ta te:TE}{t:TA}{st:HL}{rest:List HL}{tS u:TS}
variable {tg:Expr}
variable {to:TE}{name:Str}{T id:String}{r:V→List V→Hp→VK→Prop}
end
section
variable {X:Cx}{ps Q4:PSt}{s:HL}{ss:List HL}{a b c:Expr}{p:Pos}{x y:U}{ys:List U}{n:Nat}{d':E6}{QQ:List U→Out→Prop}{nm:Str}
end
section
variable {base:GV}{nm:Str}{QA:Lk}{cd:EW}{A:FC}{outer:List Env}{ps:PSt}
end
theorem ir{X:Cx}{H0:Hp}{O0:List E6}{ps:PSt}{e:Expr}{u u':U}(h:u=u')(t:Ev X H0 O0 ps e u):Ev X H0 O0 ps e u':=h ▸ t
end L2
namespace L2
open PySem PySem.Spec PySem.W PyProof.Rows
structure Dfn(K:ER)(mg:Str->Option EW)(x:Str)(st:HL)(ps:List Str) where
 a:E6
 d:Gn
 F:Fun K x x st a d
 b:cw K d ps []
 m:mg x=some (.ref a)
structure DfD(K:ER)(mg:Str->Option EW)(x:Str)(st:HL)(ps:List Str)(j:Int) where
 a:E6
 d:Gn
 D:E6
 F:wf K x x st a d D
 b:cw K d ps []
 bd:∃t,cw K d ps [.int j t]
 m:mg x=some (.ref a)
structure MDf(K:ER)(C:E6)(x q:Str)(st:HL)(ps:List Str) where
 a:E6
 d:Gn
 F:Fun K x q st a d
 b:cw K d ps []
 m:Ex K C x a
structure IDf(K:ER)(C:E6)(x q:Str)(st:HL)(ps:List Str) where
 a:E6
 d:Gn
 F:Fun K x q st a d
 b:cw K d ps []
 m:Mk K C a
structure Exn(mg:Str->Option EW)(x:Str) where
 c:E6
 m:mg x=some (.ref c)
abbrev BL(x q:Str)(st:HL)(ps:List Str):Prop:=∀(kV Rm pm:EW) (an:Option E6) (QK ct:EW) (us:List EW),us.length=ps.length->Lw (fnOf x q (bU st) (bA st) (aq st) .none kV Rm pm an QK ct) ⟨us,[]⟩=pure (ps.zip us)
section
variable {K:ER}{h:GV}{mg:Str→Option EW}{x q:Str}{st:HL}{ps:List Str}{f C D:E6}{j:Int}{oc:EW}{od an:Option E6}{kV dc pm cd ct:EW}{sl:Array (Option EW)}{x1 x2 x3 t:_}
def dfn(X:K.In h)(G:h.Ns Hh mg)(hb:BL x x st ps)(a:nsIn K Hh x=some (some (.ref f)))(l:K.lookup f=some ⟨oc,od,.func (fnOf x x (bU st) (bA st) (aq st) .none kV dc pm an cd ct),sl⟩)(c:codeIn K cd x=true)(k:keepIn K (.ref f)=true):Dfn K mg x st ps:=⟨f,_,wu l c k,(wu l c k).binds hb,mg_of X G a⟩
def dfD(X:K.In h)(G:h.Ns Hh mg)(hb:K.lookup D=some ⟨.type "tuple",x1,.seq #[.int j t] x2,x3⟩→∀(kV dc pm:EW) (an:Option E6) (cd ct:EW),cw K (fnOf x x (bU st) (bA st) (aq st) (.ref D) kV dc pm an cd ct) ps []∧∃t,cw K (fnOf x x (bU st) (bA st) (aq st) (.ref D) kV dc pm an cd ct) ps [.int j t])(a:nsIn K Hh x=some (some (.ref f)))(l:K.lookup f=some ⟨oc,od,.func (fnOf x x (bU st) (bA st) (aq st) (.ref D) kV dc pm an cd ct),sl⟩)(c:codeIn K cd x=true)(k:keepIn K (.ref f)=true)(q:K.lookup D=some ⟨.type "tuple",x1,.seq #[.int j t] x2,x3⟩):DfD K mg x st ps j:=⟨f,_,D,zJ l c k,(hb q kV dc pm an cd ct).1,(hb q kV dc pm an cd ct).2,mg_of X G a⟩
def exn(X:K.In h)(G:h.Ns Hh mg)(a:nsIn K Hh x=some (some (.ref f))):Exn mg x:=⟨f,mg_of X G a⟩
theorem g_i{t:_}(X:K.In h)(G:h.Ns Hh mg)(a:nsIn K Hh x=some (some (.int j t))):∃t,mg x=some (.int j t):=⟨t,mg_of X G a⟩
end
end L2
namespace SG
open PySem PySem.W PySem.Calls PyProof.Rows ST
abbrev rfs{α:Type}(pb:List (α×E6)):List EW:=pb.map λp=>FG p.2
structure Ky(α:Type) where
 lt:α->α->Bool
 tr:∀{a b c:α},lt a b=true->lt b c=true->lt a c=true
 tot:∀{a b:α},a≠b->lt a b=false->lt b a=true
 asy:∀{a b:α},lt a b=true->lt b a=false
 is:E8->FE->GV->α->E6->Prop
 kd:JN
 grow:∀{prog:E8}{w:FE}{h h':GV}{a:α}{b:E6},is prog w h a b→(∀b o,o.cls=.type "tuple"→h.get? b=some o→h'.get? b=some o)→is prog w h' a b
 ask:∀{prog:E8}{w:FE}{A:FC}{E:EW->EU->Prop}{s:EU}{x y:E6}{a b:α}{Q:Bool->EU->Prop},A.units+1<JQ->is prog w s.heap a x->is prog w s.heap b y->Q (lt a b) s->Fy (FF prog w) A (keyLt' kd (.ref x) (.ref y)) Q E s
 kind:∀{prog:E8}{w:FE}{A:FC}{E:EW->EU->Prop}{s:EU}{pb:List (α×E6)}{Q:JN->EU->Prop},(∀p∈pb,is prog w s.heap p.1 p.2)->0<pb.length->Q kd s->Fy (FF prog w) A (keyKind' (rfs pb).toArray) Q E s
section
variable {α:Type} [DecidableEq α] (S:Ky α)
def ins(x:α):List α->List α
 |[]=>[x]
 |y::r=>if x=y then y::r else if S.lt x y=true then x::y::r else y::ins x r
def srt(l:List α):List α:=l.foldr (ins S) []
theorem ins_mem(x z:α):∀l,z∈ins S x l↔z=x\/z∈l
 |[]=>by simp[ins]
 |y::r=>by
  unfold ins;split
  ·rename_i h;subst h;simp
  ·split
   ·simp
   ·rw[E1,ins_mem x z r,E1];grind
abbrev Asc(l:List α):Prop:=l.Pairwise (λx y=>S.lt x y=true)
theorem ins_asc(x:α):∀l,Asc S l->Asc S (ins S x l)
 |[],_=>by simp[ins]
 |y::r,h=>by
  unfold ins;split
  ·exact h
  ·rename_i QF
   obtain⟨h1,h2⟩:=Fh.mp h;split
   ·rename_i QL
    refine Fh.mpr ⟨λz hz=>?_,h⟩
    rcases E1.mp hz with e |e
    ·rw[e];exact QL
    ·exact S.tr QL (h1 z e)
   ·rename_i QL
    refine Fh.mpr ⟨λz hz=>?_,ins_asc x r h2⟩
    rcases (ins_mem S x z r).mp hz with e |e
    ·rw[e];exact S.tot QF (by simpa using QL)
    ·exact h1 z e
theorem srt_mem(z:α):∀l,z∈srt S l↔z∈l
 |[]=>by simp[srt]
 |y::r=>by
  show z∈ins S y (srt S r)↔_;rw[ins_mem,srt_mem z r,E1]
theorem srt_asc:∀l,Asc S (srt S l)
 |[]=>Ju
 |y::r=>ins_asc S y (srt S r) (srt_asc r)
omit [DecidableEq α] in
theorem irr(a:α):S.lt a a=false:=by
 cases h:S.lt a a with
 |false=>rfl
 |true=>rw[S.asy h]at h;cases h
omit [DecidableEq α] in
theorem asc_one:∀{l m:List α},Asc S l->Asc S m->(∀z,z∈l↔z∈m)->l=m
 |[],[],_,_,_=>rfl
 |[],y::r,_,_,h=>by have:=(h y).mpr E3;simp at this
 |x::l,[],_,_,h=>by have:=(h x).mp E3;simp at this
 |x::l,y::m,hl,hm,h=>by
  obtain⟨a1,a2⟩:=Fh.mp hl;obtain⟨b1,b2⟩:=Fh.mp hm
  have e:x=y:=by
   rcases E1.mp ((h x).mp E3) with z |z
   ·exact z
   ·rcases E1.mp ((h y).mpr E3) with z' |z'
    ·exact z'.symm
    ·have:=S.asy (b1 x z);rw[a1 y z']at this;cases this
  subst e;congr 1;refine asc_one a2 b2 λz=>⟨λhz=>?_,λhz=>?_⟩
  ·rcases E1.mp ((h z).mp (ET _ hz)) with e |e
   ·have:=a1 z hz;rw[e,irr]at this;cases this
   ·exact e
  ·rcases E1.mp ((h z).mpr (ET _ hz)) with e |e
   ·have:=b1 z hz;rw[e,irr]at this;cases this
   ·exact e
end
section
variable {α:Type} (S:Ky α) {prog:E8}{w:FE}{A:FC}{E:EW→EU→Prop}{s:EU}
end
end SG
namespace L2
open PySem PySem.Spec PyProof.Rows
section
variable {X:Cx}{H0:Hp}{O0:List E6}{ps:PSt}{e:Expr}{QB p:Pos}
end
end L2
namespace ST3
open PySem PySem.W PySem.Calls PyProof.Rows ST
def KT:SG.Ky TR:=⟨ltT,Ce,Ak,zK,TT,OD false,λh e=>h.grow e,λhu h k q=>CS hu h k q,λh k q=>v_ h k q⟩
abbrev PQ:=(Int×Int)×Int
section
variable {prog:E8}{w:FE}{A:FC}{E:EW→EU→Prop}{s:EU}
def TQ(prog:E8)(w:FE)(h:GV)(t:PQ)(b:E6):Prop:=∃o items n a1 u,h.get? b=some o∧o.cls=.type "tuple"∧o.data=.seq items n∧items.toList=[.ref a1,.int t.2 u]∧TK prog w h (lq t.1) a1
end
def KP:SG.Ky (Int×Int):=⟨ltP,j_,ltP_tot,ie,λprog w h p b=>TK prog w h (lq p) b,OD true,λt e=>by obtain⟨o,it,n,g1,gc,g2⟩:=t;exact⟨o,it,n,e _ _ gc g1,gc,g2⟩,λhu h k q=>B3 h k q,λh k q=>xL h k q⟩
end ST3
namespace L2
open PySem PySem.Spec PyProof.Rows
section
variable {X:Cx}{pins:List (E6×Obj)}{σ:St}{H:Hp}{s:EU}{z:V}{u:EW}
theorem Es{a:ST3.TR}(I:Inv X pins σ H s)(r:Rp X.K H z (trU a))(e:bi z u):∃b,z=.ref b/\u=.ref b/\ST3.KT.is X.prog X.w s.heap a b:=by
 cases r with
 | @tup b zs _ hs TY hsi=>
  cases e;refine⟨b,rfl,rfl,?_⟩;obtain⟨jts,rj,ht,_⟩:=I.tuple hs;have z0:zs.length=3:=TY
  match zs,z0,hsi,rj with
  |[z1,z2,z3],_,hsi,rj=>
   obtain⟨u1,u2,u3,rfl,r1,r2,r3⟩:=Dw rj;obtain⟨x,rfl,tx⟩:=km I (hsi 0 z1 _ rfl rfl) r1;obtain⟨y,rfl,ty⟩:=km I (hsi 1 z2 _ rfl rfl) r2;obtain⟨v,rfl,tv⟩:=km I (hsi 2 z3 _ rfl rfl) r3;obtain⟨o,ho,TN,n,hod⟩:=ht;exact⟨o,_,n,x,y,v,ho,TN,hod,rfl,tx _ _,ty _ _,tv _ _⟩
theorem Ei{a:P2}(I:Inv X pins σ H s)(r:Rp X.K H z (pu a))(e:bi z u):∃b,z=.ref b/\u=.ref b/\ST3.KP.is X.prog X.w s.heap a b:=by
 obtain⟨b,rfl,tb⟩:=km I r e;refine⟨b,?_,rfl,tb _ _⟩;cases r;cases e;rfl
variable {p:P2}{l:List P2}
end
end L2
namespace SG
open PySem PySem.W PySem.Calls PyProof.Rows ST
abbrev kyg{α:Type}(p:α×E6):FY:=(FG p.2,FG p.2)
open Classical in
noncomputable def RG {α:Type} (S:Ky α) (pb:List (α×E6)) (x y:FY):Bool:=decide (∃p∈pb,∃q∈pb,x=kyg p/\y=kyg q/\S.lt p.1 q.1=true)
theorem kD{α:Type}{S:Ky α}{pb:List (α×E6)}{x y:FY}:RG S pb x y=true↔∃p∈pb,∃q∈pb,x=kyg p/\y=kyg q/\S.lt p.1 q.1=true:=by unfold RG;exact decide_eq_true_iff
theorem uL{α:Type}{p q:α×E6}(h:kyg p=kyg q):p.2=q.2:=by
 have:=(Prod.mk.inj h).1;injection this
section
variable {α:Type} (S:Ky α) {prog:E8}{w:FE}{A:FC}{E:EW→EU→Prop}{s:EU}
include S
theorem sort_b{a:E6}{pb:List (α×E6)}{n:Nat}{P:Qe→EU→Prop}(ho:s.heap.get? a=some (NG "list" (rfs pb).toArray n))(RB:∀p∈pb,S.is prog w s.heap p.1 p.2)(hu:A.units+1<JQ)(d0:α×E6)(R0:(pb.map (·.1)).Nodup)(Q5:pb.length≤sizeLine)(S9:∀{h:GV}{a b:α}{x:E6},S.is prog w h a x→S.is prog w h b x→a=b)
  (h:∀Q8:List (α×E6),Q8.Perm pb->(Q8.map (·.1)).Pairwise (λx y=>S.lt x y=true)->P (.done (.ret .none)) {s with heap:=sortedHeap s.heap a (rfs pb) (rfs Q8).toArray }):
  Fy (FF prog w) A (Builtin.«list.sort» ⟨[.ref a],[]⟩) P E s:=by
 have hvl:(rfs pb).length=pb.length:=by simp
 have hva:(rfs pb).toArray.size=pb.length:=by simp
 rw[list_sort_plain];have ha:a<s.heap.objs.size:=E_ ho;refine EN (listItems_at ho rfl (EN (NH ho rfl ?_ (by rw[hva];exact Q5) (Gz _))))
 obtain⟨e1,ho1⟩:∃e1,(s.heap.update a (Gq λ_=>(#[]:Array EW))).get? a=some (NG "list" #[] e1):=⟨_,get?_update_seq ho (λ_=>#[])⟩
 refine EN (OG ho1 rfl (EN (Pd ?_ (by show (rfs pb).length<=_;rw[hvl];exact Q5))))
 refine EN (NI ?_ (Gz _));refine Gk ?_;generalize hh6:((s.heap.update a (Gq λ_=>(#[]:Array EW))).push (NG "tuple" (rfs pb).toArray 0)).push (NG "list" #[] 0)=h6
 have old6:∀b o,b≠a->s.heap.get? b=some o->h6.get? b=some o:=λb o hb e=>by
  rw[<-hh6];exact EV _ (EV _ ((FD _ _ (Ne.symm hb)).trans e))
 have ho6:h6.get? a=some (NG "list" #[] e1):=by rw[←hh6];exact EV _ (EV _ ho1)
 have tk6:∀p∈pb,S.is prog w h6 p.1 p.2:=λp hp=>by
  refine S.grow (RB p hp) λb o hc e=>old6 b o (λz=>?_) e
  rw[z,ho]at e;cases e;exact absurd hc (by show ¬ (GI "list"=GI "tuple");decide)
 have fin:∀Q8:List (α×E6),Q8.Perm pb->(Q8.map (·.1)).Pairwise (λx y=>S.lt x y=true)->P (.done (.ret .none)) {s with heap:=h6.update a (Gq λ_=>(rfs Q8).toArray) }:=λQ8 p1 p2=>by
  rw[<-hh6];exact h Q8 p1 p2
 show Fy (FF prog w) A _ P E {s with heap:=h6 }
 dsimp only;by_cases h2:(rfs pb).toArray.size<2
 ·rw[if_pos h2,if_pos h2];refine EN (EY ?_);rw[StateT.run_pure];refine EN (EY ?_);dsimp only
  have eout:(FZ (SortSt.mk' general' ((rfs pb).toArray.zip (rfs pb).toArray) #[] 7 none)).map (·.2)=(rfs pb).toArray:=by
   show (((rfs pb).toArray.zip (rfs pb).toArray)).map (·.2)=_;apply Ml.mp
   have zip2:∀l:List EW,(l.zip l).map (·.2)=l:=λl=>by
    induction l with
    |nil=>rfl
    |cons x r ih=>rw[GT,Ft,ih]
   rw[Mm,Oh];exact zip2 _
  rw[eout];refine EN (OG ho6 rfl (EN (NH ho6 rfl ?_ (Gz _) (by rw[hva];exact N3 Q5))))
  show Fy _ _ (if (e1 !=e1)=true then _ else _) _ _ _
  rw[if_neg (by simp)]
  refine EY (fin pb (LC _) ?_)
  match pb,hva,h2 with
  |[],_,_=>simp
  |[_],_,_=>simp
  |_::_::r,hva,h2=>rw[hva]at h2;exact absurd h2 (by simp)
 ·rw[if_neg h2,if_neg h2];rw[hva]at h2;have h2':2<=(rfs pb).length:=by rw[hvl];lia
  refine EN (S.kind (s:={s with heap:=h6 }) tk6 (by lia) ?_)
  have one:∀p∈pb,∀q∈pb,kyg p=kyg q->p=q:=λp hp q hq e=>Gf (S9 (tk6 p hp) (by rw[uL e];exact tk6 q hq)) (uL e)
  have val:∀p∈pb,∀q∈pb,RG S pb (kyg p) (kyg q)=S.lt p.1 q.1:=λp hp q hq=>by
   cases hl:S.lt p.1 q.1 with
   |true=>exact kD.mpr ⟨p,hp,q,hq,rfl,rfl,hl⟩
   |false=>
    cases hr:RG S pb (kyg p) (kyg q) with
    |false=>rfl
    |true=>
     obtain⟨p',Rr,q',QT,e1,e2,z⟩:=kD.mp hr;rw[<-one p hp p' Rr e1,<-one q hq q' QT e2,hl]at z;cases z
  have asks:TS.Asks prog w A E {s with heap:=h6 } (S.kd) (λx=>∃p∈pb,x=kyg p) (RG S pb):=by
   rintro x y st Q ⟨p,hp,rfl⟩ ⟨q,hq,rfl⟩ hk hQ;rw[lt'_eq];refine Fg (LF ?_);rw[hk];rw[val p hp q hq]at hQ;refine Fg (wpS_lift (IU (S.ask (s:={s with heap:=h6 }) hu (tk6 p hp) (tk6 q hq) ⟨rfl,?_⟩)))
   exact Fv hQ
  have ord:TS.Ord (λx=>∃p∈pb,x=kyg p) (RG S pb) (pb.map kyg):=by
   refine⟨λx y z h1 h2=>?_,λx hx y hy QF hr=>?_,?_,λx hx=>?_⟩
   ·obtain⟨p,hp,q,hq,rfl,rfl,z1⟩:=kD.mp h1;obtain⟨q',QT,r,hr,e,rfl,z2⟩:=kD.mp h2;rw[<-one q hq q' QT e]at z2;exact kD.mpr ⟨p,hp,r,hr,rfl,rfl,S.tr z1 z2⟩
   ·obtain⟨p,hp,rfl⟩:=EZ.mp hx;obtain⟨q,hq,rfl⟩:=EZ.mp hy;rw[val p hp q hq]at hr;rw[val q hq p hp];refine S.tot (λe=>QF ?_) hr
    obtain⟨i,hi,rfl⟩:=GK hp;obtain⟨j,hj,rfl⟩:=GK hq;have:i=j:=(Me (xs:=pb.map (·.1)) (h₀:=by simpa using hi) (h₁:=by simpa using hj) R0).mp (by simpa using e)
    subst this;rfl
   ·have ndp:pb.Nodup:=(FR.mp R0).imp λh e=>h (congrArg _ e)
    refine FR.mpr (JW (λhp hq QF e=>QF (one _ hp _ hq e)) ndp)
   ·obtain⟨p,hp,rfl⟩:=EZ.mp hx;exact⟨p,hp,rfl⟩
  have stt:TS.Stt (S.kd) (pb.map kyg) #[] (SortSt.mk' (S.kd) ((rfs pb).toArray.zip (rfs pb).toArray) #[] 7 none):=by
   refine⟨rfl,rfl,?_,rfl⟩
   have e:(FZ (SortSt.mk' (S.kd) ((rfs pb).toArray.zip (rfs pb).toArray) #[] 7 none)).toList=pb.map kyg:=by
    show ((rfs pb).toArray.zip (rfs pb).toArray).toList=_;rw[Oh];show (pb.map _).zip (pb.map _)=_;rw[List.zip_map']
   rw[e]
  refine EN (Jr (TS.sruns asks ord (Q:=λ_ QD=>K6 QD=none/\∃Q8:List (α×E6),Q8.Perm pb/\(Q8.map (·.1)).Pairwise (λx y=>S.lt x y=true)/\(FZ QD).map (·.2)=(rfs Q8).toArray) stt λpd QD S' up=>?_) ?_ λ_ _ e=>e)
  ·refine⟨S'.failed,?_⟩;obtain⟨Q8,p1,p2⟩:=D5 S'.perm pb rfl;refine⟨Q8,p1,?_,?_⟩
   ·refine FR.mpr (Fm.mpr λi j hi hj Rt=>?_)
    have lp:=p1.length_eq;have u:=up i j Rt (by rw[ES];lia)
    rw[LA,LA,TS.gt_eq (by rw[<-p2,ES];exact hi),TS.gt_eq (by rw[<-p2,ES];exact hj)]at u
    simp only[<-p2,List.getElem_map]at u;rw[val _ (p1.mem_iff.mp (F7 hi)) _ (p1.mem_iff.mp (F7 hj))]at u;exact u
   ·apply Ml.mp;rw[Mm,<-p2,FP];rfl
  ·rintro ⟨⟨⟩,QD⟩ s' ⟨rfl,hf,Q8,p1,p2,hout⟩;dsimp only at hf hout |-;rw[hout];have hs2:(rfs Q8).toArray.size=pb.length:=by simp[p1.length_eq]
   refine EN (OG ho6 rfl (EN (NH ho6 rfl ?_ (Gz _) (by rw[hs2];exact N3 Q5))))
   rw[hf];show Fy _ _ (if (e1 !=e1)=true then _ else _) _ _ _
   rw[if_neg (by simp)]
   exact EY (fin _ p1 p2)
theorem call_b{l:E6}{pb:List (α×E6)}{Q:EW->EU->Prop}(hl:s.heap.IsList l (rfs pb).toArray)(RB:∀p∈pb,S.is prog w s.heap p.1 p.2)(hu:A.units+5<JQ)(d0:α×E6)(R0:(pb.map (·.1)).Nodup)(h64:pb.length<1000)(S9:∀{h:GV}{a b:α}{x:E6},S.is prog w h a x->S.is prog w h b x->a=b)
  (h:∀(h1 h':GV) (tk:Nat) (Q8:List (α×E6)) (e:Nat),Q8.Perm pb→(Q8.map (·.1)).Pairwise (λx y=>S.lt x y=true)→(∀c o,s.heap.get? c=some o→h1.get? c=some o)→(∀c o,h1.get? c=some o→h'.get? c=some o)→h'.get? h1.objs.size=some (NG "list" (rfs Q8).toArray e)→Q (.ref h1.objs.size) {s with heap:=h',toks:=tk }):
  Fy (FF prog w) A (call (.builtin "sorted") [.ref l]) Q E s:=by
 have hrl:(rfs pb).length=pb.length:=by simp
 refine Calls.call_function_entry kind_sorted plain_sorted entry_sorted (args_sorted1 _) ?_;unfold Builtin.«sorted»;refine EN (m:=checkCount "sorted" 1 1 _) (EY ?_);refine EN (collect_list hl ?_ (by rw[hrl,Hv];lia))
 refine EN (NI ?_ (by rw[hrl,Hv];lia))
 generalize hg:(s.heap.push (NG "list" #[] 0)).update s.heap.objs.size (Gq (·++(rfs pb).toArray))=h1
 have keep:∀c o,s.heap.get? c=some o->h1.get? c=some o:=λc o e=>by
  rw[<-hg,FD _ _ (Lu (E_ e))];exact EV _ e
 have hD:(h1.push {cls:=.type "list",data:=.seq (rfs pb).toArray }).get? h1.objs.size=some (NG "list" (rfs pb).toArray 0):=Fe _ rfl
 have up:∀p∈pb,S.is prog w (h1.push {cls:=.type "list",data:=.seq (rfs pb).toArray }) p.1 p.2:=λp hp=>by
  exact S.grow (RB p hp) λb o _ e=>EV _ (keep _ _ e)
 refine EN (Gk (GN Pg ⟨_,hD,rfl⟩ OH ?_ (Ph _)));refine sort_b S (s:={s with heap:=h1.push {cls:=.type "list",data:=.seq (rfs pb).toArray } }) hD up (by show A.units+1+1+1<JQ;lia) d0 R0 (by rw[Hv];lia) S9 λQ8 pp so=>⟨_,rfl,EY ⟨_,rfl,?_⟩⟩
 obtain⟨e,eD⟩:=sortedHeap_at (out:=(rfs Q8).toArray) hD;refine h h1 _ s.toks Q8 e pp so keep (λc o hb=>?_) eD
 have QL:=E_ hb;rw[Pi (FJ QL) (by rw[Hu];exact HG QL)]
 exact EV _ hb
end
end SG
namespace ST3
open PySem PySem.W PySem.Calls PyProof.Rows ST
theorem KP_det{prog:E8}{w:FE}{h:GV}{a b:Int×Int}{x:E6}(p:KP.is prog w h a x)(q:KP.is prog w h b x):a=b:=congrArg JO (TK.det (p:=(a,x)) (q:=(b,x)) p q rfl)
theorem KT_det{prog:E8}{w:FE}{h:GV}{a b:TR}{x:E6}(p:KT.is prog w h a x)(q:KT.is prog w h b x):a=b:=by
 obtain⟨o,it,n,x1,x2,x3,h1,_,h2,h3,t1,t2,t3⟩:=p;obtain⟨o',it',n',y1,y2,y3,g1,_,g2,g3,u1,u2,u3⟩:=q;rw[h1]at g1;cases g1;rw[h2]at g2;cases g2;rw[h3]at g3;simp only[ML,Value.ref.injEq,and_true]at g3;obtain⟨rfl,rfl,rfl⟩:=g3;exact Gf (KP_det t1 u1) (Gf (KP_det t2 u2) (KP_det t3 u3))
end ST3
namespace L2
open PySem PySem.Spec PyProof.Rows
section
variable {X:Cx}{H0:Hp}{O0:List E6}{ps:PSt}{e:Expr}{QB p:Pos}
theorem o_{α:Type}[DecidableEq α](S:SG.Ky α)(uf:α→U)(t0:α){trs:List α}(RA:∀{pins:List (E6×Obj)}{σ:St}{H:Hp}{s:EU}{z:V}{u:EW}{a:α},Inv X pins σ H s→Rp X.K H z (uf a)→bi z u→∃b,z=.ref b∧u=.ref b∧S.is X.prog X.w s.heap a b)(S9:∀{h:GV}{a b:α}{x:E6},S.is X.prog X.w h a x→S.is X.prog X.w h b x→a=b)(hg:Gl X "sorted")(hm:X.mg "sorted"=none)(hu:X.A.units+10<JQ)(ha:Ev X H0 O0 ps e (.lst (trs.map uf)))(hl:trs.length<1000∧trs.Nodup)
  (he:E4 [e] X.env=(false,IJ e X.env)::E4 [] X.env:=by rfl):EvN X H0 O0 ps (.Call (.Name "sorted" p) [e] [] QB) ((SG.srt S trs).map uf):=by
 obtain⟨hl,hn⟩:=hl;rintro pins s σ H Q I ⟨O,R,q⟩;refine GH (cV I hg hm boot_sorted ?_);refine callWith_builtin1 (e:=e) (rest:=[]) (thn (bV ha dU he QB pins s σ H (λvs H1=>∃v,vs=[v]/\aZ H H1/\Rp X.K (hid H1 O) v (.lst (trs.map uf))) I ⟨O,R,λv H1 s1 r1=>⟨v,rfl,s1,r1⟩⟩) λus s1 hx=>?_) he rfl
 obtain⟨vs,H1,I1,rv,v,rfl,sm,rp⟩:=hx;obtain⟨u,rfl,ru⟩:=eQ rv;cases rp with
 | @lst a ws _ hq hwl hwi=>
  cases ru;obtain⟨QC,R6,pl,hz⟩:=I1.list (SqL.of (ax _ _ hq));have hlp:ws.length=trs.length:=by rw[hwl,ES]
  have hil:QC.length=trs.length:=by rw[<-R6.length,hlp]
  have item:∀i,i<trs.length->∃b,QC[i]?=some (.ref b)/\Rp X.K (hid H1 O) (.ref b) (uf (trs.getD i t0))/\S.is X.prog X.w s1.heap (trs.getD i t0) b:=λi hi=>by
   have hw:ws[i]?=some ws[i]:=EO (by lia)
   have hp:(trs.map uf)[i]?=some (uf (trs.getD i t0)):=by rw[E7,EO hi];simp[hi]
   have r:=hwi i _ _ hw hp;obtain⟨u',e1,e2⟩:=R6.get hw;obtain⟨b,ez,rfl,tb⟩:=RA I1 (r.same ax) e2;rw[ez]at r;exact⟨b,e1,r,tb⟩
  let ad:Nat->E6:=λi=>match QC[i]? with |some (.ref b)=>b |_=>0
  have Ub:∀i,i<trs.length->QC[i]?=some (.ref (ad i))/\Rp X.K (hid H1 O) (.ref (ad i)) (uf (trs.getD i t0))/\S.is X.prog X.w s1.heap (trs.getD i t0) (ad i):=λi hi=>by
   obtain⟨b,e1,e2,e3⟩:=item i hi;have:ad i=b:=by show (match QC[i]? with |some (.ref b)=>b |_=>0)=b;rw[e1]
   rw[this];exact⟨e1,e2,e3⟩
  generalize ad=RF at Ub;clear ad;generalize Tp:((F_ trs.length).map λi=>((trs.getD i t0,RF i):α×E6))=pb
  have hits:QC=SG.rfs pb:=by
   apply Im;intro i;rw[<-Tp];unfold SG.rfs;rcases GR i trs.length with z |z
   ·rw[(Ub i z).1];simp[z]
   ·rw[FK (by lia),FK (by simpa using z)]
  have h1p:pb.map (·.1)=trs:=by
   rw[<-Tp,FP];apply Im;intro i;rcases GR i trs.length with z |z
   ·simp[z]
   ·rw[FK (by simpa using z),FK z]
  have srcb:∀z∈pb,∃j,j<trs.length/\z=(trs.getD j t0,RF j):=λz hz=>by
   rw[<-Tp]at hz;obtain⟨j,hj,rfl⟩:=EZ.mp hz;exact⟨j,Fu.mp hj,rfl⟩
  have hbl:pb.length=trs.length:=by rw[<-h1p,ES]
  rw[hits]at pl;refine SG.call_b S (pb:=pb) pl.isList (λz hz=>?_) (by show X.A.units+5<JQ;lia) (t0,0) (by rw[h1p];exact hn) (by lia) S9 λh3 h4 tk2 Q8 ep pm so k1 k2 hD=>?_
  ·obtain⟨j,hj,rfl⟩:=srcb z hz;exact (Ub j hj).2.2
  ·have I3:Inv X pins σ H1 {s1 with heap:=h3,toks:=tk2 }:=I1.kept (t':=tk2) k1
   have src:∀z∈Q8,∃j,j<trs.length/\z=(trs.getD j t0,RF j):=λz hz=>srcb z (pm.mem_iff.mp hz)
   have etrs:Q8.map (·.1)=SG.srt S trs:=by
    refine SG.asc_one S so (SG.srt_asc S trs) λz=>?_
    rw[SG.srt_mem,(pm.map (·.1)).mem_iff,h1p]
   have fr:H1 h3.objs.size=none:=I3.hok.fresh (E2 _);refine⟨.ref h3.objs.size,upd H1 h3.objs.size (.lst (Q8.map λz=>V.ref z.2)),?_,rfl,?_⟩
   ·refine I3.laid (t':=tk2) k2 (E2 _) ⟨?_,(SG.rfs Q8),ep,?_,hD⟩
    ·rw[ES,pm.length_eq,hbl,Hv];lia
    ·have all:∀l:List (α×E6),aM (l.map λz=>V.ref z.2) (SG.rfs l):=λl=>by
      induction l with
      |nil=>exact .nil
      |cons z r ih=>exact .cons rfl ih
     exact all Q8
   ·refine q _ _ _ (sm.trans (aK fr _)) (sm.free fr) aV ⟨?_,λi z x e1 e2=>?_⟩
    ·rw[ES,<-etrs,ES,ES]
    ·rw[<-etrs,FP,E7]at e2;rw[E7]at e1;cases hpi:Q8[i]? with
     |none=>rw[hpi]at e1;cases e1
     |some y=>
      rw[hpi]at e1 e2;cases e1;cases e2;obtain⟨j,hj,rfl⟩:=src y (Fs hpi);exact (Ub j hj).2.1.same (bF (aK fr _) fr)
end
end L2
namespace ST
open PySem PySem.W PyProof.Rows PySem.Calls
section
variable {prog:E8}{w:FE}{A:FC}{E:EW→EU→Prop}{s:EU}
theorem call_sorted_setG{S:E6}{kb:List (List Int×E6)}{Q:EW->EU->Prop}(hh:A.handled=none)(hu:A.units+5<JQ)(P:SP prog w s.heap S kb)(h64:kb.length<1000)(h2:∀p∈kb,p.1.length=2)
  (h:∀(h1 h':GV) (tk:Nat) (pb:PB) (e:Nat),KJ pb (ptsOf kb)→(pb.map (·.1)).Pairwise (λx y=>ltP x y=true)→(∀b o,s.heap.get? b=some o→h1.get? b=some o)→(∀b o,h1.get? b=some o→h'.get? b=some o)→h'.get? h1.objs.size=some (NG "list" (refs pb).toArray e)→Q (.ref h1.objs.size) {s with heap:=h',toks:=tk }):
  Fy (FF prog w) A (call (.builtin "sorted") [.ref S]) Q E s:=by
 obtain⟨⟨o,es,ep,t,ho,hex,hd,he,T,hl,hp,_,_⟩,hk,R0⟩:=P;have Q5:es.size=kb.length:=by rw[<-E5,he];simp[ents]
 have O:SO prog w o es ep t (kb.map λp=>hsh prog w p.1):=⟨hex,hd,T,by rw[ES,Q5],hl,hp⟩
 have two:∀p∈kb,p.1=[p.1.getD 0 0,p.1.getD 1 0]:=λp Rr=>by
  have:=h2 p Rr
  match hq:p.1,this with
  |[x,y],_=>rfl
 refine call_function_entry kind_sorted plain_sorted entry_sorted (args_sorted1 _) ?_;unfold Builtin.«sorted»;refine EN (m:=checkCount "sorted" 1 1 _) (EY ?_);refine EN (kdu_collect (A:=A.in1) (Ao O) hh ho (by rw[Q5,Hv];lia) λh' tk acc keep Sv=>?_)
 have Rv:acc.toList=cA w S es ep:=by
  apply Im;intro i;rcases GR i acc.size with z |z
  ·rw[Gi,F3 z];exact (Sv.2 i _ (F3 z)).symm
  ·rw[FK (by simpa using z),FK]
   rw[(eW w S es ep).length_eq,ES,E5,<-Sv.1];exact z
 obtain⟨T8,pk,ek⟩:=y9 (λ(p:List Int×E6)=>FG p.2) (eW w S es ep) kb (by rw[he];unfold ents;rw[FP];rfl)
 have RC:acc.toList=refs (ptsOf T8):=by
  rw[Rv,ek];unfold refs ptsOf;rw[FP];rfl
 have RT:(ptsOf T8).length=kb.length:=by unfold ptsOf;rw[ES,pk.length_eq]
 have hlenA:acc.toList.length=kb.length:=by rw[RC];simp[RT]
 refine EN (NI ?_ (by rw[hlenA,Hv];lia))
 have hD:(h'.push {cls:=.type "list",data:=.seq acc.toList.toArray }).get? h'.objs.size=some (NG "list" (refs (ptsOf T8)).toArray 0):=by
  rw[<-RC];exact Fe _ rfl
 have tk1:∀p∈ptsOf T8,TK prog w (h'.push {cls:=.type "list",data:=.seq acc.toList.toArray }) [p.1.1,p.1.2] p.2:=λp Rr=>by
  obtain⟨q,hq,rfl⟩:=EZ.mp Rr;have QT:=pk.mem_iff.mp hq;obtain⟨oq,QC,k,hoq,r⟩:=hk q QT;have e2:=two q QT;refine⟨oq,QC,k,EV _ (keep _ _ hoq),?_⟩;rw[<-e2];exact r
 have nd1:((ptsOf T8).map (·.1)).Nodup:=by
  have n1:(T8.map (·.1)).Nodup:=((pk.map (·.1)).nodup_iff).mpr R0;unfold ptsOf;rw[FP];refine FR.mpr ((FR.mp n1).imp_of_mem λ{a b} ha hb Su=>?_)
  intro z;have ea:=two a (pk.mem_iff.mp ha);have eb:=two b (pk.mem_iff.mp hb);have z':(a.1.getD 0 0,a.1.getD 1 0)=(b.1.getD 0 0,b.1.getD 1 0):=z;rw[ND]at z';rw[z'.1,z'.2]at ea;exact Su (ea.trans eb.symm)
 refine EN (Gk (GN Pg ⟨_,hD,rfl⟩ OH ?_ (Ph _)));refine SG.sort_b ST3.KP (s:={s with heap:=h'.push {cls:=.type "list",data:=.seq acc.toList.toArray },toks:=tk }) hD tk1 (by show A.units+1+1+1<JQ;lia) ((0,0),0) nd1 (by rw[Hv];lia) (λp q=>ST3.KP_det p q) λQ8 pp so=>⟨_,rfl,EY ⟨_,rfl,?_⟩⟩
 obtain⟨e,eD⟩:=sortedHeap_at (out:=(refs Q8).toArray) hD;refine h h' _ tk Q8 e (pp.trans ?_) so keep (λb x R3=>?_) eD
 ·unfold ptsOf;exact pk.map _
 ·have QL:=E_ R3;rw[Pi (FJ QL) (by rw[Hu];exact HG QL)]
  exact EV _ R3
end
end ST
namespace L2
open PySem PySem.Spec PyProof.Rows
section
variable {X:Cx}{H0:Hp}{O0:List E6}{ps:PSt}{e:Expr}{pts:List P2}{QB QP p p':Pos}
theorem g8(hc:X.calm=true)(hu:X.A.units+10<JQ)(hg:Gl X "sorted")(hm:X.mg "sorted"=none)(hgs:Gl X "set")(hms:X.mg "set"=none)(ha:Ev X H0 O0 ps e (lp pts))(hl:pts.length<1000)
  (he:E4 [e] X.env=(false,IJ e X.env)::E4 [] X.env:=by rfl):EvN X H0 O0 ps (.Call (.Name "sorted" p) [.Call (.Name "set" p') [e] [] QP] [] QB) ((ST.srt pts).map pu):=by
 rintro pins s σ H Q I ⟨O,R,q⟩;have hh:X.A.handled=none:=I.ok.hd hc;refine GH (cV I hg hm boot_sorted ?_);refine callWith_builtin1 (e:=.Call (.Name "set" p') [e] [] QP) (rest:=[]) ?_ rfl rfl;show Fy _ _ (On ((false,IJ (.Call (.Name "set" p') [e] [] QP) X.env)::HV QB (E4 [] X.env))) _ _ s;refine Je ?_;refine GH (cV I hgs hms xK ?_);refine callWith_type1 (thn (bV ha dU he QP pins s σ H (λvs H1=>∃v,vs=[v]/\aZ H H1/\Rp X.K (hid H1 O) v (lp pts)) I ⟨O,R,λv H1 s1 r1=>⟨v,rfl,s1,r1⟩⟩) λus s1 hx=>?_) he rfl
 obtain⟨vs,H1,I1,rv,v,rfl,sm,rp⟩:=hx;obtain⟨u,rfl,ru⟩:=eQ rv;cases rp with
 | @lst a ws _ hq hwl hwi=>
  cases ru;obtain⟨QC,R6,pl,hz⟩:=I1.list (SqL.of (ax _ _ hq));have hlp:ws.length=pts.length:=by rw[hwl,ES]
  have hil:QC.length=pts.length:=by rw[<-R6.length,hlp]
  have item:∀i,i<pts.length->∃b,QC[i]?=some (.ref b)/\Rp X.K (hid H1 O) (.ref b) (pu (pts.getD i (0,0)))/\ST.TK X.prog X.w s1.heap [(pts.getD i (0,0)).1,(pts.getD i (0,0)).2] b:=λi hi=>by
   have hw:ws[i]?=some ws[i]:=EO (by lia)
   have hp:(pts.map pu)[i]?=some (pu (pts.getD i (0,0))):=by rw[E7,EO hi];simp[hi]
   have r:=hwi i _ _ hw hp;obtain⟨u',e1,e2⟩:=R6.get hw;generalize ws[i]=z at *;cases r with
   | @tup b zs _ hs TY hsi=>
    cases e2;refine⟨b,e1,Rp.tup hs TY hsi,?_⟩;obtain⟨jts,rj,ht,_⟩:=I1.tuple (by exact ax.tup hs)
    have z0:zs.length=2:=TY
    match zs,z0,hsi,rj with
    |[z1,z2],_,hsi,rj=>
     have q1:=hsi 0 z1 _ rfl rfl;have q2:=hsi 1 z2 _ rfl rfl;cases q1;cases q2;obtain⟨u1,u2,rfl,r1,r2⟩:=jm rj;obtain⟨t1,rfl⟩:=r1;obtain⟨t2,rfl⟩:=r2;obtain⟨o,ho,TN,n,hod⟩:=ht;exact⟨o,_,n,ho,TN,hod,.cons (HJ _ _ _ _) (.cons (HJ _ _ _ _) .nil)⟩
  obtain⟨RF,Ub⟩:=D4 item;have Q5:QC.toArray.size=pts.length:=by simp[hil]
  refine ST.call_set_pts (λi=>([(pts.getD i (0,0)).1,(pts.getD i (0,0)).2],RF i)) hh (by show X.A.units+1+1+1<JQ;lia) pl.isList (λi z ez=>?_) (λi hi=>?_) (by rw[Q5];lia) λh2 tk kb sp got keep=>?_
  ·have hi:i<pts.length:=by have:=aH (show QC[i]?=some z by simpa using ez);lia
   have:=(Ub i hi).1;rw[show QC.toArray[i]?=QC[i]? by simp,this]at ez
   cases ez;rfl
  ·exact (Ub i (by rw[Q5]at hi;exact hi)).2.2
  ·rw[Q5]at got;have I2:Inv X pins σ H1 {s1 with heap:=h2,toks:=tk }:=I1.kept (t':=tk) keep
   refine Js ?_;have hkl:kb.length<1000:=by have:=got.len;lia
   refine ST.call_sorted_setG (s:={s1 with heap:=h2,toks:=tk }) hh (by show X.A.units+5<JQ;lia) sp hkl (λz hz=>by obtain⟨j,_,rfl⟩:=got.src z hz;rfl) λh3 h4 tk2 pb ep pm so k1 k2 hD=>?_
   have I3:Inv X pins σ H1 {s1 with heap:=h3,toks:=tk2 }:=I2.kept (t':=tk2) k1
   have src:∀z∈pb,∃j,j<pts.length/\z=(pts.getD j (0,0),RF j):=λz hz=>by
    obtain⟨y,hy,rfl⟩:=EZ.mp (pm.mem_iff.mp hz);obtain⟨j,hj,rfl⟩:=got.src y hy;exact⟨j,hj,rfl⟩
   have epts:pb.map (·.1)=ST.srt pts:=by
    refine ST.asc_one so (ST.srt_asc pts) λz=>?_
    rw[ST.srt_mem];constructor
    ·intro hz;obtain⟨y,hy,rfl⟩:=EZ.mp hz;obtain⟨j,hj,rfl⟩:=src y hy;simp[hj]
    ·intro hz;obtain⟨j,hj⟩:=Gy.mp hz;have hjl:=aH hj;have hk:=got.all j hjl;obtain⟨y,hy,ey⟩:=EZ.mp hk;have RE:((y.1.getD 0 0,y.1.getD 1 0),y.2)∈ST.ptsOf kb:=EZ.mpr ⟨y,hy,rfl⟩;have hin':=pm.mem_iff.mpr RE;refine EZ.mpr ⟨_,hin',?_⟩;rw[ey];have:pts.getD j (0,0)=z:=by rw[Fj,hj];rfl
     show ((pts.getD j (0,0)).1,(pts.getD j (0,0)).2)=z;rw[this]
   have fr:H1 h3.objs.size=none:=I3.hok.fresh (E2 _);refine⟨.ref h3.objs.size,upd H1 h3.objs.size (.lst (pb.map λz=>V.ref z.2)),?_,rfl,?_⟩
   ·refine I3.laid (t':=tk2) k2 (E2 _) ⟨?_,(ST.refs pb),ep,?_,hD⟩
    ·rw[ES,<-ES (f:=(·.1)),epts,Hv];have:=ST.srt_len pts;lia
    ·have all:∀l:ST.PB,aM (l.map λz=>V.ref z.2) (ST.refs l):=λl=>by
      induction l with
      |nil=>exact .nil
      |cons z r ih=>exact .cons rfl ih
     exact all pb
   ·refine q _ _ _ (sm.trans (aK fr _)) (sm.free fr) aV ⟨?_,λi z x e1 e2=>?_⟩
    ·rw[ES,<-epts,ES,ES]
    ·rw[<-epts,FP,E7]at e2;rw[E7]at e1;cases hpi:pb[i]? with
     |none=>rw[hpi]at e1;cases e1
     |some y=>
      rw[hpi]at e1 e2;cases e1;cases e2;obtain⟨j,hj,rfl⟩:=src y (Fs hpi);exact (Ub j hj).2.1.same (bF (aK fr _) fr)
theorem BU(l:List P2):SG.srt ST3.KP l=ST.srt l:=ST.asc_one (SG.srt_asc ST3.KP l) (ST.srt_asc l) λz=>by rw[SG.srt_mem,ST.srt_mem]
theorem kc(hg:Gl X "sorted")(hm:X.mg "sorted"=none)(hu:X.A.units+10<JQ)(ha:Ev X H0 O0 ps e (lp pts))(hl:pts.length<1000∧pts.Nodup)
  (he:E4 [e] X.env=(false,IJ e X.env)::E4 [] X.env:=by rfl):EvN X H0 O0 ps (.Call (.Name "sorted" p) [e] [] QB) ((ST.srt pts).map pu):=by
 rw[<-BU];exact o_ ST3.KP pu (0,0) (trs:=pts) Ei (λa b=>ST3.KP_det a b) hg hm hu ha hl he
end
end L2
local macro_rules | `(tactic|walk_at"sz")=>`(tactic|first |with_reducible assumption | ((with_reducible apply L2.Sz.sub') <;>walk_at"sz") | ((with_reducible apply L2.Sz.add') <;>walk_at"sz") | ((with_reducible apply L2.Sz.mul) <;>walk_at"sz") | ((with_reducible apply L2.Sz.neg) <;>walk_at"sz") | ((with_reducible apply L2.Sz.ediv) <;>walk_at"sz") | ((with_reducible apply L2.Sz.abs) <;>walk_at"sz") |exact L2.Sz.lit (m:=8) (by decide) |exact L2.Sz.emod (m:=250) (by decide) (by decide) |exact L2.Sz.lit (m:=250) (by decide))
local macro_rules | `(tactic|walk_at"mul")=>`(tactic|exact L2.Sz.ok (by walk_at"sz") (by walk_at"sz") (by decide))
local macro_rules | `(tactic|walk_at"div")=>`(tactic|first |exact⟨by decide,L2.Sz.mono (m:=250) (by decide) (by decide)⟩ |exact⟨by lia,L2.Sz.mono (by walk_at"sz") (by decide)⟩)
local macro_rules | `(tactic|walk_at"mod")=>`(tactic|first |decide |lia)
local macro_rules | `(tactic|walk_at"szb")=>`(tactic|exact L2.Sz.mono (by walk_at"sz") (by decide))
local macro_rules | `(tactic|walk_at"kit")=>`(tactic|first |exact L2.kit_int_int _ |exact L2.kit_int_bool _ |exact L2.kit_tuple_tuple _ |exact L2.kit_list_list _ |exact L2.kit_bool_int _ |exact L2.kit_list_tuple _ |rfl)
local macro_rules | `(tactic|walk_at"ok")=>`(tactic|first |rfl |decide)
local macro_rules | `(tactic|walk_at"sub")=>`(tactic|first |exact trivial | (refine⟨rfl,?_⟩;walk_at"sub") | (with_reducible apply L2.SubP.skip;walk_at"sub"))
local macro_rules | `(tactic|walk_at"len")=>`(tactic|first |decide | (simp only[List.length_append,List.length_cons,List.length_nil,List.length_map];decide))
namespace My
open PySem PySem.Spec PyProof.Rows L2
def top(i:Nat):HL:=PySem.Challenge.pw_stakefield_k30_refused_counts_and_stakes.main.body.getD i (.Pass ⟨0,0,0,0⟩)
abbrev jQ:HL:=top 15
abbrev yt:HL:=top 16
abbrev oQ:HL:=top 17
abbrev yO:HL:=top 19
abbrev iZ:HL:=top 20
abbrev jp:HL:=top 21
abbrev o8:HL:=top 22
abbrev tw:HL:=top 23
abbrev kR:HL:=top 24
abbrev sQ:HL:=top 25
abbrev uM:HL:=top 26
abbrev xB:HL:=top 28
abbrev iI:HL:=top 29
abbrev tq:HL:=top 30
abbrev uJ:HL:=top 31
abbrev eN:HL:=top 32
abbrev wj:HL:=top 33
abbrev eO:HL:=top 34
abbrev qX:HL:=top 36
abbrev kB:HL:=top 38
abbrev jb:HL:=top 39
abbrev bG:HL:=top 40
abbrev eo:HL:=top 41
abbrev ku:HL:=top 44
abbrev gD:HL:=top 45
abbrev ph:HL:=top 46
abbrev mG:HL:=top 47
abbrev qj:HL:=top 48
abbrev fZ:HL:=top 50
abbrev iD:HL:=top 51
abbrev f_:HL:=top 52
abbrev jn:HL:=top 53
abbrev ko:HL:=top 54
abbrev fv:HL:=top 55
abbrev fB:HL:=top 56
abbrev eU:HL:=top 57
abbrev ip:HL:=top 58
abbrev fJ:HL:=top 59
abbrev fQ:HL:=top 60
abbrev Be:HL:=top 61
theorem o9:av ["thing"] ["thing"] (aq jQ):=by walk_at"sC"
theorem Ag:av ["number"] ["number"] (aq yt):=by walk_at"sC"
theorem bJ:av ["a","b","high","high_times","low","low_times","fits","rest","rest_times","s"] ["a","b"] (aq oQ):=by walk_at"sC"
theorem Ac:av ["move"] ["move"] (aq yO):=by walk_at"sC"
theorem kA:av ["thing","number"] ["thing"] (aq iZ):=by walk_at"sC"
theorem mO:av ["thing"] ["thing"] (aq jp):=by walk_at"sC"
theorem vJ:av ["P","move"] ["P","move"] (aq o8):=by walk_at"sC"
theorem qg:av ["P","move","place"] ["P","move"] (aq tw):=by walk_at"sC"
theorem cN:av ["move","side","a","b","c","d"] ["move"] (aq kR):=by walk_at"sC"
theorem xJ:av ["P","Q"] ["P","Q"] (aq sQ):=by walk_at"sC"
theorem d4:av ["P","Q","far","u","v","parts","s","t"] ["P","Q"] (aq uM):=by walk_at"sC"
theorem A1:av ["P","Q","R"] ["P","Q","R"] (aq xB):=by walk_at"sC"
theorem eG:av ["row","kept","P"] ["row"] (aq iI):=by walk_at"sC"
theorem gg:av ["points","row","there","back"] ["points"] (aq tq):=by walk_at"sC"
theorem xn:av ["land"] ["land"] (aq uJ):=by walk_at"sC"
theorem dR:av ["land","A","B"] ["land"] (aq eN):=by walk_at"sC"
theorem qA:av ["land","A","B"] ["land"] (aq wj):=by walk_at"sC"
theorem fR:av ["land","move","P"] ["land","move"] (aq eO):=by walk_at"sC"
theorem sW:av ["land","k","P"] ["land","k"] (aq qX):=by walk_at"sC"
theorem qr:av ["land","k"] ["land","k"] (aq kB):=by walk_at"sC"
theorem og:av ["land"] ["land"] (aq jb):=by walk_at"sC"
theorem kq:av ["land","k"] ["land","k"] (aq bG):=by walk_at"sC"
theorem kH:av ["land","k","many"] ["land","k"] (aq eo):=by walk_at"sC"
theorem cg:av ["land","y","begins","ends","A","B","rise","run"] ["land","y"] (aq ku):=by walk_at"sC"
theorem b7:av ["land","move","levelled","back","found","y","ends","x","P"] ["land"] (aq gD):=by walk_at"sC"
theorem uR:av ["land"] ["land"] (aq ph):=by walk_at"sC"
theorem fD:av ["row","hand","kept","cut","P"] ["row","hand"] (aq mG):=by walk_at"sC"
theorem i9:av ["land","row"] ["land"] (aq qj):=by walk_at"sC"
theorem jt:av ["script","k"] ["script","k"] (aq fZ):=by walk_at"sC"
theorem gQ:av ["one","two","three","made"] ["one","two","three"] (aq iD):=by walk_at"sC"
theorem bC:av ["points","row","found","way","half","spot"] ["points"] (aq f_):=by walk_at"sC"
theorem ov:av ["cell","small"] ["cell","small"] (aq jn):=by walk_at"sC"
theorem bQ:av ["spot","script","x","y","shape","right","above"] ["spot","script"] (aq ko):=by walk_at"sC"
theorem aE:av ["script","shape","p","q","other","tips","spots","many","wide","spot"] ["script"] (aq fv):=by walk_at"sC"
theorem c4:av ["script","p","q","spot"] ["script"] (aq fB):=by walk_at"sC"
theorem bj:av ["ends","k","one","two","e"] ["ends","k"] (aq eU):=by walk_at"sC"
theorem aX:av ["ends","way","kinds","e"] ["ends","way"] (aq ip):=by walk_at"sC"
theorem cW:av ["ends","due","handed"] ["ends"] (aq fJ):=by walk_at"sC"
theorem cL:av ["ends","cells","some","k"] ["ends","cells"] (aq fQ):=by walk_at"sC"
theorem gW:av ["script","ends","many","wide","handed","found","made"] ["script"] (aq Be):=by walk_at"sC"
set_option genInjectivity false in
set_option genSizeOf false in
set_option genSizeOfSpec false in
structure Txt(w:FE)(K:ER)(mg:Str->Option EW) where
 aaO:Dfn K mg "is_whole" jQ ["thing"]
 aa7:Dfn K mg "sign" yt ["number"]
 aaM:Dfn K mg "shares" oQ ["a","b"]
 aa8:Dfn K mg "hand" yO ["move"]
 aaZ:Dfn K mg "is_move" iZ ["thing"]
 aal:Dfn K mg "need_move" jp ["thing"]
 aa6:Dfn K mg "turned" o8 ["P","move"]
 aa3:Dfn K mg "moved" tw ["P","move"]
 aaP:Dfn K mg "way_back" kR ["move"]
 aaD:Dfn K mg "steps" sQ ["P","Q"]
 abc:Dfn K mg "level" uM ["P","Q"]
 aa9:Dfn K mg "turn" xB ["P","Q","R"]
 aai:Dfn K mg "left_bends" iI ["row"]
 aaE:Dfn K mg "field" tq ["points"]
 aaF:Dfn K mg "sides" uJ ["land"]
 aaq:Dfn K mg "double_area" eN ["land"]
 abp:Dfn K mg "rim" wj ["land"]
 aar:Dfn K mg "field_moved" eO ["land","move"]
 abm:Dfn K mg "fold" qX ["land","k"]
 aah:Dfn K mg "multiple" kB ["land","k"]
 aam:Dfn K mg "points_in" jb ["land"]
 aas:DfD K mg "inner_count" bG ["land","k"] 1
 aaG:DfD K mg "count" eo ["land","k"] 1
 aaQ:Dfn K mg "row_ends" ku ["land","y"]
 aa0:Dfn K mg "by_rows" gD ["land"]
 aan:Dfn K mg "stakes" ph ["land"]
 aax:Dfn K mg "cut_off" mG ["row","hand"]
 aaN:Dfn K mg "pieces" qj ["land"]
 aaa:Dfn K mg "_law_cell_at" fZ ["script","k"]
 aau:Dfn K mg "_law_cross" iD ["one","two","three"]
 aag:Dfn K mg "_law_corners" f_ ["points"]
 aao:Dfn K mg "_law_lean" jn ["cell","small"]
 aat:Dfn K mg "_law_put" ko ["spot","script"]
 aav:Dfn K mg "_law_drawn" fv ["script"]
 aaw:Dfn K mg "_law_great" fB ["script"]
 aae:Dfn K mg "_law_no_number" eU ["ends","k"]
 aaj:Dfn K mg "_law_kinds" ip ["ends","way"]
 aaf:Dfn K mg "_law_too_many" fJ ["ends"]
 aap:Dfn K mg "_law_numbers" fQ ["ends","cells"]
 abw:Dfn K mg "law" Be ["script"]
 abn:Exn mg "Flat"
 abg:Exn mg "NoField"
 abh:Exn mg "NoHeart"
 abq:Exn mg "NoMove"
 abr:Exn mg "NoName"
 aad:Exn mg "NoNumber"
 abx:Ny K aad.c [.type "ValueError",.type "Exception",.type "BaseException",.type "object"] "ValueError.__new__"=true
 abv:Exn mg "NoRow"
 abt:Exn mg "NoText"
 abi:Exn mg "NoWedge"
 abd:Exn mg "NotThere"
 aak:Exn mg "StakeError"
 abe:Exn mg "TooGreat"
 aac:Exn mg "TooMany"
 abz:Ny K aac.c [.type "ValueError",.type "Exception",.type "BaseException",.type "object"] "ValueError.__new__"=true
 aaV:mg "ValueError"=none
 abB:mg "abs"=none
 abH:mg "all"=none
 abE:mg "bool"=none
 abI:mg "int"=none
 aab:mg "isinstance"=none
 aaH:mg "len"=none
 abf:mg "list"=none
 abC:mg "max"=none
 abF:mg "min"=none
 abu:mg "range"=none
 aby:mg "reversed"=none
 abD:mg "set"=none
 aa4:mg "sorted"=none
 abG:mg "sum"=none
 abA:mg "tuple"=none
 abJ:mg "zip"=none
 abj:K0 K aad.c (.type "BaseException")=some true
 aa_:K0 K aak.c (.type "BaseException")=some true
 aa1:FU K (.ref aad.c) (.ref abn.c)=some false
 aay:FU K (.ref aad.c) (.ref aak.c)=some true
 aaI:FU K (.ref aad.c) (.ref aac.c)=some false
 aaz:FU K (.ref aad.c) (.type "ValueError")=some true
 aa5:FU K (.ref aac.c) (.ref abn.c)=some false
 aaR:FU K (.ref aac.c) (.ref abg.c)=some false
 aaS:FU K (.ref aac.c) (.ref abh.c)=some false
 aaW:FU K (.ref aac.c) (.ref abq.c)=some false
 aaX:FU K (.ref aac.c) (.ref abr.c)=some false
 aaJ:FU K (.ref aac.c) (.ref aad.c)=some false
 aa2:FU K (.ref aac.c) (.ref abv.c)=some false
 aaY:FU K (.ref aac.c) (.ref abt.c)=some false
 aaT:FU K (.ref aac.c) (.ref abi.c)=some false
 aaK:FU K (.ref aac.c) (.ref abd.c)=some false
 aaL:FU K (.ref aac.c) (.ref abe.c)=some false
 aaU:FU K (.ref aac.c) (.ref aac.c)=some true
 aaA:FU K (.ref aac.c) (.type "ValueError")=some true
 aaC:K0 K aad.c (.ref aad.c)=some true
 aaB:K0 K aac.c (.ref aak.c)=some true
 abk:Pj K (.ref aad.c)=some (.type "type")
 aba:Pj K (.ref aak.c)=some (.type "type")
 abl:PySem.W.XcOk K aad.c
 abo:PySem.W.XcOk K aac.c
 abb:∃t,mg "MOST_STAKES"=some (.int 100 t)
section
variable {P:E8}{w:FE}{K:ER}{mg:Str→Option EW}{base:GV}
def sgn(n:Int):Int:=if 0<n then 1 else if n<0 then -1 else 0
def b8(b:Int):Int:=if b<0 then -b else b
theorem di(b:Int):b8 b=(b.natAbs:Int):=by unfold b8;split <;>lia
theorem iS{b:Int}(h:b≠0):0<b8 b:=by unfold b8;split <;>lia
theorem df(d b:Int):d ∣ b8 b↔d ∣ b:=by
 unfold b8;split
 ·exact Lg
 ·exact Iff.rfl
theorem yM(d b:Int):b8 b ∣ d↔b ∣ d:=by
 unfold b8;split
 ·exact Int.neg_dvd
 ·exact Iff.rfl
structure jh(a b high ht low lt:Int):Prop where
 hp:0<high
 lo0:0<=low
 lolt:low<high
 dv:∀d,(d ∣ high/\d ∣ low)↔(d ∣ a/\d ∣ b)
 ch:b ∣ ht*a-high
 cl:b ∣ lt*a-low
 bd:ht.natAbs*low.natAbs+lt.natAbs*high.natAbs<=b.natAbs
 hi:high.natAbs<=b.natAbs
theorem qx{a b:Int}(hb:b≠0):jh a b (b8 b) 0 (a%b8 b) 1:=by
 have h0:=iS hb;refine⟨h0,Gs _ (by lia),Gb _ h0,λd=>?_,?_,?_,?_,by rw[di];simp⟩
 ·rw[df];constructor
  ·rintro ⟨h1,h2⟩;refine⟨?_,h1⟩;have e:=Gj a (b8 b);rw[<-e];exact IY h2 (FQ ((df d b).mpr h1) (G9 _ _))
  ·rintro ⟨h1,h2⟩;refine⟨h2,?_⟩;have e:a%b8 b=a-b8 b*(a/b8 b):=by have:=Gj a (b8 b);lia
   rw[e];exact Lh h1 (FQ ((df d b).mpr h2) (G9 _ _))
 ·rw[Ih,Int.zero_sub,Lg];exact (df b b).mpr (JY b)
 ·have e:1*a-a%b8 b=b8 b*(a/b8 b):=by have:=Gj a (b8 b);lia
  rw[e];exact FQ ((df b b).mpr (JY b)) (G9 _ _)
 ·rw[di];simp
theorem tU{a b high ht low lt:Int}(I:jh a b high ht low lt)(h:low≠0):jh a b low lt (high-high/low*low) (ht-high/low*lt)/\high-high/low*low<low:=by
 obtain⟨hp,lo0,lolt,dv,ch,cl,bd,hi⟩:=I;have hl:0<low:=by lia
 have e:=Gj high low;have r0:=Gs high h;have r1:=Gb high hl;have hf:0<=high/low:=OJ (by lia) (by lia)
 have er:high-high/low*low=high%low:=by rw[IA];lia
 rw[er];refine⟨⟨hl,r0,r1,λd=>?_,cl,?_,?_,by lia⟩,r1⟩
 ·rw[<-dv d];constructor
  ·rintro ⟨h1,h2⟩;refine⟨?_,h1⟩;rw[<-e];exact IY h2 (FQ h1 (G9 _ _))
  ·rintro ⟨h1,h2⟩;refine⟨h2,?_⟩;rw[show high%low=high-low*(high/low) by lia]
   exact Lh h1 (FQ h2 (G9 _ _))
 ·have e2:(ht-high/low*lt) *a-high%low=(ht*a-high)-(high/low) *(lt*a-low):=by grind
  rw[e2];exact Lh ch (FQ cl (F9 _ _))
 ·have n1:(ht-high/low*lt).natAbs<=ht.natAbs+(high/low).natAbs*lt.natAbs:=by
   have:=Int.natAbs_sub_le ht (high/low*lt);rw[KB]at this;exact this
  have n2:high.natAbs=(high%low).natAbs+low.natAbs*(high/low).natAbs:=by
   have:(high.natAbs:Int)=((high%low).natAbs+low.natAbs*(high/low).natAbs:Nat):=by
    push_cast
    rw[JD r0,JD hf,JD (by lia:0<=high),JD lo0]
    lia
   lia
  have n3:(ht-high/low*lt).natAbs*low.natAbs<=(ht.natAbs+(high/low).natAbs*lt.natAbs) *low.natAbs:=M9 _ n1;rw[n2]at bd;refine GY ?_ bd;generalize (ht-high/low*lt).natAbs=A at *;generalize ht.natAbs=B at *;generalize lt.natAbs=C at *;generalize low.natAbs=D at *;generalize (high/low).natAbs=E at *;generalize (high%low).natAbs=F at *;grind
structure fE(a b g s t:Int):Prop where
 g0:0<=g
 eq:s*a+t*b=g
 da:g ∣ a
 db:g ∣ b
 z:b=0->t=0/\s=sgn a/\g=b8 a
 nz:b≠0->0<g/\0<=s/\s<b8 b/g
theorem lQ(a:Int):fE a 0 (b8 a) (sgn a) 0:=by
 refine⟨by unfold b8;split <;>lia,?_,(yM a a).mpr (JY a),Qf _,λ_=>⟨rfl,rfl,rfl⟩,λh=>absurd rfl h⟩
 unfold sgn b8;split
 ·split <;>lia
 ·split
  ·lia
  ·lia
theorem wP{a b high ht lt:Int}(hb:b≠0)(I:jh a b high ht 0 lt):fE a b high (ht%(b8 b/high)) ((high-ht%(b8 b/high) *a).fdiv b):=by
 obtain⟨hp,lo0,lolt,dv,ch,cl,bd,hi⟩:=I;obtain⟨ga,gb⟩:=(dv high).mp ⟨JY _,Qf _⟩;obtain⟨a',rfl⟩:=ga;have gb2:high ∣ b8 b:=(df _ _).mpr gb;obtain⟨b',R3⟩:=gb2;have To:=iS hb;have hq:b8 b/high=b':=by rw[R3,Hr _ (by lia)]
 have hb1:0<b':=by
  have:0<high*b':=by lia
  exact GG this (by lia)
 rw[hq];have es:=Gj ht b'
 have key:b ∣ high-ht%b'*(high*a'):=by
  have e:high-ht%b'*(high*a')=-(ht*(high*a')-high)+b8 b*(a'*(ht/b')):=by
   rw[R3,show ht%b'=ht-b'*(ht/b') by lia];grind
  rw[e];refine IY (Lg.mpr ch) (FQ ((df b b).mpr (JY b)) (G9 _ _))
 refine⟨by lia,?_,G9 _ _,gb,λh=>absurd h hb,λ_=>⟨hp,Gs _ (by lia),?_⟩⟩
 ·obtain⟨c,hc⟩:=key;rw[hc,Int.mul_fdiv_cancel_left _ hb,IA c b];lia
 ·rw[hq];exact Gb _ hb1
theorem Ds{a b high ht low lt:Int}(I:jh a b high ht low lt):lt.natAbs<=b.natAbs:=by
 have h1:1<=high.natAbs:=by have:=I.hp;lia
 have h2:lt.natAbs*1<=lt.natAbs*high.natAbs:=Nat.mul_le_mul_left _ h1;have:=I.bd;lia
theorem y6{a b g s t g' s' t':Int}(h:fE a b g s t)(h':fE a b g' s' t'):g=g'/\s=s'/\t=t':=by
 have d1:g ∣ g':=by rw[<-h'.eq];exact IY (FQ h.da (F9 _ _)) (FQ h.db (F9 _ _))
 have d2:g' ∣ g:=by rw[<-h.eq];exact IY (FQ h'.da (F9 _ _)) (FQ h'.db (F9 _ _))
 have eg:g=g':=Mn h.g0 h'.g0 d1 d2;subst eg;by_cases hb:b=0
 ·obtain⟨h1,h2,_⟩:=h.z hb;obtain⟨k1,k2,_⟩:=h'.z hb;exact⟨rfl,by lia,by lia⟩
 ·obtain⟨p,s0,s1⟩:=h.nz hb;obtain⟨_,s0',s1'⟩:=h'.nz hb;obtain⟨a',ha⟩:=h.da;obtain⟨b',R3⟩:=(df g b).mpr h.db;obtain⟨b'',Tc⟩:=h.db;have hq:b8 b/g=b':=by rw[R3,Hr _ (by lia)]
  rw[hq]at s1 s1';have e1:=h.eq;have e2:=h'.eq;have bz:b''≠0:=by intro z;rw[z,HS]at Tc;exact hb Tc
  have k1:s*a'+t*b''=1:=by
   have:g*(s*a'+t*b'')=g*1:=by rw[ha,Tc]at e1;grind
   exact Gg (by lia) this
  have k2:s'*a'+t'*b''=1:=by
   have:g*(s'*a'+t'*b'')=g*1:=by rw[ha,Tc]at e2;grind
   exact Gg (by lia) this
  have k3:b'' ∣ s-s':=by
   refine⟨s*(t'-t)+t*(s-s'),?_⟩;grind
  have k4:b' ∣ s-s':=by
   have:b'.natAbs=b''.natAbs:=by
    have q1:(b8 b).natAbs=b.natAbs:=by rw[di];simp
    rw[R3,Tc]at q1;rw[KB,KB]at q1;exact Nat.eq_of_mul_eq_mul_left (by lia) q1
   exact KL.mp (by rw[this];exact KL.mpr k3)
  have k5:s=s':=by
   have:s-s'=0:=Int.eq_zero_of_dvd_of_natAbs_lt_natAbs k4 (by lia)
   lia
  subst k5;refine⟨rfl,rfl,?_⟩;have:b*t=b*t':=by grind
  exact Gg hb this
theorem Bo{a b:Int}(hb:b≠0):∀(n:Nat) (high ht low lt:Int),low.toNat<=n->jh a b high ht low lt->∃high' ht' lt',jh a b high' ht' 0 lt'
 |0,high,ht,low,lt,hn,I=>by
  have:low=0:=by have:=I.lo0;lia
  subst this;exact⟨_,_,_,I⟩
 |n+1,high,ht,low,lt,hn,I=>by
  by_cases h:low=0
  ·subst h;exact⟨_,_,_,I⟩
  ·obtain⟨I2,less⟩:=tU I h;have:=I2.lo0;exact Bo hb n _ _ _ _ (by have:=I.lo0;lia) I2
theorem jH(a b:Int):∃g s t,fE a b g s t:=by
 by_cases hb:b=0
 ·subst hb;exact⟨_,_,_,lQ a⟩
 ·obtain⟨h,ht,lt,I⟩:=Bo hb _ _ _ _ _ (E2 _) (qx (a:=a) hb);exact⟨_,_,_,wP hb I⟩
theorem mR{m:Nat}{a b g s t:Int}(G:fE a b g s t)(sa:Sz m a)(sb:Sz m b):Sz (m+8) g/\Sz (m+8) s/\Sz (2*m+8) t:=by
 by_cases hb:b=0
 ·subst hb;obtain⟨h1,h2,h3⟩:=G.z rfl;rw[h1,h2,h3];have s1:Sz 8 (sgn a):=by unfold Sz sgn;split;decide;split <;>decide
  exact⟨(Sz.abs sa).mono (by lia),s1.mono (by lia),Sz.mono (m:=8) (by decide) (by lia)⟩
 ·obtain⟨g0,s0,s1⟩:=G.nz hb;have h1:b8 b/g<=b8 b:=Oi _ (by have:=iS hb;lia)
  have h2:=di b
  have sg:Sz m g:=by
   refine sb.natle ?_;exact Nat.le_of_dvd (by lia) (KL.mpr G.db)
  have ss:Sz m s:=sb.natle (by lia)
  refine⟨sg.mono (by lia),ss.mono (by lia),?_⟩
  have e:t*b=g-s*a:=by have:=G.eq;lia
  have q:Sz (2*m+1) (t*b):=by
   rw[e];have:Sz (m+m) (s*a):=ss.mul sa;have h3:=(sg.mono (show m<=m+m by lia)).sub this
   exact h3.mono (by lia)
  refine (Sz.mono (m:=2*m+1) ?_ (by lia))
  unfold Sz at *;rw[KB]at q;have:1<=b.natAbs:=by lia
  exact Lx (Nat.le_mul_of_pos_right _ this) q
def u8:List U->Out->Prop:=λus o=>∃n:Int,us=[.int n]/\o=.val (.int (sgn n))
theorem sX(T:Txt w K mg):ba P w K mg base (CXF P w) 1 T.aa7.a T.aa7.d ["number"] (spU K (u8)):=by
 refine bo T.aa7.F Ag (λus o h=>?_) (λQK A outer s H E O us o hr h=>?_)
 ·obtain⟨n,rfl,rfl⟩:=h;rfl
 obtain⟨n,rfl,rfl⟩:=h;refine Ws.nox ?_;refine af (lv (aR gI (aa 0 rfl) ag) (λhT=>?_) (λhF=>(aI ?_)))
 ·refine af (bp ag ?_);exact vIO (by unfold sgn;rw[if_pos (dTb hT)])
 ·refine af (lv (aR jv (aa 0 rfl) ag) (λhT=>?_) (λhF=>(aI ?_)))
  ·refine af (bp (bZ ag) ?_);exact vIO (by unfold sgn;rw[if_neg (dFb hF),if_pos (dTb hT)])
  ·rename_i hF2
   refine af (bp ag ?_);exact vIO (by unfold sgn;rw[if_neg (dFb hF),if_neg (dFb hF2)])
def oM:List U->Out->Prop:=λus o=>∃a b g s t:Int,us=[.int a,.int b]/\Sz 4000 a/\Sz 4000 b/\fE a b g s t/\o=.val (.tup [.int g,.int s,.int t])
theorem p9{a b g s t g' s' t':Int}(G:fE a b g s t)(G':fE a b g' s' t'):Out.val (.tup [.int g,.int s,.int t])=Out.val (.tup [.int g',.int s',.int t']):=by
 obtain⟨rfl,rfl,rfl⟩:=y6 G G';rfl
theorem mF(T:Txt w K mg):ba P w K mg base (CXF P w) 2 T.aaM.a T.aaM.d ["a","b"] (spU K (oM)):=by
 refine bo T.aaM.F bJ (λus o h=>?_) (λQK A outer s H E O us o hr h=>?_)
 ·obtain⟨a,b,g,s,t,rfl,sa,sb,G,rfl⟩:=h;rfl
 obtain⟨a,b,g,s,t,rfl,sa,sb,G,rfl⟩:=h;refine Ws.nox ?_;refine af (lv (aR cB (aa 1 rfl) ag) (λhT=>?_) (λhF=>(aI ?_)))
 ·have hb:b=0:=dTb hT;subst hb;refine af (bp (bq (ak (aG zf rfl T.abB PyProof.Rows.boot_abs (ai (aa 0 rfl) au aj)) (ak (aA ((sX T).mono (by decide)) hr rfl T.aa7.m T.aa7.F.kp T.aa7.b ay (ai (aa 0 rfl) au aj) ⟨_,rfl,rfl⟩) (ak ag aF aC) aB) aB)) ?_)
  exact p9 (lQ a) G
 ·have hb:b≠0:=dFb hF;have hp0:=iS hb;have sab:Sz 4000 (b8 b):=Sz.abs sb;refine af (aw (i:=2) bJ.nd rfl (Or.inl rfl) (aG zf rfl T.abB PyProof.Rows.boot_abs (ai (aa 1 rfl) au aj)) ?_);refine af (aw (i:=3) bJ.nd rfl (Or.inl rfl) ag ?_);refine af (aw (i:=4) bJ.nd rfl (Or.inl rfl) (cf (aa 0 rfl) (aa 2 rfl) hp0) ?_);refine af (aw (i:=5) bJ.nd rfl (Or.inl rfl) ag ?_);refine af (iK (λm:Int×Int×Int×Int=>[some (.val (.int a)),some (.val (.int b)),some (.val (.int m.1)),some (.val (.int m.2.1)),some (.val (.int m.2.2.1)),some (.val (.int m.2.2.2)),none,none,none,none]) (λn m=>n=m.2.2.1.toNat/\jh a b m.1 m.2.1 m.2.2.1 m.2.2.2) PassesOwn.never ?h0 ?hs)
  case h0=>exact⟨_,(_,_,_,_),⟨rfl,qx hb⟩,rfl,rfl,rfl,rfl,rfl,rfl,trivial⟩
  case hs=>
   rintro m ⟨high,ht,low,lt⟩ ⟨rfl,I⟩;dsimp only at I |-;have hl0:=I.lo0;have RC:=I.lolt;have sh:Sz 4000 high:=sb.natle I.hi;have sl:Sz 4000 low:=sh.natle (by lia)
   have slt:Sz 4000 lt:=sb.natle (Ds I);refine⟨_,(aR A6 (aa 4 rfl) ag),λh=>?_,λh ps QV=>?_⟩
   ·have hl:low≠0:=nTb h;obtain⟨I2,less⟩:=tU I hl;have QL:(high-high/low*low).toNat<low.toNat:=by clear h;lia
    refine af (aw (i:=6) bJ.nd rfl (Or.inl rfl) (cT (aa 2 rfl) (aa 4 rfl) (by walk_at"div")) ?_)
    have sf:Sz 4000 (high/low):=sh.ediv;refine af (aw (i:=7) bJ.nd rfl (Or.inl rfl) (bL (aa 2 rfl) (bn (aa 6 rfl) (aa 4 rfl) (by walk_at"mul"))) ?_)
    refine af (aw (i:=8) bJ.nd rfl (Or.inl rfl) (bL (aa 3 rfl) (bn (aa 6 rfl) (aa 5 rfl) (by walk_at"mul"))) ?_)
    refine af (aw (i:=2) bJ.nd rfl (Or.inl rfl) (aa 4 rfl) ?_);refine af (aw (i:=3) bJ.nd rfl (Or.inl rfl) (aa 5 rfl) ?_);refine af (aw (i:=4) bJ.nd rfl (Or.inl rfl) (aa 7 rfl) ?_);refine af (aw (i:=5) bJ.nd rfl (Or.inl rfl) (aa 8 rfl) (aI ?_));exact⟨_,(_,_,_,_),QL,⟨rfl,I2⟩,rfl,rfl,rfl,rfl,rfl,rfl,trivial⟩
   ·have hl:low=0:=nFb h;subst hl;refine dk ?_ QV;have G2:=wP hb I;obtain⟨g0,s0,s1⟩:=G2.nz hb;have hm:0<b8 b/high:=by lia
    have hg:0<high:=I.hp
    have ss:Sz 4000 (ht%(b8 b/high)):=by
     refine sb.natle ?_;have h1:b8 b/high<=b8 b:=Oi _ (by lia)
     have h2:=di b;lia
    refine af (aw (i:=9) bJ.nd rfl (Or.inl rfl) (cf (aa 3 rfl) (cT (aG zf rfl T.abB PyProof.Rows.boot_abs (ai (aa 1 rfl) au aj)) (aa 2 rfl) ⟨hg,sh.mono (by decide)⟩) hm) ?_)
    refine af (bp (bq (ak (aa 2 rfl) (ak (aa 9 rfl) (ak (BP (bL (aa 2 rfl) (bn (aa 9 rfl) (aa 0 rfl) (Sz.ok ss sa (by decide)))) (aa 1 rfl) ⟨hb,sb.mono (by decide)⟩) aF bN) aj) aj)) ?_)
    exact p9 G2 G
abbrev mv(a b c d e f:Int):U:=.tup [.int a,.int b,.int c,.int d,.int e,.int f]
structure Mv(a b c d e f:Int):Prop where
 u:a*d-b*c=1\/a*d-b*c=-1
 a:Sz 30000 a
 b:Sz 30000 b
 c:Sz 30000 c
 d:Sz 30000 d
 e:Sz 30000 e
 f:Sz 30000 f
def q_:List U->Out->Prop:=λus o=>∃n:Int,us=[.int n]/\o=.val (.bl true)
theorem qe(T:Txt w K mg):ba P w K mg base (CXF P w) 1 T.aaO.a T.aaO.d ["thing"] (spU K (q_)):=by
 refine bo T.aaO.F o9 (λus o h=>?_) (λQK A outer s H E O us o hr h=>?_)
 ·obtain⟨n,rfl,rfl⟩:=h;rfl
 obtain⟨n,rfl,rfl⟩:=h;refine Ws.nox ?_;refine af (bp (jd (aG (gi (by intro _ h;cases h) (by walk_at"kit")) rfl T.aab Fl (ai (aa 0 rfl) (ai (nO rfl T.abI boot_int) au aj) aj)) (λhz=>(o7 (D7 (aG (gi (by intro _ h;cases h) (by walk_at"kit")) rfl T.aab Fl (ai (aa 0 rfl) (ai (nO rfl T.abE boot_bool) au aj) aj)))))) ?_);exact rfl
def vc:List U->Out->Prop:=λus o=>∃a b c d e f,us=[mv a b c d e f]/\Sz 30000 a/\Sz 30000 b/\Sz 30000 c/\Sz 30000 d/\o=.val (.int (a*d-b*c))
theorem sT(T:Txt w K mg):ba P w K mg base (CXF P w) 1 T.aa8.a T.aa8.d ["move"] (spU K (vc)):=by
 refine bo T.aa8.F Ac (λus o h=>?_) (λQK A outer s H E O us o hr h=>?_)
 ·obtain⟨a,b,c,d,e,f,rfl,sa,sb,sc,sd,rfl⟩:=h;rfl
 obtain⟨a,b,c,d,e,f,rfl,sa,sb,sc,sd,rfl⟩:=h;refine Ws.nox ?_;refine af (bp (bL (bn (aJ (aa 0 rfl) ag rfl rfl) (aJ (aa 0 rfl) ag rfl rfl) (by walk_at"mul")) (bn (aJ (aa 0 rfl) ag rfl rfl) (aJ (aa 0 rfl) ag rfl rfl) (by walk_at"mul"))) ?_);exact rfl
def nL:List U->Out->Prop:=λus o=>∃a b c d e f,us=[mv a b c d e f]/\Mv a b c d e f/\o=.val (.bl true)
theorem sq(T:Txt w K mg):ba P w K mg base (CXF P w) 2 T.aaZ.a T.aaZ.d ["thing"] (spU K (nL)):=by
 refine bo T.aaZ.F kA (λus o h=>?_) (λQK A outer s H E O us o hr h=>?_)
 ·obtain⟨a,b,c,d,e,f,rfl,M,rfl⟩:=h;rfl
 obtain⟨a,b,c,d,e,f,rfl,M,rfl⟩:=h;refine Ws.nox ?_;refine af (cE (Tw.t (Dk (jW (iG (aG (gi (by intro _ h;cases h) rfl) rfl T.aab Fl (ai (aa 0 rfl) (ai (nO rfl T.abA boot_tuple) au aj) aj)))) (λhz=>(BA (aR A6 (aG (dS rfl) rfl T.aaH GA (ai (aa 0 rfl) au aj)) ag))))) rfl (aI ?_))
 refine af (cE (jW (iG (aG (Dm rfl (bs:=[true,true,true,true,true,true])) rfl T.abH boot_all (ai (EvN.ev (e_  rfl (blk (aq iZ) ["thing","number"] [1] rfl rfl rfl rfl (by decide+kernel)) (DK (aa 0 rfl)) (λ_ _ _ _=>bv (i:=1) kA.nd rfl (Or.inl rfl)) (d8 (by decide)) ?clen ?csz (λ_ _=>trivial) ?celt)) au eE)))) rfl (aI ?_))
 case clen=>rfl
 case csz=>show 6<=sizeLine;decide
 case celt=>
  intro C s' H' fp i x y hx hy
  have k:∃n:Int,x=.int n/\y=.bl true:=by
   match i,hx,hy with
   |0,hx,hy=>cases hx;cases hy;exact⟨a,rfl,rfl⟩
   |1,hx,hy=>cases hx;cases hy;exact⟨b,rfl,rfl⟩
   |2,hx,hy=>cases hx;cases hy;exact⟨c,rfl,rfl⟩
   |3,hx,hy=>cases hx;cases hy;exact⟨d,rfl,rfl⟩
   |4,hx,hy=>cases hx;cases hy;exact⟨e,rfl,rfl⟩
   |5,hx,hy=>cases hx;cases hy;exact⟨f,rfl,rfl⟩
   |i+6,hx,hy=>cases hx
  obtain⟨n,rfl,rfl⟩:=k;exact (aA ((qe T).mono (by decide)) hr rfl T.aaO.m T.aaO.F.kp T.aaO.b ay (ai (aa 1 rfl) au aj) ⟨n,rfl,rfl⟩)
 refine af (bp (eP (Eg rfl rfl rfl) (aA ((sT T).mono (by decide)) hr rfl T.aa8.m T.aa8.F.kp T.aa8.b ay (ai (aa 0 rfl) au aj) ⟨a,b,c,d,e,f,rfl,M.a,M.b,M.c,M.d,rfl⟩) (bq (ak ag (ak (bZ ag) aF g6) aC))) ?_)
 refine vB ?_;show inV (fl (.int (a*d-b*c))) ([U.int 1,.int (-1)].map fl)=_;rcases M.u with h |h <;>rw[h] <;>rfl
def u6:List U->Out->Prop:=λus o=>∃a b c d e f,us=[mv a b c d e f]/\Mv a b c d e f/\o=.val .non
theorem ix(T:Txt w K mg):ba P w K mg base (CXF P w) 3 T.aal.a T.aal.d ["thing"] (spU K (u6)):=by
 refine bo T.aal.F mO (λus o h=>?_) (λQK A outer s H E O us o hr h=>?_)
 ·obtain⟨a,b,c,d,e,f,rfl,M,rfl⟩:=h;rfl
 obtain⟨a,b,c,d,e,f,rfl,M,rfl⟩:=h;refine Ws.nox ?_;refine af (cE (jW (iG (aA ((sq T).mono (by decide)) hr rfl T.aaZ.m T.aaZ.F.kp T.aaZ.b ay (ai (aa 0 rfl) au aj) ⟨a,b,c,d,e,f,rfl,M,rfl⟩))) rfl (aI (aI ?_)))
 exact rfl
def pY:List U->Out->Prop:=λus o=>∃x y a b c d e f,us=[pt x y,mv a b c d e f]/\(Sz 30000 x/\Sz 30000 y/\Sz 30000 a/\Sz 30000 b/\Sz 30000 c/\Sz 30000 d)/\o=.val (pt (a*x+b*y) (c*x+d*y))
theorem vH(T:Txt w K mg):ba P w K mg base (CXF P w) 1 T.aa6.a T.aa6.d ["P","move"] (spU K (pY)):=by
 refine bo T.aa6.F vJ (λus o h=>?_) (λQK A outer s H E O us o hr h=>?_)
 ·obtain⟨x,y,a,b,c,d,e,f,rfl,⟨sx,sy,sa,sb,sc,sd⟩,rfl⟩:=h;rfl
 obtain⟨x,y,a,b,c,d,e,f,rfl,⟨sx,sy,sa,sb,sc,sd⟩,rfl⟩:=h;refine Ws.nox ?_;refine af (bp (bq (ak (bH (bn (aJ (aa 1 rfl) ag rfl rfl) (aJ (aa 0 rfl) ag rfl rfl) (by walk_at"mul")) (bn (aJ (aa 1 rfl) ag rfl rfl) (aJ (aa 0 rfl) ag rfl rfl) (by walk_at"mul"))) (ak (bH (bn (aJ (aa 1 rfl) ag rfl rfl) (aJ (aa 0 rfl) ag rfl rfl) (by walk_at"mul")) (bn (aJ (aa 1 rfl) ag rfl rfl) (aJ (aa 0 rfl) ag rfl rfl) (by walk_at"mul"))) aF bN) bN)) ?_);exact rfl
def qO:List U->Out->Prop:=λus o=>∃x y a b c d e f,us=[pt x y,mv a b c d e f]/\Mv a b c d e f/\Sz 30000 x/\Sz 30000 y/\o=.val (pt (a*x+b*y+e) (c*x+d*y+f))
theorem pS(T:Txt w K mg):ba P w K mg base (CXF P w) 4 T.aa3.a T.aa3.d ["P","move"] (spU K (qO)):=by
 refine bo T.aa3.F qg (λus o h=>?_) (λQK A outer s H E O us o hr h=>?_)
 ·obtain⟨x,y,a,b,c,d,e,f,rfl,M,sx,sy,rfl⟩:=h;rfl
 obtain⟨x,y,a,b,c,d,e,f,rfl,M,sx,sy,rfl⟩:=h;refine Ws.nox ?_;refine af (wv (aA ((ix T).mono (by decide)) hr rfl T.aal.m T.aal.F.kp T.aal.b ay (ai (aa 1 rfl) au aj) ⟨a,b,c,d,e,f,rfl,M,rfl⟩) ?_)
 refine af (aw (i:=2) qg.nd rfl (Or.inl rfl) (aA ((vH T).mono (by decide)) hr rfl T.aa6.m T.aa6.F.kp T.aa6.b ay (ai (aa 0 rfl) (ai (aa 1 rfl) au aj) aj) ⟨x,y,a,b,c,d,e,f,rfl,⟨sx,sy,M.a,M.b,M.c,M.d⟩,rfl⟩) ?_)
 refine af (bp (bq (ak (bH (aJ (aa 2 rfl) ag rfl rfl) (aJ (aa 1 rfl) ag rfl rfl)) (ak (bH (aJ (aa 2 rfl) ag rfl rfl) (aJ (aa 1 rfl) ag rfl rfl)) aF bN) bN)) ?_);exact rfl
def CO(a b c d e f:Int):U:=
 mv ((a*d-b*c) *d) (-(a*d-b*c) *b) (-(a*d-b*c) *c) ((a*d-b*c) *a) (-((a*d-b*c) *d*e+-(a*d-b*c) *b*f)) (-(-(a*d-b*c) *c*e+(a*d-b*c) *a*f))
def v3:List U->Out->Prop:=λus o=>∃a b c d e f,us=[mv a b c d e f]/\Mv a b c d e f/\o=.val (CO a b c d e f)
theorem pN(T:Txt w K mg):ba P w K mg base (CXF P w) 4 T.aaP.a T.aaP.d ["move"] (spU K (v3)):=by
 refine bo T.aaP.F cN (λus o h=>?_) (λQK A outer s H E O us o hr h=>?_)
 ·obtain⟨a,b,c,d,e,f,rfl,M,rfl⟩:=h;rfl
 obtain⟨a,b,c,d,e,f,rfl,M,rfl⟩:=h;refine Ws.nox ?_;obtain⟨hd,sa,sb,sc,sd,se,sf⟩:=M;have M:Mv a b c d e f:=⟨hd,sa,sb,sc,sd,se,sf⟩;have sh:Sz 8 (a*d-b*c):=by rcases hd with h |h <;>rw[h] <;>decide
 refine af (wv (aA ((ix T).mono (by decide)) hr rfl T.aal.m T.aal.F.kp T.aal.b ay (ai (aa 0 rfl) au aj) ⟨a,b,c,d,e,f,rfl,M,rfl⟩) ?_)
 refine af (aw (i:=1) cN.nd rfl (Or.inl rfl) (aA ((sT T).mono (by decide)) hr rfl T.aa8.m T.aa8.F.kp T.aa8.b ay (ai (aa 0 rfl) au aj) ⟨a,b,c,d,e,f,rfl,sa,sb,sc,sd,rfl⟩) ?_)
 refine af (aw (i:=2) cN.nd rfl (Or.inl rfl) (bn (aa 1 rfl) (aJ (aa 0 rfl) ag rfl rfl) (by walk_at"mul")) ?_)
 refine af (aw (i:=3) cN.nd rfl (Or.inl rfl) (bn (bZ (aa 1 rfl)) (aJ (aa 0 rfl) ag rfl rfl) (by walk_at"mul")) ?_)
 refine af (aw (i:=4) cN.nd rfl (Or.inl rfl) (bn (bZ (aa 1 rfl)) (aJ (aa 0 rfl) ag rfl rfl) (by walk_at"mul")) ?_)
 refine af (aw (i:=5) cN.nd rfl (Or.inl rfl) (bn (aa 1 rfl) (aJ (aa 0 rfl) ag rfl rfl) (by walk_at"mul")) ?_)
 refine af (bp (bq (ak (aa 2 rfl) (ak (aa 3 rfl) (ak (aa 4 rfl) (ak (aa 5 rfl) (ak (bZ (bH (bn (aa 2 rfl) (aJ (aa 0 rfl) ag rfl rfl) (by walk_at"mul")) (bn (aa 3 rfl) (aJ (aa 0 rfl) ag rfl rfl) (by walk_at"mul")))) (ak (bZ (bH (bn (aa 4 rfl) (aJ (aa 0 rfl) ag rfl rfl) (by walk_at"mul")) (bn (aa 5 rfl) (aJ (aa 0 rfl) ag rfl rfl) (by walk_at"mul")))) aF g6) g6) aj) aj) aj) aj)) ?_)
 exact rfl
theorem yu{a b g s t:Int}(G:fE a b g s t):g=((IZ a b:Nat):Int):=by
 have h1:g ∣ ((IZ a b:Nat):Int):=Ke G.da G.db
 have h2:((IZ a b:Nat):Int) ∣ g:=by
  rw[<-G.eq];exact IY (FQ (Jb ..) (F9 _ _)) (FQ (IT ..) (F9 _ _))
 exact Mn G.g0 (Int.natCast_nonneg _) h1 h2
theorem j8(a b:Int):∃s t,fE a b ((IZ a b:Nat):Int) s t:=by
 obtain⟨g,s,t,G⟩:=jH a b;have e:=yu G;subst e;exact⟨s,t,G⟩
theorem v6{a b g s t g' s' t':Int}(G:fE a b g s t)(gp:0<g)(G':fE (a/g) (b/g) g' s' t'):g'=1:=by
 obtain⟨a',ha⟩:=G.da;obtain⟨b',hb⟩:=G.db;have ea:a/g=a':=by rw[ha,Hr _ (by lia)]
 have eb:b/g=b':=by rw[hb,Hr _ (by lia)]
 rw[ea,eb]at G';have e:=G.eq
 have k1:s*a'+t*b'=1:=by
  have:g*(s*a'+t*b')=g*1:=by rw[ha,hb]at e;grind
  exact Gg (by lia) this
 have d:g' ∣ 1:=by rw[<-k1];exact IY (FQ G'.da (F9 _ _)) (FQ G'.db (F9 _ _))
 have:=Int.le_of_dvd (by decide) d
 have h0:=G'.g0;rcases GU h0 with h |h
 ·lia
 ·rw[<-h]at d;exact absurd (N9.mp d) (by decide)
theorem uZ{x0 y0 x1 y1 g s t:Int}(G:fE (x1-x0) (y1-y0) g s t)(h:g=0):x0=x1/\y0=y1:=by
 subst h;have h1:=N9.mp G.da;have h2:=N9.mp G.db;lia
structure Ah(x0 y0 x1 y1:Int):Prop where
 s0:Sz 3000 x0
 t0:Sz 3000 y0
 s1:Sz 3000 x1
 t1:Sz 3000 y1
def rd:List U->Out->Prop:=λus o=>∃x0 y0 x1 y1 g s t:Int,us=[pt x0 y0,pt x1 y1]/\Ah x0 y0 x1 y1/\fE (x1-x0) (y1-y0) g s t/\o=.val (.int g)
theorem kM(T:Txt w K mg):ba P w K mg base (CXF P w) 3 T.aaD.a T.aaD.d ["P","Q"] (spU K (rd)):=by
 refine bo T.aaD.F xJ (λus o h=>?_) (λQK A outer s H E O us o hr h=>?_)
 ·obtain⟨x0,y0,x1,y1,g,s,t,rfl,⟨s0,t0,s1,t1⟩,G,rfl⟩:=h;rfl
 obtain⟨x0,y0,x1,y1,g,s,t,rfl,⟨s0,t0,s1,t1⟩,G,rfl⟩:=h;refine Ws.nox ?_;refine af (bp (aJ (aA ((mF T).mono (by decide)) hr rfl T.aaM.m T.aaM.F.kp T.aaM.b ay (ai (bL (aJ (aa 1 rfl) ag rfl rfl) (aJ (aa 0 rfl) ag rfl rfl)) (ai (bL (aJ (aa 1 rfl) ag rfl rfl) (aJ (aa 0 rfl) ag rfl rfl)) au bN) bN) ⟨_,_,g,s,t,rfl,by walk_at"szb",by walk_at"szb",G,rfl⟩) ag rfl rfl) ?_)
 exact rfl
def rE:List U->Out->Prop:=λus o=>∃x0 y0 x1 y1 g a b s t:Int,us=[pt x0 y0,pt x1 y1]/\Ah x0 y0 x1 y1/\fE (x1-x0) (y1-y0) g a b/\g≠0/\fE ((x1-x0)/g) ((y1-y0)/g) 1 s t/\
  o=.val (mv s t (-((y1-y0)/g)) ((x1-x0)/g) (-s*x0-t*y0) ((y1-y0)/g*x0-(x1-x0)/g*y0))
theorem wN(T:Txt w K mg):ba P w K mg base (CXF P w) 4 T.abc.a T.abc.d ["P","Q"] (spU K (rE)):=by
 refine bo T.abc.F d4 (λus o h=>?_) (λQK A outer s H E O us o hr h=>?_)
 ·obtain⟨x0,y0,x1,y1,g,a,b,s,t,rfl,two,G,gn,G1,rfl⟩:=h;rfl
 obtain⟨x0,y0,x1,y1,g,a,b,s,t,rfl,two,G,gn,G1,rfl⟩:=h;refine Ws.nox ?_;have gp:0<g:=by have:=G.g0;lia
 obtain⟨s0,t0,s1,t1⟩:=two;have two:Ah x0 y0 x1 y1:=⟨s0,t0,s1,t1⟩;have sx:Sz 3001 (x1-x0):=by walk_at"szb"
 have sy:Sz 3001 (y1-y0):=by walk_at"szb"
 obtain⟨sg,_,_⟩:=mR G sx sy;have su:Sz 3001 ((x1-x0)/g):=sx.ediv;have sv:Sz 3001 ((y1-y0)/g):=sy.ediv;obtain⟨_,ss,st⟩:=mR G1 su sv;refine af (aw (i:=2) d4.nd rfl (Or.inl rfl) (aA ((kM T).mono (by decide)) hr rfl T.aaD.m T.aaD.F.kp T.aaD.b ay (ai (aa 0 rfl) (ai (aa 1 rfl) au aj) aj) ⟨x0,y0,x1,y1,g,a,b,rfl,two,G,rfl⟩) ?_)
 refine af (cE (aR cB (aa 2 rfl) ag) (decide_eq_false gn) (aI ?_));refine af (aw (i:=3) d4.nd rfl (Or.inl rfl) (cT (bL (aJ (aa 1 rfl) ag rfl rfl) (aJ (aa 0 rfl) ag rfl rfl)) (aa 2 rfl) ⟨gp,sg.mono (by decide)⟩) ?_)
 refine af (aw (i:=4) d4.nd rfl (Or.inl rfl) (cT (bL (aJ (aa 1 rfl) ag rfl rfl) (aJ (aa 0 rfl) ag rfl rfl)) (aa 2 rfl) ⟨gp,sg.mono (by decide)⟩) ?_)
 refine af (aw (i:=5) d4.nd rfl (Or.inl rfl) (aA ((mF T).mono (by decide)) hr rfl T.aaM.m T.aaM.F.kp T.aaM.b ay (ai (aa 3 rfl) (ai (aa 4 rfl) au aj) aj) ⟨_,_,1,s,t,rfl,su.mono (by decide),sv.mono (by decide),G1,rfl⟩) ?_)
 refine af (aw (i:=6) d4.nd rfl (Or.inl rfl) (aJ (aa 5 rfl) ag rfl rfl) ?_);refine af (aw (i:=7) d4.nd rfl (Or.inl rfl) (aJ (aa 5 rfl) ag rfl rfl) ?_);refine af (bp (bq (ak (aa 6 rfl) (ak (aa 7 rfl) (ak (bZ (aa 4 rfl)) (ak (aa 3 rfl) (ak (bL (bn (bZ (aa 6 rfl)) (aJ (aa 0 rfl) ag rfl rfl) (by walk_at"mul")) (bn (aa 7 rfl) (aJ (aa 0 rfl) ag rfl rfl) (by walk_at"mul"))) (ak (bL (bn (aa 4 rfl) (aJ (aa 0 rfl) ag rfl rfl) (by walk_at"mul")) (bn (aa 3 rfl) (aJ (aa 0 rfl) ag rfl rfl) (by walk_at"mul"))) aF bN) bN) aj) g6) aj) aj)) ?_)
 exact rfl
def bY(n:Nat)(a b m:Int):Int:=match n with
 |0=>0
 |n+1=>bY n a b m+(a*(n:Int)+b)/m
theorem jX(a b m:Int):∀n:Nat,bY (n+1) a b m=b/m+bY n a (b+a) m
 |0=>by simp[bY]
 |n+1=>by
  rw[show bY (n+1+1) a b m=bY (n+1) a b m+(a*((n+1:Nat):Int)+b)/m from rfl,jX a b m n]
  rw[show bY (n+1) a (b+a) m=bY n a (b+a) m+(a*(n:Int)+(b+a))/m from rfl]
  have e:a*((n+1:Nat):Int)+b=a*(n:Int)+(b+a):=by push_cast;grind
  rw[e];lia
theorem ot{a b m:Int}(hm:0<m):∀n:Nat,bY n a (b+m) m=bY n a b m+n
 |0=>by simp[bY]
 |n+1=>by
  show bY n a (b+m) m+(a*(n:Int)+(b+m))/m=bY n a b m+(a*(n:Int)+b)/m+((n+1:Nat):Int);rw[ot hm n,<-Int.add_assoc,Int.add_ediv_of_dvd_right (JY m),Int.ediv_self (by lia)]
  push_cast;lia
theorem yr(n:Nat):(((n+1:Nat):Int) *(((n+1:Nat):Int)-1))/2=((n:Int) *((n:Int)-1))/2+n:=by
 have e:(((n+1:Nat):Int) *(((n+1:Nat):Int)-1))=(n:Int) *((n:Int)-1)+(n:Int) *2:=by push_cast;grind
 rw[e,Mu _ _ (by decide)]
theorem oU{a b m:Int}(hm:0<m):∀n:Nat,bY n a b m=a/m*((n:Int) *((n:Int)-1)/2)+b/m*n+bY n (a%m) (b%m) m
 |0=>by simp[bY]
 |n+1=>by
  show bY n a b m+(a*(n:Int)+b)/m=_+(bY n (a%m) (b%m) m+(a%m*(n:Int)+b%m)/m);rw[oU hm n,yr]
  have e:a*(n:Int)+b=(a%m*(n:Int)+b%m)+m*(a/m*n+b/m):=by
   have h1:=Gj a m;have h2:=Gj b m;grind
  rw[e,Jn _ _ (by lia)]
  push_cast
  grind
theorem mI{a b m:Int}(ha:0<a)(ham:a<m)(hb:0<=b)(hbm:b<m):∀n:Nat,bY n a b m=bY ((a*(n:Int)+b)/m).toNat m ((a*(n:Int)+b)%m) a
 |0=>by
  have e:(a*((0:Nat):Int)+b)/m=0:=by
   have:a*((0:Nat):Int)+b=b:=by simp
   rw[this];exact Hd hb hbm
  rw[e];rfl
 |n+1=>by
  have ih:=mI ha ham hb hbm n;have hz:0<=a*(n:Int)+b:=Pk (Fc (by lia) (by lia)) hb
  have hY:0<=(a*(n:Int)+b)/m:=OJ hz (by lia)
  have hr0:=Gs (a*(n:Int)+b) (show m≠0 by lia)
  have hr1:=Gb (a*(n:Int)+b) (show 0<m by lia)
  have hz2:=Gj (a*(n:Int)+b) m;have ez:a*((n+1:Nat):Int)+b=(a*(n:Int)+b)+a:=by push_cast;grind
  show bY n a b m+(a*(n:Int)+b)/m=_;rw[ez,ih];generalize hZ:a*(n:Int)+b=z at *;generalize hYY:z/m=Y at *;generalize hRR:z%m=r at *;obtain⟨y,rfl⟩:=Int.eq_ofNat_of_zero_le hY;by_cases hc:r+a<m
  ·have e1:(z+a)/m=(y:Int):=by
    rw[show z+a=(r+a)+m*(y:Int) by lia,Jn _ _ (by lia),Hd (by lia) hc];lia
   have e2:(z+a)%m=r+a:=by
    rw[show z+a=(r+a)+m*(y:Int) by lia,Lq,LQ (by lia) hc]
   rw[e1,e2,ot ha];simp
  ·have e1:(z+a)/m=(y:Int)+1:=by
    rw[show z+a=(r+a-m)+m*((y:Int)+1) by rw[OK];lia,Jn _ _ (by lia),Hd (by lia) (by lia)];lia
   have e2:(z+a)%m=r+a-m:=by
    rw[show z+a=(r+a-m)+m*((y:Int)+1) by rw[OK];lia,Lq,LQ (by lia) (by lia)]
   rw[e1,e2,show ((y:Int)+1).toNat=y+1 by lia,jX,Hd (by lia) (by lia),show r+a-m+m=r+a by lia,ot ha]
   simp
theorem qP{a b m:Int}(ha:0<=a)(hb:0<=b)(n:Nat)(h:a*(n:Int)+b<m):bY n a b m=0:=by
 induction n with
 |zero=>rfl
 |succ n ih=>
  have e:a*((n+1:Nat):Int)+b=a*(n:Int)+b+a:=by push_cast;grind
  have h1:0<=a*(n:Int):=Fc ha (by lia)
  show bY n a b m+(a*(n:Int)+b)/m=0;rw[ih (by lia),Hd (by lia) (by lia)];rfl
theorem lV:∀(m:Nat) (a b g:Int),0<m->0<g->g ∣ a->g ∣ (m:Int)->(∀d,d ∣ a->d ∣ (m:Int)->d ∣ g)->2*bY m a b m=(a-1) *((m:Int)-1)+g-1+2*(g*(b/g)):=by
 intro m
 induction m using Oz with
 |ind m ih=>
  intro a b g hm hg ga gm gr;have T6:(0:Int)<(m:Int):=by lia
  have red:=oU (a:=a) (b:=b) T6 m;have ha0:=Gs a (show (m:Int)≠0 by lia)
  have ha1:=Gb a T6;have To:=Gs b (show (m:Int)≠0 by lia)
  have hb1:=Gb b T6;have ea:=Gj a (m:Int);have eb:=Gj b (m:Int)
  have tri:2*((m:Int) *((m:Int)-1)/2)=(m:Int) *((m:Int)-1):=by
   have:(2:Int) ∣ (m:Int) *((m:Int)-1):=by
    rcases Int.emod_two_eq (m:Int) with h |h
    ·exact FQ (Kf h) (G9 _ _)
    ·exact FQ (Kf (by lia)) (F9 _ _)
   exact II this
  have gb:g*(b/g)=(m:Int) *(b/(m:Int))+g*(b%(m:Int)/g):=by
   obtain⟨c,hc⟩:=gm;have:b=b%(m:Int)+g*(c*(b/(m:Int))):=by rw[<-NJ,<-hc];lia
   conv=>lhs;rw[this]
   rw[Jn _ _ (by lia),OK,<-NJ g c,<-hc];lia
  by_cases hz:a%(m:Int)=0
  ·have gm2:g=(m:Int):=Mn (by lia) (by lia) gm (gr _ (Kf hz) (JY _))
   have small:bY m (a%(m:Int)) (b%(m:Int)) m=0:=qP ha0 To m (by rw[hz];lia)
   rw[red,small,gb,gm2,Hd To hb1];rw[hz]at ea;have:a=(m:Int) *(a/(m:Int)):=by omega
   generalize a/(m:Int)=q at *;subst this;grind
  ·have hp:0<a%(m:Int):=by lia
   have turn:=mI hp ha1 To hb1 m
   have e1:(a%(m:Int) *(m:Int)+b%(m:Int))/(m:Int)=a%(m:Int):=by
    rw[Qg,Mu _ _ (by lia),Hd To hb1];lia
   have e2:(a%(m:Int) *(m:Int)+b%(m:Int))%(m:Int)=b%(m:Int):=by
    rw[Qg,Int.add_mul_emod_self_right,LQ To hb1]
   rw[e1,e2]at turn
   have gd1:g ∣ a%(m:Int):=by
    rw[show a%(m:Int)=a-(m:Int) *(a/(m:Int)) by lia]
    exact Lh ga (FQ gm (G9 _ _))
   have IH:=ih (a%(m:Int)).toNat (by lia) (m:Int) (b%(m:Int)) g (by lia) hg gm (by rw[Li ha0];exact gd1) (λd h1 h2=>by
    rw[Li ha0]at h2;refine gr d ?_ h1;rw[<-ea];exact IY h2 (FQ h1 (G9 _ _)))
   rw[Li ha0]at IH;rw[red,turn,gb];have e3:2*(a/(m:Int) *((m:Int) *((m:Int)-1)/2))=a/(m:Int) *((m:Int) *((m:Int)-1)):=by rw[<-tri];grind
   generalize a/(m:Int)=q at *;generalize a%(m:Int)=a' at *;subst ea;grind
abbrev Pt:=Int×Int
def plt(p q:Pt):Prop:=p.1<q.1\/(p.1=q.1/\p.2<q.2)
def ae(a b p:Pt):Int:=(b.1-a.1) *(p.2-a.2)-(b.2-a.2) *(p.1-a.1)
theorem bu{a b c:Pt}(h1:plt a b)(h2:plt b c):plt a c:=by unfold plt at *;lia
theorem a_(a:Pt):¬ plt a a:=by unfold plt;lia
theorem fh(a b:Pt):plt a b\/a=b\/plt b a:=by
 unfold plt;by_cases h1:a.1=b.1
 ·by_cases h2:a.2=b.2
  ·exact .inr (.inl (Gf h1 h2))
  ·lia
 ·lia
def cG(x y:Int):Prop:=0<x\/(x=0/\0<y)
theorem aD{a b:Pt}(h:plt a b):cG (b.1-a.1) (b.2-a.2):=by unfold plt cG at *;lia
theorem dm{u1 u2 v1 v2 w1 w2:Int}(hu:cG u1 u2)(hv:cG v1 v2)(hw:cG w1 w2)(h1:0<=u1*v2-u2*v1)(h2:0<=v1*w2-v2*w1):0<=u1*w2-u2*w1:=by
 unfold cG at *;by_cases hv1:v1=0
 ·subst hv1;have Uc:0<v2:=by lia
  have hw1:w1=0:=by
   have:v2*w1<=0:=by rw[Ih]at h2;lia
   by_cases hz:0<w1
   ·have:=FO Uc hz;lia
   ·lia
  subst hw1;have hw2:0<w2:=by lia
  have:=Fc (show 0<=u1 by lia) (show 0<=w2 by lia)
  simp;lia
 ·have hv':0<v1:=by lia
  have e:v1*(u1*w2-u2*w1)=u1*(v1*w2-v2*w1)+w1*(u1*v2-u2*v1):=by grind
  have p1:=Fc (show 0<=u1 by lia) h2
  have p2:=Fc (show 0<=w1 by lia) h1
  have:0<=v1*(u1*w2-u2*w1):=by lia
  exact HU this hv'
theorem d7{u1 u2 v1 v2 w1 w2:Int}(hu:cG u1 u2)(hv:cG v1 v2)(hw:cG w1 w2)(h1:0<u1*v2-u2*v1)(h2:0<=v1*w2-v2*w1):0<u1*w2-u2*w1:=by
 unfold cG at *;by_cases hv1:v1=0
 ·subst hv1;have Uc:0<v2:=by lia
  have hw1:w1=0:=by
   have:v2*w1<=0:=by rw[Ih]at h2;lia
   by_cases hz:0<w1
   ·have:=FO Uc hz;lia
   ·lia
  subst hw1;have hw2:0<w2:=by lia
  have QU:0<u1:=by
   rcases hu with h |⟨h,_⟩
   ·exact h
   ·subst h;simp at h1
  have:=FO QU hw2;simp;lia
 ·have hv':0<v1:=by lia
  have e:v1*(u1*w2-u2*w1)=u1*(v1*w2-v2*w1)+w1*(u1*v2-u2*v1):=by grind
  have p1:=Fc (show 0<=u1 by lia) h2
  by_cases hw1:w1=0
  ·subst hw1;have hw2:0<w2:=by lia
   have QU:0<u1:=by
    rcases hu with h |⟨h,h'⟩
    ·exact h
    ·subst h;have:=FO h' hv';simp at h1;lia
   have:=FO QU hw2;simp;lia
  ·have p2:=FO (show 0<w1 by lia) h1
   have:0<v1*(u1*w2-u2*w1):=by lia
   exact GG this (by lia)
def fM:List Pt->Prop
 |b::a::r=>plt a b/\fM (a::r)
 |_=>True
def jo:List Pt->Prop
 |c::b::a::r=>0<ae a b c/\jo (b::a::r)
 |_=>True
def fT(done:List Pt):List Pt->Prop
 |b::a::r=>(∀q∈done,0<=ae a b q)/\fT done (a::r)
 |_=>True
theorem jo.tail:∀{b:Pt}{st:List Pt},jo (b::st)->jo st
 |_,[],_=>trivial
 |_,[_],_=>trivial
 |_,_::_::_,h=>h.2
theorem fM.tail:∀{b:Pt}{st:List Pt},fM (b::st)->fM st
 |_,[],_=>trivial
 |_,_::_,h=>h.2
theorem fT.tail{done:List Pt}:∀{b:Pt}{st:List Pt},fT done (b::st)->fT done st
 |_,[],_=>trivial
 |_,_::_,h=>h.2
def aT(P:Pt):List Pt->List Pt
 |b::a::r=>if ae a b P<=0 then aT P (a::r) else b::a::r
 |st=>st
def am(row:List Pt):List Pt:=row.foldl (λst P=>P::aT P st) []
structure Kept(done st:List Pt):Prop where
 ne:st≠[]
 desc:fM st
 turns:jo st
 cover:fT done st
 sub:∀p∈st,p∈done
structure vA(done st:List Pt)(P:Pt):Prop extends Kept done st where
 pend:∀h r,st=h::r->∀q∈done,plt h q->0<=ae h P q
theorem uQ{done:List Pt}{P b a:Pt}{r:List Pt}(hP:∀q∈done,plt q P)(D:vA done (b::a::r) P)(h:ae a b P<=0):vA done (a::r) P:=by
 refine⟨⟨by simp,D.desc.tail,D.turns.tail,D.cover.tail,λp hp=>D.sub p (ET _ hp)⟩,?_⟩
 intro h' r' e q hq QL;cases e;have Su:=D.desc.1;have QT:=D.cover.1 q hq;have hbP:=hP b (D.sub b E3);have hqP:=hP q hq;rcases fh q b with z |z |z
 ·have l1:=aD QL;have l2:=aD Su;have l3:=aD (bu Su hbP);have:=dm (u1:=P.1-a.1) (u2:=P.2-a.2) (v1:=b.1-a.1) (v2:=b.2-a.2) (w1:=q.1-a.1) (w2:=q.2-a.2) l3 l2 l1 (by unfold ae at h;grind) (by unfold ae at QT;grind)
  unfold ae;grind
 ·subst z;unfold ae at *;grind
 ·have p:=D.pend b _ rfl q hq z;unfold ae at *;grind
theorem o6{done:List Pt}{P:Pt}(hP:∀q∈done,plt q P):∀st:List Pt,vA done st P->vA done (aT P st) P/\(∀b a r,aT P st=b::a::r->0<ae a b P)/\(st.getLast?=(aT P st).getLast?)
 |[],D=>absurd rfl D.ne
 |[b],D=>⟨D,λ_ _ _ e=>by simp[aT]at e,rfl⟩
 |b::a::r,D=>by
  by_cases h:ae a b P<=0
  ·rw[aT,if_pos h];obtain⟨h1,h2,h3⟩:=o6 hP (a::r) (uQ hP D h);exact⟨h1,h2,by rw[<-h3];simp⟩
  ·rw[aT,if_neg h];refine⟨D,λb' a' r' e=>?_,rfl⟩
   cases e;lia
theorem uY{done st:List Pt}{P:Pt}(hP:∀q∈done,plt q P)(D:vA done st P)(ht:∀b a r,st=b::a::r->0<ae a b P)(hmin:∀x,st=[x]->∀q∈done,q=x\/plt x q):Kept (done++[P]) (P::st):=by
 have up:∀(b:Pt) (r:List Pt),fM (b::r)->jo (b::r)->fT done (b::r)->plt b P->(∀a r',r=a::r'->0<=ae a b P)->fT (done++[P]) (b::r):=by
  intro b r
  induction r generalizing b with
  |nil=>intro _ _ _ _ _;trivial
  |cons a r ih=>
   intro hd htn hc hbP hl;refine⟨λq hq=>?_,?_⟩
   ·rcases Fn.mp hq with z |z
    ·exact hc.1 q z
    ·rw[E9.mp z];exact hl a r rfl
   ·refine ih a hd.tail htn.tail hc.tail (bu hd.1 hbP) (λc r' e=>?_)
    subst e;have t:=htn.1;have g:=hl a _ rfl;have l1:=aD hd.2.1;have l2:=aD hd.1;have l3:=aD (bu hd.1 hbP);have:=dm (u1:=a.1-c.1) (u2:=a.2-c.2) (v1:=b.1-a.1) (v2:=b.2-a.2) (w1:=P.1-a.1) (w2:=P.2-a.2) l1 l2 l3 (by unfold ae at t;grind) (by unfold ae at g;grind)
    unfold ae;grind
 obtain⟨h,r,e⟩:∃h r,st=h::r:=by
  cases Q7:st with
  |nil=>exact absurd Q7 D.ne
  |cons h r=>exact⟨h,r,rfl⟩
 subst e;have hhP:=hP h (D.sub h E3);refine⟨by simp,⟨hhP,D.desc⟩,?_,⟨λq hq=>?_,?_⟩,λp hp=>?_⟩
 ·cases r with
  |nil=>trivial
  |cons a r'=>exact⟨ht h a r' rfl,D.turns⟩
 ·rcases Fn.mp hq with z |z
  ·rcases fh q h with y |y |y
   ·cases r with
    |nil=>
     rcases hmin h rfl q z with w |w
     ·subst w;exact absurd y (a_ _)
     ·exact absurd (bu y w) (a_ _)
    |cons a r'=>
     have t:=ht h a r' rfl;have c:=D.cover.1 q z;have l1:=aD D.desc.1;have l2:=aD y;have l3:=aD hhP;have:=dm (u1:=h.1-q.1) (u2:=h.2-q.2) (v1:=h.1-a.1) (v2:=h.2-a.2) (w1:=P.1-h.1) (w2:=P.2-h.2) l2 l1 l3 (by unfold ae at c;grind) (by unfold ae at t;grind)
     unfold ae;grind
   ·subst y;unfold ae;grind
   ·exact D.pend h r rfl q z y
  ·rw[E9.mp z];unfold ae;grind
 ·exact up h r D.desc D.turns D.cover hhP (λa r' e=>KM (ht h a r' (by rw[e])))
 ·rcases E1.mp hp with z |z
  ·subst z;exact Fw _ E3
  ·exact FH _ (D.sub p z)
theorem kP(row:List Pt)(P:Pt):am (row++[P])=P::aT P (am row):=by
 unfold am;rw[LR];rfl
theorem k9{row:List Pt}(hs:row.Pairwise plt):∀n,0<n->n<=row.length->Kept (row.take n) (am (row.take n))/\(am (row.take n)).getLast?=row.head?/\(am (row.take n)).head?=row[n-1]?
 |0,h,_=>absurd h (by decide)
 |1,_,h=>by
  cases row with
  |nil=>simp at h
  |cons a r=>
   simp only[Le,O8];exact⟨⟨by simp[am],trivial,trivial,trivial,λp hp=>by simpa [am,aT] using hp⟩,rfl,rfl⟩
 |n+2,_,h=>by
  obtain⟨K,hl,hh⟩:=k9 hs (n+1) (by lia) (by lia)
  have hn:n+1<row.length:=by lia
  have et:row.take (n+2)=row.take (n+1)++[row[n+1]]:=by rw[ID hn]
  have hP:∀q∈row.take (n+1),plt q row[n+1]:=λq hq=>by
   obtain⟨i,hi,e⟩:=JK.mp hq;subst e;exact Fm.mp hs i (n+1) (by lia) hn (by lia)
  have D:vA (row.take (n+1)) (am (row.take (n+1))) row[n+1]:=⟨K,λh' r e q hq QL=>by
   exfalso
   rw[e]at hh;simp only[OM,NK]at hh;have Tr:n<row.length:=by lia
   rw[EO Tr]at hh;have hh':=FV hh;obtain⟨i,hi,e2⟩:=JK.mp hq;subst e2;rw[hh']at QL;rcases GR i n with z |z
   ·exact a_ _ (bu QL (Fm.mp hs i n (by lia) Tr z))
   ·have:i=n:=by lia
    subst this;exact a_ _ QL⟩
  obtain⟨D2,ht,Q1⟩:=o6 hP _ D;rw[et,kP];refine⟨uY hP D2 ht (λx e q hq=>?_),?_,?_⟩
  ·rw[e,hl]at Q1;simp at Q1;obtain⟨i,hi,e2⟩:=JK.mp hq;have h0:0<row.length:=by lia
   have e3:row[0]=x:=by
    rw[HD,EO h0]at Q1;exact FV Q1
   subst e2;rcases J_ i with z |z
   ·subst z;exact .inl e3
   ·right;rw[<-e3];exact Fm.mp hs 0 i h0 (by lia) z
  ·rw[List.getLast?_cons,<-Q1,hl];cases row with
   |nil=>simp at hn
   |cons a r=>rfl
  ·simp only[OM,NK];rw[show n+2-1=n+1 by lia,EO hn]
theorem b9{row:List Pt}(hs:row.Pairwise plt)(h:row≠[]):Kept row (am row)/\(am row).getLast?=row.head?/\(am row).head?=row.getLast?:=by
 have h0:0<row.length:=HH.mpr h;obtain⟨h1,h2,h3⟩:=k9 hs row.length h0 (E2 _);rw[HX]at h1 h2 h3;exact⟨h1,h2,by rw[h3,Gh]⟩
theorem jr{u1 u2 v1 v2 w1 w2:Int}(hu:cG u1 u2)(hv:cG v1 v2)(hw:cG w1 w2)(h1:0<=u1*v2-u2*v1)(h2:0<v1*w2-v2*w1):0<u1*w2-u2*w1:=by
 unfold cG at *;by_cases hv1:v1=0
 ·subst hv1;have Uc:0<v2:=by lia
  have:=Fc (show 0<=v2 by lia) (show 0<=w1 by lia)
  simp at h2;lia
 ·have hv':0<v1:=by lia
  have QU:0<u1:=by
   rcases hu with h |⟨h,h'⟩
   ·exact h
   ·subst h;have:=FO h' hv';simp at h1;lia
  have e:v1*(u1*w2-u2*w1)=u1*(v1*w2-v2*w1)+w1*(u1*v2-u2*v1):=by grind
  have p1:=FO QU h2;have p2:=Fc (show 0<=w1 by lia) h1
  have q:0<v1*(u1*w2-u2*w1):=by lia
  exact GG q hv'
def low(row:List Pt)(p:Pt):Prop:=∀a∈row,∀b∈row,plt a p->plt p b->0<ae a p b
theorem Br{row:List Pt}{p:Pt}:∀(st:List Pt) (n:Pt),fM (n::st)->jo (n::st)->fT row (n::st)->p∈st->(∀l,(n::st).getLast?=some l->plt l p)->
  ∃n' q,0<ae q p n'/\plt q p/\plt p n'/\(∀x∈row,0<=ae p n' x)/\(∀x∈row,0<=ae q p x)
 |[],n,_,_,_,hp,_=>by simp at hp
 |h::r,n,D,T,C,hp,hl=>by
  by_cases e:h=p
  ·subst e;cases r with
   |nil=>exact absurd (hl h (by simp)) (a_ h)
   |cons q r'=>exact⟨n,q,T.1,D.2.1,D.1,C.1,C.2.1⟩
  ·have Rr:p∈r:=by
    rcases E1.mp hp with z |z
    ·exact absurd z.symm e
    ·exact z
   exact Br r h D.tail T.tail C.tail Rr (λl QS=>hl l (by rw[Fo];exact QS))
theorem m_{row:List Pt}(hs:row.Pairwise plt){p:Pt}(hp:p∈am row):low row p:=by
 intro a ha b hb hap Tp;have QF:row≠[]:=λz=>by rw[z]at ha;simp at ha
 obtain⟨K,Q1,RW⟩:=b9 hs QF
 have mn:∀x∈row,∀m,row.head?=some m->x=m\/plt m x:=λx hx m hm=>by
  cases row with
  |nil=>simp at hx
  |cons y r=>
   cases hm;rcases E1.mp hx with z |z
   ·exact .inl z
   ·exact .inr ((Fh.mp hs).1 x z)
 have mx:∀x∈row,∀m,row.getLast?=some m->x=m\/plt x m:=λx hx m hm=>by
  obtain⟨i,hi⟩:=Gy.mp hx;have hil:=(Fb.mp hi).1;rw[Gh]at hm;have hml:=(Fb.mp hm).1;rcases FB (show i<=row.length-1 by lia) with z |z
  ·right
   have h1:=Fm.mp hs i (row.length-1) hil hml z;rw[(Fb.mp hi).2,(Fb.mp hm).2]at h1;exact h1
  ·left;rw[z,hm]at hi;exact (FV hi).symm
 cases Q7:am row with
 |nil=>exact absurd Q7 K.ne
 |cons n st=>
  rw[Q7]at K Q1 RW hp;have hn:row.getLast?=some n:=by rw[<-RW];rfl
  have hpn:p∈st:=by
   rcases E1.mp hp with z |z
   ·rcases mx b hb n hn with y |y
    ·rw[y,<-z]at Tp;exact absurd Tp (a_ p)
    ·rw[z]at Tp;exact absurd (bu Tp y) (a_ n)
   ·exact z
  obtain⟨n',q,t,qp,pn,c1,c2⟩:=Br st n K.desc K.turns K.cover hpn (λl hl=>by
   rw[Q1]at hl;rcases mn a ha l hl with y |y
   ·rw[<-y];exact hap
   ·exact bu y hap)
  have g1:=c2 a ha;have g2:=c1 b hb;unfold ae at *;have k1:0<=(p.1-a.1) *(p.2-q.2)-(p.2-a.2) *(p.1-q.1):=by grind
  have k2:0<(p.1-q.1) *(n'.2-p.2)-(p.2-q.2) *(n'.1-p.1):=by grind
  have k3:0<=(n'.1-p.1) *(b.2-p.2)-(n'.2-p.2) *(b.1-p.1):=by grind
  have k4:=d7 (aD qp) (aD pn) (aD Tp) k2 k3;have k5:=jr (aD hap) (aD qp) (aD Tp) k1 k4;grind
theorem yG{row:List Pt}{p:Pt}:∀(st:List Pt) (h:Pt),fM (h::st)->fT row (h::st)->p∈row->p ∉ h::st->plt p h->(∀l,(h::st).getLast?=some l->plt l p)->∃a∈h::st,∃b∈h::st,plt a p/\plt p b/\0<=ae a b p
 |[],h,_,_,_,_,hp,hl=>absurd (bu hp (hl h (by simp))) (a_ p)
 |a::r,h,D,C,hr,Rq,hp,hl=>by
  rcases fh p a with z |z |z
  ·obtain⟨x,hx,y,hy,k⟩:=yG r a D.tail C.tail hr (λw=>Rq (ET _ w)) z (λl QS=>hl l (by rw[Fo];exact QS))
   exact⟨x,ET _ hx,y,ET _ hy,k⟩
  ·exact absurd (by rw[z];simp) Rq
  ·exact⟨a,by simp,h,by simp,z,hp,C.1 p hr⟩
theorem gap{row:List Pt}(hs:row.Pairwise plt){p:Pt}(hp:p∈row)(Rq:p ∉ am row):∃a∈am row,∃b∈am row,plt a p/\plt p b/\ae a p b<=0:=by
 have QF:row≠[]:=λz=>by rw[z]at hp;simp at hp
 obtain⟨K,Q1,RW⟩:=b9 hs QF;cases Q7:am row with
 |nil=>exact absurd Q7 K.ne
 |cons n st=>
  rw[Q7]at K Q1 RW Rq;have hn:row.getLast?=some n:=by rw[<-RW];rfl
  have pn:plt p n:=by
   obtain⟨i,hi⟩:=Gy.mp hp;have hil:=(Fb.mp hi).1;rw[Gh]at hn;have hml:=(Fb.mp hn).1;rcases FB (show i<=row.length-1 by lia) with z |z
   ·have h1:=Fm.mp hs i (row.length-1) hil hml z;rw[(Fb.mp hi).2,(Fb.mp hn).2]at h1;exact h1
   ·rw[z,hn]at hi;exact absurd (by rw[<-FV hi];simp) Rq
  obtain⟨a,ha,b,hb,k1,k2,k3⟩:=yG st n K.desc K.cover hp Rq pn (λl hl=>by
   have QS:=hl;rw[Q1]at hl;cases row with
   |nil=>simp at hp
   |cons y r=>
    cases hl;rcases E1.mp hp with z |z
    ·exact absurd (by rw[z];exact Hz QS) Rq
    ·exact (Fh.mp hs).1 p z)
  refine⟨a,ha,b,hb,k1,k2,?_⟩;unfold ae at *;grind
theorem vL{row Rf:List Pt}(hs:row.Pairwise plt)(SD:Rf.Pairwise plt)(h1:∀p∈Rf,p∈row)(h2:∀p∈am row,p∈Rf)(sub:∀(r:List Pt) (q:Pt),q∈am r->q∈r)(p:Pt):p∈am Rf↔p∈am row:=by
 constructor
 ·intro hp;refine F2 λRq=>?_
  obtain⟨a,ha,b,hb,k1,k2,k3⟩:=gap hs (h1 p (sub _ _ hp)) Rq;have:=m_ SD hp a (h2 a ha) b (h2 b hb) k1 k2;lia
 ·intro hp;refine F2 λRq=>?_
  obtain⟨a,ha,b,hb,k1,k2,k3⟩:=gap SD (h2 p hp) Rq;have:=m_ hs hp a (h1 a (sub _ _ ha)) b (h1 b (sub _ _ hb)) k1 k2;lia
abbrev Szp(m:Nat)(p:P2):Prop:=Sz m p.1/\Sz m p.2
theorem sM(b:P2)(r:List P2):atI ((b::r).reverse.map pu) (-1)=some (pu b):=by
 have h:ixN ((b::r).reverse.map pu).length (-1)=some r.length:=by
  unfold ixN;simp;lia
 unfold atI;rw[h];simp
theorem uD(b a:P2)(r:List P2):atI ((b::a::r).reverse.map pu) (-2)=some (pu a):=by
 have h:ixN ((b::a::r).reverse.map pu).length (-2)=some r.length:=by
  unfold ixN;simp;lia
 unfold atI;rw[h];simp
theorem jE(P:P2):∀st:List P2,(aT P st).length<=st.length
 |[]=>E2 _
 |[_]=>E2 _
 |b::a::r=>by
  unfold aT;split
  ·have:=jE P (a::r);simp only[FN]at *;lia
  ·exact E2 _
theorem uK(P:P2):∀(st:List P2) (q:P2),q∈aT P st->q∈st
 |[],_,h=>h
 |[_],_,h=>h
 |b::a::r,q,h=>by
  unfold aT at h;split at h
  ·exact ET _ (uK P (a::r) q h)
  ·exact h
theorem fg{row:List P2}{i:Nat}{P:P2}(h:row[i]?=some P):am (row.take (i+1))=P::aT P (am (row.take i)):=by
 rw[JG,h];exact kP _ _
theorem gw(row:List P2):∀i,(am (row.take i)).length<=i
 |0=>by simp[am]
 |i+1=>by
  have ih:=gw row i;cases h:row[i]? with
  |none=>rw[JG,h];simp;lia
  |some P=>
   rw[fg h];have:=jE P (am (row.take i));simp only[FN];lia
theorem eR(row:List P2):∀i q,q∈am (row.take i)->q∈row
 |0,q,h=>by simp[am]at h
 |i+1,q,h=>by
  cases hi:row[i]? with
  |none=>rw[JG,hi]at h;exact eR row i q (by simpa using h)
  |some P=>
   rw[fg hi]at h;rcases E1.mp h with e |e
   ·rw[e];exact Fs hi
   ·exact eR row i q (uK P _ q e)
theorem xG(n:Int):decide (sgn n<1)=decide (n<=0):=by
 have h:sgn n<1↔n<=0:=by
  unfold sgn;split
  ·lia
  ·split <;>lia
 exact decide_eq_decide.mpr h
theorem i8(l:List P2):fo (l.map pu) none (some (-1))=l.dropLast.map pu:=by
 unfold fo HT.sIx;rw[LS,List.dropLast_eq_take];simp
 try lia
def ao(pts:List P2):List P2:=if (ST.srt pts).length=1 then ST.srt pts else (am (ST.srt pts)).reverse.dropLast++(am (ST.srt pts).reverse).reverse.dropLast
theorem fV(a b:Pt):plt a b↔ST.ltP a b=true:=by unfold plt ST.ltP;simp
theorem iA{l:List Pt}:ST.Asc l↔l.Pairwise plt:=⟨λh=>h.imp λ{a b} k=>(fV a b).mpr k,λh=>h.imp λ{a b} k=>(fV a b).mp k⟩
theorem lU:∀{st:List Pt},fM st->st.Pairwise (λx y=>plt y x)
 |[],_=>Ju
 |[_],_=>by simp
 |b::a::r,h=>by
  have ih:=lU h.2;refine Fh.mpr ⟨λx hx=>?_,ih⟩
  rcases E1.mp hx with z |z
  ·rw[z];exact h.1
  ·exact bu ((Fh.mp ih).1 x z) h.1
theorem bR(row:List Pt)(q:Pt)(h:q∈am row):q∈row:=by
 have:=eR row row.length q;rw[HX]at this;exact this h
theorem dF{row:List Pt}(hs:row.Pairwise plt):ST.Asc (am row).reverse:=by
 by_cases QF:row=[]
 ·subst QF;exact Ju
 ·exact iA.mpr (Hq.mpr (lU (b9 hs QF).1.desc))
theorem oP{row Rf:List Pt}(hs:row.Pairwise plt)(SD:Rf.Pairwise plt)(h1:∀p∈Rf,p∈row)(h2:∀p∈am row,p∈Rf):am Rf=am row:=by
 have e:=ST.asc_one (dF SD) (dF hs) λz=>by
  rw[Fd,Fd];exact vL hs SD h1 h2 bR z
 exact List.reverse_inj.mp e
def ng(p:Pt):Pt:=(-p.1,-p.2)
theorem gO(p:Pt):ng (ng p)=p:=by unfold ng;simp
theorem CM(l:List Pt):(l.map ng).map ng=l:=by
 rw[FP,show ng ∘ ng=id from funext gO,Qr]
theorem kE(a b c:Pt):ae (ng a) (ng b) (ng c)=ae a b c:=by unfold ae ng;grind
theorem kK{a b:Pt}(h:plt a b):plt (ng b) (ng a):=by unfold plt ng at *;simp;lia
theorem wC(P:Pt):∀st:List Pt,aT (ng P) (st.map ng)=(aT P st).map ng
 |[]=>rfl
 |[_]=>rfl
 |b::a::r=>by
  show aT (ng P) (ng b::ng a::r.map ng)=_;unfold aT;rw[kE];split
  ·exact wC P (a::r)
  ·rfl
theorem gv:∀row:List Pt,am (row.map ng)=(am row).map ng:=λrow=>by
 have key:∀(l:List Pt) (st:List Pt),(l.map ng).foldl (λst P=>P::aT P st) (st.map ng)=(l.foldl (λst P=>P::aT P st) st).map ng:=by
  intro l
  induction l with
  |nil=>intro st;rfl
  |cons p r ih=>
   intro st;rw[Ft,He,He,wC];exact ih (p::aT p st)
 exact key row []
theorem cS{row:List Pt}(hs:row.Pairwise plt):(row.reverse.map ng).Pairwise plt:=by
 rw[FR,Hq];exact hs.imp λ{a b} h=>kK h
theorem bX(row:List Pt):am row.reverse=(am (row.reverse.map ng)).map ng:=by rw[gv,CM]
theorem oy{row Rf:List Pt}(hs:row.Pairwise plt)(SD:Rf.Pairwise plt)(h1:∀p∈Rf,p∈row)(h2:∀p∈am row.reverse,p∈Rf):am Rf.reverse=am row.reverse:=by
 rw[bX row,bX Rf];congr 1;refine oP (cS hs) (cS SD) (λp hp=>?_) (λp hp=>?_)
 ·obtain⟨q,hq,rfl⟩:=EZ.mp hp;exact EZ.mpr ⟨q,Fd.mpr (h1 q (Fd.mp hq)),rfl⟩
 ·rw[gv]at hp;obtain⟨q,hq,rfl⟩:=EZ.mp hp;exact EZ.mpr ⟨q,Fd.mpr (h2 q hq),rfl⟩
theorem ends{row:List Pt}(hs:row.Pairwise plt)(h2:2<=row.length):∃mn mx t1 t2,am row=mx::t1/\am row.reverse=mn::t2/\mn∈t1/\mx∈t2/\(∀p∈row,p=mn\/plt mn p)/\(∀p∈row,p=mx\/plt p mx)/\mn∈row/\mx∈row:=by
 have QF:row≠[]:=λz=>by rw[z]at h2;simp at h2
 obtain⟨K,hl,hh⟩:=b9 hs QF;have hneR:row.reverse.map ng≠[]:=by simpa using QF
 obtain⟨KR,hlR,hhR⟩:=b9 (cS hs) hneR;have e1:row.head?=some row[0]:=by rw[HD];exact EO (by lia)
 have e2:row.getLast?=some row[row.length-1]:=by rw[Gh];exact EO (by lia)
 have l01:plt row[0] row[row.length-1]:=Fm.mp hs 0 (row.length-1) (by lia) (by lia) (by lia)
 have mnA:∀p∈row,p=row[0]\/plt row[0] p:=λp hp=>by
  obtain⟨i,hi,rfl⟩:=Nc.mp hp;rcases J_ i with z |z
  ·left;subst z;rfl
  ·right;exact Fm.mp hs 0 i (by lia) hi z
 have mxA:∀p∈row,p=row[row.length-1]\/plt p row[row.length-1]:=λp hp=>by
  obtain⟨i,hi,rfl⟩:=Nc.mp hp;rcases FB (show i<=row.length-1 by lia) with z |z
  ·right;exact Fm.mp hs i (row.length-1) hi (by lia) z
  ·left;subst z;rfl
 have ne:row[0]≠row[row.length-1]:=λz=>by rw[z]at l01;exact a_ _ l01
 generalize row[0]=mn at *;generalize row[row.length-1]=mx at *;have mmn:mn∈row:=N4 e1;have mmx:mx∈row:=Hz e2;rw[e1]at hl;rw[e2]at hh
 have Td:(am row.reverse).getLast?=some mx:=by
  rw[bX,Kw,hlR,LG,Kg,e2];simp[gO]
 have Tz:(am row.reverse).head?=some mn:=by
  rw[bX,LG,hhR,Kw,Jo,e1];simp[gO]
 cases hb:am row with
 |nil=>rw[hb]at hh;cases hh
 |cons x t1=>
  rw[hb]at hh hl;cases hh;cases hbR:am row.reverse with
  |nil=>rw[hbR]at Tz;cases Tz
  |cons y t2=>
   rw[hbR]at Tz Td;cases Tz;refine⟨_,_,t1,t2,rfl,rfl,?_,?_,mnA,mxA,mmn,mmx⟩
   ·cases t1 with
    |nil=>simp at hl;exact absurd hl.symm ne
    |cons z r=>rw[Fo]at hl;exact Hz hl
   ·cases t2 with
    |nil=>simp at Td;exact absurd Td ne
    |cons z r=>rw[Fo]at Td;exact Hz Td
theorem ya(st:List Pt):st.reverse.dropLast=st.tail.reverse:=by
 cases st with
 |nil=>rfl
 |cons h t=>simp
theorem gG{l:List Pt}:l.reverse.Nodup↔l.Nodup:=by
 unfold List.Nodup;rw[Hq];exact⟨λh=>h.imp λk=>Ne.symm k,λh=>h.imp λk=>Ne.symm k⟩
theorem dH:∀{l m:List Pt},l.Nodup->(∀x∈l,x∈m)->l.length<=m.length
 |[],_,_,_=>Gz _
 |x::l,m,h,hs=>by
  obtain⟨h1,h2⟩:=HP.mp h;have hx:x∈m:=hs x E3;have ih:=dH (m:=m.erase x) h2 λy hy=>(Na (λe=>h1 (by rw[<-e];exact hy))).mpr (hs y (ET _ hy))
  rw[LO hx]at ih;have:=GD hx;simp only[FN];lia
theorem dB(pts:List Pt):(ST.srt pts).Pairwise plt:=iA.mp (ST.srt_asc pts)
theorem fW{pts:List Pt}(h:2<=(ST.srt pts).length):ao pts=(am (ST.srt pts)).tail.reverse++(am (ST.srt pts).reverse).tail.reverse:=by
 unfold ao;rw[if_neg (by lia),ya,ya]
theorem oD{pts:List Pt}(h:pts≠[]):ao pts≠[]:=by
 have hs:ST.srt pts≠[]:=λz=>by
  obtain⟨p,r,rfl⟩:=Lr h;have:=(ST.srt_mem p (p::r)).mpr E3;rw[z]at this;simp at this
 by_cases h1:(ST.srt pts).length=1
 ·unfold ao;rw[if_pos h1];exact hs
 ·have h2:2<=(ST.srt pts).length:=by have:=HH.mpr hs;lia
  obtain⟨mn,mx,t1,t2,e1,e2,m1,m2,_⟩:=ends (dB pts) h2;rw[fW h2,e1,e2];intro z;have:t1.reverse=[]:=(List.append_eq_nil_iff.mp z).1;rw[List.reverse_eq_nil_iff.mp this]at m1;simp at m1
theorem bh(pts:List Pt):(ao pts).Nodup:=by
 have nd:∀{l:List Pt},l.Pairwise plt->l.Nodup:=λh=>h.imp λ{a b} k e=>by rw[e]at k;exact a_ b k
 by_cases h2:2<=(ST.srt pts).length
 ·have hs:=dB pts;obtain⟨mn,mx,t1,t2,e1,e2,m1,m2,Th,hmx,i1,i2⟩:=ends hs h2;have n1:(mx::t1).Nodup:=by rw[<-e1];exact gG.mp (nd (iA.mp (dF hs)))
  have n2:(mn::t2).Nodup:=by
   rw[<-e2,bX];have:=gG.mp (nd (iA.mp (dF (cS hs))));refine FR.mpr (this.imp λ{a b} Su e=>Su ?_)
   rw[<-gO a,e,gO]
  obtain⟨x1,y1⟩:=HP.mp n1;obtain⟨x2,y2⟩:=HP.mp n2;rw[fW h2,e1,e2,IC,IC,G8];refine⟨gG.mpr y1,gG.mpr y2,λp hp q hq=>?_⟩
  rintro rfl;have p1:p∈t1:=Fd.mp hp;have p2:p∈t2:=Fd.mp hq;have b1:p∈am (ST.srt pts):=by rw[e1];exact ET _ p1
  have b2:p∈am (ST.srt pts).reverse:=by rw[e2];exact ET _ p2
  have pr:=bR _ _ b1;have l1:plt mn p:=(Th p pr).resolve_left λe=>x2 (by rw[<-e];exact p2)
  have l2:plt p mx:=(hmx p pr).resolve_left λe=>x1 (by rw[<-e];exact p1)
  have d1:=m_ hs b1 mn i1 mx i2 l1 l2;have b3:ng p∈am ((ST.srt pts).reverse.map ng):=by rw[gv];exact EZ.mpr ⟨p,b2,rfl⟩
  have d2:=m_ (cS hs) b3 (ng mx) (EZ.mpr ⟨mx,Fd.mpr i2,rfl⟩) (ng mn) (EZ.mpr ⟨mn,Fd.mpr i1,rfl⟩) (kK l2) (kK l1);rw[kE]at d2;unfold ae at d1 d2;grind
 ·unfold ao;split
  ·exact nd (dB pts)
  ·have e:ST.srt pts=[]:=G6.mp (by lia)
   rw[e];exact Pe
theorem be(pts:List Pt):∀p∈ao pts,p∈pts:=λp hp=>by
 unfold ao at hp;split at hp
 ·exact (ST.srt_mem p pts).mp hp
 ·rcases Fn.mp hp with h |h
  ·exact (ST.srt_mem p pts).mp (bR _ _ (Fd.mp (Nd _ h)))
  ·exact (ST.srt_mem p pts).mp (Fd.mp (bR _ _ (Fd.mp (Nd _ h))))
theorem ig(pts:List Pt):(ao pts).length<=pts.length:=dH (bh pts) (be pts)
theorem cO(pts:List Pt):ao (ao pts)=ao pts:=by
 by_cases h2:2<=(ST.srt pts).length
 ·have hs:=dB pts;obtain⟨mn,mx,t1,t2,e1,e2,m1,m2,Th,hmx,i1,i2⟩:=ends hs h2;have ec:=fW h2
  have mem1:∀p∈am (ST.srt pts),p∈ao pts:=λp hp=>by
   rw[ec,e1,e2,IC,IC];rw[e1]at hp;rcases E1.mp hp with z |z
   ·rw[z];exact Fw _ (Fd.mpr m2)
   ·exact FH _ (Fd.mpr z)
  have mem2:∀p∈am (ST.srt pts).reverse,p∈ao pts:=λp hp=>by
   rw[ec,e1,e2,IC,IC];rw[e2]at hp;rcases E1.mp hp with z |z
   ·rw[z];exact FH _ (Fd.mpr m1)
   ·exact Fw _ (Fd.mpr z)
  have SD:=dB (ao pts);have sub:∀p∈ST.srt (ao pts),p∈ST.srt pts:=λp hp=>(ST.srt_mem p pts).mpr (be pts p ((ST.srt_mem p _).mp hp))
  have q1:=oP hs SD sub λp hp=>(ST.srt_mem p _).mpr (mem1 p hp)
  have q2:=oy hs SD sub λp hp=>(ST.srt_mem p _).mpr (mem2 p hp)
  have len:2<=(ST.srt (ao pts)).length:=by
   have a1:mn∈ST.srt (ao pts):=(ST.srt_mem _ _).mpr (mem1 mn (by rw[e1];exact ET _ m1))
   have a2:mx∈ST.srt (ao pts):=(ST.srt_mem _ _).mpr (mem1 mx (by rw[e1];exact E3))
   have ne:mn≠mx:=λz=>by
    have nd:=bh pts;rw[ec,e1,e2,IC,IC,G8]at nd;exact nd.2.2 mn (Fd.mpr m1) mx (Fd.mpr m2) z
   have:=dH (l:=[mn,mx]) (m:=ST.srt (ao pts)) (by simp[ne]) (λx hx=>by
    rcases E1.mp hx with z |z
    ·rw[z];exact a1
    ·rw[E9.mp z];exact a2)
   exact this
  rw[fW len,q1,q2,<-ec]
 ·have e:ao pts=ST.srt pts:=by
   unfold ao;split
   ·rfl
   ·have e:ST.srt pts=[]:=G6.mp (by lia)
    rw[e];rfl
  rw[e];have e3:ST.srt (ST.srt pts)=ST.srt pts:=ST.asc_srt (ST.srt_asc pts);unfold ao;rw[e3];split
  ·rfl
  ·have e:ST.srt pts=[]:=G6.mp (by lia)
   rw[e];rfl
def u0:List U->Out->Prop:=λus o=>∃P Q R:P2,us=[pu P,pu Q,pu R]/\Szp 5000 P/\Szp 5000 Q/\Szp 5000 R/\o=.val (.int (sgn (ae P Q R)))
theorem tJ(T:Txt w K mg):ba P w K mg base (CXF P w) 2 T.aa9.a T.aa9.d ["P","Q","R"] (spU K (u0)):=by
 refine bo T.aa9.F A1 (λus o h=>?_) (λQK A outer s H E O us o hr h=>?_)
 ·obtain⟨P,Q,R,rfl,⟨p1,p2⟩,⟨q1,q2⟩,⟨r1,r2⟩,rfl⟩:=h;rfl
 obtain⟨P,Q,R,rfl,⟨p1,p2⟩,⟨q1,q2⟩,⟨r1,r2⟩,rfl⟩:=h;refine Ws.nox ?_;refine af (bp (aA ((sX T).mono (by decide)) hr rfl T.aa7.m T.aa7.F.kp T.aa7.b ay (ai (bL (bn (bL (aJ (aa 1 rfl) ag rfl rfl) (aJ (aa 0 rfl) ag rfl rfl)) (bL (aJ (aa 2 rfl) ag rfl rfl) (aJ (aa 0 rfl) ag rfl rfl)) (by walk_at"mul")) (bn (bL (aJ (aa 1 rfl) ag rfl rfl) (aJ (aa 0 rfl) ag rfl rfl)) (bL (aJ (aa 2 rfl) ag rfl rfl) (aJ (aa 0 rfl) ag rfl rfl)) (by walk_at"mul"))) au bN) ⟨_,rfl,rfl⟩) ?_)
 exact rfl
def rc:List U->Out->Prop:=λus o=>∃row:List P2,us=[lp row]/\(∀p∈row,Szp 5000 p)/\row.length<=900/\o=.new ((am row).reverse.map pu)
theorem gR(T:Txt w K mg):ba P w K mg base (CXF P w) 3 T.aai.a T.aai.d ["row"] (spU K (rc)):=by
 refine bo T.aai.F eG (λus o h=>?_) (λQK A outer s H E O us o hr h=>?_)
 ·obtain⟨row,rfl,sz,hl,rfl⟩:=h;rfl
 obtain⟨row,rfl,sz,hl,rfl⟩:=h;refine Ws.nox ?_;refine af (iR (i:=1) eG.nd rfl (Or.inl rfl) (bg aF) ?_);refine af (gl (λst:List P2=>[some (.val (lp row)),some (.own (st.reverse.map pu)),none]) (λi st=>st=am (row.take i)) rfl PassesOwn.never (dq (aa 0 rfl) (.inl rfl)) ?h0 ?hs ?hd)
 case h0=>exact⟨[],rfl,rfl,rfl,trivial⟩
 case hs=>
  rintro H0 i x _ hx rfl;obtain⟨P,hP,mP,rfl⟩:=wd hx;have hi:i<row.length:=aH hP;have sP:=sz P mP;refine⟨_,(h9 (i:=2) eG.nd rfl (Or.inl rfl)),?_⟩;have len0:=gw row i;refine fX (λps=>SubP [some (.val (lp row)),some (.own ((aT P (am (row.take i))).reverse.map pu)),some (.val (pu P))] ps) (iK (λs2:List P2=>[some (.val (lp row)),some (.own (s2.reverse.map pu)),some (.val (pu P))]) (λm s2=>m=s2.length/\aT P s2=aT P (am (row.take i))/\(∀p∈s2,p∈row)/\s2.length<=i) PassesOwn.never ?h0 ?hs) ?hj
  case h0=>exact⟨_,_,⟨rfl,rfl,λq hq=>eR row i q hq,len0⟩,rfl,rfl,rfl,trivial⟩
  case hs=>
   rintro m s2 ⟨rfl,e2,sub,RL⟩
   match s2,e2,sub,RL with
   |[],e2,sub,RL=>
    refine⟨false,?_,λh=>(nomatch h),λh ps QV=>e2 ▸ QV⟩
    exact (Tw.t (iW (aR gI (eJ 1 rfl rfl T.aaH) ag) rfl))
   |[b],e2,sub,RL=>
    refine⟨false,?_,λh=>(nomatch h),λh ps QV=>e2 ▸ QV⟩
    exact (Tw.t (iW (aR gI (eJ 1 rfl rfl T.aaH) ag) rfl))
   |b::a::r,e2,sub,RL=>
    have sa:=sz a (sub a (by simp))
    have sb:=sz b (sub b (by simp))
    have e1:decide ((1:Int)<((((b::a::r).reverse.map pu).length:Nat):Int))=true:=decide_eq_true (by simp;lia)
    refine⟨decide ((1:Int)<((((b::a::r).reverse.map pu).length:Nat):Int)) && decide (sgn (ae a b P)<1),?_,λh=>?_,λh ps QV=>?_⟩
    ·exact (Tw.t (tL (aR gI (eJ 1 rfl rfl T.aaH) ag) (λhz=>(qC (aR jv (aA ((tJ T).mono (by decide)) hr rfl T.aa9.m T.aa9.F.kp T.aa9.b ay (ai (jg 1 rfl (bZ ag) (uD b a r)) (ai (jg 1 rfl (bZ ag) (sM b (a::r))) (ai (aa 2 rfl) au aj) bM) bM) ⟨a,b,P,rfl,sa,sb,sP,rfl⟩) ag)))))
    ·rw[e1,Jx,xG]at h;have hd:=dTb h;refine af (wF 1 rfl (by simp) (aI ?_))
     refine⟨_,a::r,?_,⟨rfl,?_,λq hq=>sub q (ET _ hq),?_⟩,rfl,?_,rfl,trivial⟩
     ·simp
     ·rw[←e2];conv=>rhs;unfold aT
      rw[if_pos hd]
     ·simp only[FN]at *;lia
     ·exact congrArg (λl=>some (Sl.own l)) (by simp)
    ·rw[e1,Jx,xG]at h;have hd:=dFb h
     have e3:aT P (b::a::r)=b::a::r:=by conv=>lhs;unfold aT
                                        rw[if_neg hd]
     rw[<-e2,e3];exact QV
  case hj=>
   intro ps QV;refine dk ?_ QV;have e4:=fg hP;have TC:=jE P (am (row.take i));refine af (c_ 1 rfl (aa 2 rfl) (by rw[ES,F5];exact aL (by lia)) (aI ?_))
   refine⟨_,rfl,rfl,?_,trivial⟩;exact congrArg (λl=>some (Sl.own l)) (by rw[e4];simp)
 case hd=>
  rintro st ps Q7 QV;refine dk ?_ QV;refine af (qG 1 rfl ?_);rw[Q7];simp
theorem yw{m:Nat}{pts:List P2}(h:∀p∈pts,Szp m p):∀p∈ST.srt pts,Szp m p:=λp hp=>h p ((ST.srt_mem p pts).mp hp)
theorem gq(row:List P2):(am row).length<=row.length:=by
 have:=gw row row.length
 rwa [HX]at this
def rH:List U->Out->Prop:=λus o=>∃pts:List P2,us=[lp pts]/\(∀p∈pts,Szp 5000 p)/\pts.length<64/\pts≠[]/\o=.new ((ao pts).map pu)
theorem kU(T:Txt w K mg):ba P w K mg base (CXF P w) 4 T.aaE.a T.aaE.d ["points"] (spU K (rH)):=by
 refine bo T.aaE.F gg (λus o h=>?_) (λQK A outer s H E O us o hr h=>?_)
 ·obtain⟨pts,rfl,sz,hl,QF,rfl⟩:=h;rfl
 obtain⟨pts,rfl,sz,hl,QF,rfl⟩:=h;refine Ws.nox ?_;have hml:((pts.map pu).length:Int)=(pts.length:Int):=by rw[ES]
 have SU:0<pts.length:=HH.mpr QF;refine af (cE (aR cB (aG (dS rfl) rfl T.aaH GA (ai (aa 0 rfl) au aj)) ag) (by rw[hml];exact decide_eq_false (by lia)) (aI ?_))
 have sl:=ST.srt_len pts;have hms:(((ST.srt pts).map pu).length:Int)=((ST.srt pts).length:Int):=by rw[ES]
 have szs:=yw sz;by_cases h1:(ST.srt pts).length=1
 ·refine af (iR (i:=1) gg.nd rfl (Or.inl rfl) (g8 rfl (gu hr) rfl T.aa4 rfl T.abD (aa 0 rfl) (by lia) aj) ?_)
  refine af (gs (aR cB (eJ 1 rfl rfl T.aaH) ag) (by rw[hms];exact decide_eq_true (by lia)) ?_)
  refine af (qG 1 rfl ?_);show Out.new _=Out.new _;unfold ao;rw[if_pos h1]
 ·refine af (aw (i:=1) gg.nd rfl (Or.inl rfl) (EvN.ev (g8 rfl (gu hr) rfl T.aa4 rfl T.abD (aa 0 rfl) (by lia) aj)) ?_)
  refine af (cE (aR cB (aG (dS rfl) rfl T.aaH GA (ai (aa 1 rfl) au aj)) ag) (by rw[hms];exact decide_eq_false (by lia)) (aI ?_))
  have b1:=gq (ST.srt pts);have b2:=gq (ST.srt pts).reverse;rw[F5]at b2;refine af (aw (i:=2) gg.nd rfl (Or.inl rfl) (EvN.ev (ci ((gR T).mono (by decide)) hr rfl T.aai.m T.aai.F.kp T.aai.b ay (ai (aa 1 rfl) au aj) ⟨ST.srt pts,rfl,szs,by lia,rfl⟩)) ?_)
  refine af (aw (i:=3) gg.nd rfl (Or.inl rfl) (EvN.ev (ci ((gR T).mono (by decide)) hr rfl T.aai.m T.aai.F.kp T.aai.b ay (ai (EvN.ev (Dq (aa 1 rfl) (bZ ag) (.inl rfl))) au bM) ⟨(ST.srt pts).reverse,by rw[lp,HB],λp hp=>szs p (Fd.mp hp),by rw[F5];lia,rfl⟩)) ?_)
  refine af (fq (gj (EvN.ev (c8 (aa 2 rfl) fk (dZ (bZ ag)) (.inl rfl))) (EvN.ev (c8 (aa 3 rfl) fk (dZ (bZ ag)) (.inl rfl))) (by rw[i8,i8,ES,ES,HZ,HZ,F5,F5];exact Gw (aL (by lia)))) ?_)
  show Out.new _=Out.new _;unfold ao;rw[if_neg h1,i8,i8,<-F4]
def ap(a b c d e f:Int)(p:P2):P2:=(a*p.1+b*p.2+e,c*p.1+d*p.2+f)
theorem Bw{m:Nat}{a b c d e f:Int}{p:P2}(sa:Sz 500 a)(sb:Sz 500 b)(sc:Sz 500 c)(sd:Sz 500 d)(se:Sz 500 e)(sf:Sz 500 f)(hm:m<=3000)(s:Szp m p):Szp (m+510) (ap a b c d e f p):=by
 have key:∀{x y z:Int},Sz 500 x->Sz 500 y->Sz 500 z->Sz (m+510) (x*p.1+y*p.2+z):=λsx sy sz=>by
  have h1:=L2.Sz.add' (L2.Sz.mul sx s.1) (L2.Sz.mul sy s.2);have h2:=L2.Sz.add' h1 sz;exact h2.mono (by lia)
 exact⟨key sa sb se,key sc sd sf⟩
def zF:List U->Out->Prop:=λus o=>∃(pts:List P2) (a b c d e f:Int),us=[lp pts,mv a b c d e f]/\Mv a b c d e f/\(∀p∈pts,Szp 3000 p)/\(∀p∈pts,Szp 5000 (ap a b c d e f p))/\pts≠[]/\pts.length<64/\o=.new ((ao (pts.map (ap a b c d e f))).map pu)
theorem j6(T:Txt w K mg):ba P w K mg base (CXF P w) 5 T.aar.a T.aar.d ["land","move"] (spU K (zF)):=by
 refine bo T.aar.F fR (λus o h=>?_) (λQK A outer s H E O us o hr h=>?_)
 ·obtain⟨pts,a,b,c,d,e,f,rfl,M,sz,sy,QF,hl,rfl⟩:=h;rfl
 obtain⟨pts,a,b,c,d,e,f,rfl,M,sz,sy,QF,hl,rfl⟩:=h;refine Ws.nox ?_;refine af (fq (ci ((kU T).mono (by decide)) hr rfl T.aaE.m T.aaE.F.kp T.aaE.b ay (ai (EvN.ev (e_ (ys:=(pts.map λp=>pu (ap a b c d e f p))) rfl (blk (aq eO) ["land","move","P"] [2] rfl rfl rfl rfl (by decide+kernel)) (dq (aa 0 rfl) (.inl rfl)) (λ_ _ _ _=>bv (i:=2) fR.nd rfl (Or.inl rfl)) (d8 (by decide)) ?clen ?csz (λ_ _=>trivial) ?celt)) au eE) ⟨pts.map (ap a b c d e f),by rw[lp,FP];rfl,λp hp=>by obtain⟨q,hq,rfl⟩:=EZ.mp hp;exact sy q hq,by rw[ES];exact hl,by simpa using QF,rfl⟩) ?_)
 case clen=>simp
 case csz=>rw[ES];exact Gw (aL (by lia))
 case celt=>
  intro C s' H' fp j x y hx hy;obtain⟨p,hp,mp,rfl,rfl⟩:=fH hx hy;exact (aA ((pS T).mono (by decide)) hr rfl T.aa3.m T.aa3.F.kp T.aa3.b ay (ai (aa 2 rfl) (ai (aa 1 rfl) au aj) aj) ⟨p.1,p.2,a,b,c,d,e,f,rfl,M,(sz p mp).1.mono (by decide),(sz p mp).2.mono (by decide),rfl⟩)
 exact rfl
theorem kG{l m:List Pt}(h:ST.srt l=ST.srt m):ao l=ao m:=by unfold ao;rw[h]
theorem iV{l m:List Pt}(h:∀z,z∈l↔z∈m):ST.srt l=ST.srt m:=ST.asc_one (ST.srt_asc l) (ST.srt_asc m) λz=>by rw[ST.srt_mem,ST.srt_mem];exact h z
theorem dX{pts:List Pt}(h:¬ 2<=(ST.srt pts).length):ao pts=ST.srt pts:=by
 unfold ao;split
 ·rfl
 ·have e:ST.srt pts=[]:=G6.mp (by lia)
  rw[e];rfl
section
variable {f:Pt→Pt}
theorem Af(hf:∀a b,plt a b->plt (f a) (f b))(l:List Pt):ST.srt (l.map f)=(ST.srt l).map f:=by
 refine ST.asc_one (ST.srt_asc _) (iA.mpr (FR.mpr ((dB l).imp λ{a b} h=>hf a b h))) λz=>?_
 rw[ST.srt_mem,EZ,EZ];exact⟨λ⟨x,hx,e⟩=>⟨x,(ST.srt_mem x l).mpr hx,e⟩,λ⟨x,hx,e⟩=>⟨x,(ST.srt_mem x l).mp hx,e⟩⟩
theorem uc(hd:∀a b c,ae (f a) (f b) (f c)<=0↔ae a b c<=0)(P:Pt):∀st:List Pt,aT (f P) (st.map f)=(aT P st).map f
 |[]=>rfl
 |[_]=>rfl
 |b::a::r=>by
  show aT (f P) (f b::f a::r.map f)=_;unfold aT;by_cases h:ae a b P<=0
  ·rw[if_pos h,if_pos ((hd a b P).mpr h)];exact uc hd P (a::r)
  ·rw[if_neg h,if_neg λz=>h ((hd a b P).mp z)];rfl
theorem mw(hd:∀a b c,ae (f a) (f b) (f c)<=0↔ae a b c<=0)(row:List Pt):am (row.map f)=(am row).map f:=by
 have key:∀(l:List Pt) (st:List Pt),(l.map f).foldl (λst P=>P::aT P st) (st.map f)=(l.foldl (λst P=>P::aT P st) st).map f:=by
  intro l
  induction l with
  |nil=>intro st;rfl
  |cons p r ih=>
   intro st;rw[Ft,He,He,uc hd];exact ih (p::aT p st)
 exact key row []
theorem zg(hf:∀a b,plt a b->plt (f a) (f b))(hd:∀a b c,ae (f a) (f b) (f c)<=0↔ae a b c<=0)(l:List Pt):ao (l.map f)=(ao l).map f:=by
 unfold ao;rw[Af hf,ES,<-HB,mw hd,mw hd];split
 ·rfl
 ·rw[F4,LS,LS,HB,HB]
end
def scl(k:Int)(p:Pt):Pt:=(k*p.1,k*p.2)
theorem zS(p:Pt):scl 1 p=p:=by unfold scl;simp
def re:List Int->Int
 |[]=>0
 |a::l=>l.foldl min a
theorem gK:∀(l:List Int) (a:Int),l.foldl min a∈a::l
 |[],a=>by simp
 |b::l,a=>by
  have:=gK l (min a b);rw[He];rcases E1.mp this with e |e
  ·rw[e];rcases JZ a b with h |h
   ·rw[Int.min_eq_left h];simp
   ·rw[Int.min_eq_right h];simp
  ·exact ET _ (ET _ e)
theorem iL:∀(l:List Int) (a:Int),∀x∈a::l,l.foldl min a<=x
 |[],a,x,h=>by simp at h;rw[h];exact Mb _
 |b::l,a,x,h=>by
  have ih:=iL l (min a b);rw[He];have h0:=ih (min a b) E3;rcases E1.mp h with rfl |h
  ·lia
  ·rcases E1.mp h with rfl |h
   ·lia
   ·exact ih x (ET _ h)
theorem cM{l:List Int}(h:l≠[]):re l∈l/\∀a∈l,re l<=a:=by
 cases l with
 |nil=>exact absurd rfl h
 |cons a l=>exact⟨gK l a,iL l a⟩
abbrev gp(l:List P2)(i:Nat):P2:=l.getD i (0,0)
def nxt(l:List P2)(i:Nat):P2:=gp l ((i+1)%l.length)
def sdl(l:List P2):List (P2×P2):=(F_ l.length).map λi=>(gp l i,nxt l i)
abbrev pq(s:P2×P2):U:=.tup [pu s.1,pu s.2]
theorem dw{l:List P2}{i:Nat}(h:i<l.length):l[i]?=some (gp l i):=by simp[gp,h]
theorem hV{l:List P2}{i:Nat}(h:i<l.length):gp l i∈l:=Fs (dw h)
theorem Bc(l:List U):fo l (some 1) none=l.drop 1:=by
 unfold fo HT.sIx;cases l with
 |nil=>simp
 |cons a l=>simp
theorem Bn(l:List U):fo l none (some 1)=l.take 1:=by
 unfold fo HT.sIx;cases l with
 |nil=>simp
 |cons a l=>simp
theorem we(l:List P2):MQ (λa b=>U.tup [a,b]) (l.map pu) (fo (l.map pu) (some 1) none++fo (l.map pu) none (some 1))=(sdl l).map pq:=by
 rw[Bc,Bn];apply Im;intro i;unfold sdl;by_cases hi:i<l.length
 ·have e1:(l.map pu)[i]?=some (pu (gp l i)):=by rw[E7,dw hi];rfl
  have e2:((l.map pu).drop 1++(l.map pu).take 1)[i]?=some (pu (nxt l i)):=by
   unfold nxt;by_cases hj:i+1<l.length
   ·rw[Fp (by simp;lia),Iy,Qa,F8 hj,E7,dw hj];rfl
   ·have e:i+1=l.length:=by lia
    rw[Fq (by simp;lia),e,MV]
    rw[show i-((l.map pu).drop 1).length=0 by simp;lia,Hn (by lia),E7,dw (by lia)];rfl
  rw[HY.mpr ⟨_,_,e1,e2,rfl⟩,FP,E7,IV hi];rfl
 ·rw[FK (by simp;lia),FK (by simp;lia)]
theorem oj(l:List P2):(sdl l).length=l.length:=by simp[sdl]
theorem ce{l:List P2}{s:P2×P2}(h:s∈sdl l):s.1∈l/\s.2∈l:=by
 obtain⟨i,hi,rfl⟩:=EZ.mp h;have QO:=Fu.mp hi;exact⟨hV QO,hV (IM _ (by lia))⟩
def rO:List U->Out->Prop:=λus o=>∃l:List P2,us=[lp l]/\l.length<=900/\o=.new ((sdl l).map pq)
theorem jS(T:Txt w K mg):ba P w K mg base (CXF P w) 1 T.aaF.a T.aaF.d ["land"] (spU K (rO)):=by
 refine bo T.aaF.F xn (λus o h=>?_) (λQK A outer s H E O us o hr h=>?_)
 ·obtain⟨l,rfl,hl,rfl⟩:=h;rfl
 obtain⟨l,rfl,hl,rfl⟩:=h;refine Ws.nox ?_;have QJ:(fo (l.map pu) (some 1) none++fo (l.map pu) none (some 1)).length=l.length:=by rw[Bc,Bn];simp;lia
 refine af (fq (uO rfl rfl T.abf rfl T.abJ (aa 0 rfl) (.inl rfl) (EvN.ev (gj (EvN.ev (c8 (aa 0 rfl) (dZ ag) fk (.inl rfl))) (EvN.ev (c8 (aa 0 rfl) fk (dZ ag) (.inl rfl))) (by rw[<-Fx,QJ];exact Gw (aL (by lia))))) (.inl rfl) (by rw[QJ,ES]) (by rw[ES];lia) aj bN) ?_)
 rw[we]
theorem Eb{l:List P2}(h:0<l.length):atI (l.map pu) 0=some (pu (gp l 0)):=nI (i:=0) rfl (by rw[E7,dw h];rfl)
theorem At{l:List P2}(h:0<l.length):atI (l.map pu) (-1)=some (pu (gp l (l.length-1))):=by
 have e:ixN (l.map pu).length (-1)=some (l.length-1):=by
  unfold ixN;simp;lia
 unfold atI;rw[e];show (l.map pu)[l.length-1]?=_;rw[E7,dw (by lia)];rfl
def gst(s:P2×P2):Int:=((IZ (s.2.1-s.1.1) (s.2.2-s.1.2):Nat):Int)
def crs(s:P2×P2):Int:=s.1.1*s.2.2-s.1.2*s.2.1
def area(l:List P2):Int:=((sdl l).map crs).sum
def g5(l:List P2):Int:=((sdl l).map gst).sum
def pin(l:List P2):Int:=if l.length<3 then 0 else (area l-g5 l+2)/2
theorem dy{s:P2×P2}(h:s.1≠s.2):0<gst s:=by
 unfold gst
 have:IZ (s.2.1-s.1.1) (s.2.2-s.1.2)≠0:=λe=>by
  have:=Lj.mp e;exact h (Gf (by lia) (by lia))
 lia
def ev(p:P2):Int:=if p.1%2=0/\p.2%2=0 then 1 else 0
theorem jL(l:List P2):(sdl l).map (·.1)=l:=by
 apply Im;intro i;unfold sdl;rw[FP];by_cases hi:i<l.length
 ·rw[E7,IV hi,dw hi];rfl
 ·rw[FK (by simp;lia),FK (by lia)]
theorem nC(l:List P2):(sdl l).map (·.2)=l.drop 1++l.take 1:=by
 apply Im;intro i;unfold sdl;rw[FP];by_cases hi:i<l.length
 ·rw[E7,IV hi];show some (nxt l i)=_;unfold nxt;by_cases hj:i+1<l.length
  ·rw[Fp (by simp;lia),Iy,show 1+i=i+1 by lia,F8 hj,dw hj]
  ·have e:i+1=l.length:=by lia
   rw[Fq (by simp;lia),e,MV]
   rw[show i-(l.drop 1).length=0 by simp;lia,Hn (by lia),dw (by lia)]
 ·rw[FK (by simp;lia),FK (by simp;lia)]
theorem qc{α:Type}(f g:α->Int):∀l:List α,(l.map λs=>f s-g s).sum=(l.map f).sum-(l.map g).sum
 |[]=>rfl
 |a::l=>by simp only[Ft,HM,qc f g l];lia
theorem oS{α:Type}(f g:α->Int):∀l:List α,(l.map λs=>f s+g s).sum=(l.map f).sum+(l.map g).sum
 |[]=>rfl
 |a::l=>by simp only[Ft,HM,oS f g l];lia
theorem wU{l:List P2}(hn:l.Nodup)(h2:2<=l.length):∀s∈sdl l,s.1≠s.2:=λs hs e=>by
 obtain⟨i,hi,rfl⟩:=EZ.mp hs;have QO:=Fu.mp hi;have hj:(i+1)%l.length<l.length:=IM _ (by lia)
 have e':gp l i=gp l ((i+1)%l.length):=e;have:l[i]?=l[(i+1)%l.length]?:=by rw[dw QO,dw hj,e']
 have:=(JA QO hn).mp this;by_cases hk:i+1<l.length
 ·rw[F8 hk]at this;lia
 ·have e:i+1=l.length:=by lia
  rw[e,MV]at this;lia
theorem mY{m n:Nat}{l:List P2}(h:m<=n)(k:∀p∈l,Szp m p):∀p∈l,Szp n p:=λp hp=>⟨(k p hp).1.mono h,(k p hp).2.mono h⟩
def uP:List U->Out->Prop:=λus o=>∃l:List P2,us=[lp l]/\l.length<=900/\(∀p∈l,Szp 2500 p)/\o=.val (.int (area l))
theorem jV(T:Txt w K mg):ba P w K mg base (CXF P w) 2 T.aaq.a T.aaq.d ["land"] (spU K (uP)):=by
 refine bo T.aaq.F dR (λus o h=>?_) (λQK A outer s H E O us o hr h=>?_)
 ·obtain⟨l,rfl,hl,sz,rfl⟩:=h;rfl
 obtain⟨l,rfl,hl,sz,rfl⟩:=h;refine Ws.nox ?_;refine af (bp (aG (yQ rfl ) rfl T.abG boot_sum (ai (EvN.ev (e_ (ys:=(((sdl l).map crs).map U.int)) rfl (blk (aq eN) ["land","A","B"] [1,2] rfl rfl rfl rfl (by decide+kernel)) (dq (EvN.ev (ci ((jS T).mono (by decide)) hr rfl T.aaF.m T.aaF.F.kp T.aaF.b ay (ai (aa 0 rfl) au aj) ⟨l,rfl,hl,rfl⟩)) (.inl rfl)) (λ_ _ _ _=>qR rfl (bW (bv (i:=1) dR.nd rfl (Or.inl rfl)) (bW (bv (i:=2) dR.nd rfl (Or.inl rfl)) gB))) (tj (js:=[1,2]) (by decide)) ?clen ?csz ?dom ?celt)) au eE)) ?_)
 case clen=>simp
 case csz=>simp only[oj,ES];exact Gw (aL (by lia))
 case dom=>
  intro x hx;obtain⟨s,_,rfl⟩:=EZ.mp hx;exact⟨_,rfl,rfl⟩
 case celt=>
  intro C s' H' fp j x y hx hy;rw[FP]at hy;obtain⟨s,hs,ms,rfl,rfl⟩:=fH hx hy;obtain⟨m1,m2⟩:=ce ms;have z1:=(sz _ m1).1;have z2:=(sz _ m1).2;have z3:=(sz _ m2).1;have z4:=(sz _ m2).2;exact (bL (bn (aJ (aa 1 rfl) ag rfl rfl) (aJ (aa 2 rfl) ag rfl rfl) (by walk_at"mul")) (bn (aJ (aa 1 rfl) ag rfl rfl) (aJ (aa 2 rfl) ag rfl rfl) (by walk_at"mul")))
 exact rfl
theorem pK{done:List Pt}:∀{st:List Pt},fT done st->∀(k:Nat) {a b:Pt},st[k]?=some b->st[k+1]?=some a->∀q∈done,0<=ae a b q
 |[],_,k,_,_,h,_=>by simp at h
 |[_],_,k,_,_,_,h=>by simp at h
 |x::y::r,C,0,a,b,h1,h2=>by
  simp at h1 h2;subst h1;subst h2;exact C.1
 |x::y::r,C,k+1,a,b,h1,h2=>pK C.2 k (by simpa using h1) (by simpa using h2)
theorem oG:∀{st:List Pt},jo st->∀(k:Nat) {a b c:Pt},st[k]?=some c->st[k+1]?=some b->st[k+2]?=some a->0<ae a b c
 |[],_,k,_,_,_,h,_,_=>by simp at h
 |[_],_,k,_,_,_,_,h,_=>by simp at h
 |[_,_],_,k,_,_,_,_,_,h=>by simp at h
 |x::y::z::r,C,0,a,b,c,h1,h2,h3=>by
  simp at h1 h2 h3;subst h1;subst h2;subst h3;exact C.1
 |x::y::z::r,C,k+1,a,b,c,h1,h2,h3=>oG C.2 k (by simpa using h1) (by simpa using h2) (by simpa using h3)
theorem wq{st:List Pt}{i:Nat}{a b:Pt}(h1:st.reverse[i]?=some a)(h2:st.reverse[i+1]?=some b):∃k,st[k]?=some b/\st[k+1]?=some a:=by
 have l2:i+1<st.length:=by have:=(Fb.mp h2).1;simpa using this
 rw[G0 (by lia)]at h1
 rw[G0 l2]at h2;exact⟨st.length-1-(i+1),h2,by rw[<-h1];congr 1;lia⟩
theorem vt{st:List Pt}{i:Nat}{a b c:Pt}(h1:st.reverse[i]?=some a)(h2:st.reverse[i+1]?=some b)(h3:st.reverse[i+2]?=some c):∃k,st[k]?=some c/\st[k+1]?=some b/\st[k+2]?=some a:=by
 have l3:i+2<st.length:=by have:=(Fb.mp h3).1;simpa using this
 rw[G0 (by lia)]at h1
 rw[G0 (by lia)]at h2
 rw[G0 l3]at h3;exact⟨st.length-1-(i+2),h3,by rw[<-h2];congr 1;lia,by rw[<-h1];congr 1;lia⟩
theorem gh{row:List Pt}(hs:row.Pairwise plt)(h:row≠[]){i:Nat}{a b:Pt}(h1:(am row).reverse[i]?=some a)(h2:(am row).reverse[i+1]?=some b):∀q∈row,0<=ae a b q:=by
 obtain⟨k,e1,e2⟩:=wq h1 h2;exact pK (b9 hs h).1.cover k e1 e2
theorem h_{row:List Pt}(hs:row.Pairwise plt)(h:row≠[]){i:Nat}{a b c:Pt}(h1:(am row).reverse[i]?=some a)(h2:(am row).reverse[i+1]?=some b)(h3:(am row).reverse[i+2]?=some c):0<ae a b c:=by
 obtain⟨k,e1,e2,e3⟩:=vt h1 h2 h3;exact oG (b9 hs h).1.turns k e1 e2 e3
theorem fI{row:List Pt}{i:Nat}{a:Pt}(h1:(am row.reverse).reverse[i]?=some a):(am (row.reverse.map ng)).reverse[i]?=some (ng a):=by
 rw[bX,<-HB,E7]at h1;cases e:(am (row.reverse.map ng)).reverse[i]? with
 |none=>rw[e]at h1;cases h1
 |some z=>rw[e]at h1;cases h1;rw[gO]
theorem g9{row:List Pt}(hs:row.Pairwise plt)(h:row≠[]){i:Nat}{a b:Pt}(h1:(am row.reverse).reverse[i]?=some a)(h2:(am row.reverse).reverse[i+1]?=some b):∀q∈row,0<=ae a b q:=λq hq=>by
 have:=gh (cS hs) (by simpa using h) (fI h1) (fI h2) (ng q) (F6 (Fd.mpr hq))
 rwa [kE]at this
theorem mK{row:List Pt}(hs:row.Pairwise plt)(h:row≠[]){i:Nat}{a b c:Pt}(h1:(am row.reverse).reverse[i]?=some a)(h2:(am row.reverse).reverse[i+1]?=some b)(h3:(am row.reverse).reverse[i+2]?=some c):0<ae a b c:=by
 have:=h_ (cS hs) (by simpa using h) (fI h1) (fI h2) (fI h3)
 rwa [kE]at this
theorem x9{u1 u2 v1 v2 w1 w2:Int}(hu:cG u1 u2)(hv:cG v1 v2)(h0:u1*v2-u2*v1=0)(h1:u1*w2-u2*w1<=0)(h2:0<=v1*w2-v2*w1):u1*w2-u2*w1=0/\v1*w2-v2*w1=0:=by
 have e1:v1*(u1*w2-u2*w1)=u1*(v1*w2-v2*w1):=by grind
 have e2:v2*(u1*w2-u2*w1)=u2*(v1*w2-v2*w1):=by grind
 have fin:∀{s t A B:Int},0<s->0<t->s*A=t*B->A<=0->0<=B->A=0/\B=0:=λ{s t A B} hs ht e ha hb=>by
  have k1:s*A<=0:=Ht (by lia) ha
  have k2:0<=t*B:=Fc (by lia) hb
  have z1:s*A=0:=by lia
  have z2:t*B=0:=by lia
  refine⟨(Ga.mp z1).resolve_left (by lia),(Ga.mp z2).resolve_left (by lia)⟩
 rcases hu with hu |⟨hu,hu2⟩
 ·rcases hv with hv |⟨hv,Uc⟩
  ·exact fin hv hu e1 h1 h2
  ·rw[hv]at h0;have:=FO hu Uc;lia
 ·rcases hv with hv |⟨hv,Uc⟩
  ·rw[hu]at h0;have:=FO hu2 hv;lia
  ·exact fin Uc hu2 e2 h1 h2
theorem vQ{a m c:Pt}(ha:plt a m)(hc:plt c m)(h:ae a m c=0){q:Pt}(h1:0<=ae a m q)(h2:0<=ae m c q):ae a m q=0/\ae m c q=0:=by
 have k:=x9 (w1:=m.1-q.1) (w2:=m.2-q.2) (aD ha) (aD hc) (by unfold ae at h;grind) (by unfold ae at h1;grind) (by unfold ae at h2;grind)
 unfold ae;exact⟨by grind,by grind⟩
theorem A0(a b c:Pt):ae a b c=ae b c a:=by unfold ae;grind
theorem DO{row:List Pt}(hs:row.Pairwise plt)(QF:row≠[]){i:Nat}{a m c:Pt}(h1:(am row).reverse[i]?=some a)(h2:(am row).reverse[i+1]?=some m)(hl:(am row).length=i+2)
  (h3:(am row.reverse).reverse[0]?=some m) (h4:(am row.reverse).reverse[1]?=some c) (ha:plt a m) (hc:plt c m) (big:2<(am row).length\/2<(am row.reverse).length):0<ae a m c:=by
 have mem:∀{j:Nat}{p:Pt},(am row).reverse[j]?=some p->p∈row:=λh=>bR row _ (Fd.mp (Fs h))
 have memR:∀{j:Nat}{p:Pt},(am row.reverse).reverse[j]?=some p->p∈row:=λh=>Fd.mp (bR _ _ (Fd.mp (Fs h)))
 have cv:=gh hs QF h1 h2;have cb:=g9 hs QF h3 h4;have h0:=cv c (memR h4);rcases GU h0 with z |z
 ·exact z
 ·exfalso
  have flat:∀q∈row,ae a m q=0/\ae m c q=0:=λq hq=>vQ ha hc z.symm (cv q hq) (cb q hq)
  rcases big with b |b
  ·have hi:0<i:=by lia
   have hx:i-1<(am row).reverse.length:=by simp;lia
   have e:=EO hx;have t:=h_ hs QF e (by rw[Nat.sub_add_cancel hi];exact h1) (by rw[show i-1+2=i+1 by lia];exact h2)
   rw[A0,(flat _ (mem e)).1]at t;lia
  ·have hx:2<(am row.reverse).reverse.length:=by simpa using b
   have e:=EO hx;have t:=mK hs QF h3 h4 e;rw[(flat _ (memR e)).2]at t;lia
structure B5(row T B:List Pt)(mn mx:Pt):Prop where
 t0:T[0]?=some mn
 t1:T[T.length-1]?=some mx
 b0:B[0]?=some mx
 b1:B[B.length-1]?=some mn
 lt:2<=T.length
 lb:2<=B.length
 least:∀p∈row,p=mn\/plt mn p
 most:∀p∈row,p=mx\/plt p mx
theorem BC{l:List Pt}:l.reverse[0]?=l.getLast?:=by rw[List.getLast?_eq_head?_reverse,HD]
theorem Bp{l:List Pt}:l.reverse[l.reverse.length-1]?=l.head?:=by rw[<-Gh,Jo]
theorem BY{row:List Pt}(hs:row.Pairwise plt)(h2:2<=row.length):∃mn mx,B5 row (am row).reverse (am row.reverse).reverse mn mx:=by
 have QF:row≠[]:=λz=>by rw[z]at h2;simp at h2
 obtain⟨mn,mx,t1,t2,e1,e2,m1,m2,least,most,_,_⟩:=ends hs h2;obtain⟨K,hl,hh⟩:=b9 hs QF;obtain⟨KR,hlR,hhR⟩:=b9 (cS hs) (by simpa using QF)
 have l1:2<=(am row).length:=by rw[e1];have:=GD m1;simp;lia
 have l2:2<=(am row.reverse).length:=by rw[e2];have:=GD m2;simp;lia
 have hd:row.head?=some row[0]:=by rw[HD];exact EO (by lia)
 have ld:row.getLast?=some row[row.length-1]:=by rw[Gh];exact EO (by lia)
 have q1:row[0]=mn:=by
  have hb:=hhR;rw[Kw,Jo,hd]at hb;have:(am row.reverse).head?=some row[0]:=by rw[bX,LG,hb];simp[gO]
  rw[e2]at this;exact (FV this).symm
 have q2:row[row.length-1]=mx:=by
  rw[ld,e1]at hh;exact (FV hh).symm
 refine⟨mn,mx,?_,?_,?_,?_,by simpa using l1,by simpa using l2,least,most⟩
 ·rw[BC,hl,hd,q1]
 ·rw[Bp,hh,ld,q2]
 ·rw[BC,bX,Kw,hlR,LG,Kg,ld,q2];simp[gO]
 ·rw[Bp,e2];rfl
section
variable {row T B:List Pt}{mn mx:Pt}
theorem d9(W:B5 row T B mn mx){k:Nat}(hk:k<=T.length-1):(T.dropLast++B.dropLast)[k%(T.dropLast++B.dropLast).length]?=T[k]?:=by
 have h1:=W.lt;have h2:=W.lb;have hn:(T.dropLast++B.dropLast).length=T.length-1+(B.length-1):=by simp
 rw[hn,F8 (by lia)]
 by_cases h:k<T.length-1
 ·rw[Fp (by simpa using h),Jd,if_pos h]
 ·obtain rfl:k=T.length-1:=by lia
  rw[Fq (by simp),HZ,N8,Jd,if_pos (by lia),W.b0,W.t1]
theorem jI(W:B5 row T B mn mx){k:Nat}(h0:T.length-1<=k)(hk:k<=T.length-1+(B.length-1)):(T.dropLast++B.dropLast)[k%(T.dropLast++B.dropLast).length]?=B[k-(T.length-1)]?:=by
 have h1:=W.lt;have h2:=W.lb;have hn:(T.dropLast++B.dropLast).length=T.length-1+(B.length-1):=by simp
 by_cases h:k<T.length-1+(B.length-1)
 ·rw[hn,F8 h,Fq (by simpa using h0),HZ,Jd,if_pos (by lia)]
 ·obtain rfl:k=T.length-1+(B.length-1):=by lia
  have:=d9 W (k:=0) (by lia)
  rw[Qh]at this;rw[hn,MV,this,W.t0,show T.length-1+(B.length-1)-(T.length-1)=B.length-1 by lia,W.b1]
end
theorem eu{l:List Pt}{i:Nat}(h:i<l.length):∃a,l[i]?=some a:=⟨_,EO h⟩
theorem k7{pts:List Pt}(h2:2<=(ST.srt pts).length){i:Nat}(hi:i<(ao pts).length):∃a b,(ao pts)[i]?=some a/\(ao pts)[(i+1)%(ao pts).length]?=some b/\(∀p∈pts,0<=ae a b p)/\(2<(ao pts).length->∃c,(ao pts)[(i+2)%(ao pts).length]?=some c/\0<ae a b c):=by
 have hs:=dB pts;have QF:ST.srt pts≠[]:=λz=>by rw[z]at h2;simp at h2
 obtain⟨mn,mx,W⟩:=BY hs h2;have Te:∀p∈pts,p∈ST.srt pts:=λp hp=>(ST.srt_mem p pts).mpr hp
 have hc:ao pts=(am (ST.srt pts)).reverse.dropLast++(am (ST.srt pts).reverse).reverse.dropLast:=by
  unfold ao;rw[if_neg (by lia)]
 have tc:∀{j:Nat}{a b:Pt},(am (ST.srt pts)).reverse[j]?=some a->(am (ST.srt pts)).reverse[j+1]?=some b->∀q∈ST.srt pts,0<=ae a b q:=λh h'=>gh hs QF h h'
 have tt:∀{j:Nat}{a b c:Pt},(am (ST.srt pts)).reverse[j]?=some a->(am (ST.srt pts)).reverse[j+1]?=some b->(am (ST.srt pts)).reverse[j+2]?=some c->0<ae a b c:=λh h' h''=>h_ hs QF h h' h''
 have bc:∀{j:Nat}{a b:Pt},(am (ST.srt pts).reverse).reverse[j]?=some a->(am (ST.srt pts).reverse).reverse[j+1]?=some b->∀q∈ST.srt pts,0<=ae a b q:=λh h'=>g9 hs QF h h'
 have bt:∀{j:Nat}{a b c:Pt},(am (ST.srt pts).reverse).reverse[j]?=some a->(am (ST.srt pts).reverse).reverse[j+1]?=some b->(am (ST.srt pts).reverse).reverse[j+2]?=some c->0<ae a b c:=λh h' h''=>mK hs QF h h' h''
 have TF:∀{j:Nat}{p:Pt},(am (ST.srt pts)).reverse[j]?=some p->p∈ST.srt pts:=λh=>bR _ _ (Fd.mp (Fs h))
 have memB:∀{j:Nat}{p:Pt},(am (ST.srt pts).reverse).reverse[j]?=some p->p∈ST.srt pts:=λh=>Fd.mp (bR _ _ (Fd.mp (Fs h)))
 have ndT:(am (ST.srt pts)).reverse.Nodup:=(dF hs).imp λ{a b} h e=>by subst e;exact a_ _ ((fV _ _).mpr h)
 have ndB:(am (ST.srt pts).reverse).reverse.Nodup:=by
  rw[bX,<-HB];have ndR:(am ((ST.srt pts).reverse.map ng)).reverse.Nodup:=(dF (cS hs)).imp λ{a b} h e=>by subst e;exact a_ _ ((fV _ _).mpr h)
  exact Hs _ (λa b (h:a≠b) e=>h (by have:=congrArg ng e;rwa [gO,gO]at this)) ndR
 have m1:∀{j:Nat}{a m c:Pt},(am (ST.srt pts)).reverse[j]?=some a->(am (ST.srt pts)).reverse[j+1]?=some m->(am (ST.srt pts)).length=j+2->(am (ST.srt pts).reverse).reverse[0]?=some m->(am (ST.srt pts).reverse).reverse[1]?=some c->plt a m->plt c m->2<(am (ST.srt pts)).length\/2<(am (ST.srt pts).reverse).length->0<ae a m c:=λa1 a2 a3 a4 a5 a6 a7 a8=>DO hs QF a1 a2 a3 a4 a5 a6 a7 a8
 have m2:∀{j:Nat}{a m c:Pt},(am (ST.srt pts).reverse).reverse[j]?=some a->(am (ST.srt pts).reverse).reverse[j+1]?=some m->(am (ST.srt pts).reverse).length=j+2->(am (ST.srt pts)).reverse[0]?=some m->(am (ST.srt pts)).reverse[1]?=some c->plt m a->plt m c->2<(am (ST.srt pts)).length\/2<(am (ST.srt pts).reverse).length->0<ae a m c:=λ{j a m c} a1 a2 a3 a4 a5 a6 a7 a8=>by
  have er:((ST.srt pts).reverse.map ng).reverse=(ST.srt pts).map ng:=by rw[<-HB,IF]
  have fw:∀{k:Nat}{p:Pt},(am (ST.srt pts)).reverse[k]?=some p->(am ((ST.srt pts).reverse.map ng).reverse).reverse[k]?=some (ng p):=λ{k p} h=>by
   rw[er,gv,<-HB,E7,h];rfl
  have lb:(am ((ST.srt pts).reverse.map ng)).length=(am (ST.srt pts).reverse).length:=by rw[bX,ES]
  have lt:(am ((ST.srt pts).reverse.map ng).reverse).length=(am (ST.srt pts)).length:=by rw[er,gv,ES]
  have:=DO (cS hs) (by simpa using QF) (fI a1) (fI a2) (by rw[lb];exact a3) (fw a4) (fw a5) (kK a6) (kK a7) (by rw[lb,lt];exact a8.symm)
  rwa [kE]at this
 rw[hc]at hi |-;have lT:(am (ST.srt pts)).reverse.length=(am (ST.srt pts)).length:=F5;have lB:(am (ST.srt pts).reverse).reverse.length=(am (ST.srt pts).reverse).length:=F5;generalize (am (ST.srt pts)).reverse=T at *;generalize (am (ST.srt pts).reverse).reverse=B at *;have h1:=W.lt;have h3:=W.lb;have hn:(T.dropLast++B.dropLast).length=T.length-1+(B.length-1):=by simp
 have own:∀k,k<(T.dropLast++B.dropLast).length->(T.dropLast++B.dropLast)[k]?=(T.dropLast++B.dropLast)[k%(T.dropLast++B.dropLast).length]?:=λk hk=>by rw[F8 hk]
 have tne:∀{j k:Nat}{p q:Pt},T[j]?=some p->T[k]?=some q->j≠k->p≠q:=λ{j k p q} a1 a2 a3 e=>a3 ((JA (aH a1) ndT).mp (by rw[a1,a2,e]))
 have bne:∀{j k:Nat}{p q:Pt},B[j]?=some p->B[k]?=some q->j≠k->p≠q:=λ{j k p q} a1 a2 a3 e=>a3 ((JA (aH a1) ndB).mp (by rw[a1,a2,e]))
 by_cases c1:i<T.length-1
 ·obtain⟨a,ea⟩:=eu (l:=T) (i:=i) (by lia)
  obtain⟨b,eb⟩:=eu (l:=T) (i:=i+1) (by lia)
  refine⟨a,b,by rw[own i hi,d9 W (by lia)];exact ea,by rw[d9 W (by lia)];exact eb,λp hp=>tc ea eb p (Te p hp),λbig=>?_⟩
  by_cases c2:i+2<=T.length-1
  ·obtain⟨c,ec⟩:=eu (l:=T) (i:=i+2) (by lia)
   exact⟨c,by rw[d9 W c2];exact ec,tt ea eb ec⟩
  ·have e:i+1=T.length-1:=by lia
   obtain⟨c,ec⟩:=eu (l:=B) (i:=1) (by lia)
   have emx:b=mx:=by have:=W.t1;rw[<-e,eb]at this;exact FV this
   subst emx;refine⟨c,by rw[jI W (by lia) (by lia),show i+2-(T.length-1)=1 by lia];exact ec,m1 ea eb (by lia) W.b0 ec ?_ ?_ (by lia)⟩
   ·exact (W.most a (TF ea)).resolve_left (tne ea eb (by lia))
   ·exact (W.most c (memB ec)).resolve_left (bne ec W.b0 (by lia))
 ·obtain⟨a,ea⟩:=eu (l:=B) (i:=i-(T.length-1)) (by lia)
  obtain⟨b,eb⟩:=eu (l:=B) (i:=i-(T.length-1)+1) (by lia)
  refine⟨a,b,by rw[own i hi,jI W (by lia) (by lia)];exact ea,by rw[jI W (by lia) (by lia),show i+1-(T.length-1)=i-(T.length-1)+1 by lia];exact eb,λp hp=>bc ea eb p (Te p hp),λbig=>?_⟩
  by_cases c2:i+2<=T.length-1+(B.length-1)
  ·obtain⟨c,ec⟩:=eu (l:=B) (i:=i-(T.length-1)+2) (by lia)
   exact⟨c,by rw[jI W (by lia) c2,show i+2-(T.length-1)=i-(T.length-1)+2 by lia];exact ec,bt ea eb ec⟩
  ·have e:i-(T.length-1)+1=B.length-1:=by lia
   obtain⟨c,ec⟩:=eu (l:=T) (i:=1) (by lia)
   have emn:b=mn:=by have:=W.b1;rw[<-e,eb]at this;exact FV this
   subst emn;refine⟨c,?_,m2 ea eb (by lia) W.t0 ec ?_ ?_ (by lia)⟩
   ·have:=d9 W (k:=1) (by lia)
    rw[show (i+2)%(T.dropLast++B.dropLast).length=1%(T.dropLast++B.dropLast).length by rw[hn,show i+2=1+(T.length-1+(B.length-1)) by lia,N5],this]
    exact ec
   ·exact (W.least a (memB ea)).resolve_left (bne ea eb (by lia))
   ·exact (W.least c (TF ec)).resolve_left (tne ec W.t0 (by lia))
def cd(n q:Int):Int:=-(-n/q)
structure Chd(n q:Int):Prop where
 q0:0<=q
 qn:q<n
 g:IZ n q=1
def unc:List Int->Int×Int
 |[]=>(1,0)
 |b::l=>(b*(unc l).1-(unc l).2,(unc l).1)
structure Lvl(a b:Pt)(g u v s t:Int):Prop where
 g0:0<g
 e1:b.1-a.1=g*u
 e2:b.2-a.2=g*v
 st:s*u+t*v=1
def tx(a c:Pt)(s t:Int):Int:=s*(c.1-a.1)+t*(c.2-a.2)
def ty(a c:Pt)(u v:Int):Int:=u*(c.2-a.2)-v*(c.1-a.1)
def bk(a:Pt)(u v s t x y:Int):Pt:=(u*x-t*y+a.1,v*x+s*y+a.2)
theorem Lvl.area{a b:Pt}{g u v s t:Int}(L:Lvl a b g u v s t)(c:Pt):ae a b c=g*ty a c u v:=by
 have:=L.e1;have:=L.e2;unfold ae ty;grind
theorem Lvl.d1{a b:Pt}{g u v s t:Int}(L:Lvl a b g u v s t)(x y:Int):ae a b (bk a u v s t x y)=g*y:=by
 have:=L.e1;have:=L.e2;have:=L.st;unfold ae bk;dsimp only;grind
theorem Lvl.back{a b:Pt}{g u v s t:Int}(L:Lvl a b g u v s t)(c:Pt):c.1=u*tx a c s t-t*ty a c u v+a.1/\c.2=v*tx a c s t+s*ty a c u v+a.2:=by
 have:=L.st;unfold tx ty;constructor <;>grind
theorem Lvl.d3{a b:Pt}{g u v s t:Int}(L:Lvl a b g u v s t)(c:Pt)(x y:Int):ae c a (bk a u v s t x y)=ty a c u v*x-tx a c s t*y:=by
 obtain⟨k1,k2⟩:=L.back c;have h:=L.st;generalize tx a c s t=X at *;generalize ty a c u v=Y at *;unfold ae bk;dsimp only;rw[k1,k2];grind
theorem Lvl.d2{a b:Pt}{g u v s t:Int}(L:Lvl a b g u v s t)(c:Pt)(x y:Int):ae b c (bk a u v s t x y)=(tx a c s t-g) *y-ty a c u v*(x-g):=by
 obtain⟨k1,k2⟩:=L.back c;have h:=L.st;have m1:b.1=a.1+g*u:=by have:=L.e1;lia
 have m2:b.2=a.2+g*v:=by have:=L.e2;lia
 generalize tx a c s t=X at *;generalize ty a c u v=Y at *;unfold ae bk;dsimp only;rw[k1,k2,m1,m2];grind
def wth(a b:Int)(p:Pt):Int:=a*p.1+b*p.2
theorem CD{a b:Int}{u p v:Pt}(hb:b<=0)(h1:plt u p)(h2:plt p v)(h:ae u p v<=0):wth a b p<=wth a b u\/wth a b p<=wth a b v:=by
 rcases Gm (wth a b u) (wth a b p) with c1 |c1
 ·rcases Gm (wth a b v) (wth a b p) with c2 |c2
  ·exfalso
   have e:(v.1-p.1) *(wth a b p-wth a b u)+(p.1-u.1) *(wth a b p-wth a b v)=-((-b) *(-(ae u p v))):=by unfold wth ae;grind
   have n1:0<=(-b) *(-(ae u p v)):=Fc (by lia) (by lia)
   have d1:0<=p.1-u.1:=by unfold plt at h1;lia
   have d2:0<=v.1-p.1:=by unfold plt at h2;lia
   have m1:0<=(v.1-p.1) *(wth a b p-wth a b u):=Fc d2 (by lia)
   have m2:0<=(p.1-u.1) *(wth a b p-wth a b v):=Fc d1 (by lia)
   rcases Gm 0 (p.1-u.1) with d |d
   ·have:=FO d (show 0<wth a b p-wth a b v by lia)
    lia
   ·have ex:u.1=p.1:=by lia
    have ey:u.2<p.2:=by unfold plt at h1;lia
    have:0<=(-b) *(p.2-u.2):=Fc (by lia) (by lia)
    have e2:wth a b p-wth a b u=-((-b) *(p.2-u.2)):=by unfold wth;rw[ex];grind
    lia
  ·exact .inr c2
 ·exact .inl c1
theorem sN{row:List Pt}(hs:row.Pairwise plt){a b:Int}(hb:b<=0){p:Pt}(hp:p∈row):∃c∈am row,wth a b p<=wth a b c:=by
 by_cases h:p∈am row
 ·exact⟨p,h,Mb _⟩
 ·obtain⟨u,hu,v,hv,k1,k2,k3⟩:=gap hs hp h;rcases CD (a:=a) hb k1 k2 k3 with e |e
  ·exact⟨u,hu,e⟩
  ·exact⟨v,hv,e⟩
theorem C8(a b:Int)(p:Pt):wth (-a) (-b) (ng p)=wth a b p:=by unfold wth ng;grind
theorem Ar(a b:Int)(p:Pt):wth a b (ng p)=wth (-a) (-b) p:=by unfold wth ng;grind
theorem wx{row:List Pt}(hs:row.Pairwise plt){a b:Int}(hb:0<=b){p:Pt}(hp:p∈row):∃c∈am row.reverse,wth a b p<=wth a b c:=by
 obtain⟨c,hc,k⟩:=sN (cS hs) (a:=-a) (b:=-b) (by lia) (p:=ng p) (EZ.mpr ⟨p,Fd.mpr hp,rfl⟩)
 refine⟨ng c,by rw[bX];exact EZ.mpr ⟨c,hc,rfl⟩,?_⟩
 rw[C8]at k;rw[Ar];exact k
theorem pj{pts:List Pt}(a b:Int){p:Pt}(hp:p∈pts):∃c∈ao pts,wth a b p<=wth a b c:=by
 have Rr:p∈ST.srt pts:=(ST.srt_mem p pts).mpr hp;by_cases h2:2<=(ST.srt pts).length
 ·have hs:=dB pts;obtain⟨mn,mx,t1,t2,e1,e2,m1,m2,_⟩:=ends hs h2;have big:=fW h2;rw[e1,e2]at big;rcases JZ b 0 with hb |hb
  ·obtain⟨c,hc,k⟩:=sN hs (a:=a) hb Rr;refine⟨c,?_,k⟩;rw[big];rw[e1]at hc;rcases E1.mp hc with rfl |hc
   ·exact Fw _ (Fd.mpr m2)
   ·exact FH _ (Fd.mpr hc)
  ·obtain⟨c,hc,k⟩:=wx hs (a:=a) hb Rr;refine⟨c,?_,k⟩;rw[big];rw[e2]at hc;rcases E1.mp hc with rfl |hc
   ·exact FH _ (Fd.mpr m1)
   ·exact Fw _ (Fd.mpr hc)
 ·exact⟨p,by rw[dX h2];exact Rr,Mb _⟩
def hiL:List Int->Int
 |[]=>0
 |a::l=>l.foldl max a
theorem eK:∀(l:List Int) (a:Int),l.foldl max a∈a::l
 |[],a=>by simp
 |b::l,a=>by
  have:=eK l (max a b);rw[He];rcases E1.mp this with e |e
  ·rw[e];rcases JZ a b with h |h
   ·rw[Int.max_eq_right h];simp
   ·rw[Int.max_eq_left h];simp
  ·exact ET _ (ET _ e)
theorem fu:∀(l:List Int) (a:Int),∀x∈a::l,x<=l.foldl max a
 |[],a,x,h=>by simp at h;rw[h];exact Mb _
 |b::l,a,x,h=>by
  have ih:=fu l (max a b);rw[He];have h0:=ih (max a b) E3;rcases E1.mp h with rfl |h
  ·lia
  ·rcases E1.mp h with rfl |h
   ·lia
   ·exact ih x (ET _ h)
def hiW(a b:Int)(l:List Pt):Int:=hiL (l.map (wth a b))
theorem jR{l:List Pt}(a b:Int)(h:l≠[]):(∃p∈l,wth a b p=hiW a b l)/\∀p∈l,wth a b p<=hiW a b l:=by
 cases l with
 |nil=>exact absurd rfl h
 |cons q l=>
  refine⟨?_,λp hp=>?_⟩
  ·have:=eK (l.map (wth a b)) (wth a b q);rw[<-Ft]at this;obtain⟨p,hp,e⟩:=EZ.mp this;exact⟨p,hp,e⟩
  ·exact fu (l.map (wth a b)) (wth a b q) _ (by rw[<-Ft];exact F6 hp)
theorem mq{l:List P2}(h3:3<=(ao l).length):2<=(ST.srt l).length:=by
 rcases GR (ST.srt l).length 2 with h |h
 ·rw[dX (by lia)]at h3;lia
 ·exact h
theorem ug{l:List P2}{i:Nat}(h:i<l.length):(gp l i,gp l ((i+1)%l.length))∈sdl l:=EZ.mpr ⟨i,Fu.mpr h,rfl⟩
theorem jc{l:List P2}{i:Nat}{a:P2}(h:l[i]?=some a):gp l i=a:=by simp[gp,h]
theorem zl{n i:Nat}:((i+1)%n+1)%n=(i+2)%n:=by rw[ME]
theorem cj{l:List P2}(h3:3<=(ao l).length){s:P2×P2}(hs:s∈sdl (ao l)):∀q∈l,0<=ae s.1 s.2 q:=by
 obtain⟨i,hi,rfl⟩:=EZ.mp hs;obtain⟨a,b,e1,e2,cov,_⟩:=k7 (mq h3) (Fu.mp hi);show ∀q∈l,0<=ae (gp (ao l) i) (gp (ao l) ((i+1)%(ao l).length)) q;rw[jc e1,jc e2];exact cov
theorem gC{l:List P2}(h3:3<=(ao l).length){A B:P2}(hs:(A,B)∈sdl (ao l)):∃C,(B,C)∈sdl (ao l)/\0<ae A B C:=by
 obtain⟨i,hi,e⟩:=EZ.mp hs;have QO:=Fu.mp hi;obtain⟨a,b,e1,e2,_,tu⟩:=k7 (mq h3) QO;obtain⟨c,e3,QB⟩:=tu (by lia)
 have ea:A=a:=by rw[<-jc e1];exact (congrArg JO e).symm
 have eb:B=b:=by rw[<-jc e2];exact (congrArg K7 e).symm
 refine⟨c,?_,by rw[ea,eb];exact QB⟩
 have:=ug (l:=ao l) (i:=(i+1)%(ao l).length) (IM _ (by lia))
 rw[zl,jc e2,jc e3]at this;rw[eb];exact this
theorem DG{l:List P2}{A:P2}(h:A∈l):∃B,(A,B)∈sdl l:=by
 obtain⟨i,hi⟩:=Gy.mp h;have QO:=(Fb.mp hi).1;have:=ug QO;rw[jc hi]at this;exact⟨_,this⟩
theorem uN{l:List P2}{A:P2}(h:A∈l):∃Z,(Z,A)∈sdl l:=by
 obtain⟨i,hi⟩:=Gy.mp h;have QO:=(Fb.mp hi).1;have hj:(i+l.length-1)%l.length<l.length:=IM _ (by lia)
 have:=ug hj
 have e:((i+l.length-1)%l.length+1)%l.length=i:=by
  rw[ME,show i+l.length-1+1=i+l.length by lia,N5,F8 QO]
 rw[e,jc hi]at this;exact⟨_,this⟩
theorem wQ{l:List P2}(hn:l.Nodup){A B C:P2}(h1:(A,B)∈sdl l)(h2:(A,C)∈sdl l):B=C:=by
 obtain⟨i,hi,e⟩:=EZ.mp h1;obtain⟨j,hj,e'⟩:=EZ.mp h2;have QO:=Fu.mp hi;have hj':=Fu.mp hj;have ea:gp l i=gp l j:=(congrArg JO e).trans (congrArg JO e').symm;have:i=j:=(JA QO hn).mp (by rw[dw QO,dw hj',ea])
 subst this;exact (congrArg K7 e).symm.trans (congrArg K7 e')
theorem De{u1 u2 v1 v2 w1 w2:Int}(hd:0<u1*v2-u2*v1)(h1:u1*w2-u2*w1=0)(h2:v1*w2-v2*w1=0):w1=0/\w2=0:=by
 have e1:(u1*v2-u2*v1) *w1=0:=by
  have:(u1*v2-u2*v1) *w1=v1*(u1*w2-u2*w1)-u1*(v1*w2-v2*w1):=by grind
  rw[this,h1,h2];simp
 have e2:(u1*v2-u2*v1) *w2=0:=by
  have:(u1*v2-u2*v1) *w2=v2*(u1*w2-u2*w1)-u2*(v1*w2-v2*w1):=by grind
  rw[this,h1,h2];simp
 refine⟨?_,?_⟩
 ·rcases Ga.mp e1 with h |h
  ·lia
  ·exact h
 ·rcases Ga.mp e2 with h |h
  ·lia
  ·exact h
def vT(l:List P2)(p:P2):Prop:=p∈l/\∃a b:Int,∀q∈l,q≠p->wth a b q<wth a b p
theorem eF{l:List P2}{p:P2}(h:vT l p):p∈ao l:=by
 obtain⟨hp,a,b,k⟩:=h;obtain⟨c,hc,e⟩:=pj a b hp;by_cases hcp:c=p
 ·rw[<-hcp];exact hc
 ·have:=k c (be _ c hc) hcp;lia
theorem ck{l:List P2}(h3:3<=(ao l).length){p:P2}(hp:p∈ao l):vT l p:=by
 obtain⟨Z,hZ⟩:=uN hp;obtain⟨B,hB,QB⟩:=gC h3 hZ;refine⟨be _ p hp,B.2-Z.2,Z.1-B.1,λq hq QF=>?_⟩
 have c1:=cj h3 hZ q hq;have c2:=cj h3 hB q hq;dsimp only at c1 c2;have e:wth (B.2-Z.2) (Z.1-B.1) q-wth (B.2-Z.2) (Z.1-B.1) p=-(ae Z p q+ae p B q):=by unfold wth ae;grind
 rcases GU (Pk c1 c2) with h |h
 ·lia
 ·exfalso
  have z1:ae Z p q=0:=by lia
  have z2:ae p B q=0:=by lia
  have:=De (u1:=p.1-Z.1) (u2:=p.2-Z.2) (v1:=B.1-p.1) (v2:=B.2-p.2) (w1:=q.1-p.1) (w2:=q.2-p.2) (by rw[<-(show ae Z p B=(p.1-Z.1) *(B.2-p.2)-(p.2-Z.2) *(B.1-p.1) by unfold ae;grind)];exact QB) (by rw[<-z1];unfold ae;grind) (by rw[<-z2];unfold ae;grind)
  exact QF (Gf (by lia) (by lia))
theorem Cr{u1 u2 v1 v2 w1 w2:Int}(h:u1*w2-u2*w1=0):(u1*v2-u2*v1) *w1=(w1*v2-w2*v1) *u1/\(u1*v2-u2*v1) *w2=(w1*v2-w2*v1) *u2:=by
 constructor
 ·have:(u1*v2-u2*v1) *w1-(w1*v2-w2*v1) *u1=v1*(u1*w2-u2*w1):=by grind
  rw[h]at this;simp at this;lia
 ·have:(u1*v2-u2*v1) *w2-(w1*v2-w2*v1) *u2=v2*(u1*w2-u2*w1):=by grind
  rw[h]at this;simp at this;lia
theorem gZ{l:List P2}(h3:3<=(ao l).length){A B:P2}:(A,B)∈sdl (ao l)↔A∈ao l/\B∈ao l/\A≠B/\∀q∈ao l,0<=ae A B q:=by
 constructor
 ·intro h;exact⟨(ce h).1,(ce h).2,wU (bh l) (by lia) _ h,λq hq=>cj h3 h q (be _ q hq)⟩
 ·rintro ⟨hA,hB,QF,cov⟩;obtain⟨C,hC⟩:=DG hA;obtain⟨Z,hZ⟩:=uN hA;by_cases hBC:B=C
  ·rw[hBC];exact hC
  ·exfalso
   obtain⟨D,hD,pD⟩:=gC h3 hC;obtain⟨C',hC',pC⟩:=gC h3 hZ;have:C'=C:=wQ (bh l) hC' hC;subst this;have mC:=(ce hC).2;have mD:=(ce hD).2;have lB:=be _ B hB;have k1:=cj h3 hC B lB;have k2:=cov C' mC;have k3:=cj h3 hZ B lB;have k4:=cj h3 hD B lB;dsimp only at k1 k3 k4 mC mD
   have z:(C'.1-A.1) *(B.2-A.2)-(C'.2-A.2) *(B.1-A.1)=0:=by
    have e1:ae A C' B=(C'.1-A.1) *(B.2-A.2)-(C'.2-A.2) *(B.1-A.1):=rfl;have e2:ae A B C'=-((C'.1-A.1) *(B.2-A.2)-(C'.2-A.2) *(B.1-A.1)):=by unfold ae;grind
    omega
   obtain⟨p1,p2⟩:=Cr (v1:=Z.1-A.1) (v2:=Z.2-A.2) z
   have dpos:0<(C'.1-A.1) *(Z.2-A.2)-(C'.2-A.2) *(Z.1-A.1):=by
    rw[<-(show ae Z A C'=(C'.1-A.1) *(Z.2-A.2)-(C'.2-A.2) *(Z.1-A.1) by unfold ae;grind)];exact pC
   have spos:0<=(B.1-A.1) *(Z.2-A.2)-(B.2-A.2) *(Z.1-A.1):=by
    rw[<-(show ae Z A B=(B.1-A.1) *(Z.2-A.2)-(B.2-A.2) *(Z.1-A.1) by unfold ae;grind)];exact k3
   generalize (C'.1-A.1) *(Z.2-A.2)-(C'.2-A.2) *(Z.1-A.1)=d at *;generalize (B.1-A.1) *(Z.2-A.2)-(B.2-A.2) *(Z.1-A.1)=s at *
   have s0:s≠0:=λe=>by
    rw[e,Ih]at p1 p2;have q1:=(Ga.mp p1).resolve_left (by lia)
    have q2:=(Ga.mp p2).resolve_left (by lia)
    exact QF (Gf (by lia) (by lia))
   have s1:s≠d:=λe=>by
    rw[e]at p1 p2;have q1:=Gg (by lia) p1
    have q2:=Gg (by lia) p2
    exact hBC (Gf (by lia) (by lia))
   have s2:s<=d:=by
    have e:d*ae C' D B=(d-s) *ae A C' D:=by
     have e1:d*ae C' D B=(D.1-C'.1) *(d*(B.2-A.2)-d*(C'.2-A.2))-(D.2-C'.2) *(d*(B.1-A.1)-d*(C'.1-A.1)):=by unfold ae;grind
     rw[e1,p1,p2];unfold ae;grind
    have:0<=d*ae C' D B:=Fc (by lia) k4
    rcases Gm d s with h |h
    ·have:0<(s-d) *ae A C' D:=FO (by lia) pD
     have e3:(d-s) *ae A C' D=-((s-d) *ae A C' D):=by grind
     lia
    ·exact h
   obtain⟨_,a,b,top⟩:=ck h3 hB;have t1:=top A (be _ A hA) QF;have t2:=top C' (be _ C' mC) (λe=>hBC e.symm)
   have w1:d*(wth a b B-wth a b A)=s*(wth a b C'-wth a b A):=by
    have e1:d*(wth a b B-wth a b A)=a*(d*(B.1-A.1))+b*(d*(B.2-A.2)):=by unfold wth;grind
    rw[e1,p1,p2];unfold wth;grind
   have g1:0<d*(wth a b B-wth a b A):=FO (by lia) (by lia)
   have g2:0<wth a b C'-wth a b A:=by
    rcases Gm 0 (wth a b C'-wth a b A) with h |h
    ·exact h
    ·have:0<=s* -(wth a b C'-wth a b A):=Fc (by lia) (by lia)
     have e3:s*(wth a b C'-wth a b A)=-(s* -(wth a b C'-wth a b A)):=by grind
     lia
   have g3:0<(d-s) *(wth a b C'-wth a b A):=FO (by lia) g2
   have w2:d*(wth a b B-wth a b C')=-((d-s) *(wth a b C'-wth a b A)):=by
    have:d*(wth a b B-wth a b C')=d*(wth a b B-wth a b A)-d*(wth a b C'-wth a b A):=by grind
    rw[this,w1];grind
   have g4:0<d*(wth a b B-wth a b C'):=FO (by lia) (by lia)
   lia
structure Lin(f:P2->P2)(d:Int):Prop where
 one:d=1\/d=-1
 ex:∃a b c e:Int,a*e-b*c=d/\∀p,f p=(a*p.1+b*p.2,c*p.1+e*p.2)
theorem Lin.det{f:P2->P2}{d:Int}(L:Lin f d)(A B q:P2):ae (f A) (f B) (f q)=d*ae A B q:=by
 obtain⟨a,b,c,e,h,k⟩:=L.ex;rw[k,k,k,<-h];unfold ae;grind
theorem uq{f:P2->P2}{d:Int}(L:Lin f d)(A B:P2):crs (f A,f B)=d*crs (A,B):=by
 obtain⟨a,b,c,e,h,k⟩:=L.ex;rw[k,k,<-h];unfold crs;grind
theorem mX{f:P2->P2}{d:Int}(L:Lin f d)(x y:Int):∃x' y':Int,∀p,wth x' y' (f p)=wth x y p:=by
 obtain⟨a,b,c,e,h,k⟩:=L.ex;refine⟨d*(x*e-y*c),d*(y*a-x*b),λp=>?_⟩
 rw[k];have dd:d*d=1:=by rcases L.one with z |z <;>rw[z] <;>rfl
 have:wth (d*(x*e-y*c)) (d*(y*a-x*b)) (a*p.1+b*p.2,c*p.1+e*p.2)=d*(a*e-b*c) *wth x y p:=by unfold wth;grind
 rw[this,h,dd,Kx]
theorem Lin.inj{f:P2->P2}{d:Int}(L:Lin f d){p q:P2}(e:f p=f q):p=q:=by
 obtain⟨x,y,h⟩:=mX L 1 0;obtain⟨x',y',h'⟩:=mX L 0 1;have h1:wth 1 0 p=wth 1 0 q:=by rw[<-h,<-h,e]
 have h2:wth 0 1 p=wth 0 1 q:=by rw[<-h',<-h',e]
 unfold wth at h1 h2;exact Gf (by lia) (by lia)
theorem uA{f:P2->P2}{d:Int}(L:Lin f d){l:List P2}{p:P2}(h:vT l p):vT (l.map f) (f p):=by
 obtain⟨hp,a,b,k⟩:=h;obtain⟨x,y,e⟩:=mX L a b;refine⟨F6 hp,x,y,λq hq QF=>?_⟩
 obtain⟨r,hr,rfl⟩:=EZ.mp hq;rw[e,e];exact k r hr λz=>QF (by rw[z])
theorem wy{f:P2->P2}{d:Int}(L:Lin f d){l:List P2}{p:P2}(hp:p∈l)(h:vT (l.map f) (f p)):vT l p:=by
 obtain⟨_,a,b,k⟩:=h;obtain⟨u,v,w,z,_,kf⟩:=L.ex;refine⟨hp,a*u+b*w,a*v+b*z,λq hq QF=>?_⟩
 have e:∀r:P2,wth (a*u+b*w) (a*v+b*z) r=wth a b (f r):=λr=>by rw[kf];unfold wth;grind
 rw[e,e];exact k (f q) (F6 hq) λz=>QF (L.inj z)
theorem dI{f:P2->P2}{d:Int}(L:Lin f d){l:List P2}(h3:3<=(ao l).length):3<=(ao (l.map f)).length:=by
 have nd:((ao l).map f).Nodup:=Hs _ (λa b (h:a≠b) e=>h (L.inj e)) (bh l)
 have:=dH nd (m:=ao (l.map f)) λx hx=>by
  obtain⟨p,hp,rfl⟩:=EZ.mp hx;exact eF (uA L (ck h3 hp))
 rw[ES]at this;lia
theorem cI{f:P2->P2}{d:Int}(L:Lin f d){l:List P2}(h3:3<=(ao l).length)(x:P2):x∈ao (l.map f)↔∃p∈ao l,f p=x:=by
 constructor
 ·intro h;obtain⟨p,hp,rfl⟩:=EZ.mp (be _ x h);exact⟨p,eF (wy L hp (ck (dI L h3) h)),rfl⟩
 ·rintro ⟨p,hp,rfl⟩;exact eF (uA L (ck h3 hp))
def sdf(f:P2->P2)(d:Int)(s:P2×P2):P2×P2:=if d=1 then (f s.1,f s.2) else (f s.2,f s.1)
theorem qU{f:P2->P2}{d:Int}(L:Lin f d){l:List P2}(h3:3<=(ao l).length)(t:P2×P2):t∈sdl (ao (l.map f))↔∃s∈sdl (ao l),sdf f d s=t:=by
 have Sm:=dI L h3;have sw:∀A B q:P2,ae B A q=-ae A B q:=λA B q=>by unfold ae;grind
 constructor
 ·intro h;obtain⟨x,y⟩:=t;obtain⟨hx,hy,ne,cov⟩:=(gZ Sm).mp h;obtain⟨A,hA,rfl⟩:=(cI L h3 x).mp hx;obtain⟨B,hB,rfl⟩:=(cI L h3 y).mp hy
  have cv:∀q∈ao l,0<=d*ae A B q:=λq hq=>by
   have:=cov (f q) ((cI L h3 _).mpr ⟨q,hq,rfl⟩)
   rwa [L.det]at this
  rcases L.one with z |z
  ·refine⟨(A,B),(gZ h3).mpr ⟨hA,hB,λe=>ne (by rw[e]),λq hq=>?_⟩,by unfold sdf;rw[if_pos z]⟩
   have:=cv q hq;rw[z]at this;lia
  ·refine⟨(B,A),(gZ h3).mpr ⟨hB,hA,λe=>ne (by rw[e]),λq hq=>?_⟩,by unfold sdf;rw[if_neg (by lia)]⟩
   have:=cv q hq;rw[sw];rw[z]at this;lia
 ·rintro ⟨⟨A,B⟩,hs,rfl⟩;obtain⟨hA,hB,ne,cov⟩:=(gZ h3).mp hs
  have cv:∀q∈ao (l.map f),0<=d*ae (f A) (f B) q:=λq hq=>by
   obtain⟨p,hp,rfl⟩:=(cI L h3 q).mp hq;have:=cov p hp;rw[L.det,<-NJ,show d*d=1 by rcases L.one with z |z <;>rw[z] <;>rfl]
   lia
  unfold sdf;rcases L.one with z |z
  ·rw[if_pos z];refine (gZ Sm).mpr ⟨(cI L h3 _).mpr ⟨A,hA,rfl⟩,(cI L h3 _).mpr ⟨B,hB,rfl⟩,λe=>ne (L.inj e),λq hq=>?_⟩
   have:=cv q hq;dsimp only;rw[z]at this;lia
  ·rw[if_neg (by lia)]
   refine (gZ Sm).mpr ⟨(cI L h3 _).mpr ⟨B,hB,rfl⟩,(cI L h3 _).mpr ⟨A,hA,rfl⟩,λe=>ne (L.inj e.symm),λq hq=>?_⟩
   have:=cv q hq;dsimp only;rw[sw];rw[z]at this;lia
theorem yc{l:List P2}(hn:l.Nodup):(sdl l).Nodup:=by
 have h:((sdl l).map (·.1)).Nodup:=by rw[jL];exact hn
 exact (FR.mp h).imp λ{a b} k e=>k (by rw[e])
theorem AY{f:P2->P2}{d:Int}(L:Lin f d){s t:P2×P2}(e:sdf f d s=sdf f d t):s=t:=by
 unfold sdf at e;split at e
 ·exact Gf (L.inj (congrArg JO e)) (L.inj (congrArg K7 e))
 ·exact Gf (L.inj (congrArg K7 e)) (L.inj (congrArg JO e))
theorem ud{f:P2->P2}{d:Int}(L:Lin f d){l:List P2}(h3:3<=(ao l).length):KJ (sdl (ao (l.map f))) ((sdl (ao l)).map (sdf f d)):=by
 refine (GJ (yc (bh _)) ?_).mpr λt=>?_
 ·exact Hs _ (λa b (h:a≠b) e=>h (AY L e)) (yc (bh l))
 ·rw[qU L h3,EZ]
def ub(s:P2×P2):Int:=(s.2.1-s.1.1)/gst s
def vb(s:P2×P2):Int:=(s.2.2-s.1.2)/gst s
def onS(s:P2×P2)(k:Int):P2:=(s.1.1+k*ub s,s.1.2+k*vb s)
theorem gP(s:P2×P2):s.2.1-s.1.1=gst s*ub s:=by
 unfold ub;have h:gst s ∣ s.2.1-s.1.1:=Jb ..;rw[II h]
theorem gT(s:P2×P2):s.2.2-s.1.2=gst s*vb s:=by
 unfold vb;have h:gst s ∣ s.2.2-s.1.2:=IT ..;rw[II h]
theorem rX{s:P2×P2}(h:s.1≠s.2):∃cs ct,Lvl s.1 s.2 (gst s) (ub s) (vb s) cs ct:=by
 have g0:=dy h;obtain⟨cs,ct,G⟩:=j8 (s.2.1-s.1.1) (s.2.2-s.1.2);have Ge:cs*(s.2.1-s.1.1)+ct*(s.2.2-s.1.2)=gst s:=G.eq;refine⟨cs,ct,g0,gP s,gT s,?_⟩
 have e:gst s*(cs*ub s+ct*vb s)=gst s*1:=by
  rw[K9];have:gst s*(cs*ub s+ct*vb s)=cs*(gst s*ub s)+ct*(gst s*vb s):=by grind
  rw[this,<-gP,<-gT];exact Ge
 exact Gg (by lia) e
theorem mT{s:P2×P2}(h:s.1≠s.2){p:P2}(hp:ae s.1 s.2 p=0):∃k,p=onS s k:=by
 obtain⟨cs,ct,L⟩:=rX h
 have z:ty s.1 p (ub s) (vb s)=0:=by
  rw[L.area]at hp;exact (Ga.mp hp).resolve_left (by have:=L.g0;lia)
 obtain⟨b1,b2⟩:=L.back p;rw[z]at b1 b2;refine⟨tx s.1 p cs ct,Gf ?_ ?_⟩
 ·show p.1=s.1.1+tx s.1 p cs ct*ub s;grind
 ·show p.2=s.1.2+tx s.1 p cs ct*vb s;grind
theorem iY(s:P2×P2)(k:Int)(X Y:P2):gst s*ae X Y (onS s k)=(gst s-k) *ae X Y s.1+k*ae X Y s.2:=by
 have h1:=gP s;have h2:=gT s;have e1:s.2.1=s.1.1+gst s*ub s:=by lia
 have e2:s.2.2=s.1.2+gst s*vb s:=by lia
 unfold onS ae;dsimp only;rw[e1,e2];grind
theorem rV{s:P2×P2}(h:s.1≠s.2){j k:Int}(e:onS s j=onS s k):j=k:=by
 obtain⟨cs,ct,L⟩:=rX h;have st:=L.st;have e1:s.1.1+j*ub s=s.1.1+k*ub s:=congrArg JO e;have e2:s.1.2+j*vb s=s.1.2+k*vb s:=congrArg K7 e
 have a1:(j - k) *ub s=0:=by have:(j - k) *ub s=j*ub s - k*ub s:=by grind
                             omega
 have a2:(j - k) *vb s=0:=by have:(j - k) *vb s=j*vb s - k*vb s:=by grind
                             omega
 have:(j-k) *(cs*ub s+ct*vb s)=cs*((j-k) *ub s)+ct*((j-k) *vb s):=by grind
 rw[st,a1,a2]at this;simp at this;lia
theorem aW{a b:Int}(ha:0<a)(h:0<=a*b):0<=b:=by
 rcases Gm b 0 with z |z
 ·have:=FO ha (show 0 < -b by lia)
  have e:a* -b=-(a*b):=by grind
  lia
 ·exact z
def bdr(l:List P2)(p:P2):Prop:=(∀s∈sdl l,0<=ae s.1 s.2 p)/\∃s∈sdl l,ae s.1 s.2 p=0
section
variable {l:List P2} (h3:3≤(ao l).length)
include h3
theorem oB{s:P2×P2}(hs:s∈sdl (ao l)):s.1≠s.2:=wU (bh l) (by lia) s hs
theorem BV{s:P2×P2}(hs:s∈sdl (ao l)){k:Int}(k0:0<k)(k1:k<gst s):onS s k ∉ ao l:=λh=>by
 obtain⟨_,a,b,top⟩:=ck h3 h;have ne:=oB h3 hs
 have w:gst s*(wth a b (onS s k)-wth a b s.1)=k*(wth a b s.2-wth a b s.1):=by
  have h1:=gP s;have h2:=gT s;have e:wth a b s.2-wth a b s.1=a*(s.2.1-s.1.1)+b*(s.2.2-s.1.2):=by unfold wth;grind
  rw[e,h1,h2];unfold wth onS;grind
 have n1:s.1≠onS s k:=λe=>by
  have:onS s 0=onS s k:=by rw[<-e];unfold onS;simp
  have:=rV ne this;lia
 have n2:s.2≠onS s k:=λe=>by
  have h1:=gP s;have h2:=gT s;have:onS s (gst s)=onS s k:=by rw[<-e];unfold onS;exact Gf (by dsimp only;lia) (by dsimp only;lia)
  have:=rV ne this;lia
 have t1:=top s.1 (be _ _ (ce hs).1) n1;have t2:=top s.2 (be _ _ (ce hs).2) n2;have g1:0<gst s*(wth a b (onS s k)-wth a b s.1):=FO (by lia) (by lia)
 have g2:0<wth a b s.2-wth a b s.1:=by
  rcases Gm 0 (wth a b s.2-wth a b s.1) with z |z
  ·exact z
  ·have:=Fc (show 0<=k by lia) (show 0<=-(wth a b s.2-wth a b s.1) by lia)
   have e:k* -(wth a b s.2-wth a b s.1)=-(k*(wth a b s.2-wth a b s.1)):=by grind
   lia
 have g3:k*(wth a b s.2-wth a b s.1)<gst s*(wth a b s.2-wth a b s.1):=Int.mul_lt_mul_of_pos_right k1 g2;have g4:gst s*(wth a b (onS s k)-wth a b s.1)<gst s*(wth a b s.2-wth a b s.1):=by lia
 have:=Int.lt_of_mul_lt_mul_left g4 (by lia)
 lia
theorem Ca{s:P2×P2}(hs:s∈sdl (ao l)){P:P2}(hP:P∈ao l)(h0:ae s.1 s.2 P=0):P=s.1\/P=s.2:=by
 have hb:bdr (ao l) P:=⟨λt ht=>cj h3 ht P (be _ _ hP),s,hs,h0⟩
 obtain⟨k,e⟩:=mT (oB h3 hs) h0;have ne:=oB h3 hs;have g0:=dy ne;obtain⟨A,B⟩:=s;obtain⟨Z,hZ⟩:=uN (ce hs).1;obtain⟨B',hB',pZ⟩:=gC h3 hZ;have:B'=B:=wQ (bh l) hB' hs;subst this;obtain⟨C,hC,pC⟩:=gC h3 hs
 have k0:0<=k:=by
  have m:=iY (A,B') k Z A;have z:ae Z A A=0:=by unfold ae;grind
  dsimp only at m;rw[z,HS,Qi,<-e]at m;have:0<=gst (A,B') *ae Z A P:=Fc (by lia) (hb.1 _ hZ)
  rw[m,IA]at this;exact aW pZ this
 have k1:k<=gst (A,B'):=by
  have m:=iY (A,B') k B' C;have z:ae B' C B'=0:=by unfold ae;grind
  have z2:ae B' C A=ae A B' C:=by unfold ae;grind
  dsimp only at m;rw[z,HS,Jp,z2,<-e]at m;have:0<=gst (A,B') *ae B' C P:=Fc (by lia) (hb.1 _ hC)
  rw[m,IA]at this;have:=aW pC this;lia
 rcases GU k0 with z |z
 ·rcases GU k1 with w |w
  ·exact absurd (e ▸ hP) (BV h3 hs z w)
  ·right
   rw[e,w];have h1:=gP (A,B');have h2:=gT (A,B');dsimp only at h1 h2;unfold onS;exact Gf (by dsimp only;lia) (by dsimp only;lia)
 ·left
  rw[e,<-z];unfold onS;simp
end
theorem mU{A B p:P2}(h:ST.ltP A B=true):(ae A B p=0/\ST.leP A p=true/\ST.leP p B=true)↔∃k:Int,0<=k/\k<=gst (A,B)/\p=onS (A,B) k:=by
 have QF:(A,B).1≠(A,B).2:=λe=>by
  dsimp only at e;subst e;unfold ST.ltP at h;simp at h
 have g0:=dy QF;have h1:=gP (A,B);have h2:=gT (A,B);dsimp only at h1 h2;unfold ST.ltP at h;have h:=of_decide_eq_true h
 have lex:0<ub (A,B)\/(ub (A,B)=0/\0<vb (A,B)):=by
  rcases h with z |⟨z,w⟩
  ·left
   have:0<gst (A,B) *ub (A,B):=by lia
   exact GG this (by lia)
  ·right
   have e:gst (A,B) *ub (A,B)=0:=by lia
   have:0<gst (A,B) *vb (A,B):=by lia
   exact⟨(Ga.mp e).resolve_left (by lia),GG this (by lia)⟩
 have sg:∀k:Int,(ST.leP A (onS (A,B) k)=true↔0<=k)/\(ST.leP (onS (A,B) k) B=true↔k<=gst (A,B)):=λk=>by
  have r:∀m:Int,(0<m*ub (A,B)\/(m*ub (A,B)=0/\0<=m*vb (A,B)))↔0<=m:=λm=>by
   rcases lex with u |⟨u,v⟩
   ·constructor
    ·rintro (z |⟨z,_⟩)
     ·exact KM (Int.pos_of_mul_pos_left z (by lia))
     ·rcases Ga.mp z with w |w <;>lia
    ·intro hm;rcases GU hm with z |z
     ·left;exact FO z u
     ·right;rw[<-z];simp
   ·rw[u,HS];constructor
    ·rintro (z |⟨_,z⟩)
     ·lia
     ·rw[IA]at z;exact aW v z
    ·intro hm;exact .inr ⟨rfl,Fc hm (by lia)⟩
  have e1:(gst (A,B)-k) *ub (A,B)=B.1-(A.1+k*ub (A,B)):=by
   have:(gst (A,B)-k) *ub (A,B)=gst (A,B) *ub (A,B)-k*ub (A,B):=by grind
   lia
  have e2:(gst (A,B)-k) *vb (A,B)=B.2-(A.2+k*vb (A,B)):=by
   have:(gst (A,B)-k) *vb (A,B)=gst (A,B) *vb (A,B)-k*vb (A,B):=by grind
   lia
  have r1:=r k;have r2:=r (gst (A,B)-k);rw[e1,e2]at r2;unfold ST.leP onS;rw[decide_eq_true_eq,decide_eq_true_eq];dsimp only;constructor
  ·rw[<-r1];omega
  ·rw[show k<=gst (A,B)↔0<=gst (A,B)-k by lia,<-r2];lia
 constructor
 ·rintro ⟨d,a,b⟩;obtain⟨k,rfl⟩:=mT QF d;exact⟨k,(sg k).1.mp a,(sg k).2.mp b,rfl⟩
 ·rintro ⟨k,k0,k1,rfl⟩;refine⟨?_,(sg k).1.mpr k0,(sg k).2.mpr k1⟩;have m:=iY (A,B) k A B;have z1:ae A B A=0:=by unfold ae;grind
  have z2:ae A B B=0:=by unfold ae;grind
  dsimp only at m;rw[z1,z2,HS,HS,Jp]at m;exact (Ga.mp m).resolve_left (by lia)
theorem nG{a b c e x y:Int}(h:a*e-b*c=1\/a*e-b*c=-1):IZ (a*x+b*y) (c*x+e*y)=IZ x y:=by
 apply Nat.dvd_antisymm
 ·have h1:((IZ (a*x+b*y) (c*x+e*y):Nat):Int) ∣ a*x+b*y:=Jb ..;have h2:((IZ (a*x+b*y) (c*x+e*y):Nat):Int) ∣ c*x+e*y:=IT ..;generalize IZ (a*x+b*y) (c*x+e*y)=g at *
  have k1:(g:Int) ∣ (a*e-b*c) *x:=by
   have:(a*e-b*c) *x=e*(a*x+b*y)-b*(c*x+e*y):=by grind
   rw[this];exact Lh (FQ h1 (F9 ..)) (FQ h2 (F9 ..))
  have k2:(g:Int) ∣ (a*e-b*c) *y:=by
   have:(a*e-b*c) *y=a*(c*x+e*y)-c*(a*x+b*y):=by grind
   rw[this];exact Lh (FQ h2 (F9 ..)) (FQ h1 (F9 ..))
  have up:∀z:Int,(g:Int) ∣ (a*e-b*c) *z->(g:Int) ∣ z:=λz k=>by
   rcases h with w |w <;>rw[w]at k
   ·rwa [Kx]at k
   ·rw[Int.neg_one_mul]at k;exact Lg.mp k
  exact P7.mp (Ke (up x k1) (up y k2))
 ·have h1:((IZ x y:Nat):Int) ∣ x:=Jb ..;have h2:((IZ x y:Nat):Int) ∣ y:=IT ..;exact P7.mp (Ke (IY (FQ h1 (F9 ..)) (FQ h2 (F9 ..))) (IY (FQ h1 (F9 ..)) (FQ h2 (F9 ..))))
theorem dW(A B:P2):gst (B,A)=gst (A,B):=by
 unfold gst;dsimp only;rw[show A.1-B.1=-(B.1-A.1) by lia,show A.2-B.2=-(B.2-A.2) by lia,Int.gcd_neg,Int.neg_gcd]
theorem uI{f:P2->P2}{d:Int}(L:Lin f d)(s:P2×P2):gst (sdf f d s)=gst s:=by
 obtain⟨A,B⟩:=s
 have key:gst (f A,f B)=gst (A,B):=by
  obtain⟨a,b,c,e,h,k⟩:=L.ex;unfold gst;rw[k,k];dsimp only;rw[show a*B.1+b*B.2-(a*A.1+b*A.2)=a*(B.1-A.1)+b*(B.2-A.2) by grind,show c*B.1+e*B.2-(c*A.1+e*A.2)=c*(B.1-A.1)+e*(B.2-A.2) by grind]
  rw[nG (by rw[h];exact L.one)]
 unfold sdf;split
 ·exact key
 ·exact (dW _ _).trans key
theorem Aq{f:P2->P2}{d:Int}(L:Lin f d)(s:P2×P2):crs (sdf f d s)=crs s:=by
 obtain⟨A,B⟩:=s;unfold sdf;rcases L.one with z |z
 ·rw[if_pos z,uq L];rw[z];exact Kx _
 ·rw[if_neg (by lia),uq L,z];unfold crs;grind
theorem qb{l m:List Int}(h:KJ l m):l.sum=m.sum:=by
 induction h with
 |nil=>rfl
 |cons _ _ ih=>rw[HM,HM,ih]
 |swap=>simp only[HM];lia
 |trans _ _ h1 h2=>exact h1.trans h2
theorem Aj{f:P2->P2}{d:Int}(L:Lin f d){l:List P2}(h3:3<=(ao l).length):g5 (ao (l.map f))=g5 (ao l):=by
 unfold g5;rw[qb ((ud L h3).map gst),FP];exact congrArg Qx (I0 λs _=>uI L s)
theorem qi{f:P2->P2}{d:Int}(L:Lin f d){l:List P2}(h3:3<=(ao l).length):area (ao (l.map f))=area (ao l):=by
 unfold area;rw[qb ((ud L h3).map crs),FP];exact congrArg Qx (I0 λs _=>Aq L s)
theorem vE{l m:List P2}(h:∀x,x∈ao l↔x∈ao m):ao l=ao m:=by rw[<-cO l,<-cO m];exact kG (iV h)
theorem lH{f:P2->P2}{d:Int}(L:Lin f d){l:List P2}(h3:3<=(ao l).length):ao ((ao l).map f)=ao (l.map f):=by
 have e:ao (ao l)=ao l:=cO l;refine vE λx=>?_
 rw[cI L h3,cI L (by rw[e];exact h3),e]
def loT(X Y y:Int):Int:=-((-X*y)/Y)
def hiT(g X Y y:Int):Int:=g+((X-g) *y)/Y
def lnT(g X Y y:Int):Int:=hiT g X Y y-loT X Y y+1
theorem qK{g X Y y:Int}(hY:0<Y)(hg:0<=g)(h1:y<=Y):0<=lnT g X Y y:=by
 unfold lnT hiT loT;have a1:=Gj (-X*y) Y;have a2:=Gb (-X*y) hY;have b1:=Gj ((X-g) *y) Y;have b2:=Gb ((X-g) *y) hY;generalize -X*y/Y=p at *;generalize (X-g) *y/Y=q at *;have e:-X*y+(X-g) *y=-(g*y):=by grind
 have gy:g*y<=g*Y:=KS h1 hg
 have k:-(Y*(g+q+p+1))<Y:=by
  have:Y*(g+q+p+1)=g*Y+Y*q+Y*p+Y:=by grind
  lia
 rcases Gm (g+q+p+1) 0 with z |z
 ·have:Y*1<=Y* -(g+q+p+1):=KS (by lia) (by lia)
  have e2:Y* -(g+q+p+1)=-(Y*(g+q+p+1)):=by grind
  lia
 ·lia
def oW(A:P2)(g u v s t X Y:Int)(y:Nat):List P2:=(F_ (lnT g X Y y).toNat).map λ(k:Nat)=>bk A u v s t (loT X Y y+(k:Int)) y
def j7(A:P2)(g u v s t X Y:Int)(n:Nat):List P2:=((F_ n).map (oW A g u v s t X Y)).flatten
theorem u_(A:P2)(g u v s t X Y:Int)(n:Nat):j7 A g u v s t X Y (n+1)=j7 A g u v s t X Y n++oW A g u v s t X Y n:=by
 unfold j7;rw[MW,F4,Nn];simp
theorem qs{A:P2}{g u v s t X Y:Int}(hY:0<Y)(hg:0<=g):∀n:Nat,(n:Int)<=Y+1->((j7 A g u v s t X Y n).length:Int)=n*(g+1)+bY n (X-g) 0 Y+bY n (-X) 0 Y
 |0,_=>by simp[j7,bY]
 |n+1,h=>by
  have ih:=qs (A:=A) (g:=g) (u:=u) (v:=v) (s:=s) (t:=t) (X:=X) hY hg n (by lia)
  have l0:=qK (g:=g) (X:=X) (y:=(n:Int)) hY hg (by lia)
  rw[u_,Fx];have rl:((oW A g u v s t X Y n).length:Int)=lnT g X Y n:=by unfold oW;simp;lia
  have e1:bY (n+1) (X-g) 0 Y=bY n (X-g) 0 Y+((X-g) *(n:Int)+0)/Y:=rfl;have e2:bY (n+1) (-X) 0 Y=bY n (-X) 0 Y+(-X*(n:Int)+0)/Y:=rfl;rw[e1,e2,Jp,Jp]
  have e3:((n+1:Nat):Int) *(g+1)=(n:Int) *(g+1)+(g+1):=by
   rw[show ((n+1:Nat):Int)=(n:Int)+1 by lia];grind
  rw[e3];unfold lnT hiT loT at rl;lia
theorem wc{A:P2}{g u v s t X Y g1 g2:Int}(hY:0<Y)(hg:0<=g)(h1:g1=((IZ X Y:Nat):Int))(h2:g2=((IZ (X-g) Y:Nat):Int)):2*((j7 A g u v s t X Y (Y.toNat+1)).length:Int)=g*Y+g+g1+g2+2:=by
 rw[qs hY hg _ (by lia)]
 have eY:((Y.toNat:Nat):Int)=Y:=by lia
 have gp1:0<g1:=by
  have:IZ X Y≠0:=λz=>by have:=(Lj.mp z).2;lia
  lia
 have gp2:0<g2:=by
  have:IZ (X-g) Y≠0:=λz=>by have:=(Lj.mp z).2;lia
  lia
 have r1:=lV Y.toNat (-X) 0 g1 (by lia) gp1 (by rw[h1];exact Lg.mpr (Jb ..)) (by rw[h1,eY];exact IT ..) (λd d1 d2=>by rw[h1];rw[eY]at d2;exact Ke (Lg.mp d1) d2)
 have r2:=lV Y.toNat (X-g) 0 g2 (by lia) gp2 (by rw[h2];exact Jb ..) (by rw[h2,eY];exact IT ..) (λd d1 d2=>by rw[h2];rw[eY]at d2;exact Ke d1 d2)
 rw[eY]at r1 r2;have s1:bY (Y.toNat+1) (X-g) 0 Y=bY Y.toNat (X-g) 0 Y+((X-g) *((Y.toNat:Nat):Int)+0)/Y:=rfl;have s2:bY (Y.toNat+1) (-X) 0 Y=bY Y.toNat (-X) 0 Y+(-X*((Y.toNat:Nat):Int)+0)/Y:=rfl;rw[eY,Jp,Int.mul_ediv_cancel _ (by lia)]at s1 s2
 rw[s1,s2,show ((Y.toNat+1:Nat):Int)=Y+1 by lia]
 have z1:g1*(0/g1)=0:=by simp
 have z2:g2*(0/g2)=0:=by simp
 rw[z1]at r1;rw[z2]at r2;have e:2*((Y+1) *(g+1)+(bY Y.toNat (X-g) 0 Y+(X-g))+(bY Y.toNat (-X) 0 Y+-X))=2*((Y+1) *(g+1))+2*bY Y.toNat (X-g) 0 Y+2*bY Y.toNat (-X) 0 Y-2*g:=by grind
 rw[e,r1,r2];grind
def inT(A B C p:P2):Prop:=0<=ae A B p/\0<=ae B C p/\0<=ae C A p
theorem mL{a x Y:Int}(hY:0<Y):x<=a/Y↔x*Y<=a:=Kn hY
theorem CH{A B C:P2}{g u v s t:Int}(L:Lvl A B g u v s t)(hY:0<ty A C u v)(p:P2):inT A B C p↔0<=ty A p u v/\loT (tx A C s t) (ty A C u v) (ty A p u v)<=tx A p s t/\tx A p s t<=hiT g (tx A C s t) (ty A C u v) (ty A p u v):=by
 have g0:=L.g0;obtain⟨b1,b2⟩:=L.back p;have ep:p=bk A u v s t (tx A p s t) (ty A p u v):=Gf b1 b2;have d1:=L.d1 (tx A p s t) (ty A p u v);have d2:=L.d2 C (tx A p s t) (ty A p u v);have d3:=L.d3 C (tx A p s t) (ty A p u v);rw[<-ep]at d1 d2 d3;unfold inT;rw[d1,d2,d3];generalize tx A p s t=x at *;generalize ty A p u v=y at *;generalize tx A C s t=X at *;generalize ty A C u v=Y at *
 have c1:0<=g*y↔0<=y:=⟨λh=>by
  rcases Gm y 0 with z |z
  ·have:=FO g0 (show 0 < -y by lia)
   have e:g* -y=-(g*y):=by grind
   lia
  ·exact z,λh=>Fc (by lia) h⟩
 have c2:loT X Y y<=x↔0<=Y*x-X*y:=by
  unfold loT;rw[show (-((-X*y)/Y)<=x)↔(-x<=(-X*y)/Y) by lia,mL hY]
  have e:-x*Y=-(Y*x):=by grind
  have e2:-X*y=-(X*y):=by grind
  rw[e,e2];lia
 have c3:x<=hiT g X Y y↔0<=(X-g) *y-Y*(x-g):=by
  unfold hiT;rw[show (x<=g+((X-g) *y)/Y)↔(x-g<=((X-g) *y)/Y) by lia,mL hY]
  have e:(x-g) *Y=Y*(x-g):=IA ..;rw[e];lia
 rw[c1,c2,c3];constructor
 ·rintro ⟨a,b,c⟩;exact⟨a,c,b⟩
 ·rintro ⟨a,b,c⟩;exact⟨a,c,b⟩
theorem wE{A B:P2}{g u v s t:Int}(L:Lvl A B g u v s t)(x y:Int):tx A (bk A u v s t x y) s t=x/\ty A (bk A u v s t x y) u v=y:=by
 have:=L.st;unfold tx ty bk;dsimp only;constructor <;>grind
theorem yT{A B C:P2}{g u v s t:Int}(L:Lvl A B g u v s t)(hY:0<ty A C u v)(p:P2):p∈j7 A g u v s t (tx A C s t) (ty A C u v) ((ty A C u v).toNat+1)↔inT A B C p:=by
 have g0:=L.g0;rw[CH L hY];unfold j7;rw[Mo];constructor
 ·rintro ⟨r,hr,hp⟩;obtain⟨y,hy,rfl⟩:=EZ.mp hr;have SK:=Fu.mp hy;unfold oW at hp;obtain⟨k,hk,rfl⟩:=EZ.mp hp;have T4:=Fu.mp hk;obtain⟨e1,e2⟩:=wE L (loT (tx A C s t) (ty A C u v) y+(k:Int)) y;rw[e1,e2];unfold lnT at T4;lia
 ·rintro ⟨y0,lo,hi⟩;obtain⟨b1,b2⟩:=L.back p;have ep:p=bk A u v s t (tx A p s t) (ty A p u v):=Gf b1 b2
  have yY:ty A p u v<=ty A C u v:=by
   have h1:0<=ty A C u v*tx A p s t-tx A C s t*ty A p u v:=by
    unfold loT at lo;rw[show (-((-tx A C s t*ty A p u v)/ty A C u v)<=tx A p s t)↔(-tx A p s t<=(-tx A C s t*ty A p u v)/ty A C u v) by lia,mL hY]at lo
    have e:-tx A p s t*ty A C u v=-(ty A C u v*tx A p s t):=by grind
    have e2:-tx A C s t*ty A p u v=-(tx A C s t*ty A p u v):=by grind
    rw[e,e2]at lo;lia
   have h2:0<=(tx A C s t-g) *ty A p u v-ty A C u v*(tx A p s t-g):=by
    unfold hiT at hi;rw[show (tx A p s t<=g+((tx A C s t-g) *ty A p u v)/ty A C u v)↔(tx A p s t-g<=((tx A C s t-g) *ty A p u v)/ty A C u v) by lia,mL hY]at hi
    have e:(tx A p s t-g) *ty A C u v=ty A C u v*(tx A p s t-g):=IA ..;rw[e]at hi;lia
   have h3:0<=g*(ty A C u v-ty A p u v):=by
    have:g*(ty A C u v-ty A p u v)=(ty A C u v*tx A p s t-tx A C s t*ty A p u v)+((tx A C s t-g) *ty A p u v-ty A C u v*(tx A p s t-g)):=by grind
    lia
   rcases Gm (ty A C u v) (ty A p u v) with z |z
   ·have:=FO g0 (show 0 < -(ty A C u v-ty A p u v) by lia)
    have e:g* -(ty A C u v-ty A p u v)=-(g*(ty A C u v-ty A p u v)):=by grind
    lia
   ·exact z
  refine⟨_,EZ.mpr ⟨(ty A p u v).toNat,Fu.mpr (by lia),rfl⟩,?_⟩
  unfold oW;have ey:(((ty A p u v).toNat:Nat):Int)=ty A p u v:=by lia
  rw[ey];refine EZ.mpr ⟨(tx A p s t-loT (tx A C s t) (ty A C u v) (ty A p u v)).toNat,Fu.mpr (by unfold lnT;lia),?_⟩
  rw[show loT (tx A C s t) (ty A C u v) (ty A p u v)+(((tx A p s t-loT (tx A C s t) (ty A C u v) (ty A p u v)).toNat:Nat):Int)=tx A p s t by lia]
  exact ep.symm
theorem qV{A B:P2}{g u v s t X Y:Int}(L:Lvl A B g u v s t)(n:Nat):(j7 A g u v s t X Y n).Nodup:=by
 unfold j7
 have inj:∀{x y x' y':Int},bk A u v s t x y=bk A u v s t x' y'->x=x'/\y=y':=λ{x y x' y'} e=>by
  have h1:=wE L x y;have h2:=wE L x' y';rw[e]at h1;exact⟨h1.1.symm.trans h2.1,h1.2.symm.trans h2.2⟩
 refine MX.mpr ⟨λq hq=>?_,?_⟩
 ·obtain⟨y,hy,rfl⟩:=EZ.mp hq;unfold oW;refine Hs _ (λa b (h:a≠b) e=>h ?_) JL
  have:=(inj e).1;lia
 ·refine FR.mpr ?_;refine JL.imp λ{y z} h p hp q hq e=>h ?_
  unfold oW at hp hq;obtain⟨k,_,rfl⟩:=EZ.mp hp;obtain⟨j,_,rfl⟩:=EZ.mp hq;have:=(inj e).2;lia
theorem kg(A B C:P2):ae B C A=ae A B C:=by unfold ae;grind
theorem oH{A B C:P2}(hD:0<ae A B C){W:List P2}(hW:W.Nodup)(RE:∀p,inT A B C p->p∈W)(f:P2->Bool)(hf:∀p,f p=true↔inT A B C p):2*(((W.filter f).length:Nat):Int)=ae A B C+gst (A,B)+gst (B,C)+gst (C,A)+2:=by
 have QF:(A,B).1≠(A,B).2:=λe=>by
  dsimp only at e;subst e;have:ae A A C=0:=by unfold ae;grind
  lia
 obtain⟨s,t,L⟩:=rX QF;dsimp only at L;have g0:=L.g0;have ar:=L.area C
 have hY:0<ty A C (ub (A,B)) (vb (A,B)):=by
  rw[ar]at hD;exact GG hD (by lia)
 have st:=L.st
 have p:KJ (W.filter f) (j7 A (gst (A,B)) (ub (A,B)) (vb (A,B)) s t (tx A C s t) (ty A C (ub (A,B)) (vb (A,B))) ((ty A C (ub (A,B)) (vb (A,B))).toNat+1)):=(GJ (hW.filter _) (qV L _)).mpr λq=>by
  rw[yT L hY,Gr,hf];exact⟨λh=>h.2,λh=>⟨RE q h,h⟩⟩
 have e1:gst (C,A)=((IZ (tx A C s t) (ty A C (ub (A,B)) (vb (A,B))):Nat):Int):=by
  rw[dW];unfold gst tx ty;dsimp only;rw[show ub (A,B) *(C.2-A.2)-vb (A,B) *(C.1-A.1)=-vb (A,B) *(C.1-A.1)+ub (A,B) *(C.2-A.2) by grind,nG (.inl (by grind))]
 have e2:gst (B,C)=((IZ (tx A C s t-gst (A,B)) (ty A C (ub (A,B)) (vb (A,B))):Nat):Int):=by
  have h1:=L.e1;have h2:=L.e2
  have x:tx A C s t-gst (A,B)=s*(C.1-B.1)+t*(C.2-B.2):=by
   have:s*(B.1-A.1)+t*(B.2-A.2)=gst (A,B) *(s*ub (A,B)+t*vb (A,B)):=by rw[h1,h2];grind
   rw[st,K9]at this;unfold tx;grind
  have y:ty A C (ub (A,B)) (vb (A,B))=-vb (A,B) *(C.1-B.1)+ub (A,B) *(C.2-B.2):=by
   have:ub (A,B) *(B.2-A.2)-vb (A,B) *(B.1-A.1)=0:=by rw[h1,h2];grind
   unfold ty;grind
  rw[x,y,nG (.inl (by grind))]
  rfl
 have:=wc (A:=A) (u:=ub (A,B)) (v:=vb (A,B)) (s:=s) (t:=t) hY (by lia) e1 e2
 rw[p.length_eq,this,ar];lia
theorem lf{A B C q:P2}(hD:0<ae A B C)(h:inT A B C q){X Y:P2}(hA:0<=ae X Y A)(hB:0<=ae X Y B)(hC:0<=ae X Y C):0<=ae X Y q:=by
 obtain⟨h1,h2,h3⟩:=h;have e:ae A B C*ae X Y q=ae B C q*ae X Y A+ae C A q*ae X Y B+ae A B q*ae X Y C:=by unfold ae;grind
 have a1:=Fc h2 hA;have a2:=Fc h3 hB;have a3:=Fc h1 hC;exact aW hD (by lia)
def chn:List P2->P2->Prop
 |b::c::r,q=>0<=ae b c q/\chn (c::r) q
 |_,_=>True
def inF(a:P2)(ch:List P2)(q:P2):Prop:=(∀b,ch.head?=some b->0<=ae a b q)/\chn ch q/\∀z,ch.getLast?=some z->0<=ae z a q
structure Cvx(a:P2)(ch:List P2):Prop where
 tr:ch.Pairwise λx y=>0<ae a x y
 sd:∀x,x=a\/x∈ch->chn ch x
theorem iy{b:P2}:∀{r:List P2}{q:P2},chn (b::r) q->chn r q
 |[],_,_=>trivial
 |_::_,_,h=>h.2
theorem Cvx.tail{a b:P2}{r:List P2}(h:Cvx a (b::r)):Cvx a r:=⟨(Fh.mp h.tr).2,λx hx=>iy (h.sd x (hx.imp id λz=>ET _ z))⟩
theorem nj(a b c q:P2):inF a [b,c] q↔inT a b c q:=by
 unfold inF inT chn chn;simp
theorem jy{a b c d:P2}{r:List P2}(q:P2):inF a (b::c::d::r) q↔0<=ae a b q/\0<=ae b c q/\chn (c::d::r) q/\∀z,(c::d::r).getLast?=some z->0<=ae z a q:=by
 unfold inF;rw[Fo];constructor
 ·rintro ⟨h1,h2,h3⟩;exact⟨h1 b rfl,h2.1,h2.2,h3⟩
 ·rintro ⟨h1,h2,h3,h4⟩;exact⟨λx hx=>by cases hx;exact h1,⟨h2,h3⟩,h4⟩
theorem oI{a:P2}:∀(ch:List P2),2<=ch.length->Cvx a ch->∀q,inF a ch q->∀X Y,(∀x,x=a\/x∈ch->0<=ae X Y x)->0<=ae X Y q
 |[b,c],_,K,q,h,X,Y,hx=>by
  have D:0<ae a b c:=(Fh.mp K.tr).1 c (by simp)
  exact lf D ((nj a b c q).mp h) (hx a (.inl rfl)) (hx b (.inr (by simp))) (hx c (.inr (by simp)))
 |b::c::d::r,_,K,q,h,X,Y,hx=>by
  have D:0<ae a b c:=(Fh.mp K.tr).1 c (by simp)
  obtain⟨h1,h2,h3,h4⟩:=(jy q).mp h;rcases JZ 0 (ae a c q) with z |z
  ·exact oI (c::d::r) (by simp) K.tail q ⟨λx hx=>by cases hx;exact z,h3,h4⟩ X Y λx RX=>hx x (RX.imp id λw=>ET _ w)
  ·have e:ae c a q=-ae a c q:=by unfold ae;grind
   exact lf D ⟨h1,h2,by lia⟩ (hx a (.inl rfl)) (hx b (.inr (by simp))) (hx c (.inr (by simp)))
 |[],h,_,_,_,_,_,_=>by simp at h
 |[_],h,_,_,_,_,_,_=>by simp at h
def o5(a:P2):List P2->Int
 |b::c::r=>ae a b c+o5 a (c::r)
 |_=>0
def lJ:List P2->Int
 |b::c::r=>gst (b,c)+lJ (c::r)
 |_=>0
theorem Dh{f g h k:P2->Bool}:∀W:List P2,(∀q∈W,(if f q=true then 1 else 0)+(if g q=true then 1 else 0)=(if h q=true then 1 else 0)+(if k q=true then (1:Int) else 0))->(((W.filter f).length:Nat):Int)+((W.filter g).length:Nat)=((W.filter h).length:Nat)+((W.filter k).length:Nat)
 |[],_=>rfl
 |q::W,hq=>by
  have ih:=Dh W λp hp=>hq p (ET _ hp)
  have h0:=hq q E3;simp only[Oc];split at h0 <;>split at h0 <;>split at h0 <;>split at h0 <;>simp_all <;>lia
theorem uz{A B C:P2}(hD:0<ae A B C)(q:P2):(inT A B C q/\ae A C q=0)↔∃k:Int,0<=k/\k<=gst (A,C)/\q=onS (A,C) k:=by
 have QF:(A,C).1≠(A,C).2:=λe=>by
  dsimp only at e;subst e;have:ae A B A=0:=by unfold ae;grind
  lia
 have g0:=dy QF
 have Ud:∀k:Int,gst (A,C) *ae A B (onS (A,C) k)=k*ae A B C/\gst (A,C) *ae B C (onS (A,C) k)=(gst (A,C)-k) *ae A B C/\ae A C (onS (A,C) k)=0:=λk=>by
  have m1:=iY (A,C) k A B;have m2:=iY (A,C) k B C;have m3:=iY (A,C) k A C;dsimp only at m1 m2 m3;have z1:ae A B A=0:=by unfold ae;grind
  have z2:ae B C A=ae A B C:=kg A B C;have z3:ae B C C=0:=by unfold ae;grind
  have z4:ae A C A=0:=by unfold ae;grind
  have z5:ae A C C=0:=by unfold ae;grind
  rw[z1,HS,Qi]at m1;rw[z2,z3,HS,Jp]at m2;rw[z4,z5,HS,HS,Jp]at m3;exact⟨m1,m2,(Ga.mp m3).resolve_left (by lia)⟩
 constructor
 ·rintro ⟨⟨h1,h2,_⟩,h0⟩;obtain⟨k,rfl⟩:=mT QF h0;obtain⟨m1,m2,_⟩:=Ud k;refine⟨k,?_,?_,rfl⟩
  ·have:0<=ae A B C*k:=by rw[IA,<-m1];exact Fc (by lia) h1
   exact aW hD this
  ·have:0<=ae A B C*(gst (A,C)-k):=by rw[IA,<-m2];exact Fc (by lia) h2
   have:=aW hD this;lia
 ·rintro ⟨k,k0,k1,rfl⟩;obtain⟨m1,m2,m3⟩:=Ud k;refine⟨⟨aW g0 ?_,aW g0 ?_,?_⟩,m3⟩
  ·rw[m1];exact Fc k0 (by lia)
  ·rw[m2];exact Fc (by lia) (by lia)
  ·have:ae C A (onS (A,C) k)=-ae A C (onS (A,C) k):=by unfold ae;grind
   lia
open Classical in
theorem pi{a:P2}:∀(ch:List P2),2<=ch.length->Cvx a ch->∀{W:List P2},W.Nodup->(∀p,inF a ch p->p∈W)->∀b z,ch.head?=some b->ch.getLast?=some z->2*(((W.filter λq=>decide (inF a ch q)).length:Nat):Int)=o5 a ch+(gst (a,b)+lJ ch+gst (z,a))+2
 |[b,c],_,K,W,hW,RE,b',z',hb,hz=>by
  cases hb;have hz':c=z':=by simpa using hz
  subst hz';have D:0<ae a b c:=(Fh.mp K.tr).1 c (by simp)
  have:=oH D hW (λp hp=>RE p ((nj a b c p).mpr hp)) (λq=>decide (inF a [b,c] q)) (λp=>by rw[decide_eq_true_eq];exact nj a b c p)
  rw[this];unfold o5 o5 lJ lJ;lia
 |b::c::d::r,_,K,W,hW,RE,b',z',hb,hz=>by
  cases hb;have D:0<ae a b c:=(Fh.mp K.tr).1 c (by simp)
  rw[Fo]at hz;have swp:∀q,ae c a q=-ae a c q:=λq=>by unfold ae;grind
  have tl:∀q,inF a (c::d::r) q->inF a (b::c::d::r) q:=λq h=>by
   have hull:=oI (c::d::r) (by simp) K.tail q h
   refine (jy q).mpr ⟨hull a b λx hx=>?_,hull b c λx hx=>?_,h.2.1,h.2.2⟩
   ·rcases hx with rfl |hx
    ·have:ae x b x=0:=by unfold ae;grind
     lia
    ·exact KM ((Fh.mp K.tr).1 x hx)
   ·exact (K.sd x (hx.imp id λw=>ET _ w)).1
  have tt:∀q,inT a b c q->inF a (b::c::d::r) q:=λq h=>by
   have bary:∀X Y,0<=ae X Y a->0<=ae X Y b->0<=ae X Y c->0<=ae X Y q:=λX Y h1 h2 h3=>lf D h h1 h2 h3
   have cov:∀(ch:List P2),chn ch a->chn ch b->chn ch c->chn ch q:=λch=>by
    induction ch with
    |nil=>intros;trivial
    |cons x r ih=>
     cases r with
     |nil=>intros;trivial
     |cons y r=>intro h1 h2 h3;exact⟨bary x y h1.1 h2.1 h3.1,ih h1.2 h2.2 h3.2⟩
   refine (jy q).mpr ⟨h.1,h.2.1,cov _ (iy (K.sd a (.inl rfl))) (iy (K.sd b (.inr (by simp)))) (iy (K.sd c (.inr (by simp)))),λz hz=>?_⟩
   have mz:z∈c::d::r:=Hz hz;refine bary z a ?_ ?_ ?_
   ·have:ae z a a=0:=by unfold ae;grind
    lia
   ·have e:ae z a b=ae a b z:=by unfold ae;grind
    rw[e];exact KM ((Fh.mp K.tr).1 z mz)
   ·have e:ae z a c=ae a c z:=by unfold ae;grind
    rw[e];rcases E1.mp mz with w |w
    ·rw[w];have:ae a c c=0:=by unfold ae;grind
     lia
    ·exact KM ((Fh.mp K.tail.tr).1 z w)
  have part:∀q,inF a (b::c::d::r) q->(0<=ae a c q->inF a (c::d::r) q)/\(ae a c q<=0->inT a b c q):=λq h=>by
   obtain⟨h1,h2,h3,h4⟩:=(jy q).mp h;exact⟨λw=>⟨λx hx=>by cases hx;exact w,h3,h4⟩,λw=>⟨h1,h2,by rw[swp];lia⟩⟩
  have ih:=pi (c::d::r) (by simp) K.tail hW (λp hp=>RE p (tl p hp)) c z' rfl hz
  have tp:=oH D hW (λp hp=>RE p (tt p hp)) (λq=>decide (inT a b c q)) (λp=>by rw[decide_eq_true_eq])
  have sg:(((W.filter λq=>decide (inT a b c q/\ae a c q=0)).length:Nat):Int)=gst (a,c)+1:=by
   have QF:(a,c).1≠(a,c).2:=λe=>by
    dsimp only at e;subst e;have:ae a b a=0:=by unfold ae;grind
    lia
   have g0:=dy QF
   have nd:((F_ ((gst (a,c)).toNat+1)).map λ(k:Nat)=>onS (a,c) (k:Int)).Nodup:=by
    refine Hs _ (λx y (h:x≠y) e=>h ?_) JL
    have:=rV QF e;lia
   have p:KJ (W.filter λq=>decide (inT a b c q/\ae a c q=0)) ((F_ ((gst (a,c)).toNat+1)).map λ(k:Nat)=>onS (a,c) (k:Int)):=(GJ (hW.filter _) nd).mpr λp=>by
    rw[Gr,decide_eq_true_eq,uz D];constructor
    ·rintro ⟨_,k,k0,k1,rfl⟩;exact EZ.mpr ⟨k.toNat,Fu.mpr (by lia),by rw[show ((k.toNat:Nat):Int)=k by lia]⟩
    ·intro hin';obtain⟨k,hk,rfl⟩:=EZ.mp hin';have T4:=Fu.mp hk;have w:∃j:Int,0<=j/\j<=gst (a,c)/\onS (a,c) (k:Int)=onS (a,c) j:=⟨k,by lia,by lia,rfl⟩
     exact⟨RE _ (tt _ ((uz D _).mpr w).1),w⟩
   rw[p.length_eq];simp only[ES,NX];lia
  have four:=Dh (f:=λq=>decide (inF a (b::c::d::r) q)) (g:=λq=>decide (inT a b c q/\ae a c q=0)) (h:=λq=>decide (inT a b c q)) (k:=λq=>decide (inF a (c::d::r) q)) W (λq _=>by
   simp only[decide_eq_true_eq];by_cases hP:inF a (b::c::d::r) q
   ·obtain⟨p1,p2⟩:=part q hP;rcases Int.lt_trichotomy (ae a c q) 0 with w |w |w
    ·have hT:=p2 (by lia)
     have hN:¬ inF a (c::d::r) q:=λz=>by have:=z.1 c rfl;lia
     rw[if_pos hP,if_neg (λz=>by lia),if_pos hT,if_neg hN]
    ·rw[if_pos hP,if_pos ⟨p2 (by lia),w⟩,if_pos (p2 (by lia)),if_pos (p1 (by lia))]
    ·have hN:¬ inT a b c q:=λz=>by have:=z.2.2;rw[swp]at this;lia
     rw[if_pos hP,if_neg (λz=>hN z.1),if_neg hN,if_pos (p1 (by lia))]
     rfl
   ·rw[if_neg hP,if_neg (λz=>hP (tt q z.1)),if_neg (λz=>hP (tt q z)),if_neg (λz=>hP (tl q z))])
  have ga:gst (c,a)=gst (a,c):=dW a c;show 2*_=(ae a b c+o5 a (c::d::r))+(gst (a,b)+(gst (b,c)+lJ (c::d::r))+gst (z',a))+2;lia
 |[],h,_,_,_,_,_,_,_,_=>by simp at h
 |[_],h,_,_,_,_,_,_,_,_=>by simp at h
theorem fc(l:List P2):sdl l=Ib l (l.drop 1++l.take 1):=by
 have h1:=jL l;have h2:=nC l
 have:sdl l=Ib ((sdl l).map (·.1)) ((sdl l).map (·.2)):=by
  generalize sdl l=s
  induction s with
  |nil=>rfl
  |cons x r ih=>simp only[Ft,GT];rw[<-ih]
 rw[h1,h2]at this;exact this
theorem uw(q a:P2):∀(x:P2) (r:List P2),(∀s∈Ib (x::r) (r++[a]),0<=ae s.1 s.2 q)↔chn (x::r) q/\∀z,(x::r).getLast?=some z->0<=ae z a q
 |x,[]=>by
  constructor
  ·intro h;exact⟨trivial,λz hz=>by cases hz;exact h (x,a) (by simp)⟩
  ·rintro ⟨_,h⟩ s hs;simp at hs;rw[hs];exact h x rfl
 |x,y::r=>by
  rw[HC,GT];have ih:=uw q a y r;rw[Fo];constructor
  ·intro h;have:=ih.mp λs hs=>h s (ET _ hs)
   exact⟨⟨h (x,y) E3,this.1⟩,this.2⟩
  ·rintro ⟨⟨h1,h2⟩,h3⟩ s hs;rcases E1.mp hs with e |e
   ·rw[e];exact h1
   ·exact ih.mpr ⟨h2,h3⟩ s e
theorem nq(a b:P2)(r:List P2)(q:P2):(∀s∈sdl (a::b::r),0<=ae s.1 s.2 q)↔inF a (b::r) q:=by
 rw[fc];show (∀s∈Ib (a::b::r) ((b::r)++[a]),0<=ae s.1 s.2 q)↔_;rw[uw,Fo];unfold inF;constructor
 ·rintro ⟨⟨h1,h2⟩,h3⟩;exact⟨λx hx=>by cases hx;exact h1,h2,h3⟩
 ·rintro ⟨h1,h2,h3⟩;exact⟨⟨h1 b rfl,h2⟩,h3⟩
def cZ:List P2->Int
 |b::c::r=>crs (b,c)+cZ (c::r)
 |_=>0
theorem tW(a:P2):∀(x:P2) (r:List P2) (z:P2),(x::r).getLast?=some z->((Ib (x::r) (r++[a])).map gst).sum=lJ (x::r)+gst (z,a)
 |x,[],z,hz=>by cases hz;simp[lJ]
 |x,y::r,z,hz=>by
  rw[Fo]at hz;rw[HC,GT,Ft,HM,tW a y r z hz];show _=gst (x,y)+lJ (y::r)+gst (z,a);lia
theorem tH(a:P2):∀(x:P2) (r:List P2) (z:P2),(x::r).getLast?=some z->((Ib (x::r) (r++[a])).map crs).sum=cZ (x::r)+crs (z,a)
 |x,[],z,hz=>by cases hz;simp[cZ]
 |x,y::r,z,hz=>by
  rw[Fo]at hz;rw[HC,GT,Ft,HM,tH a y r z hz];show _=crs (x,y)+cZ (y::r)+crs (z,a);lia
theorem tR(a:P2):∀(b:P2) (r:List P2) (z:P2),(b::r).getLast?=some z->o5 a (b::r)=crs (a,b)+cZ (b::r)+crs (z,a)
 |b,[],z,hz=>by
  cases hz;show (0:Int)=crs (a,b)+0+crs (b,a);unfold crs;grind
 |b,c::r,z,hz=>by
  rw[Fo]at hz;have ih:=tR a c r z hz;show ae a b c+o5 a (c::r)=crs (a,b)+(crs (b,c)+cZ (c::r))+crs (z,a);rw[ih];have e:ae a b c=crs (a,b)+crs (b,c)-crs (a,c):=by unfold ae crs;grind
  lia
theorem yC(a b:P2)(r:List P2)(z:P2)(hz:(b::r).getLast?=some z):o5 a (b::r)=area (a::b::r)/\gst (a,b)+lJ (b::r)+gst (z,a)=g5 (a::b::r):=by
 have hz':(a::b::r).getLast?=some z:=by rw[Fo];exact hz
 constructor
 ·rw[tR a b r z hz];unfold area;rw[fc];have:=tH a a (b::r) z hz';show _=((Ib (a::b::r) ((b::r)++[a])).map crs).sum;rw[this];show _=crs (a,b)+cZ (b::r)+crs (z,a);lia
 ·unfold g5;rw[fc];have:=tW a a (b::r) z hz';show _=((Ib (a::b::r) ((b::r)++[a])).map gst).sum;rw[this];show _=gst (a,b)+lJ (b::r)+gst (z,a);lia
def AG(a:P2):List P2->Prop
 |b::c::r=>0<ae a b c/\AG a (c::r)
 |_=>True
theorem xH(a u p q r:P2):ae a u q*ae a p r=ae a u p*ae a q r+ae a u r*ae a p q:=by unfold ae;grind
theorem tV{a u x:P2}(hx:0<=ae a u x):∀(y:P2) (r:List P2),0<ae a x y->AG a (y::r)->(∀w∈y::r,0<ae a u w)->∀w∈y::r,0<ae a x w
 |y,[],h,_,_,w,hw=>by rw[E9.mp hw];exact h
 |y,z::r,h,hc,hu,w,hw=>by
  rcases E1.mp hw with e |e
  ·rw[e];exact h
  ·have hz:0<ae a x z:=by
    have f:=xH a u x y z;have a1:=Fc hx (KM hc.1);have a2:=FO (hu z (by simp)) h
    have:0<ae a u y*ae a x z:=by lia
    exact GG this (hu y (by simp))
   exact tV hx z r hz hc.2 (λv hv=>hu v (ET _ hv)) w e
theorem ji{a u:P2}:∀(ch:List P2),AG a ch->(∀w∈ch,0<=ae a u w)->(∀w∈ch.tail,0<ae a u w)->ch.Pairwise λx y=>0<ae a x y
 |[],_,_,_=>.nil
 |[_],_,_,_=>by simp
 |x::y::r,hc,h0,h1=>by
  refine Fh.mpr ⟨tV (h0 x (by simp)) y r hc.1 hc.2 h1,?_⟩
  exact ji (y::r) hc.2 (λw hw=>h0 w (ET _ hw)) λw hw=>h1 w (ET _ hw)
theorem t_{a:P2}:∀(ch:List P2),(∀s∈Ib ch ch.tail,0<ae a s.1 s.2)->AG a ch
 |[],_=>trivial
 |[_],_=>trivial
 |x::y::r,h=>⟨h (x,y) (by simp),t_ (y::r) λs hs=>h s (by
   show s∈(x,y)::Ib (y::r) r;exact ET _ hs)⟩
theorem tm(a:P2):∀(ch:List P2),∀s∈Ib ch ch.tail,s∈Ib ch (ch.tail++[a])
 |[],s,h=>by simp at h
 |[x],s,h=>by simp at h
 |x::y::r,s,h=>by
  have h':s∈(x,y)::Ib (y::r) r:=h;show s∈(x,y)::Ib (y::r) (r++[a]);rcases E1.mp h' with e |e
  ·rw[e];exact E3
  ·exact ET _ (tm a (y::r) s e)
theorem wM{l:List P2}{a b:P2}{r:List P2}(h3:3<=(ao l).length)(e:ao l=a::b::r):Cvx a (b::r):=by
 have nd:=bh l
 have sides:∀s∈sdl (a::b::r),∀x∈a::b::r,0<=ae s.1 s.2 x/\(x≠s.1->x≠s.2->0<ae s.1 s.2 x):=λs hs x hx=>by
  rw[<-e]at hs hx;have c:=cj h3 hs x (be _ x hx);refine⟨c,λn1 n2=>?_⟩
  rcases GU c with z |z
  ·exact z
  ·rcases Ca h3 hs hx z.symm with w |w
   ·exact absurd w n1
   ·exact absurd w n2
 rw[e]at nd;have na:∀x∈b::r,a≠x:=(Fh.mp nd).1;have sab:(a,b)∈sdl (a::b::r):=by rw[fc];show (a,b)∈(a,b)::_;simp
 have sch:∀s∈Ib (b::r) r,s∈sdl (a::b::r):=λs hs=>by
  rw[fc];show s∈(a,b)::Ib (b::r) (r++[a]);exact ET _ (tm a (b::r) s hs)
 have zm:∀s∈Ib (b::r) r,s.1∈b::r/\s.2∈b::r:=λs hs=>⟨(J4 hs).1,ET _ (J4 hs).2⟩
 refine⟨ji (u:=b) (b::r) (t_ _ λs hs=>?_) (λw hw=>?_) (λw hw=>?_),λx hx=>?_⟩
 ·have m:=zm s hs;have:=(sides s (sch s hs) a (by simp)).2 (na _ m.1) (na _ m.2)
  rwa [<-kg s.1 s.2 a,<-kg]at this
 ·exact (sides _ sab w (ET _ hw)).1
 ·have hw':w∈r:=hw
  exact (sides _ sab w (by simp[hw'])).2 (λz=>na w (ET _ hw') z.symm) (λz=>by
   have:=(Fh.mp (Fh.mp nd).2).1 w hw';exact this z.symm)
 ·have mx:x∈a::b::r:=by
   rcases hx with h |h
   ·rw[h];simp
   ·exact ET _ h
  exact ((nq a b r x).mp λs hs=>(sides s hs x mx).1).2.1
open Classical in
theorem El{l:List P2}(h3:3<=(ao l).length){W:List P2}(hW:W.Nodup)(RE:∀p,(∀s∈sdl (ao l),0<=ae s.1 s.2 p)->p∈W):2*(((W.filter λq=>decide (∀s∈sdl (ao l),0<=ae s.1 s.2 q)).length:Nat):Int)=area (ao l)+g5 (ao l)+2:=by
 match e:ao l,h3 with
 |a::b::c::r,h3=>
  have K:=wM (by rw[e];exact h3) e
  obtain⟨z,hz⟩:∃z,(b::c::r).getLast?=some z:=⟨_,List.getLast?_eq_some_getLast (by simp)⟩
  have f:=pi (b::c::r) (by simp) K hW (λp hp=>RE p (by rw[e];exact (nq a b (c::r) p).mpr hp)) b z rfl hz
  obtain⟨s1,s2⟩:=yC a b (c::r) z hz;rw[s1,s2]at f;rw[<-f];congr 3;refine List.filter_congr λq _=>?_
  exact decide_eq_decide.mpr (nq a b (c::r) q)
theorem Bb{l:List P2}{k:Int}{i:Nat}(e:k=(i:Int))(h:i<l.length):atI (l.map pu) k=some (pu (gp l i)):=nI e (by rw[E7,dw h];rfl)
def prv(l:List P2)(j:Nat):P2:=gp l ((j+l.length-1)%l.length)
def pvl(l:List P2):List (P2×P2):=(F_ l.length).map λj=>(prv l j,gp l j)
theorem An(Z P B q:P2)(a b:Int):ae Z P B*(wth a b q-wth a b P)=-(ae P B q*(wth a b P-wth a b Z))-ae Z P q*(wth a b P-wth a b B):=by unfold ae wth;grind
theorem sV{l:List P2}(h3:3<=(ao l).length)(a b:Int):∃Z P B,(Z,P)∈sdl (ao l)/\(P,B)∈sdl (ao l)/\0<ae Z P B/\wth a b P=hiW a b (ao l)/\wth a b Z<=wth a b P/\wth a b B<=wth a b P:=by
 obtain⟨⟨P,hP,e⟩,k⟩:=jR a b (l:=ao l) (λz=>by rw[z]at h3;simp at h3)
 obtain⟨Z,hZ⟩:=uN hP;obtain⟨B,hB,QB⟩:=gC h3 hZ;refine⟨Z,P,B,hZ,hB,QB,e,?_,?_⟩
 ·rw[e];exact k Z (ce hZ).1
 ·rw[e];exact k B (ce hB).2
theorem B2{l:List P2}(h3:3<=(ao l).length)(a b:Int){q:P2}(hq:∀s∈sdl (ao l),0<=ae s.1 s.2 q):wth a b q<=hiW a b (ao l):=by
 obtain⟨Z,P,B,hZ,hB,QB,e,k1,k2⟩:=sV h3 a b;rw[<-e];have i1:0<=ae P B q*(wth a b P-wth a b Z):=Fc (hq _ hB) (by lia)
 have i2:0<=ae Z P q*(wth a b P-wth a b B):=Fc (hq _ hZ) (by lia)
 have pe:=An Z P B q a b;rcases Gm (wth a b P) (wth a b q) with h |h
 ·have:=FO QB (show 0<wth a b q-wth a b P by lia)
  lia
 ·exact h
def mW(l:List P2):Int:=if l.length<3 then gst (gp l 0,gp l (l.length-1))+1 else g5 l
def plc(l:List P2)(p:P2):Int:=if ∃s∈pvl l,ae s.1 s.2 p<0 then -1 else if ∃s∈pvl l,ae s.1 s.2 p=0 then 0 else 1
def iE(a:Int)(n:Nat):List Int:=(F_ n).map λ(i:Nat)=>a+(i:Int)
def nN(x:Int)(n:Nat)(y:Int)(m:Nat):List P2:=((iE x n).map λa=>(iE y m).map λb=>(a,b)).flatten
theorem eX{a:Int}{n:Nat}{x:Int}:x∈iE a n↔a<=x/\x<a+n:=by
 unfold iE;rw[EZ];constructor
 ·rintro ⟨i,hi,rfl⟩;have:=Fu.mp hi;lia
 ·rintro ⟨h1,h2⟩;exact⟨(x-a).toNat,Fu.mpr (by lia),by lia⟩
theorem nA(a:Int)(n:Nat):(iE a n).Nodup:=by
 unfold iE;exact Hs _ (λi j (h:i≠j) e=>h (by lia)) JL
theorem ka{x y:Int}{n m:Nat}{p:P2}:p∈nN x n y m↔(x<=p.1/\p.1<x+n)/\y<=p.2/\p.2<y+m:=by
 unfold nN;rw[Mo];constructor
 ·rintro ⟨q,hq,hp⟩;obtain⟨a,ha,rfl⟩:=EZ.mp hq;obtain⟨b,hb,rfl⟩:=EZ.mp hp;exact⟨eX.mp ha,eX.mp hb⟩
 ·rintro ⟨h1,h2⟩;exact⟨_,EZ.mpr ⟨p.1,eX.mpr h1,rfl⟩,EZ.mpr ⟨p.2,eX.mpr h2,rfl⟩⟩
theorem nU(x:Int)(n:Nat)(y:Int)(m:Nat):(nN x n y m).Nodup:=by
 unfold nN;refine MX.mpr ⟨λq hq=>?_,?_⟩
 ·obtain⟨a,_,rfl⟩:=EZ.mp hq;exact Hs _ (λi j (h:i≠j) e=>h (congrArg K7 e)) (nA y m)
 ·refine FR.mpr ((nA x n).imp λ{a b} h p hp q hq e=>?_)
  obtain⟨_,_,rfl⟩:=EZ.mp hp;obtain⟨_,_,rfl⟩:=EZ.mp hq;exact h (congrArg JO e)
def EL(l W:List P2)(w:Int):Int:=((W.filter λp=>decide (plc l p=w)).length:Nat)
def loX(l:List P2):Int:=re (l.map (·.1))
def hiX(l:List P2):Int:=hiL (l.map (·.1))
def loY(l:List P2):Int:=re (l.map (·.2))
def hiY(l:List P2):Int:=hiL (l.map (·.2))
theorem cY{l:List Int}(h:l≠[]):hiL l∈l/\∀a∈l,a<=hiL l:=by
 cases l with
 |nil=>exact absurd rfl h
 |cons a l=>exact⟨eK l a,fu l a⟩
def bxN(l:List P2):Nat:=(hiX l+1-loX l).toNat
def byN(l:List P2):Nat:=(hiY l+1-loY l).toNat
def box(l:List P2):List P2:=nN (loX l) (bxN l) (loY l) (byN l)
theorem fe{l:List P2}(QF:l≠[]){p:P2}:p∈box l↔(loX l<=p.1/\p.1<=hiX l)/\loY l<=p.2/\p.2<=hiY l:=by
 unfold box bxN byN;rw[ka];lia
theorem g_{A B:List P2}(hA:A.Nodup)(hB:B.Nodup)(h:∀p,p∈A↔p∈B):A.length=B.length:=((GJ hA hB).mpr h).length_eq
theorem oN{l:List P2}(h3:3<=(ao l).length){p:P2}(h:∀s∈sdl (ao l),0<=ae s.1 s.2 p):p∈box (ao l):=by
 have QF:ao l≠[]:=λz=>by rw[z]at h3;simp at h3
 have key:∀a b:Int,∃q∈ao l,wth a b p<=wth a b q:=λa b=>by
  obtain⟨⟨q,hq,e⟩,_⟩:=jR a b QF;exact⟨q,hq,by rw[e];exact B2 h3 a b h⟩
 have hx:(ao l).map (·.1)≠[]:=by simpa using QF
 have hy:(ao l).map (·.2)≠[]:=by simpa using QF
 obtain⟨q1,m1,k1⟩:=key 1 0;obtain⟨q2,m2,k2⟩:=key (-1) 0;obtain⟨q3,m3,k3⟩:=key 0 1;obtain⟨q4,m4,k4⟩:=key 0 (-1);have a1:=(cY hx).2 q1.1 (F6 m1);have a2:=(cM hx).2 q2.1 (F6 m2);have a3:=(cY hy).2 q3.2 (F6 m3);have a4:=(cM hy).2 q4.2 (F6 m4);unfold wth at k1 k2 k3 k4;rw[fe QF];unfold loX hiX loY hiY;lia
theorem zZ(A:P2):box [A]=[A]:=by
 have h:∀p,p∈box [A]↔p∈[A]:=λp=>by
  rw[fe (by simp),E9]
  unfold loX hiX loY hiY re hiL;simp only[Ft,KH,List.foldl_nil];constructor
  ·intro h;exact Gf (by lia) (by lia)
  ·rintro rfl;lia
 have hp:=(GJ (nU _ _ _ _) (by simp:[A].Nodup)).mpr h
 exact List.perm_singleton.mp hp
theorem zA{A B p:P2}(h:ST.ltP A B=true):(p∈box [A,B]/\ae A B p=0)↔∃k:Int,0<=k/\k<=gst (A,B)/\p=onS (A,B) k:=by
 rw[<-mU h,fe (by simp)]
 have lt:=h;unfold ST.ltP at lt;have lt:=of_decide_eq_true lt;have e1:loX [A,B]=A.1:=by show min A.1 B.1=A.1;lia
 have e2:hiX [A,B]=B.1:=by show max A.1 B.1=B.1;lia
 have e3:loY [A,B]=min A.2 B.2:=rfl;have e4:hiY [A,B]=max A.2 B.2:=rfl;rw[e1,e2,e3,e4];unfold ST.leP;rw[decide_eq_true_eq,decide_eq_true_eq];constructor
 ·rintro ⟨⟨⟨a1,a2⟩,b1,b2⟩,d⟩;refine⟨d,?_,?_⟩
  ·rcases GU a1 with z |z
   ·exact .inl z
   ·right
    refine⟨z,?_⟩;rcases lt with w |⟨w,w'⟩
    ·unfold ae at d;rw[<-z,Int.sub_self,HS,MY]at d;have:=(Ga.mp d).resolve_left (by lia)
     lia
    ·lia
  ·rcases GU a2 with z |z
   ·exact .inl z
   ·right
    refine⟨z,?_⟩;rcases lt with w |⟨w,w'⟩
    ·have d':(B.1-A.1) *(p.2-B.2)=0:=by
      have:ae A B p=(B.1-A.1) *(p.2-B.2):=by unfold ae;rw[z];grind
      lia
     have:=(Ga.mp d').resolve_left (by lia)
     lia
    ·lia
 ·rintro ⟨d,a,b⟩;refine⟨⟨⟨by lia,by lia⟩,?_⟩,d⟩
  rcases lt with w |⟨w,w'⟩
  ·have hd:(B.1-A.1) *(p.2-A.2)=(B.2-A.2) *(p.1-A.1):=by unfold ae at d;lia
   have RK:(B.1-A.1) *(B.2-p.2)=(B.2-A.2) *(B.1-p.1):=by grind
   rcases JZ A.2 B.2 with u |u
   ·have x1:=Fc (show 0<=B.2-A.2 by lia) (show 0<=p.1-A.1 by lia)
    have x2:=Fc (show 0<=B.2-A.2 by lia) (show 0<=B.1-p.1 by lia)
    rw[<-hd]at x1;rw[<-RK]at x2;have y1:=aW (by lia) x1
    have y2:=aW (by lia) x2
    lia
   ·have x1:=Fc (show 0<=A.2-B.2 by lia) (show 0<=p.1-A.1 by lia)
    have x2:=Fc (show 0<=A.2-B.2 by lia) (show 0<=B.1-p.1 by lia)
    have f1:(A.2-B.2) *(p.1-A.1)=(B.1-A.1) *(A.2-p.2):=by grind
    have f2:(A.2-B.2) *(B.1-p.1)=(B.1-A.1) *(p.2-B.2):=by grind
    rw[f1]at x1;rw[f2]at x2;have y1:=aW (by lia) x1
    have y2:=aW (by lia) x2
    lia
  ·lia
theorem AD(A B:P2):sdl [A,B]=[(A,B),(B,A)]:=by
 unfold sdl nxt;simp[MW]
theorem vV{A B:P2}(h:ao [A,B]=[A,B]):ST.ltP A B=true:=by
 have nd:[A,B].Nodup:=by rw[<-h];exact bh _
 have ne:A≠B:=by simpa using nd
 have SE:=ST.srt_asc [A,B];have hm:=λz=>ST.srt_mem z [A,B]
 match e:ST.srt [A,B],SE,hm with
 |[],_,hm=>have:=(hm A).mpr (by simp);simp at this
 |[X],_,hm=>
  have a:=(hm A).mpr (by simp)
  have b:=(hm B).mpr (by simp)
  rw[E9]at a b;exact absurd (a.trans b.symm) ne
 |X::Y::[],SE,_=>
  have c:ao [A,B]=[X,Y]:=by unfold ao;rw[e];simp[am,aT]
  rw[h]at c;injection c with c1 c2
  injection c2 with c2 _
  subst c1 c2;exact (Fh.mp SE).1 _ (by simp)
 |X::Y::Z::r,_,_=>
  have:=ST.srt_len [A,B];rw[e]at this;simp at this
def fG(l:List P2):Int:=pin l+mW l
def TP:List P2->Prop
 |[]=>True
 |a::v=>(v.Pairwise λx y=>0<ae a x y)/\TP v
section
variable {l:List P2} (R:∀s∈sdl l,∀w∈l,w≠s.1→w≠s.2→0<ae s.1 s.2 w) (nd:l.Nodup)
include R nd
end
theorem oh(f:P2->P2)(l:List P2):sdl (l.map f)=(sdl l).map λs=>(f s.1,f s.2):=by
 rw[fc,fc,<-NA,<-LZ,<-F4];generalize l.drop 1++l.take 1=m
 induction l generalizing m with
 |nil=>rfl
 |cons a l ih=>
  cases m with
  |nil=>simp
  |cons b m=>simp only[Ft,GT];rw[ih]
theorem zM{l:List P2}(h3:3<=(ao l).length):2*pin (ao l)=area (ao l)-g5 (ao l)+2:=by
 have P:=El h3 (W:=box (ao l)) (nU _ _ _ _) λp hp=>oN h3 hp
 have e2:pin (ao l)=(area (ao l)-g5 (ao l)+2)/2:=by unfold pin;rw[if_neg (by lia)]
 rw[e2];lia
theorem lN{a b:P2}(h:ST.ltP a b=true):ao [a,b]=[a,b]:=by
 have e:ST.srt [a,b]=[a,b]:=ST.asc_srt (by simp[ST.Asc,h])
 unfold ao;rw[e];simp[am,aT]
def c9(l:List P2)(p:P2):Bool:=if l.length=1 then decide (p=gp l 0) else if l.length=2 then (decide (ae (gp l 0) (gp l 1) p=0) && (ST.leP (gp l 0) p && ST.leP p (gp l 1))) else (sdl l).all λs=>decide (0<=ae s.1 s.2 p)
theorem f6{l:List P2}(h3:3<=l.length)(p:P2):c9 l p=true↔∀s∈sdl l,0<=ae s.1 s.2 p:=by
 unfold c9;rw[if_neg (by lia),if_neg (by lia),HW]
 simp only[decide_eq_true_eq]
theorem qW(A B p:P2):c9 [A,B] p=true↔ae A B p=0/\ST.leP A p=true/\ST.leP p B=true:=by
 unfold c9;rw[if_neg (by simp),if_pos (by simp),GE,GE,decide_eq_true_eq]
 rfl
theorem ou(A p:P2):c9 [A] p=true↔p=A:=by
 unfold c9;rw[if_pos (by simp),decide_eq_true_eq];rfl
section
variable {l:List P2} (h3:3≤(ao l).length)
include h3
end
theorem C7{A B:P2}(h:ST.ltP A B=true):A.1<B.1\/(A.1=B.1/\A.2<B.2):=by
 unfold ST.ltP at h;exact of_decide_eq_true h
theorem w8{A B:P2}(h:ST.ltP A B=true):loX [A,B]=A.1/\hiX [A,B]=B.1/\loY [A,B]=min A.2 B.2/\hiY [A,B]=max A.2 B.2:=by
 have:=C7 h;exact⟨(by show min A.1 B.1=A.1;lia),(by show max A.1 B.1=B.1;lia),rfl,rfl⟩
theorem AN{A B:P2}(h:ST.ltP A B=true){p:P2}(hp:c9 [A,B] p=true):p∈box [A,B]:=by
 have:=(qW A B p).mp hp;exact ((zA h).mpr ((mU h).mp this)).1
structure Fld(l:List P2):Prop where
 ne:l≠[]
 cr:ao l=l
theorem Fld.cases{l:List P2}(F:Fld l):(∃A,l=[A])\/(∃A B,l=[A,B]/\ST.ltP A B=true)\/3<=(ao l).length:=by
 match l,F with
 |[],F=>exact absurd rfl F.ne
 |[A],_=>exact .inl ⟨A,rfl⟩
 |[A,B],F=>exact .inr (.inl ⟨A,B,rfl,vV F.cr⟩)
 |A::B::C::r,F=>exact .inr (.inr (by rw[F.cr];simp))
theorem Fld.in_box{l:List P2}(F:Fld l){p:P2}(h:c9 l p=true):p∈box l:=by
 rcases F.cases with ⟨A,rfl⟩ |⟨A,B,rfl,lt⟩ |h3
 ·rw[(ou A p).mp h,zZ];simp
 ·exact AN lt h
 ·rw[<-F.cr]at h |-;exact oN h3 ((f6 h3 p).mp h)
def shf(s a b:Int)(p:P2):P2:=(p.1+a,p.2+s*p.1+b)
theorem AC(s a b:Int)(p q:P2)(h:plt p q):plt (shf s a b p) (shf s a b q):=by
 unfold plt shf at *;dsimp only;rcases h with h |⟨h,k⟩
 ·left;lia
 ·right;rw[h];lia
theorem nR(s a b:Int)(p q r:P2):ae (shf s a b p) (shf s a b q) (shf s a b r)=ae p q r:=by unfold ae shf;grind
theorem AX{s a b:Int}{p q:P2}(e:shf s a b p=shf s a b q):p=q:=by
 have e1:p.1+a=q.1+a:=congrArg JO e;have e2:p.2+s*p.1+b=q.2+s*q.1+b:=congrArg K7 e;have e1:p.1=q.1:=by lia
 rw[e1]at e2;exact Gf e1 (by lia)
theorem d6(s a b:Int)(l:List P2):ao (l.map (shf s a b))=(ao l).map (shf s a b):=zg (AC s a b) (λp q r=>by rw[nR]) l
theorem uj(s a b:Int)(p q:P2):ST.leP (shf s a b p) (shf s a b q)=ST.leP p q:=by
 unfold ST.leP shf;dsimp only;rw[HN,decide_eq_true_eq,decide_eq_true_eq];constructor
 ·rintro (h |⟨h,k⟩)
  ·left;lia
  ·right
   have:p.1=q.1:=by lia
   rw[this]at k;lia
 ·rintro (h |⟨h,k⟩)
  ·left;lia
  ·right;rw[h];lia
theorem rT{f:P2->P2}{l:List P2}{i:Nat}(h:i<l.length):gp (l.map f) i=f (gp l i):=by simp[gp,h]
theorem Ck(s a b:Int)(l:List P2)(QF:l≠[])(p:P2):c9 (l.map (shf s a b)) (shf s a b p)=c9 l p:=by
 have h0:0<l.length:=HH.mpr QF;unfold c9;rw[ES];by_cases h1:l.length=1
 ·rw[if_pos h1,if_pos h1,rT h0];exact decide_eq_decide.mpr ⟨AX,λe=>by rw[e]⟩
 ·rw[if_neg h1,if_neg h1];by_cases h2:l.length=2
  ·rw[if_pos h2,if_pos h2,rT h0,rT (show 1<l.length by lia),nR,uj,uj]
  ·rw[if_neg h2,if_neg h2,oh,Qd];congr 1
   funext t
   show decide (0<=ae (shf s a b t.1) (shf s a b t.2) (shf s a b p))=_;rw[nR]
theorem vG{pts:List P2}(QF:pts≠[]):∃mn mx,(ao pts)[0]?=some mn/\mn∈pts/\mx∈pts/\(∀q∈pts,ST.ltP q mn=false)/\(∀q∈pts,ST.ltP mx q=false)/\(¬ 2<(ao pts).length->(ao pts)[(ao pts).length-1]?=some mx):=by
 have no:∀{a b:P2},(a=b\/plt a b)->ST.ltP b a=false:=λ{a b} h=>by
  rw[ST.ltP_no];rcases h with rfl |h
  ·lia
  ·unfold plt at h;lia
 by_cases h2:2<=(ST.srt pts).length
 ·have hs:=dB pts;obtain⟨mn,mx,W⟩:=BY hs h2
  have hc:ao pts=(am (ST.srt pts)).reverse.dropLast++(am (ST.srt pts).reverse).reverse.dropLast:=by
   unfold ao;rw[if_neg (by lia)]
  have TF:mn∈ST.srt pts:=bR _ _ (Fd.mp (Fs W.t0));have memX:mx∈ST.srt pts:=bR _ _ (Fd.mp (Fs W.t1));refine⟨mn,mx,?_,(ST.srt_mem _ _).mp TF,(ST.srt_mem _ _).mp memX,λq hq=>no ((W.least q ((ST.srt_mem _ _).mpr hq)).imp (λe=>e.symm) id),λq hq=>no (W.most q ((ST.srt_mem _ _).mpr hq)),λh=>?_⟩
  ·have:=d9 W (k:=0) (by lia)
   rw[Qh]at this;rw[hc,this];exact W.t0
  ·rw[hc]at h |-;have h1:=W.lt;have h3:=W.lb;have hn:((am (ST.srt pts)).reverse.dropLast++(am (ST.srt pts).reverse).reverse.dropLast).length=(am (ST.srt pts)).reverse.length-1+((am (ST.srt pts).reverse).reverse.length-1):=by simp
   have:=d9 W (k:=(am (ST.srt pts)).reverse.length-1) (E2 _);rw[W.t1,F8 (by lia)]at this
   rw[<-this];congr 1;lia
 ·have h1:(ST.srt pts).length=1:=by
   obtain⟨x,hx⟩:=List.exists_mem_of_ne_nil pts QF;have:=GD ((ST.srt_mem x pts).mpr hx);lia
  obtain⟨x,hx⟩:=Mw.mp h1;have all:∀q∈pts,q=x:=λq hq=>by have:=(ST.srt_mem q pts).mpr hq;rw[hx]at this;simpa using this
  have mx:x∈pts:=(ST.srt_mem _ _).mp (by rw[hx];simp)
  rw[dX h2,hx];exact⟨x,x,rfl,mx,mx,λq hq=>no (.inl (all q hq).symm),λq hq=>no (.inl (all q hq)),λ_=>rfl⟩
theorem m8{f:P2->P2}{d:Int}(L:Lin f d)(A B:P2):gst (f A,f B)=gst (A,B):=by
 have:=uI L (A,B);unfold sdf at this;split at this
 ·exact this
 ·rw[<-dW];exact this
theorem yy{f:P2->P2}{d:Int}(L:Lin f d){A B:P2}(h:A≠B)(k:Int):onS (f A,f B) k=f (onS (A,B) k):=by
 have g0:0<gst (A,B):=dy h;have e1:=gP (A,B);have e2:=gT (A,B);have eg:=m8 L A B;obtain⟨a,b,c,e,_,hf⟩:=L.ex
 have u1:ub (f A,f B)=a*ub (A,B)+b*vb (A,B):=by
  unfold ub;rw[eg];dsimp only at *;rw[hf,hf];dsimp only
  rw[show a*B.1+b*B.2-(a*A.1+b*A.2)=gst (A,B) *(a*ub (A,B)+b*vb (A,B)) by
   have:a*B.1+b*B.2-(a*A.1+b*A.2)=a*(B.1-A.1)+b*(B.2-A.2):=by grind
   rw[this,e1,e2];grind]
  rw[Hr _ (by lia)]
  rfl
 have v1:vb (f A,f B)=c*ub (A,B)+e*vb (A,B):=by
  unfold vb;rw[eg];dsimp only at *;rw[hf,hf];dsimp only
  rw[show c*B.1+e*B.2-(c*A.1+e*A.2)=gst (A,B) *(c*ub (A,B)+e*vb (A,B)) by
   have:c*B.1+e*B.2-(c*A.1+e*A.2)=c*(B.1-A.1)+e*(B.2-A.2):=by grind
   rw[this,e1,e2];grind]
  rw[Hr _ (by lia)]
  rfl
 unfold onS;rw[u1,v1];dsimp only;rw[hf,hf];dsimp only;exact Gf (by dsimp only;grind) (by dsimp only;grind)
theorem AL{A B:P2}(h:A≠B)(k:Int):onS (B,A) k=onS (A,B) (gst (A,B)-k):=by
 have e1:=gP (A,B);have e2:=gT (A,B);have e3:=gP (B,A);have e4:=gT (B,A);have g0:0<gst (A,B):=dy h;rw[dW]at e3 e4;dsimp only at *;have u:ub (B,A)=-ub (A,B):=Gg (a:=gst (A,B)) (by lia) (by rw[ON];lia)
 have v:vb (B,A)=-vb (A,B):=Gg (a:=gst (A,B)) (by lia) (by rw[ON];lia)
 unfold onS;rw[u,v];dsimp only;exact Gf (by dsimp only;grind) (by dsimp only;grind)
def pL(A B p:P2):Prop:=∃k:Int,0<=k/\k<=gst (A,B)/\p=onS (A,B) k
theorem x8{A B:P2}(h:A≠B)(p:P2):pL B A p↔pL A B p:=by
 have key:∀{A B:P2},A≠B->pL B A p->pL A B p:=λ{A B} h ⟨k,k0,k1,e⟩=>by
  rw[dW]at k1;exact⟨gst (A,B)-k,by lia,by lia,by rw[e,AL h]⟩
 exact⟨key h,key h.symm⟩
theorem zC{f:P2->P2}{d:Int}(L:Lin f d){A B:P2}(h:A≠B)(p:P2):pL (f A) (f B) (f p)↔pL A B p:=by
 unfold pL;rw[m8 L];constructor
 ·rintro ⟨k,k0,k1,e⟩;exact⟨k,k0,k1,L.inj (by rw[e,yy L h])⟩
 ·rintro ⟨k,k0,k1,e⟩;exact⟨k,k0,k1,by rw[e,yy L h]⟩
theorem qS{A B:P2}(h:ST.ltP A B=true)(p:P2):c9 [A,B] p=true↔pL A B p:=by rw[qW,mU h];rfl
theorem hJ{A B:P2}(h:A≠B):(ST.ltP A B=true/\ao [A,B]=[A,B])\/(ST.ltP B A=true/\ao [A,B]=[B,A]):=by
 by_cases hl:ST.ltP A B=true
 ·exact .inl ⟨hl,lN hl⟩
 ·have hb:=ST.ltP_tot h (by simpa using hl)
  refine .inr ⟨hb,?_⟩;rw[kG (iV (m:=[B,A]) λz=>by simp[or_comm]),lN hb]
theorem Cb{f:P2->P2}{d:Int}(L:Lin f d){l:List P2}(F:Fld l)(p:P2):c9 (ao (l.map f)) (f p)=c9 l p:=by
 rw[HN];rcases F.cases with ⟨A,rfl⟩ |⟨A,B,rfl,lt⟩ |h3
 ·have e:ao ([A].map f)=[f A]:=rfl;rw[e,ou,ou];exact⟨λh=>L.inj h,λh=>by rw[h]⟩
 ·have ne:A≠B:=λe=>by rw[e,ST.asc_irr]at lt;cases lt
  have ne':f A≠f B:=λe=>ne (L.inj e)
  rw[qS lt,<-zC L ne];show c9 (ao [f A,f B]) (f p)=true↔_;rcases hJ ne' with ⟨h,e⟩ |⟨h,e⟩
  ·rw[e,qS h]
  ·rw[e,qS h,x8 ne']
 ·have l3:=dI L h3;have Sm:3<=l.length:=by rw[<-F.cr];exact h3
  rw[f6 l3,f6 Sm];constructor
  ·intro h s hs;have:=h _ ((qU L h3 _).mpr ⟨s,by rw[F.cr];exact hs,rfl⟩)
   unfold sdf at this;rcases L.one with e |e
   ·rw[if_pos e]at this;dsimp only at this;rw[L.det,e,Kx]at this;exact this
   ·rw[if_neg (by lia)]at this
    dsimp only at this;rw[L.det,e]at this;have sw:ae s.2 s.1 p=-ae s.1 s.2 p:=by unfold ae;grind
    lia
  ·intro h t ht;obtain⟨s,hs,rfl⟩:=(qU L h3 t).mp ht;have k:=h s (by rw[F.cr]at hs;exact hs)
   unfold sdf;rcases L.one with e |e
   ·rw[if_pos e];dsimp only;rw[L.det,e,Kx];exact k
   ·rw[if_neg (by lia)]
    dsimp only;rw[L.det,e];have sw:ae s.2 s.1 p=-ae s.1 s.2 p:=by unfold ae;grind
    lia
theorem jO{a b c d:Int}(h:a*d-b*c=1\/a*d-b*c=-1):Lin (λp:P2=>(a*p.1+b*p.2,c*p.1+d*p.2)) (a*d-b*c):=⟨h,a,b,c,d,rfl,λ_=>rfl⟩
theorem dN(a b c d e f:Int)(l:List P2):l.map (ap a b c d e f)=(l.map λp:P2=>(a*p.1+b*p.2,c*p.1+d*p.2)).map (shf 0 e f):=by
 rw[FP];refine I0 λp _=>?_
 unfold ap shf;exact Gf rfl (by dsimp only[Function.comp];lia)
theorem Bx{a b c d:Int}(e f:Int)(h:a*d-b*c=1\/a*d-b*c=-1){l:List P2}(F:Fld l)(p:P2):c9 (ao (l.map (ap a b c d e f))) (ap a b c d e f p)=c9 l p:=by
 rw[dN,d6]
 have hp:ap a b c d e f p=shf 0 e f (a*p.1+b*p.2,c*p.1+d*p.2):=by
  unfold ap shf;exact Gf rfl (by dsimp only;lia)
 rw[hp,Ck _ _ _ _ (oD (by simpa using F.ne))]
 exact Cb (jO h) F p
theorem Cl{a b c d:Int}(e f:Int){l:List P2}(F:Fld l):Fld (ao (l.map (ap a b c d e f))):=⟨oD (by simpa using F.ne),cO _⟩
theorem xO{a b c d e f:Int}(h:a*d-b*c=1\/a*d-b*c=-1){p q:P2}(k:ap a b c d e f p=ap a b c d e f q):p=q:=by
 refine (jO h).inj ?_;have e1:a*p.1+b*p.2+e=a*q.1+b*q.2+e:=congrArg JO k;have e2:c*p.1+d*p.2+f=c*q.1+d*q.2+f:=congrArg K7 k;exact Gf (by dsimp only;lia) (by dsimp only;lia)
theorem Cy{a b c d e f:Int}(h:a*d-b*c=1\/a*d-b*c=-1)(q:P2):∃p,ap a b c d e f p=q:=by
 rcases h with h |h
 ·refine⟨(d*(q.1-e)-b*(q.2-f),a*(q.2-f)-c*(q.1-e)),?_⟩;unfold ap;refine Gf ?_ ?_
  ·dsimp only;have:a*(d*(q.1-e)-b*(q.2-f))+b*(a*(q.2-f)-c*(q.1-e))=(a*d-b*c) *(q.1-e):=by grind
   rw[this,h];lia
  ·dsimp only;have:c*(d*(q.1-e)-b*(q.2-f))+d*(a*(q.2-f)-c*(q.1-e))=(a*d-b*c) *(q.2-f):=by grind
   rw[this,h];lia
 ·refine⟨(-(d*(q.1-e)-b*(q.2-f)),-(a*(q.2-f)-c*(q.1-e))),?_⟩;unfold ap;refine Gf ?_ ?_
  ·dsimp only;have:a* -(d*(q.1-e)-b*(q.2-f))+b* -(a*(q.2-f)-c*(q.1-e))=-((a*d-b*c) *(q.1-e)):=by grind
   rw[this,h];lia
  ·dsimp only;have:c* -(d*(q.1-e)-b*(q.2-f))+d* -(a*(q.2-f)-c*(q.1-e))=-((a*d-b*c) *(q.2-f)):=by grind
   rw[this,h];lia
def kN(s:P2×P2)(y:Int):Int:=(s.2.1-s.1.1) *(y-s.1.2)
def xx(y:Int)(s:P2×P2):Int:=s.1.1+kN s y/(s.2.2-s.1.2)
def wL(y:Int)(s:P2×P2):Int:=s.1.1-kN s y / -(s.2.2-s.1.2)
def cP(l:List P2)(ss:List (P2×P2))(y:Int):List Int:=hiX l::(ss.filter λs=>decide (0<s.2.2-s.1.2)).map (xx y)
def cR(l:List P2)(ss:List (P2×P2))(y:Int):List Int:=loX l::(ss.filter λs=>decide (s.2.2-s.1.2<0)).map (wL y)
def lG(l:List P2)(y:Int):Int:=re (cP l (sdl l) y)
def fL(l:List P2)(y:Int):Int:=hiL (cR l (sdl l) y)
theorem jD(s:P2×P2)(x y:Int):ae s.1 s.2 (x,y)=kN s y-(s.2.2-s.1.2) *(x-s.1.1):=by unfold ae kN;grind
theorem t9{s:P2×P2}{x y:Int}(h:0<s.2.2-s.1.2):0<=ae s.1 s.2 (x,y)↔x<=xx y s:=by
 rw[jD];unfold xx;have k:x-s.1.1<=kN s y/(s.2.2-s.1.2)↔(x-s.1.1) *(s.2.2-s.1.2)<=kN s y:=Kn h;rw[IA]at k;lia
theorem tN{s:P2×P2}{x y:Int}(h:s.2.2-s.1.2<0):0<=ae s.1 s.2 (x,y)↔wL y s<=x:=by
 rw[jD];unfold wL;have k:s.1.1-x<=kN s y / -(s.2.2-s.1.2)↔(s.1.1-x) * -(s.2.2-s.1.2)<=kN s y:=Kn (by lia)
 have e:(s.1.1-x) * -(s.2.2-s.1.2)=(s.2.2-s.1.2) *(x-s.1.1):=by grind
 rw[e]at k;lia
theorem tX{l:List P2}{ss:List (P2×P2)}{x y:Int}:x<=re (cP l ss y)↔x<=hiX l/\∀s∈ss,0<s.2.2-s.1.2->x<=xx y s:=by
 have ok:=cM (l:=cP l ss y) (by unfold cP;simp)
 constructor
 ·intro h;refine⟨MZ h (ok.2 _ (by unfold cP;simp)),λs hs hr=>MZ h (ok.2 _ ?_)⟩
  unfold cP;exact ET _ (F6 (Gr.mpr ⟨hs,decide_eq_true hr⟩))
 ·rintro ⟨h1,h2⟩;have m:=ok.1;unfold cP at m;rcases E1.mp m with e |e
  ·unfold cP;rw[e];exact h1
  ·obtain⟨s,hs,e2⟩:=EZ.mp e;obtain⟨hs,hr⟩:=Gr.mp hs;unfold cP;rw[<-e2];exact h2 s hs (of_decide_eq_true hr)
theorem sY{l:List P2}{ss:List (P2×P2)}{x y:Int}:hiL (cR l ss y)<=x↔loX l<=x/\∀s∈ss,s.2.2-s.1.2<0->wL y s<=x:=by
 have ok:=cY (l:=cR l ss y) (by unfold cR;simp)
 constructor
 ·intro h;refine⟨MZ (ok.2 _ (by unfold cR;simp)) h,λs hs hr=>MZ (ok.2 _ ?_) h⟩
  unfold cR;exact ET _ (F6 (Gr.mpr ⟨hs,decide_eq_true hr⟩))
 ·rintro ⟨h1,h2⟩;have m:=ok.1;unfold cR at m;rcases E1.mp m with e |e
  ·unfold cR;rw[e];exact h1
  ·obtain⟨s,hs,e2⟩:=EZ.mp e;obtain⟨hs,hr⟩:=Gr.mp hs;unfold cR;rw[<-e2];exact h2 s hs (of_decide_eq_true hr)
theorem xE{l:List P2}(QF:l≠[]):∃q∈l,q.2=loY l:=by
 obtain⟨q,hq,e⟩:=EZ.mp (cM (l:=l.map (·.2)) (by simpa using QF)).1
 exact⟨q,hq,e⟩
theorem x5{l:List P2}(QF:l≠[]):∃q∈l,q.2=hiY l:=by
 obtain⟨q,hq,e⟩:=EZ.mp (cY (l:=l.map (·.2)) (by simpa using QF)).1
 exact⟨q,hq,e⟩
theorem xl{l:List P2}(F:Fld l)(h3:3<=l.length){x y:Int}(y0:loY l<=y)(y1:y<=hiY l):c9 l (x,y)=true↔fL l y<=x/\x<=lG l y:=by
 have hc:=F.cr;have c3:3<=(ao l).length:=by rw[hc];exact h3
 unfold fL lG;rw[tX,sY];constructor
 ·intro h;have d:=(f6 h3 _).mp h;have b:=(fe F.ne).mp (F.in_box h);exact⟨⟨b.1.1,λs hs hr=>(tN hr).mp (d s hs)⟩,b.1.2,λs hs hr=>(t9 hr).mp (d s hs)⟩
 ·rintro ⟨⟨_,hb⟩,_,he⟩;refine (f6 h3 _).mpr λs hs=>?_
  rcases Gm 0 (s.2.2-s.1.2) with z |z
  ·exact (t9 z).mpr (he s hs z)
  ·rcases Gm (s.2.2-s.1.2) 0 with w |w
   ·exact (tN w).mpr (hb s hs w)
   ·have e0:s.2.2-s.1.2=0:=by lia
    have cov:∀q∈l,0<=(s.2.1-s.1.1) *(q.2-s.1.2):=λq hq=>by
     have k:=cj c3 (by rw[hc];exact hs) q hq
     have:=jD s q.1 q.2;rw[e0,Ih,MY]at this;rw[<-show kN s q.2=(s.2.1-s.1.1) *(q.2-s.1.2) from rfl,<-this]
     exact k
    rw[jD,e0,Ih,MY];show 0<=(s.2.1-s.1.1) *(y-s.1.2);rcases Gm 0 (s.2.1-s.1.1) with u |u
    ·obtain⟨q,hq,eq⟩:=xE F.ne;have k:=HU (cov q hq) u;exact Fc (by lia) (by lia)
    ·rcases Gm (s.2.1-s.1.1) 0 with v |v
     ·obtain⟨q,hq,eq⟩:=x5 F.ne;have c:=cov q hq;have e2:(s.2.1-s.1.1) *(q.2-s.1.2)=(-(s.2.1-s.1.1)) *(s.1.2-q.2):=by grind
      rw[e2]at c;have k:=HU c (by lia)
      have e3:(s.2.1-s.1.1) *(y-s.1.2)=(-(s.2.1-s.1.1)) *(s.1.2-y):=by grind
      rw[e3];exact Fc (by lia) (by lia)
     ·rw[show s.2.1-s.1.1=0 by lia,Ih];exact Mb _
theorem nT{a b:P2}:ST.leP a b=true↔a.1<b.1\/(a.1=b.1/\a.2<=b.2):=by unfold ST.leP;exact decide_eq_true_iff
theorem wT{A B:P2}(lt:ST.ltP A B=true)(h:A.2=B.2){x y:Int}(hy:y=A.2):c9 [A,B] (x,y)=true↔fL [A,B] y<=x/\x<=lG [A,B] y:=by
 obtain⟨b1,b2,_,_⟩:=w8 lt;unfold fL lG;rw[tX,sY,qW,AD,b1,b2];have hl:=C7 lt;constructor
 ·rintro ⟨_,h1,h2⟩;rw[nT]at h1 h2;dsimp only at h1 h2;refine⟨⟨by lia,λs hs hr=>?_⟩,by lia,λs hs hr=>?_⟩
  ·simp at hs;rcases hs with rfl |rfl <;>dsimp only at hr <;>lia
  ·simp at hs;rcases hs with rfl |rfl <;>dsimp only at hr <;>lia
 ·rintro ⟨⟨h1,_⟩,h2,_⟩;rw[nT,nT];dsimp only;refine⟨?_,by lia,by lia⟩
  unfold ae;rw[hy,<-h];grind
def kO(l:List P2)(y:Int):List P2:=(iE (fL l y) (lG l y+1-fL l y).toNat).map λx=>(x,y)
def dQ(l:List P2)(n:Nat):List P2:=((F_ n).map λy:Nat=>kO l (0+(y:Int))).flatten
theorem eS{l:List P2}{y:Int}{p:P2}:p∈kO l y↔p.2=y/\fL l y<=p.1/\p.1<=lG l y:=by
 unfold kO;rw[EZ];constructor
 ·rintro ⟨x,hx,rfl⟩;have:=eX.mp hx;exact⟨rfl,by lia,by lia⟩
 ·rintro ⟨e,h1,h2⟩;exact⟨p.1,eX.mpr ⟨h1,by lia⟩,by rw[<-e]⟩
theorem dE{l:List P2}{n:Nat}{p:P2}:p∈dQ l n↔(0<=p.2/\p.2<n)/\fL l p.2<=p.1/\p.1<=lG l p.2:=by
 unfold dQ;rw[Mo];constructor
 ·rintro ⟨r,hr,hp⟩;obtain⟨y,hy,rfl⟩:=EZ.mp hr;have:=Fu.mp hy;obtain⟨e,h1,h2⟩:=eS.mp hp;rw[<-e]at h1 h2;exact⟨by lia,h1,h2⟩
 ·rintro ⟨h0,h1,h2⟩;exact⟨_,EZ.mpr ⟨p.2.toNat,Fu.mpr (by lia),rfl⟩,eS.mpr ⟨by lia,by rw[show 0+(p.2.toNat:Int)=p.2 by lia];exact⟨h1,h2⟩⟩⟩
theorem tQ(l:List P2)(y:Int):(kO l y).Nodup:=Hs _ (λa b h e=>h (congrArg JO e)) (nA _ _)
theorem kX(l:List P2)(n:Nat):dQ l (n+1)=dQ l n++kO l (0+(n:Int)):=by
 unfold dQ;rw[MW,F4,Nn];simp
theorem ke(l:List P2):∀n,(dQ l n).Nodup
 |0=>by unfold dQ;simp
 |n+1=>by
  rw[kX];refine G8.mpr ⟨ke l n,tQ l _,λa ha b hb e=>?_⟩
  have h1:=dE.mp ha;have h2:=(eS.mp hb).1;rw[<-e]at h2;lia
structure Lev(l:List P2):Prop where
 F:Fld l
 y0:loY l=0
 two:l.length=2->hiY l=0
 ne1:2<=l.length
theorem jZ{l:List P2}(L:Lev l)(p:P2):p∈dQ l (hiY l+1).toNat↔c9 l p=true:=by
 obtain⟨q,hq,eq⟩:=xE L.F.ne
 have hh:0<=hiY l:=by
  have:=(cY (l:=l.map (·.2)) (by simpa using L.F.ne)).2 q.2 (F6 hq)
  have e:=L.y0;unfold hiY;lia
 rw[dE]
 have key:0<=p.2->p.2<=hiY l->(c9 l (p.1,p.2)=true↔fL l p.2<=p.1/\p.1<=lG l p.2):=λh0 h1=>by
  rcases L.F.cases with ⟨A,rfl⟩ |⟨A,B,e,lt⟩ |h3
  ·have:=L.ne1;simp at this
  ·subst e;obtain⟨_,_,b3,b4⟩:=w8 lt;have t:=L.two rfl;have y0:=L.y0;exact wT lt (by lia) (by lia)
  ·exact xl L.F (by rw[<-L.F.cr];exact h3) (by rw[L.y0];exact h0) h1
 constructor
 ·rintro ⟨h0,h1⟩;exact (key h0.1 (by lia)).mpr h1
 ·intro h;have b:=(fe L.F.ne).mp (L.F.in_box h);rw[L.y0]at b;exact⟨by lia,(key b.2.1 b.2.2).mp h⟩
structure LvP(a b:P2)(g u v s t:Int):Prop where
 gp:0<g
 hu:g*u=b.1-a.1
 hv:g*v=b.2-a.2
 st:s*u+t*v=1
abbrev lvF(a:P2)(u v s t:Int):P2->P2:=ap s t (-v) u (-s*a.1-t*a.2) (v*a.1-u*a.2)
abbrev bkF(a:P2)(u v s t:Int):P2->P2:=ap u (-t) v s a.1 a.2
theorem tD{a b:P2}{g u v s t:Int}(L:LvP a b g u v s t)(p:P2):bkF a u v s t (lvF a u v s t p)=p/\lvF a u v s t (bkF a u v s t p)=p:=by
 have h:=L.st;unfold bkF lvF ap;refine⟨Gf ?_ ?_,Gf ?_ ?_⟩ <;>dsimp only
 ·have:u*(s*p.1+t*p.2+(-s*a.1-t*a.2))+-t*(-v*p.1+u*p.2+(v*a.1-u*a.2))+a.1=(s*u+t*v) *p.1-(s*u+t*v) *a.1+a.1:=by grind
  rw[this,h];lia
 ·have:v*(s*p.1+t*p.2+(-s*a.1-t*a.2))+s*(-v*p.1+u*p.2+(v*a.1-u*a.2))+a.2=(s*u+t*v) *p.2-(s*u+t*v) *a.2+a.2:=by grind
  rw[this,h];lia
 ·have:s*(u*p.1+-t*p.2+a.1)+t*(v*p.1+s*p.2+a.2)+(-s*a.1-t*a.2)=(s*u+t*v) *p.1:=by grind
  rw[this,h];lia
 ·have:-v*(u*p.1+-t*p.2+a.1)+u*(v*p.1+s*p.2+a.2)+(v*a.1-u*a.2)=(s*u+t*v) *p.2:=by grind
  rw[this,h];lia
theorem BM{a b:P2}{g u v s t:Int}(L:LvP a b g u v s t)(q:P2):g*(lvF a u v s t q).2=ae a b q:=by
 unfold lvF ap ae;dsimp only;rw[<-L.hu,<-L.hv];grind
theorem v7{l:List P2}(F:Fld l)(h2:2<=l.length){g u v s t:Int}(L:LvP (gp l 0) (gp l 1) g u v s t):Lev (ao (l.map (lvF (gp l 0) u v s t))):=by
 have hd:s*u-t* -v=1:=by have:=L.st;grind
 have F':=Cl (a:=s) (b:=t) (c:=-v) (d:=u) (-s*(gp l 0).1-t*(gp l 0).2) (v*(gp l 0).1-u*(gp l 0).2) F;have hg:=L.gp;have im0:lvF (gp l 0) u v s t (gp l 0)=(0,0):=by unfold lvF ap;refine Gf ?_ ?_ <;>dsimp only <;>grind
 have up:∀q∈l,0<=(lvF (gp l 0) u v s t q).2:=λq hq=>by
  have e:=BM L q
  have k:0<=ae (gp l 0) (gp l 1) q:=by
   rcases F.cases with ⟨A,rfl⟩ |⟨A,B,rfl,lt⟩ |h3
   ·simp at h2
   ·simp at hq;rcases hq with rfl |rfl
    ·show 0<=ae q B q;unfold ae;grind
    ·show 0<=ae A q q;unfold ae;grind
   ·have c3:3<=l.length:=by rw[<-F.cr];exact h3
    have hs:=ug (l:=l) (i:=0) (by lia)
    rw[show (0+1)%l.length=1 from F8 (by lia)]at hs
    exact cj h3 (by rw[F.cr];exact hs) q hq
  rw[<-e]at k;exact HU k hg
 have g0:gp l 0∈l:=hV (by lia)
 have yb:∀q∈ao (l.map (lvF (gp l 0) u v s t)),0<=q.2:=λq hq=>by
  obtain⟨p,hp,rfl⟩:=EZ.mp (be _ q hq);exact up p hp
 have TC:3<=l.length->3<=(ao (l.map (lvF (gp l 0) u v s t))).length:=λh3=>by
  unfold lvF;rw[dN,d6,ES];exact dI (jO (.inl hd)) (by rw[F.cr];exact h3)
 have two:∀A B,l=[A,B]->ST.ltP A B=true->ao (l.map (lvF (gp l 0) u v s t))=[(0,0),(g,0)]:=λA B e lt=>by
  subst e
  have im1:lvF A u v s t B=(g,0):=by
   have k1:=L.hu;have k2:=L.hv;have k3:=L.st;have k1':g*u=B.1-A.1:=k1;have k2':g*v=B.2-A.2:=k2;unfold lvF ap;refine Gf ?_ ?_ <;>dsimp only
   ·have:s*B.1+t*B.2+(-s*A.1-t*A.2)=s*(B.1-A.1)+t*(B.2-A.2):=by grind
    rw[this,<-k1',<-k2'];have:s*(g*u)+t*(g*v)=g*(s*u+t*v):=by grind
    rw[this,k3,K9]
   ·have:-v*B.1+u*B.2+(v*A.1-u*A.2)=u*(B.2-A.2)-v*(B.1-A.1):=by grind
    rw[this,<-k1',<-k2'];grind
  have im0':lvF A u v s t A=(0,0):=im0;show ao [lvF A u v s t A,lvF A u v s t B]=_;rw[im0',im1];rcases hJ (A:=(0,0)) (B:=(g,0)) (λe=>by have:=congrArg JO e;dsimp only at this;lia) with ⟨_,e⟩ |⟨z,_⟩
  ·exact e
  ·have:=C7 z;dsimp only at this;lia
 refine⟨F',?_,λe=>?_,?_⟩
 ·obtain⟨c,hc,k⟩:=pj 0 (-1) (F6 (f:=lvF (gp l 0) u v s t) g0);rw[im0]at k;unfold wth at k;dsimp only at k;have c0:=yb c hc;have ok:=cM (l:=(ao (l.map (lvF (gp l 0) u v s t))).map (·.2)) (by simpa using F'.ne)
  have le:=ok.2 c.2 (F6 (f:=λp:P2=>p.2) hc)
  obtain⟨d,RK,ed⟩:=EZ.mp ok.1;have:=yb d RK;unfold loY;lia
 ·rcases F.cases with ⟨A,rfl⟩ |⟨A,B,e2,lt⟩ |h3
  ·simp at h2
  ·rw[two A B e2 lt];rfl
  ·have:=TC (by rw[<-F.cr];exact h3);lia
 ·rcases F.cases with ⟨A,rfl⟩ |⟨A,B,e2,lt⟩ |h3
  ·simp at h2
  ·rw[two A B e2 lt];exact E2 _
  ·have:=TC (by rw[<-F.cr];exact h3);lia
def xC(l:List P2)(u v s t:Int):List P2:=(dQ (ao (l.map (lvF (gp l 0) u v s t))) (hiY (ao (l.map (lvF (gp l 0) u v s t)))+1).toNat).map (bkF (gp l 0) u v s t)
theorem tf{l:List P2}(F:Fld l)(h2:2<=l.length){g u v s t:Int}(L:LvP (gp l 0) (gp l 1) g u v s t)(p:P2):p∈xC l u v s t↔c9 l p=true:=by
 have hd:s*u-t* -v=1:=by have:=L.st;grind
 have iw:=λq=>Bx (a:=s) (b:=t) (c:=-v) (d:=u) (-s*(gp l 0).1-t*(gp l 0).2) (v*(gp l 0).1-u*(gp l 0).2) (.inl hd) F q
 have V:=v7 F h2 L;unfold xC;rw[EZ];constructor
 ·rintro ⟨q,hq,rfl⟩;have k:=(jZ V q).mp hq;rw[<-(tD L q).2]at k;rw[<-iw];exact k
 ·intro h;exact⟨lvF (gp l 0) u v s t p,(jZ V _).mpr (by rw[iw];exact h),(tD L p).1⟩
theorem xM{l:List P2}{g u v s t:Int}(L:LvP (gp l 0) (gp l 1) g u v s t):(xC l u v s t).Nodup:=
 Hs _ (λa b h e=>h (by rw[<-(tD L a).2,<-(tD L b).2,e])) (ke _ _)
def bI(l:List P2):List P2:=ST.srt ((box l).filter λp=>c9 l p)
theorem dg{l:List P2}(F:Fld l)(p:P2):p∈bI l↔c9 l p=true:=by
 unfold bI;rw[ST.srt_mem,Gr];exact⟨λh=>h.2,λh=>⟨F.in_box h,h⟩⟩
theorem tP{l R:List P2}(F:Fld l)(h:∀p,p∈R↔c9 l p=true):ST.srt R=bI l:=by
 unfold bI;refine iV λp=>?_
 rw[h,Gr];exact⟨λk=>⟨F.in_box k,k⟩,λk=>k.2⟩
def xD:List U->Out->Prop:=λus o=>∃l:List P2,us=[lp l]/\0<l.length/\l.length<=900/\(∀p∈l,Szp 2500 p)/\o=.val (.int (mW l))
theorem wO(T:Txt w K mg):ba P w K mg base (CXF P w) 4 T.abp.a T.abp.d ["land"] (spU K (xD)):=by
 refine bo T.abp.F qA (λus o h=>?_) (λQK A outer s H E O us o hr h=>?_)
 ·obtain⟨l,rfl,h0,hl,sz,rfl⟩:=h;rfl
 obtain⟨l,rfl,h0,hl,sz,rfl⟩:=h;refine Ws.nox ?_;have hm:((l.map pu).length:Int)=(l.length:Int):=by rw[ES]
 unfold mW;by_cases h3:l.length<3
 ·rw[if_pos h3];refine af (gs (aR jv (aG (dS rfl) rfl T.aaH GA (ai (aa 0 rfl) au aj)) ag) (by rw[hm];exact decide_eq_true (by lia)) ?_)
  have z0:=sz _ (hV h0);have z1:=sz _ (hV (l:=l) (i:=l.length-1) (by lia))
  obtain⟨cs,ct,G⟩:=j8 ((gp l (l.length-1)).1-(gp l 0).1) ((gp l (l.length-1)).2-(gp l 0).2);refine af (bp (bH (aA ((kM T).mono (by decide)) hr rfl T.aaD.m T.aaD.F.kp T.aaD.b ay (ai (aJ (aa 0 rfl) ag rfl (Eb h0)) (ai (aJ (aa 0 rfl) (bZ ag) rfl (At h0)) au bM) bM) ⟨_,_,_,_,_,cs,ct,rfl,⟨z0.1.mono (by decide),z0.2.mono (by decide),z1.1.mono (by decide),z1.2.mono (by decide)⟩,G,rfl⟩) ag) ?_)
  exact rfl
 ·rw[if_neg h3];refine af (cE (aR jv (aG (dS rfl) rfl T.aaH GA (ai (aa 0 rfl) au aj)) ag) (by rw[hm];exact decide_eq_false (by lia)) (aI ?_))
  refine af (bp (aG (yQ rfl ) rfl T.abG boot_sum (ai (EvN.ev (e_ (ys:=(((sdl l).map gst).map U.int)) rfl (blk (aq wj) ["land","A","B"] [1,2] rfl rfl rfl rfl (by decide+kernel)) (dq (EvN.ev (ci ((jS T).mono (by decide)) hr rfl T.aaF.m T.aaF.F.kp T.aaF.b ay (ai (aa 0 rfl) au aj) ⟨l,rfl,hl,rfl⟩)) (.inl rfl)) (λ_ _ _ _=>qR rfl (bW (bv (i:=1) qA.nd rfl (Or.inl rfl)) (bW (bv (i:=2) qA.nd rfl (Or.inl rfl)) gB))) (tj (js:=[1,2]) (by decide)) ?clen ?csz ?dom ?celt)) au eE)) ?_)
  case clen=>simp
  case csz=>simp only[oj,ES];exact Gw (aL (by lia))
  case dom=>
   intro x hx;obtain⟨s,_,rfl⟩:=EZ.mp hx;exact⟨_,rfl,rfl⟩
  case celt=>
   intro C s' H' fp j x y hx hy;rw[FP]at hy;obtain⟨s,hs,ms,rfl,rfl⟩:=fH hx hy;obtain⟨m1,m2⟩:=ce ms;obtain⟨cs,ct,G⟩:=j8 (s.2.1-s.1.1) (s.2.2-s.1.2);exact (aA ((kM T).mono (by decide)) hr rfl T.aaD.m T.aaD.F.kp T.aaD.b ay (ai (aa 1 rfl) (ai (aa 2 rfl) au aj) aj) ⟨_,_,_,_,_,cs,ct,rfl,⟨(sz _ m1).1.mono (by decide),(sz _ m1).2.mono (by decide),(sz _ m2).1.mono (by decide),(sz _ m2).2.mono (by decide)⟩,G,rfl⟩)
  exact rfl
theorem yk{m n:Nat}{k:Int}{p:P2}(sk:Sz n k)(s:Szp m p):Szp (n+m) (scl k p):=⟨L2.Sz.mul sk s.1,L2.Sz.mul sk s.2⟩
def vn:List U->Out->Prop:=λus o=>∃(pts:List P2) (k:Int),us=[lp pts,.int k]/\Sz 1000 k/\(∀p∈pts,Szp 3000 p)/\pts≠[]/\pts.length<64/\o=.new ((ao (pts.map (scl k))).map pu)
theorem AU(T:Txt w K mg):ba P w K mg base (CXF P w) 5 T.abm.a T.abm.d ["land","k"] (spU K (vn)):=by
 refine bo T.abm.F sW (λus o h=>?_) (λQK A outer s H E O us o hr h=>?_)
 ·obtain⟨pts,k,rfl,sk,sz,QF,hl,rfl⟩:=h;rfl
 obtain⟨pts,k,rfl,sk,sz,QF,hl,rfl⟩:=h;refine Ws.nox ?_;refine af (fq (ci ((kU T).mono (by decide)) hr rfl T.aaE.m T.aaE.F.kp T.aaE.b ay (ai (EvN.ev (e_ (ys:=(pts.map λp=>pu (scl k p))) rfl (blk (aq qX) ["land","k","P"] [2] rfl rfl rfl rfl (by decide+kernel)) (dq (aa 0 rfl) (.inl rfl)) (λ_ _ _ _=>bv (i:=2) sW.nd rfl (Or.inl rfl)) (d8 (by decide)) ?clen ?csz (λ_ _=>trivial) ?celt)) au eE) ⟨pts.map (scl k),by rw[lp,FP];rfl,λp hp=>by obtain⟨q,hq,rfl⟩:=EZ.mp hp;have z:=yk sk (sz q hq);exact⟨z.1.mono (by decide),z.2.mono (by decide)⟩,by rw[ES];exact hl,by simpa using QF,rfl⟩) ?_)
 case clen=>simp
 case csz=>rw[ES];exact Gw (aL (by lia))
 case celt=>
  intro C s' H' fp j x y hx hy;obtain⟨p,hp,mp,rfl,rfl⟩:=fH hx hy;have s1:=(sz p mp).1;have s2:=(sz p mp).2;exact (bq (ak (bn (aa 1 rfl) (aJ (aa 2 rfl) ag rfl rfl) (by walk_at"mul")) (ak (bn (aa 1 rfl) (aJ (aa 2 rfl) ag rfl rfl) (by walk_at"mul")) aF bN) bN))
 exact rfl
def v4(C:E6):List U->Out->Prop:=λus o=>∃(pts:List P2) (k:Int),us=[lp pts,.int k]/\Sz 1000 k/\(∀p∈pts,Szp 3000 p)/\pts≠[]/\pts.length<64/\o=(if k<0 then .exc C else .new ((ao (pts.map (scl k))).map pu))
theorem gf(T:Txt w K mg):ba P w K mg base (CXF P w) 6 T.aah.a T.aah.d ["land","k"] (spU K (v4 T.aad.c)):=by
 refine bo T.aah.F qr (by rintro us o ⟨_,_,rfl,_⟩;rfl) (λQK A outer s H E O us o hr h=>?_)
 obtain⟨pts,k,rfl,sk,sz,QF,hl,rfl⟩:=h;by_cases hk:k<0
 ·rw[if_pos hk];refine af (gs (aR jv (aa 1 rfl) ag) (decide_eq_true hk) ?_);refine af (tT T.abx rfl T.aad.m Bh ?_);exact rfl
 ·rw[if_neg hk];refine Ws.nox ?_;refine af (cE (aR jv (aa 1 rfl) ag) (decide_eq_false hk) (aI ?_));refine af (fq (ci ((AU T).mono (by decide)) hr rfl T.abm.m T.abm.F.kp T.abm.b ay (ai (aa 0 rfl) (ai (aa 1 rfl) au aj) aj) ⟨pts,k,rfl,sk,sz,QF,hl,rfl⟩) ?_)
  exact rfl
def zj:List U->Out->Prop:=λus o=>∃l:List P2,us=[lp l]/\l.length<=900/\(∀p∈l,Szp 2500 p)/\o=.val (.int (pin l))
theorem ij(T:Txt w K mg):ba P w K mg base (CXF P w) 5 T.aam.a T.aam.d ["land"] (spU K (zj)):=by
 refine bo T.aam.F og (λus o h=>?_) (λQK A outer s H E O us o hr h=>?_)
 ·obtain⟨l,rfl,hl,sz,rfl⟩:=h;rfl
 obtain⟨l,rfl,hl,sz,rfl⟩:=h;refine Ws.nox ?_;have hm:((l.map pu).length:Int)=(l.length:Int):=by rw[ES]
 by_cases h3:l.length<3
 ·refine af (gs (aR jv (aG (dS rfl) rfl T.aaH GA (ai (aa 0 rfl) au aj)) ag) (by rw[hm];exact decide_eq_true (by lia)) ?_)
  refine af (bp ag ?_);exact vIO (by unfold pin;rw[if_pos h3])
 ·refine af (cE (aR jv (aG (dS rfl) rfl T.aaH GA (ai (aa 0 rfl) au aj)) ag) (by rw[hm];exact decide_eq_false (by lia)) (aI ?_))
  have er:mW l=g5 l:=by unfold mW;rw[if_neg h3]
  refine af (bp (cT (bH (bL (aA ((jV T).mono (by decide)) hr rfl T.aaq.m T.aaq.F.kp T.aaq.b ay (ai (aa 0 rfl) au aj) ⟨l,rfl,hl,sz,rfl⟩) (aA ((wO T).mono (by decide)) hr rfl T.abp.m T.abp.F.kp T.abp.b ay (ai (aa 0 rfl) au aj) ⟨l,rfl,by lia,hl,sz,rfl⟩)) ag) ag (by walk_at"div")) ?_)
  exact vIO (by unfold pin;rw[if_neg h3,er])
theorem xS{pts:List P2}{k:Int}(sk:Sz 1000 k)(sz:∀p∈pts,Szp 1500 p):∀p∈ao (pts.map (scl k)),Szp 2500 p:=λp hp=>by
 obtain⟨q,hq,rfl⟩:=EZ.mp (be _ p hp);exact yk sk (sz q hq)
def sE(C:E6):List U->Out->Prop:=λus o=>∃(pts:List P2) (k:Int),us=[lp pts,.int k]/\k<0/\Sz 1000 k/\(∀p∈pts,Szp 1500 p)/\pts≠[]/\pts.length<64/\o=.exc C
theorem jP(T:Txt w K mg):ba P w K mg base (CXF P w) 7 T.aas.a T.aas.d ["land","k"] (spU K (sE T.aad.c)):=by
 refine xg T.aas.F kq (by rintro us o ⟨_,_,rfl,_⟩;rfl) (λQK A outer s H E O us o hr h=>?_)
 obtain⟨pts,k,rfl,k0,sk,sz,QF,hl,rfl⟩:=h;refine af (BO (C:=T.aad.c) (Dr ((ij T).mono (by decide)) hr rfl T.aam.m T.aam.F.kp T.aam.b ay (qL ((gf T).mono (by decide)) hr rfl T.aah.m T.aah.F.kp T.aah.b oC (ai (aa 0 rfl) (ai (aa 1 rfl) au aj) aj) ⟨pts,k,rfl,sk,mY (by decide) sz,QF,hl,by rw[if_pos k0]⟩) aB) ?_)
 exact rfl
def ki(C:E6):List U->Out->Prop:=λus o=>∃(pts:List P2) (k:Int),us=[lp pts,.int k]/\Sz 1000 k/\(∀p∈pts,Szp 1500 p)/\pts≠[]/\pts.length<64/\o=(if k<0 then .exc C else .val (.int (fG (ao (pts.map (scl k))))))
theorem kz(T:Txt w K mg):ba P w K mg base (CXF P w) 7 T.aaG.a T.aaG.d ["land","k"] (spU K (ki T.aad.c)):=by
 refine xg T.aaG.F kH (by rintro us o ⟨_,_,rfl,_⟩;rfl) (λQK A outer s H E O us o hr h=>?_)
 obtain⟨pts,k,rfl,sk,sz,QF,hl,rfl⟩:=h;by_cases hk:k<0
 ·rw[if_pos hk];refine af (zo (i:=2) kH.nd rfl (Or.inl rfl) (qL ((gf T).mono (by decide)) hr rfl T.aah.m T.aah.F.kp T.aah.b oC (ai (aa 0 rfl) (ai (aa 1 rfl) au aj) aj) ⟨pts,k,rfl,sk,mY (by decide) sz,QF,hl,by rw[if_pos hk]⟩) ?_)
  exact rfl
 ·rw[if_neg hk];refine Ws.nox ?_;have cl:(ao (pts.map (scl k))).length<=900:=GY (ig _) (by rw[ES];lia)
  have cn:0<(ao (pts.map (scl k))).length:=HH.mpr (oD (by simpa using QF))
  refine af (aw (i:=2) kH.nd rfl (Or.inl rfl) (EvN.ev (ci ((gf T).mono (by decide)) hr rfl T.aah.m T.aah.F.kp T.aah.b ay (ai (aa 0 rfl) (ai (aa 1 rfl) au aj) aj) ⟨pts,k,rfl,sk,mY (by decide) sz,QF,hl,by rw[if_neg hk]⟩)) ?_)
  refine af (bp (bH (aA ((ij T).mono (by decide)) hr rfl T.aam.m T.aam.F.kp T.aam.b ay (ai (aa 2 rfl) au aj) ⟨_,rfl,cl,xS sk sz,rfl⟩) (aA ((wO T).mono (by decide)) hr rfl T.abp.m T.abp.F.kp T.abp.b ay (ai (aa 2 rfl) au aj) ⟨_,rfl,cn,cl,xS sk sz,rfl⟩)) ?_)
  exact rfl
theorem qD(l:List P2)(L:List (P2×P2))(s:P2×P2)(y:Int):cP l (L++[s]) y=cP l L y++(if 0<s.2.2-s.1.2 then [xx y s] else []):=by
 unfold cP;rw[NL,F4];by_cases h:0<s.2.2-s.1.2
 ·rw[if_pos h,Mc (by simpa using h)];rfl
 ·rw[if_neg h,Md (by simpa using h)];rfl
theorem qQ(l:List P2)(L:List (P2×P2))(s:P2×P2)(y:Int):cR l (L++[s]) y=cR l L y++(if s.2.2-s.1.2<0 then [wL y s] else []):=by
 unfold cR;rw[NL,F4];by_cases h:s.2.2-s.1.2<0
 ·rw[if_pos h,Mc (by simpa using h)];rfl
 ·rw[if_neg h,Md (by simpa using h)];rfl
theorem zh(l:List P2)(y:Int)(L:List (P2×P2)):(cP l L y).length<=L.length+1/\(cR l L y).length<=L.length+1:=by
 unfold cP cR;simp only[FN,ES];exact⟨Oj (M0 _ _),Oj (M0 _ _)⟩
def rN:List U->Out->Prop:=λus o=>∃(l:List P2) (y:Int),us=[lp l,.int y]/\l≠[]/\l.length<=900/\(∀q∈l,Szp 1000 q)/\Sz 1001 y/\o=.val (.tup [.int (fL l y),.int (lG l y)])
theorem qo(T:Txt w K mg):ba P w K mg base (CXF P w) 2 T.aaQ.a T.aaQ.d ["land","y"] (spU K (rN)):=by
 refine bo T.aaQ.F cg (λus o h=>?_) (λQK A outer s H E O us o hr h=>?_)
 ·obtain⟨l,y,rfl,QF,hl,sz,sy,rfl⟩:=h;rfl
 obtain⟨l,y,rfl,QF,hl,sz,sy,rfl⟩:=h;refine Ws.nox ?_;obtain⟨mn,mx,_,m1,m2,q1,q2,_⟩:=vG QF;have hx:l.map (·.1)≠[]:=by simpa using QF
 have e1:mn.1=loX l:=by
  have ok:=cM hx;obtain⟨q,hq,e⟩:=EZ.mp ok.1;have a:=ok.2 mn.1 (F6 (f:=λp:P2=>p.1) m1)
  have b:=q1 q hq;rw[ST.ltP_no]at b;unfold loX;lia
 have e2:mx.1=hiX l:=by
  have ok:=cY hx;obtain⟨q,hq,e⟩:=EZ.mp ok.1;have a:=ok.2 mx.1 (F6 (f:=λp:P2=>p.1) m2)
  have b:=q2 q hq;rw[ST.ltP_no]at b;unfold hiX;lia
 refine af (iR (i:=2) cg.nd rfl (Or.inl rfl) (bg (ak (aJ (aG (BH rfl (gu hr) m1 q1) rfl T.abF boot_min (ai (aa 0 rfl) au aj)) ag rfl rfl) aF bM)) ?_);refine af (iR (i:=3) cg.nd rfl (Or.inl rfl) (bg (ak (aJ (aG (CV rfl (gu hr) m2 q2) rfl T.abC boot_max (ai (aa 0 rfl) au aj)) ag rfl rfl) aF bM)) ?_);rw[e1,e2];refine af (gl (λi:Nat=>[some (.val (lp l)),some (.val (.int y)),some (.own ((cR l ((sdl l).take i) y).map U.int)),some (.own ((cP l ((sdl l).take i) y).map U.int)),none,none,none,none]) (λi j=>i=j) rfl PassesOwn.never (dq (EvN.ev (ci ((jS T).mono (by decide)) hr rfl T.aaF.m T.aaF.F.kp T.aaF.b ay (ai (aa 0 rfl) au aj) ⟨l,rfl,hl,rfl⟩)) (.inl rfl)) ?h0 ?hs ?hd)
 case h0=>exact⟨0,rfl,rfl,rfl,rfl,rfl,trivial⟩
 case hs=>
  rintro H0 i x _ RX rfl
  have hq:∃s,(sdl l)[i]?=some s/\x=pq s:=by
   rw[E7]at RX;cases e:(sdl l)[i]? with
   |none=>rw[e]at RX;cases RX
   |some s=>rw[e]at RX;cases RX;exact⟨s,rfl,rfl⟩
  obtain⟨s,hs,rfl⟩:=hq;obtain⟨n1,n2⟩:=ce (Fs hs);have hi:i<(sdl l).length:=aH hs;rw[oj]at hi;have z1:=(sz _ n1).1;have z2:=(sz _ n1).2;have z3:=(sz _ n2).1;have z4:=(sz _ n2).2;have tk:(sdl l).take (i+1)=(sdl l).take i++[s]:=by rw[JG,hs];rfl
  have bE:=qD l ((sdl l).take i) s y;have bB:=qQ l ((sdl l).take i) s y;rw[<-tk]at bE bB;obtain⟨r1,r2⟩:=zh l y ((sdl l).take i);have r0:((sdl l).take i).length<=i:=by simp;lia
  refine⟨_,(sZ [4,5] rfl (bW (bv (i:=4) cg.nd rfl (Or.inl rfl)) (bW (bv (i:=5) cg.nd rfl (Or.inl rfl)) gB)) rfl),?_⟩;refine af (aw (i:=6) cg.nd rfl (Or.inl rfl) (bL (aJ (aa 5 rfl) ag rfl rfl) (aJ (aa 4 rfl) ag rfl rfl)) ?_);refine af (aw (i:=7) cg.nd rfl (Or.inl rfl) (bn (bL (aJ (aa 5 rfl) ag rfl rfl) (aJ (aa 4 rfl) ag rfl rfl)) (bL (aa 1 rfl) (aJ (aa 4 rfl) ag rfl rfl)) (by walk_at"mul")) ?_)
  rw[show (s.2.1-s.1.1) *(y-s.1.2)=kN s y from rfl]
  have rz:Sz 1001 (s.2.2-s.1.2):=(L2.Sz.sub' z4 z2).mono (by decide)
  have rn:Sz 1001 (-(s.2.2-s.1.2)):=rz.natle (by lia)
  show Ws _ _ _ _ _ _ [some (.val (lp l)),some (.val (.int y)),some (.own ((cR l ((sdl l).take i) y).map U.int)),some (.own ((cP l ((sdl l).take i) y).map U.int)),some (.val (pu s.1)),some (.val (pu s.2)),some (.val (.int (s.2.2-s.1.2))),some (.val (.int (kN s y)))];by_cases p:0<s.2.2-s.1.2
  ·rw[if_pos p]at bE;rw[if_neg (by lia),GL]at bB
   refine af (gs (aR gI (aa 6 rfl) ag) (decide_eq_true p) ?_);refine af (c_ 3 rfl (bH (aJ (aa 4 rfl) ag rfl rfl) (cT (aa 7 rfl) (aa 6 rfl) ⟨p,rz.mono (by decide)⟩)) (by rw[ES];exact aL (by lia)) (aI ?_))
   refine af (cE (aR jv (aa 6 rfl) ag) (decide_eq_false (by lia)) (aI (aI ?_)))
   refine⟨i+1,rfl,rfl,rfl,?_,?_,trivial⟩
   ·exact congrArg (λl=>some (Sl.own l)) (by rw[bB])
   ·exact congrArg (λl=>some (Sl.own l)) (by rw[bE,F4];rfl)
  ·rw[if_neg p,GL]at bE;refine af (cE (aR gI (aa 6 rfl) ag) (decide_eq_false p) (aI ?_));by_cases n:s.2.2-s.1.2<0
   ·rw[if_pos n]at bB;refine af (gs (aR jv (aa 6 rfl) ag) (decide_eq_true n) ?_);refine af (c_ 2 rfl (bL (aJ (aa 4 rfl) ag rfl rfl) (cT (aa 7 rfl) (bZ (aa 6 rfl)) ⟨by lia,rn.mono (by decide)⟩)) (by rw[ES];exact aL (by lia)) (aI (aI ?_)))
    refine⟨i+1,rfl,rfl,rfl,?_,?_,trivial⟩
    ·exact congrArg (λl=>some (Sl.own l)) (by rw[bB,F4];rfl)
    ·exact congrArg (λl=>some (Sl.own l)) (by rw[bE])
   ·rw[if_neg n,GL]at bB;refine af (cE (aR jv (aa 6 rfl) ag) (decide_eq_false n) (aI (aI ?_)));refine⟨i+1,rfl,rfl,rfl,?_,?_,trivial⟩
    ·exact congrArg (λl=>some (Sl.own l)) (by rw[bB])
    ·exact congrArg (λl=>some (Sl.own l)) (by rw[bE])
 case hd=>
  rintro q ps hq QV;refine dk ?_ QV;have e:q=(sdl l).length:=by rw[<-hq,ES]
  subst e;rw[HX];refine jY 2 rfl (jY 3 rfl ?_);show Ws _ _ _ _ _ _ [some (.val (lp l)),some (.val (.int y)),some (.val (.lst ((cR l (sdl l) y).map U.int))),some (.val (.lst ((cP l (sdl l) y).map U.int))),none,none,none,none];refine af (bp (bq (ak (aG (zd rfl (cY (l:=cR l (sdl l) y) (by unfold cR;simp))) rfl T.abC boot_max (ai (aa 2 rfl) au aj)) (ak (aG (Cw rfl (cM (l:=cP l (sdl l) y) (by unfold cP;simp))) rfl T.abF boot_min (ai (aa 3 rfl) au aj)) aF aB) aB)) ?_)
  exact rfl
theorem DN{a b c d e f a' b' c' d' e' f':Int}(h1:a=a')(h2:b=b')(h3:c=c')(h4:d=d')(h5:e=e')(h6:f=f'):mv a b c d e f=mv a' b' c' d' e' f':=by rw[h1,h2,h3,h4,h5,h6]
theorem CW{a b:P2}(h:a≠b):∃g s1 t1 s t:Int,fE (b.1-a.1) (b.2-a.2) g s1 t1/\g≠0/\fE ((b.1-a.1)/g) ((b.2-a.2)/g) 1 s t/\LvP a b g ((b.1-a.1)/g) ((b.2-a.2)/g) s t:=by
 obtain⟨g,s1,t1,G⟩:=jH (b.1-a.1) (b.2-a.2)
 have gn:g≠0:=λe=>h (by
  obtain⟨h1,h2⟩:=uZ G e;exact Gf h1 h2)
 have gp:0<g:=by have:=G.g0;lia
 obtain⟨g',s,t,G'⟩:=jH ((b.1-a.1)/g) ((b.2-a.2)/g);have:=v6 G gp G';subst this;exact⟨g,s1,t1,s,t,G,gn,G',gp,II G.da,II G.db,G'.eq⟩
theorem zR{a:P2}{u v s t:Int}(h:s*u+t*v=1):CO s t (-v) u (-s*a.1-t*a.2) (v*a.1-u*a.2)=mv u (-t) v s a.1 a.2:=by
 have k:s*u-t* -v=1:=by grind
 unfold CO;rw[k];refine DN (by lia) (by lia) (by lia) (by lia) ?_ ?_
 ·have:-(1*u*(-s*a.1-t*a.2)+-1*t*(v*a.1-u*a.2))=(s*u+t*v) *a.1:=by grind
  rw[this,h,Kx]
 ·have:-(-1* -v*(-s*a.1-t*a.2)+1*s*(v*a.1-u*a.2))=(s*u+t*v) *a.2:=by grind
  rw[this,h,Kx]
theorem Au{l:List P2}(F:Fld l)(h2:2<=l.length):gp l 0≠gp l 1:=λe=>by
 have nd:l.Nodup:=by rw[<-F.cr];exact bh l
 have:l[0]?=l[1]?:=by rw[dw (by lia),dw (by lia),e]
 have:=(JA (by lia) nd).mp this
 lia
theorem AE{l:List P2}{n y:Nat}(h:y<n):(kO l (0+(y:Int))).length<=(dQ l n).length:=dH (tQ _ _) λp hp=>by
 have k:=eS.mp hp;refine dE.mpr ⟨by lia,?_⟩
 rw[k.1];exact k.2
theorem xF{l:List P2}{n y:Nat}(h:y<=n):(dQ l y).length<=(dQ l n).length:=dH (ke _ _) λp hp=>by
 have k:=dE.mp hp;exact dE.mpr ⟨by lia,k.2⟩
def qa:List U->Out->Prop:=λus o=>∃l:List P2,us=[lp l]/\Fld l/\2<=l.length/\l.length<64/\(∀p∈l,Szp 150 p)/\(bI l).length<=100/\o=.new ((bI l).map pu)
theorem xI{l:List P2}(F:Fld l)(h2:2<=l.length){g u v s t:Int}(L:LvP (gp l 0) (gp l 1) g u v s t):(xC l u v s t).length=(bI l).length:=g_ (xM L) ((ST.srt_asc _).imp λ{a b} h e=>by subst e;rw[ST.asc_irr]at h;cases h) λp=>by rw[tf F h2 L,dg F]
theorem qB(T:Txt w K mg):ba P w K mg base (CXF P w) 6 T.aa0.a T.aa0.d ["land"] (spU K (qa)):=by
 refine bo T.aa0.F b7 (λus o h=>?_) (λQK A outer s H E O us o hr h=>?_)
 ·obtain⟨l,rfl,F,h2,hl,sz,hc,rfl⟩:=h;rfl
 obtain⟨l,rfl,F,h2,hl,sz,hc,rfl⟩:=h;refine Ws.nox ?_;obtain⟨g,s1,t1,s,t,G,gn,G1,L⟩:=CW (Au F h2);have z0:=sz _ (hV (l:=l) (i:=0) (by lia))
 have z1:=sz _ (hV (l:=l) (i:=1) (by lia))
 have zx:Sz 151 ((gp l 1).1-(gp l 0).1):=(L2.Sz.sub' z1.1 z0.1).mono (by decide)
 have zy:Sz 151 ((gp l 1).2-(gp l 0).2):=(L2.Sz.sub' z1.2 z0.2).mono (by decide)
 have two:Ah (gp l 0).1 (gp l 0).2 (gp l 1).1 (gp l 1).2:=⟨z0.1.mono (by decide),z0.2.mono (by decide),z1.1.mono (by decide),z1.2.mono (by decide)⟩
 have su:Sz 151 (((gp l 1).1-(gp l 0).1)/g):=zx.ediv;have sv:Sz 151 (((gp l 1).2-(gp l 0).2)/g):=zy.ediv;obtain⟨_,ss,st⟩:=mR G1 su sv;refine af (aw (i:=1) b7.nd rfl (Or.inl rfl) (aA ((wN T).mono (by decide)) hr rfl T.abc.m T.abc.F.kp T.abc.b ay (ai (aJ (aa 0 rfl) ag rfl (Bb (i:=0) (by decide) (by lia))) (ai (aJ (aa 0 rfl) ag rfl (Bb (i:=1) (by decide) (by lia))) au bM) bM) ⟨_,_,_,_,g,s1,t1,s,t,rfl,two,G,gn,G1,rfl⟩) ?_)
 have V:=v7 F h2 L;have QJ:=xI F h2 L;have Te:=tf F h2 L;have R0:=xM L;generalize hu:((gp l 1).1-(gp l 0).1)/g=u at *;generalize hv:((gp l 1).2-(gp l 0).2)/g=v at *;have hd:s*u-t* -v=1:=by have:=L.st;grind
 have a5:Sz 500 s:=ss.mono (by decide)
 have b5:Sz 500 t:=st.mono (by decide)
 have c5:Sz 500 (-v):=(sv.natle (by lia):Sz 151 (-v)).mono (by decide)
 have d5:Sz 500 u:=su.mono (by decide)
 have ns:Sz 310 (-s):=(ss.natle (by lia):Sz _ (-s)).mono (by decide)
 have e5:Sz 500 (-s*(gp l 0).1-t*(gp l 0).2):=(L2.Sz.sub' (L2.Sz.mul ns z0.1) (L2.Sz.mul (st.mono (n:=310) (by decide)) z0.2)).mono (by decide)
 have f5:Sz 500 (v*(gp l 0).1-u*(gp l 0).2):=(L2.Sz.sub' (L2.Sz.mul sv z0.1) (L2.Sz.mul su z0.2)).mono (by decide)
 have k5:500<=30000:=by decide
 have M:Mv s t (-v) u (-s*(gp l 0).1-t*(gp l 0).2) (v*(gp l 0).1-u*(gp l 0).2):=⟨.inl hd,a5.mono k5,b5.mono k5,c5.mono k5,d5.mono k5,e5.mono k5,f5.mono k5⟩;refine af (aw (i:=2) b7.nd rfl (Or.inl rfl) (EvN.ev (ci ((j6 T).mono (by decide)) hr rfl T.aar.m T.aar.F.kp T.aar.b ay (ai (aa 0 rfl) (ai (aa 1 rfl) au aj) aj) ⟨l,_,_,_,_,_,_,rfl,M,mY (by decide) sz,λp hp=>by have z:=Bw a5 b5 c5 d5 e5 f5 (by decide) (sz p hp);exact⟨z.1.mono (by decide),z.2.mono (by decide)⟩,F.ne,hl,rfl⟩)) ?_)
 have mz:∀p∈ao (l.map (lvF (gp l 0) u v s t)),Szp 1000 p:=λp hp=>by
  obtain⟨q,hq,rfl⟩:=EZ.mp (be _ p hp);have z:=Bw a5 b5 c5 d5 e5 f5 (by decide) (sz q hq)
  exact⟨z.1.mono (by decide),z.2.mono (by decide)⟩
 have ml:(ao (l.map (lvF (gp l 0) u v s t))).length<=900:=GY (ig _) (by rw[ES];lia)
 refine af (aw (i:=3) b7.nd rfl (Or.inr rfl) (aA ((pN T).mono (by decide)) hr rfl T.aaP.m T.aaP.F.kp T.aaP.b ay (ai (aa 1 rfl) au aj) ⟨_,_,_,_,_,_,rfl,M,rfl⟩) ?_)
 rw[zR L.st];unfold xC at QJ Te R0;rw[ES]at QJ;have hbk:∀p:P2,pu (bkF (gp l 0) u v s t p)=pt (u*p.1+-t*p.2+(gp l 0).1) (v*p.1+s*p.2+(gp l 0).2):=λp=>rfl
 have nt:Sz 30000 (-t):=(st.natle (by lia):Sz _ (-t)).mono (by decide)
 have MB:Mv u (-t) v s (gp l 0).1 (gp l 0).2:=⟨.inl (by have:=L.st;grind),d5.mono k5,nt,sv.mono (by decide),a5.mono k5,z0.1.mono (by decide),z0.2.mono (by decide)⟩
 have mne:=V.F.ne;have hY:=cY (l:=(ao (l.map (lvF (gp l 0) u v s t))).map (·.2)) (by simpa using mne)
 have zY:Sz 1000 (hiY (ao (l.map (lvF (gp l 0) u v s t)))):=by
  obtain⟨q,hq,e⟩:=x5 mne;rw[<-e];exact (mz q hq).2
 show Ws _ _ _ _ _ _ [some (.val (lp l)),some (.val (mv s t (-v) u (-s*(gp l 0).1-t*(gp l 0).2) (v*(gp l 0).1-u*(gp l 0).2))),some (.val (lp (ao (l.map (lvF (gp l 0) u v s t))))),some (.val (mv u (-t) v s (gp l 0).1 (gp l 0).2)),none,none,none,none,none];generalize hM:ao (l.map (lvF (gp l 0) u v s t))=m at *;refine af (iR (i:=4) b7.nd rfl (Or.inl rfl) (bg aF) ?_);refine af (gl (λi:Nat=>[some (.val (lp l)),some (.val (mv s t (-v) u (-s*(gp l 0).1-t*(gp l 0).2) (v*(gp l 0).1-u*(gp l 0).2))),some (.val (lp m)),some (.val (mv u (-t) v s (gp l 0).1 (gp l 0).2)),some (.own (((dQ m i).map (bkF (gp l 0) u v s t)).map pu)),none,none,none,none]) (λi j=>i=j) rfl PassesOwn.never (vm rfl T.abu (ai (bH (aG (zd rfl hY) rfl T.abC boot_max (ai (EvN.ev (e_ (ys:=((m.map (·.2)).map U.int)) rfl (blk (aq gD) ["land","move","levelled","back","found","y","ends","x","P"] [8] rfl rfl rfl rfl (by decide+kernel)) (dq (aa 2 rfl) (.inl rfl)) (λ_ _ _ _=>bv (i:=8) b7.nd rfl (Or.inl rfl)) (d8 (by decide)) ?clen ?csz (λ_ _=>trivial) ?celt)) au eE)) ag) au bN)) ?h0 ?hs ?hd)
 case clen=>simp
 case csz=>rw[ES];exact Gw (aL (by lia))
 case celt=>
  intro C s' H' fp j x y hx hy;rw[FP]at hy;obtain⟨p,hp,mp,rfl,rfl⟩:=fH hx hy;exact (aJ (aa 8 rfl) ag rfl rfl)
 case h0=>exact⟨0,rfl,rfl,rfl,rfl,rfl,rfl,trivial⟩
 case hs=>
  rintro H0 i x _ hx rfl;obtain⟨hi,rfl⟩:=ff hx
  have QO:i<(hiY m+1).toNat:=by
   have:hiL (m.map (·.2))=hiY m:=rfl;rw[this]at hi;lia
  have rf:=AE (l:=m) QO;have rg:=xF (l:=m) (Gw QO)
  have iz:Sz 1001 (0+(i:Int)):=by
   have one:Sz 1000 (1:Int):=Sz.mono (m:=8) (by decide) (by decide)
   exact Sz.le (by lia) (L2.Sz.add' zY one)
  have rl:(kO m (0+(i:Int))).length=(lG m (0+(i:Int))+1-fL m (0+(i:Int))).toNat:=by unfold kO iE;simp
  refine⟨_,(h9 (i:=5) b7.nd rfl (Or.inr rfl)),?_⟩;refine af (aw (i:=6) b7.nd rfl (Or.inl rfl) (aA ((qo T).mono (by decide)) hr rfl T.aaQ.m T.aaQ.F.kp T.aaQ.b ay (ai (aa 2 rfl) (ai (aa 5 rfl) au aj) aj) ⟨m,_,rfl,mne,ml,mz,iz,rfl⟩) ?_)
  refine af (yK 4 rfl (EvN.ev (e_ (ys:=(((kO m (0+(i:Int))).map (bkF (gp l 0) u v s t)).map pu)) rfl (blk (aq gD) ["land","move","levelled","back","found","y","ends","x","P"] [7] rfl rfl rfl rfl (by decide+kernel)) (vo rfl T.abu (ai (aJ (aa 6 rfl) ag rfl rfl) (ai (bH (aJ (aa 6 rfl) ag rfl rfl) ag) au bN) bM)) (λ_ _ _ _=>bv (i:=7) b7.nd rfl (Or.inl rfl)) (d8 (by decide)) ?clen ?csz (λ_ _=>trivial) ?celt)) (by simp only[ES];exact Gw (aL (by lia))) (aI ?_))
  case clen=>rw[dY,ES,ES,rl]
  case csz=>rw[dY];exact Gw (aL (by lia))
  case celt=>
   intro C s' H' fp j x y hx hy;obtain⟨hj,rfl⟩:=ff hx
   have ey:y=pu (bkF (gp l 0) u v s t (fL m (0+(i:Int))+(j:Int),0+(i:Int))):=by
    unfold kO iE at hy;rw[FP,FP,FP,E7,IV hj]at hy;cases hy;rfl
   have hp:(fL m (0+(i:Int))+(j:Int),0+(i:Int))∈kO m (0+(i:Int)):=eS.mpr ⟨rfl,by dsimp only;lia,by dsimp only;lia⟩
   have hq:(fL m (0+(i:Int))+(j:Int),0+(i:Int))∈dQ m (hiY m+1).toNat:=by
    have k:=eS.mp hp;exact dE.mpr ⟨by dsimp only;lia,k.2⟩
   have bx:=(fe mne).mp (V.F.in_box ((jZ V _).mp hq))
   have zX:Sz 30000 (fL m (0+(i:Int))+(j:Int)):=by
    obtain⟨q1,m1,e1⟩:=EZ.mp (cM (l:=m.map (·.1)) (by simpa using mne)).1
    obtain⟨q2,m2,e2⟩:=EZ.mp (cY (l:=m.map (·.1)) (by simpa using mne)).1
    have y1:=(mz q1 m1).1;have y2:=(mz q2 m2).1;have b1:q1.1<=fL m (0+(i:Int))+(j:Int):=by have:=bx.1.1;unfold loX at this;rw[<-e1]at this;exact this
    have b2:fL m (0+(i:Int))+(j:Int)<=q2.1:=by have:=bx.1.2;unfold hiX at this;rw[<-e2]at this;exact this
    rcases Gm (fL m (0+(i:Int))+(j:Int)) 0 with z |z
    ·exact (y1.natle (by lia):Sz 1000 _).mono (by decide)
    ·exact (y2.natle (by lia):Sz 1000 _).mono (by decide)
   rw[ey,hbk];exact (aA ((pS T).mono (by decide)) hr rfl T.aa3.m T.aa3.F.kp T.aa3.b ay (ai (bq (ak (aa 7 rfl) (ak (aa 5 rfl) aF aj) aj)) (ai (aa 3 rfl) au aj) cF) ⟨_,_,_,_,_,_,_,_,rfl,MB,zX,iz.mono (by decide),rfl⟩)
  refine⟨i+1,rfl,rfl,rfl,rfl,rfl,?_,trivial⟩;exact congrArg (λl=>some (Sl.own l)) (by rw[kX,F4,F4])
 case hd=>
  rintro q ps hq QV;refine dk ?_ QV;rw[dY]at hq;have e:q=(hiY m+1).toNat:=by rw[<-hq];show (hiY m+1-0).toNat=_;lia
  subst e;refine jY 4 rfl ?_;have fs:=tP F Te;have n64:((dQ m (hiY m+1).toNat).map (bkF (gp l 0) u v s t)).length<1000:=by rw[ES];lia
  refine af (fq (kc rfl T.aa4 (gu hr) (aa 4 rfl) ⟨n64,R0⟩ aj) ?_);rw[fs]
def pU(C:E6):List U->Out->Prop:=λus o=>∃l:List P2,us=[lp l]/\Fld l/\l.length<64/\(∀p∈l,Szp 1500 p)/\((fG l<=100/\(bI l).length<=100/\(∀p∈l,Szp 150 p)/\o=.new ((bI l).map pu))\/(100<fG l/\o=.exc C))
theorem gF(T:Txt w K mg):ba P w K mg base (CXF P w) 8 T.aan.a T.aan.d ["land"] (spU K (pU T.aac.c)):=by
 refine bo T.aan.F uR (by rintro us o ⟨_,rfl,_⟩;rfl) (λQK A outer s H E O us o hr h=>?_)
 obtain⟨l,rfl,F,hl,sz,h⟩:=h;have hm:((l.map pu).length:Int)=(l.length:Int):=by rw[ES]
 have one:ao (l.map (scl 1))=l:=by rw[show scl 1=id from funext zS,Qr];exact F.cr
 have cs:ki T.aad.c [lp l,.int 1] (.val (.int (fG l))):=⟨l,1,rfl,Sz.mono (m:=8) (by decide) (by decide),sz,F.ne,hl,by rw[if_neg (by decide),one]⟩
 have l0:0<l.length:=HH.mpr F.ne;rcases h with ⟨hc,hn,sz1,rfl⟩ |⟨hc,rfl⟩
 ·refine af (cE (aR gI (t6 ((kz T).mono (by decide)) hr rfl T.aaG.m T.aaG.F.kp T.aaG.bd ay (ai (aa 0 rfl) au aj) cs) (Bm rfl T.abb)) (decide_eq_false (by lia)) (aI ?_))
  refine Ws.nox ?_;by_cases h1:l.length=1
  ·refine af (gs (aR cB (aG (dS rfl) rfl T.aaH GA (ai (aa 0 rfl) au aj)) ag) (by rw[hm];exact decide_eq_true (by lia)) ?_)
   refine af (fq (jJ (nE rfl) rfl T.abf Lb (ai (aa 0 rfl) au aj)) ?_);obtain⟨A,rfl⟩:=Mw.mp h1
   have:bI [A]=[A]:=by
    rw[<-tP (R:=[A]) F λp=>by rw[ou];simp]
    exact dX (pts:=[A]) (by have:=ST.srt_len [A];simp at this;lia) ▸ F.cr
   rw[this]
  ·refine af (cE (aR cB (aG (dS rfl) rfl T.aaH GA (ai (aa 0 rfl) au aj)) ag) (by rw[hm];exact decide_eq_false (by lia)) (aI ?_))
   refine af (fq (ci ((qB T).mono (by decide)) hr rfl T.aa0.m T.aa0.F.kp T.aa0.b ay (ai (aa 0 rfl) au aj) ⟨l,rfl,F,by lia,hl,sz1,hn,rfl⟩) ?_)
   exact rfl
 ·refine af (gs (aR gI (t6 ((kz T).mono (by decide)) hr rfl T.aaG.m T.aaG.F.kp T.aaG.bd ay (ai (aa 0 rfl) au aj) cs) (Bm rfl T.abb)) (decide_eq_true (by lia)) ?_)
  refine af (tT T.abz rfl T.aac.m Bh ?_);exact rfl
theorem uu{A B C:P2}(hD:0<ae A B C)(h:∀p,0<=ae A B p->0<=ae B C p->0<=ae C A p->p=A\/p=B\/p=C):ae A B C=1:=by
 refine F2 λn1=>?_
 obtain⟨g,s,t,G⟩:=jH (B.1-A.1) (B.2-A.2);obtain⟨u,hu⟩:=G.da;obtain⟨v,hv⟩:=G.db;have ge:=G.eq;have g0:=G.g0
 have gn:g≠0:=λe=>by
  rw[e,Ih]at hu hv;have:ae A B C=0:=by unfold ae;rw[hu,hv];lia
  lia
 have gp:0<g:=by lia
 have no:∀p:P2,0<=ae A B p->0<=ae B C p->0<=ae C A p->p≠A->p≠B->p≠C->False:=λp h1 h2 h3 a b c=>by
  rcases h p h1 h2 h3 with e |e |e
  ·exact a e
  ·exact b e
  ·exact c e
 have suv:s*u+t*v=1:=by
  have:g*(s*u+t*v)=g*1:=by rw[K9];rw[hu,hv]at ge;rw[<-ge];grind
  exact Gg gn this
 have eD:ae A B C=g*(u*(C.2-A.2)-v*(C.1-A.1)):=by unfold ae;rw[hu,hv];grind
 by_cases g1:g=1
 ·subst g1;have hx:ae A B C=u*(C.2-A.2)-v*(C.1-A.1):=by rw[eD];lia
  generalize hd:ae A B C=d at *;obtain⟨x,hx0⟩:∃x,x=s*(C.1-A.1)+t*(C.2-A.2):=⟨_,rfl⟩
  have c1:C.1-A.1=x*u-d*t:=by
   have:x*u-d*t=(s*u+t*v) *(C.1-A.1):=by rw[hx0,hx];grind
   rw[this,suv];lia
  have c2:C.2-A.2=x*v+d*s:=by
   have:x*v+d*s=(s*u+t*v) *(C.2-A.2):=by rw[hx0,hx];grind
   rw[this,suv];lia
  have q1:=Gs (-x) (show d≠0 by lia)
  have q2:=Gb (-x) hD;have q3:=Int.mul_ediv_add_emod (-x) d;generalize -x/d=m at *;generalize -x%d=r at *;have er:r=-x-d*m:=by lia
  have b1:B.1=A.1+u:=by lia
  have b2:B.2=A.2+v:=by lia
  have d1:ae A B (A.1-m*u-t,A.2-m*v+s)=1:=by
   unfold ae;dsimp only;rw[b1,b2,<-suv];grind
  have d3:ae C A (A.1-m*u-t,A.2-m*v+s)=r:=by
   have:ae C A (A.1-m*u-t,A.2-m*v+s)=(-m*u-t) *(C.2-A.2)-(-m*v+s) *(C.1-A.1):=by unfold ae;dsimp only;grind
   rw[this,c1,c2,er];have:(-m*u-t) *(x*v+d*s)-(-m*v+s) *(x*u-d*t)=(s*u+t*v) *(-x-d*m):=by grind
   rw[this,suv];lia
  have d2:ae B C (A.1-m*u-t,A.2-m*v+s)=d-1-r:=by
   have:ae A B (A.1-m*u-t,A.2-m*v+s)+ae B C (A.1-m*u-t,A.2-m*v+s)+ae C A (A.1-m*u-t,A.2-m*v+s)=ae A B C:=by unfold ae;dsimp only;grind
   lia
  have z:∀p q:P2,ae p q p=0/\ae p q q=0:=λp q=>by unfold ae;constructor <;>grind
  refine no (A.1-m*u-t,A.2-m*v+s) (by lia) (by lia) (by lia) (λe=>?_) (λe=>?_) (λe=>?_)
  ·rw[e,(z A B).1]at d1;lia
  ·rw[e,(z A B).2]at d1;lia
  ·rw[e,hd]at d1;lia
 ·have d1:ae A B (A.1+u,A.2+v)=0:=by unfold ae;dsimp only;rw[hu,hv];grind
  generalize hy:u*(C.2-A.2)-v*(C.1-A.1)=y at *;have yp:0<y:=by rw[eD]at hD;exact GG hD gp
  have d3:ae C A (A.1+u,A.2+v)=y:=by unfold ae;dsimp only;rw[<-hy];grind
  have d2:ae B C (A.1+u,A.2+v)=(g-1) *y:=by
   have:ae A B (A.1+u,A.2+v)+ae B C (A.1+u,A.2+v)+ae C A (A.1+u,A.2+v)=ae A B C:=by unfold ae;dsimp only;grind
   rw[eD]at this;have e:(g-1) *y=g*y-y:=by grind
   rw[e];lia
  have d2':0<=(g-1) *y:=Fc (by lia) (by lia)
  have z:∀p q:P2,ae p q q=0/\ae p q p=0:=λp q=>by unfold ae;constructor <;>grind
  refine no (A.1+u,A.2+v) (by lia) (by lia) (by lia) (λe=>?_) (λe=>?_) (λe=>?_)
  ·rw[e,(z C A).1]at d3;lia
  ·rw[e,(z B C).2]at d2;have:=FO (show 0<g-1 by lia) yp
   lia
  ·rw[e]at d1;lia
def cH(s:Int)(P:P2):List P2->List P2
 |b::a::r=>if 0<s*ae a b P then cH s P (a::r) else b::a::r
 |st=>st
def du(s:Int)(P:P2):List P2->List (P2×P2×P2)
 |b::a::r=>if 0<s*ae a b P then (a,b,P)::du s P (a::r) else []
 |_=>[]
def rQ(s:Int)(done:List P2):List P2->Prop
 |b::a::r=>(∀q∈done,s*ae a b q<=0/\(s*ae a b q=0->plt a q->plt q b->False))/\rQ s done (a::r)
 |_=>True
theorem A7{s:Int}(hs:s=1\/s=-1){u1 u2 v1 v2 w1 w2:Int}(hu:cG u1 u2)(hv:cG v1 v2)(hw:cG w1 w2)(h1:s*(u1*v2-u2*v1)<=0)(h2:s*(v1*w2-v2*w1)<=0):s*(u1*w2-u2*w1)<=0:=by
 rcases hs with e |e <;>subst e
 ·have:=dm hw hv hu (by grind) (by grind)
  grind
 ·have:=dm hu hv hw (by lia) (by lia)
  lia
theorem DV{s:Int}(hs:s=1\/s=-1){u1 u2 p1 p2 w1 w2:Int}(hu:cG u1 u2)(hp:cG p1 p2)(hw:cG w1 w2)(h1:0<s*(u1*p2-u2*p1))(h2:s*(u1*w2-u2*w1)<0):s*(p1*w2-p2*w1)<0:=by
 rcases hs with e |e <;>subst e
 ·have:=d7 hw hu hp (by grind) (by lia)
  grind
 ·have:=d7 hp hu hw (by grind) (by lia)
  lia
structure KW(s:Int)(done st:List P2):Prop where
 ne:st≠[]
 desc:fM st
 cov:rQ s done st
 sub:∀p∈st,p∈done
 bot:∀z,st.getLast?=some z->∀q∈done,¬ plt q z
structure DW(s:Int)(done st:List P2)(P:P2):Prop extends KW s done st where
 pend:∀h r,st=h::r->∀q∈done,plt h q->s*ae h P q<0
theorem sJ{s:Int}(hs:s=1\/s=-1){done:List P2}{P b a:P2}{r:List P2}(hP:∀q∈done,plt q P)(D:DW s done (b::a::r) P)(h:0<s*ae a b P):DW s done (a::r) P:=by
 refine⟨⟨by simp,D.desc.tail,D.cov.2,λp hp=>D.sub p (ET _ hp),λz hz=>D.bot z (by rw[Fo];exact hz)⟩,?_⟩
 intro h' r' e q hq QL;cases e;have Su:=D.desc.1;obtain⟨c1,c2⟩:=D.cov.1 q hq;have hbP:=hP b (D.sub b E3);rcases fh q b with z |z |z
 ·have RS:s*ae a b q<0:=by
   rcases GU c1 with y |y
   ·exact y
   ·exact (c2 y QL z).elim
  have:=DV hs (u1:=b.1-a.1) (u2:=b.2-a.2) (p1:=P.1-a.1) (p2:=P.2-a.2) (w1:=q.1-a.1) (w2:=q.2-a.2) (aD Su) (aD (bu Su hbP)) (aD QL) (by unfold ae at h;exact h) (by unfold ae at RS;exact RS)
  unfold ae;exact this
 ·subst z;have:ae a P q=- ae a q P:=by unfold ae;grind
  rw[this,ON];lia
 ·have p:=D.pend b _ rfl q hq z;have:ae a P q=ae a b q-ae a b P+ae b P q:=by unfold ae;grind
  rw[this];have e:s*(ae a b q-ae a b P+ae b P q)=s*ae a b q-s*ae a b P+s*ae b P q:=by grind
  lia
theorem yU{s:Int}(hs:s=1\/s=-1){done:List P2}{P:P2}(hP:∀q∈done,plt q P):∀st:List P2,DW s done st P->DW s done (cH s P st) P/\(∀b a r,cH s P st=b::a::r->s*ae a b P<=0)
 |[],D=>absurd rfl D.ne
 |[b],D=>⟨D,λ_ _ _ e=>by simp[cH]at e⟩
 |b::a::r,D=>by
  by_cases h:0<s*ae a b P
  ·rw[cH,if_pos h];exact yU hs hP (a::r) (sJ hs hP D h)
  ·rw[cH,if_neg h];refine⟨D,λb' a' r' e=>?_⟩
   cases e;lia
theorem oV{s:Int}(hs:s=1\/s=-1){done:List P2}{P:P2}(hP:∀q∈done,plt q P):∀{st:List P2},fM st->rQ s done st->(∀p∈st,p∈done)->(∀b a r,st=b::a::r->s*ae a b P<=0)->rQ s (done++[P]) st
 |[],_,_,_,_=>trivial
 |[_],_,_,_,_=>trivial
 |b::a::r,d,c,sub,h=>by
  have h0:=h b a r rfl;have mb:=sub b E3;refine⟨λq hq=>?_,oV hs hP d.tail c.2 (λp hp=>sub p (ET _ hp)) λb' a' r' e=>?_⟩
  ·rcases Fn.mp hq with k |k
   ·exact c.1 q k
   ·rw[E9.mp k];refine⟨h0,λ_ _ k2=>?_⟩
    have:=hP b mb;unfold plt at *;lia
  ·cases e;have d2:=d.tail.1;have c2:=(c.2.1 b mb).1;have hb:=hP b mb
   have:=A7 hs (u1:=a.1-a'.1) (u2:=a.2-a'.2) (v1:=b.1-a.1) (v2:=b.2-a.2) (w1:=P.1-b.1) (w2:=P.2-b.2) (aD d2) (aD d.1) (aD hb) (by
    have:ae a' a b=(a.1-a'.1) *(b.2-a.2)-(a.2-a'.2) *(b.1-a.1):=by unfold ae;grind
    rw[<-this];exact c2) (by
    have:ae a b P=(b.1-a.1) *(P.2-b.2)-(b.2-a.2) *(P.1-b.1):=by unfold ae;grind
    rw[<-this];exact h0)
   have e:s*ae a' a P=s*ae a' a b+s*((a.1-a'.1) *(P.2-b.2)-(a.2-a'.2) *(P.1-b.1)):=by unfold ae;grind
   lia
theorem CU{s:Int}(hs:s=1\/s=-1){done st:List P2}{P:P2}(hP:∀q∈done,plt q P)(K:KW s done st)(top:∀h r,st=h::r->∀q∈done,¬ plt h q):KW s (done++[P]) (P::cH s P st):=by
 obtain⟨D,stop⟩:=yU hs hP st ⟨K,λh r e q hq QL=>absurd QL (top h r e q hq)⟩
 generalize cH s P st=t at *;have hPn:¬ plt P P:=by unfold plt;lia
 have Tf:∀b a r,t=b::a::r->s*ae a b P<=0:=stop;have cm:=oV hs hP D.desc D.cov D.sub Tf
 match t,D,Tf,cm with
 |[],D,_,_=>exact absurd rfl D.ne
 |[b],D,Tf,cm=>
  have mb:=D.sub b E3;refine⟨by simp,⟨hP b mb,trivial⟩,⟨λq hq=>?_,trivial⟩,λp hp=>?_,λz hz q hq=>?_⟩
  ·rcases Fn.mp hq with k |k
   ·rcases fh q b with y |y |y
    ·exact absurd y (D.bot b rfl q k)
    ·subst y;exact⟨by unfold ae;grind,λ_ k1 _=>by unfold plt at k1;lia⟩
    ·have:=D.pend b _ rfl q k y;exact⟨by lia,λe _ _=>by lia⟩
   ·rw[E9.mp k];exact⟨by unfold ae;grind,λ_ _ k2=>hPn k2⟩
  ·rcases E1.mp hp with k |k
   ·rw[k];simp
   ·exact FH _ (D.sub p k)
  ·have ez:z=b:=by simpa using hz.symm
   subst ez;rcases Fn.mp hq with k |k
   ·exact D.bot z rfl q k
   ·rw[E9.mp k];have:=hP z mb;unfold plt at *;lia
 |b::a::r,D,Tf,cm=>
  have mb:=D.sub b E3;have h0:=Tf b a r rfl;refine⟨by simp,⟨hP b mb,D.desc⟩,⟨λq hq=>?_,cm⟩,λp hp=>?_,λz hz q hq=>?_⟩
  ·rcases Fn.mp hq with k |k
   ·rcases fh q b with y |y |y
    ·have c1:=(D.cov.1 q k).1;have hb:=hP b mb
     have:=A7 hs (u1:=b.1-q.1) (u2:=b.2-q.2) (v1:=b.1-a.1) (v2:=b.2-a.2) (w1:=P.1-b.1) (w2:=P.2-b.2) (aD y) (aD D.desc.1) (aD hb) (by
      have:(b.1-q.1) *(b.2-a.2)-(b.2-q.2) *(b.1-a.1)=ae a b q:=by unfold ae;grind
      rw[this];exact c1) (by
      have:ae a b P=(b.1-a.1) *(P.2-b.2)-(b.2-a.2) *(P.1-b.1):=by unfold ae;grind
      rw[<-this];exact h0)
     have e:ae b P q=(b.1-q.1) *(P.2-b.2)-(b.2-q.2) *(P.1-b.1):=by unfold ae;grind
     rw[e];exact⟨this,λ_ k1 _=>by unfold plt at *;lia⟩
    ·subst y;exact⟨by unfold ae;grind,λ_ k1 _=>by unfold plt at k1;lia⟩
    ·have:=D.pend b _ rfl q k y;exact⟨by lia,λe _ _=>by lia⟩
   ·rw[E9.mp k];exact⟨by unfold ae;grind,λ_ _ k2=>hPn k2⟩
  ·rcases E1.mp hp with k |k
   ·rw[k];simp
   ·exact FH _ (D.sub p k)
  ·have hz':(b::a::r).getLast?=some z:=by rw[Fo]at hz;exact hz
   rcases Fn.mp hq with k |k
   ·exact D.bot z hz' q k
   ·rw[E9.mp k];have:=hP z (D.sub z (Hz hz'));unfold plt at *;lia
abbrev Tri:=P2×P2×P2
def j4(t:Tri):Int:=ae t.1 t.2.1 t.2.2
def wst(s:Int)(z:List P2×List Tri)(P:P2):List P2×List Tri:=(P::cH s P z.1,z.2++du s P z.1)
def br(s:Int)(row:List P2):List P2×List Tri:=row.foldl (wst s) ([],[])
theorem dL(s:Int)(row:List P2)(P:P2):br s (row++[P])=wst s (br s row) P:=by unfold br;rw[LR];rfl
theorem fP{Q:List P2->Prop}(h0:Q [])(h1:∀l P,Q l->Q (l++[P])):∀l,Q l:=λl=>by
 have key:∀m:List P2,Q m.reverse:=λm=>by
  induction m with
  |nil=>exact h0
  |cons a m ih=>rw[IQ];exact h1 _ _ ih
 have:=key l.reverse
 rwa [IF]at this
theorem gd{l:List P2}{P:P2}(h:(l++[P]).Pairwise plt):l.Pairwise plt/\∀q∈l,plt q P:=by
 rw[Gp]at h;exact⟨h.1,λq hq=>h.2.2 q hq P (by simp)⟩
theorem jx(s:Int)(row:List P2)(P:P2):(br s (row++[P])).1.head?=some P:=by rw[dL];rfl
theorem wK{s:Int}(hs:s=1\/s=-1):∀row:List P2,row.Pairwise plt->row≠[]->KW s row (br s row).1:=by
 refine fP (λ_ h=>absurd rfl h) λl P ih hs2 _=>?_
 obtain⟨h1,h2⟩:=gd hs2;rw[dL];show KW s (l++[P]) (P::cH s P (br s l).1);by_cases hl:l=[]
 ·subst hl;show KW s [P] [P];refine⟨by simp,trivial,trivial,λp hp=>by simpa using hp,λz hz q hq=>?_⟩
  have e1:q=P:=by simpa using hq
  have e2:P=z:=by simpa using hz
  rw[e1,<-e2];unfold plt;lia
 ·have K:=ih h1 hl;refine CU hs h2 K λh r e q hq=>?_
  have:l=l.dropLast++[l.getLast hl]:=(GC hl).symm;have hd:=jx s l.dropLast (l.getLast hl);rw[<-this,e]at hd;have eh:h=l.getLast hl:=by simpa using hd
  rw[eh];rw[this]at h1 hq;rcases Fn.mp hq with k |k
  ·have:=(gd h1).2 q k;unfold plt at *;lia
  ·rw[E9.mp k];unfold plt;lia
def chS:List P2->Int
 |b::a::r=>crs (a,b)+chS (a::r)
 |_=>0
theorem t8(s:Int)(P:P2):∀st:List P2,chS (P::cH s P st)+((du s P st).map j4).sum=chS (P::st)
 |[]=>by simp[cH,du]
 |[b]=>by simp[cH,du]
 |b::a::r=>by
  by_cases h:0<s*ae a b P
  ·rw[cH,du,if_pos h,if_pos h,Ft,HM];have ih:=t8 s P (a::r);show _+(ae a b P+_)=crs (b,P)+(crs (a,b)+chS (a::r));have e:chS (P::a::r)=crs (a,P)+chS (a::r):=rfl;rw[e]at ih;have d:ae a b P=crs (a,b)+crs (b,P)-crs (a,P):=by unfold ae crs;grind
   lia
  ·rw[cH,du,if_neg h,if_neg h];simp
theorem pT{P t:P2}{st:List P2}(h:st.head?=some t):chS (P::st)=crs (t,P)+chS st:=by
 cases st with
 |nil=>cases h
 |cons a r=>cases h;rfl
theorem t5(s:Int):∀row:List P2,((br s row).2.map j4).sum=chS row.reverse-chS (br s row).1:=by
 refine fP rfl λl P ih=>?_
 rw[dL,HK];show (((br s l).2++du s P (br s l).1).map j4).sum=chS (P::l.reverse)-chS (P::cH s P (br s l).1);have h:=t8 s P (br s l).1;rw[F4,M3,ih];by_cases hl:l=[]
 ·subst hl;simp[br,cH,du,chS]
 ·have e:l=l.dropLast++[l.getLast hl]:=(GC hl).symm;have hd:=jx s l.dropLast (l.getLast hl);rw[<-e]at hd;have hr:l.reverse.head?=some (l.getLast hl):=by rw[Kg,GW hl]
  rw[pT hd]at h;rw[pT hr];lia
def nW(s:Int)(W:List P2):List P2->Prop
 |b::a::r=>(∀q∈W,s*ae a b q<=0)/\nW s W (a::r)
 |_=>True
theorem rQ.weak{s:Int}{W:List P2}:∀{st:List P2},rQ s W st->nW s W st
 |[],_=>trivial
 |[_],_=>trivial
 |b::a::r,h=>⟨λq hq=>(h.1 q hq).1,rQ.weak h.2⟩
theorem yV{s:Int}{a m b q:P2}(h1:plt a m)(h2:plt a b)(h0:ae a b m=0)(h:s*ae a b q<=0):s*ae a m q<=0:=by
 have l1:=aD h1;have l2:=aD h2;unfold cG at l1 l2;unfold ae at *;generalize b.1-a.1=u1 at *;generalize b.2-a.2=u2 at *;generalize m.1-a.1=v1 at *;generalize m.2-a.2=v2 at *;generalize q.1-a.1=w1 at *;generalize q.2-a.2=w2 at *;rcases l2 with k |⟨k,k2⟩
 ·have e:u1*(s*(v1*w2-v2*w1))=v1*(s*(u1*w2-u2*w1)):=by grind
  have v0:0<=v1:=by lia
  have r:v1*(s*(u1*w2-u2*w1))<=0:=Ht v0 h;rw[<-e]at r;rcases Gm 0 (s*(v1*w2-v2*w1)) with z |z
  ·have:=FO k z;lia
  ·exact z
 ·subst k
  have v10:v1=0:=by
   have:u2*v1=0:=by grind
   rcases Ga.mp this with z |z
   ·lia
   ·exact z
  subst v10;have e:u2*(s*(0*w2-v2*w1))=v2*(s*(0*w2-u2*w1)):=by grind
  have v0:0<=v2:=by lia
  have r:v2*(s*(0*w2-u2*w1))<=0:=Ht v0 h;rw[<-e]at r;rcases Gm 0 (s*(0*w2-v2*w1)) with z |z
  ·have:=FO k2 z;lia
  ·exact z
theorem iX:∀{b a:P2}{r:List P2},fM (b::a::r)->∀z,(b::a::r).getLast?=some z->plt z b
 |b,a,[],d,z,h=>by
  have e:a=z:=by simpa using h
  rw[<-e];exact d.1
 |b,a,c::r,d,z,h=>bu (iX (b:=a) d.tail z (by rw[Fo]at h;exact h)) d.1
theorem e7{s:Int}(hs:s=1\/s=-1){W:List P2}:∀(n:Nat) (C D:List P2),C.length+D.length<=n->C≠[]->D≠[]->fM C->fM D->C.head?=D.head?->C.getLast?=D.getLast?->nW s W C->nW s W D->(∀p∈C,p∈W)->(∀p∈D,p∈W)->chS C=chS D
 |n,[x],[y],_,_,_,_,_,_,_,_,_,_,_=>rfl
 |n,[x],y::a::r,_,_,_,_,dD,hh,hl,_,_,_,_=>by
  have e:x=y:=by simpa using hh
  have:=iX dD x (by rw[<-hl];rfl)
  rw[e]at this;unfold plt at this;lia
 |n,y::a::r,[x],_,_,_,dC,_,hh,hl,_,_,_,_=>by
  have e:y=x:=by simpa using hh
  have:=iX dC x (by rw[hl];rfl)
  rw[e]at this;unfold plt at this;lia
 |0,b::a::r,_::_::_,hn,_,_,_,_,_,_,_,_,_,_=>by simp at hn
 |n+1,b::a::r,b'::a'::r',hn,_,_,dC,dD,hh,hl,cC,cD,sC,sD=>by
  have e:b=b':=by simpa using hh
  subst e;have ma:=sC a (by simp)
  have ma':=sD a' (by simp)
  have k1:=cC.1 a' ma';have k2:=cD.1 a ma;have ee:ae a' b a=- ae a b a':=by unfold ae;grind
  have z0:ae a b a'=0:=by
   rw[ee]at k2;rcases hs with e |e <;>subst e <;>lia
  have t1:(a::r).getLast?=(a'::r').getLast?:=by rw[Fo,Fo]at hl;exact hl
  have sC':∀p∈a::r,p∈W:=λp hp=>sC p (ET _ hp)
  have sD':∀p∈a'::r',p∈W:=λp hp=>sD p (ET _ hp)
  simp only[FN]at hn;rcases fh a a' with y |y |y
  ·have cX:nW s W (a'::a::r):=⟨λq hq=>yV y dC.1 z0 (cC.1 q hq),cC.2⟩
   have ih:=e7 hs n (a'::a::r) (a'::r') (by simp only[FN];lia) (by simp) (by simp) ⟨y,dC.tail⟩ dD.tail rfl (by rw[Fo];exact t1) cX cD.2 (λp hp=>by
    rcases E1.mp hp with k |k
    ·rw[k];exact ma'
    ·exact sC' p k) sD'
   show crs (a,b)+chS (a::r)=crs (a',b)+chS (a'::r');have e1:chS (a'::a::r)=crs (a,a')+chS (a::r):=rfl;have e2:crs (a,b)=crs (a,a')+crs (a',b):=by unfold ae at z0;unfold crs;grind
   lia
  ·subst y;have ih:=e7 hs n (a::r) (a::r') (by simp only[FN];lia) (by simp) (by simp) dC.tail dD.tail rfl t1 cC.2 cD.2 sC' sD'
   show crs (a,b)+chS (a::r)=crs (a,b)+chS (a::r');lia
  ·have z0':ae a' b a=0:=by rw[ee,z0];rfl
   have cX:nW s W (a::a'::r'):=⟨λq hq=>yV y dD.1 z0' (cD.1 q hq),cD.2⟩
   have ih:=e7 hs n (a::r) (a::a'::r') (by simp only[FN];lia) (by simp) (by simp) dC.tail ⟨y,dD.tail⟩ rfl (by rw[Fo];exact t1) cC.2 cX sC' (λp hp=>by
    rcases E1.mp hp with k |k
    ·rw[k];exact ma
    ·exact sD' p k)
   show crs (a,b)+chS (a::r)=crs (a',b)+chS (a'::r');have e1:chS (a::a'::r')=crs (a',a)+chS (a'::r'):=rfl;have e2:crs (a',b)=crs (a',a)+crs (a,b):=by unfold ae at z0;unfold crs;grind
   lia
 |_,[],_,_,h,_,_,_,_,_,_,_,_,_=>absurd rfl h
 |_,_::_,[],_,_,h,_,_,_,_,_,_,_,_=>absurd rfl h
theorem i7(m:P2):∀u v:List P2,cZ (u++m::v)=cZ (u++[m])+cZ (m::v)
 |[],v=>by simp[cZ]
 |[a],v=>by simp[cZ]
 |a::b::u,v=>by
  have ih:=i7 m (b::u) v;show crs (a,b)+cZ (b::u++m::v)=crs (a,b)+cZ (b::u++[m])+cZ (m::v);lia
theorem sO:∀l:List P2,chS l.reverse=cZ l
 |[]=>rfl
 |[a]=>rfl
 |a::b::r=>by
  have ih:=sO (b::r);rw[IQ]
  have key:∀(u:List P2) (x y:P2),chS (u++[y]++[x])=chS (u++[y])+crs (x,y):=λu=>by
   induction u with
   |nil=>intro x y;simp[chS]
   |cons c u ih=>
    intro x y;cases u with
    |nil=>simp[chS]
    |cons d u=>
     have:=ih x y;simp only[HC,chS]at this |-;lia
  rw[IQ]at ih |-;rw[key,ih];show _=crs (a,b)+cZ (b::r);lia
theorem tM:∀l:List P2,chS l=- cZ l
 |[]=>rfl
 |[_]=>rfl
 |a::b::r=>by
  have ih:=tM (b::r);show crs (b,a)+chS (b::r)=-(crs (a,b)+cZ (b::r));have:crs (b,a)=- crs (a,b):=by unfold crs;grind
  lia
theorem pH(a:P2):∀(x:P2) (r:List P2) (z:P2),(x::r).getLast?=some z->((Ib (x::r) (r++[a])).map crs).sum=cZ (x::r)+crs (z,a)
 |x,[],z,hz=>by cases hz;simp[cZ]
 |x,y::r,z,hz=>by
  have ih:=pH a y r z (by rw[Fo]at hz;exact hz)
  rw[HC,GT,Ft,HM,ih];show _=crs (x,y)+cZ (y::r)+_;lia
theorem v9(a:P2)(r:List P2):sdl (a::r)=Ib (a::r) (r++[a]):=by
 have h1:=jL (a::r);have h2:=nC (a::r)
 have key:∀l:List (P2×P2),l=Ib (l.map (·.1)) (l.map (·.2)):=λl=>by
  induction l with
  |nil=>rfl
  |cons x l ih=>rw[Ft,Ft,GT,<-ih]
 rw[key (sdl (a::r)),h1,h2];rfl
theorem xq{a:P2}{r:List P2}{z:P2}(hz:(a::r).getLast?=some z):area (a::r)=cZ (a::r)+crs (z,a):=by
 unfold area;rw[v9];exact pH a a r z hz
theorem l5(P:P2):∀st:List P2,Qj (aT P st) st
 |[]=>JB _
 |[_]=>JB _
 |b::a::r=>by
  rw[aT];split
  ·exact (l5 P (a::r)).trans (List.sublist_cons_self _ _)
  ·exact JB _
theorem rM:∀r:List P2,Qj (am r).reverse r:=by
 refine fP (JB _) λl P ih=>?_
 have e:am (l++[P])=P::aT P (am l):=by unfold am;rw[LR];rfl
 rw[e,IQ];exact ((l5 P (am l)).reverse.trans ih).append (JB _)
theorem tO:∀{l:List P2},l.Pairwise (λx y=>plt y x)->fM l
 |[],_=>trivial
 |[_],_=>trivial
 |b::a::r,h=>⟨(Fh.mp h).1 a (by simp),tO (Fh.mp h).2⟩
theorem s_{s:Int}{W:List P2}:∀{L:List P2},(∀(i:Nat) (a b:P2),L[i]?=some b->L[i+1]?=some a->∀q∈W,s*ae a b q<=0)->nW s W L
 |[],_=>trivial
 |[_],_=>trivial
 |b::a::r,h=>⟨h 0 a b rfl rfl,s_ λi x y h1 h2=>h (i+1) x y h1 h2⟩
theorem vS{pts:List P2}(h2:2<=(ST.srt pts).length):area (ao pts)=chS (br (-1) (ST.srt pts)).1-chS (br 1 (ST.srt pts)).1:=by
 have SE:(ST.srt pts).Pairwise plt:=(ST.srt_asc pts).imp λ{a b} h=>by
  unfold ST.ltP at h;unfold plt;simpa using h
 have ec:ao pts=(am (ST.srt pts)).reverse.dropLast++(am (ST.srt pts).reverse).reverse.dropLast:=by unfold ao;rw[if_neg (by lia)]
 generalize ST.srt pts=row at *;have QF:row≠[]:=λz=>by rw[z]at h2;simp at h2
 obtain⟨mn,mx,Wy⟩:=BY SE h2;obtain⟨kb,kl,kh⟩:=b9 SE QF;have bc:=@g9 row SE QF;have bs:=rM row.reverse;generalize hT:(am row).reverse=T at *;generalize hB:(am row.reverse).reverse=B at *;have bT:am row=T.reverse:=by rw[<-hT,IF]
 have mxr:row.getLast?=some mx:=by
  rw[<-kh,bT,Kg,Gh];exact Wy.t1
 have mnr:row.head?=some mn:=by
  rw[<-kl,bT,Jo,HD];exact Wy.t0
 have bots:∀s,s=1\/s=-1->(br s row).1≠[]/\fM (br s row).1/\(br s row).1.head?=some mx/\(br s row).1.getLast?=some mn/\nW s row (br s row).1/\∀p∈(br s row).1,p∈row:=λs hs=>by
  have K:=wK hs row SE QF;have e:row=row.dropLast++[row.getLast QF]:=(GC QF).symm;have hd:=jx s row.dropLast (row.getLast QF);rw[<-e]at hd
  have em:row.getLast QF=mx:=by
   rw[GW QF]at mxr;exact FV mxr
  refine⟨K.ne,K.desc,by rw[hd,em],?_,K.cov.weak,K.sub⟩
  obtain⟨z,hz⟩:∃z,(br s row).1.getLast?=some z:=⟨_,GW K.ne⟩;have zr:=K.sub z (Hz hz);have hm:mn∈row:=N4 mnr;have:=K.bot z hz mn hm;rcases Wy.least z zr with y |y
  ·rw[hz,y]
  ·exact absurd y this
 obtain⟨p1,p2,p3,p4,p5,p6⟩:=bots 1 (.inl rfl);obtain⟨n1,n2,n3,n4,n5,n6⟩:=bots (-1) (.inr rfl)
 have low:chS (br (-1) row).1=chS (am row):=by
  refine e7 (.inr rfl) (W:=row) _ _ _ (E2 _) n1 kb.ne n2 kb.desc (by rw[n3,kh,mxr]) (by rw[n4,kl,mnr]) n5 ?_ n6 kb.sub
  have conv:∀{st:List P2},fT row st→nW (-1) row st:=λ{st}=>by
   induction st with
   |nil=>intro _;trivial
   |cons b st ih=>
    cases st with
    |nil=>intro _;trivial
    |cons a r=>exact λc=>⟨λq hq=>by have:=c.1 q hq;lia,ih c.2⟩
  exact conv kb.cover
 have bne:B≠[]:=λe=>by have:=Wy.lb;rw[e]at this;simp at this
 have up:chS (br 1 row).1=chS B:=by
  refine e7 (.inl rfl) (W:=row) _ _ _ (E2 _) p1 bne p2 ?_ ?_ ?_ p5 ?_ p6 ?_
  ·refine tO (Qk bs ?_);rw[Hq];exact SE
  ·rw[p3,HD];exact Wy.b0.symm
  ·rw[p4,Gh];exact Wy.b1.symm
  ·refine s_ λi a b h1 h2 q hq=>?_
   have:=bc h1 h2 q hq;have e:ae a b q=- ae b a q:=by unfold ae;grind
   rw[e];lia
  ·exact λp hp=>Fd.mp (bs.subset hp)
 rw[low,up,ec,tM B,bT,sO];have tne:T≠[]:=λe=>by have:=Wy.lt;rw[e]at this;simp at this
 have eT:T=T.dropLast++[mx]:=by
  have h:T.getLast tne=mx:=by
   have:=Wy.t1;rw[<-Gh,GW tne]at this;exact FV this
  rw[<-h];exact (GC tne).symm
 have eB:B=B.dropLast++[mn]:=by
  have h:B.getLast bne=mn:=by
   have:=Wy.b1;rw[<-Gh,GW bne]at this;exact FV this
  rw[<-h];exact (GC bne).symm
 obtain⟨t,eT'⟩:∃t,T.dropLast=mn::t:=by
  have l:=Wy.lt;have h0:=Wy.t0
  match T,l,h0 with
  |a::b::r,_,h0=>cases h0;exact⟨(b::r).dropLast,rfl⟩
  |[_],l,_=>simp at l
  |[],l,_=>simp at l
 obtain⟨v,eB'⟩:∃v,B.dropLast=mx::v:=by
  have l:=Wy.lb;have h0:=Wy.b0
  match B,l,h0 with
  |a::b::r,_,h0=>cases h0;exact⟨(b::r).dropLast,rfl⟩
  |[_],l,_=>simp at l
  |[],l,_=>simp at l
 rw[eT']at eT |-;rw[eB']at eB |-;obtain⟨z,hz⟩:∃z,(mx::v).getLast?=some z:=⟨_,GW (by simp)⟩
 have hz2:(mn::(t++mx::v)).getLast?=some z:=by
  rw[<-HC,List.getLast?_append,hz];rfl
 rw[HC,xq hz2,<-HC,i7,eT,eB]
 have e3:cZ (mx::v++[mn])=cZ (mx::v)+crs (z,mn):=by
  obtain⟨w,hw⟩:∃w,mx::v=w++[z]:=by
   have hn:mx::v≠[]:=by simp
   refine⟨(mx::v).dropLast,?_⟩;have:(mx::v).getLast hn=z:=by rw[GW hn]at hz;exact FV hz
   rw[<-this];exact (GC hn).symm
  rw[hw,Fi];show cZ (w++z::[mn])=_;rw[i7];simp[cZ]
 rw[e3];lia
structure TOk(s:Int)(row:List P2)(t:Tri):Prop where
 ma:t.1∈row
 mb:t.2.1∈row
 mP:t.2.2∈row
 ab:plt t.1 t.2.1
 bP:plt t.2.1 t.2.2
 d:0<s*j4 t
 cov:∀q∈row,plt q t.2.2->s*ae t.1 t.2.1 q<=0/\(s*ae t.1 t.2.1 q=0->plt t.1 q->plt q t.2.1->False)
theorem Bt{s:Int}(hs:s=1\/s=-1){done:List P2}{P:P2}(hP:∀q∈done,plt q P):∀st:List P2,DW s done st P->∀t∈du s P st,TOk s (done++[P]) t
 |[],_,t,h=>by cases h
 |[_],_,t,h=>by cases h
 |b::a::r,D,t,h=>by
  rw[du]at h;split at h
  ·rename_i k
   rcases E1.mp h with e |e
   ·subst e;have ma:=D.sub a (by simp)
    have mb:=D.sub b (by simp)
    refine⟨FH _ ma,FH _ mb,by simp,D.desc.1,hP b mb,k,λq hq QL=>?_⟩
    rcases Fn.mp hq with y |y
    ·exact D.cov.1 q y
    ·rw[E9.mp y]at QL;have hlt':plt P P:=QL;unfold plt at hlt';lia
   ·exact Bt hs hP (a::r) (sJ hs hP D k) t e
  ·cases h
theorem yo{s:Int}{row:List P2}{P:P2}(hP:∀q∈row,plt q P){t:Tri}(h:TOk s row t):TOk s (row++[P]) t:=by
 refine⟨FH _ h.ma,FH _ h.mb,FH _ h.mP,h.ab,h.bP,h.d,λq hq QL=>?_⟩
 rcases Fn.mp hq with y |y
 ·exact h.cov q y QL
 ·rw[E9.mp y]at QL;have:=hP _ h.mP;unfold plt at *;lia
theorem iu{s:Int}(hs:s=1\/s=-1):∀row:List P2,row.Pairwise plt->∀t∈(br s row).2,TOk s row t:=by
 refine fP (λ_ t h=>by cases h) λl P ih hs2 t ht=>?_
 obtain⟨h1,h2⟩:=gd hs2;rw[dL]at ht;rcases Fn.mp (show t∈(br s l).2++du s P (br s l).1 from ht) with k |k
 ·exact yo h2 (ih h1 t k)
 ·by_cases hl:l=[]
  ·subst hl;cases k
  ·refine Bt hs h2 _ ⟨wK hs l h1 hl,λh r e q hq QL=>?_⟩ t k
   have e2:l=l.dropLast++[l.getLast hl]:=(GC hl).symm;have hd:=jx s l.dropLast (l.getLast hl);rw[<-e2,e]at hd;have eh:h=l.getLast hl:=by simpa using hd
   rw[eh]at QL;rw[e2]at h1 hq
   exfalso
   rcases Fn.mp hq with k |k
   ·have:=(gd h1).2 q k;unfold plt at *;lia
   ·rw[E9.mp k]at QL;unfold plt at QL;lia
theorem l7{s:Int}(hs:s=1\/s=-1){row:List P2}{t:Tri}(h:TOk s row t){p:P2}(hp:p∈row)(h1:0<=s*ae t.1 t.2.1 p)(h2:0<=s*ae t.2.1 t.2.2 p)(h3:0<=s*ae t.2.2 t.1 p):p=t.1\/p=t.2.1\/p=t.2.2:=by
 obtain⟨a,b,P⟩:=t;have ab:=h.ab;have bP:=h.bP;have d:=h.d;have cv:=h.cov p hp;dsimp only at *;unfold j4 at d;dsimp only at d;have sum:s*ae a b p+s*ae b P p+s*ae P a p=s*ae a b P:=by unfold ae;grind
 have x1:s*ae a b P*(P.1-p.1)=s*ae b P p*(P.1-a.1)+s*ae P a p*(P.1-b.1):=by unfold ae;grind
 have x2:s*ae a b P*(P.2-p.2)=s*ae b P p*(P.2-a.2)+s*ae P a p*(P.2-b.2):=by unfold ae;grind
 have y1:s*ae a b P*(p.1-a.1)=s*ae P a p*(b.1-a.1)+s*ae a b p*(P.1-a.1):=by unfold ae;grind
 have y2:s*ae a b P*(p.2-a.2)=s*ae P a p*(b.2-a.2)+s*ae a b p*(P.2-a.2):=by unfold ae;grind
 have z1:s*ae a b P*(b.1-p.1)=s*ae b P p*(b.1-a.1)-s*ae a b p*(P.1-b.1):=by unfold ae;grind
 have z2:s*ae a b P*(b.2-p.2)=s*ae b P p*(b.2-a.2)-s*ae a b p*(P.2-b.2):=by unfold ae;grind
 generalize s*ae a b P=D at *;generalize s*ae b P p=α at *;generalize s*ae P a p=β at *;generalize s*ae a b p=γ at *;have aP:=bu ab bP
 have zero:∀{x:Int},D*x=0->x=0:=λ{x} e=>by
  rcases Ga.mp e with k |k
  ·lia
  ·exact k
 have neg:∀{x:Int},0<=D*x->0<=x:=λ{x} e=>by
  rcases Gm x 0 with k |k
  ·have:=Int.mul_neg_of_pos_of_neg d k;lia
  ·exact k
 have TH:∀{x:Int},0<D*x->0<x:=λ{x} e=>by
  rcases Gm 0 x with k |k
  ·exact k
  ·have:=Ht (show 0<=D by lia) k
   lia
 have lex:∀{u1 u2 v1 v2:Int},cG u1 u2->cG v1 v2->∀{m n:Int},0<=m->0<=n->(m*u1+n*v1=0/\m*u2+n*v2=0/\m=0/\n=0)\/cG (m*u1+n*v1) (m*u2+n*v2):=λ{u1 u2 v1 v2} hu hv {m n} hm hn=>by
  by_cases m0:m=0
  ·by_cases n0:n=0
   ·subst m0;subst n0;left;simp
   ·subst m0
    right
    unfold cG at *;rcases hv with k |⟨k1,k2⟩
    ·left;have:=FO (show 0<n by lia) k;lia
    ·right;rw[k1];have:=FO (show 0<n by lia) k2;exact⟨by lia,by lia⟩
  ·right
   unfold cG at *;have mp:0<m:=by lia
   rcases hu with k |⟨k1,k2⟩
   ·left
    have:=FO mp k;have:0<=n*v1:=Fc hn (by lia)
    lia
   ·rcases hv with j |⟨j1,j2⟩
    ·by_cases n0:n=0
     ·subst n0;right;rw[k1];have:=FO mp k2;exact⟨by lia,by lia⟩
     ·left;rw[k1];have:=FO (show 0<n by lia) j;lia
    ·right
     rw[k1,j1];have:=FO mp k2;have:0<=n*v2:=Fc hn (by lia)
     exact⟨by lia,by lia⟩
 by_cases hpP:p=P
 ·exact .inr (.inr hpP)
 have ltP:plt p P:=by
  rcases lex (aD aP) (aD bP) h2 h3 with ⟨e1,e2,_⟩ |k
  ·rw[<-x1]at e1;rw[<-x2]at e2;have e1:=zero e1;have e2:=zero e2;exact absurd (Gf (by lia) (by lia)) hpP
  ·rw[<-x1,<-x2]at k;unfold cG at k;unfold plt;rcases k with k |⟨k1,k2⟩
   ·have:=TH k;lia
   ·have:=zero k1;have:=TH k2;lia
 obtain⟨g1,g2⟩:=cv ltP;have g0:γ=0:=by lia
 rw[g0]at y1 y2 z1 z2;simp only[Ih,Jp,MY]at y1 y2 z1 z2;by_cases b0:β=0
 ·rw[b0,Ih]at y1 y2;have e1:=zero y1;have e2:=zero y2;exact .inl (Gf (by lia) (by lia))
 by_cases a0:α=0
 ·rw[a0,Ih]at z1 z2;have e1:=zero z1;have e2:=zero z2;exact .inr (.inl (Gf (by lia) (by lia)))
 have l:=aD ab
 have mid:∀{m x1 x2:Int},0<m->D*x1=m*(b.1-a.1)->D*x2=m*(b.2-a.2)->cG x1 x2:=λ{m x1 x2} hm e1 e2=>by
  unfold cG at l |-;rcases l with k |⟨k1,k2⟩
  ·left;apply TH;rw[e1];exact FO hm k
  ·right
   rw[k1,HS]at e1;exact⟨zero e1,TH (by rw[e2];exact FO hm k2)⟩
 have m1:=mid (show 0<β by lia) y1 y2
 have m2:=mid (show 0<α by lia) z1 z2
 refine (g2 g0 ?_ ?_).elim
 ·unfold cG at m1;unfold plt;lia
 ·unfold cG at m2;unfold plt;lia
theorem uC {s:Int} (hs:s=1∨s=-1) {row:List P2} (hr:row.Pairwise plt) (conv:∀a b c p:P2,a∈row→b∈row→c∈row→0<ae a b c→0≤ae a b p→0≤ae b c p→0≤ae c a p→p∈row):∀t∈(br s row).2,j4 t=s:=λt ht=>by
 have K:=iu hs row hr t ht;have d:=K.d;rcases hs with e |e <;>subst e
 ·have d1:0<ae t.1 t.2.1 t.2.2:=by unfold j4 at d;lia
  refine uu d1 λp h1 h2 h3=>?_
  exact l7 (.inl rfl) K (conv _ _ _ p K.ma K.mb K.mP d1 h1 h2 h3) (by lia) (by lia) (by lia)
 ·have e1:ae t.2.1 t.1 t.2.2=- j4 t:=by unfold j4 ae;grind
  have d1:0<ae t.2.1 t.1 t.2.2:=by rw[e1];lia
  have:=uu d1 λp h1 h2 h3=>by
   have mp:=conv _ _ _ p K.mb K.ma K.mP d1 h1 h2 h3
   have f1:ae t.1 t.2.1 p=- ae t.2.1 t.1 p:=by unfold ae;grind
   have f2:ae t.2.1 t.2.2 p=- ae t.2.2 t.2.1 p:=by unfold ae;grind
   have f3:ae t.2.2 t.1 p=- ae t.1 t.2.2 p:=by unfold ae;grind
   rcases l7 (.inr rfl) K mp (by rw[f1];lia) (by rw[f2];lia) (by rw[f3];lia) with k |k |k
   ·exact .inr (.inl k)
   ·exact .inl k
   ·exact .inr (.inr k)
  rw[e1]at this;lia
theorem iT{c:Int}:∀{l:List Tri},(∀t∈l,j4 t=c)->(l.map j4).sum=c*(l.length:Int)
 |[],_=>by simp
 |t::l,h=>by
  rw[Ft,HM,h t E3,iT λx hx=>h x (ET _ hx),FN]
  grind
theorem v5 {pts:List P2} (h2:2≤(ST.srt pts).length) (conv:∀a b c p:P2,a∈ST.srt pts→b∈ST.srt pts→c∈ST.srt pts→0<ae a b c→0≤ae a b p→0≤ae b c p→0≤ae c a p→p∈ST.srt pts):
  (((br 1 (ST.srt pts)).2.length+(br (-1) (ST.srt pts)).2.length:Nat):Int)=area (ao pts):=by
 have SE:(ST.srt pts).Pairwise plt:=(ST.srt_asc pts).imp λ{a b} h=>by
  unfold ST.ltP at h;unfold plt;simpa using h
 have a:=vS h2;have c1:=t5 1 (ST.srt pts);have c2:=t5 (-1) (ST.srt pts)
 rw[iT (uC (.inl rfl) SE conv)]at c1
 rw[iT (uC (.inr rfl) SE conv)]at c2
 lia
theorem om(s:Int)(P:P2):∀st:List P2,(du s P st).map (λt=>t.2.1)++cH s P st=st
 |[]=>rfl
 |[_]=>rfl
 |b::a::r=>by
  by_cases h:0<s*ae a b P
  ·rw[cH,du,if_pos h,if_pos h,Ft,HC,om s P (a::r)]
  ·rw[cH,du,if_neg h,if_neg h];rfl
theorem mV(s:Int):∀row:List P2,KJ ((br s row).2.map (λt=>t.2.1)++(br s row).1) row:=by
 refine fP (LC _) λl P ih=>?_
 rw[dL];show KJ (((br s l).2++du s P (br s l).1).map (λt=>t.2.1)++(P::cH s P (br s l).1)) (l++[P])
 have e:=om s P (br s l).1;rw[F4,Fi]
 have k:KJ ((du s P (br s l).1).map (λt=>t.2.1)++(P::cH s P (br s l).1)) ((br s l).1++[P]):=by
  refine Mj.trans ?_;rw[e];exact (Lo P _).symm
 refine (HR _ k).trans ?_;rw[<-Fi];exact ih.append_right [P]
theorem yR(s:Int){row:List P2}(h:row.Nodup):((br s row).2.map (λt=>t.2.1)).Nodup:=by
 have:=(mV s row).nodup_iff.mpr h;exact (G8.mp this).1
theorem zB{row:List P2}(hr:row.Pairwise plt)(hn:row.Nodup):((br 1 row).2++(br (-1) row).2).Nodup:=by
 refine G8.mpr ⟨?_,?_,λt h1 u h2 e=>?_⟩
 ·exact (FR.mp (yR 1 hn)).imp λ{a b} k e=>k (by rw[e])
 ·exact (FR.mp (yR (-1) hn)).imp λ{a b} k e=>k (by rw[e])
 ·subst e;have d1:=(iu (.inl rfl) row hr t h1).d;have d2:=(iu (.inr rfl) row hr t h2).d;lia
theorem yL(s n:Int)(hs:s=1\/s=-1):decide (sgn n=s)=decide (0<s*n):=by
 refine decide_eq_decide.mpr ?_;unfold sgn;rcases hs with rfl |rfl <;>(repeat' split) <;>lia
def i_(t:Tri):ST3.TR:=if 0<ae t.1 t.2.1 t.2.2 then (t.1,t.2.1,t.2.2) else (t.1,t.2.2,t.2.1)
theorem oR{a b c:P2}(h1:plt a b)(h2:plt b c)(h:ae a b c≠0):ao [a,b,c]=[(i_ (a,b,c)).1,(i_ (a,b,c)).2.1,(i_ (a,b,c)).2.2]:=by
 have h13:=bu h1 h2
 have hs:ST.srt [a,b,c]=[a,b,c]:=ST.asc_srt (by
  refine .cons (λx hx=>?_) (.cons (λx hx=>?_) (.cons (λx hx=>by simp at hx) .nil))
  ·simp at hx;rcases hx with rfl |rfl
   ·exact (fV _ _).mp h1
   ·exact (fV _ _).mp h13
  ·simp at hx;rw[hx];exact (fV _ _).mp h2)
 have hd:ae c b a=-ae a b c:=by unfold ae;grind
 unfold ao;rw[hs];unfold i_;by_cases k:0<ae a b c
 ·simp[am,aT,hd,k,show ¬ ae a b c<=0 by lia,show -ae a b c<=0 by lia]
 ·simp[am,aT,hd,k,show ae a b c<=0 by lia,show ¬ -ae a b c<=0 by lia]
theorem nS(s:Int)(row:List P2):(br s row).2.length+(br s row).1.length=row.length:=by
 have:=(mV s row).length_eq;rw[Fx,ES]at this;exact this
theorem Ax(s:Int)(row:List P2):∀q∈(br s row).1,q∈row:=λq hq=>(mV s row).mem_iff.mp (Fw _ hq)
def yj:List U->Out->Prop:=λus o=>∃(row:List P2) (s:Int),us=[lp row,.int s]/\(s=1\/s=-1)/\row.Pairwise plt/\(∀p∈row,Szp 2500 p)/\row.length<=200/\o=.new ((br s row).2.map λt=>trU (i_ t))
theorem j5(T:Txt w K mg):ba P w K mg base (CXF P w) 5 T.aax.a T.aax.d ["row","hand"] (spU K (yj)):=by
 refine bo T.aax.F fD (λus o h=>?_) (λQK A outer s H E O us o hr h=>?_)
 ·obtain⟨row,s,rfl,hs,hr',sz,hl,rfl⟩:=h;rfl
 obtain⟨row,s,rfl,hs,hr',sz,hl,rfl⟩:=h;refine Ws.nox ?_;refine af (iR (i:=2) fD.nd rfl (Or.inl rfl) (bg aF) ?_);refine af (iR (i:=3) fD.nd rfl (Or.inl rfl) (bg aF) ?_);refine af (gl (λz:List P2×List Tri=>[some (.val (lp row)),some (.val (.int s)),some (.own (z.1.reverse.map pu)),some (.own (z.2.map λt=>trU (i_ t))),none]) (λi z=>z=br s (row.take i)) rfl PassesOwn.never (dq (aa 0 rfl) (.inl rfl)) ?h0 ?hs ?hd)
 case h0=>exact⟨([],[]),rfl,rfl,rfl,rfl,rfl,trivial⟩
 case hs=>
  rintro H0 i x _ hx rfl;obtain⟨P,hP,mP,rfl⟩:=wd hx;have hi:i<row.length:=aH hP;have sP:=sz P mP;refine⟨_,(h9 (i:=4) fD.nd rfl (Or.inl rfl)),?_⟩;have tk:row.take (i+1)=row.take i++[P]:=by rw[JG,hP];rfl
  have hp:(row.take i++[P]).Pairwise plt:=by rw[<-tk];exact hr'.sublist (Kq _ _)
  obtain⟨hp1,hp2⟩:=gd hp;have lz:=nS s (row.take i);rw[I_]at lz
  have sub:∀q∈(br s (row.take i)).1,q∈row/\plt q P:=λq hq=>by
   have:=Ax s _ q hq;exact⟨Hy this,hp2 q this⟩
  have hdesc:fM (br s (row.take i)).1:=by
   by_cases h0:row.take i=[]
   ·rw[h0];exact trivial
   ·exact (wK hs _ hp1 h0).desc
  have suc:br s (row.take (i+1))=wst s (br s (row.take i)) P:=by rw[tk,dL]
  generalize br s (row.take i)=z at *;refine fX (λps=>SubP [some (.val (lp row)),some (.val (.int s)),some (.own ((cH s P z.1).reverse.map pu)),some (.own ((z.2++du s P z.1).map λt=>trU (i_ t))),some (.val (pu P))] ps) (iK (λy:List P2×List Tri=>[some (.val (lp row)),some (.val (.int s)),some (.own (y.1.reverse.map pu)),some (.own (y.2.map λt=>trU (i_ t))),some (.val (pu P))]) (λn y=>n=y.1.length/\cH s P y.1=cH s P z.1/\y.2++du s P y.1=z.2++du s P z.1/\(∀q∈y.1,q∈row/\plt q P)/\fM y.1/\y.2.length+y.1.length<=i) PassesOwn.never ?h0 ?hs) ?hj
  case h0=>exact⟨_,z,⟨rfl,rfl,rfl,sub,hdesc,by lia⟩,rfl,rfl,rfl,rfl,rfl,trivial⟩
  case hs=>
   rintro m ⟨y1,y2⟩ ⟨rfl,e1,e2,sb,ds,le⟩;dsimp only at e1 e2 sb ds le |-
   match y1,e1,e2,sb,ds,le with
   |[],e1,e2,sb,ds,le=>
    refine⟨false,?_,λh=>(nomatch h),λh ps QV=>?_⟩
    ·exact (Tw.t (iW (aR gI (eJ 2 rfl rfl T.aaH) ag) rfl))
    ·rw[<-e1,<-e2];simpa [cH,du] using QV
   |[b],e1,e2,sb,ds,le=>
    refine⟨false,?_,λh=>(nomatch h),λh ps QV=>?_⟩
    ·exact (Tw.t (iW (aR gI (eJ 2 rfl rfl T.aaH) ag) rfl))
    ·rw[<-e1,<-e2];simpa [cH,du] using QV
   |b::a::r,e1,e2,sb,ds,le=>
    have sa:=sz a (sb a (by simp)).1
    have sbb:=sz b (sb b (by simp)).1
    have pbP:=(sb b (by simp)).2
    have pab:plt a b:=ds.1;have l1:decide ((1:Int)<((((b::a::r).reverse.map pu).length:Nat):Int))=true:=decide_eq_true (by simp;lia)
    have up:∀{p:P2},Szp 2500 p->Szp 5000 p:=λh=>⟨h.1.mono (by decide),h.2.mono (by decide)⟩
    refine⟨decide ((1:Int)<((((b::a::r).reverse.map pu).length:Nat):Int)) && decide (sgn (ae a b P)=s),?_,λh=>?_,λh ps QV=>?_⟩
    ·exact (Tw.t (tL (aR gI (eJ 2 rfl rfl T.aaH) ag) (λhz=>(qC (aR cB (aA ((tJ T).mono (by decide)) hr rfl T.aa9.m T.aa9.F.kp T.aa9.b ay (ai (jg 2 rfl (bZ ag) (uD b a r)) (ai (jg 2 rfl (bZ ag) (sM b (a::r))) (ai (aa 4 rfl) au aj) bM) bM) ⟨a,b,P,rfl,up sa,up sbb,up sP,rfl⟩) (aa 1 rfl))))))
    ·rw[l1,Jx,yL s _ hs]at h;have hd:=dTb h;have hd0:ae a b P≠0:=λz=>by rw[z]at hd;simp at hd
     have ct:=oR pab pbP hd0
     refine af (c_ 3 rfl (AK (zW (.inl rfl)) rfl T.abA boot_tuple (ai (EvN.ev (ci ((kU T).mono (by decide)) hr rfl T.aaE.m T.aaE.F.kp T.aaE.b ay (ai (EvN.ev (bg (ak (jg 2 rfl (bZ ag) (uD b a r)) (ak (jg 2 rfl (bZ ag) (sM b (a::r))) (ak (aa 4 rfl) aF aj) bM) bM))) au BG) ⟨[a,b,P],rfl,λp hp=>by
      simp only[E1,JP,or_false]at hp;rcases hp with rfl |rfl |rfl
      ·exact up sa
      ·exact up sbb
      ·exact up sP,by simp,by simp,by rw[ct]⟩)) au aB)) (by rw[ES];exact aL (by simp at le;lia)) ?_)
     refine af (wF 2 rfl (by simp) (aI ?_))
     refine⟨_,(a::r,y2++[(a,b,P)]),?_,⟨rfl,?_,?_,λq hq=>sb q (ET _ hq),ds.2,?_⟩,rfl,rfl,?_,?_,rfl,trivial⟩
     ·simp
     ·rw[←e1];conv=>rhs;unfold cH
      rw[if_pos hd]
     ·rw[←e2];conv=>rhs;unfold du
      rw[if_pos hd];simp
     ·simp at le |-;lia
     ·exact congrArg (λl=>some (Sl.own l)) (by simp)
     ·exact congrArg (λl=>some (Sl.own l)) (by simp)
    ·rw[l1,Jx,yL s _ hs]at h;have hd:=dFb h
     have k1:cH s P (b::a::r)=b::a::r:=by conv=>lhs;unfold cH
                                          rw[if_neg hd]
     have k2:du s P (b::a::r)=[]:=by conv=>lhs;unfold du
                                     rw[if_neg hd]
     rw[<-e1,<-e2,k1,k2,GL];exact QV
  case hj=>
   intro ps QV;refine dk ?_ QV
   have kl:(cH s P z.1).length<=z.1.length:=by
    have:∀st:List P2,(cH s P st).length<=st.length:=λst=>by
     have:=congrArg Os (om s P st);rw[Fx]at this;lia
    exact this _
   refine af (c_ 2 rfl (aa 4 rfl) (by rw[ES,F5];exact aL (by lia)) (aI ?_))
   refine⟨_,rfl,rfl,rfl,?_,?_,trivial⟩
   ·exact congrArg (λl=>some (Sl.own l)) (by rw[suc];simp[wst])
   ·exact congrArg (λl=>some (Sl.own l)) (by rw[suc];rfl)
 case hd=>
  rintro q ps hq QV;refine dk ?_ QV;rw[ES]at hq;subst hq;rw[HX];refine af (qG 3 rfl ?_);exact rfl
theorem xX{n:Nat}{x a b:Int}(ha:Sz n a)(hb:Sz n b)(h1:a<=x)(h2:x<=b):Sz n x:=by
 rcases Gm x 0 with z |z
 ·exact ha.natle (by lia)
 ·exact hb.natle (by lia)
theorem zH{l:List P2}(QF:l≠[])(h:∀p∈l,Szp 150 p):loX l<=hiX l/\loY l<=hiY l/\Sz 150 (loX l)/\Sz 150 (hiX l)/\Sz 150 (loY l)/\Sz 150 (hiY l):=by
 have hx:l.map (·.1)≠[]:=by simpa using QF
 have hy:l.map (·.2)≠[]:=by simpa using QF
 obtain⟨q1,m1,e1⟩:=EZ.mp (cM hx).1;obtain⟨q2,m2,e2⟩:=EZ.mp (cY hx).1;obtain⟨q3,m3,e3⟩:=EZ.mp (cM hy).1;obtain⟨q4,m4,e4⟩:=EZ.mp (cY hy).1;have l1:=(cM hx).2 _ (cY hx).1;have l2:=(cM hy).2 _ (cY hy).1;refine⟨l1,l2,?_,?_,?_,?_⟩
 ·unfold loX;rw[<-e1];exact (h q1 m1).1
 ·unfold hiX;rw[<-e2];exact (h q2 m2).1
 ·unfold loY;rw[<-e3];exact (h q3 m3).2
 ·unfold hiY;rw[<-e4];exact (h q4 m4).2
theorem vC{Z P B q:P2}(hD:0<ae Z P B)(h1:ae Z P q=0)(h2:ae P B q=0):q=P:=by
 have f1:ae Z P B*(q.1-P.1)=0:=by
  have:ae Z P B*(q.1-P.1)=(B.1-P.1) *ae Z P q-(P.1-Z.1) *ae P B q:=by unfold ae;grind
  rw[this,h1,h2];simp
 have f2:ae Z P B*(q.2-P.2)=0:=by
  have:ae Z P B*(q.2-P.2)=(B.2-P.2) *ae Z P q-(P.2-Z.2) *ae P B q:=by unfold ae;grind
  rw[this,h1,h2];simp
 have g1:=(Ga.mp f1).resolve_left (by lia)
 have g2:=(Ga.mp f2).resolve_left (by lia)
 exact Gf (by lia) (by lia)
theorem BS{l:List P2}(h3:3<=(ao l).length){p q:P2}{a b:Int}(hp:p∈ao l)(hw:∀r∈ao l,r≠p->wth a b r<wth a b p)(hq:∀s∈sdl (ao l),0<=ae s.1 s.2 q)(ne:q≠p):wth a b q<wth a b p:=by
 obtain⟨Z,P,B,hZ,hB,QB,e,k1,k2⟩:=sV h3 a b;have mZ:=ce hZ;have mB:=ce hB;dsimp only at mZ mB
 have hP:P=p:=F2 λz=>by
  have w1:=hw P mZ.2 z;obtain⟨_,kk⟩:=jR a b (l:=ao l) (λz=>by rw[z]at h3;simp at h3)
  have:=kk p hp;lia
 subst hP
 have nZ:Z≠P:=fun z=>by subst z;have:ae Z Z B=0:=by unfold ae;grind
                        lia
 have nB:B≠P:=fun z=>by subst z;have:ae Z B B=0:=by unfold ae;grind
                        lia
 have wZ:=hw Z mZ.1 nZ;have wB:=hw B mB.2 nB;have i1:=hq _ hB;have i2:=hq _ hZ;dsimp only at i1 i2;have id:ae Z P B*(wth a b P-wth a b q)=ae P B q*(wth a b P-wth a b Z)+ae Z P q*(wth a b P-wth a b B):=by unfold ae wth;grind
 rcases Gm (wth a b q) (wth a b P) with z |z
 ·exact z
 ·exfalso
  have t1:0<=ae P B q*(wth a b P-wth a b Z):=Fc i1 (by lia)
  have t2:0<=ae Z P q*(wth a b P-wth a b B):=Fc i2 (by lia)
  have t3:ae Z P B*(wth a b P-wth a b q)<=0:=by
   have:=Fc (show 0<=ae Z P B by lia) (show 0<=wth a b q-wth a b P by lia)
   have e2:ae Z P B*(wth a b q-wth a b P)=-(ae Z P B*(wth a b P-wth a b q)):=by grind
   lia
  have z1:ae P B q*(wth a b P-wth a b Z)=0:=by omega
  have z2:ae Z P q*(wth a b P-wth a b B)=0:=by omega
  have d1:=(Ga.mp z1).resolve_right (by lia)
  have d2:=(Ga.mp z2).resolve_right (by lia)
  exact ne (vC QB d2 d1)
theorem mE{A B:List P2}(h:∀p,p∈A↔p∈B):ao A=ao B:=by
 have:ST.srt A=ST.srt B:=ST.asc_one (ST.srt_asc _) (ST.srt_asc _) λz=>by rw[ST.srt_mem,ST.srt_mem,h]
 unfold ao;rw[this]
theorem vq{l:List P2}(F:Fld l)(h3:3<=l.length):ao (bI l)=l:=by
 have hc:=F.cr;have Sm:3<=(ao l).length:=by rw[hc];exact h3
 have inl:∀q,q∈bI l↔∀s∈sdl (ao l),0<=ae s.1 s.2 q:=λq=>by rw[dg F,f6 h3,hc]
 have sub:∀p∈l,p∈bI l:=λp hp=>(inl p).mpr λs hs=>((gZ Sm).mp hs).2.2.2 p (by rw[hc];exact hp)
 have up:∀p∈l,p∈ao (bI l):=λp hp=>by
  obtain⟨_,a,b,hw⟩:=ck Sm (p:=p) (by rw[hc];exact hp)
  refine eF ⟨sub p hp,a,b,λq hq ne=>?_⟩
  exact BS Sm (by rw[hc];exact hp) (λr hr=>hw r (be _ r hr)) ((inl q).mp hq) ne
 have c3:3<=(ao (bI l)).length:=by
  have nd:l.Nodup:=by rw[<-hc];exact bh l
  exact GY h3 (L2.nd_len nd up)
 have dn:∀p∈ao (bI l),p∈l:=λp hp=>F2 λz=>by
  obtain⟨hm,a,b,hw⟩:=ck c3 hp;have pk:=B2 Sm a b ((inl p).mp hm);obtain⟨⟨q,hq,e⟩,_⟩:=jR a b (l:=ao l) (λz=>by rw[z]at Sm;simp at Sm)
  rw[hc]at hq;have:=hw q (sub q hq) λe=>z (e ▸ hq)
  lia
 rw[<-cO (bI l),mE λp=>⟨dn p,up p⟩,hc]
theorem vy{l:List P2}(F:Fld l)(h3:3<=l.length):∀a b c p:P2,a∈bI l->b∈bI l->c∈bI l->0<ae a b c->0<=ae a b p->0<=ae b c p->0<=ae c a p->p∈bI l:=λa b c p ha hb hc hd h1 h2 h4=>by
 have inl:∀q,q∈bI l↔∀s∈sdl l,0<=ae s.1 s.2 q:=λq=>by rw[dg F,f6 h3]
 rw[inl]at *;intro s hs;have a1:=ha s hs;have b1:=hb s hs;have c1:=hc s hs;have id:ae a b c*ae s.1 s.2 p=ae s.1 s.2 a*ae b c p+ae s.1 s.2 b*ae c a p+ae s.1 s.2 c*ae a b p:=by unfold ae;grind
 have t1:=Fc a1 h2;have t2:=Fc b1 h4;have t3:=Fc c1 h1;rcases Gm (ae s.1 s.2 p) 0 with z |z
 ·exfalso
  have:=FO hd (show 0 < -ae s.1 s.2 p by lia)
  have e:ae a b c* -ae s.1 s.2 p=-(ae a b c*ae s.1 s.2 p):=by grind
  lia
 ·exact z
theorem iN(l:List P2):(bI l).Pairwise plt:=(ST.srt_asc _).imp λ{a b} h=>(fV a b).mpr h
def rF(l:List P2):List Tri:=(br 1 (bI l)).2++(br (-1) (bI l)).2
def pcs(l:List P2):List ST3.TR:=(rF l).map i_
theorem yS(l:List P2):(pcs l).Nodup:=by
 have hp:=iN l;have nd:(bI l).Nodup:=hp.imp λ{a b} h e=>by subst e;exact a_ a h
 unfold pcs;refine FR.mpr ((zB hp nd).imp_of_mem λ{x y} hx hy ne e=>ne ?_)
 have key:∀t,t∈rF l->plt t.1 t.2.1/\plt t.2.1 t.2.2:=λt ht=>by
  rcases Fn.mp ht with h |h
  ·have:=iu (.inl rfl) _ hp t h;exact⟨this.ab,this.bP⟩
  ·have:=iu (.inr rfl) _ hp t h;exact⟨this.ab,this.bP⟩
 obtain⟨x1,x2⟩:=key x hx;obtain⟨y1,y2⟩:=key y hy;obtain⟨a,b,c⟩:=x;obtain⟨a',b',c'⟩:=y;unfold i_ at e;dsimp only at *;split at e <;>split at e <;>simp only[ND]at e
 ·obtain⟨rfl,rfl,rfl⟩:=e;rfl
 ·obtain⟨rfl,rfl,rfl⟩:=e;exact absurd (bu x2 y2) (a_ _)
 ·obtain⟨rfl,rfl,rfl⟩:=e;exact absurd (bu x2 y2) (a_ _)
 ·obtain⟨rfl,rfl,rfl⟩:=e;rfl
theorem AH(l:List P2):(rF l).length<=2*(bI l).length:=by
 unfold rF;have h1:=nS 1 (bI l);have h2:=nS (-1) (bI l);rw[Fx];lia
theorem yA{l:List P2}(F:Fld l)(h3:3<=l.length):(((SG.srt ST3.KT (pcs l)).length:Nat):Int)=area l:=by
 have e:(SG.srt ST3.KT (pcs l)).length=(pcs l).length:=by
  refine ((GJ ?_ (yS l)).mpr λz=>SG.srt_mem _ z _).length_eq
  exact (SG.srt_asc ST3.KT _).imp λ{a b} h e=>by subst e;rw[SG.irr]at h;cases h
 have hc:=vq F h3
 have h2:2<=(ST.srt (bI l)).length:=by
  have:=ig (bI l);rw[hc]at this;rw[ST.asc_srt (show ST.Asc (bI l) from ST.srt_asc _)]
  lia
 have:=v5 (pts:=bI l) h2 (by rw[ST.asc_srt (show ST.Asc (bI l) from ST.srt_asc _)];exact vy F h3)
 rw[ST.asc_srt (show ST.Asc (bI l) from ST.srt_asc _),hc]at this
 rw[e,pcs,ES,rF,Fx];exact this
def qv(C:E6):List U->Out->Prop:=λus o=>∃l:List P2,us=[lp l]/\Fld l/\3<=l.length/\l.length<64/\(∀p∈l,Szp 1500 p)/\((fG l<=100/\(bI l).length<=100/\(∀p∈l,Szp 150 p)/\o=.new ((SG.srt ST3.KT (pcs l)).map trU))\/(100<fG l/\o=.exc C))
theorem l_(T:Txt w K mg):ba P w K mg base (CXF P w) 9 T.aaN.a T.aaN.d ["land"] (spU K (qv T.aac.c)):=by
 refine bo T.aaN.F i9 (by rintro us o ⟨_,rfl,_⟩;rfl) (λQK A outer s H E O us o hr h=>?_)
 obtain⟨l,rfl,F,h3,hl,sz,h⟩:=h;have hm:((l.map pu).length:Int)=(l.length:Int):=by rw[ES]
 rcases h with ⟨hc,fl,sz1,rfl⟩ |⟨hc,rfl⟩
 ·refine Ws.nox ?_;have rl:=AH l
  have fz:∀p∈bI l,Szp 2500 p:=λp hp=>by
   have q:=(fe F.ne).mp (F.in_box ((dg F p).mp hp));obtain⟨_,_,w1,w2,w3,w4⟩:=zH F.ne sz1;exact⟨(xX w1 w2 q.1.1 q.1.2).mono (by decide),(xX w3 w4 q.2.1 q.2.2).mono (by decide)⟩
  refine af (aw (i:=1) i9.nd rfl (Or.inl rfl) (EvN.ev (ci ((gF T).mono (by decide)) hr rfl T.aan.m T.aan.F.kp T.aan.b ay (ai (aa 0 rfl) au aj) ⟨l,rfl,F,hl,sz,.inl ⟨hc,fl,sz1,rfl⟩⟩)) ?_)
  refine af (cE (aR cB (aG (dS rfl) rfl T.aaH GA (ai (aa 0 rfl) au aj)) ag) (by rw[hm];exact decide_eq_false (by lia)) (aI ?_))
  refine af (cE (aR cB (aG (dS rfl) rfl T.aaH GA (ai (aa 0 rfl) au aj)) ag) (by rw[hm];exact decide_eq_false (by lia)) (aI ?_))
  have hpc:U.lst (((br 1 (bI l)).2.map λt=>trU (i_ t))++((br (-1) (bI l)).2.map λt=>trU (i_ t)))=U.lst ((pcs l).map trU):=by
   unfold pcs rF;rw[FP,F4];rfl
  refine af (fq (o_ ST3.KT trU t0 (trs:=pcs l) Es (λa b=>ST3.KT_det a b) rfl T.aa4 (gu hr) (ir hpc (EvN.ev (gj (EvN.ev (ci ((j5 T).mono (by decide)) hr rfl T.aax.m T.aax.F.kp T.aax.b ay (ai (aa 1 rfl) (ai ag au aC) aj) ⟨bI l,1,rfl,.inl rfl,iN l,fz,by lia,rfl⟩)) (EvN.ev (ci ((j5 T).mono (by decide)) hr rfl T.aax.m T.aax.F.kp T.aax.b ay (ai (aa 1 rfl) (ai (bZ ag) au g6) aj) ⟨bI l,-1,rfl,.inr rfl,iN l,fz,by lia,rfl⟩)) (by rw[ES,ES];exact Gw (aL (by unfold rF at rl;rw[Fx]at rl;lia)))))) ⟨by unfold pcs;rw[ES];lia,yS l⟩ bN) ?_)
  exact rfl
 ·refine af (zo (i:=1) i9.nd rfl (Or.inl rfl) (qL ((gF T).mono (by decide)) hr rfl T.aan.m T.aan.F.kp T.aan.b oC (ai (aa 0 rfl) au aj) ⟨l,rfl,F,hl,sz,.inr ⟨hc,rfl⟩⟩) ?_)
  exact rfl
def aQ(ns:List Int)(k:Int):Int:=if k<(ns.length:Int) then ns.getD k.toNat 0 else 0
theorem e9{ns:List Int}(h:∀m∈ns,Sz 1048576 m)(k:Int):Sz 1048576 (aQ ns k):=by
 unfold aQ;split
 ·exact ui h _
 ·exact Sz.mono (m:=8) (by decide) (by decide)
def vf:List U->Out->Prop:=λus o=>∃(ns:List Int) (k:Int),us=[.scr (ns.map U.int),.int k]/\0<=k/\o=.val (.int (aQ ns k))
theorem aN(T:Txt w K mg):ba P w K mg base (CXF P w) 1 T.aaa.a T.aaa.d ["script","k"] (spU K (vf)):=by
 refine bo T.aaa.F jt (λus o h=>?_) (λQK A outer s H E O us o hr h=>?_)
 ·obtain⟨ns,k,rfl,h0,rfl⟩:=h;rfl
 obtain⟨ns,k,rfl,h0,rfl⟩:=h;refine Ws.nox ?_;have hm:((ns.map U.int).length:Int)=(ns.length:Int):=by rw[ES]
 refine af (lv (aR jv (aa 1 rfl) (aG (dS rfl) rfl T.aaH GA (ai (aa 0 rfl) au aj))) (λhT=>?_) (λhF=>(aI ?_)))
 ·rw[hm]at hT;have hk:=dTb hT;refine af (bp (aJ (aa 0 rfl) (aa 1 rfl) rfl (pE h0 hk)) ?_);exact vIO (by unfold aQ;rw[if_pos hk])
 ·rw[hm]at hF;have hk:=dFb hF;refine af (bp ag ?_);exact vIO (by unfold aQ;rw[if_neg hk])
def qI:List U->Out->Prop:=λus o=>∃P Q R:P2,us=[pu P,pu Q,pu R]/\Szp 5000 P/\Szp 5000 Q/\Szp 5000 R/\o=.val (.int (ae P Q R))
theorem lE(T:Txt w K mg):ba P w K mg base (CXF P w) 1 T.aau.a T.aau.d ["one","two","three"] (spU K (qI)):=by
 refine bo T.aau.F gQ (λus o h=>?_) (λQK A outer s H E O us o hr h=>?_)
 ·obtain⟨P,Q,R,rfl,⟨p1,p2⟩,⟨q1,q2⟩,⟨r1,r2⟩,rfl⟩:=h;rfl
 obtain⟨P,Q,R,rfl,⟨p1,p2⟩,⟨q1,q2⟩,⟨r1,r2⟩,rfl⟩:=h;refine Ws.nox ?_;refine af (aw (i:=3) gQ.nd rfl (Or.inl rfl) (bn (bL (aJ (aa 1 rfl) ag rfl rfl) (aJ (aa 0 rfl) ag rfl rfl)) (bL (aJ (aa 2 rfl) ag rfl rfl) (aJ (aa 0 rfl) ag rfl rfl)) (by walk_at"mul")) ?_)
 refine af (bp (bL (aa 3 rfl) (bn (bL (aJ (aa 1 rfl) ag rfl rfl) (aJ (aa 0 rfl) ag rfl rfl)) (bL (aJ (aa 2 rfl) ag rfl rfl) (aJ (aa 0 rfl) ag rfl rfl)) (by walk_at"mul"))) ?_)
 exact rfl
def il(row:List P2)(j:Nat):List P2:=if j=0 then [] else if j=1 then (am row).reverse.dropLast else (am row).reverse.dropLast++(am row.reverse).reverse.dropLast
def lC:List U->Out->Prop:=λus o=>∃pts:List P2,us=[lp pts]/\(∀p∈pts,Szp 5000 p)/\pts.length<64/\2<=(ao pts).length/\o=.val (lp (ao pts))
theorem fK(T:Txt w K mg):ba P w K mg base (CXF P w) 2 T.aag.a T.aag.d ["points"] (spU K (lC)):=by
 refine bo T.aag.F bC (λus o h=>?_) (λQK A outer s H E O us o hr h=>?_)
 ·obtain⟨pts,rfl,sz,hl,hc2,rfl⟩:=h;rfl
 obtain⟨pts,rfl,sz,hl,hc2,rfl⟩:=h;refine Ws.nox ?_;have sl:=ST.srt_len pts;have hms:(((ST.srt pts).map pu).length:Int)=((ST.srt pts).length:Int):=by rw[ES]
 have szs:=yw sz;have b1:=gq (ST.srt pts);have b2:=gq (ST.srt pts).reverse;rw[F5]at b2;refine af (aw (i:=1) bC.nd rfl (Or.inl rfl) (EvN.ev (g8 rfl (gu hr) rfl T.aa4 rfl T.abD (aa 0 rfl) (by lia) aj)) ?_)
 have hs1:¬ (ST.srt pts).length=1:=λz=>by
  have:ao pts=ST.srt pts:=dX (by lia)
  rw[this]at hc2;lia
 have ec:ao pts=il (ST.srt pts) 2:=by unfold ao il;rw[if_neg hs1];rfl
 rw[ec];generalize ST.srt pts=row at *;refine af (aw (i:=2) bC.nd rfl (Or.inl rfl) (EvN.ev (bg aF)) ?_);refine af (gl (λj:Nat=>[some (.val (lp pts)),some (.val (lp row)),some (.val (lp (il row j))),none,none,none]) (λi j=>i=j) rfl PassesOwn.never (dq (EvN.ev (bg (ak (aa 1 rfl) (ak (EvN.ev (uW rfl rfl T.abf rfl T.aby (aa 1 rfl) aj)) aF aB) aj))) (.inl rfl)) ?h0 ?hs ?hd)
 case h0=>exact⟨0,rfl,rfl,rfl,rfl,trivial⟩
 case hs=>
  rintro H0 j x _ hx rfl
  have hz:∃w:List P2,x=lp w/\(∀p∈w,Szp 5000 p)/\w.length<=63/\il row (j+1)=il row j++(am w).reverse.dropLast/\(il row j).length<=63:=by
   match j,hx with
   |0,hx=>
    cases hx;exact⟨row,rfl,szs,by lia,by simp[il],by simp[il]⟩
   |1,hx=>
    have e:x=U.lst ((row.map pu).reverse):=by cases hx;rfl
    subst e;exact⟨row.reverse,by rw[lp,HB],λp hp=>szs p (Fd.mp hp),by rw[F5];lia,by simp[il],by simp[il];lia⟩
   |j+2,hx=>simp at hx
  obtain⟨w,rfl,wz,wl,Sv,Rv⟩:=hz;refine⟨_,(h9 (i:=3) bC.nd rfl (Or.inl rfl)),?_⟩;have bw:=gq w;refine af (iR (i:=4) bC.nd rfl (Or.inl rfl) (bg aF) ?_);refine fX (λps=>SubP [some (.val (lp pts)),some (.val (lp row)),some (.val (lp (il row j))),some (.val (lp w)),some (.own ((am w).reverse.map pu)),none] ps) (gl (λst:List P2=>[some (.val (lp pts)),some (.val (lp row)),some (.val (lp (il row j))),some (.val (lp w)),some (.own (st.reverse.map pu)),none]) (λi st=>st=am (w.take i)) rfl PassesOwn.never (dq (aa 3 rfl) (.inl rfl)) ?h02 ?hs2 ?hd2) ?hj
  case h02=>exact⟨[],rfl,rfl,rfl,rfl,rfl,rfl,trivial⟩
  case hs2=>
   rintro H0 i x _ hx rfl;obtain⟨P,hP,mP,rfl⟩:=wd hx;have hi:i<w.length:=aH hP;have sP:=wz P mP;refine⟨_,(h9 (i:=5) bC.nd rfl (Or.inl rfl)),?_⟩;have len0:=gw w i;refine fX (λps=>SubP [some (.val (lp pts)),some (.val (lp row)),some (.val (lp (il row j))),some (.val (lp w)),some (.own ((aT P (am (w.take i))).reverse.map pu)),some (.val (pu P))] ps) (iK (λs2:List P2=>[some (.val (lp pts)),some (.val (lp row)),some (.val (lp (il row j))),some (.val (lp w)),some (.own (s2.reverse.map pu)),some (.val (pu P))]) (λm s2=>m=s2.length/\aT P s2=aT P (am (w.take i))/\(∀p∈s2,p∈w)/\s2.length<=i) PassesOwn.never ?h03 ?hs3) ?hj3
   case h03=>exact⟨_,_,⟨rfl,rfl,λq hq=>eR w i q hq,len0⟩,rfl,rfl,rfl,rfl,rfl,rfl,trivial⟩
   case hs3=>
    rintro m s2 ⟨rfl,e2,sub,RL⟩
    match s2,e2,sub,RL with
    |[],e2,sub,RL=>
     refine⟨false,?_,λh=>(nomatch h),λh ps QV=>e2 ▸ QV⟩
     exact (Tw.t (iW (aR gI (eJ 4 rfl rfl T.aaH) ag) rfl))
    |[b],e2,sub,RL=>
     refine⟨false,?_,λh=>(nomatch h),λh ps QV=>e2 ▸ QV⟩
     exact (Tw.t (iW (aR gI (eJ 4 rfl rfl T.aaH) ag) rfl))
    |b::a::r,e2,sub,RL=>
     have sa:=wz a (sub a (by simp))
     have sb:=wz b (sub b (by simp))
     have e1:decide ((1:Int)<((((b::a::r).reverse.map pu).length:Nat):Int))=true:=decide_eq_true (by simp;lia)
     refine⟨decide ((1:Int)<((((b::a::r).reverse.map pu).length:Nat):Int)) && decide (ae a b P<=0),?_,λh=>?_,λh ps QV=>?_⟩
     ·exact (Tw.t (tL (aR gI (eJ 4 rfl rfl T.aaH) ag) (λhz=>(qC (aR Er (aA ((lE T).mono (by decide)) hr rfl T.aau.m T.aau.F.kp T.aau.b ay (ai (jg 4 rfl (bZ ag) (uD b a r)) (ai (jg 4 rfl (bZ ag) (sM b (a::r))) (ai (aa 5 rfl) au aj) bM) bM) ⟨a,b,P,rfl,sa,sb,sP,rfl⟩) ag)))))
     ·rw[e1,Jx]at h;have hd:=dTb h;refine af (wF 4 rfl (by simp) (aI ?_))
      refine⟨_,a::r,?_,⟨rfl,?_,λq hq=>sub q (ET _ hq),?_⟩,rfl,rfl,rfl,rfl,?_,rfl,trivial⟩
      ·simp
      ·rw[←e2];conv=>rhs;unfold aT
       rw[if_pos hd]
      ·simp only[FN]at *;lia
      ·exact congrArg (λl=>some (Sl.own l)) (by simp)
     ·rw[e1,Jx]at h;have hd:=dFb h
      have e3:aT P (b::a::r)=b::a::r:=by conv=>lhs;unfold aT
                                         rw[if_neg hd]
      rw[<-e2,e3];exact QV
   case hj3=>
    intro ps QV;refine dk ?_ QV;have e4:=fg hP;have TC:=jE P (am (w.take i));refine af (c_ 4 rfl (aa 5 rfl) (by rw[ES,F5];exact aL (by lia)) (aI ?_))
    refine⟨_,rfl,rfl,rfl,rfl,rfl,?_,trivial⟩;exact congrArg (λl=>some (Sl.own l)) (by rw[e4];simp)
  case hd2=>
   rintro st ps Q7 QV;rw[Q7]at QV;rw[ES,HX]at QV;exact QV
  case hj=>
   intro ps QV;refine dk ?_ QV;refine jY 4 rfl ?_;refine af (aw (i:=2) bC.nd rfl (Or.inl rfl) (EvN.ev (gj (aa 2 rfl) (EvN.ev (c8 (aa 4 rfl) fk (dZ (bZ ag)) (.inl rfl))) (by rw[i8,ES,ES,HZ,F5];exact Gw (aL (by lia))))) (aI ?_))
   rw[i8,<-F4,<-Sv];exact⟨j+1,rfl,rfl,rfl,rfl,trivial⟩
 case hd=>
  rintro q ps hq QV;refine dk ?_ QV;have:q=2:=by rw[<-hq];rfl
  subst this;refine af (bp (aa 2 rfl) ?_);exact rfl
def lnF(c:Int)(b:Bool):Int:=if b=true then c%9-4 else c%(2*10 ^ (20:Int).toNat+1)-10 ^ (20:Int).toNat
theorem iU(c:Int)(b:Bool):Sz 67 (lnF c b):=by
 unfold lnF;split
 ·exact Sz.mono (m:=8) (by unfold Sz;lia) (by decide)
 ·have h1:=Gs c (show (2*10 ^ (20:Int).toNat+1:Int)≠0 by decide+kernel)
  have h2:=Gb c (show (0:Int)<2*10 ^ (20:Int).toNat+1 by decide+kernel)
  have z:Sz 67 ((10:Int) ^ (20:Int).toNat):=by decide+kernel
  exact z.natle (by lia)
def vw:List U->Out->Prop:=λus o=>∃(c:Int) (b:Bool),us=[.int c,.bl b]/\Sz 1048576 c/\o=.val (.int (lnF c b))
theorem ii(T:Txt w K mg):ba P w K mg base (CXF P w) 1 T.aao.a T.aao.d ["cell","small"] (spU K (vw)):=by
 refine bo T.aao.F ov (λus o h=>?_) (λQK A outer s H E O us o hr h=>?_)
 ·obtain⟨c,b,rfl,sc,rfl⟩:=h;rfl
 obtain⟨c,b,rfl,sc,rfl⟩:=h;refine Ws.nox ?_;unfold lnF;cases b with
 |true=>
  refine af (gs (iG (aa 1 rfl)) rfl ?_);refine af (bp (bL (cf (aa 0 rfl) ag (by walk_at"mod")) ag) ?_)
  exact rfl
 |false=>
  refine af (cE (iG (aa 1 rfl)) rfl (aI ?_));refine af (bp (bL (cf (aa 0 rfl) (bH (bn ag (ik ag ag ⟨by decide,by decide,by decide⟩) (by walk_at"mul")) ag) (by decide+kernel)) (ik ag ag ⟨by decide,by decide,by decide⟩)) ?_)
  exact rfl
def shp(ns:List Int):Int:=aQ ns 1/400
def lA(ns:List Int):Int:=lnF (aQ ns 2) (decide (shp ns/2%2=1))
def lB(ns:List Int):Int:=lnF (aQ ns 3) (decide (shp ns/4%2=1))
def sR(ns:List Int):Int:=aQ ns 4%(2*10 ^ (40:Int).toNat+1)-10 ^ (40:Int).toNat
def sU(ns:List Int):Int:=aQ ns 5%(2*10 ^ (40:Int).toNat+1)-10 ^ (40:Int).toNat
def swF(ns:List Int)(p:P2):P2:=if shp ns%2=1 then (p.2,p.1) else p
def yF(ns:List Int)(p:P2):Int:=(swF ns p).2+lA ns*(swF ns p).1
def putF(ns:List Int)(p:P2):P2:=((swF ns p).1+lB ns*yF ns p+sR ns,yF ns p+sU ns)
theorem s40(c:Int):Sz 134 (c%(2*10 ^ (40:Int).toNat+1)-10 ^ (40:Int).toNat):=by
 have h1:=Gs c (show (2*10 ^ (40:Int).toNat+1:Int)≠0 by decide+kernel)
 have h2:=Gb c (show (0:Int)<2*10 ^ (40:Int).toNat+1 by decide+kernel)
 have z:Sz 134 ((10:Int) ^ (40:Int).toNat):=by decide+kernel
 exact z.natle (by lia)
theorem j9{m:Nat}{ns:List Int}{p:P2}(h:Szp m p):Szp m (swF ns p):=by
 unfold swF;split
 ·exact⟨h.2,h.1⟩
 ·exact h
theorem yN{ns:List Int}{p:P2}(h:Szp 140 p):Sz 210 (yF ns p):=(L2.Sz.add' ((j9 (ns:=ns) h).2.mono (n:=207) (by decide)) (L2.Sz.mul (iU _ _) (j9 (ns:=ns) h).1)).mono (by decide)
theorem oa{ns:List Int}{p:P2}(h:Szp 140 p):Szp 400 (putF ns p):=
 ⟨(L2.Sz.add' (L2.Sz.add' ((j9 (ns:=ns) h).1.mono (n:=277) (by decide)) (L2.Sz.mul (iU _ _) (yN h))) ((s40 _).mono (n:=278) (by decide))).mono (by decide),(L2.Sz.add' (yN h) ((s40 _).mono (n:=210) (by decide))).mono (by decide)⟩
theorem zn{ns:List Int}{p:P2}(h:Szp 8 p):Sz 76 (yF ns p):=(L2.Sz.add' ((j9 (ns:=ns) h).2.mono (n:=75) (by decide)) (L2.Sz.mul (iU _ _) (j9 (ns:=ns) h).1)).mono (by decide)
theorem uH{ns:List Int}{p:P2}(h:Szp 8 p):Szp 150 (putF ns p):=
 ⟨(L2.Sz.add' (L2.Sz.add' ((j9 (ns:=ns) h).1.mono (n:=143) (by decide)) (L2.Sz.mul (iU _ _) (zn h))) ((s40 _).mono (n:=144) (by decide))).mono (by decide),(L2.Sz.add' ((zn h).mono (n:=134) (by decide)) (s40 _)).mono (by decide)⟩
theorem C6(ns:List Int):∃a b c d e f:Int,(a*d-b*c=1\/a*d-b*c=-1)/\putF ns=ap a b c d e f:=by
 by_cases h:shp ns%2=1
 ·refine⟨lB ns,1+lA ns*lB ns,1,lA ns,sR ns,sU ns,.inr (by grind),funext λp=>?_⟩
  unfold putF yF swF ap;rw[if_pos h];refine Gf ?_ ?_ <;>dsimp only <;>grind
 ·refine⟨1+lA ns*lB ns,lB ns,lA ns,1,sR ns,sU ns,.inl (by grind),funext λp=>?_⟩
  unfold putF yF swF ap;rw[if_neg h];refine Gf ?_ ?_ <;>dsimp only <;>grind
def xU:List U->Out->Prop:=λus o=>∃(p:P2) (ns:List Int),us=[pu p,.scr (ns.map U.int)]/\(∀m∈ns,Sz 1048576 m)/\Szp 140 p/\o=.val (pu (putF ns p))
theorem jj(T:Txt w K mg):ba P w K mg base (CXF P w) 2 T.aat.a T.aat.d ["spot","script"] (spU K (xU)):=by
 refine bo T.aat.F bQ (λus o h=>?_) (λQK A outer s H E O us o hr h=>?_)
 ·obtain⟨p,ns,rfl,hB,sp,rfl⟩:=h;rfl
 obtain⟨p,ns,rfl,hB,sp,rfl⟩:=h;refine Ws.nox ?_;have c1:=e9 hB 2;have c2:=e9 hB 3;have w:=j9 (ns:=ns) sp;have w1:=w.1;have w2:=w.2;have yz:=yN (ns:=ns) sp;have az:Sz 67 (lA ns):=iU _ _;have bz:Sz 67 (lB ns):=iU _ _;refine af (xV (aa 0 rfl) (sZ [2,3] rfl (bW (bv (i:=2) bQ.nd rfl (Or.inl rfl)) (bW (bv (i:=3) bQ.nd rfl (Or.inl rfl)) gB)) rfl) ?_);refine af (aw (i:=4) bQ.nd rfl (Or.inl rfl) (cT (aA ((aN T).mono (by decide)) hr rfl T.aaa.m T.aaa.F.kp T.aaa.b ay (ai (aa 1 rfl) (ai ag au aC) aj) ⟨ns,_,rfl,by decide,rfl⟩) ag (by walk_at"div")) ?_)
 rw[show aQ ns 1/400=shp ns from rfl]
 refine fX (λps=>SubP [some (.val (pu p)),some (.val (.scr (ns.map U.int))),some (.val (.int (swF ns p).1)),some (.val (.int (swF ns p).2)),some (.val (.int (shp ns))),none,none] ps) (lv (aR cB (cf (aa 4 rfl) ag (by walk_at"mod")) ag) (λhT=>?_) (λhF=>(aI ?_))) ?hj
 ·have e:swF ns p=(p.2,p.1):=by unfold swF;rw[if_pos (dTb hT)]
  refine af (D3 (i:=2) (j:=3) rfl bQ.nd rfl rfl (by decide) rfl rfl (ai (aa 3 rfl) (ai (aa 2 rfl) au aj) aj) rfl (aI ?_))
  rw[e];exact⟨rfl,rfl,rfl,rfl,rfl,trivial⟩
 ·have e:swF ns p=p:=by unfold swF;rw[if_neg (dFb hF)]
  rw[e];exact⟨rfl,rfl,rfl,rfl,rfl,trivial⟩
 case hj=>
  intro ps QV;refine dk ?_ QV;refine af (aw (i:=3) bQ.nd rfl (Or.inl rfl) (bH (aa 3 rfl) (bn (aA ((ii T).mono (by decide)) hr rfl T.aao.m T.aao.F.kp T.aao.b ay (ai (aA ((aN T).mono (by decide)) hr rfl T.aaa.m T.aaa.F.kp T.aaa.b ay (ai (aa 1 rfl) (ai ag au aC) aj) ⟨ns,_,rfl,by decide,rfl⟩) (ai (eP cB (cf (cT (aa 4 rfl) ag (by walk_at"div")) ag (by walk_at"mod")) ag) au xj) aB) ⟨_,_,rfl,c1,rfl⟩) (aa 2 rfl) (L2.Sz.ok az w1 (by decide)))) ?_)
  refine af (aw (i:=2) bQ.nd rfl (Or.inl rfl) (bH (aa 2 rfl) (bn (aA ((ii T).mono (by decide)) hr rfl T.aao.m T.aao.F.kp T.aao.b ay (ai (aA ((aN T).mono (by decide)) hr rfl T.aaa.m T.aaa.F.kp T.aaa.b ay (ai (aa 1 rfl) (ai ag au aC) aj) ⟨ns,_,rfl,by decide,rfl⟩) (ai (eP cB (cf (cT (aa 4 rfl) ag (by walk_at"div")) ag (by walk_at"mod")) ag) au xj) aB) ⟨_,_,rfl,c2,rfl⟩) (aa 3 rfl) (L2.Sz.ok bz yz (by decide)))) ?_)
  refine af (aw (i:=5) bQ.nd rfl (Or.inl rfl) (bL (cf (aA ((aN T).mono (by decide)) hr rfl T.aaa.m T.aaa.F.kp T.aaa.b ay (ai (aa 1 rfl) (ai ag au aC) aj) ⟨ns,_,rfl,by decide,rfl⟩) (bH (bn ag (ik ag ag ⟨by decide,by decide,by decide⟩) (by walk_at"mul")) ag) (by decide+kernel)) (ik ag ag ⟨by decide,by decide,by decide⟩)) ?_)
  refine af (aw (i:=6) bQ.nd rfl (Or.inl rfl) (bL (cf (aA ((aN T).mono (by decide)) hr rfl T.aaa.m T.aaa.F.kp T.aaa.b ay (ai (aa 1 rfl) (ai ag au aC) aj) ⟨ns,_,rfl,by decide,rfl⟩) (bH (bn ag (ik ag ag ⟨by decide,by decide,by decide⟩) (by walk_at"mul")) ag) (by decide+kernel)) (ik ag ag ⟨by decide,by decide,by decide⟩)) ?_)
  refine af (bp (bq (ak (bH (aa 2 rfl) (aa 5 rfl)) (ak (bH (aa 3 rfl) (aa 6 rfl)) aF bN) bN)) ?_);exact rfl
def lw:List (Int×Int):=[(9,9),(10,8),(24,3),(49,1),(32,2),(19,4),(48,1)]
def pqF(sh:Int):Int×Int:=if sh/25%8=1 then lw.getD (sh/200%7).toNat (1,1) else (1+sh%5,1+sh/5%5)
def g7(p q t a b:Int):List P2:=[(0,0),(p,0),(0,q),(p,q)]++((if t%2=1 then [(p+1,a)] else [])++(if t/2=1 then [(-1,b)] else []))
def mny(p q t:Int):Int:=(p+1) *(q+1)+(if t%2=1 then 1 else 0)+(if t/2=1 then 1 else 0)
def wid(p q t:Int):Int:=2*p*q+(if t%2=1 then q else 0)+(if t/2=1 then q else 0)
def wm(p q t a b:Int):Bool:=decide (3<=(ao (g7 p q t a b)).length) && (decide (area (ao (g7 p q t a b))=wid p q t) && decide (fG (ao (g7 p q t a b))=mny p q t))
def AO(p q:Nat):Bool:=(F_ 4).all λt=>(F_ (q+1)).all λa=>(F_ (q+1)).all λb=>wm p q t a b
def pG:List (Nat×Nat):=[(9,9),(10,8),(24,3),(49,1),(32,2),(19,4),(48,1)]++((F_ 5).map λi=>(F_ 5).map λj=>(1+i,1+j)).flatten
theorem v8:(pG.all λz=>AO z.1 z.2)=true:=by decide+kernel
theorem A2{p q:Nat}(h:(p,q)∈pG){t a b:Int}(ht:0<=t/\t<4)(ha:0<=a/\a<=q)(hb:0<=b/\b<=q):wm p q t a b=true:=by
 have h1:=HW.mp v8 _ h;have h2:=HW.mp h1 t.toNat (Fu.mpr (by lia))
 have h3:=HW.mp h2 a.toNat (Fu.mpr (by lia))
 have h4:=HW.mp h3 b.toNat (Fu.mpr (by lia))
 rw[show t=((t.toNat:Nat):Int) by lia,show a=((a.toNat:Nat):Int) by lia,show b=((b.toNat:Nat):Int) by lia]
 exact h4
theorem Bd(sh:Int):∃p q:Nat,pqF sh=((p:Int),(q:Int))/\(p,q)∈pG/\p<=49/\q<=9:=by
 unfold pqF;split
 ·have h:(sh/200%7).toNat<7:=by lia
  generalize (sh/200%7).toNat=k at *;have key:∀k:Fin 7,∃z∈pG,lw.getD k.val (1,1)=((z.1:Int),(z.2:Int))/\z.1<=49/\z.2<=9:=by decide+kernel
  obtain⟨z,m,e,b1,b2⟩:=key ⟨k,h⟩;exact⟨z.1,z.2,e,m,b1,b2⟩
 ·have key:∀i j:Fin 5,(1+i.val,1+j.val)∈pG:=by decide+kernel
  refine⟨1+(sh%5).toNat,1+(sh/5%5).toNat,?_,key ⟨(sh%5).toNat,by lia⟩ ⟨(sh/5%5).toNat,by lia⟩,by lia,by lia⟩
  exact Gf (by dsimp only;lia) (by dsimp only;lia)
theorem yZ(x:Int)(n:Nat)(y:Int)(m:Nat):(nN x n y m).length=n*m:=by
 unfold nN
 have key:∀L:List Int,(L.map λa=>(iE y m).map λb=>((a,b):P2)).flatten.length=L.length*m:=λL=>by
  induction L with
  |nil=>simp
  |cons a L ih=>
   rw[Ft,HF,Fx,ih,ES,FN,Nat.add_mul,Nat.one_mul];have:(iE y m).length=m:=by unfold iE;simp
   lia
 rw[key];have:(iE x n).length=n:=by unfold iE;simp
 rw[this]
theorem yn{S:List P2}(h3:3<=(ao S).length){z:P2}(hz:∀s∈sdl (ao S),0<=ae s.1 s.2 z)(a b m:Int)(h:∀s∈S,wth a b s<=m):wth a b z<=m:=by
 have p:=B2 h3 a b hz;obtain⟨⟨c,hc,e⟩,_⟩:=jR a b (l:=ao S) (λz=>by rw[z]at h3;simp at h3)
 have:=h c (be _ c hc);lia
theorem wV{A B:P2}{p q x y:Int}(hx:0<=x/\x<=p)(hy:0<=y/\y<=q)(d0:0<=ae A B (0,0))(d1:0<=ae A B (p,0))(d2:0<=ae A B (0,q))(d3:0<=ae A B (p,q)):0<=ae A B (x,y):=by
 have e:∀u v:Int,ae A B (x,y)=ae A B (u,v)+(B.1-A.1) *(y-v)+(B.2-A.2) *(u-x):=λu v=>by unfold ae;dsimp only;grind
 have key:∀u v:Int,0<=ae A B (u,v)->0<=(B.1-A.1) *(y-v)->0<=(B.2-A.2) *(u-x)->0<=ae A B (x,y):=λu v h1 h2 h3=>by rw[e u v];lia
 have neg:∀{m n:Int},m<=0->n<=0->0<=m*n:=λ{m n} h1 h2=>by
  have:=Fc (show 0<=-m by lia) (show 0<=-n by lia)
  rw[Int.neg_mul_neg]at this;exact this
 rcases JZ 0 (B.1-A.1) with h1 |h1 <;>rcases JZ 0 (B.2-A.2) with h2 |h2
 ·exact key p 0 d1 (Fc h1 (by lia)) (Fc h2 (by lia))
 ·exact key 0 0 d0 (Fc h1 (by lia)) (neg h2 (by lia))
 ·exact key p q d3 (neg h1 (by lia)) (Fc h2 (by lia))
 ·exact key 0 q d2 (neg h1 (by lia)) (neg h2 (by lia))
def qm(p t a b:Int):List P2:=(if t%2=1 then [(p+1,a)] else [])++(if t/2=1 then [(-1,b)] else [])
theorem iC{p t a b:Int}{z:P2}:z∈qm p t a b↔(t%2=1/\z=(p+1,a))\/(t/2=1/\z=(-1,b)):=by
 unfold qm;rw[Fn];refine or_congr ?_ ?_ <;>(split <;>simp[*])
theorem zt{p q:Nat}{t a b:Int}(hq:q<=9)(ha:0<=a/\a<=q)(hb:0<=b/\b<=q)(h3:3<=(ao (g7 p q t a b)).length)(z:P2):c9 (ao (g7 p q t a b)) z=true↔z∈nN 0 (p+1) 0 (q+1)++qm p t a b:=by
 have ms:∀s:P2,s∈g7 p q t a b↔(s=(0,0)\/s=((p:Int),0)\/s=(0,(q:Int))\/s=((p:Int),(q:Int)))\/s∈qm p t a b:=λs=>by
  unfold g7;rw[Fn];simp only[E1,JP,or_false];exact Iff.rfl
 rw[f6 h3,Fn,ka];constructor
 ·intro hz
  have R8:∀u v m:Int,wth u v (0,0)<=m->wth u v ((p:Int),0)<=m->wth u v (0,(q:Int))<=m->wth u v ((p:Int),(q:Int))<=m->(t%2=1->wth u v ((p:Int)+1,a)<=m)->(t/2=1->wth u v (-1,b)<=m)->wth u v z<=m:=λu v m h1 h2 h4 h5 h6 h7=>yn h3 hz u v m λs hs=>by
   rcases (ms s).mp hs with (e |e |e |e) |e
   ·rw[e];exact h1
   ·rw[e];exact h2
   ·rw[e];exact h4
   ·rw[e];exact h5
   ·rcases iC.mp e with ⟨k,e⟩ |⟨k,e⟩
    ·rw[e];exact h6 k
    ·rw[e];exact h7 k
  unfold wth at R8;dsimp only at R8;have y1:=R8 0 1 q (by lia) (by lia) (by lia) (by lia) (λ_=>by lia) (λ_=>by lia)
  have y0:=R8 0 (-1) 0 (by lia) (by lia) (by lia) (by lia) (λ_=>by lia) (λ_=>by lia)
  have x1:=R8 1 0 (p+1) (by lia) (by lia) (by lia) (by lia) (λ_=>by lia) (λ_=>by lia)
  have x0:=R8 (-1) 0 1 (by lia) (by lia) (by lia) (by lia) (λ_=>by lia) (λ_=>by lia)
  by_cases c1:z.1=p+1
  ·right
   rw[iC]
   left
   have tp:t%2=1:=F2 λk=>by
    have:=R8 1 0 p (by lia) (by lia) (by lia) (by lia) (λk'=>absurd k' k) (λ_=>by lia)
    lia
   have u1:=R8 10 1 (10*(p+1)+a) (by lia) (by lia) (by lia) (by lia) (λ_=>by lia) (λ_=>by lia)
   have u2:=R8 10 (-1) (10*(p+1)-a) (by lia) (by lia) (by lia) (by lia) (λ_=>by lia) (λ_=>by lia)
   exact⟨tp,Gf c1 (by dsimp only;lia)⟩
  ·by_cases c0:z.1=-1
   ·right
    rw[iC]
    right
    have tp:t/2=1:=F2 λk=>by
     have:=R8 (-1) 0 0 (by lia) (by lia) (by lia) (by lia) (λ_=>by lia) (λk'=>absurd k' k)
     lia
    have u1:=R8 (-10) 1 (10+b) (by lia) (by lia) (by lia) (by lia) (λ_=>by lia) (λ_=>by lia)
    have u2:=R8 (-10) (-1) (10-b) (by lia) (by lia) (by lia) (by lia) (λ_=>by lia) (λ_=>by lia)
    exact⟨tp,Gf c0 (by dsimp only;lia)⟩
   ·left
    lia
 ·intro hz s hs;have cov:=cj h3 hs;rcases hz with ⟨h1,h2⟩ |h
  ·exact wV (p:=p) (q:=q) (x:=z.1) (y:=z.2) (by lia) (by lia) (cov _ ((ms _).mpr (.inl (.inl rfl)))) (cov _ ((ms _).mpr (.inl (.inr (.inl rfl))))) (cov _ ((ms _).mpr (.inl (.inr (.inr (.inl rfl)))))) (cov _ ((ms _).mpr (.inl (.inr (.inr (.inr rfl))))))
  ·exact cov z ((ms z).mpr (.inr h))
theorem nV(l:List P2):(bI l).Nodup:=(iN l).imp λ{a b} h e=>by subst e;exact a_ _ h
theorem yd{p q:Nat}{t a b:Int}(hq:q<=9)(ha:0<=a/\a<=q)(hb:0<=b/\b<=q)(h3:3<=(ao (g7 p q t a b)).length):((bI (ao (g7 p q t a b))).length:Int)=mny p q t:=by
 have F:Fld (ao (g7 p q t a b)):=⟨λz=>by rw[z]at h3;simp at h3,cO _⟩
 have nd:(nN 0 (p+1) 0 (q+1)++qm p t a b).Nodup:=by
  refine G8.mpr ⟨nU _ _ _ _,?_,λx hx y hy e=>?_⟩
  ·unfold qm;split <;>split <;>simp
   lia
  ·subst e;have:=ka.mp hx;rcases iC.mp hy with ⟨_,e⟩ |⟨_,e⟩ <;>(rw[e]at this;dsimp only at this;lia)
 rw[g_ (nV _) nd λz=>by rw[dg F,zt hq ha hb h3],Fx,yZ]
 have tl:((qm p t a b).length:Int)=(if t%2=1 then 1 else 0)+(if t/2=1 then 1 else 0):=by
  unfold qm;rw[Fx];split <;>split <;>simp
 unfold mny;have e:(((p+1) *(q+1):Nat):Int)=((p:Int)+1) *((q:Int)+1):=by rw[Int.natCast_mul];rfl
 rw[Int.natCast_add,tl,e];generalize ((p:Int)+1) *((q:Int)+1)=m;lia
theorem nY{α:Type}(f g:α->Int)(k:Int):∀l:List α,(l.map λs=>k*(f s-g s)).sum=k*((l.map f).sum-(l.map g).sum)
 |[]=>by simp
 |a::l=>by
  simp only[Ft,HM,nY f g k l];grind
theorem mh(w:P2->Int)(l:List P2):((sdl l).map λs=>w s.2).sum=((sdl l).map λs=>w s.1).sum:=by
 have e1:((sdl l).map λs=>w s.2)=(l.drop 1++l.take 1).map w:=by rw[<-nC,FP];rfl
 have e2:((sdl l).map fun s=>w s.1)=(l.take 1++l.drop 1).map w:=by rw[FL];conv=>rhs;rw[←jL l]
                                                                   rw[FP];rfl
 rw[e1,e2,F4,F4,M3,M3];lia
theorem pQ(e f:Int)(l:List P2):area (l.map (shf 0 e f))=area l:=by
 unfold area;rw[oh,FP]
 have h:∀s:P2×P2,(crs ∘ λs:P2×P2=>(shf 0 e f s.1,shf 0 e f s.2)) s=(crs s+e*(s.2.2-s.1.2))-f*(s.2.1-s.1.1):=λs=>by
  simp only[Function.comp,crs,shf];grind
 rw[I0 (λs _=>h s),qc,oS,nY (λs:P2×P2=>s.2.2) (λs:P2×P2=>s.1.2),nY (λs:P2×P2=>s.2.1) (λs:P2×P2=>s.1.1),mh (λp=>p.2),mh (λp=>p.1)]
 simp
theorem oz(e f:Int)(a b:P2):gst (shf 0 e f a,shf 0 e f b)=gst (a,b):=by
 unfold gst shf;dsimp only;congr 2 <;>lia
theorem z9(e f:Int)(l:List P2):g5 (l.map (shf 0 e f))=g5 l:=by
 unfold g5;rw[oh,FP];exact congrArg Qx (I0 λs _=>oz e f s.1 s.2)
theorem Cf{a b c d:Int}(e f:Int)(h:a*d-b*c=1\/a*d-b*c=-1){l:List P2}(F:Fld l):fG (ao (l.map (ap a b c d e f)))=fG l:=by
 have hL:=jO h;rw[dN,d6];rcases F.cases with ⟨A,rfl⟩ |⟨A,B,rfl,lt⟩ |h3
 ·have:∀x:P2,ao [x]=[x]:=λx=>by simp[ao,ST.srt,ST.ins]
  simp only[Ft,KH,this];simp[fG,pin,mW,gp,gst]
 ·have hn:A≠B:=λz=>by subst z;rw[ST.asc_irr]at lt;cases lt
  have e2:∀x y:P2,fG [x,y]=gst (x,y)+1:=λx y=>by simp[fG,pin,mW,gp]
  have e3:=m8 hL A B;simp only[Ft,KH]at e3 |-;rcases hJ (A:=(a*A.1+b*A.2,c*A.1+d*A.2)) (B:=(a*B.1+b*B.2,c*B.1+d*B.2)) (λz=>hn (hL.inj z)) with ⟨_,z⟩ |⟨_,z⟩
  ·rw[z];simp only[Ft,KH];rw[e2,e2,oz,e3]
  ·rw[z];simp only[Ft,KH];rw[e2,e2,oz,dW,e3]
 ·have l1:=dI hL h3;have hc:=F.cr;have a1:=qi hL h3;have r1:=Aj hL h3;rw[hc]at h3 a1 r1;unfold fG pin mW;rw[ES,if_neg (by lia),if_neg (by lia),if_neg (by lia),if_neg (by lia),pQ,z9,a1,r1]
structure Mvd(S l:List P2):Prop where
 F:Fld l
 h3:3<=l.length
 ar:area l=area (ao S)
 cn:fG l=fG (ao S)
 np:(bI l).length=(bI (ao S)).length
theorem nv(ns:List Int){S:List P2}(h3:3<=(ao S).length):Mvd S (ao (S.map (putF ns))):=by
 obtain⟨a,b,c,d,e,f,hd,hput⟩:=C6 ns;rw[hput];have L:=jO hd;have F0:Fld (ao S):=⟨λz=>by rw[z]at h3;simp at h3,cO S⟩
 have k1:ao (S.map (ap a b c d e f))=ao ((ao S).map (ap a b c d e f)):=by rw[dN,dN,d6,d6,lH L h3]
 have k2:3<=(ao (S.map (ap a b c d e f))).length:=by rw[dN,d6,ES];exact dI L h3
 have F1:Fld (ao (S.map (ap a b c d e f))):=⟨λz=>by rw[z]at k2;simp at k2,cO _⟩
 refine⟨F1,k2,by rw[dN,d6,pQ];exact qi L h3,by rw[k1];exact Cf e f hd F0,?_⟩
 have im:((bI (ao S)).map (ap a b c d e f)).Nodup:=FR.mpr ((nV (ao S)).imp λ{x y} h e=>h (xO hd e))
 have:=g_ (nV (ao (S.map (ap a b c d e f)))) im λz=>by
  rw[dg F1,EZ];obtain⟨y,rfl⟩:=Cy (e:=e) (f:=f) hd z;rw[k1,Bx e f hd F0];constructor
  ·intro h;exact⟨y,(dg F0 y).mpr h,rfl⟩
  ·rintro ⟨x,hx,e⟩;rw[<-xO hd e];exact (dg F0 x).mp hx
 rw[this,ES]
theorem pV{p q:Int}(hp:101<=p)(hq:1<=q):3<=(ao [((0:Int),(0:Int)),(p,0),(0,q)]).length/\100<fG (ao [((0:Int),(0:Int)),(p,0),(0,q)]):=by
 have h1:plt ((0:Int),(0:Int)) (0,q):=by unfold plt;dsimp only;lia
 have h2:plt ((0:Int),q) (p,0):=by unfold plt;dsimp only;lia
 have pq:101*1<=p*q:=Int.mul_le_mul hp hq (by lia) (by lia)
 have hd:ae ((0:Int),(0:Int)) (0,q) (p,0)=-(p*q):=by unfold ae;dsimp only;grind
 have e:ao [((0:Int),(0:Int)),(p,0),(0,q)]=[(0,0),(p,0),(0,q)]:=by
  have s:ao [((0:Int),(0:Int)),(p,0),(0,q)]=ao [(0,0),(0,q),(p,0)]:=mE λz=>by simp;grind
  rw[s,oR h1 h2 (by rw[hd];lia)]
  unfold i_;rw[if_neg (by dsimp only;rw[hd];lia)]
 refine⟨by rw[e];simp,?_⟩
 have p2:=zM (l:=[((0:Int),(0:Int)),(p,0),(0,q)]) (by rw[e];simp)
 rw[e]at p2 |-
 have ar:area [((0:Int),(0:Int)),(p,0),(0,q)]=p*q:=by
  show crs _+(crs _+(crs _+0))=_;simp[nxt,gp,crs]
 have rm:g5 [((0:Int),(0:Int)),(p,0),(0,q)]=gst ((0,0),(p,0))+(gst ((p,0),(0,q))+(gst ((0,q),(0,0))+0)):=by
  show gst _+(gst _+(gst _+0))=_;simp[nxt,gp]
 have g1:gst (((0:Int),(0:Int)),(p,0))=p:=by unfold gst;dsimp only;simp;lia
 have g2:=dy (s:=((p,(0:Int)),((0:Int),q))) (by intro z;simp at z;lia)
 have g3:=dy (s:=(((0:Int),q),((0:Int),(0:Int)))) (by intro z;simp at z;lia)
 unfold fG mW;rw[if_neg (by simp)]
 lia
theorem at7(z:Int):atI (lw.map pu) (z/200%7)=some (pu (lw.getD (z/200%7).toNat (1,1))):=by
 have h:(z/200%7).toNat<7:=by lia
 refine nI (i:=(z/200%7).toNat) (by lia) ?_
 generalize (z/200%7).toNat=k at *
 have key:∀k:Fin 7,(lw.map pu)[k.val]?=some (pu (lw.getD k.val (1,1))):=by
  intro k
  match k with
  |⟨0,_⟩=>rfl
  |⟨1,_⟩=>rfl
  |⟨2,_⟩=>rfl
  |⟨3,_⟩=>rfl
  |⟨4,_⟩=>rfl
  |⟨5,_⟩=>rfl
  |⟨6,_⟩=>rfl
 exact key ⟨k,h⟩
def drP(ns:List Int):List P2:=g7 (pqF (aQ ns 0)).1 (pqF (aQ ns 0)).2 (aQ ns 1%4) (aQ ns 1/4%((pqF (aQ ns 0)).2+1)) (aQ ns 1/40%((pqF (aQ ns 0)).2+1))
def drM(ns:List Int):Int:=mny (pqF (aQ ns 0)).1 (pqF (aQ ns 0)).2 (aQ ns 1%4)
def drW(ns:List Int):Int:=wid (pqF (aQ ns 0)).1 (pqF (aQ ns 0)).2 (aQ ns 1%4)
theorem Bv(ns:List Int):3<=(ao (drP ns)).length/\area (ao (drP ns))=drW ns/\fG (ao (drP ns))=drM ns/\(drP ns).length<=6/\(∀p∈drP ns,Szp 8 p)/\((bI (ao (drP ns))).length:Int)=drM ns:=by
 obtain⟨p,q,e,m,b1,b2⟩:=Bd (aQ ns 0);unfold drP drM drW;rw[e];dsimp only;have q0:(0:Int)<(q:Int)+1:=by lia
 have a0:=Gs (aQ ns 1/4) (show (q:Int)+1≠0 by lia)
 have a1:=Gb (aQ ns 1/4) q0;have c0:=Gs (aQ ns 1/40) (show (q:Int)+1≠0 by lia)
 have c1:=Gb (aQ ns 1/40) q0;have t0:0<=aQ ns 1%4/\aQ ns 1%4<4:=by lia
 generalize aQ ns 1/4%((q:Int)+1)=a at *;generalize aQ ns 1/40%((q:Int)+1)=b at *;generalize aQ ns 1%4=t at *;have g:=A2 m t0 ⟨a0,by lia⟩ ⟨c0,by lia⟩
 unfold wm at g;simp only[GE,decide_eq_true_eq]at g;refine⟨g.1,g.2.1,g.2.2,?_,?_,yd b2 ⟨a0,by lia⟩ ⟨c0,by lia⟩ g.1⟩
 ·unfold g7;simp;split <;>split <;>simp
 ·intro z hz;unfold g7 at hz;rcases Fn.mp hz with h |h
  ·simp only[E1,JP,or_false]at h;rcases h with rfl |rfl |rfl |rfl <;>(constructor <;>unfold Sz <;>dsimp only <;>lia)
  ·rcases Fn.mp h with h |h
   ·split at h
    ·simp at h;subst h;constructor <;>unfold Sz <;>dsimp only <;>lia
    ·simp at h
   ·split at h
    ·simp at h;subst h;constructor <;>unfold Sz <;>dsimp only <;>lia
    ·simp at h
def qF:List U->Out->Prop:=λus o=>∃ns:List Int,us=[.scr (ns.map U.int)]/\(∀m∈ns,Sz 1048576 m)/\o=.val (.tup [lp (ao ((drP ns).map (putF ns))),.int (drM ns),.int (drW ns)])
theorem lu(T:Txt w K mg):ba P w K mg base (CXF P w) 3 T.aav.a T.aav.d ["script"] (spU K (qF)):=by
 refine bo T.aav.F aE (λus o h=>?_) (λQK A outer s H E O us o hr h=>?_)
 ·obtain⟨ns,rfl,hB,rfl⟩:=h;rfl
 obtain⟨ns,rfl,hB,rfl⟩:=h;refine Ws.nox ?_;have z0:=e9 hB 0;have z1:=e9 hB 1;obtain⟨d3,_,_,dl,dz,_⟩:=Bv ns;obtain⟨p,q,epq,_,b1,b2⟩:=Bd (aQ ns 0);have m3:=(nv ns d3).h3;unfold drM drW;have hdr:drP ns=g7 (p:Int) (q:Int) (aQ ns 1%4) (aQ ns 1/4%((q:Int)+1)) (aQ ns 1/40%((q:Int)+1)):=by unfold drP;rw[epq]
 rw[epq];dsimp only;refine af (aw (i:=1) aE.nd rfl (Or.inl rfl) (aA ((aN T).mono (by decide)) hr rfl T.aaa.m T.aaa.F.kp T.aaa.b ay (ai (aa 0 rfl) (ai ag au aC) aj) ⟨ns,_,rfl,by decide,rfl⟩) ?_)
 refine af (aw (i:=2) aE.nd rfl (Or.inl rfl) (bH ag (cf (aa 1 rfl) ag (by walk_at"mod"))) ?_)
 refine af (aw (i:=3) aE.nd rfl (Or.inl rfl) (bH ag (cf (cT (aa 1 rfl) ag (by walk_at"div")) ag (by walk_at"mod"))) ?_)
 refine fX (λps=>SubP [some (.val (.scr (ns.map U.int))),some (.val (.int (aQ ns 0))),some (.val (.int (p:Int))),some (.val (.int (q:Int))),none,none,none,none,none,none] ps) (lv (aR cB (cf (cT (aa 1 rfl) ag (by walk_at"div")) ag (by walk_at"mod")) ag) (λhT=>?_) (λhF=>(aI ?_))) ?hj
 ·have e1:lw.getD (aQ ns 0/200%7).toNat (1,1)=((p:Int),(q:Int)):=by rw[<-epq];unfold pqF;rw[if_pos (dTb hT)]
  refine af ?_;generalize hE:(Expr.List _ _)=E0;refine xV (u:=pu ((p:Int),(q:Int))) ?dd (sZ [2,3] rfl (bW (bv (i:=2) aE.nd rfl (Or.inl rfl)) (bW (bv (i:=3) aE.nd rfl (Or.inl rfl)) gB)) rfl) ?_ (by subst hE;rfl) (by subst hE;rfl)
  case dd=>
   refine aJ (xs:=lw.map pu) (x:=.lst (lw.map pu)) ?d (cf (cT (aa 1 rfl) ag (by walk_at"div")) ag (by walk_at"mod")) rfl (by rw[at7,e1])
   subst hE;refine EvD.ev ?_;refine dsp (us:=lw.map pu) ?_ (by decide)
   refine ak (bq (ak ag (ak ag aF aC) aC)) ?_ cF;refine ak (bq (ak ag (ak ag aF aC) aC)) ?_ cF;refine ak (bq (ak ag (ak ag aF aC) aC)) ?_ cF;refine ak (bq (ak ag (ak ag aF aC) aC)) ?_ cF;refine ak (bq (ak ag (ak ag aF aC) aC)) ?_ cF;refine ak (bq (ak ag (ak ag aF aC) aC)) ?_ cF;refine ak (bq (ak ag (ak ag aF aC) aC)) ?_ cF;exact aF
  refine aI ?_;exact⟨rfl,rfl,rfl,rfl,trivial⟩
 ·have e1:((1:Int)+aQ ns 0%5,(1:Int)+aQ ns 0/5%5)=((p:Int),(q:Int)):=by rw[<-epq];unfold pqF;rw[if_neg (dFb hF)]
  have e2:=congrArg JO e1;have e3:=congrArg K7 e1;dsimp only at e2 e3;refine⟨rfl,rfl,?_,?_,trivial⟩
  ·exact congrArg (λz=>some (Sl.val (.int z))) e2
  ·exact congrArg (λz=>some (Sl.val (.int z))) e3
 case hj=>
  intro ps QV;refine dk ?_ QV;have q0:(0:Int)<(q:Int)+1:=by lia
  have pz:Sz 8 (p:Int):=by unfold Sz;lia
  have qz:Sz 8 (q:Int):=by unfold Sz;lia
  have mm:mny (p:Int) (q:Int) (aQ ns 1%4)=((p:Int)+1) *((q:Int)+1)+(if aQ ns 1%4%2=1 then 1 else 0)+(if aQ ns 1%4/2=1 then 1 else 0):=rfl
  have ww:wid (p:Int) (q:Int) (aQ ns 1%4)=2*(p:Int) *(q:Int)+(if aQ ns 1%4%2=1 then (q:Int) else 0)+(if aQ ns 1%4/2=1 then (q:Int) else 0):=rfl
  rw[mm,ww];unfold g7 at hdr;refine af (aw (i:=4) aE.nd rfl (Or.inl rfl) (aA ((aN T).mono (by decide)) hr rfl T.aaa.m T.aaa.F.kp T.aaa.b ay (ai (aa 0 rfl) (ai ag au aC) aj) ⟨ns,_,rfl,by decide,rfl⟩) ?_)
  refine af (aw (i:=5) aE.nd rfl (Or.inl rfl) (cf (aa 4 rfl) ag (by walk_at"mod")) ?_)
  refine af ?_;generalize hE:(Expr.List _ _)=E0;refine iR (i:=6) (xs:=([((0:Int),(0:Int)),((p:Int),0),(0,(q:Int)),((p:Int),(q:Int))]:List P2).map pu) aE.nd rfl (Or.inl rfl) ?dd ?_ (by subst hE;rfl) (.inl rfl)
  case dd=>
   subst hE;refine EvM.ev ?_;refine Ew ?_ (by simp;exact Gw (aL (by lia)))
   refine ak (bq (ak ag (ak ag aF aC) aC)) ?_ cF;refine ak (bq (ak (aa 2 rfl) (ak ag aF aC) aj)) ?_ cF;refine ak (bq (ak ag (ak (aa 3 rfl) aF aj) aC)) ?_ cF;refine ak (bq (ak (aa 2 rfl) (ak (aa 3 rfl) aF aj) aj)) ?_ cF;exact aF
  refine af (aw (i:=7) aE.nd rfl (Or.inl rfl) (bn (bH (aa 2 rfl) ag) (bH (aa 3 rfl) ag) (by walk_at"mul")) ?_)
  refine af (aw (i:=8) aE.nd rfl (Or.inl rfl) (bn (bn ag (aa 2 rfl) (by walk_at"mul")) (aa 3 rfl) (by walk_at"mul")) ?_)
  show Ws _ _ _ _ _ _ [some (.val (.scr (ns.map U.int))),some (.val (.int (aQ ns 0))),some (.val (.int (p:Int))),some (.val (.int (q:Int))),some (.val (.int (aQ ns 1))),some (.val (.int (aQ ns 1%4))),some (.own (([((0:Int),(0:Int)),((p:Int),0),(0,(q:Int)),((p:Int),(q:Int))]:List P2).map pu)),some (.val (.int (((p:Int)+1) *((q:Int)+1)))),some (.val (.int (2*(p:Int) *(q:Int)))),none];generalize ((p:Int)+1) *((q:Int)+1)=M at *;generalize 2*(p:Int) *(q:Int)=W at *;refine fX (λps=>SubP [some (.val (.scr (ns.map U.int))),some (.val (.int (aQ ns 0))),some (.val (.int (p:Int))),some (.val (.int (q:Int))),some (.val (.int (aQ ns 1))),some (.val (.int (aQ ns 1%4))),some (.own ((([((0:Int),(0:Int)),((p:Int),0),(0,(q:Int)),((p:Int),(q:Int))]++(if aQ ns 1%4%2=1 then [((p:Int)+1,aQ ns 1/4%((q:Int)+1))] else [])):List P2).map pu)),some (.val (.int (M+(if aQ ns 1%4%2=1 then 1 else 0)))),some (.val (.int (W+(if aQ ns 1%4%2=1 then (q:Int) else 0)))),none] ps) (lv (aR cB (cf (aa 5 rfl) ag (by walk_at"mod")) ag) (λhT=>?_) (λhF=>(aI ?_))) ?hj2
  ·have ht:=dTb hT;refine af (c_ 6 rfl (bq (ak (bH (aa 2 rfl) ag) (ak (cf (cT (aa 4 rfl) ag (by walk_at"div")) (bH (aa 3 rfl) ag) (by lia)) aF bN) bN)) (by simp;exact aL (by lia)) ?_)
   refine af (aw (i:=7) aE.nd rfl (Or.inl rfl) (bH (aa 7 rfl) ag) ?_);refine af (aw (i:=8) aE.nd rfl (Or.inl rfl) (bH (aa 8 rfl) (aa 3 rfl)) (aI ?_));rw[if_pos ht,if_pos ht,if_pos ht];exact⟨rfl,rfl,rfl,rfl,rfl,rfl,by exact congrArg (λl=>some (Sl.own l)) (by simp),rfl,rfl,trivial⟩
  ·have ht:=dFb hF;rw[if_neg ht,if_neg ht,if_neg ht];refine⟨rfl,rfl,rfl,rfl,rfl,rfl,by exact congrArg (λl=>some (Sl.own l)) (by simp),?_,?_,trivial⟩
   ·exact congrArg (λz=>some (Sl.val (.int z))) (by lia)
   ·exact congrArg (λz=>some (Sl.val (.int z))) (by lia)
  case hj2=>
   intro ps QV;refine dk ?_ QV;generalize hS1:(([((0:Int),(0:Int)),((p:Int),0),(0,(q:Int)),((p:Int),(q:Int))]++(if aQ ns 1%4%2=1 then [((p:Int)+1,aQ ns 1/4%((q:Int)+1))] else [])):List P2)=S1 at *
   have hdr2:drP ns=S1++(if aQ ns 1%4/2=1 then [(-1,aQ ns 1/40%((q:Int)+1))] else []):=by rw[hdr,<-hS1,Fi]
   have l1:S1.length<=6:=by rw[hdr2,Fx]at dl;lia
   generalize (M+(if aQ ns 1%4%2=1 then 1 else 0))=M1 at *
   generalize (W+(if aQ ns 1%4%2=1 then (q:Int) else 0))=W1' at *
   refine fX (λps=>SubP [some (.val (.scr (ns.map U.int))),some (.val (.int (aQ ns 0))),some (.val (.int (p:Int))),some (.val (.int (q:Int))),some (.val (.int (aQ ns 1))),some (.val (.int (aQ ns 1%4))),some (.own ((drP ns).map pu)),some (.val (.int (M1+(if aQ ns 1%4/2=1 then 1 else 0)))),some (.val (.int (W1'+(if aQ ns 1%4/2=1 then (q:Int) else 0)))),none] ps) (lv (aR cB (cT (aa 5 rfl) ag (by walk_at"div")) ag) (λhT=>?_) (λhF=>(aI ?_))) ?hj3
   ·have ht:=dTb hT;refine af (c_ 6 rfl (bq (ak (bZ ag) (ak (cf (cT (aa 4 rfl) ag (by walk_at"div")) (bH (aa 3 rfl) ag) (by lia)) aF bN) g6)) (by simp;exact aL (by lia)) ?_)
    refine af (aw (i:=7) aE.nd rfl (Or.inl rfl) (bH (aa 7 rfl) ag) ?_);refine af (aw (i:=8) aE.nd rfl (Or.inl rfl) (bH (aa 8 rfl) (aa 3 rfl)) (aI ?_));rw[hdr2,if_pos ht,if_pos ht,if_pos ht];exact⟨rfl,rfl,rfl,rfl,rfl,rfl,by exact congrArg (λl=>some (Sl.own l)) (by simp),rfl,rfl,trivial⟩
   ·have ht:=dFb hF;rw[hdr2,if_neg ht,if_neg ht,if_neg ht];refine⟨rfl,rfl,rfl,rfl,rfl,rfl,by exact congrArg (λl=>some (Sl.own l)) (by simp),?_,?_,trivial⟩
    ·exact congrArg (λz=>some (Sl.val (.int z))) (by lia)
    ·exact congrArg (λz=>some (Sl.val (.int z))) (by lia)
   case hj3=>
    intro ps QV;refine dk ?_ QV;refine jY 6 rfl ?_
    have pz8:∀z∈(drP ns).map (putF ns),Szp 150 z:=λz hz=>by
     obtain⟨y,hy,rfl⟩:=EZ.mp hz;exact uH (dz y hy)
    refine af (bp (bq (ak (aA ((fK T).mono (by decide)) hr rfl T.aag.m T.aag.F.kp T.aag.b ay (ai (EvN.ev (e_ (ys:=(((drP ns).map (putF ns)).map pu)) rfl (blk (aq fv) ["script","shape","p","q","other","tips","spots","many","wide","spot"] [9] rfl rfl rfl rfl (by decide+kernel)) (dq (aa 6 rfl) (.inl rfl)) (λ_ _ _ _=>bv (i:=9) aE.nd rfl (Or.inl rfl)) (d8 (by decide)) ?clen ?csz (λ_ _=>trivial) ?celt)) au eE) ⟨(drP ns).map (putF ns),rfl,λz hz=>⟨(pz8 z hz).1.mono (by decide),(pz8 z hz).2.mono (by decide)⟩,by rw[ES];lia,by lia,rfl⟩) (ak (aa 7 rfl) (ak (aa 8 rfl) aF aj) aj) aB)) ?_)
    case clen=>simp
    case csz=>rw[ES];exact Gw (aL (by lia))
    case celt=>
     intro C s' H' fp j x y hx hy;rw[FP]at hy;obtain⟨z,hz,mz,rfl,rfl⟩:=fH hx hy;exact (aA ((jj T).mono (by decide)) hr rfl T.aat.m T.aat.F.kp T.aat.b ay (ai (aa 9 rfl) (ai (aa 0 rfl) au aj) aj) ⟨z,ns,rfl,hB,⟨(dz z mz).1.mono (by decide),(dz z mz).2.mono (by decide)⟩,rfl⟩)
    exact rfl
def grA(ns:List Int):Int:=101+aQ ns 6%10 ^ (40:Int).toNat
def grB(ns:List Int):Int:=1+aQ ns 7%10 ^ (40:Int).toNat
def grP(ns:List Int):List P2:=[(0,0),(grA ns,0),(0,grB ns)]
theorem Bk(ns:List Int):101<=grA ns/\1<=grB ns/\Sz 134 (grA ns)/\Sz 134 (grB ns):=by
 have p0:(0:Int)<10 ^ (40:Int).toNat:=by decide+kernel
 have h1:=Gs (aQ ns 6) (show (10:Int) ^ (40:Int).toNat≠0 by lia)
 have h2:=Gs (aQ ns 7) (show (10:Int) ^ (40:Int).toNat≠0 by lia)
 have m1:Sz 133 (aQ ns 6%10 ^ (40:Int).toNat):=L2.Sz.emod (by decide+kernel) (by decide+kernel)
 have m2:Sz 133 (aQ ns 7%10 ^ (40:Int).toNat):=L2.Sz.emod (by decide+kernel) (by decide+kernel)
 refine⟨by unfold grA;lia,by unfold grB;lia,?_,?_⟩
 ·exact (L2.Sz.add' (L2.Sz.lit (m:=133) (x:=101) (by decide+kernel)) m1).mono (by decide)
 ·exact (L2.Sz.add' (L2.Sz.lit (m:=133) (x:=1) (by decide+kernel)) m2).mono (by decide)
def rS:List U->Out->Prop:=λus o=>∃ns:List Int,us=[.scr (ns.map U.int)]/\(∀m∈ns,Sz 1048576 m)/\o=.val (lp (ao ((grP ns).map (putF ns))))
theorem lx(T:Txt w K mg):ba P w K mg base (CXF P w) 3 T.aaw.a T.aaw.d ["script"] (spU K (rS)):=by
 refine bo T.aaw.F c4 (λus o h=>?_) (λQK A outer s H E O us o hr h=>?_)
 ·obtain⟨ns,rfl,hB,rfl⟩:=h;rfl
 obtain⟨ns,rfl,hB,rfl⟩:=h;refine Ws.nox ?_;have c6:=e9 hB 6;have c7:=e9 hB 7;obtain⟨g1,g2,s1,s2⟩:=Bk ns;have m3:=(nv ns (S:=grP ns) (pV g1 g2).1).h3;refine af (aw (i:=1) c4.nd rfl (Or.inl rfl) (bH ag (cf (aA ((aN T).mono (by decide)) hr rfl T.aaa.m T.aaa.F.kp T.aaa.b ay (ai (aa 0 rfl) (ai ag au aC) aj) ⟨ns,_,rfl,by decide,rfl⟩) (ik ag ag ⟨by decide,by decide,by decide⟩) (by decide+kernel))) ?_)
 refine af (aw (i:=2) c4.nd rfl (Or.inl rfl) (bH ag (cf (aA ((aN T).mono (by decide)) hr rfl T.aaa.m T.aaa.F.kp T.aaa.b ay (ai (aa 0 rfl) (ai ag au aC) aj) ⟨ns,_,rfl,by decide,rfl⟩) (ik ag ag ⟨by decide,by decide,by decide⟩) (by decide+kernel))) ?_)
 show Ws _ _ _ _ _ _ [some (.val (.scr (ns.map U.int))),some (.val (.int (grA ns))),some (.val (.int (grB ns))),none];have z0:Sz 134 0:=by decide+kernel
 have dz:∀z∈grP ns,Szp 140 z:=λz hz=>by
  unfold grP at hz;simp only[E1,JP,or_false]at hz;rcases hz with rfl |rfl |rfl
  ·exact⟨z0.mono (by decide),z0.mono (by decide)⟩
  ·exact⟨s1.mono (by decide),z0.mono (by decide)⟩
  ·exact⟨z0.mono (by decide),s2.mono (by decide)⟩
 refine af (bp (aA ((fK T).mono (by decide)) hr rfl T.aag.m T.aag.F.kp T.aag.b ay (ai (EvN.ev (e_ (ys:=(((grP ns).map (putF ns)).map pu)) rfl (blk (aq fB) ["script","p","q","spot"] [3] rfl rfl rfl rfl (by decide+kernel)) (dq (EvN.ev (bg (ak (bq (ak ag (ak ag aF aC) aC)) (ak (bq (ak (aa 1 rfl) (ak ag aF aC) aj)) (ak (bq (ak ag (ak (aa 2 rfl) aF aj) aC)) aF cF) cF) cF))) (.inl rfl)) (λ_ _ _ _=>bv (i:=3) c4.nd rfl (Or.inl rfl)) (d8 (by decide)) ?clen ?csz (λ_ _=>trivial) ?celt)) au eE) ⟨(grP ns).map (putF ns),rfl,λz hz=>by
   obtain⟨y,hy,rfl⟩:=EZ.mp hz;exact⟨(oa (dz y hy)).1.mono (by decide),(oa (dz y hy)).2.mono (by decide)⟩,by simp[grP],by lia,rfl⟩) ?_)
 case clen=>simp[grP]
 case csz=>exact Gw (aL (by simp))
 case celt=>
  intro C s' H' fp j x y hx hy;have RX:((grP ns).map pu)[j]?=some x:=hx;rw[FP]at hy;obtain⟨z,hz,mz,rfl,rfl⟩:=fH RX hy;exact (aA ((jj T).mono (by decide)) hr rfl T.aat.m T.aat.F.kp T.aat.b ay (ai (aa 3 rfl) (ai (aa 0 rfl) au aj) aj) ⟨z,ns,rfl,hB,dz z mz,rfl⟩)
 exact rfl
section
open PySem.W
variable {X:Cx}{d0:Bool}{c:Expr}{AA BB L:List HL}{ipos:Pos}
theorem CQ{tc:TT}{t1}(hL:(bif d0 then AA else BB)=L)(hc:PT X.nox c tc)(h1:TB X L t1):TB X [.If c AA BB ipos] (λN EX σ H=>tc σ H λd H1=>d=d0/\t1 N EX σ H1):=by
 intro pins s σ H N EX Q E' I h q x;refine Mf (wpAny_If (Jr (hc pins s σ H _ (I.wish _) h) (λd s0 ⟨Hc,Ic,e,hn⟩=>?_) λ_ _ z=>z.elim))
 subst e hL;have z:=λQ' w=>h1 pins s0 σ Hc N EX Q' E' Ic.unwish hn w x
 cases d with
 |true=>rw[if_pos rfl];exact z _ λQI H' s' I' n'=>Jg (q QI H' s' I' n')
 |false=>rw[if_neg (by decide)];exact z _ λQI H' s' I' n'=>Jg (q QI H' s' I' n')
theorem Bl{H0:Hp}{O0:List E6}{ps:PSt}{nx:PSt->Prop}{ex:PSt->E6->Prop}(hc:Tt X.nox H0 O0 ps c d0)(hL:(bif d0 then AA else BB)=L)(h:Tb X H0 O0 L nx ex ps):Tb X H0 O0 [.If c AA BB ipos] nx ex ps:=
 TB.mono (CQ hL hc h) λN EX σ H ⟨a,b,O,R⟩=>⟨O,R,λH' s=>⟨rfl,a,b,O,R.go s⟩⟩
end
theorem cJ:GQ "ValueError"=some (.type "ValueError"):=by decide+kernel
def rP:List U->Out->Prop:=λus o=>∃(l:List P2) (k:Int),us=[lp l,.int k]/\k<0/\Sz 1000 k/\(∀p∈l,Szp 1500 p)/\l≠[]/\l.length<64/\o=.val (.bl true)
theorem eC(T:Txt w K mg):ba P w K mg base (CXF P w) 8 T.aae.a T.aae.d ["ends","k"] (spU K (rP)):=by
 refine bo T.aae.F bj (λus o h=>?_) (λQK A outer s H E O us o hr h=>?_)
 ·obtain⟨l,k,rfl,k0,sk,sz,QF,hl,rfl⟩:=h;rfl
 obtain⟨l,k,rfl,k0,sk,sz,QF,hl,rfl⟩:=h;refine Ws.nox ?_;refine af (aw (i:=2) bj.nd rfl (Or.inl rfl) (EvN.ev (bg aF)) ?_);refine af (aw (i:=3) bj.nd rfl (Or.inl rfl) (EvN.ev (bg aF)) ?_);refine af (n9 rfl rfl rfl T.aad.m T.abk T.abj bj.nd (i:=4) rfl rfl (Ab ((kz T).mono (by decide)) hr rfl T.aaG.m T.aaG.F.kp T.aaG.b (ai (aa 0 rfl) (ai (aa 1 rfl) au aj) aj) ⟨l,k,rfl,sk,sz,QF,hl,by rw[if_pos k0]⟩ ⟨T.aaC,T.abl,λea=>?_⟩))
 refine af (aw (i:=2) bj.nd rfl (Or.inl rfl) (EvN.ev (bg (ak (b6 T.aay rfl T.aab Fl (aa 4 rfl) rfl T.aak.m) (ak (aG (gE T.aaz) rfl T.aab Fl (ai (aa 4 rfl) (ai (nO rfl T.aaV cJ) au aj) aj)) (ak (yD (Bf T.aa1 T.aaI) rfl T.aab Fl (aa 4 rfl) rfl T.abn.m rfl T.aac.m) aF aB) aB) aB))) (aI ?_));refine af (n9 rfl rfl rfl T.aad.m T.abk T.abj bj.nd (i:=4) rfl rfl (Ab ((jP T).mono (by decide)) hr rfl T.aas.m T.aas.F.kp T.aas.b (ai (aa 0 rfl) (ai (aa 1 rfl) au aj) aj) ⟨l,k,rfl,k0,sk,sz,QF,hl,rfl⟩ ⟨T.aaC,T.abl,λea=>?_⟩))
 refine af (aw (i:=3) bj.nd rfl (Or.inl rfl) (EvN.ev (bg (ak (b6 T.aay rfl T.aab Fl (aa 4 rfl) rfl T.aak.m) (ak (aG (gE T.aaz) rfl T.aab Fl (ai (aa 4 rfl) (ai (nO rfl T.aaV cJ) au aj) aj)) (ak (yD (Bf T.aa1 T.aaI) rfl T.aab Fl (aa 4 rfl) rfl T.abn.m rfl T.aac.m) aF aB) aB) aB))) (aI ?_));show Ws _ _ _ _ _ _ [some (.val (lp l)),some (.val (.int k)),some (.val (.lst [.bl true,.bl true,.bl false])),some (.val (.lst [.bl true,.bl true,.bl false])),none];refine af (bp (jd (eP (pf (gu hr) (by walk_at"ok") (by walk_at"ok")) (aa 2 rfl) (EvN.ev (bg (ak nJ (ak nJ (ak nJ aF aC) aC) aC)))) (λhz=>(o7 (eP (pf (gu hr) (by walk_at"ok") (by walk_at"ok")) (aa 3 rfl) (EvN.ev (bg (ak nJ (ak nJ (ak nJ aF aC) aC) aC))))))) ?_)
 exact rfl
def xo:List U:=[.bl true,.bl true,.bl false,.bl false,.bl false,.bl false,.bl false,.bl false,.bl false,.bl false,.bl false,.bl false,.bl false]
structure Big(l:List P2):Prop where
 F:Fld l
 h3:3<=l.length
 hl:l.length<64
 sz:∀p∈l,Szp 1500 p
 cn:100<fG l
def sF:List U->Out->Prop:=λus o=>∃(l:List P2) (w:Int),us=[lp l,.int w]/\(w=0\/w=1)/\Big l/\o=.val (.lst xo)
theorem gU(T:Txt w K mg):ba P w K mg base (CXF P w) 10 T.aaj.a T.aaj.d ["ends","way"] (spU K (sF)):=by
 refine bo T.aaj.F aX (λus o h=>?_) (λQK A outer s H E O us o hr h=>?_)
 ·obtain⟨l,w,rfl,hw,B,rfl⟩:=h;rfl
 obtain⟨l,w,rfl,hw,B,rfl⟩:=h;refine Ws.nox ?_;refine af (aw (i:=2) aX.nd rfl (Or.inl rfl) (EvN.ev (bg aF)) ?_);rcases hw with rfl |rfl
 ·refine af (n9 rfl rfl rfl T.aak.m T.aba T.aa_ aX.nd (i:=3) rfl rfl (Bl (d0:=true) (by rw[<-(show decide ((0:Int)=0)=true from rfl)];exact (aR cB (aa 1 rfl) ag)) rfl (Ab ((gF T).mono (by decide)) hr rfl T.aan.m T.aan.F.kp T.aan.b (ai (aa 0 rfl) au aj) ⟨l,rfl,B.F,B.hl,B.sz,.inr ⟨B.cn,rfl⟩⟩ ⟨T.aaB,T.abo,λea=>?_⟩)))
  refine af (aw (i:=2) aX.nd rfl (Or.inl rfl) (EvN.ev (bg (ak (b6 T.aaU rfl T.aab Fl (aa 3 rfl) rfl T.aac.m) (ak (aG (gE T.aaA) rfl T.aab Fl (ai (aa 3 rfl) (ai (nO rfl T.aaV cJ) au aj) aj)) (ak (b6 T.aaR rfl T.aab Fl (aa 3 rfl) rfl T.abg.m) (ak (b6 T.aaS rfl T.aab Fl (aa 3 rfl) rfl T.abh.m) aF aB) aB) aB) aB))) ?_);refine af (aw (i:=2) aX.nd rfl (Or.inl rfl) (EvN.ev (gj (aa 2 rfl) (EvN.ev (bg (ak (b6 T.aaW rfl T.aab Fl (aa 3 rfl) rfl T.abq.m) (ak (b6 T.aaX rfl T.aab Fl (aa 3 rfl) rfl T.abr.m) (ak (b6 T.aaJ rfl T.aab Fl (aa 3 rfl) rfl T.aad.m) aF aB) aB) aB))) (by walk_at"len"))) ?_)
  refine af (aw (i:=2) aX.nd rfl (Or.inl rfl) (EvN.ev (gj (aa 2 rfl) (EvN.ev (bg (ak (b6 T.aa2 rfl T.aab Fl (aa 3 rfl) rfl T.abv.m) (ak (b6 T.aaY rfl T.aab Fl (aa 3 rfl) rfl T.abt.m) (ak (b6 T.aaK rfl T.aab Fl (aa 3 rfl) rfl T.abd.m) aF aB) aB) aB))) (by walk_at"len"))) ?_)
  refine af (aw (i:=2) aX.nd rfl (Or.inl rfl) (EvN.ev (gj (aa 2 rfl) (EvN.ev (bg (ak (b6 T.aaT rfl T.aab Fl (aa 3 rfl) rfl T.abi.m) (ak (b6 T.aaL rfl T.aab Fl (aa 3 rfl) rfl T.abe.m) (ak (b6 T.aa5 rfl T.aab Fl (aa 3 rfl) rfl T.abn.m) aF aB) aB) aB))) (by walk_at"len"))) (aI ?_))
  refine af (bp (aa 2 rfl) ?_);exact rfl
 ·refine af (n9 rfl rfl rfl T.aak.m T.aba T.aa_ aX.nd (i:=3) rfl rfl (Bl (d0:=false) (by rw[<-(show decide ((1:Int)=0)=false from rfl)];exact (aR cB (aa 1 rfl) ag)) rfl (Ab ((l_ T).mono (by decide)) hr rfl T.aaN.m T.aaN.F.kp T.aaN.b (ai (aa 0 rfl) au aj) ⟨l,rfl,B.F,B.h3,B.hl,B.sz,.inr ⟨B.cn,rfl⟩⟩ ⟨T.aaB,T.abo,λea=>?_⟩)))
  refine af (aw (i:=2) aX.nd rfl (Or.inl rfl) (EvN.ev (bg (ak (b6 T.aaU rfl T.aab Fl (aa 3 rfl) rfl T.aac.m) (ak (aG (gE T.aaA) rfl T.aab Fl (ai (aa 3 rfl) (ai (nO rfl T.aaV cJ) au aj) aj)) (ak (b6 T.aaR rfl T.aab Fl (aa 3 rfl) rfl T.abg.m) (ak (b6 T.aaS rfl T.aab Fl (aa 3 rfl) rfl T.abh.m) aF aB) aB) aB) aB))) ?_);refine af (aw (i:=2) aX.nd rfl (Or.inl rfl) (EvN.ev (gj (aa 2 rfl) (EvN.ev (bg (ak (b6 T.aaW rfl T.aab Fl (aa 3 rfl) rfl T.abq.m) (ak (b6 T.aaX rfl T.aab Fl (aa 3 rfl) rfl T.abr.m) (ak (b6 T.aaJ rfl T.aab Fl (aa 3 rfl) rfl T.aad.m) aF aB) aB) aB))) (by walk_at"len"))) ?_)
  refine af (aw (i:=2) aX.nd rfl (Or.inl rfl) (EvN.ev (gj (aa 2 rfl) (EvN.ev (bg (ak (b6 T.aa2 rfl T.aab Fl (aa 3 rfl) rfl T.abv.m) (ak (b6 T.aaY rfl T.aab Fl (aa 3 rfl) rfl T.abt.m) (ak (b6 T.aaK rfl T.aab Fl (aa 3 rfl) rfl T.abd.m) aF aB) aB) aB))) (by walk_at"len"))) ?_)
  refine af (aw (i:=2) aX.nd rfl (Or.inl rfl) (EvN.ev (gj (aa 2 rfl) (EvN.ev (bg (ak (b6 T.aaT rfl T.aab Fl (aa 3 rfl) rfl T.abi.m) (ak (b6 T.aaL rfl T.aab Fl (aa 3 rfl) rfl T.abe.m) (ak (b6 T.aa5 rfl T.aab Fl (aa 3 rfl) rfl T.abn.m) aF aB) aB) aB))) (by walk_at"len"))) (aI ?_))
  refine af (bp (aa 2 rfl) ?_);exact rfl
theorem nQ:okU 9 (.lst xo)=true:=by decide+kernel
theorem Cz:eqW (.lst xo) (.lst xo)=true:=by decide+kernel
def ny:List U->Out->Prop:=λus o=>∃l:List P2,us=[lp l]/\Big l/\o=.val (.bl true)
theorem e8(T:Txt w K mg):ba P w K mg base (CXF P w) 11 T.aaf.a T.aaf.d ["ends"] (spU K (ny)):=by
 refine bo T.aaf.F cW (λus o h=>?_) (λQK A outer s H E O us o hr h=>?_)
 ·obtain⟨l,rfl,B,rfl⟩:=h;rfl
 obtain⟨l,rfl,B,rfl⟩:=h;refine Ws.nox ?_;refine af (aw (i:=1) cW.nd rfl (Or.inl rfl) (EvN.ev (gj (EvN.ev (bg (ak nJ (ak nJ aF aC) aC))) (EvN.ev (BK (EvN.ev (bg (ak nJ aF aC))) ag (by lia) (by lia) (by decide))) (by walk_at"len"))) ?_)
 show Ws _ _ _ _ _ _ [some (.val (lp l)),some (.val (.lst xo)),none];refine af (aw (i:=2) cW.nd rfl (Or.inl rfl) (EvN.ev (jJ (nE rfl) rfl T.abf Lb (ai (aa 0 rfl) au aj))) ?_);refine af (bp (jd (eP (pf (gu hr) nQ nQ) (aA ((gU T).mono (by decide)) hr rfl T.aaj.m T.aaj.F.kp T.aaj.b ay (ai (aa 2 rfl) (ai ag au aC) aj) ⟨l,0,rfl,.inl rfl,B,rfl⟩) (aa 1 rfl)) (λhz=>(jd (eP (pf (gu hr) nQ nQ) (aA ((gU T).mono (by decide)) hr rfl T.aaj.m T.aaj.F.kp T.aaj.b ay (ai (aa 2 rfl) (ai ag au aC) aj) ⟨l,1,rfl,.inr rfl,B,rfl⟩) (aa 1 rfl)) (λhz=>(o7 (eP (pf (gu hr) (mf _) (mf _)) (aa 2 rfl) (aa 0 rfl))))))) ?_)
 exact vB (by rw[Cz,qN];simp)
def eH(f:Nat->List P2):List U:=[lp (f 0),lp (f 1),lp (f 2)]
theorem yg(f:Nat->List P2){r:Nat}(hr:r<3):(eH f)[r]?=some (lp (f r)):=by
 rcases (show r=0\/r=1\/r=2 by lia) with z |z |z <;>subst z <;>rfl
theorem kL(f:Nat->List P2):okU 9 (.lst (eH f))=true:=by
 have:∀l:List P2,okU 8 (lp l)=true:=λl=>pM λ_=>rfl
 rw[okU];show (okU 8 (lp (f 0)) && (okU 8 (lp (f 1)) && (okU 8 (lp (f 2)) && true)))=true;rw[this,this,this];rfl
theorem wD(f:Nat->List P2):eqW (.lst (eH f)) (.lst (eH f))=true:=ql 9 _ (kL f)
theorem oZ(f:Nat->List P2){r:Nat}(hr:r<3){k:Int}(e:k=(r:Int)):atI (eH f) k=some (lp (f r)):=nI e (yg f hr)
theorem EE{n d:Nat}{k:Int}(h:0<=k):HT.sIx n d (some k)=min k.toNat n:=by
 show (if k<0 then (k+(n:Int)).toNat else min k.toNat n)=_
 rw[if_neg (by lia)]
theorem wo(l:List P2){k:Int}(h0:0<=k):fo (l.map pu) none (some k)=(l.take k.toNat).map pu:=by
 unfold fo;rw[EE h0,HT.sIx_none,ES,List.drop_zero,Lz,<-LZ];by_cases h:k.toNat<=l.length
 ·rw[Nat.min_eq_left h]
 ·rw[Nat.min_eq_right (by lia),Ip (E2 _),Ip (by lia)]
theorem B9(ns:List Int)(a b:Option Int):∃cs:List Int,fo (ns.map U.int) a b=cs.map U.int/\(∀x∈cs,x∈ns)/\cs.length<=ns.length:=by
 unfold fo;rw[<-NA,<-LZ];exact⟨_,rfl,λx hx=>Hx (Hy hx),by simp;lia⟩
def fY(l:List P2)(r:Nat):List P2:=if r=0 then l else if r=1 then l.take 1 else ST.srt (l.take 2)
theorem wg{l:List P2}{r:Nat}{p:P2}(h:p∈fY l r):p∈l:=by
 unfold fY at h;split at h
 ·exact h
 split at h
 ·exact Hy h
 ·exact Hy ((ST.srt_mem _ _).mp h)
theorem AB{l:List P2}(h:l≠[])(h64:l.length<64)(r:Nat):fY l r≠[]/\(fY l r).length<64:=by
 obtain⟨a,t,rfl⟩:=Lr h;unfold fY;split
 ·exact⟨h,h64⟩
 split
 ·exact⟨by simp,by simp⟩
 ·have k:=ST.srt_len ((a::t).take 2);refine⟨λz=>?_,?_⟩
  ·have:a∈ST.srt ((a::t).take 2):=(ST.srt_mem _ _).mpr (by simp)
   rw[z]at this;simp at this
  ·simp only[I_]at k;lia
def m9:List U->Out->Prop:=λus o=>∃(l:List P2) (cs:List Int),us=[lp l,.lst (cs.map U.int)]/\Fld l/\l.length<64/\(∀p∈l,Szp 1500 p)/\(∀m∈cs,Sz 1048576 m)/\cs.length<=63/\o=.val (.bl true)
theorem ju(T:Txt w K mg):ba P w K mg base (CXF P w) 9 T.aap.a T.aap.d ["ends","cells"] (spU K (m9)):=by
 refine bo T.aap.F cL (λus o h=>?_) (λQK A outer s H E O us o hr h=>?_)
 ·obtain⟨l,cs,rfl,F,hl,sz,cz,c63,rfl⟩:=h;rfl
 obtain⟨l,cs,rfl,F,hl,sz,cz,c63,rfl⟩:=h;refine Ws.nox ?_;have hm:((cs.map U.int).length:Int)=(cs.length:Int):=by rw[ES]
 have tk:=AB F.ne hl;have tz:∀r,∀p∈fY l r,Szp 1500 p:=λr p hp=>sz p (wg hp)
 have nd:l.Nodup:=by rw[<-F.cr];exact bh l
 have nd2:(l.take 2).length<1000/\(l.take 2).Nodup:=⟨by simp;lia,nd.sublist (Kq _ _)⟩
 have w1:U.lst (fo (l.map pu) none (some 1))=lp (l.take 1):=by rw[wo l (by decide)];rfl
 have w2:U.lst (fo (l.map pu) none (some 2))=lp (l.take 2):=by rw[wo l (by decide)];rfl
 refine af ?_;generalize hE:(Expr.List _ _)=E0;refine aw (i:=2) (u:=.lst (eH (fY l))) cL.nd rfl (Or.inl rfl) ?dd ?_ (by subst hE;rfl)
 case dd=>
  subst hE;refine EvD.ev ?_;refine dsp (us:=eH (fY l)) ?_ (show 3<=sizeLine by decide)
  refine ak (EvN.ev (jJ (nE rfl) rfl T.abf Lb (ai (aa 0 rfl) au aj))) ?_ aB;refine ak (ir w1 (EvN.ev (c8 (aa 0 rfl) fk (dZ ag) (.inl rfl)))) ?_ bM;refine ak (EvN.ev (kc rfl T.aa4 (gu hr) (ir w2 (EvN.ev (c8 (aa 0 rfl) fk (dZ ag) (.inl rfl)))) nd2 bM)) aF aB
 refine af (gl (λ_:Unit=>[some (.val (lp l)),some (.val (.lst (cs.map U.int))),some (.val (.lst (eH (fY l)))),none]) (λ_ _=>True) rfl PassesOwn.never (pW rfl T.abu (ai ag au aC) (by lia) (by lia)) ?h0 ?hs ?hd)
 case h0=>exact⟨(),trivial,rfl,rfl,rfl,trivial⟩
 case hs=>
  intro H0 i x _ hx _;obtain⟨hi,rfl⟩:=ff hx;have QO:i<3:=by lia
  refine⟨_,(h9 (i:=3) cL.nd rfl (Or.inl rfl)),?_⟩;refine af (cE (jW (iG (aA ((eC T).mono (by decide)) hr rfl T.aae.m T.aae.F.kp T.aae.b ay (ai (aJ (aa 2 rfl) (aa 3 rfl) rfl (oZ (fY l) QO (by lia))) (ai (bZ ag) au g6) bM) ⟨fY l i,-1,rfl,by decide,by decide+kernel,tz i,(tk i).1,(tk i).2,rfl⟩))) rfl (aI (aI ?_)))
  exact⟨(),trivial,rfl,rfl,rfl,trivial⟩
 case hd=>
  intro _ ps _ QV;refine dk ?_ QV;refine af (gl (λ_:Unit=>[some (.val (lp l)),some (.val (.lst (cs.map U.int))),some (.val (.lst (eH (fY l)))),none]) (λ_ _=>True) rfl PassesOwn.never (pW rfl T.abu (ai (aG (dS rfl) rfl T.aaH GA (ai (aa 1 rfl) au aj)) au aB) (by rw[hm];lia) (by rw[hm];lia)) ?h0 ?hs ?hd)
  case h0=>exact⟨(),trivial,rfl,rfl,rfl,trivial⟩
  case hs=>
   intro H0 i x _ hx _;obtain⟨hi,rfl⟩:=ff hx;rw[hm]at hi;refine⟨_,(h9 (i:=3) cL.nd rfl (Or.inl rfl)),?_⟩;have c0:=ui cz i;have h10:(0:Int)<10 ^ (60:Int).toNat:=by decide+kernel
   have r0:=Gs (cs.getD i 0) (show (10:Int) ^ (60:Int).toNat≠0 by lia)
   have rz:Sz 200 (cs.getD i 0%10 ^ (60:Int).toNat):=L2.Sz.emod (by decide+kernel) (by decide+kernel)
   have nz:Sz 1000 (-1-cs.getD i 0%10 ^ (60:Int).toNat):=(L2.Sz.sub' (L2.Sz.lit (m:=200) (x:=-1) (by decide+kernel)) rz).mono (by decide)
   refine af (cE (jW (iG (aA ((eC T).mono (by decide)) hr rfl T.aae.m T.aae.F.kp T.aae.b ay (ai (aJ (aa 2 rfl) (cf (aa 3 rfl) ag (by walk_at"mod")) rfl (oZ (fY l) (r:=i%3) (by lia) (by lia))) (ai (bL (bZ ag) (cf (aJ (aa 1 rfl) (aa 3 rfl) rfl (pE (by lia) (by lia))) (ik ag ag ⟨by decide,by decide,by decide⟩) h10)) au bN) bM) ⟨fY l (i%3),-1-cs.getD i 0%10 ^ (60:Int).toNat,by rw[show (0+(i:Int)).toNat=i by lia],by lia,nz,tz _,(tk _).1,(tk _).2,rfl⟩))) rfl (aI (aI ?_)))
   exact⟨(),trivial,rfl,rfl,rfl,trivial⟩
  case hd=>
   intro _ ps _ QV;refine dk ?_ QV;refine af (bp (eP (pf (gu hr) (kL (fY l)) (kL (fY l))) (aa 2 rfl) ?dd) ?_)
   case dd=>
    generalize hE:(Expr.List _ _)=E0;subst hE;refine EvD.ev ?_;refine dsp (us:=eH (fY l)) ?_ (show 3<=sizeLine by decide)
    refine ak (aa 0 rfl) ?_ aj;refine ak (ir w1 (EvN.ev (c8 (aa 0 rfl) fk (dZ ag) (.inl rfl)))) ?_ bM;refine ak (EvN.ev (kc rfl T.aa4 (gu hr) (ir w2 (EvN.ev (c8 (aa 0 rfl) fk (dZ ag) (.inl rfl)))) nd2 bM)) aF aB
   exact vB (wD _)
theorem BN(T:Txt w K mg):ba P w K mg base (CXF P w) 12 T.abw.a T.abw.d ["script"] (spU K (iJ)):=by
 refine bo T.abw.F gW (λus o h=>?_) (λQK A outer s H E O us o hr h=>?_)
 ·obtain⟨ns,rfl,h63,hB,rfl⟩:=h;rfl
 obtain⟨ns,rfl,h63,hB,rfl⟩:=h;refine Ws.nox ?_;have c1:=e9 hB 1;obtain⟨d3,da,dc,dl,dz,dn⟩:=Bv ns;have M:=nv ns d3
 have lz:∀p∈ao ((drP ns).map (putF ns)),Szp 150 p:=λp hp=>by
  obtain⟨y,hy,rfl⟩:=EZ.mp (be _ p hp);exact uH (dz y hy)
 have ll:(ao ((drP ns).map (putF ns))).length<64:=by
  have:=ig ((drP ns).map (putF ns));rw[ES]at this;lia
 have la:=M.ar;have lc:=M.cn;have ln:=M.np;rw[da]at la;rw[dc]at lc;rw[<-ln]at dn;obtain⟨g1,g2,s1,s2⟩:=Bk ns;obtain⟨g3,gc⟩:=pV g1 g2;have G:=nv ns (S:=grP ns) g3;have z0:Sz 134 0:=by decide+kernel
 have gz:∀z∈grP ns,Szp 140 z:=λz hz=>by
  unfold grP at hz;simp only[E1,JP,or_false]at hz;rcases hz with rfl |rfl |rfl
  ·exact⟨z0.mono (by decide),z0.mono (by decide)⟩
  ·exact⟨s1.mono (by decide),z0.mono (by decide)⟩
  ·exact⟨z0.mono (by decide),s2.mono (by decide)⟩
 have GB:Big (ao ((grP ns).map (putF ns))):=by
  refine⟨G.F,G.h3,?_,λp hp=>?_,by rw[G.cn];exact gc⟩
  ·have:=ig ((grP ns).map (putF ns));have e:((grP ns).map (putF ns)).length=3:=by simp[grP]
   lia
  ·obtain⟨y,hy,rfl⟩:=EZ.mp (be _ p hp);exact⟨(oa (gz y hy)).1.mono (by decide),(oa (gz y hy)).2.mono (by decide)⟩
 have lz':∀p∈ao ((drP ns).map (putF ns)),Szp 1500 p:=λp hp=>⟨(lz p hp).1.mono (by decide),(lz p hp).2.mono (by decide)⟩
 obtain⟨cs,ecs,mcs,lcs⟩:=B9 ns (some 6) (some 60);have F:=M.F;have h3:=M.h3;refine af (xV (aA ((lu T).mono (by decide)) hr rfl T.aav.m T.aav.F.kp T.aav.b ay (ai (aa 0 rfl) au aj) ⟨ns,rfl,hB,rfl⟩) (sZ [1,2,3] rfl (bW (bv (i:=1) gW.nd rfl (Or.inl rfl)) (bW (bv (i:=2) gW.nd rfl (Or.inl rfl)) (bW (bv (i:=3) gW.nd rfl (Or.inl rfl)) gB))) rfl) ?_)
 generalize ao ((drP ns).map (putF ns))=l at *;refine af (cE (Tw.t (Dk (jW (iG (aA ((ju T).mono (by decide)) hr rfl T.aap.m T.aap.F.kp T.aap.b ay (ai (aa 1 rfl) (ai (EvN.ev (c8 (aa 0 rfl) (dZ ag) (dZ ag) (.inr rfl))) au bM) aj) ⟨l,cs,by rw[ecs],F,ll,lz',λm hm=>hB m (mcs m hm),by lia,rfl⟩))) (λhz=>(BA (jW (iG (aA ((e8 T).mono (by decide)) hr rfl T.aaf.m T.aaf.F.kp T.aaf.b ay (ai (aA ((lx T).mono (by decide)) hr rfl T.aaw.m T.aaw.F.kp T.aaw.b ay (ai (aa 0 rfl) au aj) ⟨ns,rfl,hB,rfl⟩) au aB) ⟨_,rfl,GB,rfl⟩))))))) rfl (aI ?_))
 by_cases hc:drM ns >100
 ·refine af (gs (aR gI (aa 2 rfl) ag) (decide_eq_true hc) ?_);refine af (bp (aA ((e8 T).mono (by decide)) hr rfl T.aaf.m T.aaf.F.kp T.aaf.b ay (ai (aa 1 rfl) au aj) ⟨l,rfl,⟨F,h3,ll,lz',by lia⟩,rfl⟩) ?_)
  exact rfl
 refine af (cE (aR gI (aa 2 rfl) ag) (decide_eq_false hc) (aI ?_));refine af (aw (i:=4) gW.nd rfl (Or.inl rfl) (EvN.ev (jJ (nE rfl) rfl T.abf Lb (ai (aa 1 rfl) au aj))) ?_);by_cases hw:aQ ns 1/3200%2=0
 ·refine af (gs (aR cB (cf (cT (aA ((aN T).mono (by decide)) hr rfl T.aaa.m T.aaa.F.kp T.aaa.b ay (ai (aa 0 rfl) (ai ag au aC) aj) ⟨ns,_,rfl,by decide,rfl⟩) ag (by walk_at"div")) ag (by walk_at"mod")) ag) (decide_eq_true hw) ?_)
  refine af (aw (i:=5) gW.nd rfl (Or.inl rfl) (EvN.ev (ci ((gF T).mono (by decide)) hr rfl T.aan.m T.aan.F.kp T.aan.b ay (ai (aa 4 rfl) au aj) ⟨l,rfl,F,ll,lz',.inl ⟨by lia,by lia,lz,rfl⟩⟩)) ?_)
  refine af (bp (jd (aG (gi (by intro _ h;cases h) (by walk_at"kit")) rfl T.aab Fl (ai (aa 5 rfl) (ai (nO rfl T.abf Lb) au aj) aj)) (λhz=>(jd (eP cB (aG (dS rfl) rfl T.aaH GA (ai (aa 5 rfl) au aj)) (aa 2 rfl)) (λhz=>(o7 (eP (pf (gu hr) (mf _) (mf _)) (aa 4 rfl) (aa 1 rfl))))))) ?_)
  refine vB ?_;rw[qN];have e:(((bI l).map pu).length:Int)=drM ns:=by rw[ES,dn]
  rw[ES]at e;simp[e]
 refine af (cE (aR cB (cf (cT (aA ((aN T).mono (by decide)) hr rfl T.aaa.m T.aaa.F.kp T.aaa.b ay (ai (aa 0 rfl) (ai ag au aC) aj) ⟨ns,_,rfl,by decide,rfl⟩) ag (by walk_at"div")) ag (by walk_at"mod")) ag) (decide_eq_false hw) (aI ?_))
 refine af (aw (i:=6) gW.nd rfl (Or.inl rfl) (EvN.ev (ci ((l_ T).mono (by decide)) hr rfl T.aaN.m T.aaN.F.kp T.aaN.b ay (ai (aa 4 rfl) au aj) ⟨l,rfl,F,h3,ll,lz',.inl ⟨by lia,by lia,lz,rfl⟩⟩)) ?_)
 refine af (bp (jd (aG (gi (by intro _ h;cases h) (by walk_at"kit")) rfl T.aab Fl (ai (aa 6 rfl) (ai (nO rfl T.abf Lb) au aj) aj)) (λhz=>(jd (eP cB (aG (dS rfl) rfl T.aaH GA (ai (aa 6 rfl) au aj)) (aa 3 rfl)) (λhz=>(o7 (eP (pf (gu hr) (mf _) (mf _)) (aa 4 rfl) (aa 1 rfl))))))) ?_)
 refine vB ?_;rw[qN];have e:(((SG.srt ST3.KT (pcs l)).map trU).length:Int)=drW ns:=by rw[ES,yA F h3,la]
 rw[ES]at e;simp[e]
end
theorem ar1{fd:Gn}{ps:List Str}{us:List EW}(h:us.length=1)(q:∀a0,Lw fd ⟨[a0],[]⟩=pure (ps.zip [a0])):Lw fd ⟨us,[]⟩=pure (ps.zip us):=match us,h with |[a0],_=>q a0
theorem ar2{fd:Gn}{ps:List Str}{us:List EW}(h:us.length=2)(q:∀a0 a1,Lw fd ⟨[a0,a1],[]⟩=pure (ps.zip [a0,a1])):Lw fd ⟨us,[]⟩=pure (ps.zip us):=match us,h with |[a0,a1],_=>q a0 a1
theorem ar3{fd:Gn}{ps:List Str}{us:List EW}(h:us.length=3)(q:∀a0 a1 a2,Lw fd ⟨[a0,a1,a2],[]⟩=pure (ps.zip [a0,a1,a2])):Lw fd ⟨us,[]⟩=pure (ps.zip us):=match us,h with |[a0,a1,a2],_=>q a0 a1 a2
theorem bd_inner_count{K:ER}{D:E6}{x1 x2 x3 t:_}(q:K.lookup D=some ⟨.type "tuple",x1,.seq #[.int 1 t] x2,x3⟩)(kV dc pm:EW)(an:Option E6)(cd ct:EW):cw K (HA "inner_count" "inner_count" (bU bG) (bA bG) (aq bG) (.ref D) kV dc pm an cd ct) ["land","k"] []∧∃t,cw K (HA "inner_count" "inner_count" (bU bG) (bA bG) (aq bG) (.ref D) kV dc pm an cd ct) ["land","k"] [.int 1 t]:=
 ⟨λs us X hl=>match us,hl with |[_,_],_=>BindsTo.of_defaults rfl (X _ _ q) rfl rfl rfl,t,λs us X hl=>match us,(show us.length=1 by simpa using hl) with |[_],_=>BindsTo.of_defaults rfl (X _ _ q) rfl rfl rfl⟩
theorem bd_count{K:ER}{D:E6}{x1 x2 x3 t:_}(q:K.lookup D=some ⟨.type "tuple",x1,.seq #[.int 1 t] x2,x3⟩)(kV dc pm:EW)(an:Option E6)(cd ct:EW):cw K (HA "count" "count" (bU eo) (bA eo) (aq eo) (.ref D) kV dc pm an cd ct) ["land","k"] []∧∃t,cw K (HA "count" "count" (bU eo) (bA eo) (aq eo) (.ref D) kV dc pm an cd ct) ["land","k"] [.int 1 t]:=
 ⟨λs us X hl=>match us,hl with |[_,_],_=>BindsTo.of_defaults rfl (X _ _ q) rfl rfl rfl,t,λs us X hl=>match us,(show us.length=1 by simpa using hl) with |[_],_=>BindsTo.of_defaults rfl (X _ _ q) rfl rfl rfl⟩
abbrev spLaw(K:ER):Sp:=spU K iJ
theorem law_start(K:ER)(H:Hp)(a:E6)(ns:List Int)(h1:ns.length<=63)(h2:∀m∈ns,Sz 1048576 m)(_:AI H)(h3:SqL K H a (ns.map V.int)):spLaw K [.ref a] H (λv _=>v=.bl true) λ_ _ _=>False:=vU h1 h2 h3
theorem law_ok{P:E8}{w:FE}{K:ER}{mg:Str→Option EW}{fa:E6}(hfa:mg "law"=some (.ref fa))(T:Txt w K mg):
  ∃fd:Gn,(∀(s:EU) (u:EW),NR s fd ⟨[u],[]⟩ [("script",u)])∧∀base:GV,K.In base→base.Ns Hh mg→ba P w K mg base CX0 12 fa fd ["script"] (spLaw K):=by
 cases hfa.symm.trans T.abw.m;obtain⟨_,_,_,_,_,_,_,_,_,hd,_⟩:=T.abw.F.ex;exact⟨T.abw.d,λs v=>by rw[hd];exact .of_eq rfl,λbase _ _=>(BN T).calm yW⟩
end My
namespace PySem.W.Fast
theorem tw10230616043429322298:True:=trivial
theorem tw8131256089126083262:True:=trivial
theorem tw9893761759412058931:True:=trivial
theorem tw8270262981497242328:True:=trivial
theorem tw3828020787229901274:True:=trivial
theorem tw8965025181295041347:True:=trivial
theorem tw12701684813459445743:True:=trivial
theorem tw3884531213727288481:True:=trivial
theorem tw4154567579763534140:True:=trivial
theorem tw11281651750874579580:True:=trivial
theorem tw14632679938050254926:True:=trivial
theorem tw1862927784860584932:True:=trivial
theorem tw380761846712540877:True:=trivial
theorem tw14113465635920730525:True:=trivial
theorem tw7212018204433589334:True:=trivial
theorem tw12128624180516436244:True:=trivial
theorem tw18112226360647128257:True:=trivial
theorem tw14251242419194936480:True:=trivial
theorem tw4651640476097031238:True:=trivial
theorem tw13663397919203750640:True:=trivial
theorem tw382122890903068290:True:=trivial
theorem tw6486447378471316890:True:=trivial
theorem tw9555717994160344563:True:=trivial
theorem tw15778067828254250827:True:=trivial
theorem tw6524019364255270198:True:=trivial
theorem tw7388368809770364814:True:=trivial
theorem tw5436058687371289630:True:=trivial
theorem tw3402497060990873369:True:=trivial
theorem tw11595549097333249990:True:=trivial
theorem tw15934469733005620324:True:=trivial
theorem tw2892652670922518530:True:=trivial
theorem tw7008840055187635261:True:=trivial
theorem tw11289463786459794750:True:=trivial
theorem tw17226662287958858958:True:=trivial
theorem tw4864533325318166294:True:=trivial
theorem tw3952203131220510021:True:=trivial
theorem tw9413373786944951120:True:=trivial
theorem tw16249160792400569843:True:=trivial
theorem tw17156539484189290916:True:=trivial
theorem tw18367094471038791518:True:=trivial
theorem tw4212043017443190680:True:=trivial
theorem tw17741432697982938773:True:=trivial
theorem tw11501203498724205856:True:=trivial
theorem tw15471291323415559733:True:=trivial
theorem tw2712119713110719626:True:=trivial
theorem tw15220064365285830497:True:=trivial
theorem tw8875069114946978528:True:=trivial
theorem tw10143050214425026840:True:=trivial
theorem tw16046530244654334478:True:=trivial
theorem tw5895057736113594083:True:=trivial
theorem tw11646730282664118377:True:=trivial
theorem tw17998443198481742463:True:=trivial
theorem tw17484649106892306111:True:=trivial
theorem tw17033599110704600993:True:=trivial
theorem tw2755156728699003674:True:=trivial
theorem tw8571903386618600395:True:=trivial
theorem tw12109168128547047932:True:=trivial
theorem tw10035518744549588158:True:=trivial
theorem tw9698184758143301634:True:=trivial
theorem tw17999315925891015068:True:=trivial
theorem tw3450284011226168118:True:=trivial
theorem tw11711295190066514993:True:=trivial
theorem tw9952114140109527431:True:=trivial
theorem tw15396064979438403443:True:=trivial
theorem tw890305818026954504:True:=trivial
theorem tw123935058184327486:True:=trivial
theorem tw6172789509014453579:True:=trivial
theorem tw5926176570522638619:True:=trivial
theorem tw349895046120012099:True:=trivial
theorem tw7465044481321861116:True:=trivial
theorem tw6931598687438430753:True:=trivial
theorem tw233895171296940534:True:=trivial
theorem tw4461236430587959789:True:=trivial
theorem tw5663089201857442939:True:=trivial
theorem tw11445647479878094144:True:=trivial
theorem tw16456023620378764594:True:=trivial
theorem tw4989646998722576613:True:=trivial
theorem tw6953537854983842513:True:=trivial
theorem tw14464583015869391178:True:=trivial
theorem tw9696414366644207513:True:=trivial
theorem tw11818356193790920293:True:=trivial
theorem tw12396575684478353253:True:=trivial
theorem tw295397517125809615:True:=trivial
theorem tw217561145544922729:True:=trivial
theorem tw1785702946958879034:True:=trivial
theorem tw5513856622382892576:True:=trivial
theorem tw5088271953454599710:True:=trivial
theorem tw10139481505441394558:True:=trivial
theorem tw6412459969980503258:True:=trivial
theorem tw5566088100198527399:True:=trivial
theorem tw11078054332782282540:True:=trivial
theorem tw12198231873143754261:True:=trivial
theorem tw4759679148390033260:True:=trivial
theorem tw15623516271097864398:True:=trivial
theorem tw3709662766094478337:True:=trivial
theorem tw17486213955896414138:True:=trivial
theorem tw11582300767445291337:True:=trivial
theorem tw17539762514042339862:True:=trivial
theorem tw1192697797922522215:True:=trivial
theorem tw12494981431528338660:True:=trivial
theorem tw7508314165884471000:True:=trivial
theorem tw5498923965819934208:True:=trivial
theorem tw8060972983587927495:True:=trivial
theorem tw992064596747892621:True:=trivial
theorem tw16425149986243611987:True:=trivial
theorem tw9933920150089132933:True:=trivial
theorem tw18262656596921652581:True:=trivial
theorem tw13317397384285330765:True:=trivial
theorem tw6039893503655989221:True:=trivial
theorem tw10866593867629384421:True:=trivial
theorem tw3352628736903172871:True:=trivial
theorem tw2163237784252945189:True:=trivial
theorem tw3485414668460004720:True:=trivial
theorem tw14118345916822590433:True:=trivial
theorem tw12495139281648790349:True:=trivial
theorem tw1580082742731995193:True:=trivial
theorem tw4863871507181551041:True:=trivial
theorem tw16798372597032967645:True:=trivial
theorem tw7726329335942535856:True:=trivial
theorem tw6905849150318021754:True:=trivial
theorem tw11154316579520967560:True:=trivial
theorem tw13257057085359582947:True:=trivial
theorem tw10663740780370149968:True:=trivial
theorem tw15149922200671827585:True:=trivial
theorem tw6502517492427882307:True:=trivial
theorem tw11758241571171164046:True:=trivial
theorem tw9392863614177581941:True:=trivial
theorem tw15913103089510615390:True:=trivial
theorem tw4437337074855846131:True:=trivial
theorem tw12826086404912756915:True:=trivial
theorem tw3003063556686535615:True:=trivial
theorem tw13004783424740378024:True:=trivial
theorem tw9943236061768667727:True:=trivial
theorem tw391083997268584530:True:=trivial
theorem tw10998899565965758338:True:=trivial
theorem tw6527047261080714627:True:=trivial
theorem tw5426299724722457387:True:=trivial
theorem tw4227463277608028345:True:=trivial
theorem tw13620972104117583450:True:=trivial
theorem tw12684275499157371893:True:=trivial
theorem tw12772238171108856568:True:=trivial
theorem tw12511809717431912008:True:=trivial
theorem tw14902796767641803174:True:=trivial
theorem tw17183878138790465134:True:=trivial
theorem tw5772631887225113685:True:=trivial
theorem tw3541712233108729472:True:=trivial
theorem tw11434655329674921425:True:=trivial
theorem tw4626266679936791018:True:=trivial
theorem tw616906918646946107:True:=trivial
theorem tw3479894458948861197:True:=trivial
theorem tw5590379912954453230:True:=trivial
theorem tw17246635797436340565:True:=trivial
theorem tw7069040823892730324:True:=trivial
theorem tw9362606148720204500:True:=trivial
theorem tw18329954660240610539:True:=trivial
theorem tw16969558435287614841:True:=trivial
theorem tw5856198762227732629:True:=trivial
theorem tw5995978487219025115:True:=trivial
theorem tw14582815108493237687:True:=trivial
theorem tw5434986011433392423:True:=trivial
theorem tw5423347500943446112:True:=trivial
theorem tw3289042851662785955:True:=trivial
theorem tw11281093357695483467:True:=trivial
theorem tw17654495684231367030:True:=trivial
theorem tw103638984298275744:True:=trivial
theorem tw9575559154639372891:True:=trivial
theorem tw10756258725488749486:True:=trivial
theorem tw5082119661090314163:True:=trivial
theorem tw5810491311413035884:True:=trivial
theorem tw6077360723879317892:True:=trivial
end PySem.W.Fast
open PySem PySem.W PyProof.Rows L2
set_option maxRecDepth 100000 in
set_option maxHeartbeats 0 in
set_option maxHeartbeats 0 in
theorem PySem.Challenge.cw_stakefield_k30_refused_counts_and_stakes_holds : PySem.Challenge.rw_stakefield_k30_refused_counts_and_stakes.Holds := by
 w_on;o_law;k_head;(case hw=>w_witness2)
 k_fill
 refine L2.walk_ofB (l:=PySem.Challenge.rw_stakefield_k30_refused_counts_and_stakes) (n:=63) (k:=12) (x:="script") (CX:=CX0) (sp:=My.spLaw) rfl (by decide) rfl ⟨rfl,by decide,by decide⟩ (λw h Y=>by first |exact O4 Y |exact PySem.W.km_in_of Y) ?F My.law_start (λ_ _ _ _ z=>z)
 case F=>
  intro w mg fa h KX G hmg
  refine' My.law_ok hmg ⟨L2.dfn KX G (by walk_at"b1") ?_ ?_ ?_ ?_,L2.dfn KX G (by walk_at"b1") ?_ ?_ ?_ ?_,L2.dfn KX G (by walk_at"b2") ?_ ?_ ?_ ?_,L2.dfn KX G (by walk_at"b1") ?_ ?_ ?_ ?_,L2.dfn KX G (by walk_at"b1") ?_ ?_ ?_ ?_,L2.dfn KX G (by walk_at"b1") ?_ ?_ ?_ ?_,L2.dfn KX G (by walk_at"b2") ?_ ?_ ?_ ?_,L2.dfn KX G (by walk_at"b2") ?_ ?_ ?_ ?_,L2.dfn KX G (by walk_at"b1") ?_ ?_ ?_ ?_,L2.dfn KX G (by walk_at"b2") ?_ ?_ ?_ ?_,L2.dfn KX G (by walk_at"b2") ?_ ?_ ?_ ?_,L2.dfn KX G (λ_ _ _ _ _ _ _ h=>My.ar3 h λ_ _ _=>rfl) ?_ ?_ ?_ ?_,L2.dfn KX G (by walk_at"b1") ?_ ?_ ?_ ?_,L2.dfn KX G (by walk_at"b1") ?_ ?_ ?_ ?_,L2.dfn KX G (by walk_at"b1") ?_ ?_ ?_ ?_,L2.dfn KX G (by walk_at"b1") ?_ ?_ ?_ ?_,L2.dfn KX G (by walk_at"b1") ?_ ?_ ?_ ?_,L2.dfn KX G (by walk_at"b2") ?_ ?_ ?_ ?_,L2.dfn KX G (by walk_at"b2") ?_ ?_ ?_ ?_,L2.dfn KX G (by walk_at"b2") ?_ ?_ ?_ ?_,L2.dfn KX G (by walk_at"b1") ?_ ?_ ?_ ?_,L2.dfD KX G My.bd_inner_count ?_ ?_ ?_ ?_ ?_,L2.dfD KX G My.bd_count ?_ ?_ ?_ ?_ ?_,L2.dfn KX G (by walk_at"b2") ?_ ?_ ?_ ?_,L2.dfn KX G (by walk_at"b1") ?_ ?_ ?_ ?_,L2.dfn KX G (by walk_at"b1") ?_ ?_ ?_ ?_,L2.dfn KX G (by walk_at"b2") ?_ ?_ ?_ ?_,L2.dfn KX G (by walk_at"b1") ?_ ?_ ?_ ?_,L2.dfn KX G (by walk_at"b2") ?_ ?_ ?_ ?_,L2.dfn KX G (λ_ _ _ _ _ _ _ h=>My.ar3 h λ_ _ _=>rfl) ?_ ?_ ?_ ?_,L2.dfn KX G (by walk_at"b1") ?_ ?_ ?_ ?_,L2.dfn KX G (by walk_at"b2") ?_ ?_ ?_ ?_,L2.dfn KX G (by walk_at"b2") ?_ ?_ ?_ ?_,L2.dfn KX G (by walk_at"b1") ?_ ?_ ?_ ?_,L2.dfn KX G (by walk_at"b1") ?_ ?_ ?_ ?_,L2.dfn KX G (by walk_at"b2") ?_ ?_ ?_ ?_,L2.dfn KX G (by walk_at"b2") ?_ ?_ ?_ ?_,L2.dfn KX G (by walk_at"b1") ?_ ?_ ?_ ?_,L2.dfn KX G (by walk_at"b2") ?_ ?_ ?_ ?_,L2.dfn KX G (by walk_at"b1") ?_ ?_ ?_ ?_,L2.exn KX G ?_,L2.exn KX G ?_,L2.exn KX G ?_,L2.exn KX G ?_,L2.exn KX G ?_,L2.exn KX G ?_,?_,L2.exn KX G ?_,L2.exn KX G ?_,L2.exn KX G ?_,L2.exn KX G ?_,L2.exn KX G ?_,L2.exn KX G ?_,L2.exn KX G ?_,?_,FT KX G ?_,FT KX G ?_,FT KX G ?_,FT KX G ?_,FT KX G ?_,FT KX G ?_,FT KX G ?_,FT KX G ?_,FT KX G ?_,FT KX G ?_,FT KX G ?_,FT KX G ?_,FT KX G ?_,FT KX G ?_,FT KX G ?_,FT KX G ?_,FT KX G ?_,?_,?_,?_,?_,?_,?_,?_,?_,?_,?_,?_,?_,?_,?_,?_,?_,?_,?_,?_,?_,?_,?_,?_,?_,?_,L2.g_i KX G ?_⟩
  all_goals try first |k_is | (dsimp only[L2.exn];first |k_is |k_exc |kit_is |exact⟨by k_is,by k_is,by k_is,by k_is,by k_is,by k_is,by k_is⟩)
