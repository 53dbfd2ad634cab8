import PyProof.Rows.All
import Wide.All
import OpenK.AllK
import Wide.FinOn
import Lean
import PyProof.EqAt
import PyProof.EqKinds
import PyProof.NeKinds
import PyProof.TupleCall
import KE.KDictSum
import KE.KSortTup
import KE.KRevIter
import KE.KRevSl
import PySem.Challenge.RW_stakefield_k36_whole_each_telling_is_tol
open PySem renaming wpAny_bind->EJ,wpAny_pure->EO,Shared->ER,Value->EU,Addr->E1,Program->E2,starEach->E4,wpAny->Fd,boot_len->Fp,Around->Fq,World->Fs,model->FF,wpAny_call_entry->F4,wpAny_holding->F6,wpAny_seqItems->F7,FuncData->Ga,foldedSetIterable->Gg,wpAny_Call_Name_kw->Gh,wpAny_callSpecial?_slot->Gi,compareOp->Gn,sizeLine_eq->Gp,intKind_is->Gq,wpAny_field->Gr,wpAny_updateSeq->Gw,Heap->Gz,plainId_quiet->GA,codeAny_builtin->GE,argBest->GG,mainGlobals->GS,mem_of_lookup->GT,bootBuiltins->GU,wpAny_pyIter_list->GV,wpAny_newObj_type->GX,wpAny_isInstance->Ha,IsPair->Hb,wpAny_truthy_bool->Hi,wpAny_setState_of->Hm,Stmt->Hr,builtinLookup_eq_fast->Hv,eval->HE,wpAny_letGo->HN,wpAny_mono->HS,wpAny_setField_rec->HX,wpAny_tupleItemsOf->HY,wpAny_tryCatch->Ie,ZipApart->Ij,wpAny_passesOwn->Ik,wpAny_ite_split->Io,backTo->Iu,pyNext->Iy,wpAny_rule->IA,wpAny_nextOf_list_item->IC,wpAny_eqBool_tuple->IG,cLine->II,codeAny->IJ,wpAny_specialOf->IP,typeLookup_type->IQ,wpAny_richCompare_same_room->IR,GenState->IV,attributeBase->IW,wpAny_attempt->IZ,updateSeq->Ji,wpAny_askSetting->Jl,assignEach->Jn,Scope->Ju,swapsWith->Jv,rawInt->Jw,behindInMarks->Jx,intKind->JK,sliceBounds->JM,ofAClassStatement->JN,binaryOp->JS,bindArgs->JU,isSubtype_type->JY,wpAny_setField->JZ,codeAny_mono->J2,seqItems?->J4,isSubtype_tuple_tuple->J6,wpAny_pyIter_zip->Kd,NameKind->Kh,typeIs_int->Kj,holding->Kk,Keyword->Km,wpAny_setEntries_of->Ko,richCompare->Kr,wpAny_pyIter_range->KB,firstArgMember->KS,isSubtype_stop->KU,wpAny_newTuple->KZ,wpAny_letOwnedTupleGo_zip->K1,wpAny_getItem_list_slice->K8,wpAny_comprehension_free->K_,wpAny_pyIter_slot->Lb,richCompare_gives->Le,wpAny_standAt->Lm,IsRangeIter->Ln,keywordEach->Lo,setSearchFrom->Lp,wpAny_of_eq->Lq,wpAny_newList->Lr,IsZip->Lv,wpAny_forIn_list->LI,wpAny_pyNext_range_end->LO,wpAny_pyIter_rangeiter->LP,codeAny_compStart_list->LS,wpAny_execs_nil->L0,PassesOwn->L1,letOwnedTupleGo->L3,wpAny_typeOf->L_,wpAny_eqIsQuiet_tuple->Ma,wpAny_nextOf_list_end->Mf,wpAny_pyNext_zip_item->Mg,compEnvC->Ms,wpAny_newFunctionEnv->Mu,codeAny_extend_loopS->Mz,wpAny_pyNext_zip_end->MA,wpAny_updateSeq_pair->MD,hashByValue->ML,wpAny_pyIter_tuple->MR,evalPart_none->MT,comprehension->MW,pickOrder->M0,Fin->M3,call_function_tree->M5,wpAny_onRaise->M6,wpAny_assign_Name->M_,BindsTo->Nc,typeLookup->Nf,callerA->Ng,searchCouldBeSeen->Nh,wpAny_storeSet_of->Ni,field->Nl,assign->Np,pyIter->Nq,Result->Nr,seqIndex_neg->Nt,backToKw->NM,cellsFrom->NO,seqIndex_of->NQ,relabel->NT,theTreesLotGoes->NU,unsupported->NW,putSet_of->NX,codeAny_of_tree->NY,recursionLimit->Oe,entryFor_alias->Oj,wpAny_fieldsOf->Ol,callType_codes->Oq,sysModules->Ot,builtinsNs->Ou,wpAny_Name->Ov,call_meets->OK,closureFor->OM,setsByText->ON,isInstance->OO,spliced->OP,Operator->OQ,compPost->OU,Within->O4,CmpOp->O6,standAt->Pi,bindL->Pj,bindC->Pk,revObj->Pw,call->Py
open List renaming getElem?_eq_getElem->EK,length_map->EM,mem_cons_of_mem->ES,mem_cons->ET,mem_map->EV,getElem?_map->EW,mem_cons_self->EY,mem_singleton->E5,getElem?_eq_some_iff->E6,size_toArray->E7,mem_of_getElem?->E9,mem_reverse->Fc,getD_eq_getElem?_getD->Fe,map_cons->Ff,mem_append_right->Fg,getElem?_append_left->Fh,getElem?_append_right->Fj,not_mem_nil->Fm,mem_range->Fo,pairwise_cons->Fv,getElem?_set_ne->Fz,mem_append->FA,getElem?_eq_none->FC,pairwise_iff_getElem->FE,mem_append_left->FH,map_map->FI,length_pos_iff->FJ,mem_map_of_mem->FL,length_append->FM,pairwise_map->FO,length_reverse->FR,length_cons->FV,map_append->F1,range->F3,mem_iff_getElem?->F9,mem_filter->F_,getLast?_eq_getElem?->Gj,length_pos_of_mem->Gk,getLast?_cons_cons->Gs,zip_cons_cons->GB,getElem?_reverse->GF,length_eq_zero_iff->GH,nodup_cons->GN,take_succ->GO,take_length->GQ,getElem?_take_of_lt->GW,dropLast_concat_getLast->G6,length_dropLast->G9,mem_of_getLast?->G_,map_reverse->He,head?_eq_getElem?->Hg,getElem?_range->Hj,forIn_cons->Ht,foldl_cons->Hu,getElem?_zipWith_eq_some->Hy,getElem?_replicate->Hz,getElem?_cons_succ->HA,nodup_append->HG,ext_getElem?->HH,filterMap_cons->HJ,append_nil->HL,length_set->HM,perm_ext_iff_of_nodup->HR,length_replicate->HV,getElem?_drop->HW,length_filter_le->H_,sum_cons->Ia,forIn_nil->Ic,tail_cons->Ih,of_mem_zip->Il,all_eq_true->Iz,getElem?_dropLast->IB,length_eq_one_iff->ID,length_nil->IK,filterMap_append->IL,getElem?_toArray->IM,pairwise_reverse->IT,mem_of_head?->Ja,getElem?_inj->Jb,mem_take_iff_getElem->Jj,getElem_mem->Jk,map_nil->Jp,getLast?_eq_getLast->Js,range_succ->JF,append_assoc->JO,reverse_cons->JQ,getLast?_map->JR,take_zero->JX,zip->J1,getLast?_reverse->J9,getElem_inj->J_,length_take->Ka,lookup_cons->Kc,all_cons->Ki,getElem_of_mem->Kn,map_congr_left->Kq,filter_sublist->Kv,nodup_iff_pairwise_ne->Kx,perm_append_singleton->Kz,mem_filterMap->KC,zipWith->KH,head?_reverse->KJ,head?_map->K3,exists_mem_of_ne_nil->K5,getElem?_set->K9,length_range->La,zip_nil_left->Lg,length_erase_of_mem->Lh,foldl_append->Lj,map_dropLast->Lk,filter_cons_of_pos->Lz,filter_cons_of_neg->LA,pairwise_singleton->LC,filter_cons->LG,nodup_range->LH,perm_middle->LJ,cons_append->LM,getElem?_set_self->LN,take_of_length_le->LV,pairwise_lt_range->LW,append_eq_nil_iff->LX,length_singleton->L5,take_append_drop->Mb,mem_erase_of_ne->MC,mem_iff_getElem->ME,dropLast_subset->MF,reverse_reverse->MG,mem_of_mem_take->MH,nodup_nil->MK,perm_singleton->MP,drop_succ_cons->MQ,map_take->MZ,Perm->M4,filter_append->M9,take_sublist->Nd,toArray->Nv,length_drop->NA,ext_getElem->NC,zipIdx_cons->NI,mem_flatten->NK,length->NP,zipIdx_nil->N3,head?_cons->N4,replicate->Of,drop_zero->Os,any_cons->OR,map_drop->OV,all_map->O9,Sublist->Pf,map_id->Pr
open PySem.W renaming Frag->EL,mg_none_of->FS,kia_one->Gu,keepIn->Ho,fnOf->HC,kitOne->Jh,cellsFrom_some->JG,findIn->JT,codeIn->JV,methodObj->K6,kitx_list->K7,instObj->LZ,lookIn->MJ,kitx_tuple->MS,specialIn->Na,kitx_dict->Nb,plainGet->Nz,OpenLaw->NS,kIn_of->Og,WalkO->OT,isFn->O7
open PySem.Heap renaming get?_push_of_some->EN,lt_size->EZ,get?_push_size->E3,get?_update_other->Fk,get?_update_self->FB,size_push->Gb,SameBut->IH,get?_none_of_le->Kf,ExtBut->Pp
open Nat renaming le_refl->EX,lt_or_eq_of_le->Fu,lt_of_lt_of_le->Fx,ne_of_lt->Fy,lt_irrefl->FG,le_of_lt->FT,mod_eq_of_lt->FW,zero_le->FX,le_trans->GJ,lt_succ_self->GR,lt_succ_of_lt->GY,le_of_lt_succ->GZ,lt_or_ge->G0,lt_trichotomy->Hk,ne_of_gt->Hs,pow_succ->HD,mod_lt->HF,lt_of_le_of_lt->IE,pow_le_pow_right->Je,le_of_not_lt->Kb,mod_eq_sub_mod->KD,eq_zero_or_pos->KF,div_div_eq_div_mul->LU,lt_trans->L8,mod_add_mod->L9,mod_self->Mo,mul_le_mul_right->Mx,mod_mod_of_dvd->MY,add_sub_cancel->M7,lt_of_succ_lt->Nm,add_mod_right->Nn,sub_self->Nw,le_max_right->NB,succ_ne_self->NF,not_lt_of_gt->NG,le_add_right->NH,succ_le_succ->NL,le_max_left->NR,not_lt_zero->NV,le_of_eq->O8,min_self->O_,add_zero->Pa,zero_mod->Pd,pow_add->Pm,pow_pos->Pn,add_mod->Po
open Int renaming mul_nonneg->E8,mul_eq_zero->Fi,mul_nonpos_of_nonneg_of_nonpos->Fw,mul_pos->FK,lt_or_le->FQ,dvd_trans->FY,dvd_mul_left->F5,eq_of_mul_eq_mul_left->F8,lt_or_eq_of_le->GK,toNat_natCast->G3,mul_ediv_cancel_left->G4,pos_of_mul_pos_right->G5,zero_mul->Hc,mul_zero->Hd,mul_neg_of_neg_of_pos->Hq,nonneg_of_mul_nonneg_right->Hw,emod_lt_of_pos->Hx,dvd_mul_right->HI,emod_add_mul_ediv->HZ,gcd->Ig,mul_neg_of_pos_of_neg->Ii,emod_nonneg->Im,one_mul->Iw,dvd_add->IS,le_trans->IU,gcd_dvd_right->I_,eq_of_mul_eq_mul_right->Jd,natAbs_of_nonneg->Jf,mul_ediv_cancel'->Jg,gcd_dvd_left->Jm,natAbs_mul->JW,add_nonneg->J0,mul_comm->J7,natAbs_dvd_natAbs->J8,mul_le_mul_of_nonneg_left->Ke,mul_one->Kl,dvd_sub->Ks,le_refl->Kt,mul_lt_mul_of_pos_left->KA,dvd_refl->KI,add_zero->KL,sub_zero->KM,dvd_neg->Lx,dvd_mul_of_dvd_left->LB,ediv_le_self->LF,le_ediv_iff_mul_le->LY,ediv_nonneg->L6,dvd_coe_gcd->Mm,le_total->Mn,zero_add->Mp,ediv_one->Mq,mul_neg->MN,zero_dvd->Nx,le_of_lt->Ny,dvd_antisymm->NJ,mul_assoc->OY,ofNat_dvd->OZ,dvd_zero->Pc,sub_self->Pe
open Array renaming length_toList->E_,getElem?_toList->FU,getElem?_eq_getElem->Gx,getD_eq_getD_getElem?->GD,getD->Hl,getElem?_eq_some_iff->HQ,forIn_toList->IF,getElem?_replicate->Jr,mem_toList_iff->Kg,toList_inj->LK,toList_map->LL,toList_zip->ND,size_map->Oi,toList->O5
open Bool renaming false_eq_true->Fb,false_ne_true->Fn,and_eq_true->Gv,not_true->GI,eq_iff_iff->HK,not_false->Ib,true_and->IY,beq_eq_decide_eq->J3,and_false->KN,or_eq_true->L7,and_eq_true_iff->Mw,and_true->MX,or_false->OX
open PySem.Value renaming none->Fl,ref->Ft,int->FZ,bool->F2,str->Gd,type->Gm,isInt_shape->JJ,float->Ph
open Classical renaming byContradiction->FD
open Option.some renaming inj->FN
open PySem.Obj renaming mapSeq->FP,data_mapFields->G8,putSet->JP,isFreed_of_fields->J5,cls_mapFields->Lc
open PySem.F renaming slot_zip_next->Gc,plain_extend_loop->Gy,plain_min_loop->GL,plain_max_loop->GM,called_set->G7,slot_tuple_iterator_next->Hf,args_zip_next_1->HB,entry_zip_next->HP,args_tuple_iterator_next_1->Jt,plainAttrs_list->Jz,entry_tuple_iterator_next->JE,entry_min_loop->JH,entry_max_loop->JI,entry_extend_loop->K0,args_list_init_2->Ld,typeCall_list_1->Ls,entry_list_init->Lu,plain_set_new->Mc,slot_set_iter->Me,slot_zip_iter->Mh,slot_tuple_le->Mi,slot_tuple_lt->Mj,slot_tuple_gt->Ml,called_list->MM
open PySem.Around renaming under_plainId->Gf
open Prod renaming ext->GC,fst->Ly,snd->Mt
open PyProof.Rows renaming boot_isinstance->GP,boot_list->Ip,Keyed->Iq,SortKind->I0,listUpdate_at->JB,seqEpoch_at->Kp,seqObj->KG,tuples'->KY,boot_tuple->Li,AllBare->Ll,subscriptTail_builtinR->LQ,envOfC->L4,boot_range->Mr,subscriptTail->MV,boot_sum->M8,boot_min->NN,list_sort_plain->NZ,get?_update_seq->N0,entry_list_sort->N2,slot_list_sort->Om,args_list_sort->On,sortedHeap_old->Oo,Subscript_->OJ,IntsAre->OS,keyKind'->OW,boot_max->O1,bubble->Pb,IsTup->Px
open Option renaming map_eq_some_iff->Hh,getD_some->HU,isSome_iff_exists->Jo,toList_some->JA,map_some->Ku,getD_none->LD,map->Nk,none->Pl
open PySem.Heap.SameBut renaming update->Hn,refl->Nj
open List.Pairwise renaming map->Ir,nil->IX,imp_of_mem->Jq,sublist->Pg
open List.Sublist renaming refl->Jc
open PySem.Calls renaming spliced_cons->Jy,spliced_nil->JL,Name_function_global->Kw,callWith_builtin->LR
open Prod.mk renaming injEq->JC
open ToString renaming toString->JD
open List.Perm renaming refl->KO,append_left->Md
open MonadExcept renaming tryCatch->Lw
open PySem.Heap.IsSliceOf renaming new->MU
open List.Nodup renaming length_le_of_subset->Nu
open List.cons renaming injEq->N1
open PySem.EqNone renaming eq_none_none->N5,eq_none_bool->N6,eq_bool_none->N7,ne_none_none->N_,ne_none_bool->Oa,ne_bool_none->Ob,eq_none_int->Ow,eq_none_str->Ox,eq_int_none->Oy,eq_str_none->OA,ne_none_int->OC,ne_none_str->OD,ne_int_none->OE,ne_str_none->OG
open PySem.EqMixed renaming eq_bool_str->N8,eq_str_bool->N9,ne_bool_str->Oc,ne_str_bool->Od,eq_int_str->Oz,eq_str_int->OB,ne_int_str->OF,ne_str_int->OH
open PySem.Value.type renaming inj->Oh
open PySem.Shared renaming heap->Pq
open PySem.W.Dflts renaming none->Pu,noKw->Pv
open PySem.Heap.IsList renaming push->Pz
set_option hygiene false
set_option hygiene true
set_option hygiene false
local macro_rules|`(tactic|walk_at"sC")=>`(tactic|exact⟨rfl,rfl,rfl,by decide+kernel,rfl,by decide+kernel,by decide+kernel⟩)
local macro_rules|`(tactic|walk_at"b1")=>`(tactic|exact λ_ _ _ _ _ _ _ h=>My.ar1 h λ_=>rfl)
local macro_rules|`(tactic|walk_at"b2")=>`(tactic|exact λ_ _ _ _ _ _ _ h=>My.ar2 h λ_ _=>rfl)
local macro_rules|`(tactic|walk_at"b3")=>`(tactic|exact λ_ _ _ _ _ _ _ h=>My.ar3 h λ_ _ _=>rfl)
set_option hygiene true
set_option maxHeartbeats 8000000
set_option Elab.async false
set_option linter.all false
set_option maxRecDepth 100000
namespace L2
open PySem PySem.Spec PyProof.Rows
abbrev Key:=Sum Int Str
def A3:Key->EU->Bool
 | .inl k,v=>Value.isInt k v
 | .inr x,v=>Value.isStrOf x v
def EF(w:Fs):Key->Int
 | .inl k=>hashInt k
 | .inr x=>hashStr w x
theorem bL:∀{k:Key}{v:EU},A3 k v=true->(∃i t,k=Sum.inl i/\v=FZ i t)\/(∃x t,k=Sum.inr x/\v=Gd x t)
 | .inl i,v,h=>by
  obtain⟨t,e⟩:=JJ (k:=i) (v:=v) h;exact .inl ⟨i,t,rfl,e⟩
 | .inr x,v,h=>by
  obtain⟨t,e⟩:=Value.isStrOf_shape (x:=x) (v:=v) h;exact .inr ⟨x,t,rfl,e⟩
theorem BQ(a b:Int):decide ((Sum.inl a:Key)=Sum.inl b)=(a==b):=by
 by_cases e:a=b
 ·subst e;simp
 ·have h:¬ (Sum.inl a:Key)=Sum.inl b:=λq=>e (Sum.inl.inj q)
  rw[decide_eq_false h];exact (beq_eq_false_iff_ne.mpr e).symm
theorem Cl(a b:Str):decide ((Sum.inr a:Key)=Sum.inr b)=decide (a=b):=by
 by_cases e:a=b
 ·subst e;simp
 ·have h:¬ (Sum.inr a:Key)=Sum.inr b:=λq=>e (Sum.inr.inj q)
  rw[decide_eq_false h,decide_eq_false e]
theorem BE(a:Int)(b:Str):decide ((Sum.inl a:Key)=Sum.inr b)=false:=decide_eq_false (λq=>nomatch q)
theorem Cv(a:Str)(b:Int):decide ((Sum.inr a:Key)=Sum.inl b)=false:=decide_eq_false (λq=>nomatch q)
def tK(prog:E2)(w:Fs):PySem.KeyKind prog w Key where
 is:=A3
 hash:=EF w
 inj:=λv a b ha hb=>by
  rcases bL ha with ⟨i,t,rfl,rfl⟩ |⟨x,t,rfl,rfl⟩
  ·rcases bL hb with ⟨j,u,rfl,e⟩ |⟨y,u,rfl,e⟩
   ·injection e with e1 _;rw[e1]
   ·exact nomatch e
  ·rcases bL hb with ⟨j,u,rfl,e⟩ |⟨y,u,rfl,e⟩
   ·exact nomatch e
   ·injection e with e1 _;rw[e1]
 byValue:=λk v h=>by
  rcases bL h with ⟨i,t,rfl,rfl⟩ |⟨x,t,rfl,rfl⟩ <;>rfl
 pyHash:=λhv h=>by
  rcases bL hv with ⟨i,t,rfl,rfl⟩ |⟨x,t,rfl,rfl⟩
  ·exact wpAny_pyHash_int h
  ·exact wpAny_pyHash_str h
 eqBool:=λhu hv h=>by
  rcases bL hu with ⟨i,t,rfl,rfl⟩ |⟨x,t,rfl,rfl⟩
  ·rcases bL hv with ⟨j,u,rfl,rfl⟩ |⟨y,u,rfl,rfl⟩
   ·rw[BQ]at h;exact wpAny_eqBool_int h
   ·rw[BE]at h;exact SeqAt.EqAt.int_str i t y u _ _ _ _ h
  ·rcases bL hv with ⟨j,u,rfl,rfl⟩ |⟨y,u,rfl,rfl⟩
   ·rw[Cv]at h;exact SeqAt.EqAt.str_int x t j u _ _ _ _ h
   ·rw[Cl]at h;exact wpAny_eqBool_str h
 «strs»:=λk x t v h=>by
  rcases bL h with ⟨i,u,rfl,e⟩ |⟨y,u,rfl,e⟩
  ·exact nomatch e
  ·injection e with e1 _
   subst e1;cases v <;>rfl
inductive V where
 |non |bl (b:Bool) |int (i:Int) |str (x:Str) |byt (b:Array UInt8) |flt (b:UInt64) |ref (a:E1) |ty (n:String)
 deriving DecidableEq
def aZ:V->EU->Prop
 | .non,u=>u=Fl
 | .bl b,u=>u=F2 b
 | .int i,u=>∃t,u=FZ i t
 | .str x,u=>∃t,u=Gd x t
 | .byt b,u=>∃t,u=Value.bytes b t
 | .flt b,u=>∃t,u=Ph b t
 | .ref a,u=>u=Ft a
 | .ty n,u=>u=Gm n
abbrev aQ:List V->List EU->Prop:=Paired aZ
theorem aQ.length{xs:List V}{us:List EU}(r:aQ xs us):xs.length=us.length:=Paired.length r
theorem aQ.get:∀{xs:List V}{us:List EU}{i:Nat}{x:V},aQ xs us->xs[i]?=some x->∃u,us[i]?=some u/\aZ x u
 |_,_,_,_,.nil,e=>by simp at e
 |_,_,0,_,.cons r _,e=>by simp at e;subst e;exact⟨_,rfl,r⟩
 |_,_,i+1,x,.cons _ t,e=>by
  obtain⟨u,h1,h2⟩:=aQ.get (i:=i) (x:=x) t (by simpa using e)
  exact⟨u,by simpa using h1,h2⟩
theorem aQ.set{x:V}{u:EU}(r:aZ x u):∀{xs:List V}{us:List EU} (i:Nat),aQ xs us->aQ (xs.set i x) (us.set i u)
 |_,_,_,.nil=>.nil
 |_,_,0,.cons _ t=>.cons r t
 |_,_,i+1,.cons q t=>.cons q (aQ.set r i t)
theorem aQ.append:∀{xs ys:List V}{us ws:List EU},aQ xs us->aQ ys ws->aQ (xs++ys) (us++ws)
 |_,_,_,_,.nil,s=>s
 |_,_,_,_,.cons r t,s=>.cons r (aQ.append t s)
theorem aQ.take:∀{xs:List V}{us:List EU} (n:Nat),aQ xs us->aQ (xs.take n) (us.take n)
 |_,_,0,_=>.nil
 |_,_,_+1,.nil=>.nil
 |_,_,n+1,.cons r t=>.cons r (aQ.take n t)
theorem aQ.drop:∀{xs:List V}{us:List EU} (n:Nat),aQ xs us->aQ (xs.drop n) (us.drop n)
 |_,_,0,r=>r
 |_,_,_+1,.nil=>.nil
 |_,_,n+1,.cons _ t=>aQ.drop n t
def BB:Option V->Option EU->Prop
 |some v,some u=>aZ v u
 |none,none=>True
 |_,_=>False
def KV{κ:Type}:List (κ×V)->List (κ×EU)->Prop:=Paired λ(p:κ×V) (q:κ×EU)=>p.1=q.1/\aZ p.2 q.2
def kV:Key->V
 | .inl i=>.int i
 | .inr x=>.str x
inductive HO where
 /-- a list -/
 |lst (xs:List V)
 /-- a tuple (never changes) -/
 |tup (xs:List V)
 /-- a dict whose keys are ints and texts;one whose keys are tuples of ints and texts (the empty one is Si) -/
 |dK (Qg:List (Key×V)) |dT (Qg:List (List Key×V))
 /-- a set of ints:PH members,PH size -/
 |set (S:Int->Bool) (n:Nat)
 /-- an instance of the class at C,PH dict at dx,PH attributes -/
 |ins (C dx:E1) (fs:List (Str×V))
 /-- the dict of the instance at x -/
 |own (x:E1)
 /-- the dict of an exception -/
 |xd (fs:List (Str×V))
 /-- a bound method,f of x -/
 |met (f x:E1)
 /-- a range object lo,lo+1,.. below hi -/
 |rng (lo hi:Int)
 /-- a thing that is known to the object (the script;a dict while a loop walks it):read,never written while it is so -/
 |frz (o:Obj) (u:HO)
 /-- a code object's table -/
 |tbl (ps:Array EU)
 /-- any other thing,by what is true of PH one object (a def of one's own:SetO a S n:=HO.ext λh=>..) -/
 |ext (φ:Gz->Prop)
abbrev Hp:=E1->Option HO
def upd(H:Hp)(a:E1)(o:HO):Hp:=λb=>if b=a then some o else H b
theorem aK{H:Hp}{a:E1}{o:HO}:upd H a o a=some o:=by unfold upd;rw[if_pos rfl]
theorem aT{H:Hp}{a b:E1}{o:HO}(h:b≠a):upd H a o b=H b:=by unfold upd;rw[if_neg h]
theorem cH{H:Hp}{a b:E1}{o:HO}(h:H a=some o)(h':H b=none):a≠b:=by
 intro e;subst e;rw[h]at h';cases h'
section
variable (P:E2) (w:Fs)
def b_(H:Hp)(h:Gz)(a:E1):HO->Prop
 | .lst xs=>xs.length≤sizeLine∧∃(PH:List EU) (n:Nat),aQ xs PH∧h.get? a=some {cls:=.type "list",data:=.seq PH.toArray n }
 | .tup xs=>xs.length<=sizeLine/\∃PH:List EU,aQ xs PH/\Px h a PH.toArray
 | .dK Qg=>Qg.length<=sizeLine/\(a==Ot)=false/\∃vs,KV Qg vs/\h.DictOf (tK P w) a vs
 | .dT Qg=>Qg.length<=sizeLine/\(a==Ot)=false/\∃xs:List (List Key×E1×EU),
   Paired (λ(p:List Key×V) (q:List Key×E1×EU)=>p.1=q.1/\H q.2.1=some (.tup (p.1.map kV))/\aZ p.2 q.2.2) Qg xs/\
   ∃o es ep,h.get? a=some o/\o.ExactDict/\o.data=.dict es ep/\es.toList=xs.map (entryOfKey (tupleKind (tK P w)))/\(xs.map (·.1)).Nodup
 | .set S n=>h.SetOf (JK P w) a S n
 | .ins C dx fs=>H dx=some (.own a)/\fs.length<=1000/\dx≠a/\h.get? a=some (LZ C dx)/\
   ∃mA,h.Ns1 dx mA/\(∀f,BB (fs.lookup f) (mA f))/\O4 mA (fs.map (·.1))
 | .own _=>∃o,h.get? a=some o
 | .xd fs=>∃mA,h.Ns1 a mA/\∀f,BB (fs.lookup f) (mA f)
 | .rng lo hi=>∃t u v,h.get? a=some {cls:=.type "range",data:=.fields #[.int lo t,.int hi u,.int 1 v] }
 | .frz o u=>h.get? a=some o/\b_ H h a u
 | .tbl ps=>h.get? a=some {cls:=.none,data:=.fields ps }
 | .met f x=>h.get? a=some (K6 (.ref f) (.ref x))
 | .ext φ=>φ h/\(∃o,h.get? a=some o)/\∀h1 h2:Gz,φ h1->(∀o,h1.get? a=some o->h2.get? a=some o)->φ h2
def HOk(H:Hp)(h:Gz):Prop:=∀a o,H a=some o->b_ P w H h a o
end
variable {H:Hp}{H':Hp}{h':Gz}
section
variable {P:E2}{w:Fs}{h:Gz}{a:E1}{o:HO}
theorem b_.lt(x:b_ P w H h a o):a<h.objs.size:=by
 cases o with
 |lst xs=>obtain⟨_,_,_,_,e⟩:=x;exact EZ e
 |tup xs=>obtain⟨_,_,_,p⟩:=x;exact p.lt
 |dK Qg=>obtain⟨_,_,_,_,o,_,_,e,_⟩:=x;exact EZ e
 |dT Qg=>obtain⟨_,_,_,_,o,_,_,e,_⟩:=x;exact EZ e
 |set S n=>obtain⟨o,_,_,_,e,_⟩:=x;exact EZ e
 |ins C dx fs=>obtain⟨_,_,_,e,_⟩:=x;exact EZ e
 |own y=>obtain⟨_,e⟩:=x;exact EZ e
 |xd fs=>obtain⟨_,⟨_,_,_,e,_⟩,_⟩:=x;exact EZ e
 |rng lo hi=>obtain⟨_,_,_,e⟩:=x;exact EZ e
 |frz ob u=>obtain⟨e,_⟩:=x;exact EZ e
 |tbl ps=>exact EZ (show h.get? a=some _ from x)
 |met f y=>exact EZ (show h.get? a=some _ from x)
 |ext φ=>obtain⟨_,⟨_,e⟩,_⟩:=x;exact EZ e
theorem Paired.mapP{α β:Type}{F G:α->β->Prop}:∀{l₁:List α}{l₂:List β},Paired F l₁ l₂->(∀a b,F a b->G a b)->Paired G l₁ l₂
 |_,_,.nil,_=>.nil
 |_,_,.cons r t,f=>.cons (f _ _ r) (Paired.mapP t f)
theorem b_.stay(x:b_ P w H h a o)(k:∀b u,(b=a\/H b=some (.own a))->h.get? b=some u->h'.get? b=some u)
  (ho:∀b,H b=some (.own a)->H' b=some (.own a)) (ht:∀b xs,H b=some (.tup xs)->H' b=some (.tup xs)):b_ P w H' h' a o:=by
 induction o with
 |lst xs=>obtain⟨z,PH,n,r,e⟩:=x;exact⟨z,PH,n,r,k _ _ (.inl rfl) e⟩
 |tup xs=>obtain⟨z,PH,r,ob,e,c⟩:=x;exact⟨z,PH,r,ob,k _ _ (.inl rfl) e,c⟩
 |dK Qg=>obtain⟨z,y,vs,r,ob,es,ep,e,c⟩:=x;exact⟨z,y,vs,r,ob,es,ep,k _ _ (.inl rfl) e,c⟩
 |dT Qg=>
  obtain⟨z,y,xs,r,ob,es,ep,e,c⟩:=x;exact⟨z,y,xs,Paired.mapP r λp q z=>⟨z.1,ht _ _ z.2.1,z.2.2⟩,ob,es,ep,k _ _ (.inl rfl) e,c⟩
 |set S n=>obtain⟨ob,es,ep,t,e,c⟩:=x;exact⟨ob,es,ep,t,k _ _ (.inl rfl) e,c⟩
 |ins C dx fs=>
  obtain⟨d,z,ne,e,mA,⟨od,es,ep,e2,c⟩,r⟩:=x;exact⟨ho _ d,z,ne,k _ _ (.inl rfl) e,mA,⟨od,es,ep,k _ _ (.inr d) e2,c⟩,r⟩
 |own y=>obtain⟨ob,e⟩:=x;exact⟨ob,k _ _ (.inl rfl) e⟩
 |xd fs=>obtain⟨mA,⟨od,es,ep,e,c⟩,r⟩:=x;exact⟨mA,⟨od,es,ep,k _ _ (.inl rfl) e,c⟩,r⟩
 |rng lo hi=>obtain⟨t,u,v,e⟩:=x;exact⟨t,u,v,k _ _ (.inl rfl) e⟩
 |frz ob u ih=>obtain⟨e,q⟩:=x;exact⟨k _ _ (.inl rfl) e,ih q⟩
 |tbl ps=>
  have e:h.get? a=some {cls:=.none,data:=.fields ps }:=x;show h'.get? a=some {cls:=.none,data:=.fields ps };exact k a _ (.inl rfl) e
 |met f y=>
  have e:h.get? a=some (K6 (.ref f) (.ref y)):=x;show h'.get? a=some (K6 (.ref f) (.ref y));exact k a _ (.inl rfl) e
 |ext φ=>obtain⟨p,⟨o,e⟩,st⟩:=x;exact⟨st _ _ p λo q=>k _ _ (.inl rfl) q,⟨o,k _ _ (.inl rfl) e⟩,st⟩
theorem HOk.lt(x:HOk P w H h)(e:H a=some o):a<h.objs.size:=(x a o e).lt
theorem HOk.fresh(x:HOk P w H h)(e:h.objs.size<=a):H a=none:=by
 cases q:H a with
 |none=>rfl
 |some u=>exact absurd (Fx (x.lt q) e) (FG _)
theorem HOk.kept(x:HOk P w H h)(k:∀b u,h.get? b=some u->h'.get? b=some u):HOk P w H h':=λa o e=>
 (x a o e).stay (λb u _ q=>k b u q) (λ_ q=>q) λ_ _ q=>q
theorem HOk.laid(x:HOk P w H h)(k:∀b u,h.get? b=some u->h'.get? b=some u)(hp:h.objs.size<=a)(new:b_ P w (upd H a o) h' a o):HOk P w (upd H a o) h':=λb u e=>by
 have hn:=x.fresh hp;by_cases hb:b=a
 ·subst hb;rw[aK]at e;cases e;exact new
 ·rw[aT hb]at e;exact (x b u e).stay (λc v _ q=>k c v q) (λc q=>by rw[aT (cH q hn)];exact q) λc xs q=>by rw[aT (cH q hn)];exact q
end
def Rd(H:Hp)(a:E1)(u:HO):Prop:=H a=some u\/∃o,H a=some (.frz o u)
theorem Rd.ok{P:E2}{w:Fs}{H:Hp}{h:Gz}{a:E1}{u:HO}(r:Rd H a u)(x:HOk P w H h):b_ P w H h a u:=by
 rcases r with r |⟨o,r⟩
 ·exact x a u r
 ·obtain⟨_,q⟩:=x a _ r;exact q
def Mut:Option HO->Prop
 |some (.lst _)=>True
 |some (.dK _)=>True
 |some (.dT _)=>True
 |some (.set _ _)=>True
 |some (.ins _ _ _)=>True
 |some (.ext _)=>True
 |_=>False
section
variable {P:E2}{w:Fs}{h:Gz}{x e:E1}{o':HO}
theorem HOk.write(ok:HOk P w H h)(mu:Mut (H x))(he:e=x\/H e=some (.own x))(k:∀b u,b≠e->h.get? b=some u->h'.get? b=some u)(heo:∃u,h'.get? e=some u)
  (new:b_ P w (upd H x o') h' x o'):HOk P w (upd H x o') h':=λb u q=>by
 have nown:∀c y,H c=some (.own y)->c≠x:=λc y r z=>by subst z;rw[r]at mu;exact mu
 have ntup:∀c xs,H c=some (.tup xs)->c≠x:=λc xs r z=>by subst z;rw[r]at mu;exact mu
 by_cases hb:b=x
 ·subst hb;rw[aK]at q;cases q;exact new
 ·rw[aT hb]at q;by_cases hbe:b=e
  ·have q':H b=some (.own x):=by
    rcases he with z |z
    ·exact absurd (hbe.trans z) hb
    ·rw[hbe];exact z
   rw[q]at q';cases q';obtain⟨v,hv⟩:=heo;exact⟨v,by rw[hbe];exact hv⟩
  ·refine (ok b u q).stay (λc v hc r=>k c v ?_ r) (λc r=>by rw[aT (nown c b r)];exact r) λc xs r=>by rw[aT (ntup c xs r)];exact r
   rcases hc with rfl |hc
   ·exact hbe
   ·rintro rfl;rcases he with z |z
    ·exact nown c b hc z
    ·rw[hc]at z;cases z;exact hb rfl
end
structure Un(fs ex:List E1)(H H':Hp)(h h':Gz):Prop where
 keep:∀b o,h.get? b=some o->H b=none->b ∉ fs->b ∉ ex->h'.get? b=some o
 slot:∀b o,h.get? b=some o->H b=none->b∈fs->b ∉ ex->∃sl,h'.get? b=some {o with slots:=sl }
 free:∀b o,h.get? b=some o->H b=none->b ∉ ex->H' b=none
 there:∀b o,h.get? b=some o->b ∉ ex->∃o',h'.get? b=some o'
 tups:∀b xs,H b=some (.tup xs)->H' b=some (.tup xs)
 frzs:∀b o u,H b=some (.frz o u)->H' b=some (.frz o u)
 tbls:∀b ps,H b=some (.tbl ps)->∃more,H' b=some (.tbl (ps++more))
section
variable {fs fs' ex ex':List E1}{H1 H2:Hp}{h h1 h2:Gz}{a x e:E1}{o:HO}
theorem Un.any(u:Un fs ex H H1 h h1){b:E1}{ob:Obj}(q:h.get? b=some ob)(n:H b=none)(hx:b ∉ ex):∃sl,h1.get? b=some {ob with slots:=sl }:=by
 by_cases hb:b∈fs
 ·exact u.slot b ob q n hb hx
 ·exact⟨ob.slots,u.keep b ob q n hb hx⟩
theorem Un.kept(k:∀b u,h.get? b=some u->h'.get? b=some u):Un fs ex H H h h':=
 ⟨λb ob q _ _ _=>k b ob q,λb ob q _ _ _=>⟨ob.slots,k b ob q⟩,λ_ _ _ n _=>n,λb ob q _=>⟨ob,k b ob q⟩,λ_ _ q=>q,λ_ _ _ q=>q,λ_ ps q=>⟨#[],by rw[q];simp⟩⟩
theorem Un.refl:Un fs ex H H h h:=Un.kept λ_ _ q=>q
theorem Un.laid(k:∀b u,h.get? b=some u->h'.get? b=some u)(hp:h.objs.size<=a)(hn:H a=none):Un fs ex H (upd H a o) h h' where
 keep:=λb u q _ _ _=>k b u q
 slot:=λb u q _ _ _=>⟨u.slots,k b u q⟩
 free:=λb u q n _=>by rw[aT (Fy (Fx (EZ q) hp))];exact n
 there:=λb u q _=>⟨u,k b u q⟩
 tups:=λb xs q=>by rw[aT (cH q hn)];exact q
 frzs:=λb u xs q=>by rw[aT (cH q hn)];exact q
 tbls:=λb ps q=>⟨#[],by rw[aT (cH q hn),q];simp⟩
theorem Un.write(mu:Mut (H x))(he:e=x\/H e=some (.own x))(k:∀b u,b≠e->h.get? b=some u->h'.get? b=some u)(heo:∃u,h'.get? e=some u):Un fs ex H (upd H x o) h h':=by
 have hx:∀b,H b=none->b≠x:=λb n z=>by subst z;rw[n]at mu;exact mu
 have hb:∀b,H b=none->b≠e:=λb n z=>by
  subst z;rcases he with r |r
  ·exact hx b n r
  ·rw[n]at r;cases r
 have hm:∀b u,H b=some u->¬ Mut (some u)->b≠x:=λb u q nm z=>by subst z;rw[q]at mu;exact nm mu
 refine⟨λb u q n _ _=>k b u (hb b n) q,λb u q n _ _=>⟨u.slots,k b u (hb b n) q⟩,λb u q n _=>by rw[aT (hx b n)];exact n,λb u q _=>?_,
  λb xs q=>by rw[aT (hm b _ q λz=>z)];exact q,λb u xs q=>by rw[aT (hm b _ q λz=>z)];exact q,λb ps q=>⟨#[],by rw[aT (hm b _ q λz=>z),q];simp⟩⟩
 by_cases hbe:b=e
 ·subst hbe;exact heo
 ·exact⟨u,k b u hbe q⟩
end
def trk(h:Gz)(H:Hp):List E1:=(F3 h.objs.size).filter λa=>(H a).isSome
def nJ(h:Gz)(H:Hp):Gz:=PySem.W.hideAll h (trk h H)
theorem u4(h:Gz)(H:Hp):(nJ h H).objs.size=h.objs.size:=PySem.W.hideAll_size _ _
theorem x5{h:Gz}{H:Hp}{b:E1}{o:Obj}(e:h.get? b=some o)(n:H b=none):(nJ h H).get? b=some o:=
 PySem.W.hideAll_get _ e λhm=>by
  have q:(H b).isSome=true:=(F_.mp hm).2;rw[n]at q;simp at q
theorem y3{h:Gz}{H:Hp}{b:E1}{o:Obj}(e:(nJ h H).get? b=some o):h.get? b=some o/\H b=none:=by
 have e':h.get? b=some o:=PySem.W.of_hideAll (trk h H) e;refine⟨e',?_⟩;cases q:H b with
 |none=>rfl
 |some x=>
  have hm:b∈trk h H:=F_.mpr ⟨Fo.mpr (EZ e'),by simp[q]⟩
  have z:(nJ h H).get? b=none:=PySem.W.hideAll_none (trk h H) hm;rw[z]at e;cases e
def zW(g h:Gz)(L:E1):List (E1×Obj):=(F3 h.objs.size).filterMap λa=>if a=L\/(g.get? a).isSome=true then none else (h.get? a).map λo=>(a,o)
def rest(g h:Gz)(L d:E1):List (E1×Obj):=(zW g h L).filter λp=>decide (p.1≠d)
structure Mod(K:EL)(mg:Str->Option EU)(base:Gz):Prop where
 kin:K.In base
 glob:base.Ns GS mg
 blt:∃mb,base.Ns Ou mb∧∀x:Str,x≠"__name__"→mb x=GU x
 nolimit:base.NoLimit
structure Cx where
 prog:E2
 w:Fs
 K:EL
 mg:Str->Option EU
 base:Gz
 A:Fq
 N:List Str
 s₀:ER
 H₀:Hp
 env:Env
 outer:List Env
 stack:List Env
 ex:List E1
 fn:Str->Bool
 calm:Bool
 pn:List (E1×Obj)
 xe:EU->ER->Prop
def frs(l:List Env):List E1:=l.filterMap (·.frame)
abbrev Cx.fs(X:Cx):List E1:=frs X.outer
def Vis(sc:Ju)(x:Str):Prop:=sc.names.lookup x=some .local\/sc.names.lookup x=some .cell\/sc.names.lookup x=some .free
def Loc(sc:Ju)(x:Str):Prop:=sc.names.lookup x=some .local\/sc.names.lookup x=some .cell
def Eo(env:Env)(h:Gz)(m:Str->Option EU)(x:Str)(u:EU):Prop:=
 (env.kindOf x=some .local/\m x=some u)\/((env.kindOf x=some .cell\/env.kindOf x=some .free)/\∃c,env.cells.lookup x=some c/\h.IsCell c (some u))
structure Cx.Ok(X:Cx):Prop where
 mod:Mod X.K X.mg X.base
 kind:X.env.scope.kind=.function
 glob:X.env.globals=GS
 blt:X.env.builtins=Ou
 above:X.s₀.heap.objs.size<=X.env.locals
 inj:∀x y c,X.env.cells.lookup x=some c->X.env.cells.lookup y=some c->x=y
 has:∀x,(X.env.kindOf x=some .cell\/X.env.kindOf x=some .free)->∃c,X.env.cells.lookup x=some c
 cab:∀x c,X.fn x=true->X.env.cells.lookup x=some c->X.s₀.heap.objs.size<=c
 hd:X.calm=true->X.A.handled=none
 frames:X.A.frames=some X.stack
 stk:X.stack=X.outer\/(X.stack=X.env::X.outer/\X.env.frame=some X.env.locals)
 exf:∀b∈X.ex,b≠X.env.locals/\∀x c,X.env.cells.lookup x=some c->c≠b
 bs:∀b o,X.base.get? b=some o->X.s₀.heap.get? b=some o/\X.H₀ b=none
 bsz:X.base.objs.size<=X.s₀.heap.objs.size
 noex:∀b o,X.base.get? b=some o->b ∉ X.ex
 exfs:∀b∈X.ex,b ∉ X.fs
 funs:X.s₀.heap.FunFrames X.base X.outer
 frf:∀b∈X.fs,X.H₀ b=none
structure Inv(X:Cx)(pins:List (E1×Obj))(σ:List (Option V))(H:Hp)(s:ER):Prop where
 ok:X.Ok
 os:s.os=X.s₀.os
 bare:Ll s.gens
 base:Un X.fs X.ex X.H₀ H X.s₀.heap s.heap
 loc:∃m,s.heap.Ns X.env.locals m/\∀(i:Nat) (x:Str) (v:V),X.N[i]?=some x->σ[i]?=some (some v)->Vis X.env.scope x->∃u,aZ v u/\Eo X.env s.heap m x u
 cell:∀x c,X.env.cells.lookup x=some c->∃v,s.heap.IsCell c v
 free:H X.env.locals=none
 freeC:∀x c,X.env.cells.lookup x=some c->H c=none
 pin:∀p∈X.pn++pins,s.heap.get? p.1=some p.2/\H p.1=none/\p.1≠X.env.locals/\p.1 ∉ X.fs/\∀v,p.2.data≠.cell v
 hok:HOk X.prog X.w H s.heap
 len:σ.length=X.N.length
variable {pins:List (E1×Obj)}{s:ER}
section
variable {X:Cx}{σ:List (Option V)}
theorem Cx.Ok.nofr(ok:X.Ok){b:E1}{o:Obj}(e:X.base.get? b=some o):b ∉ X.fs:=λhb=>by
 have:=(ok.funs.mem hb).1;rw[e]at this;cases this
theorem Inv.bs(I:Inv X pins σ H s):∀b o,X.base.get? b=some o->s.heap.get? b=some o/\H b=none:=λb o e=>
 ⟨I.base.keep b o (I.ok.bs b o e).1 (I.ok.bs b o e).2 (I.ok.nofr e) (I.ok.noex b o e),I.base.free b o (I.ok.bs b o e).1 (I.ok.bs b o e).2 (I.ok.noex b o e)⟩
theorem Inv.bk(I:Inv X pins σ H s):∀b o,X.base.get? b=some o->s.heap.get? b=some o:=λb o e=>(I.bs b o e).1
theorem Inv.mod(I:Inv X pins σ H s):Mod X.K X.mg X.base:=I.ok.mod
theorem Inv.kIn(I:Inv X pins σ H s):X.K.In s.heap:=I.ok.mod.kin.keeps I.bk
theorem Inv.lt(I:Inv X pins σ H s):X.env.locals<s.heap.objs.size:=let ⟨_,hn,_⟩:=I.loc;hn.lt
theorem Inv.sz(I:Inv X pins σ H s):X.s₀.heap.objs.size<=s.heap.objs.size:=GJ I.ok.above (FT I.lt)
theorem Inv.nofs(I:Inv X pins σ H s){a:E1}(h:s.heap.objs.size<=a):a ∉ X.fs:=λhb=>by
 obtain⟨_,o,ho,_⟩:=I.ok.funs.mem hb;exact absurd (Fx (EZ ho) (GJ I.sz h)) (FG _)
theorem Inv.cne(I:Inv X pins σ H s):∀x c,X.env.cells.lookup x=some c->c≠X.env.locals:=λx c e z=>by
 obtain⟨v,o,ho,hd⟩:=I.cell x c e;obtain⟨m,⟨o',es,ep,QO,Qt,_⟩,_⟩:=I.loc;rw[z,QO]at ho;cases ho;rw[Qt]at hd;cases hd
theorem Inv.funs(I:Inv X pins σ H s):s.heap.FunFrames X.base X.outer:=by
 have all:∀(l:List Env),(∀b∈frs l,b∈X.fs)->X.s₀.heap.FunFrames X.base l->s.heap.FunFrames X.base l:=by
  intro l
  induction l with
  |nil=>intro _ _;trivial
  |cons env r ih=>
   intro hs hl;obtain⟨hk,⟨L,o,hf,hn,ho,hd⟩,hr⟩:=hl;have hL:L∈X.fs:=hs L (by unfold frs;rw[HJ,hf];exact EY)
   obtain⟨sl,e⟩:=I.base.slot L o ho (I.ok.frf L hL) hL λz=>I.ok.exfs L z hL
   exact⟨hk,⟨L,_,hf,hn,e,hd⟩,ih (λb hb=>hs b (by unfold frs;rw[HJ,hf];exact ES _ hb)) hr⟩
 exact all X.outer (λ_ hb=>hb) I.ok.funs
theorem Inv.stack(I:Inv X pins σ H s):s.heap.FunFrames X.base X.stack:=by
 rcases I.ok.stk with e |⟨e,hf⟩
 ·rw[e];exact I.funs
 ·rw[e];obtain⟨m,hn,_⟩:=I.loc;refine .cons (by rw[I.ok.kind];decide) hf hn ?_ I.funs
  exact Kf (GJ I.ok.bsz I.ok.above)
theorem Inv.stkSub(I:Inv X pins σ H s):∀b∈frs X.stack,b∈X.env.locals::X.fs:=λb hb=>by
 rcases I.ok.stk with e |⟨e,hf⟩
 ·rw[e]at hb;exact ES _ hb
 ·rw[e]at hb;unfold frs at hb;rw[HJ,hf]at hb;exact hb
theorem Inv.stkFree(I:Inv X pins σ H s):∀b∈frs X.stack,H b=none:=λb hb=>by
 rcases ET.mp (I.stkSub b hb) with e |hb
 ·rw[e];exact I.free
 ·obtain⟨_,o,ho,_⟩:=I.ok.funs.mem hb;exact I.base.free b o ho (I.ok.frf b hb) λz=>I.ok.exfs b z hb
theorem Inv.step{g':Array IV}{t':Nat}{d':Drawn}{ch:List E1}(I:Inv X pins σ H s)
  (R5:∀b∈ch,(b∈X.ex\/X.s₀.heap.objs.size<=b)/\b≠X.env.locals/\(∀x c,X.env.cells.lookup x=some c->c≠b)/\∀p∈X.pn++pins,p.1≠b)
  (keep:∀b o,b≠X.env.locals->b ∉ X.fs->b ∉ ch->s.heap.get? b=some o->H b=none->h'.get? b=some o)
  (slot:∀b o,b≠X.env.locals->b∈X.fs->b ∉ ch->s.heap.get? b=some o->H b=none->∃sl,h'.get? b=some {o with slots:=sl }) (free:∀b o,b ∉ ch->s.heap.get? b=some o->H b=none->H' b=none)
  (there:∀b o,b ∉ ch->s.heap.get? b=some o->∃o',h'.get? b=some o')
  (tups:∀b xs,H b=some (.tup xs)->H' b=some (.tup xs)) (frzs:∀b o u,H b=some (.frz o u)->H' b=some (.frz o u)) (tbls:∀b ps,H b=some (.tbl ps)->∃more,H' b=some (.tbl (ps++more)))
  (ns:∀m,s.heap.Ns X.env.locals m->h'.Ns X.env.locals m) (hok:HOk X.prog X.w H' h') (hg:Ll g'):
  Inv X pins σ H' {s with heap:=h',gens:=g',drawn:=d',toks:=t' }:=by
 have neL:∀b o,X.s₀.heap.get? b=some o->b≠X.env.locals:=λb o e=>Fy (Fx (EZ e) I.ok.above)
 have neC:∀b o,X.s₀.heap.get? b=some o->b ∉ X.ex->b ∉ ch:=λb o e hx hb=>by
  rcases (R5 b hb).1 with z |z
  ·exact hx z
  ·exact absurd (Fx (EZ e) z) (FG _)
 have SI:∀x c,X.env.cells.lookup x=some c->∀v,s.heap.IsCell c v->h'.IsCell c v:=λx c e v ⟨o,ho,hd⟩=>by
  have nch:c ∉ ch:=λz=>(R5 c z).2.2.1 x c e rfl
  by_cases hc:c∈X.fs
  ·obtain⟨sl,q⟩:=slot c o (I.cne x c e) hc nch ho (I.freeC x c e);exact⟨_,q,hd⟩
  ·exact⟨o,keep c o (I.cne x c e) hc nch ho (I.freeC x c e),hd⟩
 refine⟨I.ok,I.os,hg,⟨λb o e n hb hx=>?_,λb o e n hb hx=>?_,λb o e n hx=>?_,λb o e hx=>?_,λb xs e=>tups b xs (I.base.tups b xs e),λb o xs e=>frzs b o xs (I.base.frzs b o xs e),λb ps e=>?_⟩,?_,λx c e=>?_,?_,λx c e=>?_,λp hp=>?_,hok,I.len⟩
 ·exact keep b o (neL b o e) hb (neC b o e hx) (I.base.keep b o e n hb hx) (I.base.free b o e n hx)
 ·obtain⟨sl,e1⟩:=I.base.slot b o e n hb hx;obtain⟨sl',e2⟩:=slot b _ (neL b o e) hb (neC b o e hx) e1 (I.base.free b o e n hx);exact⟨sl',e2⟩
 ·obtain⟨o',e1⟩:=I.base.there b o e hx;exact free b o' (neC b o e hx) e1 (I.base.free b o e n hx)
 ·obtain⟨o',e1⟩:=I.base.there b o e hx;exact there b o' (neC b o e hx) e1
 ·obtain⟨m1,e1⟩:=I.base.tbls b ps e;obtain⟨m2,e2⟩:=tbls b _ e1;exact⟨m1++m2,by rw[e2,Array.append_assoc]⟩
 ·obtain⟨m,hn,hl⟩:=I.loc;refine⟨m,ns m hn,λi x v e1 e2 e3=>?_⟩
  obtain⟨u,r,l⟩:=hl i x v e1 e2 e3;refine⟨u,r,?_⟩;rcases l with l |⟨k,c,e,z⟩
  ·exact .inl l
  ·exact .inr ⟨k,c,e,SI x c e _ z⟩
 ·obtain⟨v,z⟩:=I.cell x c e;exact⟨v,SI x c e v z⟩
 ·obtain⟨m,⟨o,_,_,ho,_⟩,_⟩:=I.loc;exact free _ o (λz=>(R5 _ z).2.1 rfl) ho I.free
 ·obtain⟨v,o,ho,hd⟩:=I.cell x c e;exact free c o (λz=>(R5 c z).2.2.1 x c e rfl) ho (I.freeC x c e)
 ·obtain⟨e,n,ne,nf,d⟩:=I.pin p hp;have nch:p.1 ∉ ch:=λz=>(R5 p.1 z).2.2.2 p hp rfl
  exact⟨keep p.1 p.2 ne nf nch e n,free p.1 p.2 nch e n,ne,nf,d⟩
theorem Inv.un{t':Nat}(I:Inv X pins σ H s)(u:Un X.fs [] H H' s.heap h')(hok:HOk X.prog X.w H' h'):Inv X pins σ H' {s with heap:=h',toks:=t' }:=by
 obtain⟨m,⟨o,es,ep,ho,r⟩,_⟩:=id I.loc;obtain⟨sl,hL⟩:=u.any ho I.free (by simp)
 exact I.step (g':=s.gens) (d':=s.drawn) (ch:=[]) (λ_ z=>nomatch z) (λb o _ hb _ e n=>u.keep b o e n hb (by simp)) (λb o _ hb _ e n=>u.slot b o e n hb (by simp)) (λb o _ e n=>u.free b o e n (by simp)) (λb o _ e=>u.there b o e (by simp)) u.tups u.frzs u.tbls (λm' hm=>by
  obtain⟨o',es',ep',QO,r'⟩:=hm;rw[ho]at QO;cases QO;exact⟨_,es',ep',hL,r'⟩) hok I.bare
theorem Inv.call{g':Array IV}{t':Nat}{d':Drawn}{ch:List E1}(I:Inv X pins σ H s)(u:Un (frs X.stack) ch H H' s.heap h')(hok:HOk X.prog X.w H' h')(hg:Ll g')
  (R5:∀b∈ch,(b∈X.ex\/X.s₀.heap.objs.size<=b)/\b≠X.env.locals/\(∀x c,X.env.cells.lookup x=some c->c≠b)/\∀p∈X.pn++pins,p.1≠b):
  Inv X pins σ H' {s with heap:=h',gens:=g',drawn:=d',toks:=t' }:=by
 obtain⟨m,⟨o,es,ep,ho,r⟩,_⟩:=id I.loc;obtain⟨sl,hL⟩:=u.any ho I.free λz=>(R5 _ z).2.1 rfl
 exact I.step (ch:=ch) R5 (λb o hL hb hc e n=>u.keep b o e n (λz=>(ET.mp (I.stkSub b z)).elim hL hb) hc) (λb o _ _ hc e n=>u.any e n hc) (λb o hc e n=>u.free b o e n hc) (λb o hc e=>u.there b o e hc) u.tups u.frzs u.tbls (λm' hm=>by
  obtain⟨o',es',ep',QO,r'⟩:=hm;rw[ho]at QO;cases QO;exact⟨_,es',ep',hL,r'⟩) hok hg
theorem Inv.turned{t':Nat}{it:E1}(I:Inv X pins σ H s)(k:∀b o,b≠it->s.heap.get? b=some o->h'.get? b=some o)(hn:H it=none)(hL:it≠X.env.locals)
  (h1:it∈X.ex\/X.s₀.heap.objs.size<=it) (h2:∀x c,X.env.cells.lookup x=some c->c≠it) (h3:∀p∈X.pn++pins,p.1≠it):Inv X pins σ H {s with heap:=h',toks:=t' }:=by
 have nit:∀b u,H b=some u->b≠it:=λb u e z=>by rw[z,hn]at e;cases e
 refine I.step (g':=s.gens) (d':=s.drawn) (ch:=[it]) (λb hb=>?_) (λb o _ _ hc e _=>k b o (λz=>hc (by simp[z])) e) (λb o _ _ hc e _=>⟨o.slots,k b o (λz=>hc (by simp[z])) e⟩) (λ_ _ _ _ n=>n)
  (λb o hc e=>⟨o,k b o (λz=>hc (by simp[z])) e⟩) (λ_ _ e=>e) (λ_ _ _ e=>e) (λb ps e=>⟨#[],by rw[e];simp⟩) (λm hm=>?_) (λb u e=>?_) I.bare
 ·have e:b=it:=by simpa using hb
  subst e;exact⟨h1,hL,h2,h3⟩
 ·obtain⟨o,es,ep,ho,r⟩:=hm;exact⟨o,es,ep,k _ o (Ne.symm hL) ho,r⟩
 ·refine (I.hok b u e).stay (λc v hc q=>k c v ?_ q) (λ_ q=>q) λ_ _ q=>q
  rcases hc with z |z
  ·rw[z];exact nit b u e
  ·exact nit c _ z
theorem Inv.tok(I:Inv X pins σ H s)(t:Nat):Inv X pins σ H {s with toks:=t }:=I.un (h':=s.heap) (t':=t) Un.refl I.hok
theorem Inv.kept{t':Nat}(I:Inv X pins σ H s)(k:∀b u,s.heap.get? b=some u->h'.get? b=some u):Inv X pins σ H {s with heap:=h',toks:=t' }:=I.un (Un.kept k) (I.hok.kept k)
theorem Inv.laid{a:E1}{o:HO}{t':Nat}(I:Inv X pins σ H s)(k:∀b u,s.heap.get? b=some u->h'.get? b=some u)(hp:s.heap.objs.size<=a)(new:b_ X.prog X.w (upd H a o) h' a o):
  Inv X pins σ (upd H a o) {s with heap:=h',toks:=t' }:=I.un (Un.laid k hp (I.hok.fresh hp)) (I.hok.laid k hp new)
theorem Inv.write{x e:E1}{o:HO}{t':Nat}(I:Inv X pins σ H s)(mu:Mut (H x))(he:e=x\/H e=some (.own x))(k:∀b u,b≠e->s.heap.get? b=some u->h'.get? b=some u)(heo:∃u,h'.get? e=some u)
  (new:b_ X.prog X.w (upd H x o) h' x o):Inv X pins σ (upd H x o) {s with heap:=h',toks:=t' }:=I.un (Un.write mu he k heo) (I.hok.write mu he k heo new)
theorem Inv.weak{P5:List (Option V)}(I:Inv X pins σ H s)(hl:P5.length=σ.length)(w:∀(i:Nat) v,P5[i]?=some (some v)->σ[i]?=some (some v)):Inv X pins P5 H s:=
 ⟨I.ok,I.os,I.bare,I.base,let ⟨m,hn,P8⟩:=I.loc;⟨m,hn,λi x v e1 e2 e3=>P8 i x v e1 (w i v e2) e3⟩,I.cell,I.free,I.freeC,I.pin,I.hok,hl.trans I.len⟩
theorem Inv.pins_of{SJ:List (E1×Obj)}(I:Inv X pins σ H s)(h:∀p∈SJ,s.heap.get? p.1=some p.2/\H p.1=none/\p.1≠X.env.locals/\p.1 ∉ X.fs/\∀v,p.2.data≠.cell v):Inv X SJ σ H s:=
 ⟨I.ok,I.os,I.bare,I.base,I.loc,I.cell,I.free,I.freeC,λp hp=>(FA.mp hp).elim (λz=>I.pin p (FH _ z)) (h p),I.hok,I.len⟩
theorem oj{N:List Str}(hN:N.Nodup){i j:Nat}{x:Str}(a:N[i]?=some x)(b:N[j]?=some x):i=j:=by
 obtain⟨h1,e1⟩:=E6.mp a;obtain⟨h2,e2⟩:=E6.mp b;exact (J_ hN).mp (e1.trans e2.symm)
theorem l5{M:Model}{A:Fq}{E:EU->ER->Prop}{i:Nat}{x:Str}{v:V}{u:EU}{Q:Unit->ER->Prop}(I:Inv X pins σ H s)(hN:X.N.Nodup)(hi:X.N[i]?=some x)(hx:Loc X.env.scope x)(r:aZ v u)
  (h:∀s',Inv X pins (σ.set i (some v)) H s'->(∃a,IH a s.heap s'.heap/\(a=X.env.locals\/X.env.cells.lookup x=some a))->Q () s') (hf:X.fn x=true\/X.env.scope.names.lookup x=some .local:=by first |exact .inl rfl |exact .inr rfl |assumption):Fd M A (storeName X.env x u) Q E s:=by
 obtain⟨m,hn,hl⟩:=id I.loc;have hcls:(X.env.scope.kind==.class || (X.env.scope.kind==.module && X.env.locals !=X.env.globals))=false:=by rw[I.ok.kind];rfl
 have hiσ:i<σ.length:=by rw[I.len];exact (E6.mp hi).1
 have cne:=I.cne
 have Rt:∀{a:E1}{h':Gz},(∃o,s.heap.get? a=some o/\H a=none)->IH a s.heap h'->HOk X.prog X.w H h':=λ{a h'} ha hs b ob e=>by
  obtain⟨_,_,SK⟩:=ha;refine (I.hok b ob e).stay (λc w' hc q=>(hs.2 c ?_).trans q) (λ_ q=>q) λ_ _ q=>q
  rintro rfl;rcases hc with rfl |hc
  ·rw[SK]at e;cases e
  ·rw[SK]at hc;cases hc
 rcases hx with hk |hk
 ·refine wpAny_storeName_local hk hn (λh' hn' hs=>?_) hcls
  obtain⟨oL,_,_,hoL,_⟩:=id hn;refine h _ ⟨I.ok,I.os,I.bare,⟨λb o e n hb hx=>?_,λb o e n hb hx=>?_,I.base.free,λb o e hx=>?_,I.base.tups,I.base.frzs,I.base.tbls⟩,⟨_,hn',λj y v' e1 e2 e3=>?_⟩,λy c e=>?_,I.free,I.freeC,λp hp=>?_,Rt ⟨oL,hoL,I.free⟩ hs,by simpa using I.len⟩ ⟨_,hs,.inl rfl⟩
  ·exact (hs.2 b (Fy (Fx (EZ e) I.ok.above))).trans (I.base.keep b o e n hb hx)
  ·obtain⟨sl,e1⟩:=I.base.slot b o e n hb hx;exact⟨sl,(hs.2 b (Fy (Fx (EZ e) I.ok.above))).trans e1⟩
  ·obtain⟨o',e1⟩:=I.base.there b o e hx;exact⟨o',(hs.2 b (Fy (Fx (EZ e) I.ok.above))).trans e1⟩
  ·by_cases hj:j=i
   ·subst hj;rw[hi]at e1;cases e1;rw[LN hiσ]at e2;cases e2;exact⟨u,r,.inl ⟨hk,by simp⟩⟩
   ·rw[Fz (Ne.symm hj)]at e2;obtain⟨u',r',q⟩:=hl j y v' e1 e2 e3;refine⟨u',r',?_⟩;rcases q with ⟨k,e⟩ |⟨k,c,e,z⟩
    ·refine .inl ⟨k,?_⟩;have:y≠x:=λe=>hj (oj hN e1 (e ▸ hi))
     simp[this,e]
    ·exact .inr ⟨k,c,e,z.sameBut hs (cne y c e)⟩
  ·obtain⟨w',z⟩:=I.cell y c e;exact⟨w',z.sameBut hs (cne y c e)⟩
  ·obtain⟨e,n,ne,nf,d⟩:=I.pin p hp;exact⟨(hs.2 p.1 ne).trans e,n,ne,nf,d⟩
 ·have hfn:X.fn x=true:=by
   rcases hf with z |z
   ·exact z
   ·rw[z]at hk;cases hk
  obtain⟨c,hc⟩:=I.ok.has x (.inl hk);obtain⟨w',z⟩:=I.cell x c hc;refine wpAny_storeName_cell I.ok.kind hk hc z (λh' Ru hs=>?_)
  obtain⟨oc,RG,hocd⟩:=id z;refine h {s with heap:=h' } ⟨I.ok,I.os,I.bare,⟨λb o e n hb hx=>?_,λb o e n hb hx=>?_,I.base.free,λb o e hx=>?_,I.base.tups,I.base.frzs,I.base.tbls⟩,⟨m,hn.sameBut hs (Ne.symm (cne x c hc)),λj y v' e1 e2 e3=>?_⟩,λy c' e=>?_,I.free,I.freeC,λp hp=>?_,Rt ⟨oc,RG,I.freeC x c hc⟩ hs,by simpa using I.len⟩ ⟨c,hs,.inr hc⟩
  ·exact (hs.2 b (Fy (Fx (EZ e) (I.ok.cab x c hfn hc)))).trans (I.base.keep b o e n hb hx)
  ·obtain⟨sl,e1⟩:=I.base.slot b o e n hb hx;exact⟨sl,(hs.2 b (Fy (Fx (EZ e) (I.ok.cab x c hfn hc)))).trans e1⟩
  ·obtain⟨o',e1⟩:=I.base.there b o e hx;exact⟨o',(hs.2 b (Fy (Fx (EZ e) (I.ok.cab x c hfn hc)))).trans e1⟩
  ·by_cases hj:j=i
   ·subst hj;rw[hi]at e1;cases e1;rw[LN hiσ]at e2;cases e2;exact⟨u,r,.inr ⟨.inl hk,c,hc,Ru⟩⟩
   ·rw[Fz (Ne.symm hj)]at e2;obtain⟨u',r',q⟩:=hl j y v' e1 e2 e3;refine⟨u',r',?_⟩;rcases q with q |⟨k,c',e,z'⟩
    ·exact .inl q
    ·refine .inr ⟨k,c',e,z'.sameBut hs ?_⟩;rintro rfl;exact hj (oj hN e1 (I.ok.inj _ _ _ e hc ▸ hi))
  ·by_cases hcc:c'=c
   ·subst hcc;exact⟨_,Ru⟩
   ·obtain⟨w2,z2⟩:=I.cell y c' e;exact⟨w2,z2.sameBut hs hcc⟩
  ·obtain⟨e,n,ne,nf,d⟩:=I.pin p hp;refine⟨(hs.2 p.1 ?_).trans e,n,ne,nf,d⟩;intro q;rw[q,RG]at e;have q':oc=p.2:=FN e;exact d w' (by rw[<-q'];exact hocd)
theorem oX{M:Model}{A:Fq}{E:EU->ER->Prop}{i:Nat}{x:Str}{v:V}{u:EU}{Q:Unit->ER->Prop}(I:Inv X pins σ H s)(hN:X.N.Nodup)(hi:X.N[i]?=some x)(hx:Loc X.env.scope x)(r:aZ v u)
  (h:∀s',Inv X pins (σ.set i (some v)) H s'->Q () s') (hf:X.fn x=true\/X.env.scope.names.lookup x=some .local:=by first |exact .inl rfl |exact .inr rfl |assumption):Fd M A (storeName X.env x u) Q E s:=
 l5 I hN hi hx r (λs' I' _=>h s' I') hf
theorem Inv.call'{s':ER}{ch:List E1}(I:Inv X pins σ H s)(ho:s'.os=s.os)(u:Un (frs X.stack) ch H H' s.heap s'.heap)(hok:HOk X.prog X.w H' s'.heap)(hg:Ll s'.gens)
  (R5:∀b∈ch,(b∈X.ex\/X.s₀.heap.objs.size<=b)/\b≠X.env.locals/\(∀x c,X.env.cells.lookup x=some c->c≠b)/\∀p∈X.pn++pins,p.1≠b):Inv X pins σ H' s':=by
 obtain⟨h',g',d',t',o'⟩:=s';have e:o'=s.os:=ho;subst e;exact I.call (g':=g') (t':=t') (d':=d') u hok hg R5
end
abbrev XK:=EU->Option E1->Hp->Prop
abbrev St:=List (Option V)
abbrev VK:=V->Hp->Prop
abbrev TE:=St->Hp->VK->Prop
abbrev TT:=St->Hp->(Bool->Hp->Prop)->Prop
abbrev TA:=St->Hp->(List V->Hp->Prop)->Prop
structure m7 where
 nx:St->Hp->Prop
 rt:VK
 bk:St->Hp->Prop:=λ_ _=>False
 ct:St->Hp->Prop:=λ_ _=>False
abbrev TS:=m7->St->Hp->Prop
def EP(X:Cx)(pins:List (E1×Obj))(σ:St)(Q:VK)(u:EU)(s':ER):Prop:=∃v H',Inv X pins σ H' s'/\aZ v u/\Q v H'
def TP(X:Cx)(pins:List (E1×Obj))(σ:St)(Q:Bool->Hp->Prop)(b:Bool)(s':ER):Prop:=∃H',Inv X pins σ H' s'/\Q b H'
def AP(X:Cx)(pins:List (E1×Obj))(σ:St)(Q:List V->Hp->Prop)(us:List EU)(s':ER):Prop:=∃vs H',Inv X pins σ H' s'/\aQ vs us/\Q vs H'
def SP(X:Cx)(pins:List (E1×Obj))(D:m7)(f:Flow)(s':ER):Prop:=
 match f with
 | .next=>∃P5 H',Inv X pins P5 H' s'/\D.nx P5 H'
 | .brk=>∃P5 H',Inv X pins P5 H' s'/\D.bk P5 H'
 | .cont=>∃P5 H',Inv X pins P5 H' s'/\D.ct P5 H'
 | .ret u=>∃v P5 H',Inv X pins P5 H' s'/\aZ v u/\D.rt v H'
def PE(X:Cx)(e:Expr)(t:TE):Prop:=
 ∀(pins:List (E1×Obj)) (s:ER) (σ:St) (H:Hp) (Q:VK),Inv X pins σ H s->t σ H Q->Fd (FF X.prog X.w) X.A (HE e X.env) (EP X pins σ Q) X.xe s
def PT(X:Cx)(e:Expr)(t:TT):Prop:=
 ∀(pins:List (E1×Obj)) (s:ER) (σ:St) (H:Hp) (Q:Bool->Hp->Prop),Inv X pins σ H s->t σ H Q->Fd (FF X.prog X.w) X.A (isTrue e X.env (HE e X.env)) (TP X pins σ Q) X.xe s
def PW(X:Cx)(e:Expr)(t:TT):Prop:=
 ∀(QX:Sem EU) (pins:List (E1×Obj)) (s:ER) (σ:St) (H:Hp) (Q:Bool->Hp->Prop),Inv X pins σ H s->t σ H Q->Fd (FF X.prog X.w) X.A (isTrue e X.env QX) (TP X pins σ Q) X.xe s
theorem PW.pt{X:Cx}{e:Expr}{t:TT}(h:PW X e t):PT X e t:=h _
def PA(X:Cx)(es:List Expr)(t:TA):Prop:=
 ∀(pos:Pos) (pins:List (E1×Obj)) (s:ER) (σ:St) (H:Hp) (Q:List V->Hp->Prop),Inv X pins σ H s->t σ H Q->Fd (FF X.prog X.w) X.A (OP (Iu pos (E4 es X.env))) (AP X pins σ Q) X.xe s
def PS(X:Cx)(st:Hr)(t:TS):Prop:=
 ∀(pins:List (E1×Obj)) (s:ER) (σ:St) (H:Hp) (D:m7),Inv X pins σ H s->t D σ H->Fd (FF X.prog X.w) X.A (exec st X.env) (SP X pins D) X.xe s
def PSs(X:Cx)(st:List Hr)(t:TS):Prop:=
 ∀(pins:List (E1×Obj)) (s:ER) (σ:St) (H:Hp) (D:m7),Inv X pins σ H s->t D σ H->Fd (FF X.prog X.w) X.A (execs st X.env) (SP X pins D) X.xe s
theorem thn{α:Type}{t:Sem α}{Q Q':α->ER->Prop}{M:Model}{A:Fq}{E:EU->ER->Prop}{s:ER}(h:Fd M A t Q E s)(hQ:∀a s,Q a s->Q' a s):Fd M A t Q' E s:=HS h hQ λ_ _ x=>x
variable {ta:TE}{tb:TE}{pos:Pos}
section
variable {X:Cx}
def Ep(i:Nat):TE:=λσ H Q=>∃v,σ[i]?=some (some v)/\Q v H
def tC(v:V):TE:=λ_ H Q=>Q v H
theorem fY{i:Nat}{x:Str}{pos:Pos}(hN:X.N[i]?=some x)(hv:Vis X.env.scope x)(hd:(x==("__debug__":Str))=false:=by decide)(QD:(x==("__classdict__":Str))=false:=by decide):PE X (.Name x pos) (Ep i):=by
 intro pins s σ H Q I h;obtain⟨v,e,h⟩:=h;obtain⟨m,hn,hl⟩:=I.loc;obtain⟨u,r,l⟩:=hl i x v hN e hv;have P4:EP X pins σ Q u s:=⟨v,H,I,r,h⟩;rcases l with ⟨hk,hm⟩ |⟨hk,c,hc,SN⟩
 ·exact Ov (wpAny_loadName_local I.ok.kind hk hn hm P4) hd
 ·rcases hk with hk |hk
  ·exact Ov (wpAny_loadName_cell I.ok.kind hk hc SN P4) hd
  ·exact Ov (wpAny_loadName_free I.ok.kind hk hc SN P4 QD) hd
theorem CT{i j pos}:PE X (.Constant (.int i) j pos) (tC (.int i)):=λ_ _ _ H _ I h=>wpAny_Constant_int ⟨.int i,H,I.tok _,⟨_,rfl⟩,h⟩
theorem Dg{b j pos}:PE X (.Constant (.bool b) j pos) (tC (.bl b)):=λ_ _ _ H _ I h=>Constant_bool ⟨.bl b,H,I,rfl,h⟩
def Gl(X:Cx)(x:Str):Prop:=X.env.kindOf x=some .globalImplicit
theorem ul{E:EU->ER->Prop}{pins:List (E1×Obj)}{s:ER}{σ:St}{H:Hp}{x:Str}{u:EU}{pos:Pos}{Q:EU->ER->Prop}(I:Inv X pins σ H s)(hg:Gl X x)(hm:X.mg x=some u)(h:Q u s)
  (hd:(x==("__debug__":Str))=false:=by decide):Fd (FF X.prog X.w) X.A (HE (.Name x pos) X.env) Q E s:=
 Kw I.ok.kind hg (Calls.loadGlobal_global (by rw[I.ok.glob];exact I.mod.glob.keeps I.bk) hm h) hd
theorem ca{E:EU->ER->Prop}{pins:List (E1×Obj)}{s:ER}{σ:St}{H:Hp}{x:Str}{u:EU}{pos:Pos}{Q:EU->ER->Prop}(I:Inv X pins σ H s)(hg:Gl X x)(hm:X.mg x=none)(hv:GU x=some u)(h:Q u s)
  (hn:x≠"__name__":=by decide) (hd:(x==("__debug__":Str))=false:=by decide):Fd (FF X.prog X.w) X.A (HE (.Name x pos) X.env) Q E s:=by
 obtain⟨mb,h1,h2⟩:=I.mod.blt;exact Kw I.ok.kind hg (Calls.loadGlobal_builtin (by rw[I.ok.glob];exact I.mod.glob.keeps I.bk) hm (by rw[I.ok.blt];exact h1.keeps I.bk) ((h2 x hn).trans hv) h) hd
theorem As{x:Str}{v:V}{u:EU}{pos:Pos}(hg:Gl X x)(hm:X.mg x=some u)(r:aZ v u)(hd:(x==("__debug__":Str))=false:=by decide):PE X (.Name x pos) (tC v):=
 λ_ _ _ H _ I h=>ul I hg hm ⟨v,H,I,r,h⟩ hd
theorem Af{x:Str}{v:V}{u:EU}{pos:Pos}(hg:Gl X x)(hm:X.mg x=none)(hv:GU x=some u)(r:aZ v u)(hn:x≠"__name__":=by decide)(hd:(x==("__debug__":Str))=false:=by decide):PE X (.Name x pos) (tC v):=
 λ_ _ _ H _ I h=>ca I hg hm hv ⟨v,H,I,r,h⟩ hn hd
variable {a b:Expr}
def tB(t:TE):TT:=λσ H Q=>t σ H λx H1=>∃c,x=.bl c/\Q c H1
theorem CS{e:Expr}{t:TE}(h:PE X e t)(he:∀QX,isTrue e X.env QX=(do let v <-QX;Pi e.pos;Kk [v] (truthy v)):=by intro _;rfl):PT X e (tB t):=by
 intro pins s σ H Q I hw;refine isTrue_plain (thn (h pins s σ H _ I hw) λv s1 ⟨x,H1,I1,r1,q1⟩=>?_) (he _)
 obtain⟨d,rfl,q⟩:=q1;cases r1;exact Hi ⟨H1,I1,q⟩
variable {tA tB':TT}{rest:List Expr}
def Em(t u:TT):TT:=λσ H Q=>t σ H λc H1=>if c=true then u σ H1 Q else Q false H1
def tOr(t u:TT):TT:=λσ H Q=>t σ H λc H1=>if c=true then Q true H1 else u σ H1 Q
def D6(t:TT):TT:=λσ H Q=>t σ H λc H1=>Q (!c) H1
theorem y4(ha:PT X a tA):PW X (.BoolOp .And [a] pos) tA:=by
 intro wh pins s σ H Q I h;refine isTrue_and (thn (ha pins s σ H Q I h) λc s1 e=>?_)
 cases c with
 |true=>exact isTrue_and_nil e
 |false=>exact e
theorem Ch(ha:PT X a tA):PW X (.BoolOp .Or [a] pos) tA:=by
 intro wh pins s σ H Q I h;refine isTrue_or (thn (ha pins s σ H Q I h) λc s1 e=>?_)
 cases c with
 |false=>exact isTrue_or_nil e
 |true=>exact e
theorem wF(ha:PT X a tA)(hb:PW X (.BoolOp .And (b::rest) pos) tB'):PW X (.BoolOp .And (a::b::rest) pos) (Em tA tB'):=by
 intro wh pins s σ H Q I h;refine isTrue_and (thn (ha pins s σ H _ I h) λc s1 ⟨H1,I1,q1⟩=>?_)
 cases c with
 |true=>exact hb wh pins s1 σ H1 Q I1 q1
 |false=>exact⟨H1,I1,q1⟩
theorem Bd(ha:PT X a tA)(hb:PW X (.BoolOp .Or (b::rest) pos) tB'):PW X (.BoolOp .Or (a::b::rest) pos) (tOr tA tB'):=by
 intro wh pins s σ H Q I h;refine isTrue_or (thn (ha pins s σ H _ I h) λc s1 ⟨H1,I1,q1⟩=>?_)
 cases c with
 |true=>exact⟨H1,I1,q1⟩
 |false=>exact hb wh pins s1 σ H1 Q I1 q1
theorem BV(ha:PT X a tA):PT X (.UnaryOp .Not a pos) (D6 tA):=by
 intro pins s σ H Q I h;exact isTrue_not (ha pins s σ H (λc H1=>Q (!c) H1) I h)
def DO(ta tb:TE):TE:=λσ H Q=>ta σ H λx H1=>∃c,x=.bl c/\if c=true then tb σ H1 Q else Q (.bl false) H1
def Dn(ta:TE):TE:=λσ H Q=>ta σ H λx H1=>∃c,x=.bl c/\Q (.bl (!c)) H1
theorem CA{op}{t:TE}(h:PE X a t):PE X (.BoolOp op [a] pos) t:=λpins s σ H Q I hw=>BoolOp_one (h pins s σ H Q I hw)
theorem wm(ha:PE X a ta)(hb:PE X (.BoolOp .And (b::rest) pos) tb):PE X (.BoolOp .And (a::b::rest) pos) (DO ta tb):=by
 intro pins s σ H Q I h;refine BoolOp_and (thn (ha pins s σ H _ I h) λv s1 ⟨x,H1,I1,r1,q1⟩=>?_)
 obtain⟨c,rfl,q1⟩:=q1;cases r1;refine Hi ?_;cases c with
 |true=>exact hb pins s1 σ H1 Q I1 q1
 |false=>exact⟨.bl false,H1,I1,rfl,q1⟩
theorem B6(ha:PE X a ta):PE X (.UnaryOp .Not a pos) (Dn ta):=by
 intro pins s σ H Q I h;refine UnaryOp_ (thn (ha pins s σ H _ I h) λv s1 ⟨x,H1,I1,r1,q1⟩=>?_)
 obtain⟨c,rfl,q1⟩:=q1;cases r1;exact not_of (Hi ⟨.bl (!c),H1,I1,rfl,q1⟩)
def tIf(t:TT)(ta tb:TE):TE:=λσ H Q=>t σ H λc H1=>if c=true then ta σ H1 Q else tb σ H1 Q
theorem om{c:Expr}(hc:PT X c tA)(ha:PE X a ta)(hb:PE X b tb):PE X (.IfExp c a b pos) (tIf tA ta tb):=by
 intro pins s σ H Q I h;refine wpAny_IfExp (thn (hc pins s σ H _ I h) λd s1 ⟨H1,I1,q1⟩=>?_)
 cases d with
 |true=>exact ha pins s1 σ H1 Q I1 q1
 |false=>exact hb pins s1 σ H1 Q I1 q1
end
def SqL(K:EL)(H:Hp)(a:E1)(xs:List V):Prop:=
 Rd H a (.lst xs)\/
  ∃(o:Obj) (PH:Array EU) (n:Nat),K.lookup a=some o∧o.cls=.type "list"∧o.dict=none∧o.data=.seq PH n∧PH.size≤sizeLine∧aQ xs PH.toList
def SqT(K:EL)(H:Hp)(a:E1)(xs:List V):Prop:=
 Rd H a (.tup xs)\/
  ∃(o:Obj) (PH:Array EU) (n:Nat),K.lookup a=some o∧o.cls=.type "tuple"∧o.data=.seq PH n∧PH.size≤sizeLine∧aQ xs PH.toList
def Et:EU->Option V
 | .none=>some .non
 | .bool b=>some (.bl b)
 | .int i _=>some (.int i)
 | .str x _=>some (.str x)
 | .bytes b _=>some (.byt b)
 | .float b _=>some (.flt b)
 | .ref a=>some (.ref a)
 | .type n=>some (.ty n)
 |_=>none
theorem aZ.abs{x:V}{u:EU}(r:aZ x u):Et u=some x:=by
 cases x with
 |non=>cases r;rfl
 |bl _=>cases r;rfl
 |int _=>obtain⟨t,rfl⟩:=r;rfl
 |str _=>obtain⟨t,rfl⟩:=r;rfl
 |byt _=>obtain⟨t,rfl⟩:=r;rfl
 |flt _=>obtain⟨t,rfl⟩:=r;rfl
 |ref _=>cases r;rfl
 |ty _=>cases r;rfl
theorem aZ.inj{x y:V}{u:EU}(r:aZ x u)(q:aZ y u):x=y:=FN (r.abs.symm.trans q.abs)
theorem aQ.inj:∀{xs ys:List V}{us:List EU},aQ xs us->aQ ys us->xs=ys
 |_,_,_,.nil,.nil=>rfl
 |_,_,_,.cons r t,.cons r' t'=>by rw[r.inj r',aQ.inj t t']
variable {σ:St}
section
variable {X:Cx}{a:E1}{xs ys:List V}
theorem SqL.of{K:EL}(h:H a=some (.lst xs)):SqL K H a xs:=.inl (.inl h)
theorem SqT.of{K:EL}(h:H a=some (.tup xs)):SqT K H a xs:=.inl (.inl h)
theorem Inv.list(I:Inv X pins σ H s)(h:SqL X.K H a xs):∃PH:List EU,aQ xs PH/\PlainL s.heap a PH.toArray/\xs.length<=sizeLine:=by
 rcases h with h |⟨o,PH,n,hk,hc,hd,hs,hz,r⟩
 ·obtain⟨z,PH,n,r,e⟩:=h.ok I.hok;exact⟨PH,r,⟨_,n,e,rfl,rfl,rfl⟩,z⟩
 ·refine⟨PH.toList,r,⟨o,n,I.kIn a o hk,hc,hd,by simpa using hs⟩,?_⟩
  have e:=r.length;simp only[E_]at e;lia
theorem Inv.tuple(I:Inv X pins σ H s)(h:SqT X.K H a xs):∃PH:List EU,aQ xs PH/\Px s.heap a PH.toArray/\xs.length<=sizeLine:=by
 rcases h with h |⟨o,PH,n,hk,hc,hs,hz,r⟩
 ·obtain⟨z,PH,r,p⟩:=h.ok I.hok;exact⟨PH,r,p,z⟩
 ·refine⟨PH.toList,r,⟨o,I.kIn a o hk,hc,n,by simpa using hs⟩,?_⟩
  have e:=r.length;simp only[E_]at e;lia
theorem Inv.list_inj(I:Inv X pins σ H s)(h:SqL X.K H a xs)(h':SqL X.K H a ys):xs=ys:=by
 obtain⟨PH,r,⟨o,n,e,_,_,d⟩,_⟩:=I.list h;obtain⟨its',r',⟨o',n',e',_,_,d'⟩,_⟩:=I.list h';rw[e]at e';cases e';rw[d]at d';injection d' with d1 _
 have:PH=its':=by simpa using congrArg O5 d1
 subst this;exact r.inj r'
theorem Inv.tuple_inj(I:Inv X pins σ H s)(h:SqT X.K H a xs)(h':SqT X.K H a ys):xs=ys:=by
 obtain⟨PH,r,⟨o,e,_,n,d⟩,_⟩:=I.tuple h;obtain⟨its',r',⟨o',e',_,n',d'⟩,_⟩:=I.tuple h';rw[e]at e';cases e';rw[d]at d';injection d' with d1 _
 have:PH=its':=by simpa using congrArg O5 d1
 subst this;exact r.inj r'
end
abbrev Cx.wish(X:Cx)(E:EU->ER->Prop):Cx:={X with xe:=E }
abbrev Cx.nox(X:Cx):Cx:=X.wish λ_ _=>False
theorem Cx.Ok.wish{X:Cx}(ok:X.Ok)(E:EU->ER->Prop):(X.wish E).Ok:=
 ⟨ok.mod,ok.kind,ok.glob,ok.blt,ok.above,ok.inj,ok.has,ok.cab,ok.hd,ok.frames,ok.stk,ok.exf,ok.bs,ok.bsz,ok.noex,ok.exfs,ok.funs,ok.frf⟩
theorem Cx.Ok.unwish{X:Cx}{E:EU->ER->Prop}(ok:(X.wish E).Ok):X.Ok:=
 ⟨ok.mod,ok.kind,ok.glob,ok.blt,ok.above,ok.inj,ok.has,ok.cab,ok.hd,ok.frames,ok.stk,ok.exf,ok.bs,ok.bsz,ok.noex,ok.exfs,ok.funs,ok.frf⟩
variable {E:EU→ER→Prop}{te:TE}
section
variable {X:Cx}
theorem Inv.wish(I:Inv X pins σ H s)(E:EU->ER->Prop):Inv (X.wish E) pins σ H s:=⟨I.ok.wish E,I.os,I.bare,I.base,I.loc,I.cell,I.free,I.freeC,I.pin,I.hok,I.len⟩
theorem Inv.unwish(I:Inv (X.wish E) pins σ H s):Inv X pins σ H s:=⟨I.ok.unwish,I.os,I.bare,I.base,I.loc,I.cell,I.free,I.freeC,I.pin,I.hok,I.len⟩
theorem SP.unwish{D:m7}{f:Flow}{s':ER}(h:SP (X.wish E) pins D f s'):SP X pins D f s':=by
 cases f with
 |next=>obtain⟨P5,H',I,q⟩:=h;exact⟨P5,H',I.unwish,q⟩
 |brk=>obtain⟨P5,H',I,q⟩:=h;exact⟨P5,H',I.unwish,q⟩
 |cont=>obtain⟨P5,H',I,q⟩:=h;exact⟨P5,H',I.unwish,q⟩
 |ret u=>obtain⟨v,P5,H',I,r,q⟩:=h;exact⟨v,P5,H',I.unwish,r,q⟩
theorem PSs.nox{st:List Hr}{t:TS}(h:PSs X.nox st t):PSs X st t:=λpins s σ H D I hw=>
 HS (h pins s σ H D (I.wish _) hw) (λ_ _ q=>q.unwish) λ_ _ z=>False.elim z
variable {st:Hr}{rest:List Hr}{t u:TS}{e:Expr}
def DS:TS:=λD σ H=>D.nx σ H
def Ek(t u:TS):TS:=λD σ H=>t {D with nx:=u D } σ H
theorem zK:PSs X [] DS:=λ_ _ σ H _ I h=>L0 ⟨σ,H,I,h⟩
theorem wM(h1:PS X st t)(h2:PSs X rest u):PSs X (st::rest) (Ek t u):=by
 intro pins s σ H D I h;refine wpAny_execs_cons (thn (h1 pins s σ H {D with nx:=u D } I h) λf s1 q=>?_)
 cases f with
 |next=>
  obtain⟨P5,H',I',q⟩:=q;exact h2 pins s1 P5 H' D I' q
 |ret v=>exact q
 |brk=>exact q
 |cont=>exact q
theorem Inv.quiet{pins:List (E1×Obj)}{σ:St}{H:Hp}{s:ER}(I:Inv X pins σ H s):interactive X.env=false:=by simp[interactive,I.ok.kind]
def Dq(te:TE):TS:=λD σ H=>te σ H λ_ H1=>D.nx σ H1
theorem jm(he:PE X e te)(hs:Jv e none pos.line X.env=pure false:=by rfl):PS X (.Expr e pos) (Dq te):=by
 intro pins s σ H D I h;exact wpAny_Expr_any (thn (he pins s σ H _ I h) λv s1 ⟨x,H1,I1,r1,q1⟩=>⟨σ,H1,I1,q1⟩) I.quiet hs
def Eh(te:TE):TS:=λD σ H=>te σ H D.rt
theorem qk(he:PE X e te):PS X (.Return (some e) pos) (Eh te):=by
 intro pins s σ H D I h;exact wpAny_Return_some (thn (he pins s σ H _ I h) λv s1 ⟨x,H1,I1,r1,q1⟩=>⟨x,σ,H1,I1,r1,q1⟩)
def Ed(c:TT)(t u:TS):TS:=λD σ H=>c σ H λb H1=>if b=true then t D σ H1 else u D σ H1
theorem A1{c:Expr}{a b:List Hr}{tc:TT}(hc:PT X c tc)(ha:PSs X a t)(hb:PSs X b u):PS X (.If c a b pos) (Ed tc t u):=by
 intro pins s σ H D I h;refine wpAny_If (thn (hc pins s σ H _ I h) λd s1 ⟨H1,I1,q1⟩=>?_)
 cases d with
 |true=>exact ha pins s1 σ H1 D I1 q1
 |false=>exact hb pins s1 σ H1 D I1 q1
end
abbrev TG:=V->St->Hp->(St->Hp->Prop)->Prop
abbrev TGs:=List V->St->Hp->(St->Hp->Prop)->Prop
def PG(X:Cx)(target:Expr)(t:TG):Prop:=
 ∀(pins:List (E1×Obj)) (s:ER) (σ:St) (H:Hp) (v:V) (u:EU) (Q:St->Hp->Prop),Inv X pins σ H s->aZ v u->t v σ H Q->
  Fd (FF X.prog X.w) X.A (Np target X.env u) (λ_ s'=>∃P5 H',Inv X pins P5 H' s'/\Q P5 H') X.xe s
def PGs(X:Cx)(ts:List Expr)(t:TGs):Prop:=
 ∀(pins:List (E1×Obj)) (s:ER) (σ:St) (H:Hp) (vs:List V) (us:List EU) (Q:St->Hp->Prop),Inv X pins σ H s->aQ vs us->t vs σ H Q->
  Fd (FF X.prog X.w) X.A (assignInOrder ((Jn ts X.env).map (·.2)) us) (λ_ s'=>∃P5 H',Inv X pins P5 H' s'/\Q P5 H') X.xe s
abbrev BU:=V->V->V->Hp->(Hp->Prop)->Prop
def DQ(X:Cx)(t:BU):Prop:=
 ∀(pins:List (E1×Obj)) (s:ER) (σ:St) (H:Hp) (o i v:V) (ov iv u:EU) (Q:Hp->Prop),Inv X pins σ H s->aZ o ov->aZ i iv->aZ v u->t o i v H Q->
  Fd (FF X.prog X.w) X.A (setItem ov iv u) (λ_ s'=>∃H',Inv X pins σ H' s'/\Q H') X.xe s
section
variable {X:Cx}
def oC(i:Nat):TG:=λv σ H Q=>Q (σ.set i (some v)) H
theorem bi{i:Nat}{x:Str}(hN:X.N.Nodup)(hi:X.N[i]?=some x)(hx:Loc X.env.scope x)(hf:X.fn x=true\/X.env.scope.names.lookup x=some .local:=by first |exact .inl rfl |exact .inr rfl |assumption):PG X (.Name x pos) (oC i):=by
 intro pins s σ H v u Q I r h;exact M_ (oX I hN hi hx r (λs' I'=>⟨_,H,I',h⟩) hf)
def Dv:TGs:=λvs σ H Q=>vs=[]/\Q σ H
def A7(t:TG)(u:TGs):TGs:=λvs σ H Q=>∃v r,vs=v::r/\t v σ H λP5 H'=>u r P5 H' Q
theorem ef:PGs X [] Dv:=by
 intro pins s σ H vs us Q I r h;obtain⟨e,h⟩:=h;subst e;cases r;exact assignInOrder_nil ⟨σ,H,I,h⟩
theorem bC{e:Expr}{es:List Expr}{t:TG}{u:TGs}(h1:PG X e t)(h2:PGs X es u)
  (hs:(Jn (e::es) X.env).map (·.2)=Np e X.env::(Jn es X.env).map (·.2):=by rfl):PGs X (e::es) (A7 t u):=by
 intro pins s σ H vs us Q I r h;obtain⟨v,vr,e1,h⟩:=h;subst e1;cases r with
 |cons r rr=>
  rw[hs];refine assignInOrder_cons (thn (h1 pins s σ H _ _ _ I r h) λ_ s1 ⟨σ1,H1,I1,q1⟩=>?_)
  exact h2 pins s1 σ1 H1 _ _ Q I1 rr q1
def Dt(K:EL)(n:Nat)(t:TGs):TG:=λv σ H Q=>∃a xs,v=.ref a/\SqT K H a xs/\xs.length=n/\t xs σ H Q
theorem gf{es:List Expr}{k:Nat}{t:TGs}{n:Nat}(hc:X.calm=true)(h:PGs X es t)
  (hn:(Jn es X.env).length=n:=by rfl) (QM:(Jn es X.env).findIdx? (·.1)=none:=by rfl):PG X (.Tuple es k pos) (Dt X.K n t):=by
 intro pins s σ H v u Q I r hw;obtain⟨a,xs,e1,hq,hl,hw⟩:=hw;subst e1;cases r;obtain⟨PH,rv,ht,hz⟩:=I.tuple hq;refine assign_Tuple_tuple (I.ok.hd hc) ht (by simp[hn,<-hl,rv.length]) QM λh' hx=>?_
 have I1:Inv X pins σ H {s with heap:=h' }:=I.kept (t':=s.toks) λb o e=>hx b o (Fy (EZ e)) e
 exact h pins _ σ H xs _ Q I1 (by simpa using rv) hw
def D8(to ti:TE)(t:BU):TG:=λv σ H Q=>to σ H λo H1=>ti σ H1 λi H2=>t o i v H2 λH3=>Q σ H3
theorem Cp{o i:Expr}{to ti:TE}{t:BU}(ho:PE X o to)(hi:PE X i ti)(hs:DQ X t)
  (ha:∀v,Np (.Subscript o i pos) X.env v=(do
   let ov <-Kk [v] (HE o X.env)
   let iv <-Kk [v,ov] (HE i X.env)
   Pi pos
   Kk [v,ov,iv] (setItem ov iv v)
   release [v,ov,iv] []):=by intro _;rfl):PG X (.Subscript o i pos) (D8 to ti t):=by
 intro pins s σ H v u Q I r h;rw[ha];refine EJ (F6 (thn (ho pins s σ H _ I h) λov s1 ⟨x,H1,I1,r1,q1⟩=>?_))
 refine EJ (F6 (thn (hi pins s1 σ H1 _ I1 q1) λiv s2 ⟨y,H2,I2,r2,q2⟩=>?_))
 refine EJ (Lm (EJ (F6 (thn (hs pins s2 σ H2 x y v ov iv u _ I2 r1 r2 r q2) λ_ s3 ⟨H3,I3,q3⟩=>?_))))
 exact wpAny_release ⟨σ,H3,I3,q3⟩
def B1(te:TE)(g:TG):TS:=λD σ H=>te σ H λx H1=>g x σ H1 D.nx
theorem BR{tg e:Expr}{te:TE}{g:TG}(he:PE X e te)(hg:PG X tg g)(hs:swapsWithSole [tg] e pos.line X.env=pure false:=by rfl)(hw:swappedStores [tg] e X.env=pure none:=by rfl)
  (h1:(Jn [tg] X.env).map (·.2)=[Np tg X.env]:=by rfl):PS X (.Assign [tg] e pos) (B1 te g):=by
 intro pins s σ H D I h;refine wpAny_Assign_stores (thn (he pins s σ H _ I h) λv s1 ⟨x,H1,I1,r1,q1⟩=>?_) hs hw
 rw[h1];exact thn (hg pins s1 σ H1 x v _ I1 r1 q1) λ_ s2 q=>q
theorem yD{i:Nat}{x:Str}{e:Expr}{te:TE}{P9:Pos}(hN:X.N.Nodup)(hi:X.N[i]?=some x)(hx:Loc X.env.scope x)(he:PE X e te)(hs:Jv e (some (.Name x P9)) pos.line X.env=pure false:=by rfl)(hf:X.fn x=true\/X.env.scope.names.lookup x=some .local:=by first |exact .inl rfl |exact .inr rfl |assumption):
  PS X (.Assign [.Name x P9] e pos) (B1 te (oC i)):=by
 intro pins s σ H D I h;refine wpAny_Assign_Name (thn (he pins s σ H _ I h) λv s1 ⟨y,H1,I1,r1,q1⟩=>?_) hs
 exact oX I1 hN hi hx r1 (λs2 I2=>⟨_,H1,I2,q1⟩) hf
def Cy(c:TT)(tb:TS):TS:=λD σ H=>∃W:Nat->St->Hp->Prop,(∃m,W m σ H)/\∀m σ H,W m σ H->
 c σ H λb H1=>if b=true then ∃N:St->Hp->Prop,(∀P5 H',N P5 H'->∃m',m'<m/\W m' P5 H')/\tb {D with nx:=N,ct:=N,bk:=D.nx } σ H1 else D.nx σ H1
theorem wN{c:Expr}{Qc:List Hr}{tc:TT}{tb:TS}(hp:L1 (FF X.prog X.w) X.A X.env X.xe)(hc:PT X c tc)(hb:PSs X Qc tb):PS X (.While c Qc [] pos) (Cy tc tb):=by
 intro pins s σ H D I h;obtain⟨W,⟨m0,w0⟩,turn⟩:=h;refine wpAny_While (codeAny_whileLoop (λn s'=>∃P5 H',Inv X pins P5 H' s'/\W n P5 H') ?_ m0 ⟨σ,H,I,w0⟩)
 rintro n s1 ⟨σ1,H1,I1,w1⟩;refine Ik hp (thn (hc pins s1 σ1 H1 _ I1 (turn n σ1 H1 w1)) λb s2 ⟨H2,I2,q2⟩=>?_)
 cases b with
 |true=>
  obtain⟨N,hN,q2⟩:=q2;rw[if_pos rfl];refine Ik hp (thn (hb pins s2 σ1 H2 _ I2 q2) λf s3 q3=>?_)
  cases f with
  |next=>
   obtain⟨RK,H3,I3,n3⟩:=q3;obtain⟨m',hm,w3⟩:=hN RK H3 n3;exact⟨m',hm,RK,H3,I3,w3⟩
  |cont=>
   obtain⟨RK,H3,I3,n3⟩:=q3;obtain⟨m',hm,w3⟩:=hN RK H3 n3;exact⟨m',hm,RK,H3,I3,w3⟩
  |brk=>exact q3
  |ret v=>exact q3
 |false=>
  rw[if_neg Fn];exact L0 ⟨σ1,H2,I2,q2⟩
end
structure It where
 go:Nat->Hp->Prop
 yld:Nat->Hp->V->Hp->Prop
 stop:Nat->Hp->Prop
def iM(X:Cx)(pins:List (E1×Obj))(H:Hp)(b:E1):Prop:=
 H b=none/\b≠X.env.locals/\b ∉ X.fs/\(b∈X.ex\/X.s₀.heap.objs.size<=b)/\(∀x c,X.env.cells.lookup x=some c->c≠b)/\∀p∈X.pn++pins,p.1≠b
theorem Inv.fpOk{X:Cx}{pins:List (E1×Obj)}{σ:St}{H H':Hp}{s:ER}{b:E1}(I:Inv X pins σ H s)(hb:s.heap.objs.size<=b)(hn:H' b=none):iM X pins H' b:=by
 refine⟨hn,Hs (Fx I.lt hb),I.nofs hb,.inr (GJ I.sz hb),λx c e z=>?_,λp hp z=>?_⟩
 ·obtain⟨v,q⟩:=I.cell x c e;exact absurd (Fx q.lt (by rw[z];exact hb)) (FG _)
 ·exact absurd (Fx (EZ (I.pin p hp).1) (by rw[z];exact hb)) (FG _)
structure pY(P:E2)(w:Fs)(K:EL)(tg:Expr)(J:It)(fp:List E1)(it:E1)(tn:Nat->Gz->Prop):Prop where
 mem:it∈fp
 obj:∀i h,tn i h->∀b∈fp,∃o,h.get? b=some o/\∀v,o.data≠.cell v
 keep:∀i h h',tn i h->(∀b∈fp,∀o,h.get? b=some o->h'.get? b=some o)->tn i h'
 item:∀(X:Cx),X.prog=P->X.w=w->X.K=K->X.calm=true->∀(i:Nat) (pins:List (E1×Obj)) (s:ER) (σ:St) (H:Hp) (E:EU->ER->Prop),Inv X pins σ H s->(∀b∈fp,iM X pins H b)->tn i s.heap->J.go i H->
  Fd (FF P w) X.A (Iy (.ref it)) (λr s1=>∃u,r=some u/\
   Fd (FF P w) X.A (L3 tg (.ref it) u) (λ_ s2=>∃x H',Inv X pins σ H' s2/\aZ x u/\J.yld i H x H'/\tn (i+1) s2.heap/\∀b∈fp,H' b=none) E s1) E s
 done:∀(X:Cx),X.prog=P->X.w=w->X.K=K->X.calm=true->∀(i:Nat) (pins:List (E1×Obj)) (s:ER) (σ:St) (H:Hp) (E:EU->ER->Prop),Inv X pins σ H s->(∀b∈fp,iM X pins H b)->tn i s.heap->J.stop i H->
  Fd (FF P w) X.A (Iy (.ref it)) (λr s1=>r=none/\Inv X pins σ H s1) E s
 self:∀(A:Fq) (i:Nat) (s:ER) (Q:EU->ER->Prop) (E:EU->ER->Prop),tn i s.heap->Q (.ref it) s->Fd (FF P w) A (Nq (.ref it)) Q E s
abbrev TI:=St->Hp->(It->Hp->Prop)->Prop
def PIE(X:Cx)(pins:List (E1×Obj))(σ:St)(tg:Expr)(R:It->Hp->Prop)(itv:EU)(s2:ER):Prop:=
 ∃(it:E1) (fp:List E1) (tn:Nat->Gz->Prop) (J:It) (H':Hp),itv=.ref it/\Inv X pins σ H' s2/\pY X.prog X.w X.K tg J fp it tn/\tn 0 s2.heap/\(∀b∈fp,iM X pins H' b)/\R J H'
def PI(X:Cx)(tg iter:Expr)(wi:TI):Prop:=
 ∀(pins:List (E1×Obj)) (s:ER) (σ:St) (H:Hp) (R:It->Hp->Prop),Inv X pins σ H s->wi σ H R->
  Fd (FF X.prog X.w) X.A (HE iter X.env) (λv s1=>Fd (FF X.prog X.w) X.A (Nq v) (PIE X pins σ tg R) X.xe s1) X.xe s
theorem pV{M:Model}{A:Fq}{E:EU->ER->Prop}{s:ER}{tg:Expr}{it:E1}{u:EU}{o:Obj}{n:String}{vs:Array EU}{Q:Unit->ER->Prop}(ho:s.heap.get? it=some o)(hc:o.cls=.type n)(hd:o.data=.fields vs)
  (hn:["enumerate","zip","dict_itemiterator","dict_reverseitemiterator","odict_iterator","itertools.zip_longest","itertools.pairwise"].contains n=false) (hQ:Q () s):Fd M A (L3 tg (.ref it) u) Q E s:=by
 unfold L3
 cases tg <;>first
  |exact EO hQ
  | (cases u <;>first
    |exact EO hQ
    | (refine EJ (wpAny_load ho ?_)
       rw[hc,hd];show Fd M A (if (["enumerate","zip","dict_itemiterator","dict_reverseitemiterator","odict_iterator","itertools.zip_longest","itertools.pairwise"].contains n && vs[0]?==some (Jw _))=true then _ else _) Q E s
       rw[if_neg (by intro h;rw[hn,Bool.false_and]at h;cases h)]
       exact EO hQ))
def Itl(K:EL)(a:E1):It:=
 ⟨λi H=>∃xs x,SqL K H a xs/\xs[i]?=some x,λi H x H'=>H'=H/\∀xs,SqL K H a xs->xs[i]?=some x,λi H=>∃xs,SqL K H a xs/\xs.length<=i⟩
def Itt(K:EL)(a:E1):It:=
 ⟨λi H=>∃xs x,SqT K H a xs/\xs[i]?=some x,λi H x H'=>H'=H/\∀xs,SqT K H a xs->xs[i]?=some x,λi H=>∃xs,SqT K H a xs/\xs.length<=i⟩
def Itr(lo:Int)(n:Nat):It:=⟨λi _=>i<n,λi H x H'=>H'=H/\x=.int (lo+i),λi _=>n<=i⟩
theorem vc{P:E2}{w:Fs}{K:EL}{tg:Expr}(a it:E1):pY P w K tg (Itl K a) [it] it (λi h=>h.IsListIter it a i) where
 mem:=by simp
 obj:=λi h st b hb=>by
  have e:b=it:=by simpa using hb
  subst e;obtain⟨o,e,c,d⟩:=st;exact⟨o,e,λv z=>by rw[d]at z;cases z⟩
 keep:=λi h h' st k=>st.at λo e=>k it (by simp) o e
 item:=by
  intro X hP hw hK hc i pins s σ H E I hf st hg;subst hP hw hK;obtain⟨xs,x,hq,hx⟩:=hg;obtain⟨PH,rv,p,hz⟩:=I.list hq;obtain⟨u,hu,ru⟩:=rv.get hx;obtain⟨f0,f1,f2,f3,f4,f5⟩:=hf it (by simp)
  refine wpAny_pyNext_list_item st p.isList (x:=u) (by simpa using hu) λh' Qw sb=>?_
  have I1:Inv X pins σ H {s with heap:=h' }:=I.turned (t':=s.toks) (λb o hb e=>(sb.2 b hb).trans e) f0 f1 f3 f4 f5
  obtain⟨o,e,c,d⟩:=id Qw;exact⟨u,rfl,pV (s:={s with heap:=h' }) e c d (by decide) ⟨x,H,I1,ru,⟨rfl,λys hy=>by rw[I.list_inj hy hq];exact hx⟩,Qw,λb hb=>(hf b hb).1⟩⟩
 done:=by
  intro X hP hw hK hc i pins s σ H E I hf st hg;subst hP hw hK;obtain⟨xs,hq,hx⟩:=hg;obtain⟨PH,rv,p,hz⟩:=I.list hq;obtain⟨f0,f1,f2,f3,f4,f5⟩:=hf it (by simp)
  have hl:=rv.length;exact wpAny_pyNext_list_end (I.ok.hd hc) st p.isList (by simp;lia) λh' eb=>⟨rfl,I.turned (t':=s.toks) (λb o hb e=>eb b o hb e) f0 f1 f3 f4 f5⟩
 self:=λ_ _ _ _ _ st h=>wpAny_pyIter_listiter st h
theorem qw{P:E2}{w:Fs}{K:EL}{tg:Expr}(a it:E1):pY P w K tg (Itt K a) [it] it (λi h=>h.IsTupleIter it a i) where
 mem:=by simp
 obj:=λi h st b hb=>by
  have e:b=it:=by simpa using hb
  subst e;obtain⟨o,e,c,d⟩:=st;exact⟨o,e,λv z=>by rw[d]at z;cases z⟩
 keep:=λi h h' st k=>st.at λo e=>k it (by simp) o e
 item:=by
  intro X hP hw hK hc i pins s σ H E I hf st hg;subst hP hw hK;obtain⟨xs,x,hq,hx⟩:=hg;obtain⟨PH,rv,p,hz⟩:=I.tuple hq;obtain⟨u,hu,ru⟩:=rv.get hx;obtain⟨f0,f1,f2,f3,f4,f5⟩:=hf it (by simp)
  refine wpAny_pyNext_tuple_item st (show s.heap.IsTuple a PH.toArray from p) (x:=u) (by simpa using hu) λh' Qw sb=>?_
  have I1:Inv X pins σ H {s with heap:=h' }:=I.turned (t':=s.toks) (λb o hb e=>(sb.2 b hb).trans e) f0 f1 f3 f4 f5
  obtain⟨o,e,c,d⟩:=id Qw;exact⟨u,rfl,pV (s:={s with heap:=h' }) e c d (by decide) ⟨x,H,I1,ru,⟨rfl,λys hy=>by rw[I.tuple_inj hy hq];exact hx⟩,Qw,λb hb=>(hf b hb).1⟩⟩
 done:=by
  intro X hP hw hK hc i pins s σ H E I hf st hg;subst hP hw hK;obtain⟨xs,hq,hx⟩:=hg;obtain⟨PH,rv,p,hz⟩:=I.tuple hq;obtain⟨f0,f1,f2,f3,f4,f5⟩:=hf it (by simp)
  have hl:=rv.length;exact wpAny_pyNext_tuple_end (I.ok.hd hc) st (show s.heap.IsTuple a PH.toArray from p) (by simp;lia) λh' eb=>⟨rfl,I.turned (t':=s.toks) (λb o hb e=>eb b o hb e) f0 f1 f3 f4 f5⟩
 self:=λ_ _ _ _ _ st h=>wpAny_pyIter_tupleiter st h
theorem jR{P:E2}{w:Fs}{K:EL}{tg:Expr}(it:E1)(lo:Int)(n:Nat):pY P w K tg (Itr lo n) [it] it (λi h=>Ln h it (lo+(i:Nat) *1) ((n:Int)-(i:Nat)) 1) where
 mem:=by simp
 obj:=λi h st b hb=>by
  have e:b=it:=by simpa using hb
  subst e
  exact⟨_,st,λv z=>by
   have z':Data.fields _=Data.cell v:=z;cases z'⟩
 keep:=λi h h' st k=>k it (by simp) _ st
 item:=by
  intro X hP hw hK hc i pins s σ H E I hf st hg;subst hP hw hK;obtain⟨f0,f1,f2,f3,f4,f5⟩:=hf it (by simp)
  have W:=Walks.range (prog:=X.prog) (w:=X.w) (I.ok.hd hc) it lo 1 n;refine W.item i s _ _ hg st λv h' tk hv Qw kk=>?_
  obtain⟨t,rfl⟩:=hv;have I1:Inv X pins σ H {s with heap:=h',toks:=tk }:=I.turned (λb o hb e=>kk b o (by simpa using hb) e) f0 f1 f3 f4 f5
  refine⟨_,rfl,pV (s:={s with heap:=h',toks:=tk }) (n:="range_iterator") Qw rfl rfl (by decide) ⟨.int (lo+i),H,I1,⟨t,?_⟩,⟨rfl,rfl⟩,Qw,λb hb=>(hf b hb).1⟩⟩
  rw[Kl]
 done:=by
  intro X hP hw hK hc i pins s σ H E I hf st hg;subst hP hw hK;obtain⟨f0,f1,f2,f3,f4,f5⟩:=hf it (by simp)
  exact LO (I.ok.hd hc) st (by have:n<=i:=hg;lia) λh' eb=>⟨rfl,I.turned (t':=s.toks) (λb o hb e=>eb b o hb e) f0 f1 f3 f4 f5⟩
 self:=λ_ _ _ _ _ st h=>LP st h
section
variable {X:Cx}{tg:Expr}
def Dh(K:EL)(tl:TE):TI:=λσ H R=>tl σ H λx H1=>∃a,x=.ref a/\(∃xs,SqL K H1 a xs)/\R (Itl K a) H1
def Ei(K:EL)(tl:TE):TI:=λσ H R=>tl σ H λx H1=>∃a,x=.ref a/\(∃xs,SqT K H1 a xs)/\R (Itt K a) H1
theorem zL{l:Expr}{tl:TE}(hl:PE X l tl):PI X tg l (Dh X.K tl):=by
 intro pins s σ H R I h;refine thn (hl pins s σ H _ I h) λv s1 ⟨x,H1,I1,r1,q1⟩=>?_
 obtain⟨a,e,⟨xs,hq⟩,q⟩:=q1;subst e;cases r1;obtain⟨PH,rv,p,hz⟩:=I1.list hq;refine GV p.isList ?_;refine⟨s1.heap.objs.size,[s1.heap.objs.size],_,_,H1,rfl,I1.kept (t':=s1.toks) λb o e=>EN _ e,vc a _,⟨_,E3 _ rfl,rfl,rfl⟩,λb hb=>?_,q⟩
 have e:b=s1.heap.objs.size:=by simpa using hb
 subst e;exact I1.fpOk (EX _) (I1.hok.fresh (EX _))
theorem B3{l:Expr}{tl:TE}(hl:PE X l tl):PI X tg l (Ei X.K tl):=by
 intro pins s σ H R I h;refine thn (hl pins s σ H _ I h) λv s1 ⟨x,H1,I1,r1,q1⟩=>?_
 obtain⟨a,e,⟨xs,hq⟩,q⟩:=q1;subst e;cases r1;obtain⟨PH,rv,p,hz⟩:=I1.tuple hq;refine MR (show s1.heap.IsTuple a PH.toArray from p) ?_
 refine⟨s1.heap.objs.size,[s1.heap.objs.size],_,_,H1,rfl,I1.kept (t':=s1.toks) λb o e=>EN _ e,qw a _,⟨_,E3 _ rfl,rfl,rfl⟩,λb hb=>?_,q⟩
 have e:b=s1.heap.objs.size:=by simpa using hb
 subst e;exact I1.fpOk (EX _) (I1.hok.fresh (EX _))
theorem n5{pins:List (E1×Obj)}{σ:St}{H:Hp}{s:ER}{R:It->Hp->Prop}{E:EU->ER->Prop}{lo hi:Int}{t u v:Tok}{tk:Nat}(I:Inv X pins σ H s)(h1:-(2 ^ 62)<=lo)(h2:lo<2 ^ 62)(h3:-(2 ^ 62)<=hi)(h4:hi<2 ^ 62)
  (q:R (Itr lo (hi-lo).toNat) H):Fd (FF X.prog X.w) X.A (Nq (.ref s.heap.objs.size)) (PIE X pins σ tg R) E {s with heap:=s.heap.push {cls:=.type "range",data:=.fields #[.int lo t,.int hi u,.int 1 v] },toks:=tk }:=by
 refine KB (IsRange.new ..) (small_one h1 h2 h3 h4) ?_;have I1:Inv X pins σ H {s with heap:=s.heap.push {cls:=.type "range",data:=.fields #[.int lo t,.int hi u,.int 1 v] },toks:=tk }:=I.kept λb o e=>EN _ e
 refine⟨(s.heap.push {cls:=.type "range",data:=.fields #[.int lo t,.int hi u,.int 1 v] }).objs.size,[(s.heap.push {cls:=.type "range",data:=.fields #[.int lo t,.int hi u,.int 1 v] }).objs.size],_,_,H,rfl,
  I1.kept (t':=tk) λb o e=>EN _ e,jR _ lo (hi-lo).toNat,?_,λb hb=>?_,q⟩
 ·have e1:lo+((0:Nat):Int) *1=lo:=by simp
  have e2:(((hi-lo).toNat:Nat):Int)-((0:Nat):Int)=Builtin.Range.rangeSize lo hi 1:=by rw[rangeSize_one];split <;>lia
  show Ln _ _ (lo+((0:Nat):Int) *1) ((((hi-lo).toNat:Nat):Int)-((0:Nat):Int)) 1;rw[e1,e2];exact E3 _ rfl
 ·have e:b=(s.heap.push {cls:=.type "range",data:=.fields #[.int lo t,.int hi u,.int 1 v] }).objs.size:=by simpa using hb
  subst e;exact I1.fpOk (EX _) (I1.hok.fresh (EX _))
def DB(ta:TA):TI:=λσ H R=>ta σ H λvs H1=>∃j:Int,vs=[.int j]/\-(2 ^ 62)<=j/\j<2 ^ 62/\R (Itr 0 j.toNat) H1
def D5(ta:TA):TI:=λσ H R=>ta σ H λvs H1=>∃i j:Int,vs=[.int i,.int j]/\(-(2 ^ 62)<=i/\i<2 ^ 62/\-(2 ^ 62)<=j/\j<2 ^ 62)/\R (Itr i (j-i).toNat) H1
theorem vn{a:Expr}{ta:TA}{p pos:Pos}(hg:Gl X "range")(hm:X.mg "range"=none)(ha:PA X [a] ta)(hs:E4 [a] X.env=[(false,HE a X.env)]:=by rfl):PI X tg (.Call (.Name "range" p) [a] [] pos) (DB ta):=by
 intro pins s σ H R I h;refine Call_ (ca I hg hm Mr (PyProof.Rows.callWith_type1 (thn (ha pos pins s σ H _ I h) λus s1 ⟨vs,H1,I1,r1,q1⟩=>?_) hs rfl))
 obtain⟨j,e,q1,q2,q⟩:=q1;subst e;cases r1 with
 |cons r rr=>
  cases rr;obtain⟨t,rfl⟩:=r;exact call_range_1 (n5 I1 (by lia) (by lia) q1 q2 (by simpa using q))
theorem vz{a b:Expr}{ta:TA}{p pos:Pos}(hg:Gl X "range")(hm:X.mg "range"=none)(ha:PA X [a,b] ta)(hs:E4 [a,b] X.env=[(false,HE a X.env),(false,HE b X.env)]:=by rfl)(Qq:E4 [b] X.env=[(false,HE b X.env)]:=by rfl):
  PI X tg (.Call (.Name "range" p) [a,b] [] pos) (D5 ta):=by
 intro pins s σ H R I h;refine Call_ (ca I hg hm Mr (PyProof.Rows.callWith_type1 (thn (ha pos pins s σ H _ I h) λus s1 ⟨vs,H1,I1,r1,q1⟩=>?_) (by rw[hs,Qq]) (by rw[Qq];rfl)))
 obtain⟨i,j,e,⟨q1,q2,q3,q4⟩,q⟩:=q1;subst e;cases r1 with
 |cons r rr=>
  cases rr with
  |cons r' rr=>
   cases rr;obtain⟨t,rfl⟩:=r;obtain⟨t',rfl⟩:=r';exact call_range_2 (n5 I1 q1 q2 q3 q4 q)
def Er(wi:TI)(g:TG)(tb:TS):TS:=λD σ H=>wi σ H λJ H1=>∃W:Nat->Nat->St->Hp->Prop,(∃m,W 0 m σ H1)/\∀i m σ H,W i m σ H->
 (J.stop i H/\D.nx σ H)\/(J.go i H/\∃N:St->Hp->Prop,(∀P5 H',N P5 H'->∃m',m'<m/\W (i+1) m' P5 H')/\∀x H',J.yld i H x H'->g x σ H' λσ2 H2=>tb {D with nx:=N,ct:=N,bk:=D.nx } σ2 H2)
def j9(fp:List E1)(h:Gz):List (E1×Obj):=fp.filterMap λb=>(h.get? b).map λo=>(b,o)
theorem c8{fp:List E1}{h:Gz}{b:E1}{o:Obj}(hb:b∈fp)(e:h.get? b=some o):(b,o)∈j9 fp h:=KC.mpr ⟨b,hb,by rw[e];rfl⟩
theorem u0{fp:List E1}{h:Gz}{p:E1×Obj}(hp:p∈j9 fp h):p.1∈fp/\h.get? p.1=some p.2:=by
 obtain⟨b,hb,e⟩:=KC.mp hp;cases q:h.get? b with
 |none=>rw[q]at e;cases e
 |some o=>
  rw[q]at e;have e':(b,o)=p:=FN e;subst e';exact⟨hb,q⟩
theorem Inv.pinned{pins:List (E1×Obj)}{σ:St}{H:Hp}{s:ER}{fp:List E1}(I:Inv X pins σ H s)(hf:∀b∈fp,iM X pins H b)(ho:∀b∈fp,∃o,s.heap.get? b=some o/\∀v,o.data≠.cell v):Inv X (pins++j9 fp s.heap) σ H s:=
 I.pins_of λp hp=>(FA.mp hp).elim (λz=>I.pin p (Fg _ z)) λz=>by
  obtain⟨hb,e⟩:=u0 z;obtain⟨f0,f1,f2,_⟩:=hf p.1 hb;obtain⟨o,e',d⟩:=ho p.1 hb;rw[e]at e';cases e';exact⟨e,f0,f1,f2,d⟩
theorem Inv.unpinned{pins pl:List (E1×Obj)}{σ:St}{H:Hp}{s:ER}(I:Inv X (pins++pl) σ H s):Inv X pins σ H s:=I.pins_of λp hp=>I.pin p (Fg _ (FH _ hp))
theorem B0{iter:Expr}{Qc:List Hr}{wi:TI}{g:TG}{tb:TS}{pos:Pos}(hp:L1 (FF X.prog X.w) X.A X.env X.xe)(hc:X.calm=true)(hi:PI X tg iter wi)(hg:PG X tg g)(hb:PSs X Qc tb)
  (hs:∀x,Gg iter X.env x=pure x:=by intro _;rfl):PS X (.For tg iter Qc [] pos) (Er wi g tb):=by
 intro pins s σ H D I h;refine wpAny_For (thn (hi pins s σ H _ I h) λv s1 h1=>thn h1 λitv s2 h2=>?_) hs
 obtain⟨it,fp,tn,J,H2,e,I2,T,st2,f2,W,⟨m0,w0⟩,turn⟩:=h2;subst e;have stat:∀{H':Hp},(∀b∈fp,H' b=none)->∀b∈fp,iM X pins H' b:=λhn b hb=>⟨hn b hb,(f2 b hb).2⟩
 refine codeAny_forLoop_any (λn s'=>∃i P5 H',Inv X pins P5 H' s'/\tn i s'.heap/\(∀b∈fp,H' b=none)/\W i n P5 H') ?_ m0 ⟨0,σ,H2,I2,st2,λb hb=>(f2 b hb).1,w0⟩
 rintro n s3 ⟨i,RK,H3,I3,st3,fr3,w3⟩;rcases turn i n RK H3 w3 with ⟨stop,qn⟩ |⟨go,N,hN,step⟩
 ·refine Ik hp (thn (T.done X rfl rfl rfl hc i pins s3 RK H3 X.xe I3 (stat fr3) st3 stop) λr s4 ⟨hr,I4⟩=>?_)
  subst hr;exact L0 ⟨RK,H3,I4,qn⟩
 ·refine Ik hp (thn (T.item X rfl rfl rfl hc i pins s3 RK H3 X.xe I3 (stat fr3) st3 go) λr s4 ⟨u,hr,h4⟩=>?_)
  subst hr;refine Ik hp (thn h4 λ_ s5 ⟨x,H5,I5,r5,y5,Sk,fr5⟩=>?_)
  have I5':=I5.pinned (stat fr5) (T.obj _ _ Sk);refine Ik hp (thn (hg _ s5 RK H5 x u _ I5' r5 (step x H5 y5)) λ_ s6 ⟨σ6,H6,I6,q6⟩=>?_)
  refine Ik hp (thn (hb _ s6 σ6 H6 _ I6 q6) λf s7 q7=>?_)
  have again:∀{RL:St}{H7:Hp},Inv X (pins++j9 fp s5.heap) RL H7 s7->N RL H7->∃m,m<n/\∃i P5 H',Inv X pins P5 H' s7/\tn i s7.heap/\(∀b∈fp,H' b=none)/\W i m P5 H':=λ{RL H7} I7 n7=>by
   obtain⟨m',hm,w7⟩:=hN RL H7 n7;refine⟨m',hm,i+1,RL,H7,I7.unpinned,T.keep _ _ _ Sk λb hb o e=>(I7.pin (b,o) (Fg _ (Fg _ (c8 hb e)))).1,λb hb=>?_,w7⟩
   obtain⟨o,e,d⟩:=T.obj _ _ Sk b hb;exact (I7.pin (b,o) (Fg _ (Fg _ (c8 hb e)))).2.1
  cases f with
  |next=>obtain⟨RL,H7,I7,n7⟩:=q7;exact again I7 n7
  |cont=>obtain⟨RL,H7,I7,n7⟩:=q7;exact again I7 n7
  |brk=>obtain⟨RL,H7,I7,q7⟩:=q7;exact⟨RL,H7,I7.unpinned,q7⟩
  |ret v=>obtain⟨x7,RL,H7,I7,r7,q7⟩:=q7;exact⟨x7,RL,H7,I7.unpinned,r7,q7⟩
end
abbrev R2:=V->V->Hp->VK->Prop
def OpR(X:Cx)(f:EU->EU->Sem EU)(r:R2):Prop:=
 ∀(pins:List (E1×Obj)) (s:ER) (σ:St) (H:Hp) (x y:V) (v u:EU) (Q:VK),Inv X pins σ H s->aZ x v->aZ y u->r x y H Q->
  Fd (FF X.prog X.w) X.A (f v u) (EP X pins σ Q) X.xe s
def UnR(X:Cx)(f:EU->Sem EU)(r:V->Hp->VK->Prop):Prop:=
 ∀(pins:List (E1×Obj)) (s:ER) (σ:St) (H:Hp) (x:V) (v:EU) (Q:VK),Inv X pins σ H s->aZ x v->r x H Q->
  Fd (FF X.prog X.w) X.A (f v) (EP X pins σ Q) X.xe s
def cW(X:Cx)(f:EU)(r:List V->Hp->VK->Prop):Prop:=
 ∀(pins:List (E1×Obj)) (s:ER) (σ:St) (H:Hp) (xs:List V) (us:List EU) (Q:VK),Inv X pins σ H s->aQ xs us->r xs H Q->
  Fd (FF X.prog X.w) X.A (call f us) (EP X pins σ Q) X.xe s
def tOp(r:R2)(ta tb:TE):TE:=λσ H Q=>ta σ H λx H1=>tb σ H1 λy H2=>r x y H2 Q
def tUn(r:V->Hp->VK->Prop)(ta:TE):TE:=λσ H Q=>ta σ H λx H1=>r x H1 Q
def rI(C:Int->Int->Prop)(g:Int->Int->V):R2:=λx y H Q=>∃i j,x=.int i/\y=.int j/\C i j/\Q (g i j) H
def rI0(g:Int->Int->V):R2:=λx y H Q=>∃i j,x=.int i/\y=.int j/\Q (g i j) H
def rU(g:Int->V):V->Hp->VK->Prop:=λx H Q=>∃i,x=.int i/\Q (g i) H
section
variable {X:Cx}{a b c:Expr}{tc:TE}
theorem CP(ha:PE X a ta)(hb:PE X b tb){pins:List (E1×Obj)}{s:ER}{σ:St}{H:Hp}{R:V->V->Hp->Prop}(I:Inv X pins σ H s)
  (h:ta σ H λx H1=>tb σ H1 λy H2=>R x y H2) {Q:EU->ER->Prop}{f:EU->EU->Sem EU}
  (hf:∀v u s2 x y H2,Inv X pins σ H2 s2->aZ x v->aZ y u->R x y H2->Fd (FF X.prog X.w) X.A (f v u) Q X.xe s2):
  Fd (FF X.prog X.w) X.A (HE a X.env) (λv PR=>Fd (FF X.prog X.w) X.A (HE b X.env) (λu Sm=>Fd (FF X.prog X.w) X.A (f v u) Q X.xe Sm) X.xe PR) X.xe s:=by
 refine thn (ha pins s σ H _ I h) λv s1 ⟨x,H1,I1,r1,q1⟩=>?_
 refine thn (hb pins s1 σ H1 _ I1 q1) λu s2 ⟨y,H2,I2,r2,q2⟩=>?_
 exact hf v u s2 x y H2 I2 r1 r2 q2
theorem x6{op:OQ}{r:R2}(ho:OpR X (JS op) r)(ha:PE X a ta)(hb:PE X b tb):PE X (.BinOp a op b pos) (tOp r ta tb):=by
 intro pins s σ H Q I h;exact wpAny_BinOp (CP ha hb I h λv u s2 x y H2 I2 rx ry q=>ho pins s2 σ H2 x y v u Q I2 rx ry q)
theorem Du{op:UnaryOp}{r:V->Hp->VK->Prop}(ho:UnR X (unaryOp op) r)(ha:PE X a ta):PE X (.UnaryOp op a pos) (tUn r ta):=by
 intro pins s σ H Q I h;exact UnaryOp_ (thn (ha pins s σ H _ I h) λv s1 ⟨x,H1,I1,r1,q1⟩=>ho pins s1 σ H1 x v Q I1 r1 q1)
theorem opI{f:EU->EU->Sem EU}{C:Int->Int->Prop}{g:Int->Int->Int}
  (rule:∀(i j:Int) (t u:Tok) (s:ER) (Q:EU->ER->Prop) (E:EU->ER->Prop),C i j->Q (.int (g i j) s.toks) {s with toks:=s.toks+1 }->Fd (FF X.prog X.w) X.A (f (.int i t) (.int j u)) Q E s):
  OpR X f (rI C λi j=>.int (g i j)):=by
 intro pins s σ H x y v u Q I rx ry h;obtain⟨i,j,rfl,rfl,hc,q⟩:=h;obtain⟨t,rfl⟩:=rx;obtain⟨t',rfl⟩:=ry;exact rule i j t t' s _ _ hc ⟨.int (g i j),H,I.tok _,⟨_,rfl⟩,q⟩
theorem Dy{f:EU->EU->Sem EU}{g:Int->Int->Int}
  (rule:∀(i j:Int) (t u:Tok) (s:ER) (Q:EU->ER->Prop) (E:EU->ER->Prop),Q (.int (g i j) s.toks) {s with toks:=s.toks+1 }->Fd (FF X.prog X.w) X.A (f (.int i t) (.int j u)) Q E s):
  OpR X f (rI0 λi j=>.int (g i j)):=by
 intro pins s σ H x y v u Q I rx ry h;obtain⟨i,j,rfl,rfl,q⟩:=h;obtain⟨t,rfl⟩:=rx;obtain⟨t',rfl⟩:=ry;exact rule i j t t' s _ _ ⟨.int (g i j),H,I.tok _,⟨_,rfl⟩,q⟩
theorem Bo{f:EU->EU->Sem EU}{g:Int->Int->Bool}
  (rule:∀(i j:Int) (t u:Tok) (s:ER) (Q:EU->ER->Prop) (E:EU->ER->Prop),Q (.bool (g i j)) s->Fd (FF X.prog X.w) X.A (f (.int i t) (.int j u)) Q E s):
  OpR X f (rI0 λi j=>.bl (g i j)):=by
 intro pins s σ H x y v u Q I rx ry h;obtain⟨i,j,rfl,rfl,q⟩:=h;obtain⟨t,rfl⟩:=rx;obtain⟨t',rfl⟩:=ry;exact rule i j t t' s _ _ ⟨.bl (g i j),H,I,rfl,q⟩
def Da(i j:Int):Prop:=0<=j/\j<=1000000/\i.natAbs<2 ^ 64
theorem BW:OpR X (JS .Add) (rI0 λi j=>.int (i+j)):=Dy λ_ _ _ _ _ _ _ q=>add_int q
theorem B8:OpR X (JS .Sub) (rI0 λi j=>.int (i-j)):=Dy λ_ _ _ _ _ _ _ q=>sub_int q
theorem CV:OpR X (JS .Mod) (rI (λ_ j=>0<j) λi j=>.int (i%j)):=opI λi j _ _ _ _ _ hc q=>by
 have h1:(0:Int)<j:=hc;exact mod_int' (by lia) (by rw[Int.fmod_eq_emod_of_nonneg i (by lia)];exact q)
theorem CW:OpR X (JS .Pow) (rI Da λi j=>.int (i ^ j.toNat)):=opI λ_ _ _ _ _ _ _ hc q=>pow_int_small hc.1 hc.2.1 hc.2.2 q
theorem unI{f:EU->Sem EU}{g:Int->Int}
  (rule:∀(i:Int) (t:Tok) (s:ER) (Q:EU->ER->Prop) (E:EU->ER->Prop),Q (.int (g i) s.toks) {s with toks:=s.toks+1 }->Fd (FF X.prog X.w) X.A (f (.int i t)) Q E s):
  UnR X f (rU λi=>.int (g i)):=by
 intro pins s σ H x v Q I rx h;obtain⟨i,rfl,q⟩:=h;obtain⟨t,rfl⟩:=rx;exact rule i t s _ _ ⟨.int (g i),H,I.tok _,⟨_,rfl⟩,q⟩
theorem BI:UnR X (unaryOp .USub) (rU λi=>.int (-i)):=unI λ_ _ _ _ _ q=>neg_int q
end
def DF:V->V->Bool
 | .non,.non=>true | .non,.int _=>true | .int _,.non=>true | .non,.bl _=>true | .bl _,.non=>true | .non,.str _=>true | .str _,.non=>true
 | .int _,.int _=>true | .bl _,.bl _=>true | .str _,.str _=>true | .byt _,.byt _=>true
 | .int _,.str _=>true | .str _,.int _=>true | .bl _,.str _=>true | .str _,.bl _=>true
 |_,_=>false
def rEq:R2:=λx y H Q=>DF x y=true/\Q (.bl (decide (x=y))) H
def rNe:R2:=λx y H Q=>DF x y=true/\Q (.bl (!decide (x=y))) H
theorem jj{i j:Int}:decide (V.int i=V.int j)=(i==j):=by
 rw[HK];simp
theorem vX{i j:Bool}:decide (V.bl i=V.bl j)=(i==j):=by
 rw[HK];simp
theorem uh{i j:Str}:decide (V.str i=V.str j)=(i==j):=by
 rw[HK];simp
theorem tz{i j:Array UInt8}:decide (V.byt i=V.byt j)=(i.toList==j.toList):=by
 rw[HK];cases i;cases j;simp
section
variable {X:Cx}{a b c:Expr}{tc:TE}
theorem a_{pins:List (E1×Obj)}{σ:St}{H:Hp}{s:ER}{Q:VK}{k k':Bool}(I:Inv X pins σ H s)(q:Q (.bl k) H)(e:k=k'):EP X pins σ Q (.bool k') s:=by
 subst e;exact⟨.bl k,H,I,rfl,q⟩
theorem Db:OpR X (Gn .Eq) rEq:=by
 intro pins s σ H x y v u Q I rx ry h;obtain⟨hs,q⟩:=h;cases x with
 |non=>
  cases rx;cases y with
  |non=>cases ry;exact N5 (a_ I q (by simp))
  |bl j=>cases ry;exact N6 (a_ I q (by simp))
  |int j=>obtain⟨t',rfl⟩:=ry;exact Ow (a_ I q (by simp))
  |str j=>obtain⟨t',rfl⟩:=ry;exact Ox (a_ I q (by simp))
  |_=>exact absurd (show false=true from hs) Fn
 |bl i=>
  cases rx;cases y with
  |non=>cases ry;exact N7 (a_ I q (by simp))
  |bl j=>cases ry;exact eq_bool (a_ I q vX)
  |str j=>obtain⟨t',rfl⟩:=ry;exact N8 (a_ I q (by simp))
  |_=>exact absurd (show false=true from hs) Fn
 |int i=>
  obtain⟨t,rfl⟩:=rx;cases y with
  |non=>cases ry;exact Oy (a_ I q (by simp))
  |int j=>obtain⟨t',rfl⟩:=ry;exact eq_int (a_ I q jj)
  |str j=>obtain⟨t',rfl⟩:=ry;exact Oz (a_ I q (by simp))
  |_=>exact absurd (show false=true from hs) Fn
 |str i=>
  obtain⟨t,rfl⟩:=rx;cases y with
  |non=>cases ry;exact OA (a_ I q (by simp))
  |bl j=>cases ry;exact N9 (a_ I q (by simp))
  |int j=>obtain⟨t',rfl⟩:=ry;exact OB (a_ I q (by simp))
  |str j=>obtain⟨t',rfl⟩:=ry;exact eq_str (a_ I q uh)
  |_=>exact absurd (show false=true from hs) Fn
 |byt i=>
  obtain⟨t,rfl⟩:=rx;cases y with
  |byt j=>obtain⟨t',rfl⟩:=ry;exact PySem.W.eq_bytes (a_ I q tz)
  |_=>exact absurd (show false=true from hs) Fn
 |_=>cases y <;>exact absurd (show false=true from hs) Fn
theorem Di:OpR X (Gn .NotEq) rNe:=by
 intro pins s σ H x y v u Q I rx ry h;obtain⟨hs,q⟩:=h;cases x with
 |non=>
  cases rx;cases y with
  |non=>cases ry;exact N_ (a_ I q (by simp))
  |bl j=>cases ry;exact Oa (a_ I q (by simp))
  |int j=>obtain⟨t',rfl⟩:=ry;exact OC (a_ I q (by simp))
  |str j=>obtain⟨t',rfl⟩:=ry;exact OD (a_ I q (by simp))
  |_=>exact absurd (show false=true from hs) Fn
 |bl i=>
  cases rx;cases y with
  |non=>cases ry;exact Ob (a_ I q (by simp))
  |bl j=>cases ry;exact ne_bool (a_ I q (congrArg not vX))
  |str j=>obtain⟨t',rfl⟩:=ry;exact Oc (a_ I q (by simp))
  |_=>exact absurd (show false=true from hs) Fn
 |int i=>
  obtain⟨t,rfl⟩:=rx;cases y with
  |non=>cases ry;exact OE (a_ I q (by simp))
  |int j=>obtain⟨t',rfl⟩:=ry;exact ne_int (a_ I q (congrArg not jj))
  |str j=>obtain⟨t',rfl⟩:=ry;exact OF (a_ I q (by simp))
  |_=>exact absurd (show false=true from hs) Fn
 |str i=>
  obtain⟨t,rfl⟩:=rx;cases y with
  |non=>cases ry;exact OG (a_ I q (by simp))
  |bl j=>cases ry;exact Od (a_ I q (by simp))
  |int j=>obtain⟨t',rfl⟩:=ry;exact OH (a_ I q (by simp))
  |str j=>obtain⟨t',rfl⟩:=ry;exact ne_str (a_ I q (congrArg not uh))
  |_=>exact absurd (show false=true from hs) Fn
 |byt i=>
  obtain⟨t,rfl⟩:=rx;cases y with
  |byt j=>obtain⟨t',rfl⟩:=ry;exact PySem.W.ne_bytes (a_ I q (congrArg not tz))
  |_=>exact absurd (show false=true from hs) Fn
 |_=>cases y <;>exact absurd (show false=true from hs) Fn
theorem C8:OpR X (Gn .Lt) (rI0 λi j=>.bl (decide (i<j))):=Bo λ_ _ _ _ _ _ _ q=>lt_int q
theorem DG:OpR X (Gn .LtE) (rI0 λi j=>.bl (decide (i<=j))):=Bo λ_ _ _ _ _ _ _ q=>le_int q
theorem DX:OpR X (Gn .Gt) (rI0 λi j=>.bl (decide (j<i))):=Bo λ_ _ _ _ _ _ _ q=>gt_int q
theorem xn(b:Expr){op:O6}(h:op≠.In:=by decide)(h2:op≠.NotIn:=by decide):Jx op b=false:=by
 have e1:(op==CmpOp.In)=false:=by cases op <;>first |rfl |exact absurd rfl h
 have e2:(op==CmpOp.NotIn)=false:=by cases op <;>first |rfl |exact absurd rfl h2
 cases b <;>simp[Jx,e1,e2]
theorem Ap{op:O6}{r:R2}(ho:OpR X (Gn op) r)(ha:PE X a ta)(hb:PE X b tb)(hm:Jx op b=false):PE X (.Compare a [op] [b] pos) (tOp r ta tb):=by
 intro pins s σ H Q I h;exact wpAny_Compare1 (CP ha hb I h λv u s2 x y H2 I2 rx ry q=>ho pins s2 σ H2 x y v u Q I2 rx ry q) hm
def Do(t:TE):TT:=λσ H Q=>t σ H λx H'=>∃k,x=.bl k/\Q k H'
theorem y8{op:O6}{r:R2}(ho:OpR X (Gn op) r)(ha:PE X a ta)(hb:PE X b tb)(hm:Jx op b=false):PT X (.Compare a [op] [b] pos) (Do (tOp r ta tb)):=by
 intro pins s σ H Q I h
 refine wpAny_isTrue_Compare1 (thn (ha pins s σ H _ I h) λv s1 ⟨x,H1,I1,r1,q1⟩=>thn (hb pins s1 σ H1 _ I1 q1) λu s2 ⟨y,H2,I2,r2,q2⟩=>
  thn (ho pins s2 σ H2 x y v u _ I2 r1 r2 q2) λc s3 ⟨z,H3,I3,r3,k,e,q3⟩=>?_) hm
 subst e;cases r3;exact Hi ⟨H3,I3,q3⟩
def Ci(r r':R2)(ta tb tc:TE):TE:=λσ H Q=>ta σ H λx H1=>tb σ H1 λy H2=>r x y H2 λz H3=>∃k,z=.bl k/\
 (if k=true then tc σ H3 λw' H4=>r' y w' H4 Q else Q (.bl false) H3)
theorem wH{op op':O6}{r r':R2}(ho:OpR X (Gn op) r)(QO:OpR X (Gn op') r')(ha:PE X a ta)(hb:PE X b tb)(hc:PE X c tc)
  (hm:lastMarks [op,op'] [b,c]=false:=by with_unfolding_all rfl):PE X (.Compare a [op,op'] [b,c] pos) (Ci r r' ta tb tc):=by
 intro pins s σ H Q I h
 refine Compare_chain (thn (ha pins s σ H _ I h) λv s1 ⟨x,H1,I1,r1,q1⟩=>chain_link (thn (hb pins s1 σ H1 _ I1 q1) λu s2 ⟨y,H2,I2,r2,q2⟩=>
  thn (ho pins s2 σ H2 x y v u _ I2 r1 r2 q2) λd s3 ⟨z,H3,I3,r3,k,e,q3⟩=>?_)) hm
 subst e;cases r3;refine Hi ?_;cases k with
 |false=>exact ite_ff ⟨.bl false,H3,I3,rfl,q3⟩
 |true=>exact ite_tt (chain_last (thn (hc pins s3 σ H3 _ I3 q3) λw' s4 ⟨z',H4,I4,r4,q4⟩=>QO pins s4 σ H4 y z' u w' Q I4 r2 r4 q4))
theorem mQ:(sizeLine:Nat)<2 ^ 63:=by rw[Gp];decide
theorem eY{x:V}{us:List EU}(r:aQ [x] us):∃u,us=[u]/\aZ x u:=by
 cases r with
 |cons r1 r2=>cases r2;exact⟨_,rfl,r1⟩
theorem gG{x y:V}{us:List EU}(r:aQ [x,y] us):∃u w',us=[u,w']/\aZ x u/\aZ y w':=by
 cases r with
 |cons r1 r2=>
  cases r2 with
  |cons r3 r4=>cases r4;exact⟨_,_,rfl,r1,r3⟩
theorem xt:cW X (.builtin "abs") (λxs H Q=>∃i,xs=[.int i]∧Q (.int (if i<0 then -i else i)) H):=by
 intro pins s σ H xs us Q I r h;obtain⟨i,rfl,q⟩:=h;obtain⟨u,rfl,t,rfl⟩:=eY r;exact call_abs_int λu tk=>⟨.int (if i<0 then -i else i),H,I.tok _,⟨_,rfl⟩,q⟩
theorem uY(hc:X.calm=true):cW X (.builtin "max") (λxs H Q=>∃i j,xs=[.int i,.int j]∧Q (.int (if j >i then j else i)) H):=by
 intro pins s σ H xs us Q I r h;obtain⟨i,j,rfl,q⟩:=h;obtain⟨u,w',rfl,⟨t,rfl⟩,⟨t',rfl⟩⟩:=gG r;refine max_two_ints (I.ok.hd hc) λh' tk k=>⟨_,H,I.kept k,?_,q⟩
 by_cases hj:j >i
 ·rw[if_pos hj,if_pos hj];exact⟨_,rfl⟩
 ·rw[if_neg hj,if_neg hj];exact⟨_,rfl⟩
theorem uD(hc:X.calm=true):cW X (.builtin "min") (λxs H Q=>∃i j,xs=[.int i,.int j]∧Q (.int (if j<i then j else i)) H):=by
 intro pins s σ H xs us Q I r h;obtain⟨i,j,rfl,q⟩:=h;obtain⟨u,w',rfl,⟨t,rfl⟩,⟨t',rfl⟩⟩:=gG r;refine min_two_ints (I.ok.hd hc) λh' tk k=>⟨_,H,I.kept k,?_,q⟩
 by_cases hj:j<i
 ·rw[if_pos hj,if_pos hj];exact⟨_,rfl⟩
 ·rw[if_neg hj,if_neg hj];exact⟨_,rfl⟩
end
structure Cb(h:Gz)(x dx C:E1)(mA:Str->Option EU):Prop where
 obj:h.get? x=some (LZ C dx)
 ns:h.Ns1 dx mA
 ne:dx≠x
theorem u_{h:Gz}{dx:E1}{mA:Str->Option EU}(n:h.Ns1 dx mA):∃od,h.get? dx=some od/\∀name,MJ name od=some (mA name):=by
 obtain⟨o,es,ep,ho,hd,hk,_,hm⟩:=n;refine⟨o,ho,λname=>?_⟩
 have e:=hm name;unfold nsFind findBy at e;rw[<-Array.find?_toList]at e;unfold MJ;rw[hd];dsimp only;split
 ·rename_i y q
  rw[q]at e;exact congrArg some e
 ·rename_i q
  rw[q]at e
  have a:es.toList.any (·.refKey)=false:=by
   rw[List.any_eq_false];intro y hy;obtain⟨z,t,hkey⟩:=hk y (Kg.mp hy);simp[DictEntry.refKey,hkey]
  have a':¬ es.toList.any (·.refKey)=true:=by rw[a];exact Fn
  rw[if_neg a'];exact congrArg some e
theorem Cb.look{h:Gz}{x dx C:E1}{mA:Str->Option EU}(I:Cb h x dx C mA):∃od,PySem.W.InstAt h x (LZ C dx) C (some od)/\∀name,MJ name od=some (mA name):=
 let ⟨od,ho,hl⟩:=u_ I.ns
 ⟨od,⟨I.obj,rfl,rfl,ho⟩,hl⟩
variable {dx:E1}{C:E1}
section
variable {prog:E2}{w:Fs}{A:Fq}{K:EL}{x f:E1}{mA:Str→Option EU}{name:Str}{v:EU}
end
section
variable {P:E2}{w:Fs}{h:Gz}{a:E1}{fs fs':List (Str×V)}
theorem yT(hok:HOk P w H h)(e:H a=some (.ins C dx fs)):∃mA,Cb h a dx C mA/\(∀f,BB (fs.lookup f) (mA f))/\O4 mA (fs.map (·.1))/\fs.length<=1000/\H dx=some (.own a):=by
 obtain⟨d,z,ne,ob,mA,n,r,q⟩:=(show b_ P w H h a (.ins C dx fs) from hok a _ e)
 exact⟨mA,⟨ob,n,ne⟩,r,q,z,d⟩
end
structure Cls(K:EL)(C:E1):Prop where
 pg:Nz K C Str.empty=true
 hd:PySem.W.hasDictIn K C=true
 po:PySem.W.plainOver K C=true
 sa:JT K (.ref C) "__setattr__"=some (some (.builtin "object.__setattr__"))
theorem Cls.get{K:EL}{C:E1}(c:Cls K C)(f:Str):Nz K C f=true:=c.pg
structure Con(K:EL)(C:E1)(f:Str)(v:V)(u:EU):Prop where
 at_:JT K (.ref C) f=some (some u)
 rel:aZ v u
 get:Na K u "__get__"=some none
 cp:PySem.W.copiedNames.contains f=false
structure Ef(K:EL)(C:E1)(m:Str)(f:E1):Prop where
 at_:JT K (.ref C) m=some (some (.ref f))
 fn:O7 K (.ref f)=true
 kp:Ho K (.ref f)=true
section
variable {X:Cx}{a:E1}{fs:List (Str×V)}{f:Str}{v:V}{A:Fq}
variable {o e QE:Expr}{P9 RA:Pos}{tv:TE}
end
section
variable {X:Cx}{A:Fq}{Q:EU→ER→Prop}{c:EU}{b:Bool}
inductive jd (K:EL) (H:Hp):V->EU->Prop where
 |non:jd K H .non (.type "NoneType")
 |bl (x:Bool):jd K H (.bl x) (.type "bool")
 |int (i:Int):jd K H (.int i) (.type "int")
 |str (x:Str):jd K H (.str x) (.type "str")
 |flt (x:UInt64):jd K H (.flt x) (.type "float")
 |lst {a:E1}{xs:List V} (e:H a=some (.lst xs)):jd K H (.ref a) (.type "list")
 |frz {a:E1}{o:Obj}{xs:List V} (e:H a=some (.frz o (.lst xs))):jd K H (.ref a) (.type "list")
 |tup {a:E1}{xs:List V} (e:H a=some (.tup xs)):jd K H (.ref a) (.type "tuple")
 |dK {a:E1}{Qg:List (Key×V)} (e:H a=some (.dK Qg)):jd K H (.ref a) (.type "dict")
 |dT {a:E1}{Qg:List (List Key×V)} (e:H a=some (.dT Qg)):jd K H (.ref a) (.type "dict")
 |ins {a C dx:E1}{fs:List (Str×V)} (e:H a=some (.ins C dx fs)) (cl:Cls K C) (ha:JT K (.ref C) "__class__"=some (some (.builtin "object.__class__")))
   (hn:Na K (.builtin "object.__class__") "__get__"=some (some (.builtin "getset_descriptor.__get__"))) (Q1:PySem.W.takesIn K (.builtin "object.__class__")=some true)
   (hm:PySem.W.mroIn K C (.type "object")=some true):jd K H (.ref a) (.ref C)
theorem dJ{x:V}{u t:EU}(I:Inv X pins σ H s)(rx:aZ x u)(ty:jd X.K H x t)(e:Jh X.K t c=some b)(h:∀tk,Q (.bool b) {s with toks:=tk }):
  Fd (FF X.prog X.w) A (call (.builtin "isinstance") [u,c]) Q E s:=by
 cases ty with
 |non=>cases (show u=Fl from rx);exact Gu PySem.W.kitx_none I.kIn True.intro e (λz=>nomatch z) h
 |bl y=>cases (show u=F2 y from rx);exact Gu PySem.W.kitx_bool I.kIn True.intro e (λz=>nomatch z) h
 |int i=>obtain⟨t,q⟩:=(show ∃t,u=FZ i t from rx);cases q;exact Gu PySem.W.kitx_int I.kIn True.intro e (λz=>nomatch z) h
 |str y=>obtain⟨t,q⟩:=(show ∃t,u=Gd y t from rx);cases q;exact Gu PySem.W.kitx_str I.kIn True.intro e (λz=>nomatch z) h
 |flt y=>obtain⟨t,q⟩:=(show ∃t,u=Ph y t from rx);cases q;exact Gu PySem.W.kitx_float I.kIn True.intro e (λz=>nomatch z) h
 | @lst a xs ea=>
  cases (show u=Ft a from rx)
  obtain⟨_,_,n,_,h1⟩:=(show b_ X.prog X.w H s.heap a (.lst xs) from I.hok a _ ea)
  exact Gu K7 I.kIn ⟨_,h1,rfl⟩ e (λz=>nomatch z) h
 | @frz a ob xs ea=>
  cases (show u=Ft a from rx)
  obtain⟨_,_,_,n,_,h1⟩:=(show b_ X.prog X.w H s.heap a (.frz ob (.lst xs)) from I.hok a _ ea)
  exact Gu K7 I.kIn ⟨_,h1,rfl⟩ e (λz=>nomatch z) h
 | @tup a xs ea=>
  cases (show u=Ft a from rx)
  obtain⟨_,_,_,p⟩:=(show b_ X.prog X.w H s.heap a (.tup xs) from I.hok a _ ea)
  obtain⟨o,h1,h2,_⟩:=p;exact Gu MS I.kIn ⟨o,h1,h2⟩ e (λz=>nomatch z) h
 | @dK a Qg ea=>
  cases (show u=Ft a from rx)
  obtain⟨_,_,vs,_,p⟩:=(show b_ X.prog X.w H s.heap a (.dK Qg) from I.hok a _ ea)
  obtain⟨o,es,ep,h1,h2,_⟩:=p;exact Gu Nb I.kIn ⟨o,h1,h2.1⟩ e (λz=>nomatch z) h
 | @dT a Qg ea=>
  cases (show u=Ft a from rx)
  obtain⟨_,_,xs,_,o,es,ep,h1,h2,_⟩:=(show b_ X.prog X.w H s.heap a (.dT Qg) from I.hok a _ ea)
  exact Gu Nb I.kIn ⟨o,h1,h2.1⟩ e (λz=>nomatch z) h
 | @ins a C dx fs ea cl ha hn Q1 hm=>
  cases (show u=Ft a from rx)
  obtain⟨mA,O,_⟩:=yT I.hok ea;obtain⟨od,J,_⟩:=O.look;exact Gu (PySem.W.kitx_own (cl.get _) cl.hd ha hn Q1 hm) I.kIn J e (λz=>nomatch z) h
end
structure d6(k:Nat)(A:Fq):Prop where
 hd:A.handled=none
 dp:A.depth+3*k+5<Oe
 un:A.units+16*k+200<II
theorem d6.mono{j k:Nat}{A:Fq}(r:d6 k A)(h:j<=k):d6 j A:=⟨r.hd,by have:=r.dp;lia,by have:=r.un;lia⟩
theorem d6.deeper{k:Nat}{A:Fq}(r:d6 (k+1) A)(env:Env):d6 k (A.deeper env):=
 ⟨r.hd,by have:=r.dp;show A.depth+1+3*k+5<_;lia,by have:=r.un;show A.units+3+16*k+200<_;lia⟩
theorem d6.depth{k:Nat}{A:Fq}(r:d6 k A):A.depth<Oe:=by have:=r.dp;lia
def Eb:TA:=λ_ H Q=>Q [] H
def CZ(ta:TE)(tr:TA):TA:=λσ H Q=>ta σ H λx H1=>tr σ H1 λxs H2=>Q (x::xs) H2
variable {es:List Expr}
section
variable {X:Cx}{e:Expr}{t:TA}
theorem eP:PA X [] Eb:=λ_ _ _ _ H Q I h=>JL ⟨[],H,I,.nil,h⟩
theorem ci(ha:PE X e te)(hr:PA X es t)(hs:E4 (e::es) X.env=(false,HE e X.env)::E4 es X.env:=by rfl):PA X (e::es) (CZ te t):=by
 intro pos pins s σ H Q I h;rw[hs];show Fd _ _ (OP ((false,HE e X.env)::Iu pos (E4 es X.env))) _ _ s;refine Jy (thn (ha pins s σ H _ I h) λu s1 ⟨x,H1,I1,r1,q1⟩=>?_)
 exact thn (hr pos pins s1 σ H1 _ I1 q1) λus s2 ⟨xs,H2,I2,r2,q2⟩=>⟨x::xs,H2,I2,.cons r1 r2,q2⟩
def Ec(t:TA):TE:=λσ H Q=>t σ H λxs H1=>xs.length<=sizeLine/\∀p,H1 p=none->Q (.ref p) (upd H1 p (.tup xs))
def Ea(t:TA):TE:=λσ H Q=>t σ H λxs H1=>xs.length<=sizeLine/\∀p,H1 p=none->Q (.ref p) (upd H1 p (.lst xs))
theorem Bs{x1}(h:PA X es t):PE X (.Tuple es x1 pos) (Ec t):=by
 intro pins s σ H Q I hq;refine wpAny_Tuple_spliced (thn (h pos pins s σ H _ I hq) λus s1 ⟨xs,H1,I1,r,z,q⟩=>⟨by rw[<-r.length];exact z,?_⟩)
 have hf:H1 s1.heap.objs.size=none:=I1.hok.fresh (EX _);refine⟨.ref s1.heap.objs.size,upd H1 s1.heap.objs.size (.tup xs),I1.laid (t':=s1.toks) (λb u e=>EN _ e) (EX _) ?_,rfl,q _ hf⟩
 exact⟨z,us,r,⟨_,E3 _ rfl,rfl,_,rfl⟩⟩
theorem BJ(h:PA X es t):PE X (.List es pos) (Ea t):=by
 intro pins s σ H Q I hq;refine wpAny_List_spliced (thn (h pos pins s σ H _ I hq) λus s1 ⟨xs,H1,I1,r,z,q⟩=>⟨by rw[<-r.length];exact z,?_⟩)
 have hf:H1 s1.heap.objs.size=none:=I1.hok.fresh (EX _);refine⟨.ref s1.heap.objs.size,upd H1 s1.heap.objs.size (.lst xs),I1.laid (t':=s1.toks) (λb u e=>EN _ e) (EX _) ?_,rfl,q _ hf⟩
 exact⟨z,us,0,r,E3 _ rfl⟩
end
abbrev Sp:=List V->Hp->VK->XK->Prop
abbrev CXT:=List Env->Hp->ER->XK->EU->ER->Prop
structure yl(P:E2)(w:Fs)(K:EL)(mg:Str->Option EU)(base:Gz)(A:Fq)(outer:List Env)(s:ER)(H:Hp):Prop where
 frames:A.frames=some outer
 mod:Mod K mg base
 bs:∀b o,base.get? b=some o->s.heap.get? b=some o/\H b=none
 bsz:base.objs.size<=s.heap.objs.size
 funs:s.heap.FunFrames base outer
 frf:∀b∈frs outer,H b=none
 hok:HOk P w H s.heap
 bare:Ll s.gens
def CE(outer:List Env)(P:E2)(w:Fs)(H:Hp)(s:ER)(Q:VK)(u:EU)(s':ER):Prop:=
 ∃v H',s'.os=s.os/\Ll s'.gens/\Un (frs outer) [] H H' s.heap s'.heap/\HOk P w H' s'.heap/\aZ v u/\Q v H'
def CR(CX:CXT)(outer:List Env)(P:E2)(w:Fs)(H:Hp)(s:ER)(Q:VK)(E:XK)(r:Nr)(s':ER):Prop:=
 match r with
 | .ok (.ret u)=>CE outer P w H s Q u s'
 | .ok _=>False
 | .error e=>CX outer H s E e s'
structure a9(P:E2)(w:Fs)(K:EL)(mg:Str->Option EU)(base:Gz)(CX:CXT)(k:Nat)(f:E1)(fd:Ga)(ps:List Str)(sp:Sp):Prop where
 len:∀vs H Q E,sp vs H Q E->vs.length=ps.length
 run:∀(A:Fq) (outer:List Env) (s:ER) (H:Hp) (args:Args) (us:List EU) (vs:List V) (Q:VK) (E:XK),d6 k A->yl P w K mg base A outer s H->Nc s fd args (ps.zip us)->aQ vs us->sp vs H Q E->
  IJ (FF P w) A (.call (.ref f) args) (CR CX outer P w H s Q E) s
theorem a9.mono{P:E2}{w:Fs}{K:EL}{mg:Str->Option EU}{base:Gz}{CX:CXT}{j k:Nat}{f:E1}{fd:Ga}{ps:List Str}{sp:Sp}(F:a9 P w K mg base CX j f fd ps sp)(h:j<=k):
  a9 P w K mg base CX k f fd ps sp:=⟨F.len,λA outer s H args us vs Q E hr=>F.run A outer s H args us vs Q E (hr.mono h)⟩
section
variable {X:Cx}{s':ER}
theorem Inv.env0(I:Inv X pins σ H s):yl X.prog X.w X.K X.mg X.base X.A X.stack s H:=
 ⟨I.ok.frames,I.ok.mod,I.bs,GJ I.ok.bsz I.sz,I.stack,I.stkFree,I.hok,I.bare⟩
theorem Inv.after{Q:VK}{u:EU}(I:Inv X pins σ H s)(h:CE X.stack X.prog X.w H s Q u s'):EP X pins σ Q u s':=by
 obtain⟨v,H',os,bare,un,hok,r,q⟩:=h;obtain⟨hh,g,d,t,os'⟩:=s';obtain rfl:os'=s.os:=os;exact⟨v,H',I.call (h':=hh) (g':=g) (d':=d) (t':=t) (ch:=[]) un hok bare (λb z=>absurd z (by simp)),r,q⟩
end
def DM(sp:Sp)(Sq:List V)(E:XK)(t:TA):TE:=λσ H Q=>t σ H λvs H1=>sp (vs++Sq) H1 Q E
def dt(K:EL)(fd:Ga)(ps:List Str)(ds:List EU):Prop:=
 ∀(s:ER) (us:List EU),K.In s.heap->(us++ds).length=ps.length->Nc s fd ⟨us,[]⟩ (ps.zip (us++ds))
theorem dt.all{K:EL}{fd:Ga}{ps:List Str}(h:∀us:List EU,us.length=ps.length->JU fd ⟨us,[]⟩=pure (ps.zip us)):dt K fd ps []:=λs us _ hl=>by
 rw[HL]at hl |-;exact .of_eq (h us hl)
def iL(CX:CXT)(X:Cx)(E:XK):Prop:=∀(pins:List (E1×Obj)) (σ:St) (H:Hp) (s:ER) (e:EU) (s':ER),Inv X pins σ H s->CX X.stack H s E e s'->X.xe e s'
section
variable {X:Cx}{CX:CXT}{k:Nat}{f:E1}{fd:Ga}{ps:List Str}{sp:Sp}{Sq:List V}{ds:List EU}{E:XK}{x m:Str}{p Qj:Pos}{e o:Expr}{t:TA}
theorem B2{pins:List (E1×Obj)}{σ:St}{H:Hp}{s:ER}{Q:VK}{us:List EU}{vs:List V}(F:a9 X.prog X.w X.K X.mg X.base CX k f fd ps sp)(hr:d6 k X.A)(hb:dt X.K fd ps ds)(hd:aQ Sq ds)(hx:iL CX X E)
  (I:Inv X pins σ H s) (r:aQ vs us) (h:sp (vs++Sq) H Q E):Fd (FF X.prog X.w) X.A (call (.ref f) us) (EP X pins σ Q) X.xe s:=by
 have r2:aQ (vs++Sq) (us++ds):=r.append hd;have hl:(us++ds).length=ps.length:=by rw[<-r2.length];exact F.len _ _ _ _ h
 refine wpAny_call (J2 (F.run X.A X.stack s H ⟨us,[]⟩ (us++ds) (vs++Sq) Q E hr I.env0 (hb s us I.kIn hl) r2 h) λr s' hq=>?_)
 cases r with
 |error e=>exact hx pins σ H s e s' I hq
 |ok fl=>
  cases fl with
  |ret u=>exact I.after hq
  |next=>exact False.elim hq
  |brk=>exact False.elim hq
  |cont=>exact False.elim hq
theorem mw(F:a9 X.prog X.w X.K X.mg X.base CX k f fd ps sp)(hr:d6 k X.A)(hg:Gl X x)(hm:X.mg x=some (.ref f))(hk:Ho X.K (.ref f)=true)(hb:dt X.K fd ps ds)(hd:aQ Sq ds)(hx:iL CX X E)
  (ha:PA X (e::es) t) (Q6:(x==("__debug__":Str))=false:=by decide) (he:E4 (e::es) X.env=(false,HE e X.env)::E4 es X.env:=by rfl) (QA:(Iu pos (E4 es X.env)).any (·.1)=false:=by rfl):
  PE X (.Call (.Name x p) (e::es) [] pos) (DM sp Sq E t):=by
 intro pins s σ H Q I h;refine Gh (ul I hg hm ?_ Q6);refine PySem.W.callWith_K (h₀:=X.base) I.ok.mod.kin hk (thn (ha pos pins s σ H _ I h) λus s1 ⟨vs,H1,I1,r,q⟩=>⟨I1.kIn,?_⟩) he QA
 exact B2 F hr hb hd hx I1 r q
structure Mk(K:EL)(C f:E1):Prop where
 makes:PySem.W.makesIn K C=true
 init:JT K (.ref C) "__init__"=some (some (.ref f))
 fn:O7 K (.ref f)=true
 kp:Ho K (.ref C)=true
variable {ks:List Str}{kpos:Pos}{kws:List Km}{tk:TA}{nm:Option Str}
structure D9(K:EL)(fd:Ga)(ps ks:List Str)(g:List EU->List EU->List EU)(gV:List V->List V->List V):Prop where
 to:∀(s:ER) (us ws:List EU),K.In s.heap->(g us ws).length=ps.length->Nc s fd ⟨us,ks.zip ws⟩ (ps.zip (g us ws))
 rel:∀{vs:List V}{us:List EU}{zs:List V}{ws:List EU},aQ vs us->aQ zs ws->aQ (gV vs zs) (g us ws)
variable {g:List EU→List EU→List EU}{gV:List V→List V→List V}
end
structure av(N P:List Str)(sc:Ju):Prop where
 kind:sc.kind=.function
 co:sc.isCoroutine=false
 gen:sc.isGenerator=false
 nd:N.Nodup
 pre:N.take P.length=P
 par:∀x∈P,sc.names.lookup x=some .local\/sc.names.lookup x=some .cell
 nofree:∀y∈sc.names,y.2≠.free
theorem lr{kindOf:Str->Option Kh}{x:Str}:∀{binds:List (Str×EU)}{m:Str->Option EU},(∀v,(x,v) ∉ binds)->Pj kindOf binds m x=m x
 |[],_,_=>rfl
 | (n,v)::r,m,h=>by
  unfold Pj;rw[lr λw hw=>h w (ES _ hw)]
  split
  ·have:x≠n:=by rintro rfl;exact h v EY
   simp[this]
  ·rfl
theorem ls{kindOf:Str->Option Kh}{x:Str}:∀{binds:List (Str×EU)}{m:Str->Option EU},(∀v,(x,v) ∉ binds)->Pk kindOf binds m x=m x
 |[],_,_=>rfl
 | (n,v)::r,m,h=>by
  unfold Pk;rw[ls λw hw=>h w (ES _ hw)]
  split
  ·rfl
  ·have:x≠n:=by rintro rfl;exact h v EY
   simp[this]
theorem lF{kindOf:Str->Option Kh}{x:Str}{v:EU}:∀{P:List Str}{vs:List EU}{i:Nat}{m:Str->Option EU},P.Nodup->P[i]?=some x->vs[i]?=some v->kindOf x=some .local->
  Pj kindOf (P.zip vs) m x=some v
 |[],_,_,_,_,h,_,_=>by simp at h
 |_::_,[],_,_,_,_,h,_=>by simp at h
 |p::P,w::vs,0,m,nd,h1,h2,hk=>by
  simp at h1 h2;subst h1;subst h2;show Pj kindOf ((p,w)::P.zip vs) m p=_;unfold Pj;rw[lr λv hv=>(GN.mp nd).1 (Il hv).1,if_pos hk]
  simp
 |p::P,w::vs,i+1,m,nd,h1,h2,hk=>by
  show Pj kindOf ((p,w)::P.zip vs) m x=_;unfold Pj;exact lF (i:=i) (GN.mp nd).2 (by simpa using h1) (by simpa using h2) hk
theorem lm{kindOf:Str->Option Kh}{x:Str}{v:EU}:∀{P:List Str}{vs:List EU}{i:Nat}{m:Str->Option EU},P.Nodup->P[i]?=some x->vs[i]?=some v->kindOf x≠some .local->
  Pk kindOf (P.zip vs) m x=some v
 |[],_,_,_,_,h,_,_=>by simp at h
 |_::_,[],_,_,_,_,h,_=>by simp at h
 |p::P,w::vs,0,m,nd,h1,h2,hk=>by
  simp at h1 h2;subst h1;subst h2;show Pk kindOf ((p,w)::P.zip vs) m p=_;unfold Pk;rw[ls λv hv=>(GN.mp nd).1 (Il hv).1,if_neg hk]
  simp
 |p::P,w::vs,i+1,m,nd,h1,h2,hk=>by
  show Pk kindOf ((p,w)::P.zip vs) m x=_;unfold Pk;exact lm (i:=i) (GN.mp nd).2 (by simpa using h1) (by simpa using h2) hk
def start(N:List Str)(vs:List V):St:=vs.map some++Of (N.length-vs.length) none
def m9(CX:CXT)(P:E2)(w:Fs)(K:EL)(mg:Str->Option EU)(base:Gz)(N:List Str)(PM:Str)(PF:Ju)(f:E1)(cd:EU)(A:Fq)(outer:List Env)(s:ER)(H:Hp)(E:XK):Cx where
 prog:=P
 w:=w
 K:=K
 mg:=mg
 base:=base
 A:=A.deeper (L4 PM PF s.heap.objs.size f cd)
 N:=N
 s₀:=s
 H₀:=H
 env:=L4 PM PF s.heap.objs.size f cd
 outer:=outer
 stack:=L4 PM PF s.heap.objs.size f cd::outer
 ex:=[]
 calm:=true
 fn:=λ_=>true
 pn:=[]
 xe:=λe s'=>Fd (FF P w) (A.deeper (L4 PM PF s.heap.objs.size f cd)) (leaving (L4 PM PF s.heap.objs.size f cd) e) (λ_ s''=>CX outer H s E e s'') (λe' s''=>CX outer H s E e' s'') s'
theorem pM{sc:Ju}{n:Nat}{x:Str}(h:sc.names.lookup x=some .cell):∃c,(NO n sc.names []).lookup x=some c:=by
 have q:=JG sc.names n [] (.inl h);exact Jo.mp q
theorem uw{CX:CXT}{P:E2}{w:Fs}{K:EL}{mg:Str->Option EU}{base:Gz}{N ps:List Str}{PM:Str}{PF:Ju}{f:E1}{cd:EU}{A:Fq}{outer:List Env}{s s1:ER}{H:Hp}{E:XK}{us:List EU}{vs:List V}
  (S:av N ps PF) (hd:A.handled=none) (e0:yl P w K mg base A outer s H) (hl:vs.length=ps.length) (r:aQ vs us)
  (x:InCallC s s.heap.objs.size (Pj (L4 PM PF s.heap.objs.size f cd).kindOf (ps.zip us) λ_=>none) (NO (s.heap.objs.size+1) PF.names []) (Pk (L4 PM PF s.heap.objs.size f cd).kindOf (ps.zip us) λ_=>none) s1):
  Inv (m9 CX P w K mg base N PM PF f cd A outer s H E) [] (start N vs) H s1:=by
 have QA:ps.length<=N.length:=by have:=congrArg NP S.pre;rw[Ka]at this;lia
 obtain⟨h1,tk,rfl,hk⟩:=x.done;have noA:∀b:E1,b ∉ (m9 CX P w K mg base N PM PF f cd A outer s H E).ex:=λb z=>absurd (show b∈([]:List E1) from z) (by simp)
 refine⟨⟨e0.mod,S.kind,rfl,rfl,EX _,λy z c h1 h2=>?_,λy hy=>?_,λy c _ h=>?_,λ_=>hd,Around.frames_deeper e0.frames,.inr ⟨rfl,rfl⟩,λb z=>absurd z (noA b),e0.bs,e0.bsz,λb _ _=>noA b,λb z=>absurd z (noA b),e0.funs,e0.frf⟩,
  rfl,e0.bare,Un.kept hk,⟨_,x.toInCall.ns,λi y v h1 h2 h3=>?_⟩,λy c h=>⟨_,x.cell y c h⟩,e0.hok.fresh (EX _),λy c h=>?_,λp hp=>absurd (show p∈([]:List (E1×Obj)) from hp) (by simp),e0.hok.kept hk,?_⟩
 ·exact name_of_addr x.apart (GT h1) (GT h2)
 ·have hy:PF.names.lookup y=some .cell\/PF.names.lookup y=some .free:=hy;rcases hy with hy |hy
  ·exact pM hy
  ·exact absurd rfl (S.nofree _ (GT hy))
 ·exact FT (x.above y c (GT h))
 ·have hi:i<vs.length:=by
   unfold start at h2;by_cases hi:i<vs.length
   ·exact hi
   ·rw[Fj (by simpa using hi)]at h2
    rw[Hz]at h2;split at h2 <;>cases h2
  have ha:vs[i]?=some v:=by
   unfold start at h2;rw[Fh (by simpa using hi),EW]at h2
   cases e:vs[i]? with
   |none=>rw[e]at h2;cases h2
   |some a=>rw[e]at h2;cases h2;rfl
  obtain⟨u,hu,rv⟩:=r.get ha
  have hp:ps[i]?=some y:=by
   rw[<-S.pre,GW (by lia)];exact h1
  have ndP:ps.Nodup:=by rw[<-S.pre];exact S.nd.sublist (Nd _ _)
  refine⟨u,rv,?_⟩;rcases S.par y (E9 hp) with k |k
  ·exact .inl ⟨k,lF ndP hp hu k⟩
  ·obtain⟨c,e⟩:=pM (n:=s.heap.objs.size+1) k;refine .inr ⟨.inl k,c,e,?_⟩;have q:=x.cell y c e;rw[lm ndP hp hu (by show PF.names.lookup y≠_;rw[k];decide)]at q
   exact q
 ·exact e0.hok.fresh (FT (x.above y c (GT h)))
 ·unfold start;show _=N.length;rw[FM,EM,HV];lia
theorem Bm{CX:CXT}{P:E2}{w:Fs}{K:EL}{mg:Str->Option EU}{base:Gz}{k:Nat}{f:E1}{name PM:Str}{Rn:Arguments}{Qc:List Hr}{PF:Ju}{dV kV QK pm PV ct oc:EU}{an od:Option E1}
  {Rv:Array (Option EU)}{N ps:List Str}{sp:Sp} (lk:K.lookup f=some ⟨oc,od,.func (HC name PM Rn Qc PF dV kV QK pm an PV ct),Rv⟩) (QD:JV K PV PM=true) (S:av N ps PF)
  (len:∀vs H Q E,sp vs H Q E->vs.length=ps.length)
  (QF:∀(A:Fq) (outer:List Env) (s:ER) (H:Hp) (vs:List V) (Q:VK) (E:XK),d6 k (A.deeper (L4 PM PF s.heap.objs.size f PV))->sp vs H Q E->
   ∃t,PSs (m9 CX P w K mg base N PM PF f PV A outer s H E) Qc t/\t {nx:=λ_ H'=>Q .non H',rt:=Q } (start N vs) H):
  a9 P w K mg base CX (k+1) f (HC name PM Rn Qc PF dV kV QK pm an PV ct) ps sp:=by
 refine⟨len,λA outer s H args us vs Q E hr e0 hb r Q4=>?_⟩
 have hl:=len _ _ _ _ Q4;have KX:K.In s.heap:=e0.mod.kin.keeps λb o e=>(e0.bs b o e).1
 have lim:s.heap.NoLimit:=e0.mod.nolimit.keeps λb o e=>(e0.bs b o e).1
 have hkind:∀y∈ps.zip us,PF.names.lookup y.1=some .local\/(PF.names.lookup y.1=some .cell/\((NO (s.heap.objs.size+1) PF.names []).lookup y.1).isSome=true):=λ⟨n,v⟩ hy=>by
  rcases S.par n (Il hy).1 with q |q
  ·exact .inl q
  ·exact .inr ⟨q,JG _ _ _ (.inl q)⟩
 refine codeAny_call_function hr.depth (KX _ _ lk) rfl S.co S.gen rfl (PySem.W.codeRec_of KX QD) (hb _ _ _ _ ?_);refine wpAny_newFunctionEnv_cells S.kind hkind λenv he s1 x=>?_
 subst he;refine⟨lim.keeps x.toInCall.keep,codeAny_func ?_⟩;obtain⟨t,ht,hq⟩:=QF A outer s H vs Q E (hr.deeper _) Q4;have I:Inv (m9 CX P w K mg base N PM PF f PV A outer s H E) [] (start N vs) H s1:=uw S hr.hd e0 hl r x;refine HS (ht [] s1 (start N vs) H _ I hq) (λfl s' hs=>?_) λe s' hs=>hs
 have P4:∀{P5:St}{H':Hp}{v:V}{u:EU},Inv (m9 CX P w K mg base N PM PF f PV A outer s H E) [] P5 H' s'->aZ v u->Q v H'->CE outer P w H s Q u s':=
  λ{P5 H' v u} J rv q=>⟨v,H',J.os,J.bare,J.base,J.hok,rv,q⟩
 cases fl with
 |ret u=>
  obtain⟨v,P5,H',J,rv,q⟩:=hs;exact P4 J rv q
 |next=>
  obtain⟨P5,H',J,q⟩:=hs;exact P4 (v:=V.non) (u:=Fl) J rfl q
 |brk=>
  obtain⟨_,_,_,q⟩:=hs;exact False.elim q
 |cont=>
  obtain⟨_,_,_,q⟩:=hs;exact False.elim q
section
variable {X:Cx}{x:Str}{p:Pos}{e:Expr}{t:TA}{id T:String}{r:List V→Hp→VK→Prop}
def tCB(r:List V->Hp->VK->Prop)(t:TA):TE:=λσ H Q=>t σ H λvs H1=>r vs H1 Q
theorem n6(hc:cW X (.builtin id) r)(hg:Gl X x)(hm:X.mg x=none)(hv:GU x=some (.builtin id))(ha:PA X (e::es) t)(hn:x≠"__name__":=by decide)(Q6:(x==("__debug__":Str))=false:=by decide)
  (he:E4 (e::es) X.env=(false,HE e X.env)::E4 es X.env:=by rfl) (QA:(Iu pos (E4 es X.env)).any (·.1)=false:=by rfl):PE X (.Call (.Name x p) (e::es) [] pos) (tCB r t):=by
 intro pins s σ H Q I h;refine Gh (ca I hg hm hv ?_ hn Q6);exact PyProof.Rows.callWith_builtin1 (thn (ha pos pins s σ H _ I h) λus s1 ⟨vs,H1,I1,r1,q1⟩=>hc pins s1 σ H1 vs us Q I1 r1 q1) he QA
theorem lZ(hc:cW X (.type T) r)(hg:Gl X x)(hm:X.mg x=none)(hv:GU x=some (.type T))(ha:PA X (e::es) t)(hn:x≠"__name__":=by decide)(Q6:(x==("__debug__":Str))=false:=by decide)
  (he:E4 (e::es) X.env=(false,HE e X.env)::E4 es X.env:=by rfl) (QA:(Iu pos (E4 es X.env)).any (·.1)=false:=by rfl):PE X (.Call (.Name x p) (e::es) [] pos) (tCB r t):=by
 intro pins s σ H Q I h;refine Gh (ca I hg hm hv ?_ hn Q6);exact PyProof.Rows.callWith_type1 (thn (ha pos pins s σ H _ I h) λus s1 ⟨vs,H1,I1,r1,q1⟩=>hc pins s1 σ H1 vs us Q I1 r1 q1) he QA
end
end L2
namespace HT
open PySem PyProof.Rows
section
open PySem.SeqAt
open PySem.AutoSeq1 (wpAny_loadPart')
open PySem.MeetsSeq PySem.MeetsSeq2 PySem.MeetsSeq3
end
section
variable {prog:E2}{w:Fs}{A:Fq}{E:EU→ER→Prop}{s:ER}
def sIx(n d:Nat):Option Int->Nat
 |none=>d
 |some v=>if v<0 then (v+(n:Int)).toNat else min v.toNat n
end
end HT
namespace L2
open PySem PySem.Spec PyProof.Rows
abbrev TO:=St->Hp->(Option Int->Hp->Prop)->Prop
def PO(X:Cx)(e:Option Expr)(t:TO):Prop:=
 ∀(pins:List (E1×Obj)) (s:ER) (σ:St) (H:Hp) (Q:Option Int->Hp->Prop),Inv X pins σ H s->t σ H Q->
  Fd (FF X.prog X.w) X.A (evalPart e X.env) (λu s'=>∃o H',Inv X pins σ H' s'/\IsPart u o/\Q o H') X.xe s
def AI:TO:=λ_ H Q=>Q none H
def C2(t:TE):TO:=λσ H Q=>t σ H λx H1=>∃i,x=.int i/\Q (some i) H1
section
variable {X:Cx}{e:Expr}{te:TE}{lo hi:Option Expr}{tl th:TO}{pos p2:Pos}
theorem Ax:PO X none AI:=by
 intro pins s σ H Q I h;rw[MT];exact EO ⟨none,H,I,.none,h⟩
theorem zJ(h:PE X e te):PO X (some e) (C2 te):=by
 intro pins s σ H Q I hw;rw[evalPart_some];refine thn (h pins s σ H _ I hw) λu s1 ⟨x,H1,I1,r1,q1⟩=>?_
 obtain⟨i,rfl,q⟩:=q1;obtain⟨t,rfl⟩:=r1;exact⟨some i,H1,I1,.int i t,q⟩
def SlR(X:Cx)(r:V->Option Int->Option Int->Hp->VK->Prop):Prop:=
 ∀(pins:List (E1×Obj)) (s:ER) (σ:St) (H:Hp) (x:V) (v vl vu:EU) (lo hi:Option Int) (sl:E1) (Q:VK),Inv X pins σ H s->aZ x v->s.heap.IsSliceOf sl vl vu .none->IsPart vl lo->IsPart vu hi->r x lo hi H Q->
  ∃T id,Nf (.type T) "__getitem__"=pure (some (.builtin id))∧s.TypeIs v T∧Fd (FF X.prog X.w) X.A (getItem v (.ref sl)) (EP X pins σ Q) X.xe s
def tSl(r:V->Option Int->Option Int->Hp->VK->Prop)(te:TE)(tl th:TO):TE:=λσ H Q=>te σ H λx H1=>tl σ H1 λl H2=>th σ H2 λu H3=>r x l u H3 Q
theorem xN{r:V->Option Int->Option Int->Hp->VK->Prop}(hr:SlR X r)(he:PE X e te)(hl:PO X lo tl)(hu:PO X hi th):PE X (.Subscript e (.Slice lo hi none p2) pos) (tSl r te tl th):=by
 intro pins s σ H Q I h;refine OJ (thn (he pins s σ H _ I h) λv s1 ⟨x,H1,I1,r1,q1⟩=>?_)
 refine wpAny_Slice (thn (hl pins s1 σ H1 _ I1 q1) λvl s2 ⟨l,H2,I2,pl,q2⟩=>thn (hu pins s2 σ H2 _ I2 q2) λvu s3 ⟨u,H3,I3,pu,q3⟩=>?_)
 rw[MT];refine EO ?_;have I4:Inv X pins σ H3 {s3 with heap:=s3.heap.push {cls:=.type "slice",data:=.fields #[vl,vu,.none] } }:=I3.kept (t':=s3.toks) λb ob q=>EN _ q
 obtain⟨T,id,hT,ht,hg⟩:=hr pins {s3 with heap:=s3.heap.push {cls:=.type "slice",data:=.fields #[vl,vu,.none] } } σ H3 x v vl vu l u s3.heap.objs.size Q I4 r1 (MU ..) pl pu q3
 show Fd (FF X.prog X.w) X.A (MV e (.Slice lo hi none p2) v (.ref s3.heap.objs.size)) (EP X pins σ Q) X.xe {s3 with heap:=s3.heap.push {cls:=.type "slice",data:=.fields #[vl,vu,.none] } }
 exact tail_any (ops:=[.ref s3.heap.objs.size,v]) ht hT hg (by with_unfolding_all rfl)
def uW(xs:List V)(lo hi:Option Int):List V:=(xs.drop (HT.sIx xs.length 0 lo)).take (HT.sIx xs.length xs.length hi-HT.sIx xs.length 0 lo)
theorem pR(xs:List V)(lo hi:Option Int):(uW xs lo hi).length<=xs.length:=by
 unfold uW;rw[Ka,NA];lia
end
def ixN(n:Nat)(i:Int):Option Nat:=if 0<=i then (if i<n then some i.toNat else none) else if -(n:Int)<=i then some (i+n).toNat else none
def atI{α:Type}(xs:List α)(i:Int):Option α:=(ixN xs.length i).bind λj=>xs[j]?
theorem sF{n:Nat}{i:Int}{j:Nat}(h:ixN n i=some j):seqIndex? i n=some j/\j<n/\-(n:Int)<=i/\i<n:=by
 unfold ixN at h;by_cases h0:0<=i
 ·rw[if_pos h0]at h;by_cases h1:i<n
  ·rw[if_pos h1]at h;have e:i.toNat=j:=FN h;exact⟨by rw[NQ h0 h1,e],by lia,by lia,h1⟩
  ·rw[if_neg h1]at h;cases h
 ·rw[if_neg h0]at h;by_cases h1:-(n:Int)<=i
  ·rw[if_pos h1]at h;have e:(i+n).toNat=j:=FN h;exact⟨by rw[Nt (by lia) h1,e],by lia,h1,by lia⟩
  ·rw[if_neg h1]at h;cases h
theorem uj{α:Type}{xs:List α}{i:Int}{v:α}(h:atI xs i=some v):∃j,seqIndex? i xs.length=some j/\xs[j]?=some v/\j<xs.length/\-(xs.length:Int)<=i/\i<xs.length:=by
 unfold atI at h;cases e:ixN xs.length i with
 |none=>rw[e]at h;cases h
 |some j=>
  rw[e]at h;obtain⟨h1,h2,h3,h4⟩:=sF e;exact⟨j,h1,h,h2,h3,h4⟩
theorem rZ{α:Type}{xs:List α}{j:Nat}{v:α}(h:xs[j]?=some v):atI xs (j:Int)=some v:=by
 have hj:j<xs.length:=(E6.mp h).1
 have e:ixN xs.length (j:Int)=some j:=by
  unfold ixN;rw[if_pos (by lia),if_pos (by lia)];simp
 unfold atI;rw[e];exact h
def nC(b:Expr):Prop:=∀o i,subscripted b false o i=operate [o,i] (getItem o i)
def IxR(X:Cx)(r:R2):Prop:=
 ∀(QE slice:Expr) (pins:List (E1×Obj)) (s:ER) (σ:St) (H:Hp) (x y:V) (v u:EU) (Q:VK),Inv X pins σ H s->aZ x v->aZ y u->r x y H Q->
  subscripted slice false v u=operate [v,u] (getItem v u)->Fd (FF X.prog X.w) X.A (MV QE slice v u) (EP X pins σ Q) X.xe s
def MtR(X:Cx)(id:String)(r:V->List V->Hp->VK->Prop):Prop:=
 ∀(pins:List (E1×Obj)) (s:ER) (σ:St) (H:Hp) (x:V) (xs:List V) (v:EU) (us:List EU) (Q:VK),Inv X pins σ H s->aZ x v->aQ xs us->r x xs H Q->
  Fd (FF X.prog X.w) X.A (call (.builtin id) (v::us)) (EP X pins σ Q) X.xe s
section
variable {X:Cx}{a b:Expr}{ta tb:TE}{pos:Pos}
theorem IxR.or{r r':R2}(h:IxR X r)(h':IxR X r'):IxR X (λx y H Q=>r x y H Q\/r' x y H Q):=by
 intro QE slice pins s σ H x y v u Q I rx ry q hs;rcases q with q |q
 ·exact h QE slice pins s σ H x y v u Q I rx ry q hs
 ·exact h' QE slice pins s σ H x y v u Q I rx ry q hs
theorem AX{r:R2}(hr:IxR X r)(ha:PE X a ta)(hb:PE X b tb)(hs:nC b):PE X (.Subscript a b pos) (tOp r ta tb):=by
 intro pins s σ H Q I h;exact OJ (CP ha hb I h λv u s2 x y H2 I2 rx ry q=>hr a b pins s2 σ H2 x y v u Q I2 rx ry q (hs _ _))
def EC(K:EL):R2:=λx y H Q=>∃p xs i v,x=.ref p/\y=.int i/\SqL K H p xs/\atI xs i=some v/\Q v H
def Ey(K:EL):R2:=λx y H Q=>∃p xs i v,x=.ref p/\y=.int i/\SqT K H p xs/\atI xs i=some v/\Q v H
theorem t4:IxR X (EC X.K):=by
 intro QE slice pins s σ H x y v u Q I rx ry h hs;obtain⟨p,xs,i,z,rfl,rfl,hq,he,q⟩:=h;cases rx;obtain⟨t,rfl⟩:=ry;obtain⟨PH,r,pl,hz⟩:=I.list hq;obtain⟨j,h1,h2,h3,h4,h5⟩:=uj he;obtain⟨w,ew,RH⟩:=r.get h2;have hl:=r.length;have hn:=mQ;have P4:EP X pins σ Q w s:=⟨z,H,I,RH,q⟩;by_cases h0:0<=i
 ·have hj:i.toNat=j:=by
   rw[NQ h0 h5]at h1;exact FN h1
  exact item_listR pl.isList h0 (by lia) (by rw[hj];simpa using ew) P4 hs
 ·have hj:(i+(PH.toArray.size:Int)).toNat=j:=by
   rw[Nt (by lia) h4]at h1
   rw[E7,<-hl];exact FN h1
  exact LQ (x:=w) pl.isList.typeIs slot_list_getitem.lookup
   (wpAny_getItem_list_neg (Q:=λr s'=>r=w/\EP X pins σ Q r s') pl.isList (by lia) (by rw[E7] <;>lia) (by lia) (by rw[hj];simpa using ew) ⟨rfl,P4⟩) hs
theorem BZ:IxR X (Ey X.K):=by
 intro QE slice pins s σ H x y v u Q I rx ry h hs;obtain⟨p,xs,i,z,rfl,rfl,hq,he,q⟩:=h;cases rx;obtain⟨t,rfl⟩:=ry;obtain⟨PH,r,pl,hz⟩:=I.tuple hq;obtain⟨j,h1,h2,h3,h4,h5⟩:=uj he;obtain⟨w,ew,RH⟩:=r.get h2;have hl:=r.length;have hn:=mQ;have P4:EP X pins σ Q w s:=⟨z,H,I,RH,q⟩
 exact LQ (x:=w) pl.typeIs slot_tuple_getitem.lookup
  (getItem_tuple (j:=j) (Q:=λr s'=>r=w/\EP X pins σ Q r s') pl (by lia) (by lia) (by rw[E7,<-hl];exact h1) (by simpa using ew) ⟨rfl,P4⟩) hs
theorem qz(PH:List EU)(n j:Nat)(u:EU):FP (·.setIfInBounds j u) {cls:=.type "list",data:=.seq PH.toArray n }={cls:=.type "list",data:=.seq (PH.set j u).toArray n }:=by
 simp[FP]
theorem Inv.lst{pins:List (E1×Obj)}{σ:St}{H:Hp}{s:ER}{p:E1}{xs:List V}(I:Inv X pins σ H s)(h:H p=some (.lst xs)):
  ∃(PH:List EU) (n:Nat),aQ xs PH∧s.heap.get? p=some {cls:=.type "list",data:=.seq PH.toArray n }∧xs.length≤sizeLine:=by
 obtain⟨z,PH,n,r,e⟩:=I.hok p _ h;exact⟨PH,n,r,e,z⟩
theorem Inv.lstUpd{pins:List (E1×Obj)}{σ:St}{H:Hp}{s:ER}{p:E1}{xs ys:List V}{PH its':List EU}{n n':Nat}{f:Obj->Obj}(I:Inv X pins σ H s)(h:H p=some (.lst xs))
  (ho:s.heap.get? p=some {cls:=.type "list",data:=.seq PH.toArray n }) (hf:f {cls:=.type "list",data:=.seq PH.toArray n }={cls:=.type "list",data:=.seq its'.toArray n' }) (r:aQ ys its') (hz:ys.length≤sizeLine) (t:Nat):
  Inv X pins σ (upd H p (.lst ys)) {s with heap:=s.heap.update p f,toks:=t }:=by
 have e:(s.heap.update p f).get? p=some {cls:=.type "list",data:=.seq its'.toArray n' }:=by
  rw[FB f ho (by rw[hf] <;>rfl),hf]
 refine I.write (x:=p) (e:=p) (by rw[h];trivial) (.inl rfl) (λb u hb q=>(Fk _ _ (Ne.symm hb)).trans q) ⟨_,e⟩ ?_
 exact⟨hz,its',n',r,e⟩
def Dx:V->V->V->Hp->(Hp->Prop)->Prop:=λo i v H Q=>∃p xs k j,o=.ref p/\i=.int k/\H p=some (.lst xs)/\ixN xs.length k=some j/\Q (upd H p (.lst (xs.set j v)))
theorem yA:DQ X Dx:=by
 intro pins s σ H o i v ov iv u Q I ro ri rv h;obtain⟨p,xs,k,j,rfl,rfl,hp,hj,q⟩:=h;cases ro;obtain⟨t,rfl⟩:=ri;obtain⟨PH,n,r,ho,hz⟩:=I.lst hp;obtain⟨h1,h2,h3,h4⟩:=sF hj;have hl:=r.length;have hn:=mQ
 have I':Inv X pins σ (upd H p (.lst (xs.set j v))) {s with heap:=s.heap.update p (FP (·.setIfInBounds j u)) }:=
  I.lstUpd hp ho (qz PH n j u) (r.set rv j) (by rw[HM];exact hz) s.toks
 by_cases h0:0<=k
 ·have hk:k.toNat=j:=by
   rw[NQ h0 h4]at h1;exact FN h1
  exact PySem.W.ki_setAt ho h0 (by lia) (by rw[E7,<-hl];exact h4) (by rw[hk];exact⟨_,I',q⟩)
 ·have hk:(k+(PH.toArray.size:Int)).toNat=j:=by
   rw[Nt (by lia) h3]at h1
   rw[E7,<-hl];exact FN h1
  exact PySem.W.ki_setBack ho (by lia) (by rw[E7,<-hl];exact h3) (by lia) (by rw[hk];exact⟨_,I',q⟩)
theorem mf(lo hi:Option Int)(n:Nat):(JM lo hi none n).1=((HT.sIx n 0 lo:Nat):Int)/\(JM lo hi none n).2.1=((HT.sIx n n hi:Nat):Int)/\(JM lo hi none n).2.2=1:=by
 refine⟨?_,?_,rfl⟩
 ·cases lo with
  |none=>simp[JM,HT.sIx]
  |some i=>
   simp only[JM,HT.sIx,LD,show (1:Int) >0 by decide,if_true]
   by_cases h:i<0
   ·simp only[h,if_true] <;>lia
   ·simp only[h,if_false] <;>lia
 ·cases hi with
  |none=>simp[JM,HT.sIx]
  |some i=>
   simp only[JM,HT.sIx,LD,show (1:Int) >0 by decide,if_true]
   by_cases h:i<0
   ·simp only[h,if_true] <;>lia
   ·simp only[h,if_false] <;>lia
theorem kU(PH:List EU)(lo hi:Option Int):slicePick PH.toArray lo hi none=((PH.drop (HT.sIx PH.length 0 lo)).take (HT.sIx PH.length PH.length hi-HT.sIx PH.length 0 lo)).toArray:=by
 obtain⟨h1,h2,h3⟩:=mf lo hi PH.toArray.size;unfold slicePick;rw[h1,h2,h3];simp only[sliceRange_one,pick_run,E7] <;>rfl
def EG(K:EL):V->Option Int->Option Int->Hp->VK->Prop:=λx lo hi H Q=>∃a xs,x=.ref a/\SqL K H a xs/\∀p,H p=none->Q (.ref p) (upd H p (.lst (uW xs lo hi)))
theorem Aq:SlR X (EG X.K):=by
 intro pins s σ H x v vl vu lo hi sl Q I rx hs pl pu h;obtain⟨a,xs,rfl,hx,q⟩:=h;cases rx;obtain⟨PH,r,ht,hz⟩:=I.list hx;have PL:=r.length;refine⟨"list",_,slot_list_getitem.lookup,ht.isList.typeIs,?_⟩;refine K8 ht.isList hs pl pu .none (by simp) ?_ (by rw[E7] <;>lia)
 rw[kU,<-PL];refine⟨.ref s.heap.objs.size,_,I.laid (t':=s.toks) (o:=.lst (uW xs lo hi)) (λb ob q=>EN _ q) (EX _) ?_,rfl,q _ (I.hok.fresh (EX _))⟩
 exact⟨GJ (pR xs lo hi) hz,_,0,(r.drop (HT.sIx xs.length 0 lo)).take (HT.sIx xs.length xs.length hi-HT.sIx xs.length 0 lo),E3 _ rfl⟩
def gQ:V->Bool
 | .non=>true
 | .bl _=>true
 | .int _=>true
 | .str _=>true
 |_=>false
def eqV:V->V->Bool
 | .non,.non=>true
 | .bl a,.bl b=>a==b
 | .bl a,.int b=>(if a then 1 else 0)==b
 | .int a,.bl b=>a==(if b then 1 else 0)
 | .int a,.int b=>a==b
 | .str a,.str b=>a==b
 |_,_=>false
theorem CC{A:Fq}{s:ER}{y x:V}{u v:EU}(ry:aZ y u)(rx:aZ x v)(fy:gQ y=true)(fx:gQ x=true):SeqAt.EqAt A s u v (eqV y x):=by
 cases y with
 |non=>
  cases ry;cases x with
  |non=>cases rx;exact SeqAt.EqAt.same _
  |bl b=>cases rx;exact SeqAt.EqAt.none_bool b
  |int b=>obtain⟨t,rfl⟩:=rx;exact SeqAt.EqAt.none_int b t
  |str b=>obtain⟨t,rfl⟩:=rx;exact SeqAt.EqAt.none_str b t
  |_=>exact absurd (show false=true from fx) Fn
 |bl a=>
  cases ry;cases x with
  |non=>cases rx;exact SeqAt.EqAt.bool_none a
  |bl b=>cases rx;exact SeqAt.EqAt.bool_bool a b
  |int b=>obtain⟨t,rfl⟩:=rx;exact SeqAt.EqAt.bool_int a b t
  |str b=>obtain⟨t,rfl⟩:=rx;exact SeqAt.EqAt.bool_str a b t
  |_=>exact absurd (show false=true from fx) Fn
 |int a=>
  obtain⟨t',rfl⟩:=ry;cases x with
  |non=>cases rx;exact SeqAt.EqAt.int_none a t'
  |bl b=>cases rx;exact SeqAt.EqAt.int_bool a t' b
  |int b=>obtain⟨t,rfl⟩:=rx;exact SeqAt.EqAt.int_int a t' b t
  |str b=>obtain⟨t,rfl⟩:=rx;exact SeqAt.EqAt.int_str a t' b t
  |_=>exact absurd (show false=true from fx) Fn
 |str a=>
  obtain⟨t',rfl⟩:=ry;cases x with
  |non=>cases rx;exact SeqAt.EqAt.str_none a t'
  |bl b=>cases rx;exact SeqAt.EqAt.str_bool a t' b
  |int b=>obtain⟨t,rfl⟩:=rx;exact SeqAt.EqAt.str_int a t' b t
  |str b=>obtain⟨t,rfl⟩:=rx;exact SeqAt.EqAt.str_str a t' b t
  |_=>exact absurd (show false=true from fx) Fn
 |_=>exact absurd (show false=true from fy) Fn
def eqU(x:V)(u:EU):Bool:=match u with
 | .none=>eqV .non x
 | .bool b=>eqV (.bl b) x
 | .int i _=>eqV (.int i) x
 | .str z _=>eqV (.str z) x
 |_=>false
theorem xX{x y:V}{u:EU}(r:aZ y u)(f:gQ y=true):eqU x u=eqV y x:=by
 cases y with
 |non=>cases r;rfl
 |bl b=>cases r;rfl
 |int i=>obtain⟨t,rfl⟩:=r;rfl
 |str z=>obtain⟨t,rfl⟩:=r;rfl
 |_=>exact absurd (show false=true from f) Fn
theorem mY{x:V}:∀{xs:List V}{us:List EU},aQ xs us->xs.all gQ=true->us.any (eqU x)=xs.any λy=>eqV y x
 |_,_,.nil,_=>rfl
 |y::xs,u::us,.cons r t,f=>by
  rw[Ki,Gv]at f;rw[OR,OR,xX r f.1,mY t f.2]
theorem jD{A:Fq}{s:ER}{x:V}{v:EU}(rx:aZ x v)(fx:gQ x=true):∀{xs:List V}{us:List EU},aQ xs us->xs.all gQ=true->∀u∈us,SeqAt.EqAt A s u v (eqU x u)
 |_,_,.nil,_=>λu hu=>by cases hu
 |y::xs,u::us,.cons r t,f=>λu' hu=>by
  rw[Ki,Gv]at f;rcases ET.mp hu with rfl |hu
  ·rw[xX r f.1];exact CC r rx f.1 fx
  ·exact jD rx fx t f.2 u' hu
def inV(x:V)(xs:List V):Bool:=xs.any λy=>eqV y x
def rIn(K:EL)(neg:Bool):R2:=λx y H Q=>∃p xs,y=.ref p/\(SqL K H p xs\/SqT K H p xs)/\gQ x=true/\xs.all gQ=true/\Q (.bl (if neg then !inV x xs else inV x xs)) H
theorem uB:OpR X (Gn .In) (rIn X.K false):=by
 intro pins s σ H x y v u Q I rx ry h;obtain⟨p,xs,rfl,hq,fx,fs,q⟩:=h;cases ry;rcases hq with hq |hq
 ·obtain⟨PH,r,pl,hz⟩:=I.list hq;refine SeqAt.in_listAt (eqU x) pl.isList (λw hw=>jD rx fx r fs w (by simpa using hw)) ⟨.bl _,H,I,rfl,?_⟩
  rw[show PH.toArray.any (eqU x)=PH.any (eqU x) by simp,mY r fs]
  exact q
 ·obtain⟨PH,r,pl,hz⟩:=I.tuple hq;refine SeqAt.in_tupleAt (eqU x) pl (λw hw=>jD rx fx r fs w (by simpa using hw)) ⟨.bl _,H,I,rfl,?_⟩
  rw[show PH.toArray.any (eqU x)=PH.any (eqU x) by simp,mY r fs]
  exact q
theorem im:cW X (.builtin "len") (λxs H Q=>∃p ys,xs=[.ref p]∧(SqL X.K H p ys∨SqT X.K H p ys)∧Q (.int ys.length) H):=by
 intro pins s σ H xs us Q I r h;obtain⟨p,ys,rfl,hq,q⟩:=h;obtain⟨u,rfl,rx⟩:=eY r;cases rx;have hn:=mQ;rcases hq with hq |hq
 ·obtain⟨PH,r',pl,hz⟩:=I.list hq;have PL:=r'.length;exact Calls.call_len_list pl.isList (by simp only[E7] <;>lia) ⟨.int ys.length,H,I.tok _,⟨s.toks+1,by rw[E7,PL]⟩,q⟩
 ·obtain⟨PH,r',pl,hz⟩:=I.tuple hq;have PL:=r'.length;exact len_tuple pl (by simp only[E7] <;>lia) ⟨.int ys.length,H,I.tok _,⟨s.toks+1,by rw[E7,PL]⟩,q⟩
theorem nR:cW X (.type "list") (λxs H Q=>∃p ys,xs=[.ref p]∧(SqL X.K H p ys∨SqT X.K H p ys)∧∀l,H l=none→Q (.ref l) (upd H l (.lst ys))):=by
 intro pins s σ H xs us Q I r h;obtain⟨p,ys,rfl,hq,q⟩:=h;obtain⟨u,rfl,rx⟩:=eY r;cases rx
 have P4:∀(PH:List EU),aQ ys PH->ys.length<=sizeLine->∀(h':Gz) (c':Nat),(∀b o',s.heap.get? b=some o'->h'.get? b=some o')->
   h'.get? s.heap.objs.size=some {cls:=.type "list",dict:=none,data:=.seq PH.toArray c',slots:=#[] }→EP X pins σ Q (.ref s.heap.objs.size) {s with heap:=h' }:=λPH r' hz h' c' kp e=>
  ⟨.ref s.heap.objs.size,_,I.laid (t':=s.toks) kp (EX _) (show b_ X.prog X.w _ h' _ (.lst ys) from ⟨hz,PH,c',r',e⟩),rfl,q _ (I.hok.fresh (EX _))⟩
 rcases hq with hq |hq
 ·obtain⟨PH,r',pl,hz⟩:=I.list hq;have PL:=r'.length;obtain⟨o,ho,hc,n,hd⟩:=pl.isList;exact call_list_seq p (.inl rfl) ho hc hd (λh' c' kp e=>P4 PH r' hz h' c' kp e) (by simp only[E7] <;>lia)
 ·obtain⟨PH,r',pl,hz⟩:=I.tuple hq;have PL:=r'.length;obtain⟨o,ho,hc,n,hd⟩:=pl;exact call_list_seq p (.inr rfl) ho hc hd (λh' c' kp e=>P4 PH r' hz h' c' kp e) (by simp only[E7] <;>lia)
theorem k9:cW X (.type "tuple") (λxs H Q=>∃p ys,xs=[.ref p]∧((SqL X.K H p ys∧∀l,H l=none→Q (.ref l) (upd H l (.tup ys)))∨(SqT X.K H p ys∧Q (.ref p) H))):=by
 intro pins s σ H xs us Q I r h;obtain⟨p,ys,rfl,h⟩:=h;obtain⟨u,rfl,rx⟩:=eY r;cases rx;rcases h with ⟨hq,q⟩ |⟨hq,q⟩
 ·obtain⟨PH,r',pl,hz⟩:=I.list hq;have PL:=r'.length;refine call_tuple_list pl.isList (λh' kp=>?_) (by simp only[E7] <;>lia)
  have I1:Inv X pins σ H {s with heap:=h' }:=I.kept (t':=s.toks) kp
  have I2:Inv X pins σ (upd H h'.objs.size (.tup ys)) {s with heap:=h'.push {cls:=.type "tuple",data:=.seq PH.toArray } }:=
   I1.laid (t':=s.toks) (λb o e=>EN _ e) (EX _) (show b_ X.prog X.w _ _ _ (.tup ys) from ⟨hz,PH,r',IsTup.new _ _⟩)
  exact⟨.ref h'.objs.size,_,I2,rfl,q _ (I1.hok.fresh (EX _))⟩
 ·obtain⟨PH,r',pl,hz⟩:=I.tuple hq;exact call_tuple_same pl ⟨.ref p,H,I,rfl,q⟩
def tyV(K:EL)(T:String)(x:V)(H:Hp):Prop:=match x with
 | .str _=>T="str"
 | .int _=>T="int"
 | .ref p=>(T="list"∧∃xs,SqL K H p xs)∨(T="tuple"∧∃o,K.lookup p=some o∧o.cls=.type "tuple"∧o.dict=none)∨
   (T="dict"∧((∃Qg,H p=some (.dK Qg))∨∃Qg,H p=some (.dT Qg)))∨(T="set"∧∃S n,H p=some (.set S n))
 |_=>False
theorem wR{pins:List (E1×Obj)}{σ:St}{H:Hp}{s:ER}{T:String}{x:V}{v:EU}(I:Inv X pins σ H s)(r:aZ x v)(ty:tyV X.K T x H):
  s.TypeIs v T/\∀a,v=.ref a->∃ob,s.heap.get? a=some ob/\ob.dict=none:=by
 cases x with
 |str z=>
  obtain⟨t,rfl⟩:=r;cases (show T="str" from ty)
  exact⟨typeIs_str s z t,λ_ e=>nomatch e⟩
 |int i=>
  obtain⟨t,rfl⟩:=r;cases (show T="int" from ty)
  exact⟨Kj s i t,λ_ e=>nomatch e⟩
 |ref p=>
  cases r;rcases ty with ⟨rfl,xs,hq⟩ |⟨rfl,o,hk,hc,hd⟩ |⟨rfl,hk⟩ |⟨rfl,S,n,hk⟩
  ·obtain⟨PH,_,pl,_⟩:=I.list hq;refine⟨pl.isList.typeIs,λa e=>?_⟩
   cases e;obtain⟨o,n,e,c,hd,_⟩:=pl;exact⟨o,e,hd⟩
  ·refine⟨⟨o,I.kIn p o hk,hc⟩,λa e=>?_⟩
   cases e;exact⟨o,I.kIn _ o hk,hd⟩
  ·have z:∃o,s.heap.get? p=some o/\o.ExactDict:=by
    rcases hk with ⟨Qg,hk⟩ |⟨Qg,hk⟩
    ·obtain⟨_,_,_,_,o,_,_,e,ex,_⟩:=I.hok p _ hk;exact⟨o,e,ex⟩
    ·obtain⟨_,_,_,_,o,_,_,e,ex,_⟩:=I.hok p _ hk;exact⟨o,e,ex⟩
   obtain⟨o,e,ex⟩:=z;refine⟨⟨o,e,ex.1⟩,λa e2=>?_⟩
   cases e2;exact⟨o,e,ex.2.1⟩
  ·obtain⟨o,_,_,_,e,ex,_⟩:=I.hok p _ hk;refine⟨⟨o,e,ex.1⟩,λa e2=>?_⟩
   cases e2;exact⟨o,e,ex.2.1⟩
 |_=>exact False.elim ty
def EE(K:EL)(T:String)(r:V->List V->Hp->VK->Prop)(to:TE):TE:=λσ H Q=>to σ H λx H1=>tyV K T x H1/\r x [] H1 Q
def tBM(K:EL)(T:String)(r:V->List V->Hp->VK->Prop)(to:TE)(t:TA):TE:=λσ H Q=>to σ H λx H1=>tyV K T x H1/\t σ H1 λxs H2=>r x xs H2 Q
variable {o e:Expr}{es:List Expr}{to:TE}{t:TA}{name:Str}{Qj PZ:Pos}{T id:String}{r:V→List V→Hp→VK→Prop}
theorem CU(pa:PlainAttrs T)(slot:Slot T name id)(RI:typeOf (.builtin id)=pure (.type "method_descriptor"))(hm:MtR X id r)(ho:PE X o to)
  (QG:IW o name X.env (HE o X.env)=HE o X.env:=by rfl) (QH:(Qj.endLine==PZ.line)=true:=by rfl):PE X (.Call (.Attribute o name Qj) [] [] PZ) (EE X.K T r to):=by
 intro pins s σ H Q I h;refine wpAny_Call_method0_late QG QH (thn (ho pins s σ H _ I h) λv s1 ⟨x,H1,I1,r1,ty,q1⟩=>?_)
 obtain⟨h1,h2⟩:=wR I1 r1 ty;exact⟨T,id,pa,slot,RI,h1,h2,LR rfl (PySem.evalArgs_none (hm pins s1 σ H1 x [] v [] Q I1 r1 .nil q1))⟩
theorem AU(pa:PlainAttrs T)(slot:Slot T name id)(RI:typeOf (.builtin id)=pure (.type "method_descriptor"))(hm:MtR X id r)(ho:PE X o to)(ha:PA X (e::es) t)
  (QG:IW o name X.env (HE o X.env)=HE o X.env:=by rfl)
  (RM:((Iu PZ (E4 (e::es) X.env)).all (λx=>!x.1) && (NM PZ (Lo [] X.env)).all (λx=>x.1.isSome)
   && decide ((e::es).length+([]:List Km).length+(if ([]:List Km).isEmpty then 0 else 1)<30))=true:=by rfl)
  (QH:(Qj.endLine==PZ.line)=true:=by rfl) (hs:E4 (e::es) X.env=(false,HE e X.env)::E4 es X.env:=by rfl) (QY:(Iu PZ (E4 es X.env)).any (·.1)=false:=by rfl):
  PE X (.Call (.Attribute o name Qj) (e::es) [] PZ) (tBM X.K T r to t):=by
 intro pins s σ H Q I h;refine wpAny_Call_method_late QG RM QH rfl (thn (ho pins s σ H _ I h) λv s1 ⟨x,H1,I1,r1,ty,q1⟩=>?_)
 obtain⟨h1,h2⟩:=wR I1 r1 ty;refine⟨T,id,pa,slot,RI,h1,h2,?_⟩;have hA:=ha PZ pins s1 σ H1 _ I1 q1;rw[hs]at hA |-;refine LR (by show (false || (Iu PZ (E4 es X.env)).any (·.1))=false;rw[QY] <;>rfl) (Calls.evalArgs_plain ?_)
 exact thn hA λus s2 ⟨vs,H2,I2,r2,q2⟩=>hm pins s2 σ H2 x vs v us Q I2 r1 r2 q2
end
def MtM(X:Cx)(id:String)(r:V->List V->Hp->VK->Prop):Prop:=
 ∀(pins:List (E1×Obj)) (s:ER) (σ:St) (H:Hp) (x:V) (xs:List V) (v:EU) (us:List EU) (Q:VK),Inv X pins σ H s->aZ x v->aQ xs us->r x xs H Q->
  Fd (FF X.prog X.w) X.A (call (.builtin id) (v::us)) (EP X pins σ Q) X.xe s
theorem aQ.one:∀{x:V}{us:List EU},aQ [x] us->∃u,us=[u]/\aZ x u
 |_,_,.cons r .nil=>⟨_,rfl,r⟩
theorem aQ.zero:∀{us:List EU},aQ [] us->us=[]
 |_,.nil=>rfl
theorem aQ.dropLast{xs:List V}{us:List EU}(h:aQ xs us):aQ xs.dropLast us.dropLast:=by
 induction h with
 |nil=>exact .nil
 |cons r t ih=>
  cases t with
  |nil=>exact .nil
  |cons q t'=>exact .cons r ih
theorem qR{α:Type}(l:List α):l.eraseIdx (l.length-1)=l.dropLast:=by
 induction l with
 |nil=>rfl
 |cons a r ih=>
  cases r with
  |nil=>rfl
  |cons b r=>
   have e:(a::b::r).length-1=((b::r).length-1)+1:=by
    have h1:(a::b::r).length=r.length+2:=rfl;have h2:(b::r).length=r.length+1:=rfl;lia
   rw[e,List.eraseIdx_cons_succ,ih]
   all_goals rfl
section
variable {X:Cx}{pins:List (E1×Obj)}{σ:St}{H:Hp}{s:ER}{l b:E1}{xs ys zs:List V}
theorem Inv.lset{PH its':List EU}{n:Nat}{f:Array EU->Array EU}{t':Nat}(I:Inv X pins σ H s)(hH:H l=some (.lst xs))
  (e:s.heap.get? l=some {cls:=.type "list",data:=.seq PH.toArray n }) (hf:f PH.toArray=its'.toArray) (hv:aQ ys its') (hz:ys.length≤sizeLine):
  Inv X pins σ (upd H l (.lst ys)) {s with heap:=s.heap.update l (FP f),toks:=t' }:=by
 have q:=PySem.IsL.update e f;rw[hf]at q;refine I.write (x:=l) (e:=l) (by rw[hH];exact trivial) (.inl rfl) (λb' u hb hu=>(Fk s.heap (FP f) (Ne.symm hb)).trans hu) ⟨_,q⟩ ?_
 exact⟨hz,its',_,hv,q⟩
theorem Inv.lnew{PH:List EU}{t':Nat}(I:Inv X pins σ H s)(hv:aQ ys PH)(hz:ys.length<=sizeLine):
  Inv X pins σ (upd H s.heap.objs.size (.lst ys)) {s with heap:=s.heap.push {cls:=.type "list",data:=.seq PH.toArray },toks:=t' }:=
 I.laid (λ_ _ q=>EN _ q) (EX _) ⟨hz,PH,0,hv,E3 _ rfl⟩
theorem Inv.fresh(I:Inv X pins σ H s):H s.heap.objs.size=none:=I.hok.fresh (EX _)
theorem Inv.lstM(I:Inv X pins σ H s)(hH:H l=some (.lst xs)):xs.length≤sizeLine∧∃(PH:List EU) (n:Nat),aQ xs PH∧xs.length=PH.length∧s.heap.get? l=some {cls:=.type "list",data:=.seq PH.toArray n }:=by
 obtain⟨z,PH,n,r,e⟩:=I.hok l _ hH;exact⟨z,PH,n,r,r.length,e⟩
theorem yH{n:Nat}(h:n<=sizeLine):Builtin.List.listTooLong n=false:=by
 unfold Builtin.List.listTooLong;exact decide_eq_false (by lia)
end
section
variable {X:Cx}
def Au:V->List V->Hp->VK->Prop:=λx vs H Q=>∃l xs y,x=.ref l/\vs=[y]/\H l=some (.lst xs)/\xs.length<sizeLine/\Q .non (upd H l (.lst (xs++[y])))
theorem iP:MtM X "list.append" Au:=by
 intro pins s σ H x vs v us Q I rx rv h;obtain⟨l,xs,y,rfl,rfl,hH,hz,q⟩:=h;cases rx;obtain⟨u,rfl,ru⟩:=rv.one;obtain⟨z,PH,n,r,hl,e⟩:=I.lstM hH;refine OK F.slot_list_append ⟨_,e,rfl⟩ F.entry_list_append (F.args_list_append_2 _ _) (PySem.list_append l PH.toArray n u (by rw[E7];lia)) ⟨e,?_⟩
 refine⟨.non,_,I.lset (its':=PH++[u]) hH e (by simp) (r.append (.cons ru .nil)) ?_,rfl,q⟩
 rw[FM,L5];lia
def zm:V->List V->Hp->VK->Prop:=λx vs H Q=>∃l b xs zs,x=.ref l/\vs=[.ref b]/\H l=some (.lst xs)/\H b=some (.lst zs)/\xs.length+zs.length<=sizeLine/\Q .non (upd H l (.lst (xs++zs)))
theorem vt:MtM X "list.extend" zm:=by
 intro pins s σ H x vs v us Q I rx rv h;obtain⟨l,b,xs,zs,rfl,rfl,hH,hB,hz,q⟩:=h;cases rx;obtain⟨u,rfl,ru⟩:=rv.one;cases ru;obtain⟨z,PH,n,r,hl,e⟩:=I.lstM hH;obtain⟨z2,PJ,n2,r2,P7,e2⟩:=I.lstM hB;have Qr:PH.toArray.size+PJ.toArray.size<=sizeLine:=by rw[E7,E7];lia
 have hlong:¬ (!PH.toArray.isEmpty && Builtin.List.listTooLong (PH.toArray.size+PJ.toArray.size))=true:=by
  rw[yH Qr,KN];exact Fn
 refine OK F.slot_list_extend ⟨_,e,rfl⟩ F.entry_list_extend (F.args_list_extend_2 _ _)
  (AutoSeq1.list_extend_list_list_0 l PH.toArray n b PJ.toArray n2 hlong (by rw[E7];lia) (by lia)) ⟨e,e2,?_⟩
 refine⟨.non,_,I.lset (its':=PH++PJ) hH e (by simp) (r.append r2) ?_,rfl,q⟩
 rw[FM];lia
def D7:V->List V->Hp->VK->Prop:=λx vs H Q=>∃l xs y,x=.ref l/\vs=[]/\H l=some (.lst xs)/\xs[xs.length-1]?=some y/\Q y (upd H l (.lst xs.dropLast))
theorem Bw:MtM X "list.pop" D7:=by
 intro pins s σ H x vs v us Q I rx rv h;obtain⟨l,xs,y,rfl,rfl,hH,hy,q⟩:=h;cases rx;have hus:=rv.zero;subst hus;obtain⟨z,PH,n,r,hl,e⟩:=I.lstM hH;obtain⟨u,hu,ru⟩:=r.get hy
 have R6:PH.toArray[PH.toArray.size-1]?=some u:=by
  show PH.toArray[PH.length-1]?=some u;rw[<-FU,<-hl];exact hu
 refine OK F.slot_list_pop ⟨_,e,rfl⟩ F.entry_list_pop (F.args_list_pop_1 _) (MeetsSeq.list_pop_last l PH.toArray n u R6 (by rw[E7];lia)) ⟨e,?_⟩
 refine⟨y,_,I.lset (its':=PH.dropLast) hH e ?_ r.dropLast ?_,ru,q⟩
 ·show PH.toArray.eraseIdxIfInBounds (PH.toArray.size-1)=PH.dropLast.toArray;rw[E7,List.eraseIdxIfInBounds_toArray,qR]
 ·rw[G9];lia
def Ee:R2:=λx y H Q=>∃l b xs zs,x=.ref l/\y=.ref b/\H l=some (.lst xs)/\H b=some (.lst zs)/\xs.length+zs.length<=sizeLine/\∀p,H p=none->Q (.ref p) (upd H p (.lst (xs++zs)))
theorem B9:OpR X (JS .Add) Ee:=by
 intro pins s σ H x y v u Q I rx ry h;obtain⟨l,b,xs,zs,rfl,rfl,hH,hB,hz,q⟩:=h;cases rx;cases ry;obtain⟨z,PH,n,r,hl,e⟩:=I.lstM hH;obtain⟨z2,PJ,n2,r2,P7,e2⟩:=I.lstM hB;refine PySem.P.add_list e e2 ?_ (by rw[E7,E7];lia)
 have ea:PH.toArray++PJ.toArray=(PH++PJ).toArray:=by simp
 rw[ea];exact⟨.ref _,_,I.lnew (t':=s.toks) (r.append r2) (by rw[FM];lia),rfl,q _ I.fresh⟩
variable {prog:E2}{w:Fs}{A:Fq}{E:EU→ER→Prop}{s:ER}
end
end L2
namespace Att
open PySem PySem.W PySem.Calls PyProof.Rows
theorem jf{P:Params}{h:Gz}:∀(ns:List Int) (vs:List EU),WellAll P h vs (ns.map WData.int)->OS vs ns:=by
 intro ns
 induction ns with
 |nil=>
  intro vs w;rw[Jp]at w;cases w;exact .nil
 |cons n ns ih=>
  intro vs w;rw[Ff]at w;cases w with
  |cons a b=>
   cases a;exact .cons _ _ (ih _ b)
theorem script_of{l:OpenLaw}{n:Nat}(hn:l.most=some n){P:Params}{h:Gz}{args:List WData}{vals:List EU}
  (Ro:l.row.toRowW.claim.pre args=true) (hwl:WellAll P h vals args):
  ∃a vs ns,vals=[Ft a]∧args=[WData.list (ns.map WData.int)]∧h.get? a=some {cls:=.type "list",data:=.seq vs.toArray }∧OS vs ns∧ns.length≤n:=by
 have hsh:WShape.hasAll [] args [.list .int]=true:=(pre_splitW Ro).1;have hc:l.pre.holds [] {args:=args }=true:=(pre_splitW Ro).2;obtain⟨d,r,rfl,h1,h2⟩:=hasAllW_cons hsh;obtain rfl:=hasAllW_nil h2;obtain⟨xs,rfl,h3⟩:=hasW_list h1;obtain⟨ns,rfl⟩:=items_int h3
 have PL:ns.length<=n:=by
  unfold OpenLaw.pre at hc
  have h4:(WTm.not (.lt (.lit (.int (n:Int))) (.len (.arg 0)))).holds [] {args:=[.list (ns.map .int)] }=true:=by
   have h4:=(holds_andW hc).1;rw[hn]at h4;exact h4
  have h5:=condW_of h4 (w_not (w_lt w_lit (w_len_list (w_arg rfl))));rw[EM]at h5;refine Kb λq=>?_
  have q':(n:Int)<((ns.length:Nat):Int):=by lia
  first
   | (rw[decide_eq_true q']at h5;exact absurd h5 (by decide))
   | (simp at h5;lia)
 cases hwl with
 |cons w1 w2=>
  cases w2;cases w1 with
  |list ho Qn=>exact⟨_,_,ns,rfl,rfl,ho,jf ns _ Qn,PL⟩
theorem post_true(l:OpenLaw)(args:List WData):l.row.toRowW.claim.post args (.bool true) args=true:=
 postW_of (r:=l.row.toRowW) (X:=(true==true))
  (show WShape.has [] (.bool true) .bool=true by first |rfl |decide |simp[WShape.has,WShape.arms,WShape.armsAll])
  (show (WTm.eq .res (.lit (.bool true))).value [] {args:=args,res:=some (.bool true),after:=args }=some (.bool (true==true)) from w_eq_bool (w_res rfl) w_lit) rfl
section
variable {prog:E2}{w:Fs}{A:Fq}{E:EU→ER→Prop}{s:ER}{K:Frag}
end
end Att
namespace L2
open PySem PySem.Spec PyProof.Rows
theorem lI:∀{vs:List EU}{ns:List Int},OS vs ns->aQ (ns.map V.int) vs
 |_,_,.nil=>.nil
 |_,_,.cons n t h=>.cons ⟨t,rfl⟩ (lI h)
def Aw(H:Hp):Prop:=∀b,H b=none\/∃o xs,H b=some (.frz o (.lst xs))
theorem wc{P:E2}{w:Fs}{K:EL}{mg mb:Str->Option EU}{CX:CXT}{k:Nat}{fa a:E1}{fd:Ga}{x:Str}{sp:Sp}{PR:ER}{vs:List EU}{ns:List Int}
  (KX:K.In PR.heap) (hns:PR.heap.Ns GS mg) (hb:PR.heap.Ns Ou mb) (hbb:∀x:Str,x≠"__name__"→mb x=GU x) (hlim:PR.heap.NoLimit) (hg:PR.gens=#[])
  (ha:PR.heap.get? a=some {cls:=.type "list",data:=.seq vs.toArray }) (hi:OS vs ns) (hl:ns.length≤sizeLine) (hr:d6 k Ng)
  (F:∀base:Gz,K.In base->base.Ns GS mg->a9 P w K mg base CX k fa fd [x] sp) (hbind:∀(s:ER) (u:EU),Nc s fd ⟨[u],[]⟩ [(x,u)])
  (Q4:∀H:Hp,Aw H->SqL K H a (ns.map V.int)->sp [.ref a] H (λv _=>v=.bl true) λ_ _ _=>False)
  (hCX:∀H e s',CX [] H PR (λ_ _ _=>False) e s'->False):
  IJ (FF P w) Ng (.call (.ref fa) ⟨[.ref a],[]⟩) (λr s'=>r=.ok (.ret (.bool true))/\OldK PR.heap s'.heap/\s'.os=PR.os/\Ll s'.gens) PR:=by
 have rv:=lI hi;have lenV:=hi.length
 have core:∀H:Hp,Aw H->SqL K H a (ns.map V.int)->HOk P w H PR.heap->(∀b,H b≠none->b=a)->(H a≠none->K.lookup a=none)->
   IJ (FF P w) Ng (.call (.ref fa) ⟨[.ref a],[]⟩) (λr s'=>r=.ok (.ret (.bool true))/\OldK PR.heap s'.heap/\s'.os=PR.os/\Ll s'.gens) PR:=by
  intro H hO hS hok hA hK;have Rw:∀{b:E1}{o:Obj},PR.heap.get? b=some o->H b=none->(nJ PR.heap H).get? b=some o:=λe n=>x5 e n
  have noA:∀{b:E1}{o:Obj}{es:Array DictEntry}{ep:Nat},PR.heap.get? b=some o->o.data=.dict es ep->H b=none:=λ{b o es ep} e d=>by
   cases q:H b with
   |none=>rfl
   |some u=>
    have e':b=a:=hA b (by rw[q];simp)
    subst e';rw[ha]at e;cases e;have d':Data.seq vs.toArray _=Data.dict es ep:=d;cases d'
  have nsK:∀{b:E1}{m:Str->Option EU},PR.heap.Ns b m->(nJ PR.heap H).Ns b m:=λ{b m} ⟨o,es,ep,e,d,r⟩=>⟨o,es,ep,Rw e (noA e d),d,r⟩
  have hKb:K.In (nJ PR.heap H):=λb o e=>Rw (KX b o e) (by
   cases q:H b with
   |none=>rfl
   |some u=>
    have e':b=a:=hA b (by rw[q];simp)
    subst e';rw[hK (by rw[q];simp)]at e;cases e)
  have hM:Mod K mg (nJ PR.heap H):=⟨hKb,nsK hns,⟨mb,nsK hb,hbb⟩,let ⟨mc,h1,h2⟩:=hlim;⟨mc,nsK h1,h2⟩⟩;have e0:yl P w K mg (nJ PR.heap H) Ng [] PR H:=⟨rfl,hM,λb o e=>y3 e,O8 (u4 _ _),trivial,λb hb=>absurd (show b∈([]:List E1) from hb) (by simp),hok,.of_eq hg⟩
  refine J2 ((F _ hKb (nsK hns)).run Ng [] PR H ⟨[.ref a],[]⟩ [.ref a] [.ref a] _ _ hr e0 (hbind PR (.ref a)) (.cons rfl .nil) (Q4 H hO hS)) λr s' h=>?_
  cases r with
  |error e=>exact (hCX H e s' h).elim
  |ok fl=>
   cases fl with
   |next=>exact False.elim h
   |brk=>exact False.elim h
   |cont=>exact False.elim h
   |ret u=>
    obtain⟨v,H',os,bare,un,hok',r',q⟩:=h;have q':v=.bl true:=q;subst q';obtain rfl:u=F2 true:=r';refine⟨rfl,OldK.of_keep λb o e=>?_,os,bare⟩
    cases q:H b with
    |none=>exact un.keep b o e q (by intro z;exact absurd (show b∈([]:List E1) from z) (by simp)) (by simp)
    |some u=>
     rcases hO b with z |⟨ob,xs,z⟩
     ·rw[q]at z;cases z
     ·have z2:=un.frzs b ob _ z;obtain⟨e1,_⟩:=hok b _ z;obtain⟨e2,_⟩:=hok' b _ z2;rw[e]at e1;cases e1;exact e2
 cases hk:K.lookup a with
 |some o=>
  have e:=KX a o hk;rw[ha]at e;cases e;refine core (λ_=>none) (λ_=>.inl rfl) (.inr ⟨_,vs.toArray,_,hk,rfl,rfl,rfl,by rw[E7,lenV];exact hl,by simpa using rv⟩) (λb u z=>by have z':(none:Option HO)=some u:=z;cases z') (λb z=>absurd rfl z) λz=>absurd rfl z
 |none=>
  refine core (λb=>if b=a then some (.frz {cls:=.type "list",data:=.seq vs.toArray } (.lst (ns.map V.int))) else none) (λb=>?_) (.inl (.inr ⟨{cls:=.type "list",data:=.seq vs.toArray },if_pos rfl⟩)) (λb u z=>?_) (λb z=>?_) λ_=>hk
  ·by_cases hb:b=a
   ·exact .inr ⟨_,_,if_pos hb⟩
   ·exact .inl (if_neg hb)
  ·by_cases hb:b=a
   ·have z':=(if_pos hb).symm.trans z;cases z';subst hb;exact⟨ha,by rw[EM];exact hl,vs,_,rv,ha⟩
   ·have z':=(if_neg hb).symm.trans z;cases z'
  ·by_cases hb:b=a
   ·exact hb
   ·exact absurd (if_neg hb) z
abbrev KOf{K:EL}{h:Gz}(_:K.In h):EL:=K
end L2
namespace L2
open PySem PySem.Spec PyProof.Rows
def bW(s:Hr):Arguments:=match s with
 | .FunctionDef _ a _ _ _ _ _ _ _ _=>a
 |_=>{posonlyargs:=[],args:=[],vararg:=none,kwonlyargs:=[],kw_defaults:=[],kwarg:=none,defaults:=[] }
def bI(s:Hr):List Hr:=match s with
 | .FunctionDef _ _ b _ _ _ _ _ _ _=>b
 |_=>[]
def aj(s:Hr):Ju:=match s with
 | .FunctionDef _ _ _ _ _ _ sc _ _ _=>sc
 |_=>{kind:=.function,names:=[],isGenerator:=false,isCoroutine:=false }
abbrev CX0:CXT:=λ_ _ _ _ _ _=>False
abbrev E0:XK:=λ_ _ _=>False
structure Fun(K:EL)(x PM:Str)(st:Hr)(f:E1)(fd:Ga):Prop where
 ex:∃(oc:EU) (od:Option E1) (kV QK pm:EU) (an:Option E1) (PV ct:EU) (Rv:Array (Option EU)),
  fd=HC x PM (bW st) (bI st) (aj st) .none kV QK pm an PV ct/\K.lookup f=some ⟨oc,od,.func fd,Rv⟩/\JV K PV PM=true
 kp:Ho K (.ref f)=true
section
variable {P:E2}{w:Fs}{K:EL}{mg:Str→Option EU}{base:Gz}
theorem Fun.binds{x PM:Str}{st:Hr}{f:E1}{fd:Ga}{ps:List Str}(F:Fun K x PM st f fd)
  (h:∀(kV QK pm:EU) (an:Option E1) (PV ct:EU) (us:List EU),us.length=ps.length->JU (HC x PM (bW st) (bI st) (aj st) .none kV QK pm an PV ct) ⟨us,[]⟩=pure (ps.zip us)):dt K fd ps []:=by
 obtain⟨oc,od,kV,QK,pm,an,PV,ct,Rv,rfl,lk,QD⟩:=F.ex;exact .all (h kV QK pm an PV ct)
theorem xZ{x PM:Str}{st:Hr}{f:E1}{oc:EU}{od an:Option E1}{Rv:Array (Option EU)}{kV QK pm PV ct:EU}(l:K.lookup f=some ⟨oc,od,.func (HC x PM (bW st) (bI st) (aj st) .none kV QK pm an PV ct),Rv⟩)
  (c:JV K PV PM=true) (k:Ho K (.ref f)=true):Fun K x PM st f (HC x PM (bW st) (bI st) (aj st) .none kV QK pm an PV ct):=⟨⟨oc,od,kV,QK,pm,an,PV,ct,Rv,rfl,l,c⟩,k⟩
end
theorem aE{n:Nat}(h:n<=1000):n<sizeLine:=IE h (by decide)
section
variable {X:Cx}
end
theorem m_{A B:Prop}(h:B):if false=true then A else B:=by
 rw[if_neg Fn];exact h
theorem nj{A B:Prop}(h:A):if true=true then A else B:=by
 rw[if_pos rfl];exact h
def aJ(H H':Hp):Prop:=∀b o,H b=some o->H' b=some o
theorem aJ.refl(H:Hp):aJ H H:=λ_ _ h=>h
theorem aJ.trans{H H1 H2:Hp}(a:aJ H H1)(b:aJ H1 H2):aJ H H2:=λc o h=>b c o (a c o h)
theorem aJ.free{H H':Hp}(e:aJ H H'){l:E1}(h:H' l=Pl):H l=Pl:=by
 cases q:H l with
 |none=>rfl
 |some o=>
  rw[e l o q]at h;cases h
theorem aJ.seq{K:EL}{H H':Hp}{a:E1}{xs:List V}(e:aJ H H')(h:SqL K H a xs):SqL K H' a xs:=by
 rcases h with (h |⟨o,h⟩) |h
 ·exact .inl (.inl (e _ _ h))
 ·exact .inl (.inr ⟨o,e _ _ h⟩)
 ·exact .inr h
def Sz(m:Nat)(x:Int):Prop:=x.natAbs<2 ^ m
theorem Sz.mono{m n:Nat}{x:Int}(h:Sz m x)(SQ:m<=n):Sz n x:=Fx h (Je (by decide) SQ)
theorem Sz.neg{m:Nat}{x:Int}(h:Sz m x):Sz m (-x):=by unfold Sz at *;rw[Int.natAbs_neg];exact h
theorem Sz.add{m:Nat}{x y:Int}(hx:Sz m x)(hy:Sz m y):Sz (m+1) (x+y):=by
 unfold Sz at *;have:=Int.natAbs_add_le x y;rw[HD];lia
theorem Sz.sub{m:Nat}{x y:Int}(hx:Sz m x)(hy:Sz m y):Sz (m+1) (x-y):=by
 rw[Int.sub_eq_add_neg];exact hx.add hy.neg
theorem Sz.mul{m n:Nat}{x y:Int}(hx:Sz m x)(hy:Sz n y):Sz (m+n) (x*y):=by
 unfold Sz at *;rw[JW,Pm];exact Nat.mul_lt_mul'' hx hy
theorem Sz.le{m:Nat}{x y:Int}(h:x.natAbs<=y.natAbs)(hy:Sz m y):Sz m x:=IE h hy
theorem Sz.ediv{m:Nat}{x y:Int}(hx:Sz m x):Sz m (x/y):=Sz.le (Int.natAbs_ediv_le_natAbs x y) hx
theorem Sz.abs{m:Nat}{x:Int}(hx:Sz m x):Sz m (if x<0 then -x else x):=by split;exact hx.neg;exact hx
instance (m:Nat) (x:Int):Decidable (Sz m x):=inferInstanceAs (Decidable (x.natAbs<2 ^ m))
theorem Sz.add'{m n:Nat}{x y:Int}(hx:Sz m x)(hy:Sz n y):Sz (max m n+1) (x+y):=(hx.mono (NR m n)).add (hy.mono (NB m n))
theorem Sz.sub'{m n:Nat}{x y:Int}(hx:Sz m x)(hy:Sz n y):Sz (max m n+1) (x-y):=(hx.mono (NR m n)).sub (hy.mono (NB m n))
theorem Sz.lit{m:Nat}{x:Int}(h:Sz m x):Sz m x:=h
theorem Sz.ok{m n:Nat}{x y:Int}(hx:Sz m x)(hy:Sz n y)(h:m+n<=134217728):IntMulOk x y:=
 PyProof.Rows.mulOk_of_bits (intBits_le_iff.mpr hx) (intBits_le_iff.mpr hy) h
theorem Sz.log{m:Nat}{x:Int}(h:Sz m x)(hm:m<=9000)(h0:x≠0):x.natAbs.log2<9000:=by
 have q:=(Nat.log2_lt (by lia)).mpr (show x.natAbs<2 ^ m from h)
 lia
def Bl(_ j:Int):Prop:=0<j/\Sz 9000 j
def Bn(_ j:Int):Prop:=j≠0/\Sz 9000 j
section
variable {X:Cx}{a b c:Expr}{ta tb tc:TE}{pos:Pos}
theorem yS:OpR X (JS .Mult) (rI IntMulOk λi j=>.int (i*j)):=opI λ_ _ _ _ _ _ _ hc q=>mul_int q hc
theorem wE:OpR X (JS .FloorDiv) (rI Bl λi j=>.int (i/j)):=opI λi j _ _ _ _ _ hc q=>by
 have h1:(0:Int)<j:=hc.1;exact floordiv_int (by lia) (by rw[Int.fdiv_eq_ediv_of_nonneg i (by lia)];exact q) (.inl (PyProof.noPylong_of_log2 (hc.2.log (by decide) (by lia))))
theorem xD:OpR X (JS .FloorDiv) (rI Bn λi j=>.int (i.fdiv j)):=opI λi j _ _ _ _ _ hc q=>
 floordiv_int hc.1 q (.inl (PyProof.noPylong_of_log2 (hc.2.log (by decide) hc.1)))
theorem C1{x:Str}{n:String}{pos:Pos}(hg:Gl X x)(hm:X.mg x=none)(hv:GU x=some (.type n))(hn:x≠"__name__":=by decide)(hd:(x==("__debug__":Str))=false:=by decide):PE X (.Name x pos) (tC (.ty n)):=
 Af hg hm hv rfl hn hd
end
theorem kit_int_int(K:EL):Jh K (.type "int") (.type "int")=some true:=rfl
theorem kit_int_bool(K:EL):Jh K (.type "int") (.type "bool")=some false:=rfl
theorem kit_tuple_tuple(K:EL):Jh K (.type "tuple") (.type "tuple")=some true:=rfl
theorem kit_list_list(K:EL):Jh K (.type "list") (.type "list")=some true:=rfl
def Its(lo c:Int)(n:Nat):It:=⟨λi _=>i<n,λi H x H'=>H'=H/\x=.int (lo+(i:Nat) *c),λi _=>n<=i⟩
theorem n_{P:E2}{w:Fs}{K:EL}{tg:Expr}(it:E1)(lo c:Int)(n:Nat):pY P w K tg (Its lo c n) [it] it (λi h=>Ln h it (lo+(i:Nat) *c) ((n:Int)-(i:Nat)) c) where
 mem:=by simp
 obj:=λi h st b hb=>by
  have e:b=it:=by simpa using hb
  subst e
  exact⟨_,st,λv z=>by
   have z':Data.fields _=Data.cell v:=z;cases z'⟩
 keep:=λi h h' st k=>k it (by simp) _ st
 item:=by
  intro X hP hw hK hc i pins s σ H E I hf st hg;subst hP hw hK;obtain⟨f0,f1,f2,f3,f4,f5⟩:=hf it (by simp)
  have W:=Walks.range (prog:=X.prog) (w:=X.w) (I.ok.hd hc) it lo c n;refine W.item i s _ _ hg st λv h' tk hv Qw kk=>?_
  obtain⟨t,rfl⟩:=hv;have I1:Inv X pins σ H {s with heap:=h',toks:=tk }:=I.turned (λb o hb e=>kk b o (by simpa using hb) e) f0 f1 f3 f4 f5
  exact⟨_,rfl,pV (s:={s with heap:=h',toks:=tk }) (n:="range_iterator") Qw rfl rfl (by decide) ⟨.int (lo+(i:Nat) *c),H,I1,⟨t,rfl⟩,⟨rfl,rfl⟩,Qw,λb hb=>(hf b hb).1⟩⟩
 done:=by
  intro X hP hw hK hc i pins s σ H E I hf st hg;subst hP hw hK;obtain⟨f0,f1,f2,f3,f4,f5⟩:=hf it (by simp)
  exact LO (I.ok.hd hc) st (by have:n<=i:=hg;lia) λh' eb=>⟨rfl,I.turned (t':=s.toks) (λb o hb e=>eb b o hb e) f0 f1 f3 f4 f5⟩
 self:=λ_ _ _ _ _ st h=>LP st h
def fL(i j c:Int):Nat:=if i<j then ((j-i-1)/c+1).toNat else 0
theorem qo{a b c:Int}(ha:-(2 ^ 60)<=a)(ha':a<2 ^ 60)(hb:-(2 ^ 60)<=b)(RN:b<2 ^ 60)(hc:0<c)(Ru:c<2 ^ 60):Builtin.Range.small a b c=true:=by
 have q1:a<b->(b-a-1)/c<=b-a-1:=λh=>LF _ (by lia)
 have q2:a<b->0<=(b-a-1)/c:=λh=>L6 (by lia) (by lia)
 unfold Builtin.Range.small Builtin.Range.rangeSize;simp only[Builtin.Range.rangeFitsLong,Gv,L7,decide_eq_true_eq,beq_iff_eq,show c >0 from hc,if_true]
 split
 ·have:=q1 (by assumption);have:=q2 (by assumption);lia
 ·lia
section
variable {X:Cx}{tg:Expr}
def DA(ta:TA):TI:=λσ H R=>ta σ H λvs H1=>∃i j c:Int,vs=[.int i,.int j,.int c]/\(-(2 ^ 60)<=i/\i<2 ^ 60/\-(2 ^ 60)<=j/\j<2 ^ 60/\0<c/\c<2 ^ 30)/\R (Its i c (fL i j c)) H1
theorem ut{a b c:Expr}{ta:TA}{p pos:Pos}(hg:Gl X "range")(hm:X.mg "range"=none)(ha:PA X [a,b,c] ta)(hs:E4 [a,b,c] X.env=[(false,HE a X.env),(false,HE b X.env),(false,HE c X.env)]:=by rfl)
  (Qq:E4 [b,c] X.env=[(false,HE b X.env),(false,HE c X.env)]:=by rfl):
  PI X tg (.Call (.Name "range" p) [a,b,c] [] pos) (DA ta):=by
 intro pins s σ H R I h;refine Call_ (ca I hg hm Mr (PyProof.Rows.callWith_type1 (thn (ha pos pins s σ H _ I h) λus s1 ⟨vs,H1,I1,r1,q1⟩=>?_) (by rw[hs,Qq]) (by rw[Qq];rfl)))
 obtain⟨i,j,k,e,⟨q1,q2,q3,q4,q5,q6⟩,q⟩:=q1;subst e;cases r1 with
 |cons r rr=>
  cases rr with
  |cons r' rr=>
   cases rr with
   |cons r'' rr=>
    cases rr;obtain⟨t,rfl⟩:=r;obtain⟨t',rfl⟩:=r';obtain⟨t'',rfl⟩:=r'';refine call_range_3 (by lia) ?_ (.inl (PyProof.noPylong_small (by lia)))
    refine KB (IsRange.new ..) (qo q1 q2 q3 q4 q5 (by lia)) ?_
    have I2:Inv X pins σ H1 {s1 with heap:=s1.heap.push {cls:=.type "range",data:=.fields #[.int i t,.int j t',.int k t''] },toks:=s1.toks }:=I1.kept λb o e=>EN _ e
    refine⟨(s1.heap.push {cls:=.type "range",data:=.fields #[.int i t,.int j t',.int k t''] }).objs.size,[(s1.heap.push {cls:=.type "range",data:=.fields #[.int i t,.int j t',.int k t''] }).objs.size],_,_,H1,rfl,
     I2.kept (t':=s1.toks) λb o e=>EN _ e,n_ _ i k (fL i j k),?_,λb hb=>?_,q⟩
    ·have e1:i+((0:Nat):Int) *k=i:=by simp
     have e2:((fL i j k:Nat):Int)-((0:Nat):Int)=Builtin.Range.rangeSize i j k:=by
      unfold fL Builtin.Range.rangeSize;rw[if_pos (show k >0 from q5)]
      by_cases QR:i<j
      ·rw[if_pos QR,if_pos QR];have:0<=(j-i-1)/k:=L6 (by lia) (by lia)
       lia
      ·rw[if_neg QR,if_neg QR] <;>lia
     show Ln _ _ (i+((0:Nat):Int) *k) (((fL i j k:Nat):Int)-((0:Nat):Int)) k;rw[e1,e2];exact E3 _ rfl
    ·have e:b=(s1.heap.push {cls:=.type "range",data:=.fields #[.int i t,.int j t',.int k t''] }).objs.size:=by simpa using hb
     subst e;exact I2.fpOk (EX _) (I2.hok.fresh (EX _))
end
theorem aM{H:Hp}{p:E1}(h:H p=none)(o:HO):aJ H (upd H p o):=λb u q=>by rw[aT (cH q h)];exact q
theorem aJ.put{H H':Hp}{l:E1}(e:aJ H H')(h:H l=none)(o:HO):aJ H (upd H' l o):=λb u q=>by rw[aT (cH q h)];exact e b u q
theorem aJ.tup{K:EL}{H H':Hp}{a:E1}{xs:List V}(e:aJ H H')(h:SqT K H a xs):SqT K H' a xs:=by
 rcases h with (h |⟨o,h⟩) |h
 ·exact .inl (.inl (e _ _ h))
 ·exact .inl (.inr ⟨o,e _ _ h⟩)
 ·exact .inr h
end L2
namespace L2
open PySem PySem.W PySem.Calls PySem.Spec PyProof.Rows
theorem n8{ns:List Int}(h:WData.layableAll [WData.list (ns.map WData.int)]=true):∀n∈ns,Sz 1048576 n:=by
 intro n hn;have h1:=(PySem.W.layableW_arg h) _ (E5.mpr rfl);have h2:=PySem.W.layableW_item h1 (WData.int n) (EV.mpr ⟨n,hn,rfl⟩);have h3:=(PySem.W.layableW_iff.mp h2).2.2;have h4:Builtin.Int.intBits n<=1048576:=by simpa only[WData.weight,Builtin.Int.intBits] using h3
 exact intBits_le_iff.mp h4
theorem mH{l:NS}{n:Nat}{q:E2}{Rx:List Str}{XP:(Str->Option EU)->Gz->Prop}{YP:Fs->Gz->Prop}{d:DefRec}
  (hn:l.most=some n) (hdf:d.params.defaults=[])
  (call:∀(w:Fs) (s₀ PR:ER) (mg mb:Str->Option EU) (fa:E1) (o:Obj) (pm cd QK:EU) (a:E1) (vs:List EU) (ns:List Int),
   PySem.W.Ground q Rx [] XP w s₀ mg mb PR.heap->YP w PR.heap->
   PR.heap.get? fa=some o->o.data=.func (docDef d.name d.params d.body d.scope pm cd QK)->PR.heap.CodeRec cd d.name->mg d.name=some (.ref fa)->
   PR.heap.get? a=some {cls:=.type "list",data:=.seq vs.toArray }→OS vs ns→ns.length≤n→(∀m∈ns,Sz 1048576 m)→PR.gens=#[]→
   IJ (FF l.prog w) Ng (.call (.ref fa) ⟨[.ref a],[]⟩) (λr s'=>r=.ok (.ret (.bool true))/\OldK PR.heap s'.heap/\s'.os=PR.os/\Ll s'.gens) PR):
  OT q Rx XP YP l.row.toRowW d [] (λf vs=>Py f vs):=by
 intro w s₀ PR mg mb G Y fa o pm cd QK dV kV ho hd QD hD hmg hg args vals as Ro hlay hrd hwl hlo;obtain rfl:dV=.none:=Pu hD hdf;obtain rfl:kV=.none:=Pv hD;obtain⟨a,vs,ns,rfl,rfl,hobj,RO,PL⟩:=Att.script_of hn Ro hwl;refine PySem.W.enter_call (J2 (call w s₀ PR mg mb fa o pm cd QK a vs ns G Y ho (PySem.W.fd_plain hd) QD hmg hobj RO PL (n8 hlay) hg) λr s' hq=>?_)
 obtain⟨rfl,h2,h3,h4⟩:=hq;exact⟨.inl ⟨.bool true,.bool true,[],rfl,λ_=>rfl,.bool true,Att.post_true l _,λ_=>⟨IX,λ_ hm=>(nomatch hm)⟩⟩,h2,h3,h4⟩
theorem walk_ofB{l:NS}{n k:Nat}{q:E2}{Rx:List Str}{XP:(Str->Option EU)->Gz->Prop}{YP:Fs->Gz->Prop}{d:DefRec}{K:Params->EL}{CX:CXT}{sp:EL->Sp}{x:Str}
  (hn:l.most=some n) (hn2:n<=sizeLine) (hdf:d.params.defaults=[]) (hr:d6 k Ng)
  (hY:∀(w:Fs) (h:Gz),YP w h->(K w.params).In h)
  (F:∀(w:Fs) (mg:Str->Option EU) (fa:E1) (h:Gz),(K w.params).In h->h.Ns GS mg->mg d.name=some (.ref fa)->
   ∃fd:Ga,(∀(s:ER) (u:EU),Nc s fd ⟨[u],[]⟩ [(x,u)])/\
    ∀base:Gz,(K w.params).In base->base.Ns GS mg->a9 l.prog w (K w.params) mg base CX k fa fd [x] (sp (K w.params)))
  (Q4:∀(K:EL) (H:Hp) (a:E1) (ns:List Int),ns.length<=n->(∀m∈ns,Sz 1048576 m)->Aw H->SqL K H a (ns.map V.int)->sp K [.ref a] H (λv _=>v=.bl true) λ_ _ _=>False)
  (hCX:∀(H:Hp) (s:ER) (e:EU) (s':ER),CX [] H s (λ_ _ _=>False) e s'->False):
  OT q Rx XP YP l.row.toRowW d [] (λf vs=>Py f vs):=by
 refine mH hn hdf λw s₀ PR mg mb fa o pm cd QK a vs ns G Y ho hd QD hmg hobj RO PL hbits hg=>?_
 have KX:=hY w _ Y;obtain⟨fd,hb,hF⟩:=F w mg fa _ KX G.T.g hmg;exact wc KX G.T.g G.T.b G.T.builtins G.T.nolimit hg hobj RO (GJ PL hn2) hr hF hb (λH hO hS=>Q4 _ H a ns PL hbits hO hS) λH e s'=>hCX H PR e s'
end L2
namespace L2
theorem nQ{α:Type}{xs:List α}{k:Int}{i:Nat}{v:α}(e:k=(i:Int))(h:xs[i]?=some v):atI xs k=some v:=by subst e;exact rZ h
theorem Sz.natle{m:Nat}{x y:Int}(hy:Sz m y)(h:x.natAbs<=y.natAbs):Sz m x:=Sz.le h hy
end L2
namespace L2
open PySem PySem.Spec PyProof.Rows
abbrev aA(X:Cx)(PF:Ju)(cl:List (Str×E1))(C:E1)(s:ER)(H:Hp)(fp:List E1):Cx:=
 {X with s₀:=s,H₀:=H,env:=Ms PF cl C X.env,outer:=X.stack,ex:=fp,fn:=λ_=>false,pn:=[],xe:=λ_ _=>False }
def mask:List Nat->St->St
 |[],σ=>σ
 |i::is,σ=>mask is (σ.set i none)
theorem ff:∀(is:List Nat) (σ:St),(mask is σ).length=σ.length
 |[],_=>rfl
 |i::is,σ=>by rw[mask,ff is];simp
theorem fg:∀(is:List Nat) (σ:St) (j:Nat) (v:V),(mask is σ)[j]?=some (some v)->σ[j]?=some (some v)/\j ∉ is
 |[],σ,j,v,h=>⟨h,by simp⟩
 |i::is,σ,j,v,h=>by
  obtain⟨h1,h2⟩:=fg is _ j v h;by_cases e:i=j
  ·subst e;rw[K9]at h1;simp at h1
  ·rw[Fz e]at h1;exact⟨h1,by simp[Ne.symm e,h2]⟩
structure cF(X:Cx)(PF:Ju)(cl:List (Str×E1))(is:List Nat):Prop where
 clos:OM PF X.env=pure cl
 cell:∀y∈PF.names,y.2≠.cell
 kind:PF.kind=.function
 names:∀y∈PF.names,y.2=.local->PF.names.lookup y.1=some .local
 cls:∀x c,cl.lookup x=some c->X.env.cells.lookup x=some c
 free:∀x,((NT PF X.env).names.lookup x=some .cell\/(NT PF X.env).names.lookup x=some .free)->Vis X.env.scope x/\X.env.scope.names.lookup x≠some .local/\∃c,cl.lookup x=some c
 own:∀i x,X.N[i]?=some x->(NT PF X.env).names.lookup x=some .local->i∈is
def xh(J:It)(is:List Nat)(g:TG)(te:TE)(σ:St)(H1:Hp)(l:E1)(Q:VK):Prop:=
 ∃W:Nat->Nat->Hp->Prop,(∃m,W 0 m (upd H1 l (.lst [])))/\∀i m H2,W i m H2->
  (J.stop i H2/\Q (.ref l) H2)\/(J.go i H2/\∀x H3,J.yld i H2 x H3->g x (mask is σ) H3 λRk H4=>te Rk H4 λy H5=>
   (∀(j:Nat) (v:V),(mask is σ)[j]?=some (some v)->Rk[j]?=some (some v))/\∃vs,H5 l=some (.lst vs)/\vs.length<sizeLine/\∃m',m'<m/\W (i+1) m' (upd H5 l (.lst (vs++[y]))))
def sC(is:List Nat)(g:TG)(te:TE)(σ:St)(Q:VK)(J:It)(H1:Hp):Prop:=∀l,H1 l=none->xh J is g te σ H1 l Q
def A8(is:List Nat)(wi:TI)(g:TG)(te:TE):TE:=λσ H Q=>wi σ H (sC is g te σ Q)
section
variable {X:Cx}{pins:List (E1×Obj)}{σ:St}{H:Hp}{s:ER}
theorem iZ{PF:Ju}{cl:List (Str×E1)}{is:List Nat}{fp:List E1}{h₁:Gz}{m:Str->Option EU}{t':Nat}(I:Inv X pins σ H s)(B:cF X PF cl is)(hf:∀b∈fp,iM X pins H b)(hfl:∀b∈fp,b<s.heap.objs.size)
  (hn:h₁.Ns s.heap.objs.size m) (hk:∀b o,s.heap.get? b=some o->h₁.get? b=some o):
  Inv (aA X PF cl s.heap.objs.size s H fp) [] (mask is σ) H {s with heap:=h₁,toks:=t' }:=by
 refine⟨⟨I.ok.mod,B.kind,I.ok.glob,I.ok.blt,EX _,λx y c h1 h2=>I.ok.inj x y c (B.cls x c h1) (B.cls y c h2),λx hx=>(B.free x hx).2.2,λx c h=>(by cases h),I.ok.hd,I.ok.frames,.inl rfl,λb hb=>⟨Fy (hfl b hb),λx c e=>(hf b hb).2.2.2.2.1 x c (B.cls x c e)⟩,
  I.bs,GJ I.ok.bsz I.sz,λb o e hb=>?_,λb hb z=>?_,I.stack,I.stkFree⟩,rfl,I.bare,Un.kept hk,⟨m,hn,λi x v h1 h2 h3=>?_⟩,λx c e=>?_,I.hok.fresh (EX _),λx c e=>I.freeC x c (B.cls x c e),λp hp=>absurd (show p∈([]:List (E1×Obj)) from hp) (by simp),I.hok.kept hk,?_⟩
 ·rcases (hf b hb).2.2.2.1 with z |z
  ·exact I.ok.noex b o e z
  ·exact absurd (Fx (EZ e) (GJ I.ok.bsz z)) (FG _)
 ·rcases ET.mp (I.stkSub b z) with e |e
  ·exact (hf b hb).2.1 e
  ·exact (hf b hb).2.2.1 e
 ·obtain⟨e2,ni⟩:=fg is σ i v h2;have QN:(NT PF X.env).names.lookup x=some .local\/(NT PF X.env).names.lookup x=some .cell\/(NT PF X.env).names.lookup x=some .free:=h3;rcases QN with z |z
  ·exact absurd (B.own i x h1 z) ni
  ·obtain⟨hv,hnl,c,hc⟩:=B.free x z;obtain⟨m0,_,hl⟩:=I.loc;obtain⟨u,r,l⟩:=hl i x v h1 e2 hv;refine⟨u,r,.inr ⟨z,c,hc,?_⟩⟩;rcases l with ⟨k,_⟩ |⟨_,c',Ru,o,ho,hd⟩
   ·exact absurd k hnl
   ·have ec:=B.cls x c hc;rw[Ru]at ec;cases ec;exact⟨o,hk _ _ ho,hd⟩
 ·obtain⟨v,o,ho,hd⟩:=I.cell x c (B.cls x c e);exact⟨v,o,hk _ _ ho,hd⟩
 ·show (mask is σ).length=X.N.length;rw[ff];exact I.len
theorem oO{Ql iter tg:Expr}{PF:Ju}{cl:List (Str×E1)}{pos pos0:Pos}{is:List Nat}{g:TG}{te:TE}{use:Option (EU->Sem Unit)}{Q0:VK}{Q:EU->ER->Prop}(hc:X.calm=true)(B:cF X PF cl is)
  (hg:∀C s H fp,PG (aA X PF cl C s H fp) tg g) (he:∀C s H fp,PE (aA X PF cl C s H fp) Ql te) (hs:∀x,Gg iter X.env x=pure x)
  (I:Inv X pins σ H s) (hi:Fd (FF X.prog X.w) X.A (HE iter X.env) (λv s1=>Fd (FF X.prog X.w) X.A (Nq v) (PIE X pins σ tg (sC is g te σ Q0)) X.xe s1) X.xe s)
  (P4:∀(l C:E1) (H':Hp) (s':ER) (m:Str->Option EU),Inv X pins σ H' s'->s'.heap.Ns C m->H' C=none->C≠X.env.locals->C ∉ X.fs->X.s₀.heap.objs.size<=C->(∀x c,X.env.cells.lookup x=some c->c≠C)->(∀p∈X.pn++pins,p.1≠C)->Q0 (.ref l) H'->
   OU (FF X.prog X.w) X.A X.xe use Q (.ref l) C (.ok .next) s'):
  Fd (FF X.prog X.w) X.A (MW (.ListComp Ql [⟨tg,iter,[],0⟩] PF pos) PF X.env pos0 (newList []) false (HE iter X.env) use) Q X.xe s:=by
 refine K_ rfl hs B.clos B.kind B.names (thn hi λxv s1 h1=>thn h1 λitv s2 h2=>?_)
 obtain⟨it,fp,tn,J,H2,e,I2,T,st2,f2,R⟩:=h2;subst e;refine GX (Mu B.cell (by intro y hy;simp at hy) (λh₁ hns Q8=>?_) B.kind)
 have hl:H2 s2.heap.objs.size=none:=I2.hok.fresh (EX _);obtain⟨W,⟨m0,w0⟩,turn⟩:=R s2.heap.objs.size hl
 have I3:Inv X pins σ (upd H2 s2.heap.objs.size (.lst [])) {s2 with heap:=s2.heap.push {cls:=.type "list",dict:=none,data:=.seq ([]:List EU).toArray } }:=
  I2.laid (t':=s2.toks) (o:=.lst []) (λb u e=>EN _ e) (EX _) ⟨FX _,[],0,.nil,E3 _ rfl⟩
 have hfl:∀b∈fp,b<s2.heap.objs.size:=λb hb=>let ⟨o,e,_⟩:=T.obj 0 _ st2 b hb;EZ e
 have f3:∀b∈fp,iM X pins (upd H2 s2.heap.objs.size (.lst [])) b:=λb hb=>⟨by rw[aT (Fy (hfl b hb))];exact (f2 b hb).1,(f2 b hb).2⟩
 have kp:∀b o,(s2.heap.push {cls:=.type "list",dict:=none,data:=.seq ([]:List EU).toArray }).get? b=some o→h₁.get? b=some o:=λb o e=>
  Q8.extBut b o (Fy (EZ e)) (EN _ e)
 have st4:tn 0 h₁:=T.keep 0 _ _ st2 λb _ o e=>kp b o (EN _ e)
 have hfl3:∀b∈fp,b<(s2.heap.push {cls:=.type "list",dict:=none,data:=.seq ([]:List EU).toArray }).objs.size:=λb hb=>by
  rw[Gb];exact GY (hfl b hb)
 have I4:=iZ (t':=s2.toks+([]:List (Str×EU)).length) I3 B f3 hfl3 hns kp
 have loop:IJ (FF X.prog X.w) X.A (.compLoop (.ListComp Ql [⟨tg,iter,[],0⟩] PF pos) 0 (.ref it) (.ref s2.heap.objs.size) (Ms PF cl (s2.heap.push {cls:=.type "list",dict:=none,data:=.seq ([]:List EU).toArray }).objs.size X.env))
   (OU (FF X.prog X.w) X.A X.xe use Q (.ref s2.heap.objs.size) (s2.heap.push {cls:=.type "list",dict:=none,data:=.seq ([]:List EU).toArray }).objs.size)
   {s2 with heap:=h₁,toks:=s2.toks+([]:List (Str×EU)).length }:=by
  generalize Rq:({s2 with heap:=s2.heap.push {cls:=.type "list",dict:=none,data:=.seq ([]:List EU).toArray } }:ER)=s3 at *
  have hC:(s2.heap.push {cls:=.type "list",dict:=none,data:=.seq ([]:List EU).toArray }).objs.size=s3.heap.objs.size:=by rw[←Rq]
  rw[hC]
  have QZ:∀{H':Hp},(∀b∈fp,H' b=none)->∀b∈fp,iM (aA X PF cl s3.heap.objs.size s3 (upd H2 s2.heap.objs.size (.lst [])) fp) [] H' b:=λhn b hb=>
   ⟨hn b hb,(I4.ok.exf b hb).1,I4.ok.exfs b hb,.inl hb,λx c e=>(I4.ok.exf b hb).2 x c e,λp hp=>absurd (show p∈([]:List (E1×Obj)) from hp) (by simp)⟩
  have back:∀{P5:St}{H':Hp}{pp:List (E1×Obj)}{s':ER},Inv (aA X PF cl s3.heap.objs.size s3 (upd H2 s2.heap.objs.size (.lst [])) fp) pp P5 H' s'->Inv X pins σ H' s':=λI'=>
   I3.call' (ch:=fp) I'.os I'.base I'.hok I'.bare λb hb=>⟨(f3 b hb).2.2.2.1,(f3 b hb).2.1,(f3 b hb).2.2.2.2.1,(f3 b hb).2.2.2.2.2⟩
  refine codeAny_loop rfl (λn s'=>∃i H',Inv (aA X PF cl s3.heap.objs.size s3 (upd H2 s2.heap.objs.size (.lst [])) fp) [] (mask is σ) H' s'/\tn i s'.heap/\(∀b∈fp,H' b=none)/\W i n H') ?_ m0 ⟨0,_,(by subst Rq;exact I4),st4,λb hb=>(f3 b hb).1,w0⟩
  rintro n s5 ⟨i,H5,I5,Sk,fr5,w5⟩;show Fd _ _ ((compTurn (.ListComp Ql [⟨tg,iter,[],0⟩] PF pos) 0 (.ref it) (.ref s2.heap.objs.size) (Ms PF cl s3.heap.objs.size X.env)).onRaise (λx=>do noteFrame x (Ms PF cl s3.heap.objs.size X.env);NU x)) _ _ s5
  refine wpAny_noted ?_;rw[compTurn_list1];refine EJ (Lm (EJ ?_));rcases turn i n H5 w5 with ⟨stop,q⟩ |⟨go,step⟩
  ·refine thn (T.done (aA X PF cl s3.heap.objs.size s3 (upd H2 s2.heap.objs.size (.lst [])) fp) rfl rfl rfl hc i [] s5 _ H5 _ I5 (QZ fr5) Sk stop) λr s6 ⟨hr,I6⟩=>?_
   subst hr;refine EO ?_;obtain⟨m6,hn6,_⟩:=I6.loc;have hCn:∀b,b<s3.heap.objs.size->b≠s3.heap.objs.size:=λb hb=>Fy hb
   refine P4 _ s3.heap.objs.size H5 s6 m6 (back I6) hn6 I6.free (Hs I3.lt) (I3.nofs (EX _)) I3.sz (λx c e=>?_) (λp hp=>?_) q
   ·obtain⟨v,z⟩:=I3.cell x c e;exact Fy z.lt
   ·exact Fy (EZ (I3.pin p hp).1)
  ·refine thn (T.item (aA X PF cl s3.heap.objs.size s3 (upd H2 s2.heap.objs.size (.lst [])) fp) rfl rfl rfl hc i [] s5 _ H5 _ I5 (QZ fr5) Sk go) λr s6 ⟨u,hr,h6⟩=>?_
   subst hr;refine EJ (thn h6 λ_ s7 ⟨x,H7,I7,r7,y7,st7,fr7⟩=>?_)
   have I7':=I7.pinned (QZ fr7) (T.obj _ _ st7);refine EJ (HS (hg _ _ _ _ _ s7 (mask is σ) H7 x u _ I7' r7 (step x H7 y7)) (λ_ s8 ⟨σ8,H8,I8,q8⟩=>?_) λ_ _ z=>z.elim)
   refine EJ (EJ (HS (he _ _ _ _ _ s8 σ8 H8 _ I8 q8) (λv s9 ⟨y,H9,I9,r9,sub,vs,hl9,hz,m',hm,w'⟩=>?_) λ_ _ z=>z.elim))
   refine EJ (HS (iP (X:=aA X PF cl s3.heap.objs.size s3 (upd H2 s2.heap.objs.size (.lst [])) fp) _ s9 σ8 H9 (.ref s2.heap.objs.size) [y] (.ref s2.heap.objs.size) [v] (λ_ H'=>H'=upd H9 s2.heap.objs.size (.lst (vs++[y]))) I9 rfl (.cons r9 .nil) ⟨_,vs,y,rfl,rfl,hl9,hz,rfl⟩) (λz s10 ⟨zv,H10,I10,_,e10⟩=>?_) λ_ _ z=>z.elim)
   subst e10;refine EO (EO ⟨rfl,m',hm,i+1,_,(I10.unpinned (pins:=[])).weak (by rw[I10.len,ff,I.len]) sub,T.keep _ _ _ st7 λb hb o e=>(I10.pin (b,o) (Fg _ (Fg _ (c8 hb e)))).1,λb hb=>?_,w'⟩)
   obtain⟨o,e,d⟩:=T.obj _ _ st7 b hb;exact (I10.pin (b,o) (Fg _ (Fg _ (c8 hb e)))).2.1
 exact LS loop (T.self X.A 0 _ _ _ st4 loop)
theorem sO{Ql iter tg:Expr}{PF:Ju}{cl:List (Str×E1)}{pos:Pos}{is:List Nat}{wi:TI}{g:TG}{te:TE}(hc:X.calm=true)(B:cF X PF cl is)
  (hi:PI X tg iter wi) (hg:∀C s H fp,PG (aA X PF cl C s H fp) tg g) (he:∀C s H fp,PE (aA X PF cl C s H fp) Ql te) (hs:∀x,Gg iter X.env x=pure x:=by intro _;rfl):
  PE X (.ListComp Ql [⟨tg,iter,[],0⟩] PF pos) (A8 is wi g te):=by
 intro pins s σ H Q I h;rw[eval_ListComp];refine oO (use:=none) hc B hg he hs I (hi pins s σ H _ I h) λl C H' s' m I' hn h1 h2 h3 h4 h5 h6 q=>⟨m,hn,λh' Q8=>?_⟩
 exact⟨.ref l,H',I'.turned (t':=s'.toks) (λb o hb e=>Q8.extBut b o hb e) h1 (Ne.symm h2.symm) (.inr h4) h5 h6,rfl,q⟩
theorem qs{Ql iter tg:Expr}{PF:Ju}{cl:List (Str×E1)}{pos RB py:Pos}{y:Str}{j:Nat}{is:List Nat}{wi:TI}{g:TG}{te:TE}(hc:X.calm=true)(hN:X.N.Nodup)(hj:X.N[j]?=some y)(hy:Loc X.env.scope y)(B:cF X PF cl is)
  (hi:PI X tg iter wi) (hg:∀C s H fp,PG (aA X PF cl C s H fp) tg g) (he:∀C s H fp,PE (aA X PF cl C s H fp) Ql te) (hs:∀x,Gg iter X.env x=pure x:=by intro _;rfl)
  (hsw:Jv (.ListComp Ql [⟨tg,iter,[],0⟩] PF pos) (some (.Name y py)) RB.line X.env=pure true:=by rfl) (hf:X.fn y=true\/X.env.scope.names.lookup y=some .local:=by first |exact .inl rfl |exact .inr rfl |assumption):
  PS X (.Assign [.Name y py] (.ListComp Ql [⟨tg,iter,[],0⟩] PF pos) RB) (B1 (A8 is wi g te) (oC j)):=by
 intro pins s σ H D I h;rw[exec_Assign_Name_used _ _ _ _ hsw];refine EJ (Lm (EJ ?_));show Fd _ X.A (do let _ <-MW (.ListComp Ql [⟨tg,iter,[],0⟩] PF pos) PF X.env _ (newList []) false (HE iter X.env) (some (Np (.Name y py) X.env))) _ _ s
 refine EJ (HS (oO (Q0:=λv H'=>D.nx (σ.set j (some v)) H') (use:=some (Np (.Name y py) X.env)) (Q:=λ_ s'=>SP X pins D .next s') hc B hg he hs I (hi pins s σ H _ I h) λl C H' s' m I' hn h1 h2 h3 h4 h5 h6 q=>?_) (λ_ s' hq=>EO (EO hq)) λ_ _ e=>e)
 show Fd _ X.A (Np (.Name y py) X.env (.ref l)) _ _ _;refine M_ (l5 I' hN hj hy (v:=.ref l) rfl (λs2 I2 ⟨a,Q8,ha⟩=>?_) hf)
 have hCa:C≠a:=by
  rcases ha with e |e
  ·rw[e];exact h2
  ·exact Ne.symm (h5 _ _ e)
 refine⟨m,hn.sameBut Q8 hCa,λh' hsb'=>⟨_,H',I2.turned (t':=s2.toks) (λb o hb e=>hsb'.extBut b o hb e) h1 h2 (.inr h4) h5 h6,q⟩⟩
variable {prog:E2}{w:Fs}{A:Fq}{E:EU→ER→Prop}
variable {pos:Pos}
end
def goC(QI:List (Str×E1)):List (Str×Kh)->List (Str×E1)->List (Str×E1)
 |[],acc=>acc
 | (n,k)::r,acc=>goC QI r (if (k==.free)=true then (n,(QI.lookup n).getD 0)::acc else acc)
theorem qK{env:Env}{PF:Ju}(h:∀y∈PF.names,y.2=.free->(env.cells.lookup y.1).isSome=true):OM PF env=pure (goC env.cells PF.names []):=by
 have all:∀(names:List (Str×Kh)) (acc:List (Str×E1)),(∀y∈names,y.2=.free->(env.cells.lookup y.1).isSome=true)->
   (forIn names acc (λx cs=>match x with | (name,kind)=>if (kind==.free)=true then (do let c <-cellOf env name;pure (ForInStep.yield ((name,c)::cs))) else pure (ForInStep.yield cs)):Sem (List (Str×E1)))=pure (goC env.cells names acc):=by
  intro names
  induction names with
  |nil=>intro acc _;rfl
  |cons y r ih=>
   intro acc hy;obtain⟨n,k⟩:=y;rw[Ht];by_cases hk:k=.free
   ·subst hk;have:=hy (n,.free) EY rfl;obtain⟨c,hc⟩:=Jo.mp this;have e:cellOf env n=pure c:=by unfold cellOf;rw[hc]
    simp only[beq_self_eq_true,if_true,e,pure_bind];rw[ih _ λy R6=>hy y (ES _ R6)]
    simp only[goC,beq_self_eq_true,if_true,hc,HU]
   ·have hb:(k==NameKind.free)=false:=by simpa using hk
    simp only[hb,Fb,if_false,pure_bind];rw[ih _ λy R6=>hy y (ES _ R6)]
    simp only[goC,hb,Fb,if_false]
 simp only[OM];have:=all PF.names [] h;simpa using this
theorem tD{QI:List (Str×E1)}:∀(names:List (Str×Kh)) (acc:List (Str×E1)),(∀y∈names,y.2=.free->(QI.lookup y.1).isSome=true)->(∀x c,acc.lookup x=some c->QI.lookup x=some c)->
  ∀x c,(goC QI names acc).lookup x=some c->QI.lookup x=some c
 |[],_,_,ha,x,c,h=>ha x c h
 | (n,k)::r,acc,hy,ha,x,c,h=>by
  rw[goC]at h;refine tD r _ (λy R6=>hy y (ES _ R6)) (λx' c' e=>?_) x c h
  by_cases hk:k=.free
  ·subst hk;simp only[beq_self_eq_true,if_true]at e;rw[Kc]at e;by_cases hx:(x'==n)=true
   ·rw[hx]at e;have Q9:x'=n:=by simpa using hx
    obtain⟨c2,hc2⟩:=Jo.mp (hy (n,.free) EY rfl);simp only[hc2,HU]at e;rw[Q9,hc2];exact e
   ·have:(x'==n)=false:=by simpa using hx
    rw[this]at e;exact ha x' c' e
  ·have hb:(k==NameKind.free)=false:=by simpa using hk
   rw[hb]at e;exact ha x' c' e
theorem tQ{QI:List (Str×E1)}{x:Str}:∀(names:List (Str×Kh)) (acc:List (Str×E1)),((x,NameKind.free)∈names\/∃c,acc.lookup x=some c)->∃c,(goC QI names acc).lookup x=some c
 |[],_,h=>by
  rcases h with h |h
  ·cases h
  ·exact h
 | (n,k)::r,acc,h=>by
  rw[goC];refine tQ r _ ?_;rcases h with h |⟨c,h⟩
  ·rcases ET.mp h with e |h
   ·cases e
    right
    simp
   ·exact .inl h
  ·right
   by_cases hk:k=.free
   ·subst hk;simp only[beq_self_eq_true,if_true];rw[Kc];cases hx:x==n with
    |true=>exact⟨_,rfl⟩
    |false=>exact⟨c,h⟩
   ·have hb:(k==NameKind.free)=false:=by simpa using hk
    rw[hb];exact⟨c,h⟩
theorem cY{env:Env}{x:Str}{kd:Kh}:∀{names:List (Str×Kh)},
  (names.map λ(n,k)=>if (k==NameKind.free && env.scope.kind==.function && env.kindOf n==some .cell) then (n,NameKind.cell) else (n,k)).lookup x=some kd->names.lookup x=some kd\/(kd=.cell/\names.lookup x=some .free)
 |[],h=>by simp at h
 | (n,k)::r,h=>by
  have ih:=@cY env x kd r
  change List.lookup x ((if (k==NameKind.free && env.scope.kind==.function && env.kindOf n==some .cell)=true then (n,NameKind.cell) else (n,k))::_)=_ at h
  by_cases hc:(k==NameKind.free && env.scope.kind==.function && env.kindOf n==some .cell)=true
  ·rw[if_pos hc]at h;rw[Kc]at h |-;cases hx:x==n with
   |true=>
    rw[hx]at h
    have hk:k=.free:=by
     have:=(Mw.mp (Mw.mp hc).1).1;simpa using this
    subst hk;have h':some NameKind.cell=some kd:=h;cases h';exact .inr ⟨rfl,rfl⟩
   |false=>rw[hx]at h;exact ih h
  ·rw[if_neg hc]at h;rw[Kc]at h |-;cases hx:x==n with
   |true=>rw[hx]at h;exact .inl h
   |false=>rw[hx]at h;exact ih h
def xo(PF QB:Ju)(N:List Str)(is:List Nat):Bool:=
 PF.names.all (λy=>y.2 !=.cell) && PF.names.all (λy=>y.2 !=.local ||PF.names.lookup y.1==some .local) && PF.names.all (λy=>y.2 !=.free ||QB.names.lookup y.1==some .cell) &&
  (F3 N.length).all λi=>match N[i]? with |some x=>PF.names.lookup x !=some .local ||is.contains i |none=>true
theorem blk{X:Cx}{PF:Ju}(QB:Ju)(N:List Str)(is:List Nat)(hNN:X.N=N)(hs:X.env.scope=QB)(hcs:X.env.cells=NO (X.env.locals+1) QB.names [])(hk:PF.kind=.function)(h:xo PF QB N is=true):cF X PF (goC X.env.cells PF.names []) is:=by
 subst hNN;unfold xo at h;simp only[Gv,Iz]at h;obtain⟨⟨⟨h1,h2⟩,h3⟩,h4⟩:=h
 have f1:∀y∈PF.names,y.2=.free->QB.names.lookup y.1=some .cell:=λy hy e=>by
  have:=h3 y hy;simp only[L7,bne_iff_ne,ne_eq,beq_iff_eq]at this;exact this.resolve_left λz=>z e
 have f2:∀y∈PF.names,y.2=.free->(X.env.cells.lookup y.1).isSome=true:=λy hy e=>by
  rw[hcs];exact JG _ _ _ (.inl (f1 y hy e))
 have nc:∀y∈PF.names,y.2≠.cell:=λy hy=>by have:=h1 y hy;simpa using this
 refine⟨qK f2,nc,hk,λy hy e=>?_,tD _ _ f2 (λx c e=>by simp at e),λx hx=>?_,λi x hi hl=>?_⟩
 ·have:=h2 y hy;simp only[L7,bne_iff_ne,ne_eq,beq_iff_eq]at this;exact this.resolve_left λz=>z e
 ·have hf:(x,NameKind.free)∈PF.names:=by
   rcases hx with hx |hx
   ·rcases cY hx with z |⟨_,z⟩
    ·exact absurd rfl (nc _ (GT z))
    ·exact GT z
   ·rcases cY hx with z |⟨z,_⟩
    ·exact GT z
    ·cases z
  have hc:=f1 _ hf rfl;refine⟨.inr (.inl (by rw[hs];exact hc)),(by rw[hs,show QB.names.lookup x=some .cell from hc];intro z;cases z),tQ _ _ (.inl hf)⟩
 ·have PY:i<X.N.length:=(E6.mp hi).1;have:=h4 i (Fo.mpr PY);rw[hi]at this
  have P8:PF.names.lookup x=some .local:=by
   rcases cY hl with z |⟨z,_⟩
   ·exact z
   ·cases z
  simp only[P8,bne_self_eq_false,Bool.false_or,List.contains_iff_mem]at this;exact this
end L2
namespace L2
end L2
namespace L2
open PySem PySem.Spec PySem.W PyProof.Rows
def CXF(P:E2)(w:Fs):CXT:=λouter H s E e s'=>∃(ea:E1) (cls a0:EU) (B:Gz) (H':Hp),e=.ref ea/\s'.os=s.os/\Ll s'.gens/\Un (frs outer) [] H H' s.heap s'.heap/\HOk P w H' s'.heap/\H' ea=none/\
 (∀b o,s.heap.get? b=some o->b ∉ frs outer->H b=none->B.get? b=some o)/\(∀b u,H' b=some u->∃o,B.get? b=some o)/\(∀b o,s.heap.get? b=some o->b ∉ frs outer->∃o',B.get? b=some o')/\
 Heap.FlyingW B outer ea cls a0 s'.heap/\E cls none H'
theorem au{P:E2}{w:Fs}{X:Cx}:iL (CXF P w) X E0:=λ_ _ _ _ _ _ _ h=>by
 obtain⟨_,_,_,_,_,_,_,_,_,_,_,_,_,_,_,hE⟩:=h;exact hE.elim
section
variable {P:E2}{w:Fs}{K:Frag}{mg:Str→Option EU}{base:Gz}{N:List Str}{PM:Str}{PF:Ju}{f:E1}{cd:EU}{A:Fq}{outer:List Env}{s:ER}{H:Hp}{E:XK}
end
theorem Fun.okF{P:E2}{w:Fs}{K:Frag}{mg:Str->Option EU}{base:Gz}{x PM:Str}{st:Hr}{f:E1}{fd:Ga}{N ps:List Str}{k:Nat}{sp:Sp}(F:Fun K x PM st f fd)(S:av N ps (aj st))(len:∀vs H Q E,sp vs H Q E->vs.length=ps.length)
  (QF:∀(PV:EU) (A:Fq) (outer:List Env) (s:ER) (H:Hp) (vs:List V) (Q:VK) (E:XK),d6 k (A.deeper (L4 PM (aj st) s.heap.objs.size f PV))->sp vs H Q E->
   ∃t,PSs (m9 (CXF P w) P w K mg base N PM (aj st) f PV A outer s H E) (bI st) t/\t {nx:=λ_ H'=>Q .non H',rt:=Q } (start N vs) H):a9 P w K mg base (CXF P w) (k+1) f fd ps sp:=by
 obtain⟨oc,od,kV,QK,pm,an,PV,ct,Rv,rfl,lk,QD⟩:=F.ex;exact Bm lk QD S len λA outer s H vs Q E hr Q4=>QF PV A outer s H vs Q E hr Q4
section
variable {X:Cx}{pins:List (E1×Obj)}{σ:St}{H:Hp}{s:ER}
end
end L2
namespace L2
open PySem PySem.Spec PyProof.Rows
theorem l9{n:Nat}{e:Nat->Bool}:(F3 n).all e=true↔∀j,j<n->e j=true:=by
 rw[Iz];exact⟨λh j hj=>h j (Fo.mpr hj),λh j hj=>h j (Fo.mp hj)⟩
section
variable {X:Cx}
end
end L2
namespace PySem.W
open PySem PySem.Spec PySem.Calls PyProof.Rows PySem.Builtin PySem.Builtin.ObjectAttr PySem.Builtin.Getset_descriptor
section
variable {prog:E2}{w:Fs}{A:Fq}{E:EU→ER→Prop}{s:ER}{K:Frag}{x C:E1}
def OfCls(x C:E1)(h:Gz):Prop:=∃o,h.get? x=some o/\o.cls=.ref C
variable (hga:findIn K (.ref C) "__getattribute__"=some (some (.builtin "BaseException.__getattribute__"))) (hgn:findIn K (.ref C) "__getattr__"=some none) (ha:findIn K (.ref C) "__class__"=some (some (.builtin "object.__class__")))
 (hn:specialIn K (.builtin "object.__class__") "__get__"=some (some (.builtin "getset_descriptor.__get__"))) (Q1:takesIn K (.builtin "object.__class__")=some true) (hm:mroIn K C (.type "object")=some true) (hmB:mroIn K C (.type "BaseException")=some true)
include ha hn Q1 hm in
end
structure XcOk(K:Frag)(C:E1):Prop where
 ga:findIn K (.ref C) "__getattribute__"=some (some (.builtin "BaseException.__getattribute__"))
 gn:findIn K (.ref C) "__getattr__"=some none
 at_:findIn K (.ref C) "__class__"=some (some (.builtin "object.__class__"))
 sp:specialIn K (.builtin "object.__class__") "__get__"=some (some (.builtin "getset_descriptor.__get__"))
 tk:takesIn K (.builtin "object.__class__")=some true
 mo:mroIn K C (.type "object")=some true
 mb:mroIn K C (.type "BaseException")=some true
theorem XcOk.off{x C:E1}{h:Gz}{o:Obj}{T:String}(I:OfCls x C h)(e:h.get? x=some o)(c:o.cls=.type T):False:=by
 obtain⟨o',e',c'⟩:=I;rw[e]at e';cases e';rw[c]at c';cases c'
end PySem.W
namespace L2
open PySem PySem.Spec PyProof.Rows
inductive TyX where
 |nm (n:String) |xc (C:E1)
inductive U where
 |non |bl (b:Bool) |int (i:Int) |str (x:Str) |ty (n:TyX) |dic |scr (xs:List U) |tup (xs:List U) |lst (xs:List U)
def U.items:U->Option (List U)
 | .scr xs=>some xs
 | .tup xs=>some xs
 | .lst xs=>some xs
 |_=>none
def hid(H:Hp)(O:List E1):Hp:=λb=>if b∈O then none else H b
theorem g6{H:Hp}{O:List E1}{b:E1}{o:HO}(h:hid H O b=some o):H b=some o/\b ∉ O:=by
 unfold hid at h;split at h
 ·cases h
 ·exact⟨h,by assumption⟩
theorem cS{H:Hp}{O:List E1}{b:E1}{o:HO}(h:H b=some o)(n:b ∉ O):hid H O b=some o:=by
 unfold hid;rw[if_neg n];exact h
theorem ax{H:Hp}{O:List E1}:aJ (hid H O) H:=λ_ _ h=>(g6 h).1
theorem aC{H H':Hp}{O:List E1}(e:aJ H H'):aJ (hid H O) (hid H' O):=λ_ _ h=>cS (e _ _ (g6 h).1) (g6 h).2
theorem e7{H:Hp}{O O':List E1}(e:∀a∈O',a∈O):aJ (hid H O) (hid H O'):=λ_ _ h=>cS (g6 h).1 λz=>(g6 h).2 (e _ z)
theorem bn{H H':Hp}{O:List E1}{a:E1}(e:aJ H H')(n:H a=none):aJ (hid H O) (hid H' (a::O)):=λb o h=>by
 obtain⟨h1,h2⟩:=g6 h;refine cS (e _ _ h1) λz=>?_
 rcases ET.mp z with y |y
 ·subst y;rw[n]at h1;cases h1
 ·exact h2 y
theorem iu{H:Hp}{O:List E1}{a:E1}{o:HO}(h:a∈O):hid (upd H a o) O=hid H O:=by
 funext b
 unfold hid;split
 ·rfl
 ·rename_i n
  rw[aT λe=>n (by rw[e];exact h)]
inductive Rp (K:EL) (H:Hp):V->U->Prop where
 |non:Rp K H .non .non
 |bl (b:Bool):Rp K H (.bl b) (.bl b)
 |int (i:Int):Rp K H (.int i) (.int i)
 |str (x:Str):Rp K H (.str x) (.str x)
 |ty (n:String):Rp K H (.ty n) (.ty (.nm n))
 |dic {a:E1}{Qg:List (Key×V)} (h:H a=some (.dK Qg)):Rp K H (.ref a) .dic
 |xc {a C:E1} (h:H a=some (.ext (PySem.W.OfCls a C))) (k:PySem.W.XcOk K C):Rp K H (.ref a) (.ty (.xc C))
 |scr {a:E1}{vs:List V}{xs:List U} (h:SqL K H a vs) (hl:vs.length=xs.length) (hi:∀(i:Nat) (v:V) (x:U),vs[i]?=some v->xs[i]?=some x->Rp K H v x):Rp K H (.ref a) (.scr xs)
 |tup {a:E1}{vs:List V}{xs:List U} (h:SqT K H a vs) (hl:vs.length=xs.length) (hi:∀(i:Nat) (v:V) (x:U),vs[i]?=some v->xs[i]?=some x->Rp K H v x):Rp K H (.ref a) (.tup xs)
 |lst {a:E1}{vs:List V}{xs:List U} (h:H a=some (.lst vs)) (hl:vs.length=xs.length) (hi:∀(i:Nat) (v:V) (x:U),vs[i]?=some v->xs[i]?=some x->Rp K H v x):Rp K H (.ref a) (.lst xs)
theorem Rp.same{K:EL}{H H':Hp}{v:V}{u:U}(e:aJ H H')(h:Rp K H v u):Rp K H' v u:=by
 induction h with
 |non=>exact .non
 |bl b=>exact .bl b
 |int i=>exact .int i
 |str x=>exact .str x
 |ty n=>exact .ty n
 |dic h=>exact .dic (e _ _ h)
 |xc h k=>exact .xc (e _ _ h) k
 |scr h hl hi ih=>exact .scr (e.seq h) hl ih
 |tup h hl hi ih=>exact .tup (e.tup h) hl ih
 |lst h hl hi ih=>exact .lst (e _ _ h) hl ih
structure Rps(K:EL)(H:Hp)(vs:List V)(xs:List U):Prop where
 len:vs.length=xs.length
 at_:∀(i:Nat) (v:V) (x:U),vs[i]?=some v->xs[i]?=some x->Rp K H v x
theorem Rps.same{K:EL}{H H':Hp}{vs:List V}{xs:List U}(e:aJ H H')(h:Rps K H vs xs):Rps K H' vs xs:=⟨h.len,λi v x a b=>(h.at_ i v x a b).same e⟩
theorem Rps.nil{K:EL}{H:Hp}:Rps K H [] []:=⟨rfl,λi v x h=>by simp at h⟩
theorem Rps.cons{K:EL}{H:Hp}{v:V}{x:U}{vs:List V}{xs:List U}(h:Rp K H v x)(t:Rps K H vs xs):Rps K H (v::vs) (x::xs):=by
 refine⟨by simp[t.len],λi a b h1 h2=>?_⟩
 cases i with
 |zero=>simp at h1 h2;subst h1;subst h2;exact h
 |succ i=>exact t.at_ i a b (by simpa using h1) (by simpa using h2)
theorem Rps.snoc{K:EL}{H:Hp}{vs ws:List V}{xs ys:List U}(h:Rps K H vs xs)(t:Rps K H ws ys):Rps K H (vs++ws) (xs++ys):=by
 refine⟨by simp[h.len,t.len],λi a b h1 h2=>?_⟩
 by_cases hi:i<vs.length
 ·rw[Fh hi]at h1;rw[Fh (by rw[<-h.len];exact hi)]at h2
  exact h.at_ i a b h1 h2
 ·have Ss:vs.length<=i:=Kb hi;rw[Fj Ss]at h1;rw[Fj (by rw[<-h.len];exact Ss),<-h.len]at h2
  exact t.at_ _ a b h1 h2
theorem Rps.get{K:EL}{H:Hp}{vs:List V}{xs:List U}{i:Nat}{x:U}(h:Rps K H vs xs)(e:xs[i]?=some x):∃v,vs[i]?=some v/\Rp K H v x:=by
 have hi:i<vs.length:=by rw[h.len];exact (E6.mp e).1
 exact⟨vs[i],EK hi,h.at_ i _ x (EK hi) e⟩
theorem Rps.atI{K:EL}{H:Hp}{vs:List V}{xs:List U}{i:Int}{x:U}(h:Rps K H vs xs)(e:L2.atI xs i=some x):∃v,L2.atI vs i=some v/\Rp K H v x:=by
 unfold L2.atI at e |-;rw[h.len];cases q:ixN xs.length i with
 |none=>rw[q]at e;cases e
 |some j=>
  rw[q]at e;obtain⟨v,h1,h2⟩:=h.get (show xs[j]?=some x from e)
  exact⟨v,h1,h2⟩
theorem Rps.cons_inv{K:EL}{H:Hp}{vs:List V}{x:U}{xs:List U}(h:Rps K H vs (x::xs)):∃v ws,vs=v::ws/\Rp K H v x/\Rps K H ws xs:=by
 cases vs with
 |nil=>have:=h.len;simp at this
 |cons v ws=>
  refine⟨v,ws,rfl,h.at_ 0 v x rfl rfl,by have:=h.len;simpa using this,λi a b h1 h2=>h.at_ (i+1) a b (by simpa using h1) (by simpa using h2)⟩
theorem Rps.nil_inv{K:EL}{H:Hp}{vs:List V}(h:Rps K H vs []):vs=[]:=GH.mp (by rw[h.len];rfl)
structure DkR(K:EL)(H:Hp)(kv:List (Key×V))(Qg:List (Str×U)):Prop where
 len:kv.length=Qg.length
 at_:∀(i:Nat) (k:Key) (v:V) (x:Str) (u:U),kv[i]?=some (k,v)->Qg[i]?=some (x,u)->k=.inr x/\Rp K H v u
theorem DkR.same{K:EL}{H H':Hp}{kv:List (Key×V)}{Qg:List (Str×U)}(e:aJ H H')(h:DkR K H kv Qg):DkR K H' kv Qg:=⟨h.len,λi k v x u a b=>⟨(h.at_ i k v x u a b).1,(h.at_ i k v x u a b).2.same e⟩⟩
inductive Sl where
 |val (u:U) |own (xs:List U) |pin (w:V) (u:U) |dsk (w:Bool) (C a d:E1) (Qg:List (Str×U))
abbrev PSt:=List (Option Sl)
def zF(K:EL)(H:Hp)(O O0:List E1)(v:V):Sl->Prop
 | .val u=>Rp K (hid H O) v u
 | .own xs=>∃a vs,v=.ref a/\a∈O/\a ∉ O0/\H a=some (.lst vs)/\Rps K (hid H O) vs xs
 | .pin w u=>v=w/\Rp K (hid H O) v u
 | .dsk w C a d Qg=>∃dx kv,v=.ref a∧d∈O∧(w=true→d ∉ O0)∧H a=some (.ins C dx [("lands",.ref d)])∧H d=some (.dK kv)∧DkR K (hid H O) kv Qg
structure Rs(K:EL)(H0:Hp)(O0:List E1)(ps:PSt)(σ:St)(H:Hp)(O:List E1):Prop where
 same:aJ H0 H
 old:∀a∈O0,a∈O
 new:∀a∈O,a∈O0\/H0 a=none
 dom:∀a∈O,H a≠none
 len:σ.length=ps.length
 at_:∀(i:Nat) (s:Sl),ps[i]?=some (some s)->∃v,σ[i]?=some (some v)/\zF K H O O0 v s
 inj:∀(i j:Nat) (xs ys:List U) (a:E1),ps[i]?=some (some (.own xs))->ps[j]?=some (some (.own ys))->σ[i]?=some (some (.ref a))->σ[j]?=some (some (.ref a))->i=j
variable {H0:Hp}{H:Hp}{O0:List E1}
section
variable {K:EL}{H':Hp}{O:List E1}{ps:PSt}{σ:St}
theorem zF.same{v:V}{s:Sl}(e:aJ H H')(h:zF K H O O0 v s):zF K H' O O0 v s:=by
 cases s with
 |val u=>exact Rp.same (aC e) h
 |own xs=>obtain⟨a,vs,h1,h2,h3,h4,h5⟩:=h;exact⟨a,vs,h1,h2,h3,e _ _ h4,h5.same (aC e)⟩
 |pin w u=>exact⟨h.1,Rp.same (aC e) h.2⟩
 |dsk w C a d Qg=>obtain⟨dx,kv,h1,h2,h3,h4,h5,h6⟩:=h;exact⟨dx,kv,h1,h2,h3,e _ _ h4,e _ _ h5,h6.same (aC e)⟩
theorem Rs.go(R:Rs K H0 O0 ps σ H O)(e:aJ H H'):Rs K H0 O0 ps σ H' O:=
 ⟨R.same.trans e,R.old,R.new,λa ha z=>R.dom a ha (e.free z),R.len,λi s h=>let ⟨v,h1,h2⟩:=R.at_ i s h;⟨v,h1,h2.same e⟩,R.inj⟩
theorem cJ{α:Type}{xs:List α}{i j:Nat}{y x:α}(h:(xs.set i y)[j]?=some x):(i=j/\x=y)\/(i≠j/\xs[j]?=some x):=by
 by_cases e:i=j
 ·subst e;rw[K9]at h;simp at h;exact .inl ⟨rfl,h.2.symm⟩
 ·rw[Fz e]at h;exact .inr ⟨e,h⟩
theorem hG{α:Type}{xs:List α}{i:Nat}{y:α}(h:i<xs.length):(xs.set i y)[i]?=some y:=by rw[K9];simp[h]
theorem aL{α:Type}{xs:List α}{i:Nat}{y:α}(h:xs[i]?=some y):i<xs.length:=(E6.mp h).1
theorem jT{i:Nat}{u:U}{j:Nat}{xs:List U}(h:(ps.set i (some (.val u)))[j]?=some (some (.own xs))):i≠j/\ps[j]?=some (some (.own xs)):=by
 rcases cJ h with ⟨_,e⟩ |h
 ·cases e
 ·exact h
theorem Rs.set{i:Nat}{v:V}{u:U}(R:Rs K H0 O0 ps σ H O)(r:Rp K (hid H O) v u):Rs K H0 O0 (ps.set i (some (.val u))) (σ.set i (some v)) H O:=by
 refine⟨R.same,R.old,R.new,R.dom,by simp[R.len],λj s h=>?_,λj k xs ys a h1 h2 h3 h4=>?_⟩
 ·rcases cJ h with ⟨e,q⟩ |⟨n,q⟩
  ·subst e;cases q;have hi:=aL h;rw[HM]at hi;exact⟨v,hG (by rw[R.len];exact hi),r⟩
  ·obtain⟨w,h1,h2⟩:=R.at_ j s q;exact⟨w,by rw[Fz n];exact h1,h2⟩
 ·obtain⟨n1,q1⟩:=jT h1;obtain⟨n2,q2⟩:=jT h2;rw[Fz n1]at h3;rw[Fz n2]at h4;exact R.inj j k xs ys a q1 q2 h3 h4
theorem Rs.drop{i:Nat}{o:Option V}(R:Rs K H0 O0 ps σ H O):Rs K H0 O0 (ps.set i none) (σ.set i o) H O:=by
 have key:∀{j:Nat}{s:Sl},(ps.set i none)[j]?=some (some s)->i≠j/\ps[j]?=some (some s):=λ{j s} h=>by
  rcases cJ h with ⟨_,e⟩ |h
  ·cases e
  ·exact h
 refine⟨R.same,R.old,R.new,R.dom,by simp[R.len],λj s h=>?_,λj k xs ys a h1 h2 h3 h4=>?_⟩
 ·obtain⟨n,q⟩:=key h;obtain⟨w,h1,h2⟩:=R.at_ j s q;exact⟨w,by rw[Fz n];exact h1,h2⟩
 ·obtain⟨n1,q1⟩:=key h1;obtain⟨n2,q2⟩:=key h2;rw[Fz n1]at h3;rw[Fz n2]at h4;exact R.inj j k xs ys a q1 q2 h3 h4
theorem Rs.own{i:Nat}{a:E1}{vs:List V}{xs:List U}(R:Rs K H0 O0 ps σ H O)(e:aJ H H')(n:H a=none)(h:H' a=some (.lst vs))(r:Rps K (hid H' (a::O)) vs xs):
  Rs K H0 O0 (ps.set i (some (.own xs))) (σ.set i (some (.ref a))) H' (a::O):=by
 have na:a ∉ O:=λz=>R.dom a z n
 have na0:a ∉ O0:=λz=>na (R.old a z)
 have n0:H0 a=none:=R.same.free n
 have SR:∀(j:Nat) (ys:List U),ps[j]?=some (some (.own ys))->σ[j]?≠some (some (.ref a)):=λj ys h1 h2=>by
  obtain⟨v,h3,b,ws,h4,h5,_⟩:=R.at_ j _ h1;rw[h2]at h3;cases h3;cases h4;exact na h5
 refine⟨R.same.trans e,λb hb=>ES _ (R.old b hb),λb hb=>?_,λb hb z=>?_,by simp[R.len],λj s q=>?_,λj k ys zs b h1 h2 h3 h4=>?_⟩
 ·rcases ET.mp hb with y |y
  ·subst y;exact .inr n0
  ·exact R.new b y
 ·rcases ET.mp hb with y |y
  ·subst y;rw[h]at z;cases z
  ·exact R.dom b y (e.free z)
 ·rcases cJ q with ⟨e',q'⟩ |⟨ne,q'⟩
  ·subst e';cases q';have hi:=aL q;rw[HM]at hi;exact⟨.ref a,hG (by rw[R.len];exact hi),a,vs,rfl,EY,na0,h,r⟩
  ·obtain⟨w,h1,h2⟩:=R.at_ j s q';refine⟨w,by rw[Fz ne];exact h1,?_⟩
   cases s with
   |val u=>exact Rp.same (bn e n) h2
   |own ys=>
    obtain⟨b,ws,k1,k2,k3,k4,k5⟩:=h2;exact⟨b,ws,k1,ES _ k2,k3,e _ _ k4,k5.same (bn e n)⟩
   |pin z u=>exact⟨h2.1,Rp.same (bn e n) h2.2⟩
   |dsk w C b d Qg=>obtain⟨dx,kv,k1,k2,k3,k4,k5,k6⟩:=h2;exact⟨dx,kv,k1,ES _ k2,k3,e _ _ k4,e _ _ k5,k6.same (bn e n)⟩
 ·rcases cJ h1 with ⟨e1,q1⟩ |⟨n1,q1⟩ <;>rcases cJ h2 with ⟨e2,q2⟩ |⟨n2,q2⟩
  ·rw[<-e1,<-e2]
  ·subst e1;have hi:=aL h3;rw[HM]at hi;rw[hG hi]at h3;cases h3;rw[Fz n2]at h4;exact absurd h4 (SR k zs q2)
  ·subst e2;have hi:=aL h4;rw[HM]at hi;rw[hG hi]at h4;cases h4;rw[Fz n1]at h3;exact absurd h3 (SR j ys q1)
  ·rw[Fz n1]at h3;rw[Fz n2]at h4;exact R.inj j k ys zs b q1 q2 h3 h4
theorem Rs.write{i:Nat}{a:E1}{vs:List V}{xs ys:List U}(R:Rs K H0 O0 ps σ H O)(hp:ps[i]?=some (some (.own xs)))(hs:σ[i]?=some (some (.ref a)))(r:Rps K (hid H O) vs ys):
  Rs K H0 O0 (ps.set i (some (.own ys))) σ (upd H a (.lst vs)) O:=by
 obtain⟨v,h1,b,ws,h2,h3,h4,h5,h6⟩:=R.at_ i _ hp;rw[hs]at h1;cases h1;cases h2;have h0:H0 a=none:=(R.new a h3).resolve_left h4;have eh:hid (upd H a (.lst vs)) O=hid H O:=iu h3;refine⟨R.same.put h0 _,R.old,R.new,λb hb z=>?_,by simp[R.len],λj s q=>?_,λj k zs us b q1 q2 q3 q4=>?_⟩
 ·by_cases e:b=a
  ·subst e;rw[aK]at z;cases z
  ·rw[aT e]at z;exact R.dom b hb z
 ·rcases cJ q with ⟨e',q'⟩ |⟨ne,q'⟩
  ·subst e';cases q';exact⟨.ref a,hs,a,vs,rfl,h3,h4,aK,by rw[eh];exact r⟩
  ·obtain⟨w,k1,k2⟩:=R.at_ j s q';refine⟨w,k1,?_⟩;cases s with
   |val u=>exact (show Rp K (hid (upd H a (.lst vs)) O) w u by rw[eh];exact k2)
   |own zs=>
    obtain⟨b,us,e1,e2,e3,e4,e5⟩:=k2;subst e1;have:b≠a:=λz=>by subst z;exact ne (R.inj i j xs zs b hp q' hs k1)
    exact⟨b,us,rfl,e2,e3,by rw[aT this];exact e4,by rw[eh];exact e5⟩
   |pin z u=>exact⟨k2.1,by rw[eh];exact k2.2⟩
   |dsk w C b d Qg=>
    obtain⟨dx,kv,e1,e2,e3,e4,e5,e6⟩:=k2;exact⟨dx,kv,e1,e2,e3,by rw[aT λz=>by rw[z,h5]at e4;cases e4];exact e4,by rw[aT λz=>by rw[z,h5]at e5;cases e5];exact e5,by rw[eh];exact e6⟩
 ·have c1:∃zs',ps[j]?=some (some (.own zs')):=by
   rcases cJ q1 with ⟨e,_⟩ |⟨_,z⟩
   ·subst e;exact⟨_,hp⟩
   ·exact⟨_,z⟩
  have c2:∃zs',ps[k]?=some (some (.own zs')):=by
   rcases cJ q2 with ⟨e,_⟩ |⟨_,z⟩
   ·subst e;exact⟨_,hp⟩
   ·exact⟨_,z⟩
  obtain⟨_,c1⟩:=c1;obtain⟨_,c2⟩:=c2;exact R.inj j k _ _ b c1 c2 q3 q4
def SubP:PSt->PSt->Prop
 |[],[]=>True
 |none::p,_::q=>SubP p q
 |some s::p,t::q=>t=some s/\SubP p q
 |_,_=>False
theorem SubP.at_:∀{p q:PSt},SubP p q->p.length=q.length/\∀(i:Nat) (s:Sl),p[i]?=some (some s)->q[i]?=some (some s)
 |[],[],_=>⟨rfl,λi s h=>by simp at h⟩
 |none::p,t::q,h=>by
  obtain⟨h1,h2⟩:=SubP.at_ (p:=p) (q:=q) h;refine⟨by simp[h1],λi s e=>?_⟩
  cases i with
  |zero=>simp at e
  |succ i=>exact h2 i s (by simpa using e)
 |some s0::p,t::q,h=>by
  obtain⟨h0,h⟩:=h;obtain⟨h1,h2⟩:=SubP.at_ (p:=p) (q:=q) h;refine⟨by simp[h1],λi s e=>?_⟩
  cases i with
  |zero=>simp at e;subst e;rw[h0];rfl
  |succ i=>exact h2 i s (by simpa using e)
 |[],_::_,h=>h.elim
 |none::_,[],h=>h.elim
 |some _::_,[],h=>h.elim
theorem Rs.sub{Qo:PSt}(R:Rs K H0 O0 ps σ H O)(h:SubP Qo ps):Rs K H0 O0 Qo σ H O:=by
 obtain⟨h1,h2⟩:=h.at_;exact⟨R.same,R.old,R.new,R.dom,R.len.trans h1.symm,λi s e=>R.at_ i s (h2 i s e),λi j xs ys a e1 e2=>R.inj i j xs ys a (h2 _ _ e1) (h2 _ _ e2)⟩
end
def Ev(X:Cx)(H0:Hp)(O0:List E1)(ps:PSt)(e:Expr)(u:U):Prop:=
 PE X e λσ H Q=>∃O,Rs X.K H0 O0 ps σ H O/\∀v H',aJ H H'->Rp X.K (hid H' O) v u->Q v H'
def EvN(X:Cx)(H0:Hp)(O0:List E1)(ps:PSt)(e:Expr)(xs:List U):Prop:=
 PE X e λσ H Q=>∃O,Rs X.K H0 O0 ps σ H O/\∀a vs H',aJ H H'->H a=none->H' a=some (.lst vs)->Rps X.K (hid H' (a::O)) vs xs->Q (.ref a) H'
def Tt(X:Cx)(H0:Hp)(O0:List E1)(ps:PSt)(e:Expr)(b:Bool):Prop:=
 PT X e λσ H Q=>∃O,Rs X.K H0 O0 ps σ H O/\∀H',aJ H H'->Q b H'
def Tw(X:Cx)(H0:Hp)(O0:List E1)(ps:PSt)(e:Expr)(b:Bool):Prop:=
 PW X e λσ H Q=>∃O,Rs X.K H0 O0 ps σ H O/\∀H',aJ H H'->Q b H'
def EvA(X:Cx)(H0:Hp)(O0:List E1)(ps:PSt)(es:List Expr)(us:List U):Prop:=
 PA X es λσ H Q=>∃O,Rs X.K H0 O0 ps σ H O/\∀vs H',aJ H H'->Rps X.K (hid H' O) vs us->Q vs H'
theorem PE.mono{X:Cx}{e:Expr}{t t':TE}(h:PE X e t)(m:∀σ H Q,t' σ H Q->t σ H Q):PE X e t':=λpins s σ H Q I q=>h pins s σ H Q I (m σ H Q q)
theorem PT.mono{X:Cx}{e:Expr}{t t':TT}(h:PT X e t)(m:∀σ H Q,t' σ H Q->t σ H Q):PT X e t':=λpins s σ H Q I q=>h pins s σ H Q I (m σ H Q q)
theorem PW.mono{X:Cx}{e:Expr}{t t':TT}(h:PW X e t)(m:∀σ H Q,t' σ H Q->t σ H Q):PW X e t':=λwh pins s σ H Q I q=>h wh pins s σ H Q I (m σ H Q q)
theorem PA.mono{X:Cx}{e:List Expr}{t t':TA}(h:PA X e t)(m:∀σ H Q,t' σ H Q->t σ H Q):PA X e t':=λpos pins s σ H Q I q=>h pos pins s σ H Q I (m σ H Q q)
theorem PS.mono{X:Cx}{e:Hr}{t t':TS}(h:PS X e t)(m:∀D σ H,t' D σ H->t D σ H):PS X e t':=λpins s σ H D I q=>h pins s σ H D I (m D σ H q)
theorem PSs.mono{X:Cx}{e:List Hr}{t t':TS}(h:PSs X e t)(m:∀D σ H,t' D σ H->t D σ H):PSs X e t':=λpins s σ H D I q=>h pins s σ H D I (m D σ H q)
variable {es:List Expr}{pos:Pos}{u:U}{xs:List U}{ys:List U}{us:List U}
section
variable {X:Cx}{ps:PSt}{a b c e:Expr}{p:Pos}{x y:U}{i j:Int}
theorem EvN.ev(h:EvN X H0 O0 ps e xs):Ev X H0 O0 ps e (.lst xs):=PE.mono h λσ H Q ⟨O,R,k⟩=>⟨O,R,λa vs H' s n h r=>by
 have na:a ∉ O:=λz=>R.dom a z n
 have less:aJ (hid H' (a::O)) (hid H' O):=e7 λb hb=>ES _ hb
 exact k _ H' s (.lst (cS h na) (r.same less).len (r.same less).at_)⟩
theorem aa(i:Nat){x:Str}{u:U}(h:ps[i]?=some (some (.val u)))(hN:X.N[i]?=some x:=by rfl)(hv:Vis X.env.scope x:=by first |exact Or.inl rfl |exact Or.inr (Or.inl rfl) |exact Or.inr (Or.inr rfl))(hd:(x==("__debug__":Str))=false:=by decide)
  (QD:(x==("__classdict__":Str))=false:=by decide):Ev X H0 O0 ps (.Name x pos) u:=PE.mono (fY hN hv hd QD) λσ H Q ⟨O,R,k⟩=>by
 obtain⟨v,h1,h2⟩:=R.at_ i _ h;exact⟨v,h1,k v H (.refl H) h2⟩
theorem ai{i j pos}:Ev X H0 O0 ps (.Constant (.int i) j pos) (.int i):=PE.mono CT λ_ H _ ⟨_,_,k⟩=>k _ H (.refl H) (.int i)
theorem zP{i j pos}:Ev X H0 O0 ps (.Constant (.bool i) j pos) (.bl i):=PE.mono Dg λ_ H _ ⟨_,_,k⟩=>k _ H (.refl H) (.bl i)
theorem kA{x:Str}{n:String}{pos:Pos}(hg:Gl X x)(hm:X.mg x=none)(hv:GU x=some (.type n))(hn:x≠"__name__":=by decide)(hd:(x==("__debug__":Str))=false:=by decide):Ev X H0 O0 ps (.Name x pos) (.ty (.nm n)):=
 PE.mono (C1 hg hm hv hn hd) λ_ H _ ⟨_,_,k⟩=>k _ H (.refl H) (.ty n)
theorem two{ta tb:TE}{σ:St}{H:Hp}{Q:VK}{O:List E1}{r:R2}(R:Rs X.K H0 O0 ps σ H O)
  (ha:∀σ H Q,(∃O,Rs X.K H0 O0 ps σ H O/\∀v H',aJ H H'->Rp X.K (hid H' O) v x->Q v H')->ta σ H Q) (hb:∀σ H Q,(∃O,Rs X.K H0 O0 ps σ H O/\∀v H',aJ H H'->Rp X.K (hid H' O) v y->Q v H')->tb σ H Q)
  (h:∀v w H',aJ H H'->Rs X.K H0 O0 ps σ H' O->Rp X.K (hid H' O) v x->Rp X.K (hid H' O) w y->r v w H' Q):tOp r ta tb σ H Q:=
 ha σ H _ ⟨O,R,λv H1 s1 r1=>hb σ H1 _ ⟨O,R.go s1,λw H2 s2 r2=>h v w H2 (s1.trans s2) (R.go (s1.trans s2)) (r1.same (aC s2)) r2⟩⟩
theorem AT{op:OQ}{g:Int->Int->Int}(ho:OpR X (JS op) (rI0 λi j=>.int (g i j)))(ha:Ev X H0 O0 ps a (.int i))(hb:Ev X H0 O0 ps b (.int j)):Ev X H0 O0 ps (.BinOp a op b pos) (.int (g i j)):=
 PE.mono (x6 ho ha hb) λσ H Q ⟨O,R,k⟩=>two (x:=.int i) (y:=.int j) R (λ_ _ _ z=>z) (λ_ _ _ z=>z) λv w H' s _ r1 r2=>by
  cases r1;cases r2;exact⟨i,j,rfl,rfl,k _ H' s (.int _)⟩
theorem oz{op:OQ}{C:Int->Int->Prop}{g:Int->Int->Int}(ho:OpR X (JS op) (rI C λi j=>.int (g i j)))(ha:Ev X H0 O0 ps a (.int i))(hb:Ev X H0 O0 ps b (.int j))(hc:C i j):Ev X H0 O0 ps (.BinOp a op b pos) (.int (g i j)):=
 PE.mono (x6 ho ha hb) λσ H Q ⟨O,R,k⟩=>two (x:=.int i) (y:=.int j) R (λ_ _ _ z=>z) (λ_ _ _ z=>z) λv w H' s _ r1 r2=>by
  cases r1;cases r2;exact⟨i,j,rfl,rfl,hc,k _ H' s (.int _)⟩
theorem cO(ha:Ev X H0 O0 ps a (.int i))(hb:Ev X H0 O0 ps b (.int j)):Ev X H0 O0 ps (.BinOp a .Add b pos) (.int (i+j)):=AT BW ha hb
theorem bA(ha:Ev X H0 O0 ps a (.int i))(hb:Ev X H0 O0 ps b (.int j)):Ev X H0 O0 ps (.BinOp a .Sub b pos) (.int (i-j)):=AT B8 ha hb
theorem be(ha:Ev X H0 O0 ps a (.int i))(hb:Ev X H0 O0 ps b (.int j))(hc:IntMulOk i j):Ev X H0 O0 ps (.BinOp a .Mult b pos) (.int (i*j)):=oz yS ha hb hc
theorem gL(ha:Ev X H0 O0 ps a (.int i))(hb:Ev X H0 O0 ps b (.int j))(hc:Bl i j):Ev X H0 O0 ps (.BinOp a .FloorDiv b pos) (.int (i/j)):=oz wE ha hb hc
theorem BL(ha:Ev X H0 O0 ps a (.int i))(hb:Ev X H0 O0 ps b (.int j))(hc:Bn i j):Ev X H0 O0 ps (.BinOp a .FloorDiv b pos) (.int (i.fdiv j)):=oz xD ha hb hc
theorem dw(ha:Ev X H0 O0 ps a (.int i))(hb:Ev X H0 O0 ps b (.int j))(hc:0<j):Ev X H0 O0 ps (.BinOp a .Mod b pos) (.int (i%j)):=oz CV ha hb hc
theorem C9(ha:Ev X H0 O0 ps a (.int i))(hb:Ev X H0 O0 ps b (.int j))(hc:Da i j):Ev X H0 O0 ps (.BinOp a .Pow b pos) (.int (i ^ j.toNat)):=oz CW ha hb hc
theorem bN(ha:Ev X H0 O0 ps a (.int i)):Ev X H0 O0 ps (.UnaryOp .USub a pos) (.int (-i)):=
 PE.mono (Du BI ha) λσ H Q ⟨O,R,k⟩=>⟨O,R,λv H' s r=>by cases r;exact⟨i,rfl,k _ H' s (.int _)⟩⟩
end
mutual
def eqW:U->U->Bool
 | .non,.non=>true
 | .bl a,.bl b=>a==b
 | .bl a,.int j=>(if a then 1 else 0)==j
 | .int i,.bl b=>i==(if b then 1 else 0)
 | .int i,.int j=>i==j
 | .str a,.str b=>a==b
 | .tup xs,.tup ys=>eqWs xs ys
 | .lst xs,.lst ys=>eqWs xs ys
 | .lst xs,.scr ys=>eqWs xs ys
 | .scr xs,.lst ys=>eqWs xs ys
 | .scr xs,.scr ys=>eqWs xs ys
 |_,_=>false
def eqWs:List U->List U->Bool
 |[],[]=>true
 |x::xs,y::ys=>eqW x y && eqWs xs ys
 |_,_=>false
end
mutual
def okU:Nat->U->Bool
 |_,.ty _=>false
 |_,.dic=>false
 |0,.tup _=>false
 |0,.lst _=>false
 |0,.scr _=>false
 |n+1,.tup xs=>okUs n xs
 |n+1,.lst xs=>okUs n xs
 |n+1,.scr xs=>okUs n xs
 |_,_=>true
def okUs:Nat->List U->Bool
 |_,[]=>true
 |n,x::xs=>okU n x && okUs n xs
end
theorem jw:∀{n:Nat}{xs:List U}{i:Nat}{x:U},okUs n xs=true->xs[i]?=some x->okU n x=true
 |n,[],i,x,_,h=>by simp at h
 |n,y::xs,0,x,h,e=>by simp at e;subst e;simp[okUs]at h;exact h.1
 |n,y::xs,i+1,x,h,e=>by simp[okUs]at h;exact jw (i:=i) h.2 (by simpa using e)
theorem dq:∀(xs ys:List U),((F3 (min xs.length ys.length)).all (λj=>eqW (xs.getD j .non) (ys.getD j .non)) && xs.length==ys.length)=eqWs xs ys
 |[],[]=>rfl
 |[],y::ys=>by simp[eqWs]
 |x::xs,[]=>by simp[eqWs]
 |x::xs,y::ys=>by
  have ih:=dq xs ys;rw[eqWs,<-ih];simp only[FV,Nat.succ_min_succ];rw[List.range_succ_eq_map,Ki,O9];have e:((xs.length+1==ys.length+1))=(xs.length==ys.length):=by simp
  rw[e,Bool.and_assoc];rfl
theorem Rp.one{X:Cx}{pins:List (E1×Obj)}{σ:St}{H:Hp}{s:ER}(I:Inv X pins σ H s){v:V}{x:U}(h:Rp X.K H v x):∀{n:Nat}{y:U},Rp X.K H v y->okU n x=true->eqW x y=true:=by
 have key:∀{vs ws:List V}{xs ys:List U},vs=ws->vs.length=xs.length->ws.length=ys.length->(∀(i:Nat) (x y:U),xs[i]?=some x->ys[i]?=some y->eqW x y=true)->eqWs xs ys=true:=λ{vs ws xs ys} e h1 h2 hh=>by
  subst e;rw[<-dq,Gv,l9];refine⟨λj hj=>?_,by simp[<-h1,<-h2]⟩
  have j1:j<xs.length:=by lia
  have j2:j<ys.length:=by lia
  rw[Fe,EK j1,Fe,EK j2];exact hh j _ _ (EK j1) (EK j2)
 have RQ:∀{vs:List V}{xs ys:List U}{n:Nat},vs.length=xs.length->(∀(i:Nat) (v:V) (x:U),vs[i]?=some v->xs[i]?=some x->∀{n:Nat}{y:U},Rp X.K H v y->okU n x=true->eqW x y=true)->(∀(i:Nat) (v:V) (y:U),vs[i]?=some v->ys[i]?=some y->Rp X.K H v y)->okUs n xs=true->
   ∀(i:Nat) (x y:U),xs[i]?=some x->ys[i]?=some y->eqW x y=true:=λ{vs xs ys n} h1 ih hi ok i x y e1 e2=>by
  have PU:i<vs.length:=by rw[h1];exact aL e1
  exact ih i _ x (EK PU) e1 (hi i _ y (EK PU) e2) (jw ok e1)
 induction h with
 |non=>intro n y q _;cases q;rfl
 |bl b=>intro n y q _;cases q;simp[eqW]
 |int i=>intro n y q _;cases q;simp[eqW]
 |str i=>intro n y q _;cases q;simp[eqW]
 |ty=>intro n y q ok;simp[okU]at ok
 |dic=>intro n y q ok;simp[okU]at ok
 |xc=>intro n y q ok;simp[okU]at ok
 | @scr a vs xs hq hl hi ih=>
  intro n y q ok;cases n with
  |zero=>simp[okU]at ok
  |succ n=>
   rw[okU]at ok;cases q with
   |scr Qb P8 PY=>rw[eqW];have e:=I.list_inj hq Qb;subst e;exact key rfl hl P8 (RQ hl (λi v x a b=>ih i v x a b) PY ok)
   |lst Qb P8 PY=>rw[eqW];have e:=I.list_inj hq (SqL.of Qb);subst e;exact key rfl hl P8 (RQ hl (λi v x a b=>ih i v x a b) PY ok)
   |xc Qb kk=>
    exfalso
    obtain⟨_,_,pl,_⟩:=I.list hq;obtain⟨o,n,e,c,_⟩:=pl;exact PySem.W.XcOk.off (I.hok _ _ Qb).1 e c
   |dic Qb=>
    exfalso
    obtain⟨_,_,pl,_⟩:=I.list hq;obtain⟨o,n,e,c,_⟩:=pl;obtain⟨_,_,_,_,o',_,_,e',ex,_⟩:=I.hok _ _ Qb;rw[e]at e';cases e';rw[ex.1]at c;exact absurd (Oh c) (by decide)
   |tup Qb P8 PY=>
    exfalso
    obtain⟨_,_,pl,_⟩:=I.list hq;obtain⟨_,_,pt,_⟩:=I.tuple Qb;exact SeqAt.ne_of_list_tuple pl.isList pt rfl
 | @tup a vs xs hq hl hi ih=>
  intro n y q ok;cases n with
  |zero=>simp[okU]at ok
  |succ n=>
   rw[okU]at ok;cases q with
   |tup Qb P8 PY=>rw[eqW];have e:=I.tuple_inj hq Qb;subst e;exact key rfl hl P8 (RQ hl (λi v x a b=>ih i v x a b) PY ok)
   |scr Qb P8 PY=>
    exfalso
    obtain⟨_,_,pl,_⟩:=I.list Qb;obtain⟨_,_,pt,_⟩:=I.tuple hq;exact SeqAt.ne_of_list_tuple pl.isList pt rfl
   |lst Qb P8 PY=>
    exfalso
    obtain⟨_,_,pl,_⟩:=I.list (SqL.of Qb);obtain⟨_,_,pt,_⟩:=I.tuple hq;exact SeqAt.ne_of_list_tuple pl.isList pt rfl
   |xc Qb kk=>
    exfalso
    obtain⟨_,_,pt,_⟩:=I.tuple hq;obtain⟨o,e,c,_⟩:=pt;exact PySem.W.XcOk.off (I.hok _ _ Qb).1 e c
   |dic Qb=>
    exfalso
    obtain⟨_,_,pt,_⟩:=I.tuple hq;obtain⟨o,e,c,_⟩:=pt;obtain⟨_,_,_,_,o',_,_,e',ex,_⟩:=I.hok _ _ Qb;rw[e]at e';cases e';rw[ex.1]at c;exact absurd (Oh c) (by decide)
 | @lst a vs xs hq hl hi ih=>
  intro n y q ok;cases n with
  |zero=>simp[okU]at ok
  |succ n=>
   rw[okU]at ok;cases q with
   |lst Qb P8 PY=>rw[eqW];have e:=I.list_inj (SqL.of hq) (SqL.of Qb);subst e;exact key rfl hl P8 (RQ hl (λi v x a b=>ih i v x a b) PY ok)
   |scr Qb P8 PY=>rw[eqW];have e:=I.list_inj (SqL.of hq) Qb;subst e;exact key rfl hl P8 (RQ hl (λi v x a b=>ih i v x a b) PY ok)
   |tup Qb P8 PY=>
    exfalso
    obtain⟨_,_,pl,_⟩:=I.list (SqL.of hq);obtain⟨_,_,pt,_⟩:=I.tuple Qb;exact SeqAt.ne_of_list_tuple pl.isList pt rfl
   |xc Qb kk=>
    exfalso
    rw[hq]at Qb;cases Qb
   |dic Qb=>
    exfalso
    rw[hq]at Qb;cases Qb
theorem IsU.list{X:Cx}{pins:List (E1×Obj)}{σ:St}{H:Hp}{s:ER}(I:Inv X pins σ H s){a:E1}{xs:List U}{vs:List V}(h:SqL X.K H a vs)(hl:vs.length=xs.length):∃PH:List EU,aQ vs PH/\s.heap.IsList a PH.toArray/\PH.length=xs.length:=by
 obtain⟨PH,r,pl,_⟩:=I.list h;exact⟨PH,r,pl.isList,by rw[<-r.length,hl]⟩
theorem IsU.tup{X:Cx}{pins:List (E1×Obj)}{σ:St}{H:Hp}{s:ER}(I:Inv X pins σ H s){a:E1}{xs:List U}{vs:List V}(h:SqT X.K H a vs)(hl:vs.length=xs.length):∃PH:List EU,aQ vs PH/\Px s.heap a PH.toArray/\PH.length=xs.length:=by
 obtain⟨PH,r,pl,_⟩:=I.tuple h;exact⟨PH,r,pl,by rw[<-r.length,hl]⟩
variable {pins:List (E1×Obj)}
section
variable {X:Cx}{σ:St}{s:ER}
theorem cD(I:Inv X pins σ H s){n:Nat}{vs ws:List V}{xs ys:List U}{PH PJ:List EU}(r1:aQ vs PH)(r2:aQ ws PJ)(Qk:vs.length=xs.length)(P7:ws.length=ys.length)
  (h1:∀(i:Nat) (v:V) (x:U),vs[i]?=some v->xs[i]?=some x->Rp X.K H v x) (h2:∀(i:Nat) (v:V) (x:U),ws[i]?=some v->ys[i]?=some x->Rp X.K H v x) (ok1:okUs n xs=true) (ok2:okUs n ys=true) {A:Fq}
  (RC:∀(x y:U) (v w:V) (p q:EU),Rp X.K H v x->Rp X.K H w y->aZ v p->aZ w q->okU n x=true->okU n y=true->SeqAt.RcAt A.in1 s p q (eqW x y)) (hu:A.units+n+1<II)
  (j:Nat) (j1:j<PH.length) (j2:j<PJ.length):SeqAt.EqAt A.in1 s PH[j] PJ[j] (eqW (xs.getD j .non) (ys.getD j .non)):=by
 have a1:j<vs.length:=by rw[r1.length];exact j1
 have a2:j<ws.length:=by rw[r2.length];exact j2
 have b1:j<xs.length:=by lia
 have b2:j<ys.length:=by lia
 rw[Fe,EK b1,Fe,EK b2,HU,HU];have R1:=h1 j vs[j] xs[j] (EK a1) (EK b1);have R2:=h2 j ws[j] ys[j] (EK a2) (EK b2);obtain⟨u1,e1,q1⟩:=r1.get (EK a1);obtain⟨u2,e2,q2⟩:=r2.get (EK a2);rw[EK j1]at e1;rw[EK j2]at e2;cases e1;cases e2;have o1:=jw ok1 (EK b1);have o2:=jw ok2 (EK b2);generalize vs[j]=v at *;generalize ws[j]=w at *;generalize PH[j]=p at *;generalize PJ[j]=q at *;generalize xs[j]=x at *;generalize ys[j]=y at *;have main:=RC x y v w p q R1 R2 q1 q2 o1 o2
 have Qi:∀(a b:E1),p=.ref a->q=.ref b->SeqAt.EqAt A.in1 s p q (eqW x y):=λa b ea eb=>by
  subst ea eb;by_cases e:a=b
  ·subst e;have e2:v=w:=q1.inj q2;subst e2;rw[R1.one I R2 o1];exact SeqAt.EqAt.same _
  ·exact SeqAt.EqAt.of_refs e main
 have PX:A.in1.units<II:=by show A.units+1<_;lia
 cases R1 with
 |non=>
  cases (show p=Fl from q1)
  cases R2 with
  |non=>cases (show q=Fl from q2);exact SeqAt.EqAt.same _
  |bl b=>cases (show q=F2 b from q2);exact SeqAt.EqAt.none_bool b
  |int i=>obtain⟨t,rfl⟩:=(show ∃t,q=FZ i t from q2);exact SeqAt.EqAt.none_int i t
  |str i=>obtain⟨t,rfl⟩:=(show ∃t,q=Gd i t from q2);exact SeqAt.EqAt.none_str i t
  |ty=>simp[okU]at o2
  |dic=>simp[okU]at o2
  |xc=>simp[okU]at o2
  |scr hq hl hi=>cases q2;obtain⟨_,_,pl,_⟩:=IsU.list I hq hl;exact SeqAt.EqAt.none_list pl PX
  |tup hq hl hi=>cases q2;obtain⟨_,_,pl,_⟩:=IsU.tup I hq hl;exact SeqAt.EqAt.none_tuple pl PX
  |lst hq hl hi=>cases q2;obtain⟨_,_,pl,_⟩:=IsU.list I (SqL.of hq) hl;exact SeqAt.EqAt.none_list pl PX
 |bl c=>
  cases (show p=F2 c from q1)
  cases R2 with
  |non=>cases (show q=Fl from q2);exact SeqAt.EqAt.bool_none c
  |bl b=>cases (show q=F2 b from q2);exact SeqAt.EqAt.bool_bool c b
  |int i=>obtain⟨t,rfl⟩:=(show ∃t,q=FZ i t from q2);exact SeqAt.EqAt.bool_int c i t
  |str i=>obtain⟨t,rfl⟩:=(show ∃t,q=Gd i t from q2);exact SeqAt.EqAt.bool_str c i t
  |ty=>simp[okU]at o2
  |dic=>simp[okU]at o2
  |xc=>simp[okU]at o2
  |scr hq hl hi=>cases q2;obtain⟨_,_,pl,_⟩:=IsU.list I hq hl;exact SeqAt.EqAt.bool_list c pl PX
  |tup hq hl hi=>cases q2;obtain⟨_,_,pl,_⟩:=IsU.tup I hq hl;exact SeqAt.EqAt.bool_tuple c pl PX
  |lst hq hl hi=>cases q2;obtain⟨_,_,pl,_⟩:=IsU.list I (SqL.of hq) hl;exact SeqAt.EqAt.bool_list c pl PX
 |int c=>
  obtain⟨t0,rfl⟩:=(show ∃t,p=FZ c t from q1)
  cases R2 with
  |non=>cases (show q=Fl from q2);exact SeqAt.EqAt.int_none c t0
  |bl b=>cases (show q=F2 b from q2);exact SeqAt.EqAt.int_bool c t0 b
  |int i=>obtain⟨t,rfl⟩:=(show ∃t,q=FZ i t from q2);exact SeqAt.EqAt.int_int c t0 i t
  |str i=>obtain⟨t,rfl⟩:=(show ∃t,q=Gd i t from q2);exact SeqAt.EqAt.int_str c t0 i t
  |ty=>simp[okU]at o2
  |dic=>simp[okU]at o2
  |xc=>simp[okU]at o2
  |scr hq hl hi=>cases q2;obtain⟨_,_,pl,_⟩:=IsU.list I hq hl;exact SeqAt.EqAt.int_list c t0 pl PX
  |tup hq hl hi=>cases q2;obtain⟨_,_,pl,_⟩:=IsU.tup I hq hl;exact SeqAt.EqAt.int_tuple c t0 pl PX
  |lst hq hl hi=>cases q2;obtain⟨_,_,pl,_⟩:=IsU.list I (SqL.of hq) hl;exact SeqAt.EqAt.int_list c t0 pl PX
 |str c=>
  obtain⟨t0,rfl⟩:=(show ∃t,p=Gd c t from q1)
  cases R2 with
  |non=>cases (show q=Fl from q2);exact SeqAt.EqAt.str_none c t0
  |bl b=>cases (show q=F2 b from q2);exact SeqAt.EqAt.str_bool c t0 b
  |int i=>obtain⟨t,rfl⟩:=(show ∃t,q=FZ i t from q2);exact SeqAt.EqAt.str_int c t0 i t
  |str i=>obtain⟨t,rfl⟩:=(show ∃t,q=Gd i t from q2);exact SeqAt.EqAt.str_str c t0 i t
  |ty=>simp[okU]at o2
  |dic=>simp[okU]at o2
  |xc=>simp[okU]at o2
  |scr hq hl hi=>cases q2;obtain⟨_,_,pl,_⟩:=IsU.list I hq hl;exact SeqAt.EqAt.str_list c t0 pl PX
  |tup hq hl hi=>cases q2;obtain⟨_,_,pl,_⟩:=IsU.tup I hq hl;exact SeqAt.EqAt.str_tuple c t0 pl PX
  |lst hq hl hi=>cases q2;obtain⟨_,_,pl,_⟩:=IsU.list I (SqL.of hq) hl;exact SeqAt.EqAt.str_list c t0 pl PX
 |ty=>simp[okU]at o1
 |dic=>simp[okU]at o1
 |xc=>simp[okU]at o1
 | @scr a vs xs hq hl hi=>
  cases q1;obtain⟨_,_,pl,_⟩:=IsU.list I hq hl;cases R2 with
  |non=>cases (show q=Fl from q2);exact SeqAt.EqAt.list_none pl PX
  |bl b=>cases (show q=F2 b from q2);exact SeqAt.EqAt.list_bool b pl PX
  |int i=>obtain⟨t,rfl⟩:=(show ∃t,q=FZ i t from q2);exact SeqAt.EqAt.list_int i t pl PX
  |str i=>obtain⟨t,rfl⟩:=(show ∃t,q=Gd i t from q2);exact SeqAt.EqAt.list_str i t pl PX
  |ty=>simp[okU]at o2
  |dic=>simp[okU]at o2
  |xc=>simp[okU]at o2
  |scr=>exact Qi _ _ rfl q2
  |tup=>exact Qi _ _ rfl q2
  |lst=>exact Qi _ _ rfl q2
 | @lst a vs xs hq hl hi=>
  cases q1;obtain⟨_,_,pl,_⟩:=IsU.list I (SqL.of hq) hl;cases R2 with
  |non=>cases (show q=Fl from q2);exact SeqAt.EqAt.list_none pl PX
  |bl b=>cases (show q=F2 b from q2);exact SeqAt.EqAt.list_bool b pl PX
  |int i=>obtain⟨t,rfl⟩:=(show ∃t,q=FZ i t from q2);exact SeqAt.EqAt.list_int i t pl PX
  |str i=>obtain⟨t,rfl⟩:=(show ∃t,q=Gd i t from q2);exact SeqAt.EqAt.list_str i t pl PX
  |ty=>simp[okU]at o2
  |dic=>simp[okU]at o2
  |xc=>simp[okU]at o2
  |scr=>exact Qi _ _ rfl q2
  |tup=>exact Qi _ _ rfl q2
  |lst=>exact Qi _ _ rfl q2
 | @tup a vs xs hq hl hi=>
  cases q1;obtain⟨_,_,pl,_⟩:=IsU.tup I hq hl;cases R2 with
  |non=>cases (show q=Fl from q2);exact SeqAt.EqAt.tuple_none pl PX
  |bl b=>cases (show q=F2 b from q2);exact SeqAt.EqAt.tuple_bool b pl PX
  |int i=>obtain⟨t,rfl⟩:=(show ∃t,q=FZ i t from q2);exact SeqAt.EqAt.tuple_int i t pl PX
  |str i=>obtain⟨t,rfl⟩:=(show ∃t,q=Gd i t from q2);exact SeqAt.EqAt.tuple_str i t pl PX
  |ty=>simp[okU]at o2
  |dic=>simp[okU]at o2
  |xc=>simp[okU]at o2
  |scr=>exact Qi _ _ rfl q2
  |tup=>exact Qi _ _ rfl q2
  |lst=>exact Qi _ _ rfl q2
theorem hJ{A:Fq}{n:Nat}{a b:E1}{xs ys:List U}{PH PJ:List EU}(p1:s.heap.IsList a PH.toArray)(p2:s.heap.IsList b PJ.toArray)(l1:PH.length=xs.length)(l2:PJ.length=ys.length)(hu:A.units+n<II)
  (he:∀(j:Nat) (j1:j<PH.length) (j2:j<PJ.length),SeqAt.EqAt A.in1 s PH[j] PJ[j] (eqW (xs.getD j .non) (ys.getD j .non))):SeqAt.RcAt A s (.ref a) (.ref b) (eqWs xs ys):=by
 by_cases hl:PH.length=PJ.length
 ·have:=SeqAt.RcAt.lists (A:=A) (s:=s) (e:=λj=>eqW (xs.getD j .non) (ys.getD j .non)) p1 p2 (by simpa using hl) (by lia) (λj h1 h2=>by simpa using he j (by simpa using h1) (by simpa using h2))
  rw[<-dq,<-l1,<-l2,hl,O_,beq_self_eq_true,MX]
  rwa [E7,hl]at this
 ·have:=SeqAt.RcAt.lists_lengths (A:=A) (s:=s) p1 p2 (by simpa using hl) (by lia)
  rw[<-dq,<-l1,<-l2,show (PH.length==PJ.length)=false by simpa using hl,KN]
  exact this
theorem zA{A:Fq}{n:Nat}{a b:E1}{xs ys:List U}{PH PJ:List EU}(p1:Px s.heap a PH.toArray)(p2:Px s.heap b PJ.toArray)(l1:PH.length=xs.length)(l2:PJ.length=ys.length)(hu:A.units+n<II)
  (he:∀(j:Nat) (j1:j<PH.length) (j2:j<PJ.length),SeqAt.EqAt A.in1 s PH[j] PJ[j] (eqW (xs.getD j .non) (ys.getD j .non))):SeqAt.RcAt A s (.ref a) (.ref b) (eqWs xs ys):=by
 have:=SeqAt.RcAt.tuples (A:=A) (s:=s) (e:=λj=>eqW (xs.getD j .non) (ys.getD j .non)) p1 p2 (by lia) (λj h1 h2=>by simpa using he j (by simpa using h1) (by simpa using h2))
 rw[E7,E7,l1,l2,dq]at this;exact this
theorem DD(I:Inv X pins σ H s):∀(n:Nat) (A:Fq) (x y:U) (v w:V) (p q:EU),Rp X.K H v x->Rp X.K H w y->aZ v p->aZ w q->okU n x=true->okU n y=true->A.units+n<II->SeqAt.RcAt A s p q (eqW x y):=by
 intro n
 induction n with
 |zero=>
  intro A x y v w p q R1 R2 q1 q2 o1 o2 hu;cases R1 with
  |non=>
   cases (show p=Fl from q1)
   cases R2 with
   |non=>cases (show q=Fl from q2);exact SeqAt.RcAt.none_none
   |bl b=>cases (show q=F2 b from q2);exact SeqAt.RcAt.none_bool b
   |int i=>obtain⟨t,rfl⟩:=(show ∃t,q=FZ i t from q2);exact SeqAt.RcAt.none_int i t
   |str i=>obtain⟨t,rfl⟩:=(show ∃t,q=Gd i t from q2);exact SeqAt.RcAt.none_str i t
   |_=>simp[okU]at o2
  |bl c=>
   cases (show p=F2 c from q1)
   cases R2 with
   |non=>cases (show q=Fl from q2);exact SeqAt.RcAt.bool_none c
   |bl b=>cases (show q=F2 b from q2);exact SeqAt.RcAt.bool_bool c b
   |int i=>obtain⟨t,rfl⟩:=(show ∃t,q=FZ i t from q2);exact SeqAt.RcAt.bool_int c i t
   |str i=>obtain⟨t,rfl⟩:=(show ∃t,q=Gd i t from q2);exact SeqAt.RcAt.bool_str c i t
   |_=>simp[okU]at o2
  |int c=>
   obtain⟨t0,rfl⟩:=(show ∃t,p=FZ c t from q1)
   cases R2 with
   |non=>cases (show q=Fl from q2);exact SeqAt.RcAt.int_none c t0
   |bl b=>cases (show q=F2 b from q2);exact SeqAt.RcAt.int_bool c t0 b
   |int i=>obtain⟨t,rfl⟩:=(show ∃t,q=FZ i t from q2);exact SeqAt.RcAt.int_int c t0 i t
   |str i=>obtain⟨t,rfl⟩:=(show ∃t,q=Gd i t from q2);exact SeqAt.RcAt.int_str c t0 i t
   |_=>simp[okU]at o2
  |str c=>
   obtain⟨t0,rfl⟩:=(show ∃t,p=Gd c t from q1)
   cases R2 with
   |non=>cases (show q=Fl from q2);exact SeqAt.RcAt.str_none c t0
   |bl b=>cases (show q=F2 b from q2);exact SeqAt.RcAt.str_bool c t0 b
   |int i=>obtain⟨t,rfl⟩:=(show ∃t,q=FZ i t from q2);exact SeqAt.RcAt.str_int c t0 i t
   |str i=>obtain⟨t,rfl⟩:=(show ∃t,q=Gd i t from q2);exact SeqAt.RcAt.str_str c t0 i t
   |_=>simp[okU]at o2
  |_=>simp[okU]at o1
 |succ n ih=>
  intro A x y v w p q R1 R2 q1 q2 o1 o2 hu;have PX:A.units<II:=by lia
  have RC:∀(x y:U) (v w:V) (p q:EU),Rp X.K H v x->Rp X.K H w y->aZ v p->aZ w q->okU n x=true->okU n y=true->SeqAt.RcAt A.in1 s p q (eqW x y):=λx y v w p q r1 r2 k1 k2 z1 z2=>ih A.in1 x y v w p q r1 r2 k1 k2 z1 z2 (by show A.units+1+n<_;lia)
  cases R1 with
  |non=>
   cases (show p=Fl from q1)
   cases R2 with
   |non=>cases (show q=Fl from q2);exact SeqAt.RcAt.none_none
   |bl b=>cases (show q=F2 b from q2);exact SeqAt.RcAt.none_bool b
   |int i=>obtain⟨t,rfl⟩:=(show ∃t,q=FZ i t from q2);exact SeqAt.RcAt.none_int i t
   |str i=>obtain⟨t,rfl⟩:=(show ∃t,q=Gd i t from q2);exact SeqAt.RcAt.none_str i t
   |ty=>simp[okU]at o2
   |dic=>simp[okU]at o2
   |xc=>simp[okU]at o2
   |scr hq hl hi=>cases q2;obtain⟨_,_,pl,_⟩:=IsU.list I hq hl;exact SeqAt.RcAt.none_list pl PX
   |tup hq hl hi=>cases q2;obtain⟨_,_,pl,_⟩:=IsU.tup I hq hl;exact SeqAt.RcAt.none_tuple pl PX
   |lst hq hl hi=>cases q2;obtain⟨_,_,pl,_⟩:=IsU.list I (SqL.of hq) hl;exact SeqAt.RcAt.none_list pl PX
  |bl c=>
   cases (show p=F2 c from q1)
   cases R2 with
   |non=>cases (show q=Fl from q2);exact SeqAt.RcAt.bool_none c
   |bl b=>cases (show q=F2 b from q2);exact SeqAt.RcAt.bool_bool c b
   |int i=>obtain⟨t,rfl⟩:=(show ∃t,q=FZ i t from q2);exact SeqAt.RcAt.bool_int c i t
   |str i=>obtain⟨t,rfl⟩:=(show ∃t,q=Gd i t from q2);exact SeqAt.RcAt.bool_str c i t
   |ty=>simp[okU]at o2
   |dic=>simp[okU]at o2
   |xc=>simp[okU]at o2
   |scr hq hl hi=>cases q2;obtain⟨_,_,pl,_⟩:=IsU.list I hq hl;exact SeqAt.RcAt.bool_list c pl PX
   |tup hq hl hi=>cases q2;obtain⟨_,_,pl,_⟩:=IsU.tup I hq hl;exact SeqAt.RcAt.bool_tuple c pl PX
   |lst hq hl hi=>cases q2;obtain⟨_,_,pl,_⟩:=IsU.list I (SqL.of hq) hl;exact SeqAt.RcAt.bool_list c pl PX
  |int c=>
   obtain⟨t0,rfl⟩:=(show ∃t,p=FZ c t from q1)
   cases R2 with
   |non=>cases (show q=Fl from q2);exact SeqAt.RcAt.int_none c t0
   |bl b=>cases (show q=F2 b from q2);exact SeqAt.RcAt.int_bool c t0 b
   |int i=>obtain⟨t,rfl⟩:=(show ∃t,q=FZ i t from q2);exact SeqAt.RcAt.int_int c t0 i t
   |str i=>obtain⟨t,rfl⟩:=(show ∃t,q=Gd i t from q2);exact SeqAt.RcAt.int_str c t0 i t
   |ty=>simp[okU]at o2
   |dic=>simp[okU]at o2
   |xc=>simp[okU]at o2
   |scr hq hl hi=>cases q2;obtain⟨_,_,pl,_⟩:=IsU.list I hq hl;exact SeqAt.RcAt.int_list c t0 pl PX
   |tup hq hl hi=>cases q2;obtain⟨_,_,pl,_⟩:=IsU.tup I hq hl;exact SeqAt.RcAt.int_tuple c t0 pl PX
   |lst hq hl hi=>cases q2;obtain⟨_,_,pl,_⟩:=IsU.list I (SqL.of hq) hl;exact SeqAt.RcAt.int_list c t0 pl PX
  |str c=>
   obtain⟨t0,rfl⟩:=(show ∃t,p=Gd c t from q1)
   cases R2 with
   |non=>cases (show q=Fl from q2);exact SeqAt.RcAt.str_none c t0
   |bl b=>cases (show q=F2 b from q2);exact SeqAt.RcAt.str_bool c t0 b
   |int i=>obtain⟨t,rfl⟩:=(show ∃t,q=FZ i t from q2);exact SeqAt.RcAt.str_int c t0 i t
   |str i=>obtain⟨t,rfl⟩:=(show ∃t,q=Gd i t from q2);exact SeqAt.RcAt.str_str c t0 i t
   |ty=>simp[okU]at o2
   |dic=>simp[okU]at o2
   |xc=>simp[okU]at o2
   |scr hq hl hi=>cases q2;obtain⟨_,_,pl,_⟩:=IsU.list I hq hl;exact SeqAt.RcAt.str_list c t0 pl PX
   |tup hq hl hi=>cases q2;obtain⟨_,_,pl,_⟩:=IsU.tup I hq hl;exact SeqAt.RcAt.str_tuple c t0 pl PX
   |lst hq hl hi=>cases q2;obtain⟨_,_,pl,_⟩:=IsU.list I (SqL.of hq) hl;exact SeqAt.RcAt.str_list c t0 pl PX
  |ty=>simp[okU]at o1
  |dic=>simp[okU]at o1
  |xc=>simp[okU]at o1
  | @scr a vs xs hq hl hi=>
   cases q1;obtain⟨PH,r1,pl,l1⟩:=IsU.list I hq hl;rw[okU]at o1;cases R2 with
   |non=>cases (show q=Fl from q2);exact SeqAt.RcAt.list_none pl PX
   |bl b=>cases (show q=F2 b from q2);exact SeqAt.RcAt.list_bool b pl PX
   |int i=>obtain⟨t,rfl⟩:=(show ∃t,q=FZ i t from q2);exact SeqAt.RcAt.list_int i t pl PX
   |str i=>obtain⟨t,rfl⟩:=(show ∃t,q=Gd i t from q2);exact SeqAt.RcAt.list_str i t pl PX
   |ty=>simp[okU]at o2
   |dic=>simp[okU]at o2
   |xc=>simp[okU]at o2
   |scr Qb P8 PY=>cases q2;rw[okU]at o2;obtain⟨PJ,r2,P6,l2⟩:=IsU.list I Qb P8;rw[eqW];exact hJ pl P6 l1 l2 hu (cD I r1 r2 hl P8 hi PY o1 o2 RC (by lia))
   |lst Qb P8 PY=>cases q2;rw[okU]at o2;obtain⟨PJ,r2,P6,l2⟩:=IsU.list I (SqL.of Qb) P8;rw[eqW];exact hJ pl P6 l1 l2 hu (cD I r1 r2 hl P8 hi PY o1 o2 RC (by lia))
   |tup Qb P8 PY=>cases q2;obtain⟨PJ,r2,P6,l2⟩:=IsU.tup I Qb P8;exact SeqAt.RcAt.list_tuple pl P6 PX
  | @lst a vs xs hq hl hi=>
   cases q1;obtain⟨PH,r1,pl,l1⟩:=IsU.list I (SqL.of hq) hl;rw[okU]at o1;cases R2 with
   |non=>cases (show q=Fl from q2);exact SeqAt.RcAt.list_none pl PX
   |bl b=>cases (show q=F2 b from q2);exact SeqAt.RcAt.list_bool b pl PX
   |int i=>obtain⟨t,rfl⟩:=(show ∃t,q=FZ i t from q2);exact SeqAt.RcAt.list_int i t pl PX
   |str i=>obtain⟨t,rfl⟩:=(show ∃t,q=Gd i t from q2);exact SeqAt.RcAt.list_str i t pl PX
   |ty=>simp[okU]at o2
   |dic=>simp[okU]at o2
   |xc=>simp[okU]at o2
   |scr Qb P8 PY=>cases q2;rw[okU]at o2;obtain⟨PJ,r2,P6,l2⟩:=IsU.list I Qb P8;rw[eqW];exact hJ pl P6 l1 l2 hu (cD I r1 r2 hl P8 hi PY o1 o2 RC (by lia))
   |lst Qb P8 PY=>cases q2;rw[okU]at o2;obtain⟨PJ,r2,P6,l2⟩:=IsU.list I (SqL.of Qb) P8;rw[eqW];exact hJ pl P6 l1 l2 hu (cD I r1 r2 hl P8 hi PY o1 o2 RC (by lia))
   |tup Qb P8 PY=>cases q2;obtain⟨PJ,r2,P6,l2⟩:=IsU.tup I Qb P8;exact SeqAt.RcAt.list_tuple pl P6 PX
  | @tup a vs xs hq hl hi=>
   cases q1;obtain⟨PH,r1,pl,l1⟩:=IsU.tup I hq hl;rw[okU]at o1;cases R2 with
   |non=>cases (show q=Fl from q2);exact SeqAt.RcAt.tuple_none pl PX
   |bl b=>cases (show q=F2 b from q2);exact SeqAt.RcAt.tuple_bool b pl PX
   |int i=>obtain⟨t,rfl⟩:=(show ∃t,q=FZ i t from q2);exact SeqAt.RcAt.tuple_int i t pl PX
   |str i=>obtain⟨t,rfl⟩:=(show ∃t,q=Gd i t from q2);exact SeqAt.RcAt.tuple_str i t pl PX
   |ty=>simp[okU]at o2
   |dic=>simp[okU]at o2
   |xc=>simp[okU]at o2
   |scr Qb P8 PY=>cases q2;obtain⟨PJ,r2,P6,l2⟩:=IsU.list I Qb P8;exact SeqAt.RcAt.tuple_list pl P6 PX
   |lst Qb P8 PY=>cases q2;obtain⟨PJ,r2,P6,l2⟩:=IsU.list I (SqL.of Qb) P8;exact SeqAt.RcAt.tuple_list pl P6 PX
   |tup Qb P8 PY=>cases q2;rw[okU]at o2;obtain⟨PJ,r2,P6,l2⟩:=IsU.tup I Qb P8;rw[eqW];exact zA pl P6 l1 l2 hu (cD I r1 r2 hl P8 hi PY o1 o2 RC (by lia))
theorem fk{A:Fq}{n:Nat}{a b:E1}{xs ys:List U}{PH PJ:List EU}(p1:s.heap.IsList a PH.toArray)(p2:s.heap.IsList b PJ.toArray)(l1:PH.length=xs.length)(l2:PJ.length=ys.length)(hu:A.units+n<II)
  (he:∀(j:Nat) (j1:j<PH.length) (j2:j<PJ.length),SeqAt.EqAt A.in1 s PH[j] PJ[j] (eqW (xs.getD j .non) (ys.getD j .non))):SeqAt.RcNeAt A s (.ref a) (.ref b) (!eqWs xs ys):=by
 by_cases hl:PH.length=PJ.length
 ·have:=SeqAt.RcNeAt.lists (A:=A) (s:=s) (e:=λj=>eqW (xs.getD j .non) (ys.getD j .non)) p1 p2 (by simpa using hl) (by lia) (λj h1 h2=>by simpa using he j (by simpa using h1) (by simpa using h2))
  rw[<-dq,<-l1,<-l2,hl,O_,beq_self_eq_true,MX]
  rwa [E7,hl]at this
 ·have:=SeqAt.RcNeAt.lists_lengths (A:=A) (s:=s) p1 p2 (by simpa using hl) (by lia)
  rw[<-dq,<-l1,<-l2,show (PH.length==PJ.length)=false by simpa using hl,KN]
  exact this
theorem u8{A:Fq}{n:Nat}{a b:E1}{xs ys:List U}{PH PJ:List EU}(p1:Px s.heap a PH.toArray)(p2:Px s.heap b PJ.toArray)(l1:PH.length=xs.length)(l2:PJ.length=ys.length)(hu:A.units+n<II)
  (he:∀(j:Nat) (j1:j<PH.length) (j2:j<PJ.length),SeqAt.EqAt A.in1 s PH[j] PJ[j] (eqW (xs.getD j .non) (ys.getD j .non))):SeqAt.RcNeAt A s (.ref a) (.ref b) (!eqWs xs ys):=by
 have:=SeqAt.RcNeAt.tuples (A:=A) (s:=s) (e:=λj=>eqW (xs.getD j .non) (ys.getD j .non)) p1 p2 (by lia) (λj h1 h2=>by simpa using he j (by simpa using h1) (by simpa using h2))
 rw[E7,E7,l1,l2,dq]at this;exact this
theorem Bt(I:Inv X pins σ H s)(n:Nat)(A:Fq)(x y:U)(v w:V)(p q:EU)(R1:Rp X.K H v x)(R2:Rp X.K H w y)(q1:aZ v p)(q2:aZ w q)(o1:okU (n+1) x=true)(o2:okU (n+1) y=true)(hu:A.units+(n+1)<II):SeqAt.RcNeAt A s p q (!eqW x y):=by
 have PX:A.units<II:=by lia
 have RC:∀(x y:U) (v w:V) (p q:EU),Rp X.K H v x->Rp X.K H w y->aZ v p->aZ w q->okU n x=true->okU n y=true->SeqAt.RcAt A.in1 s p q (eqW x y):=λx y v w p q r1 r2 k1 k2 z1 z2=>DD I n A.in1 x y v w p q r1 r2 k1 k2 z1 z2 (by show A.units+1+n<_;lia)
 cases R1 with
 |ty=>simp[okU]at o1
 |dic=>simp[okU]at o1
 |xc=>simp[okU]at o1
 |non=>
  cases (show p=Fl from q1)
  cases R2 with
  |ty=>simp[okU]at o2
  |dic=>simp[okU]at o2
  |xc=>simp[okU]at o2
  |non=>cases (show q=Fl from q2);exact SeqAt.RcNeAt.none_none
  |bl c2=>cases (show q=F2 c2 from q2);exact SeqAt.RcNeAt.none_bool c2
  |int c2=>obtain⟨t2,rfl⟩:=(show ∃t,q=FZ c2 t from q2);exact SeqAt.RcNeAt.none_int c2 t2
  |str c2=>obtain⟨t2,rfl⟩:=(show ∃t,q=Gd c2 t from q2);exact SeqAt.RcNeAt.none_str c2 t2
  |scr Qe P7 QP=>cases q2;obtain⟨PJ,r2,P6,l2⟩:=IsU.list I Qe P7;exact SeqAt.RcNeAt.none_list P6 PX
  |tup Qe P7 QP=>cases q2;obtain⟨PJ,r2,P6,l2⟩:=IsU.tup I Qe P7;exact SeqAt.RcNeAt.none_tuple P6 PX
  |lst Qe P7 QP=>cases q2;obtain⟨PJ,r2,P6,l2⟩:=IsU.list I (SqL.of Qe) P7;exact SeqAt.RcNeAt.none_list P6 PX
 |bl c1=>
  cases (show p=F2 c1 from q1)
  cases R2 with
  |ty=>simp[okU]at o2
  |dic=>simp[okU]at o2
  |xc=>simp[okU]at o2
  |non=>cases (show q=Fl from q2);exact SeqAt.RcNeAt.bool_none c1
  |bl c2=>cases (show q=F2 c2 from q2);exact SeqAt.RcNeAt.bool_bool c1 c2
  |int c2=>obtain⟨t2,rfl⟩:=(show ∃t,q=FZ c2 t from q2);exact SeqAt.RcNeAt.bool_int c1 c2 t2
  |str c2=>obtain⟨t2,rfl⟩:=(show ∃t,q=Gd c2 t from q2);exact SeqAt.RcNeAt.bool_str c1 c2 t2
  |scr Qe P7 QP=>cases q2;obtain⟨PJ,r2,P6,l2⟩:=IsU.list I Qe P7;exact SeqAt.RcNeAt.bool_list c1 P6 PX
  |tup Qe P7 QP=>cases q2;obtain⟨PJ,r2,P6,l2⟩:=IsU.tup I Qe P7;exact SeqAt.RcNeAt.bool_tuple c1 P6 PX
  |lst Qe P7 QP=>cases q2;obtain⟨PJ,r2,P6,l2⟩:=IsU.list I (SqL.of Qe) P7;exact SeqAt.RcNeAt.bool_list c1 P6 PX
 |int c1=>
  obtain⟨t1,rfl⟩:=(show ∃t,p=FZ c1 t from q1)
  cases R2 with
  |ty=>simp[okU]at o2
  |dic=>simp[okU]at o2
  |xc=>simp[okU]at o2
  |non=>cases (show q=Fl from q2);exact SeqAt.RcNeAt.int_none c1 t1
  |bl c2=>cases (show q=F2 c2 from q2);exact SeqAt.RcNeAt.int_bool c1 t1 c2
  |int c2=>obtain⟨t2,rfl⟩:=(show ∃t,q=FZ c2 t from q2);exact SeqAt.RcNeAt.int_int c1 t1 c2 t2
  |str c2=>obtain⟨t2,rfl⟩:=(show ∃t,q=Gd c2 t from q2);exact SeqAt.RcNeAt.int_str c1 t1 c2 t2
  |scr Qe P7 QP=>cases q2;obtain⟨PJ,r2,P6,l2⟩:=IsU.list I Qe P7;exact SeqAt.RcNeAt.int_list c1 t1 P6 PX
  |tup Qe P7 QP=>cases q2;obtain⟨PJ,r2,P6,l2⟩:=IsU.tup I Qe P7;exact SeqAt.RcNeAt.int_tuple c1 t1 P6 PX
  |lst Qe P7 QP=>cases q2;obtain⟨PJ,r2,P6,l2⟩:=IsU.list I (SqL.of Qe) P7;exact SeqAt.RcNeAt.int_list c1 t1 P6 PX
 |str c1=>
  obtain⟨t1,rfl⟩:=(show ∃t,p=Gd c1 t from q1)
  cases R2 with
  |ty=>simp[okU]at o2
  |dic=>simp[okU]at o2
  |xc=>simp[okU]at o2
  |non=>cases (show q=Fl from q2);exact SeqAt.RcNeAt.str_none c1 t1
  |bl c2=>cases (show q=F2 c2 from q2);exact SeqAt.RcNeAt.str_bool c1 t1 c2
  |int c2=>obtain⟨t2,rfl⟩:=(show ∃t,q=FZ c2 t from q2);exact SeqAt.RcNeAt.str_int c1 t1 c2 t2
  |str c2=>obtain⟨t2,rfl⟩:=(show ∃t,q=Gd c2 t from q2);exact SeqAt.RcNeAt.str_str c1 t1 c2 t2
  |scr Qe P7 QP=>cases q2;obtain⟨PJ,r2,P6,l2⟩:=IsU.list I Qe P7;exact SeqAt.RcNeAt.str_list c1 t1 P6 PX
  |tup Qe P7 QP=>cases q2;obtain⟨PJ,r2,P6,l2⟩:=IsU.tup I Qe P7;exact SeqAt.RcNeAt.str_tuple c1 t1 P6 PX
  |lst Qe P7 QP=>cases q2;obtain⟨PJ,r2,P6,l2⟩:=IsU.list I (SqL.of Qe) P7;exact SeqAt.RcNeAt.str_list c1 t1 P6 PX
 |scr Ra Qk hi1=>
  cases q1;obtain⟨its1,r1,Qx,l1⟩:=IsU.list I Ra Qk;cases R2 with
  |ty=>simp[okU]at o2
  |dic=>simp[okU]at o2
  |xc=>simp[okU]at o2
  |non=>cases (show q=Fl from q2);exact SeqAt.RcNeAt.list_none Qx PX
  |bl c2=>cases (show q=F2 c2 from q2);exact SeqAt.RcNeAt.list_bool c2 Qx PX
  |int c2=>obtain⟨t2,rfl⟩:=(show ∃t,q=FZ c2 t from q2);exact SeqAt.RcNeAt.list_int c2 t2 Qx PX
  |str c2=>obtain⟨t2,rfl⟩:=(show ∃t,q=Gd c2 t from q2);exact SeqAt.RcNeAt.list_str c2 t2 Qx PX
  |scr Qe P7 QP=>cases q2;obtain⟨PJ,r2,P6,l2⟩:=IsU.list I Qe P7;rw[okU]at o1;rw[okU]at o2;rw[eqW];exact fk Qx P6 l1 l2 hu (cD I r1 r2 Qk P7 hi1 QP o1 o2 RC (by lia))
  |tup Qe P7 QP=>cases q2;obtain⟨PJ,r2,P6,l2⟩:=IsU.tup I Qe P7;exact SeqAt.RcNeAt.list_tuple Qx P6 PX
  |lst Qe P7 QP=>cases q2;obtain⟨PJ,r2,P6,l2⟩:=IsU.list I (SqL.of Qe) P7;rw[okU]at o1;rw[okU]at o2;rw[eqW];exact fk Qx P6 l1 l2 hu (cD I r1 r2 Qk P7 hi1 QP o1 o2 RC (by lia))
 |tup Ra Qk hi1=>
  cases q1;obtain⟨its1,r1,Qx,l1⟩:=IsU.tup I Ra Qk;cases R2 with
  |ty=>simp[okU]at o2
  |dic=>simp[okU]at o2
  |xc=>simp[okU]at o2
  |non=>cases (show q=Fl from q2);exact SeqAt.RcNeAt.tuple_none Qx PX
  |bl c2=>cases (show q=F2 c2 from q2);exact SeqAt.RcNeAt.tuple_bool c2 Qx PX
  |int c2=>obtain⟨t2,rfl⟩:=(show ∃t,q=FZ c2 t from q2);exact SeqAt.RcNeAt.tuple_int c2 t2 Qx PX
  |str c2=>obtain⟨t2,rfl⟩:=(show ∃t,q=Gd c2 t from q2);exact SeqAt.RcNeAt.tuple_str c2 t2 Qx PX
  |scr Qe P7 QP=>cases q2;obtain⟨PJ,r2,P6,l2⟩:=IsU.list I Qe P7;exact SeqAt.RcNeAt.tuple_list Qx P6 PX
  |tup Qe P7 QP=>cases q2;obtain⟨PJ,r2,P6,l2⟩:=IsU.tup I Qe P7;rw[okU]at o1;rw[okU]at o2;rw[eqW];exact u8 Qx P6 l1 l2 hu (cD I r1 r2 Qk P7 hi1 QP o1 o2 RC (by lia))
  |lst Qe P7 QP=>cases q2;obtain⟨PJ,r2,P6,l2⟩:=IsU.list I (SqL.of Qe) P7;exact SeqAt.RcNeAt.tuple_list Qx P6 PX
 |lst Ra Qk hi1=>
  cases q1;obtain⟨its1,r1,Qx,l1⟩:=IsU.list I (SqL.of Ra) Qk;cases R2 with
  |ty=>simp[okU]at o2
  |dic=>simp[okU]at o2
  |xc=>simp[okU]at o2
  |non=>cases (show q=Fl from q2);exact SeqAt.RcNeAt.list_none Qx PX
  |bl c2=>cases (show q=F2 c2 from q2);exact SeqAt.RcNeAt.list_bool c2 Qx PX
  |int c2=>obtain⟨t2,rfl⟩:=(show ∃t,q=FZ c2 t from q2);exact SeqAt.RcNeAt.list_int c2 t2 Qx PX
  |str c2=>obtain⟨t2,rfl⟩:=(show ∃t,q=Gd c2 t from q2);exact SeqAt.RcNeAt.list_str c2 t2 Qx PX
  |scr Qe P7 QP=>cases q2;obtain⟨PJ,r2,P6,l2⟩:=IsU.list I Qe P7;rw[okU]at o1;rw[okU]at o2;rw[eqW];exact fk Qx P6 l1 l2 hu (cD I r1 r2 Qk P7 hi1 QP o1 o2 RC (by lia))
  |tup Qe P7 QP=>cases q2;obtain⟨PJ,r2,P6,l2⟩:=IsU.tup I Qe P7;exact SeqAt.RcNeAt.list_tuple Qx P6 PX
  |lst Qe P7 QP=>cases q2;obtain⟨PJ,r2,P6,l2⟩:=IsU.list I (SqL.of Qe) P7;rw[okU]at o1;rw[okU]at o2;rw[eqW];exact fk Qx P6 l1 l2 hu (cD I r1 r2 Qk P7 hi1 QP o1 o2 RC (by lia))
end
def OpS(X:Cx)(f:EU->EU->Sem EU)(x y:U)(z:V):Prop:=OpR X f λv w H Q=>Rp X.K H v x/\Rp X.K H w y/\Q z H
section
variable {X:Cx}{ps:PSt}{a b c e:Expr}{rest:List Expr}{p:Pos}{x y:U}{i j:Int}{k m:Bool}
theorem Rp.out{K:EL}{H:Hp}{O:List E1}{v:V}{u:U}(h:Rp K (hid H O) v u):Rp K H v u:=h.same ax
theorem kJ{op:O6}(ho:OpS X (Gn op) x y (.bl k))(ha:Ev X H0 O0 ps a x)(hb:Ev X H0 O0 ps b y)(hm:Jx op b=false:=by first |exact xn _ |with_unfolding_all rfl):Ev X H0 O0 ps (.Compare a [op] [b] pos) (.bl k):=
 PE.mono (Ap ho ha hb hm) λσ H Q ⟨O,R,q⟩=>two R (λ_ _ _ z=>z) (λ_ _ _ z=>z) λv w H' s _ r1 r2=>⟨r1.out,r2.out,q _ H' s (.bl _)⟩
theorem aF{op:O6}(ho:OpS X (Gn op) x y (.bl k))(ha:Ev X H0 O0 ps a x)(hb:Ev X H0 O0 ps b y)(hm:Jx op b=false:=by first |exact xn _ |with_unfolding_all rfl):Tt X H0 O0 ps (.Compare a [op] [b] pos) k:=
 PT.mono (y8 ho ha hb hm) λσ H Q ⟨O,R,q⟩=>two R (λ_ _ _ z=>z) (λ_ _ _ z=>z) λv w H' s _ r1 r2=>⟨r1.out,r2.out,_,rfl,q H' s⟩
theorem vR{op:O6}{g:Int->Int->Bool}(ho:OpR X (Gn op) (rI0 λi j=>.bl (g i j))):OpS X (Gn op) (.int i) (.int j) (.bl (g i j)):=by
 intro pins s σ H v w p q Q I r1 r2 h;obtain⟨h1,h2,h3⟩:=h;cases h1;cases h2;exact ho pins s σ H _ _ _ _ Q I r1 r2 ⟨i,j,rfl,rfl,h3⟩
theorem gj:OpS X (Gn .Lt) (.int i) (.int j) (.bl (decide (i<j))):=vR C8
theorem El:OpS X (Gn .LtE) (.int i) (.int j) (.bl (decide (i<=j))):=vR DG
theorem f8:OpS X (Gn .Gt) (.int i) (.int j) (.bl (decide (j<i))):=vR DX
theorem DI(hu:X.A.units+10<II)(h1:okU 9 x=true)(h2:okU 9 y=true):OpS X (Gn .Eq) x y (.bl (eqW x y)):=by
 intro pins s σ H v w p q Q I r1 r2 h;obtain⟨k1,k2,k3⟩:=h;exact DD I 9 X.A x y v w p q k1 k2 r1 r2 h1 h2 (by lia) X.prog X.w _ _ (a_ I k3 rfl)
theorem EB(hu:X.A.units+10<II)(h1:okU 9 x=true)(h2:okU 9 y=true):OpS X (Gn .NotEq) x y (.bl (!eqW x y)):=by
 intro pins s σ H v w p q Q I r1 r2 h;obtain⟨k1,k2,k3⟩:=h;exact Bt I 8 X.A x y v w p q k1 k2 r1 r2 h1 h2 (by lia) X.prog X.w _ _ (a_ I k3 rfl)
theorem bO:OpS X (Gn .Eq) (.int i) (.int j) (.bl (decide (i=j))):=by
 intro pins s σ H v w p q Q I r1 r2 h;obtain⟨h1,h2,h3⟩:=h;cases h1;cases h2;exact Db pins s σ H _ _ _ _ Q I r1 r2 ⟨rfl,by rw[jj,<-J3]at *;simpa [J3] using h3⟩
theorem i4:OpS X (Gn .NotEq) (.int i) (.int j) (.bl (!decide (i=j))):=by
 intro pins s σ H v w p q Q I r1 r2 h;obtain⟨h1,h2,h3⟩:=h;cases h1;cases h2;exact Di pins s σ H _ _ _ _ Q I r1 r2 ⟨rfl,by rw[jj];simpa [J3] using h3⟩
theorem dD(h:Ev X H0 O0 ps e (.bl k))(he:∀QX,isTrue e X.env QX=(do let v <-QX;Pi e.pos;Kk [v] (truthy v)):=by intro _;rfl):Tt X H0 O0 ps e k:=
 PT.mono (CS h he) λσ H Q ⟨O,R,q⟩=>⟨O,R,λv H' s r=>by cases r;exact⟨_,rfl,q H' s⟩⟩
theorem dY(h:Tt X H0 O0 ps a k):Tt X H0 O0 ps (.UnaryOp .Not a pos) (!k):=PT.mono (BV h) λσ H Q ⟨O,R,q⟩=>⟨O,R,q⟩
theorem Tw.t(h:Tw X H0 O0 ps e k):Tt X H0 O0 ps e k:=h.pt
theorem qj(h:Tt X H0 O0 ps a k):Tw X H0 O0 ps (.BoolOp .And [a] pos) k:=y4 h
theorem j_(h:Tt X H0 O0 ps a k):Tw X H0 O0 ps (.BoolOp .Or [a] pos) k:=Ch h
theorem sJ(ha:Tt X H0 O0 ps a k)(hb:k=true->Tw X H0 O0 ps (.BoolOp .And (b::rest) pos) m):Tw X H0 O0 ps (.BoolOp .And (a::b::rest) pos) (k && m):=by
 cases k with
 |true=>exact PW.mono (wF ha (hb rfl)) λσ H Q ⟨O,R,q⟩=>⟨O,R,λH' s=>by exact nj (⟨O,R.go s,λH2 s2=>q H2 (s.trans s2)⟩)⟩
 |false=>exact PW.mono (wF ha (λ_ _ _ _ _ _ _ h=>h.elim) (tB':=λ_ _ _=>False)) λσ H Q ⟨O,R,q⟩=>⟨O,R,λH' s=>by exact m_ (q H' s)⟩
theorem kT(ha:Tt X H0 O0 ps a k)(hb:k=false->Tw X H0 O0 ps (.BoolOp .Or (b::rest) pos) m):Tw X H0 O0 ps (.BoolOp .Or (a::b::rest) pos) (k ||m):=by
 cases k with
 |false=>exact PW.mono (Bd ha (hb rfl)) λσ H Q ⟨O,R,q⟩=>⟨O,R,λH' s=>by exact m_ (⟨O,R.go s,λH2 s2=>q H2 (s.trans s2)⟩)⟩
 |true=>exact PW.mono (Bd ha (λ_ _ _ _ _ _ _ h=>h.elim) (tB':=λ_ _ _=>False)) λσ H Q ⟨O,R,q⟩=>⟨O,R,λH' s=>by exact nj (q H' s)⟩
theorem oP{op}(h:Ev X H0 O0 ps a u):Ev X H0 O0 ps (.BoolOp op [a] pos) u:=CA h
theorem lP(ha:Ev X H0 O0 ps a (.bl k))(hb:k=true->Ev X H0 O0 ps (.BoolOp .And (b::rest) pos) (.bl m)):Ev X H0 O0 ps (.BoolOp .And (a::b::rest) pos) (.bl (k && m)):=by
 cases k with
 |true=>exact PE.mono (wm ha (hb rfl)) λσ H Q ⟨O,R,q⟩=>⟨O,R,λv H' s r=>by cases r;exact⟨_,rfl,by exact nj (⟨O,R.go s,λv H2 s2 r2=>q v H2 (s.trans s2) r2⟩)⟩⟩
 |false=>exact PE.mono (wm ha (λ_ _ _ _ _ _ h=>h.elim) (tb:=λ_ _ _=>False)) λσ H Q ⟨O,R,q⟩=>⟨O,R,λv H' s r=>by cases r;exact⟨_,rfl,by exact m_ (q _ H' s (.bl _))⟩⟩
theorem Bj(ha:Ev X H0 O0 ps a (.bl k)):Ev X H0 O0 ps (.UnaryOp .Not a pos) (.bl (!k)):=PE.mono (B6 ha) λσ H Q ⟨O,R,q⟩=>⟨O,R,λv H' s r=>by cases r;exact⟨_,rfl,q _ H' s (.bl _)⟩⟩
theorem Be{c:Expr}(hc:Tt X H0 O0 ps c k)(ha:k=true->Ev X H0 O0 ps a u)(hb:k=false->Ev X H0 O0 ps b u):Ev X H0 O0 ps (.IfExp c a b pos) u:=by
 cases k with
 |true=>exact PE.mono (om hc (ha rfl) (λ_ _ _ _ _ _ h=>h.elim) (tb:=λ_ _ _=>False)) λσ H Q ⟨O,R,q⟩=>⟨O,R,λH' s=>by exact nj (⟨O,R.go s,λv H2 s2 r2=>q v H2 (s.trans s2) r2⟩)⟩
 |false=>exact PE.mono (om hc (λ_ _ _ _ _ _ h=>h.elim) (hb rfl) (ta:=λ_ _ _=>False)) λσ H Q ⟨O,R,q⟩=>⟨O,R,λH' s=>by exact m_ (⟨O,R.go s,λv H2 s2 r2=>q v H2 (s.trans s2) r2⟩)⟩
theorem ak:EvA X H0 O0 ps [] []:=PA.mono eP λσ H Q ⟨O,R,q⟩=>q [] H (.refl H) .nil
theorem ae(ha:Ev X H0 O0 ps e u)(hr:EvA X H0 O0 ps es us)(hs:E4 (e::es) X.env=(false,HE e X.env)::E4 es X.env:=by rfl):EvA X H0 O0 ps (e::es) (u::us):=
 PA.mono (ci ha hr hs) λσ H Q ⟨O,R,q⟩=>⟨O,R,λv H1 s1 r1=>⟨O,R.go s1,λvs H2 s2 r2=>q _ H2 (s1.trans s2) (.cons (r1.same (aC s2)) r2)⟩⟩
theorem Rs.hidnew{K:EL}{σ:St}{H:Hp}{O:List E1}(R:Rs K H0 O0 ps σ H O){p:E1}{o:HO}(n:H p=none):hid (upd H p o) O p=some o:=cS aK λz=>R.dom p z n
theorem DV{x1}(h:EvA X H0 O0 ps es us)(hz:us.length<=sizeLine:=by first |decide | (simp only[FV,IK];decide)):Ev X H0 O0 ps (.Tuple es x1 pos) (.tup us):=
 PE.mono (Bs h) λσ H Q ⟨O,R,q⟩=>⟨O,R,λvs H1 s1 r1=>⟨by rw[r1.len];exact hz,λp hp=>by
  have s2:=aM hp (.tup vs);have r2:=r1.same (aC (O:=O) s2);exact q _ _ (s1.trans s2) (.tup (SqT.of ((R.go s1).hidnew hp)) r2.len r2.at_)⟩⟩
theorem C5(h:EvA X H0 O0 ps es us)(hz:us.length<=sizeLine:=by first |decide | (simp only[FV,IK];decide)):EvN X H0 O0 ps (.List es pos) us:=
 PE.mono (BJ h) λσ H Q ⟨O,R,q⟩=>⟨O,R,λvs H1 s1 r1=>⟨by rw[r1.len];exact hz,λp hp=>by
  exact q p vs _ (s1.trans (aM hp _)) (s1.free hp) aK (r1.same (bn (aM hp _) hp))⟩⟩
theorem ay(ha:Ev X H0 O0 ps a x)(hb:Ev X H0 O0 ps b (.int i))(hx:x.items=some xs)(hi:atI xs i=some u)(hs:nC b:=by intro _ _;rfl):Ev X H0 O0 ps (.Subscript a b pos) u:=
 PE.mono (AX (t4.or BZ) ha hb hs) λσ H Q ⟨O,R,q⟩=>two (y:=.int i) R (λ_ _ _ z=>z) (λ_ _ _ z=>z) λv w H' s _ r1 r2=>by
  cases r2;cases r1 with
  |scr h hl hh=>cases hx;obtain⟨z,h1,h2⟩:=Rps.atI ⟨hl,hh⟩ hi;exact .inl ⟨_,_,i,z,rfl,rfl,ax.seq h,h1,q z H' s h2⟩
  |lst h hl hh=>cases hx;obtain⟨z,h1,h2⟩:=Rps.atI ⟨hl,hh⟩ hi;exact .inl ⟨_,_,i,z,rfl,rfl,ax.seq (SqL.of h),h1,q z H' s h2⟩
  |tup h hl hh=>cases hx;obtain⟨z,h1,h2⟩:=Rps.atI ⟨hl,hh⟩ hi;exact .inr ⟨_,_,i,z,rfl,rfl,ax.tup h,h1,q z H' s h2⟩
  |_=>cases hx
theorem dU(n:Nat){x:Str}(h:ps[n]?=some (some (.own xs)))(hb:Ev X H0 O0 ps b (.int i))(hi:atI xs i=some u)(hN:X.N[n]?=some x:=by rfl)(hv:Vis X.env.scope x:=by first |exact Or.inl rfl |exact Or.inr (Or.inl rfl) |exact Or.inr (Or.inr rfl))(hd:(x==("__debug__":Str))=false:=by decide)
  (QD:(x==("__classdict__":Str))=false:=by decide) (hs:nC b:=by intro _ _;rfl):Ev X H0 O0 ps (.Subscript (.Name x p) b pos) u:=
 PE.mono (AX t4 (fY hN hv hd QD) hb hs) λσ H Q ⟨O,R,q⟩=>by
  obtain⟨v,h1,a,vs,rfl,h3,h4,h5,h6⟩:=R.at_ n _ h;refine⟨_,h1,O,R,λw H' s r=>?_⟩
  cases r;obtain⟨z,k1,k2⟩:=h6.atI hi;exact⟨a,vs,i,z,rfl,rfl,SqL.of (s _ _ h5),k1,q z H' s (k2.same (aC s))⟩
def eB(X:Cx)(f:EU)(us:List U)(u:U):Prop:=cW X f λvs H Q=>∃O,(∀a∈O,H a≠none)/\Rps X.K (hid H O) vs us/\∀v H',aJ H H'->Rp X.K (hid H' O) v u->Q v H'
def Bc(X:Cx)(f:EU)(us:List U)(xs:List U):Prop:=cW X f λvs H Q=>∃O,(∀a∈O,H a≠none)/\Rps X.K (hid H O) vs us/\∀a vs H',aJ H H'->H a=none->H' a=some (.lst vs)->Rps X.K (hid H' (a::O)) vs xs->Q (.ref a) H'
theorem ar{id:String}{f:Str}(hc:eB X (.builtin id) us u)(hg:Gl X f)(hm:X.mg f=none)(hv:GU f=some (.builtin id))(ha:EvA X H0 O0 ps (e::es) us)(hn:f≠"__name__":=by decide)(Q6:(f==("__debug__":Str))=false:=by decide)
  (he:E4 (e::es) X.env=(false,HE e X.env)::E4 es X.env:=by rfl) (QA:(Iu pos (E4 es X.env)).any (·.1)=false:=by rfl):Ev X H0 O0 ps (.Call (.Name f p) (e::es) [] pos) u:=
 PE.mono (n6 hc hg hm hv ha hn Q6 he QA) λσ H Q ⟨O,R,q⟩=>⟨O,R,λvs H1 s1 r1=>⟨O,(R.go s1).dom,r1,λv H2 s2 r2=>q v H2 (s1.trans s2) r2⟩⟩
theorem zt{id:String}{f:Str}(hc:eB X (.type id) us u)(hg:Gl X f)(hm:X.mg f=none)(hv:GU f=some (.type id))(ha:EvA X H0 O0 ps (e::es) us)(hn:f≠"__name__":=by decide)(Q6:(f==("__debug__":Str))=false:=by decide)
  (he:E4 (e::es) X.env=(false,HE e X.env)::E4 es X.env:=by rfl) (QA:(Iu pos (E4 es X.env)).any (·.1)=false:=by rfl):Ev X H0 O0 ps (.Call (.Name f p) (e::es) [] pos) u:=
 PE.mono (lZ hc hg hm hv ha hn Q6 he QA) λσ H Q ⟨O,R,q⟩=>⟨O,R,λvs H1 s1 r1=>⟨O,(R.go s1).dom,r1,λv H2 s2 r2=>q v H2 (s1.trans s2) r2⟩⟩
theorem df{id:String}{f:Str}(hc:Bc X (.type id) us xs)(hg:Gl X f)(hm:X.mg f=none)(hv:GU f=some (.type id))(ha:EvA X H0 O0 ps (e::es) us)(hn:f≠"__name__":=by decide)(Q6:(f==("__debug__":Str))=false:=by decide)
  (he:E4 (e::es) X.env=(false,HE e X.env)::E4 es X.env:=by rfl) (QA:(Iu pos (E4 es X.env)).any (·.1)=false:=by rfl):EvN X H0 O0 ps (.Call (.Name f p) (e::es) [] pos) xs:=
 PE.mono (lZ hc hg hm hv ha hn Q6 he QA) λσ H Q ⟨O,R,q⟩=>⟨O,R,λvs H1 s1 r1=>⟨O,(R.go s1).dom,r1,λa vs H2 s2 n h r2=>q a vs H2 (s1.trans s2) (s1.free n) h r2⟩⟩
theorem cq{K:EL}{H:Hp}{vs:List V}(h:Rps K H vs [x]):∃v,vs=[v]/\Rp K H v x:=by
 obtain⟨v,ws,rfl,h1,h2⟩:=h.cons_inv;rw[h2.nil_inv];exact⟨v,rfl,h1⟩
theorem gy{K:EL}{H:Hp}{vs:List V}(h:Rps K H vs [x,y]):∃v w,vs=[v,w]/\Rp K H v x/\Rp K H w y:=by
 obtain⟨v,ws,rfl,h1,h2⟩:=h.cons_inv;obtain⟨w,rfl,h3⟩:=cq h2;exact⟨v,w,rfl,h1,h3⟩
theorem cW.mono{f:EU}{r r':List V->Hp->VK->Prop}(h:cW X f r)(m:∀vs H Q,r' vs H Q->r vs H Q):cW X f r':=λpins s σ H vs us Q I v q=>h pins s σ H vs us Q I v (m vs H Q q)
theorem mI{K:EL}{H:Hp}{v:V}(h:Rp K H v x)(hx:x.items=some xs):∃a vs,v=.ref a/\(SqL K H a vs\/SqT K H a vs)/\Rps K H vs xs:=by
 cases h with
 |scr h hl hh=>cases hx;exact⟨_,_,rfl,.inl h,hl,hh⟩
 |lst h hl hh=>cases hx;exact⟨_,_,rfl,.inl (SqL.of h),hl,hh⟩
 |tup h hl hh=>cases hx;exact⟨_,_,rfl,.inr h,hl,hh⟩
 |_=>cases hx
theorem tf{K:EL}{H:Hp}{O:List E1}{a:E1}{vs:List V}(h:SqL K (hid H O) a vs\/SqT K (hid H O) a vs):SqL K H a vs\/SqT K H a vs:=h.imp (λz=>ax.seq z) λz=>ax.tup z
theorem bJ(hx:x.items=some xs):eB X (.builtin "len") [x] (.int xs.length):=cW.mono im λvs H Q ⟨O,d,r,q⟩=>by
 obtain⟨v,rfl,h⟩:=cq r;obtain⟨a,ws,rfl,h1,h2⟩:=mI h hx;exact⟨a,ws,rfl,tf h1,by rw[h2.len];exact q _ H (.refl H) (.int _)⟩
theorem By(n:Nat){x:Str}(h:ps[n]?=some (some (.own xs)))(hg:Gl X "len")(hm:X.mg "len"=none)(hN:X.N[n]?=some x:=by rfl)(hv:Vis X.env.scope x:=by first |exact Or.inl rfl |exact Or.inr (Or.inl rfl) |exact Or.inr (Or.inr rfl))(hd:(x==("__debug__":Str))=false:=by decide)
  (QD:(x==("__classdict__":Str))=false:=by decide) {pc p':Pos} (hs:E4 [.Name x p'] X.env=(false,HE (.Name x p') X.env)::E4 [] X.env:=by rfl) (QA:(Iu pos (E4 [] X.env)).any (·.1)=false:=by rfl):Ev X H0 O0 ps (.Call (.Name "len" pc) [.Name x p'] [] pos) (.int xs.length):=
 PE.mono (n6 im hg hm Fp (ci (fY hN hv hd QD) eP hs) (by decide) (by decide) hs QA) λσ H Q ⟨O,R,q⟩=>by
  obtain⟨v,h1,a,vs,rfl,h3,h4,h5,h6⟩:=R.at_ n _ h;exact⟨_,h1,a,vs,rfl,.inl (SqL.of h5),by rw[h6.len];exact q _ H (.refl H) (.int _)⟩
theorem yC:eB X (.builtin "abs") [.int i] (.int (if i<0 then -i else i)):=cW.mono xt λvs H Q ⟨O,d,r,q⟩=>by
 obtain⟨v,rfl,h⟩:=cq r;cases h;exact⟨i,rfl,q _ H (.refl H) (.int _)⟩
theorem DZ(hc:X.calm=true):eB X (.builtin "max") [.int i,.int j] (.int (if j >i then j else i)):=cW.mono (uY hc) λvs H Q ⟨O,d,r,q⟩=>by
 obtain⟨v,w,rfl,h,h2⟩:=gy r;cases h;cases h2;exact⟨i,j,rfl,q _ H (.refl H) (.int _)⟩
theorem A9(hc:X.calm=true):eB X (.builtin "min") [.int i,.int j] (.int (if j<i then j else i)):=cW.mono (uD hc) λvs H Q ⟨O,d,r,q⟩=>by
 obtain⟨v,w,rfl,h,h2⟩:=gy r;cases h;cases h2;exact⟨i,j,rfl,q _ H (.refl H) (.int _)⟩
theorem eJ(hx:x.items=some xs):Bc X (.type "list") [x] xs:=cW.mono nR λvs H Q ⟨O,d,r,q⟩=>by
 obtain⟨v,rfl,h⟩:=cq r;obtain⟨a,ws,rfl,h1,h2⟩:=mI h hx;exact⟨a,ws,rfl,tf h1,λl hl=>q l ws _ (aM hl _) hl aK (h2.same (bn (aM hl _) hl))⟩
theorem AN(hx:x=.lst xs∨x=.scr xs):eB X (.type "tuple") [x] (.tup xs):=cW.mono k9 λvs H Q ⟨O,d,r,q⟩=>by
 obtain⟨v,rfl,h⟩:=cq r;have nh:∀{l:E1}{o:HO},H l=none->hid (upd H l o) O l=some o:=λ{l o} hl=>cS aK λz=>d _ z hl
 rcases hx with rfl |rfl
 ·cases h with
  |lst h hl hh=>exact⟨_,_,rfl,.inl ⟨ax.seq (SqL.of h),λl P8=>q _ _ (aM P8 _) (.tup (SqT.of (nh P8)) hl λi v x e1 e2=>(hh i v x e1 e2).same (aC (aM P8 _)))⟩⟩
 ·cases h with
  |scr h hl hh=>exact⟨_,_,rfl,.inl ⟨ax.seq h,λl P8=>q _ _ (aM P8 _) (.tup (SqT.of (nh P8)) hl λi v x e1 e2=>(hh i v x e1 e2).same (aC (aM P8 _)))⟩⟩
def tyU:U->EU
 | .non=>.type "NoneType" | .bl _=>.type "bool" | .int _=>.type "int" | .str _=>.type "str" | .ty _=>.type "type" | .dic=>.type "dict" | .scr _=>.type "list" | .tup _=>.type "tuple" | .lst _=>.type "list"
theorem bZ{n:String}(hn:∀m,x≠.ty m)(h:Jh X.K (tyU x) (.type n)=some k):eB X (.builtin "isinstance") [x,.ty (.nm n)] (.bl k):=by
 intro pins s σ H vs us Q I r hq;obtain⟨O,d,rs,q⟩:=hq;obtain⟨v,w,rfl,h1,h2⟩:=gy rs;cases h2;obtain⟨p1,p2,rfl,r1,r2⟩:=gG r;cases (show p2=Gm n from r2)
 have P4:∀tk,EP X pins σ Q (.bool k) {s with toks:=tk }:=λtk=>⟨.bl k,H,I.tok _,rfl,q _ H (.refl H) (.bl _)⟩
 cases h1 with
 |non=>exact dJ I r1 .non h P4
 |bl b=>exact dJ I r1 (.bl b) h P4
 |int b=>exact dJ I r1 (.int b) h P4
 |str b=>exact dJ I r1 (.str b) h P4
 |ty m=>exact absurd rfl (hn _)
 |dic e=>exact dJ I r1 (.dK (ax _ _ e)) h P4
 |xc e kk=>exact absurd rfl (hn _)
 |scr e hl hh=>
  cases r1;obtain⟨PH,_,pl,_⟩:=I.list (ax.seq e);obtain⟨o,nn,e1,e2,_⟩:=pl;exact Gu K7 I.kIn ⟨o,e1,e2⟩ h (λz=>nomatch z) P4
 |lst e hl hh=>exact dJ I r1 (.lst (ax _ _ e)) h P4
 |tup e hl hh=>
  cases r1;obtain⟨PH,_,pl,_⟩:=I.tuple (ax.tup e);obtain⟨o,e1,e2,_⟩:=pl;exact Gu MS I.kIn ⟨o,e1,e2⟩ h (λz=>nomatch z) P4
end
inductive Out where
 |val (u:U) |new (xs:List U) |exc (C:E1) |dsk (d:E1) (u:U) (Qg:List (Str×U))
def n9(K:EL)(H0:Hp)(O0:List E1)(Q:VK)(E:XK):Out->Prop
 | .val u=>∀v H',aJ H0 H'->Rp K (hid H' O0) v u->Q v H'
 | .new xs=>∀a vs H',aJ H0 H'->H0 a=none->H' a=some (.lst vs)->Rps K (hid H' (a::O0)) vs xs->Q (.ref a) H'
 | .exc C=>∀H',aJ H0 H'->E (.ref C) none H'
 | .dsk d u Qg=>∀v kv H',aJ H0 H'->H' d=some (.dK kv)->DkR K (hid H' (d::O0)) kv Qg->Rp K (hid H' (d::O0)) v u->Q v H'
theorem n9.later{K:EL}{H0 H1:Hp}{O0:List E1}{Q:VK}{E:XK}{o:Out}(e:aJ H0 H1)(h:n9 K H0 O0 Q E o):n9 K H1 O0 Q E o:=by
 cases o with
 |val u=>exact λv H' s r=>h v H' (e.trans s) r
 |new xs=>exact λa vs H' s n q r=>h a vs H' (e.trans s) (e.free n) q r
 |exc C=>exact λH' s=>h H' (e.trans s)
 |dsk d u Qg=>exact λv kv H' s q r p=>h v kv H' (e.trans s) q r p
structure PD where
 nx:PSt->Prop
 rt:Out->Prop
 bk:PSt->Prop:=λ_=>False
 ct:PSt->Prop:=λ_=>False
structure Lf(K:EL)(H0:Hp)(O0:List E1)(E:XK)(D:PD)(D':m7):Prop where
 nx:∀ps σ H O,Rs K H0 O0 ps σ H O->D.nx ps->D'.nx σ H
 bk:∀ps σ H O,Rs K H0 O0 ps σ H O->D.bk ps->D'.bk σ H
 ct:∀ps σ H O,Rs K H0 O0 ps σ H O->D.ct ps->D'.ct σ H
 rt:∀o,D.rt o->n9 K H0 O0 D'.rt E o
def Ws(X:Cx)(H0:Hp)(O0:List E1)(E:XK)(ss:List Hr)(D:PD)(ps:PSt):Prop:=PSs X ss λD' σ H=>Lf X.K H0 O0 E D D'/\∃O,Rs X.K H0 O0 ps σ H O
def W1(X:Cx)(H0:Hp)(O0:List E1)(E:XK)(s:Hr)(D:PD)(ps:PSt):Prop:=PS X s λD' σ H=>Lf X.K H0 O0 E D D'/\∃O,Rs X.K H0 O0 ps σ H O
variable {E:XK}{Qo:PSt}{D:PD}{ss:List Hr}{Qc:List Hr}
section
variable {X:Cx}{ps:PSt}{s:Hr}{a b c e:Expr}{p:Pos}{x y:U}{k:Bool}
theorem aG(h:D.nx ps):Ws X H0 O0 E [] D ps:=PSs.mono zK λD' σ H ⟨L,O,R⟩=>L.nx ps σ H O R h
theorem af(h:W1 X H0 O0 E s {D with nx:=λp=>Ws X H0 O0 E ss D p } ps):Ws X H0 O0 E (s::ss) D ps:=by
 have h2:PSs X ss λD' σ H=>∃p,Ws X H0 O0 E ss D p/\Lf X.K H0 O0 E D D'/\∃O,Rs X.K H0 O0 p σ H O:=λpins s σ H D' I ⟨p,w,l,r⟩=>w pins s σ H D' I ⟨l,r⟩
 exact PSs.mono (wM h h2) λD' σ H ⟨L,O,R⟩=>⟨⟨λp σ H O R q=>⟨p,q,L,O,R⟩,L.bk,L.ct,L.rt⟩,O,R⟩
theorem du(h:Ws X H0 O0 E ss D Qo)(hs:SubP Qo ps):Ws X H0 O0 E ss D ps:=PSs.mono h λD' σ H ⟨L,O,R⟩=>⟨L,O,R.sub hs⟩
theorem aV{i:Nat}{x:Str}{P9:Pos}(hN:X.N.Nodup)(hi:X.N[i]?=some x)(hx:Loc X.env.scope x)(he:Ev X H0 O0 ps e u)(h:D.nx (ps.set i (some (.val u))))(hs:Jv e (some (.Name x P9)) pos.line X.env=pure false:=by rfl)(hf:X.fn x=true\/X.env.scope.names.lookup x=some .local:=by first |exact .inl rfl |exact .inr rfl |assumption):
  W1 X H0 O0 E (.Assign [.Name x P9] e pos) D ps:=PS.mono (yD hN hi hx he hs hf) λD' σ H ⟨L,O,R⟩=>⟨O,R,λv H' s r=>L.nx _ _ _ O ((R.go s).set r) h⟩
theorem dS{i:Nat}{x:Str}{P9:Pos}(hN:X.N.Nodup)(hi:X.N[i]?=some x)(hx:Loc X.env.scope x)(he:EvN X H0 O0 ps e xs)(h:D.nx (ps.set i (some (.own xs))))(hs:Jv e (some (.Name x P9)) pos.line X.env=pure false:=by rfl)(hf:X.fn x=true\/X.env.scope.names.lookup x=some .local:=by first |exact .inl rfl |exact .inr rfl |assumption):
  W1 X H0 O0 E (.Assign [.Name x P9] e pos) D ps:=PS.mono (yD hN hi hx he hs hf) λD' σ H ⟨L,O,R⟩=>⟨O,R,λa vs H' s n q r=>L.nx _ _ _ _ (R.own s n q r) h⟩
theorem nE{tb fb:List Hr}(hc:Tt X H0 O0 ps c k)(h1:k=true->Ws X H0 O0 E tb D ps)(h2:k=false->Ws X H0 O0 E fb D ps):W1 X H0 O0 E (.If c tb fb pos) D ps:=by
 cases k with
 |true=>exact PS.mono (A1 hc (h1 rfl) (λ_ _ _ _ _ _ h=>h.elim) (u:=λ_ _ _=>False)) λD' σ H ⟨L,O,R⟩=>⟨O,R,λH' s=>nj ⟨L,O,R.go s⟩⟩
 |false=>exact PS.mono (A1 hc (λ_ _ _ _ _ _ h=>h.elim) (h2 rfl) (t:=λ_ _ _=>False)) λD' σ H ⟨L,O,R⟩=>⟨O,R,λH' s=>m_ ⟨L,O,R.go s⟩⟩
theorem Rs.ret{K:EL}{σ:St}{H:Hp}{O:List E1}{v:V}(R:Rs K H0 O0 ps σ H O)(r:Rp K (hid H O) v u):Rp K (hid H O0) v u:=r.same (e7 R.old)
theorem bg(he:Ev X H0 O0 ps e u)(h:D.rt (.val u)):W1 X H0 O0 E (.Return (some e) pos) D ps:=
 PS.mono (qk he) λD' σ H ⟨L,O,R⟩=>⟨O,R,λv H' s r=>L.rt _ h v H' (R.same.trans s) ((R.go s).ret r)⟩
theorem cw(he:EvN X H0 O0 ps e xs)(h:D.rt (.new xs)):W1 X H0 O0 E (.Return (some e) pos) D ps:=
 PS.mono (qk he) λD' σ H ⟨L,O,R⟩=>⟨O,R,λa vs H' s n q r=>L.rt _ h a vs H' (R.same.trans s) (R.same.free n) q (r.same (e7 λb hb=>by
  rcases ET.mp hb with y |y
  ·subst y;exact EY
  ·exact ES _ (R.old b y)))⟩
theorem fi(i:Nat){x:Str}(hp:ps[i]?=some (some (.own xs)))(h:D.rt (.new xs))(hN:X.N[i]?=some x:=by rfl)(hv:Vis X.env.scope x:=by first |exact Or.inl rfl |exact Or.inr (Or.inl rfl) |exact Or.inr (Or.inr rfl))(hd:(x==("__debug__":Str))=false:=by decide)
  (QD:(x==("__classdict__":Str))=false:=by decide):W1 X H0 O0 E (.Return (some (.Name x p)) pos) D ps:=
 PS.mono (qk (fY hN hv hd QD)) λD' σ H ⟨L,O,R⟩=>by
  obtain⟨v,h1,a,vs,rfl,h3,h4,h5,h6⟩:=R.at_ i _ hp;refine⟨_,h1,L.rt _ h a vs H R.same ((R.new a h3).resolve_left h4) h5 (h6.same (e7 λb hb=>?_))⟩
  rcases ET.mp hb with y |y
  ·subst y;exact h3
  ·exact R.old b y
theorem yI(he:Ev X H0 O0 ps e u)(h:D.nx ps)(hs:Jv e none pos.line X.env=pure false:=by rfl):W1 X H0 O0 E (.Expr e pos) D ps:=
 PS.mono (jm he hs) λD' σ H ⟨L,O,R⟩=>⟨O,R,λv H' s r=>L.nx _ _ _ O (R.go s) h⟩
theorem cB(i:Nat){x:Str}{Qj PZ xp:Pos}(hp:ps[i]?=some (some (.own xs)))(ha:Ev X H0 O0 ps e u)(hz:xs.length<sizeLine)(h:D.nx (ps.set i (some (.own (xs++[u])))))
  (hN:X.N[i]?=some x:=by rfl) (hv:Vis X.env.scope x:=by first |exact Or.inl rfl |exact Or.inr (Or.inl rfl) |exact Or.inr (Or.inr rfl)) (hd:(x==("__debug__":Str))=false:=by decide) (QD:(x==("__classdict__":Str))=false:=by decide)
  (QG:IW (.Name x xp) "append" X.env (HE (.Name x xp) X.env)=HE (.Name x xp) X.env:=by rfl)
  (RM:((Iu PZ (E4 [e] X.env)).all (λx=>!x.1) && (NM PZ (Lo [] X.env)).all (λx=>x.1.isSome) && decide ([e].length+([]:List Km).length+(if ([]:List Km).isEmpty then 0 else 1)<30))=true:=by rfl)
  (QH:(Qj.endLine==PZ.line)=true:=by rfl) (hse:E4 [e] X.env=(false,HE e X.env)::E4 [] X.env:=by rfl) (QY:(Iu PZ (E4 [] X.env)).any (·.1)=false:=by rfl)
  (hs:Jv (.Call (.Attribute (.Name x xp) "append" Qj) [e] [] PZ) none pos.line X.env=pure false:=by rfl):W1 X H0 O0 E (.Expr (.Call (.Attribute (.Name x xp) "append" Qj) [e] [] PZ) pos) D ps:=
 PS.mono (jm (AU Jz PySem.F.slot_list_append PySem.F.type_list_append iP (fY hN hv hd QD) (ci ha eP hse) QG RM QH hse QY) hs) λD' σ H ⟨L,O,R⟩=>by
  obtain⟨v,h1,a,vs,rfl,h3,h4,h5,h6⟩:=R.at_ i _ hp;refine⟨_,h1,.inl ⟨rfl,_,SqL.of h5⟩,O,R,λw H' s r=>⟨a,vs,w,rfl,rfl,s _ _ h5,by rw[h6.len];exact hz,?_⟩⟩
  exact L.nx _ _ _ O ((R.go s).write hp h1 ((h6.same (aC s)).snoc (.cons r .nil))) h
theorem yL(i:Nat){x:Str}{Qj PZ xp:Pos}(hp:ps[i]?=some (some (.own xs)))(PN:xs≠[])(h:D.nx (ps.set i (some (.own xs.dropLast))))
  (hN:X.N[i]?=some x:=by rfl) (hv:Vis X.env.scope x:=by first |exact Or.inl rfl |exact Or.inr (Or.inl rfl) |exact Or.inr (Or.inr rfl)) (hd:(x==("__debug__":Str))=false:=by decide) (QD:(x==("__classdict__":Str))=false:=by decide)
  (QG:IW (.Name x xp) "pop" X.env (HE (.Name x xp) X.env)=HE (.Name x xp) X.env:=by rfl)
  (QH:(Qj.endLine==PZ.line)=true:=by rfl)
  (hs:Jv (.Call (.Attribute (.Name x xp) "pop" Qj) [] [] PZ) none pos.line X.env=pure false:=by rfl):W1 X H0 O0 E (.Expr (.Call (.Attribute (.Name x xp) "pop" Qj) [] [] PZ) pos) D ps:=
 PS.mono (jm (CU Jz PySem.F.slot_list_pop PySem.F.type_list_pop Bw (fY hN hv hd QD) QG QH) hs) λD' σ H ⟨L,O,R⟩=>by
  obtain⟨v,h1,a,vs,rfl,h3,h4,h5,h6⟩:=R.at_ i _ hp;have hpos:0<vs.length:=by rw[h6.len];exact FJ.mpr PN
  have PU:vs.length-1<vs.length:=by lia
  refine⟨_,h1,.inl ⟨rfl,_,SqL.of h5⟩,a,vs,vs[vs.length-1],rfl,rfl,h5,EK PU,?_⟩;refine L.nx _ _ _ O (R.write hp h1 ⟨by simp[h6.len],λj v x e1 e2=>?_⟩) h
  rw[IB]at e1 e2;split at e1
  ·split at e2
   ·exact h6.at_ j v x e1 e2
   ·cases e2
  ·cases e1
theorem t_(i:Nat){x:Str}{xp tp:Pos}{n:Int}{j:Nat}(hp:ps[i]?=some (some (.own xs)))(he:Ev X H0 O0 ps e u)(hb:Ev X H0 O0 ps b (.int n))(hj:ixN xs.length n=some j)(h:D.nx (ps.set i (some (.own (xs.set j u)))))
  (hN:X.N[i]?=some x:=by rfl) (hv:Vis X.env.scope x:=by first |exact Or.inl rfl |exact Or.inr (Or.inl rfl) |exact Or.inr (Or.inr rfl)) (hd:(x==("__debug__":Str))=false:=by decide) (QD:(x==("__classdict__":Str))=false:=by decide)
  (ha:∀v,Np (.Subscript (.Name x xp) b tp) X.env v=(do
   let ov <-Kk [v] (HE (.Name x xp) X.env)
   let iv <-Kk [v,ov] (HE b X.env)
   Pi tp
   Kk [v,ov,iv] (setItem ov iv v)
   release [v,ov,iv] []):=by intro _;rfl)
  (hs:swapsWithSole [.Subscript (.Name x xp) b tp] e pos.line X.env=pure false:=by rfl) (hw:swappedStores [.Subscript (.Name x xp) b tp] e X.env=pure none:=by rfl)
  (h1:(Jn [.Subscript (.Name x xp) b tp] X.env).map (·.2)=[Np (.Subscript (.Name x xp) b tp) X.env]:=by rfl):W1 X H0 O0 E (.Assign [.Subscript (.Name x xp) b tp] e pos) D ps:=
 PS.mono (BR he (Cp (fY hN hv hd QD) hb yA ha) hs hw h1) λD' σ H ⟨L,O,R⟩=>⟨O,R,λw H1 s1 r1=>by
  obtain⟨v,h1,a,vs,rfl,h3,h4,h5,h6⟩:=(R.go s1).at_ i _ hp;refine⟨_,h1,O,R.go s1,λz H2 s2 r2=>?_⟩
  cases r2;have h6':=h6.same (aC (O:=O) s2);refine⟨a,vs,n,j,rfl,rfl,s2 _ _ h5,by rw[h6.len];exact hj,?_⟩
  refine L.nx _ _ _ O ((R.go (s1.trans s2)).write hp h1 ⟨by simp[h6.len],λm v x e1 e2=>?_⟩) h
  rcases cJ e1 with ⟨q1,q2⟩ |⟨q1,q2⟩
  ·subst q1;rcases cJ e2 with ⟨_,q4⟩ |⟨q3,_⟩
   ·rw[q2,q4];exact r1.same (aC s2)
   ·exact absurd rfl q3
  ·rcases cJ e2 with ⟨q3,_⟩ |⟨_,q4⟩
   ·exact absurd q3 q1
   ·exact h6'.at_ m v x q2 q4⟩
end
def nN:List Nat->TGs
 |[]=>Dv
 |j::js=>A7 (oC j) (nN js)
def setAll:PSt->List Nat->List U->PSt
 |ps,j::js,u::us=>setAll (ps.set j (some (.val u))) js us
 |ps,_,_=>ps
def jr:St->List Nat->List V->St
 |σ,j::js,u::us=>jr (σ.set j (some u)) js us
 |σ,_,_=>σ
theorem Rs.setAll{K:EL}{H0:Hp}{O0:List E1}{H:Hp}{O:List E1}:∀{js:List Nat}{ps:PSt}{σ:St}{vs:List V}{us:List U},Rs K H0 O0 ps σ H O->Rps K (hid H O) vs us->Rs K H0 O0 (L2.setAll ps js us) (jr σ js vs) H O
 |[],ps,σ,vs,us,R,r=>by cases us <;>cases vs <;>exact R
 |j::js,ps,σ,vs,[],R,r=>by rw[r.nil_inv];exact R
 |j::js,ps,σ,vs,u::us,R,r=>by
  obtain⟨v,ws,rfl,h1,h2⟩:=r.cons_inv;exact Rs.setAll (js:=js) (R.set h1) h2
theorem iR{Q:St->Hp->Prop}{H:Hp}:∀{js:List Nat}{σ:St}{vs:List V},vs.length=js.length->Q (jr σ js vs) H->nN js vs σ H Q
 |[],σ,[],_,q=>⟨rfl,q⟩
 |j::js,σ,v::vs,e,q=>⟨v,vs,rfl,iR (js:=js) (by simpa using e) q⟩
 |[],_,_::_,e,_=>by simp at e
 |_::_,_,[],e,_=>by simp at e
def TgS(X:Cx)(H0:Hp)(O0:List E1)(tg:Expr)(ps:PSt)(u:U)(Qo:PSt):Prop:=
 PG X tg λv σ H Q=>∃O,Rs X.K H0 O0 ps σ H O/\Rp X.K (hid H O) v u/\∀P5 H',aJ H H'->Rs X.K H0 O0 Qo P5 H' O->Q P5 H'
theorem PG.mono{X:Cx}{e:Expr}{t t':TG}(h:PG X e t)(m:∀v σ H Q,t' v σ H Q->t v σ H Q):PG X e t':=λpins s σ H v u Q I r q=>h pins s σ H v u Q I r (m v σ H Q q)
theorem PI.mono{X:Cx}{tg e:Expr}{t t':TI}(h:PI X tg e t)(m:∀σ H Q,t' σ H Q->t σ H Q):PI X tg e t':=λpins s σ H Q I q=>h pins s σ H Q I (m σ H Q q)
def Yl(K:EL)(J:It)(G:Hp)(xs:List U):Prop:=
 ∀H2,aJ G H2->(∀i,i<xs.length->J.go i H2/\∀x H3,J.yld i H2 x H3->H3=H2/\∃u,xs[i]?=some u/\Rp K G x u)/\J.stop xs.length H2
def EvI(X:Cx)(H0:Hp)(O0:List E1)(ps:PSt)(tg iter:Expr)(xs:List U):Prop:=
 PI X tg iter λσ H R=>∃O,Rs X.K H0 O0 ps σ H O/\∀J H',aJ H H'->Yl X.K J (hid H' O) xs->R J H'
variable {tg:Expr}{iter:Expr}
section
variable {X:Cx}{ps:PSt}{s:Hr}{a b c e:Expr}{p:Pos}{x y:U}{k:Bool}
theorem eI{i:Nat}{x:Str}(hN:X.N.Nodup)(hi:X.N[i]?=some x)(hx:Loc X.env.scope x)(hf:X.fn x=true\/X.env.scope.names.lookup x=some .local:=by first |exact .inl rfl |exact .inr rfl |assumption):TgS X H0 O0 (.Name x pos) ps u (ps.set i (some (.val u))):=
 PG.mono (bi hN hi hx hf) λv σ H Q ⟨O,R,r,q⟩=>q _ H (.refl H) (R.set r)
theorem Dr{k:Nat}(js:List Nat)(hc:X.calm=true)(h:PGs X es (nN js))(hl:us.length=js.length)(hn:(Jn es X.env).length=js.length:=by rfl)(QM:(Jn es X.env).findIdx? (·.1)=none:=by rfl):TgS X H0 O0 (.Tuple es k pos) ps (.tup us) (setAll ps js us):=
 PG.mono (gf hc h hn QM) λv σ H Q ⟨O,R,r,q⟩=>by
  cases r with
  |tup hq P8 hh=>exact⟨_,_,rfl,ax.tup hq,P8.trans hl,iR (P8.trans hl) (q _ H (.refl H) (R.setAll ⟨P8,hh⟩))⟩
theorem c9(he:Ev X H0 O0 ps iter x)(hx:x=.lst xs\/x=.scr xs):EvI X H0 O0 ps tg iter xs:=
 PI.mono (zL he) λσ H Q ⟨O,R,q⟩=>⟨O,R,λv H' s r=>by
  have key:∃a vs,v=.ref a/\SqL X.K (hid H' O) a vs/\Rps X.K (hid H' O) vs xs:=by
   rcases hx with rfl |rfl
   ·cases r with
    |lst hq hl hh=>exact⟨_,_,rfl,SqL.of hq,hl,hh⟩
   ·cases r with
    |scr hq hl hh=>exact⟨_,_,rfl,hq,hl,hh⟩
  obtain⟨a,vs,rfl,hq,rs⟩:=key;refine⟨a,rfl,⟨vs,ax.seq hq⟩,q _ H' s λH2 s2=>⟨λi hi=>?_,⟨vs,s2.seq hq,by rw[rs.len];exact EX _⟩⟩⟩
  have PY:i<vs.length:=by rw[rs.len];exact hi
  refine⟨⟨vs,vs[i],s2.seq hq,EK PY⟩,λz H3 y=>⟨y.1,xs[i],EK hi,rs.at_ i z _ (y.2 vs (s2.seq hq)) (EK hi)⟩⟩⟩
theorem A2(he:Ev X H0 O0 ps iter (.tup xs)):EvI X H0 O0 ps tg iter xs:=
 PI.mono (B3 he) λσ H Q ⟨O,R,q⟩=>⟨O,R,λv H' s r=>by
  cases r with
  | @tup a vs _ hq hl hh=>
   have rs:Rps X.K (hid H' O) vs xs:=⟨hl,hh⟩;refine⟨a,rfl,⟨vs,ax.tup hq⟩,q _ H' s λH2 s2=>⟨λi hi=>?_,⟨vs,s2.tup hq,by rw[rs.len];exact EX _⟩⟩⟩
   have PY:i<vs.length:=by rw[rs.len];exact hi
   refine⟨⟨vs,vs[i],s2.tup hq,EK PY⟩,λz H3 y=>⟨y.1,xs[i],EK hi,rs.at_ i z _ (y.2 vs (s2.tup hq)) (EK hi)⟩⟩⟩
def eV(lo:Int)(n:Nat):List U:=(F3 n).map λ(i:Nat)=>U.int (lo+(i:Int))
theorem cL{lo:Int}{n:Nat}:(eV lo n).length=n:=by simp[eV]
theorem lV{lo:Int}{n i:Nat}(h:i<n):(eV lo n)[i]?=some (.int (lo+(i:Int))):=by
 unfold eV;rw[EW,Hj h];rfl
theorem fm{lo:Int}{n i:Nat}{x:U}(h:(eV lo n)[i]?=some x):i<n/\x=.int (lo+(i:Int)):=by
 have hi:=aL h;rw[cL]at hi;rw[lV hi]at h;exact⟨hi,(FN h).symm⟩
theorem ij{K:EL}{G:Hp}{lo:Int}{n:Nat}:Yl K (Itr lo n) G (eV lo n):=λH2 s2=>by
 rw[cL];refine⟨λi hi=>⟨hi,λz H3 y=>⟨y.1,_,lV hi,?_⟩⟩,EX _⟩
 rw[y.2];exact .int _
theorem xR{j:Int}(hg:Gl X "range")(hm:X.mg "range"=none)(ha:EvA X H0 O0 ps [a] [.int j])(h1:-(2 ^ 62)≤j)(h2:j<2 ^ 62)(hs:E4 [a] X.env=[(false,HE a X.env)]:=by rfl):EvI X H0 O0 ps tg (.Call (.Name "range" p) [a] [] pos) (eV 0 j.toNat):=
 PI.mono (vn hg hm ha hs) λσ H Q ⟨O,R,q⟩=>⟨O,R,λvs H' s r=>by
  obtain⟨v,rfl,h⟩:=cq r;cases h;exact⟨j,rfl,h1,h2,q _ H' s ij⟩⟩
theorem xS{i j:Int}(hg:Gl X "range")(hm:X.mg "range"=none)(ha:EvA X H0 O0 ps [a,b] [.int i,.int j])(h:-(2 ^ 62)≤i∧i<2 ^ 62∧-(2 ^ 62)≤j∧j<2 ^ 62)(hs:E4 [a,b] X.env=[(false,HE a X.env),(false,HE b X.env)]:=by rfl)(Qq:E4 [b] X.env=[(false,HE b X.env)]:=by rfl):
  EvI X H0 O0 ps tg (.Call (.Name "range" p) [a,b] [] pos) (eV i (j-i).toNat):=
 PI.mono (vz hg hm ha hs Qq) λσ H Q ⟨O,R,q⟩=>⟨O,R,λvs H' s r=>by
  obtain⟨v,w,rfl,k1,k2⟩:=gy r;cases k1;cases k2;exact⟨i,j,rfl,h,q _ H' s ij⟩⟩
def gm(lo c:Int)(n:Nat):List U:=(F3 n).map λ(i:Nat)=>U.int (lo+(i:Int) *c)
theorem fM{lo c:Int}{n:Nat}:(gm lo c n).length=n:=by simp[gm]
theorem j7{lo c:Int}{n i:Nat}(h:i<n):(gm lo c n)[i]?=some (.int (lo+(i:Int) *c)):=by
 unfold gm;rw[EW,Hj h];rfl
theorem o7{lo c:Int}{n i:Nat}{x:U}(h:(gm lo c n)[i]?=some x):i<n/\x=.int (lo+(i:Int) *c):=by
 have hi:=aL h;rw[fM]at hi;rw[j7 hi]at h;exact⟨hi,(FN h).symm⟩
theorem wT{i j m:Int}(hg:Gl X "range")(hm:X.mg "range"=none)(ha:EvA X H0 O0 ps [a,b,c] [.int i,.int j,.int m])(h:-(2 ^ 60)≤i∧i<2 ^ 60∧-(2 ^ 60)≤j∧j<2 ^ 60∧0<m∧m<2 ^ 30)(hs:E4 [a,b,c] X.env=[(false,HE a X.env),(false,HE b X.env),(false,HE c X.env)]:=by rfl)
  (Qq:E4 [b,c] X.env=[(false,HE b X.env),(false,HE c X.env)]:=by rfl):
  EvI X H0 O0 ps tg (.Call (.Name "range" p) [a,b,c] [] pos) (gm i m (fL i j m)):=
 PI.mono (ut hg hm ha hs Qq) λσ H Q ⟨O,R,q⟩=>⟨O,R,λvs H' s r=>by
  obtain⟨v,ws,rfl,k1,k2⟩:=r.cons_inv;obtain⟨w,z,rfl,k2,k3⟩:=gy k2;cases k1;cases k2;cases k3;refine⟨i,j,m,rfl,h,q _ H' s λH2 s2=>?_⟩
  rw[fM];refine⟨λi hi=>⟨hi,λz H3 y=>⟨y.1,_,j7 hi,?_⟩⟩,EX _⟩
  rw[y.2];exact .int _⟩
theorem Rs.rebase{K:EL}{σ:St}{H:Hp}{O:List E1}(R:Rs K H0 O0 ps σ H O):Rs K (hid H (O.filter λa=>decide (a ∉ O0))) O0 ps σ H O:=
 ⟨ax,R.old,λa ha=>by
  by_cases h:a∈O0
  ·exact .inl h
  ·right;unfold hid;rw[if_pos (F_.mpr ⟨ha,by simpa using h⟩)],R.dom,R.len,R.at_,R.inj⟩
theorem Rs.base{K:EL}{σ:St}{H:Hp}{O:List E1}(R:Rs K H0 O0 ps σ H O):aJ H0 (hid H (O.filter λa=>decide (a ∉ O0))):=λb o h=>by
 refine cS (R.same b o h) λz=>?_
 obtain⟨z1,z2⟩:=F_.mp z;rcases R.new b z1 with y |y
 ·simp[y]at z2
 ·rw[h]at y;cases y
theorem Rs.unbase{K:EL}{H1:Hp}{σ:St}{H:Hp}{O:List E1}(e:aJ H0 H1)(R:Rs K H1 O0 ps σ H O):Rs K H0 O0 ps σ H O:=
 ⟨e.trans R.same,R.old,λa ha=>(R.new a ha).imp id λz=>e.free z,R.dom,R.len,R.at_,R.inj⟩
theorem Rs.seen{K:EL}{R7:PSt}{σ σ2:St}{H H2:Hp}{O O2:List E1}(R:Rs K H0 O0 ps σ H O)(R2:Rs K (hid H (O.filter λa=>decide (a ∉ O0))) O0 R7 σ2 H2 O2):aJ (hid H O) (hid H2 O2):=λb o h=>by
 obtain⟨h1,h2⟩:=g6 h;have h3:hid H (O.filter λa=>decide (a ∉ O0)) b=some o:=cS h1 λz=>h2 (F_.mp z).1
 refine cS (R2.same b o h3) λz=>?_
 rcases R2.new b z with y |y
 ·exact h2 (R.old b y)
 ·rw[h3]at y;cases y
theorem Dk(hc:X.calm=true)(hp:L1 (FF X.prog X.w) X.A X.env X.xe)(hi:EvI X H0 O0 ps tg iter xs)(Iv:Nat->PSt->Prop)(h0:Iv 0 ps)
  (hs:∀(H0:Hp) (i:Nat) (x:U) (ps:PSt),xs[i]?=some x->Iv i ps->∃Qo,TgS X H0 O0 tg ps x Qo/\Ws X H0 O0 E Qc {D with nx:=Iv (i+1),ct:=Iv (i+1),bk:=D.nx } Qo) (hd:∀ps,Iv xs.length ps->D.nx ps)
  (hf:∀x,Gg iter X.env x=pure x:=by intro _;rfl):W1 X H0 O0 E (.For tg iter Qc [] pos) D ps:=by
 have hg:PG X tg λv σ H Q=>∃H1 ps u Qo,TgS X H1 O0 tg ps u Qo/\∃O,Rs X.K H1 O0 ps σ H O/\Rp X.K (hid H O) v u/\∀P5 H',aJ H H'->Rs X.K H1 O0 Qo P5 H' O->Q P5 H':=
  λpins s σ H v u Q I r ⟨H1,ps,w,Qo,t,z⟩=>t pins s σ H v u Q I r z
 have hb:PSs X Qc λD' σ H=>∃H1 D1 Qo,Ws X H1 O0 E Qc D1 Qo/\Lf X.K H1 O0 E D1 D'/\∃O,Rs X.K H1 O0 Qo σ H O:=λpins s σ H D' I ⟨H1,D1,Qo,w,z⟩=>w pins s σ H D' I z
 refine PS.mono (B0 hp hc hi hg hb hf) λD' σ H ⟨L,O,R⟩=>⟨O,R,λJ H1 s1 Y=>?_⟩
 have R1:=R.go s1;have base:=R1.base;refine⟨λi m σ H=>m=xs.length-i/\i<=xs.length/\∃ps O',Iv i ps/\Rs X.K (hid H1 (O.filter λa=>decide (a ∉ O0))) O0 ps σ H O',⟨_,rfl,FX _,ps,O,h0,R1.rebase⟩,?_⟩
 rintro i m σ2 H2 ⟨rfl,QP,R7,O2,iv,R2⟩;have seen:=R1.seen R2;obtain⟨y1,y2⟩:=Y H2 (seen.trans ax);by_cases PU:i<xs.length
 ·obtain⟨g1,g2⟩:=y1 i PU;refine .inr ⟨g1,λP5 H'=>∃ps O',Iv (i+1) ps/\Rs X.K (hid H1 (O.filter λa=>decide (a ∉ O0))) O0 ps P5 H' O',λP5 H' z=>⟨xs.length-(i+1),by lia,rfl,PU,z⟩,λx H3 y=>?_⟩
  obtain⟨rfl,u,hu,r⟩:=g2 x H3 y;obtain⟨Qo,t,w⟩:=hs (hid H1 (O.filter λa=>decide (a ∉ O0))) i u R7 hu iv
  refine⟨_,R7,u,Qo,t,O2,R2,r.same seen,λP5 H' s' R'=>⟨_,_,Qo,w,?_,O2,R'⟩⟩
  exact⟨λp σ H O R q=>⟨p,O,q,R⟩,λp σ H O R q=>L.nx _ _ _ _ (R.unbase base) q,λp σ H O R q=>⟨p,O,q,R⟩,λo q=>(L.rt o q).later base⟩
 ·have e:i=xs.length:=by lia
  subst e;exact .inl ⟨y2,L.nx _ _ _ _ (R2.unbase base) (hd R7 iv)⟩
theorem At(hp:L1 (FF X.prog X.w) X.A X.env X.xe)(Iv:Nat->PSt->Prop)(m:Nat)(h0:Iv m ps)
  (hs:∀m ps,Iv m ps->∃b,Tt X H0 O0 ps c b/\(b=true->Ws X H0 O0 E Qc {D with nx:=λp=>∃m',m'<m/\Iv m' p,ct:=λp=>∃m',m'<m/\Iv m' p,bk:=D.nx } ps)/\(b=false->D.nx ps)):W1 X H0 O0 E (.While c Qc [] pos) D ps:=by
 have ht:PT X c λσ H Q=>∃ps b,Tt X H0 O0 ps c b/\∃O,Rs X.K H0 O0 ps σ H O/\∀H',aJ H H'->Q b H':=λpins s σ H Q I ⟨ps,b,t,z⟩=>t pins s σ H Q I z
 have hb:PSs X Qc λD' σ H=>∃D1 Qo,Ws X H0 O0 E Qc D1 Qo/\Lf X.K H0 O0 E D1 D'/\∃O,Rs X.K H0 O0 Qo σ H O:=λpins s σ H D' I ⟨D1,Qo,w,z⟩=>w pins s σ H D' I z
 refine PS.mono (wN hp ht hb) λD' σ H ⟨L,O,R⟩=>⟨λm σ H=>∃ps O,Iv m ps/\Rs X.K H0 O0 ps σ H O,⟨m,ps,O,h0,R⟩,?_⟩
 rintro m σ2 H2 ⟨R7,O2,iv,R2⟩;obtain⟨b,t,h1,h2⟩:=hs m R7 iv;refine⟨R7,b,t,O2,R2,λH3 s3=>?_⟩
 cases b with
 |true=>
  refine nj ⟨λσ H=>∃m',m'<m/\∃ps O,Iv m' ps/\Rs X.K H0 O0 ps σ H O,λP5 H' z=>z,_,R7,h1 rfl,?_,O2,R2.go s3⟩
  exact⟨λp σ H O R ⟨m',l,q⟩=>⟨m',l,p,O,q,R⟩,λp σ H O R q=>L.nx _ _ _ _ R q,λp σ H O R ⟨m',l,q⟩=>⟨m',l,p,O,q,R⟩,L.rt⟩
 |false=>exact m_ (L.nx _ _ _ _ (R2.go s3) (h2 rfl))
def cu:List Nat->PSt->PSt
 |[],ps=>ps
 |i::is,ps=>cu is (ps.set i none)
theorem Rs.mask{K:EL}{H:Hp}{O:List E1}:∀{is:List Nat}{ps:PSt}{σ:St},Rs K H0 O0 ps σ H O->Rs K H0 O0 (cu is ps) (L2.mask is σ) H O
 |[],ps,σ,R=>R
 |i::is,ps,σ,R=>Rs.mask (is:=is) (R.drop (i:=i) (o:=none))
theorem Rs.hide{K:EL}{σ:St}{H H':Hp}{O:List E1}{l:E1}(R:Rs K H0 O0 ps σ H O)(e:aJ H H')(n:H l=none)(d:H' l≠none):Rs K H0 O0 ps σ H' (l::O):=by
 refine⟨R.same.trans e,λa ha=>ES _ (R.old a ha),λa ha=>?_,λa ha z=>?_,R.len,λi s h=>?_,R.inj⟩
 ·rcases ET.mp ha with y |y
  ·subst y;exact .inr (R.same.free n)
  ·exact R.new a y
 ·rcases ET.mp ha with y |y
  ·subst y;exact d z
  ·exact R.dom a y (e.free z)
 ·obtain⟨w,h1,h2⟩:=R.at_ i s h;refine⟨w,h1,?_⟩;cases s with
  |val u=>exact Rp.same (bn e n) h2
  |own ys=>
   obtain⟨b,ws,k1,k2,k3,k4,k5⟩:=h2;exact⟨b,ws,k1,ES _ k2,k3,e _ _ k4,k5.same (bn e n)⟩
  |pin z u=>exact⟨h2.1,Rp.same (bn e n) h2.2⟩
  |dsk w C b d Qg=>obtain⟨dx,kv,k1,k2,k3,k4,k5,k6⟩:=h2;exact⟨dx,kv,k1,ES _ k2,k3,e _ _ k4,e _ _ k5,k6.same (bn e n)⟩
theorem pL{js is:List Nat}:∀{σ:St}{vs:List V},(∀j∈js,j∈is)->∀(n:Nat) (v:V),n ∉ is->σ[n]?=some (some v)->(jr σ js vs)[n]?=some (some v):=by
 induction js with
 |nil=>intro σ vs _ n v _ h;cases vs <;>exact h
 |cons j js ih=>
  intro σ vs hj n v hn h;cases vs with
  |nil=>exact h
  |cons w ws=>exact ih (λz hz=>hj z (ES _ hz)) n v hn (by rw[Fz (λz=>hn (by rw[<-z];exact hj j EY))];exact h)
def GOk(g:TG)(K:EL)(is:List Nat)(f:PSt->U->PSt)(dom:U->Prop):Prop:=
 ∀(H0:Hp) (O0:List E1) (ps:PSt) (σ:St) (H:Hp) (O:List E1) (v:V) (u:U) (Q:St->Hp->Prop),dom u->Rs K H0 O0 ps σ H O->Rp K (hid H O) v u->
  (∀P5,Rs K H0 O0 (f ps u) P5 H O->(∀(n:Nat) (w:V),n ∉ is->σ[n]?=some (some w)->P5[n]?=some (some w))->Q P5 H)->g v σ H Q
theorem e_{K:EL}{is:List Nat}{i:Nat}(h:i∈is):GOk (oC i) K is (λps u=>ps.set i (some (.val u))) λ_=>True:=λH0 O0 ps σ H O v u Q _ R r q=>
 q _ (R.set r) λn w hn e=>by rw[Fz (λz=>hn (by rw[<-z];exact h))];exact e
theorem fj{K:EL}{is js:List Nat}(h:∀j∈js,j∈is):GOk (Dt K js.length (nN js)) K is (λps u=>match u with | .tup us=>setAll ps js us |_=>ps) λu=>∃us,u=.tup us/\us.length=js.length:=λH0 O0 ps σ H O v u Q d R r q=>by
 obtain⟨us,rfl,hl⟩:=d;cases r with
 |tup hq P8 hh=>exact⟨_,_,rfl,ax.tup hq,P8.trans hl,iR (P8.trans hl) (q _ (R.setAll ⟨P8,hh⟩) λn w hn e=>pL h n w hn e)⟩
theorem vm{is:List Nat}{g:TG}{f:PSt->U->PSt}{dom:U->Prop}{σ:St}{H1:Hp}{O:List E1}{Q:VK}{J:It}{te:TE}(hg:GOk g X.K is f dom)(R1:Rs X.K H0 O0 ps σ H1 O)(Y:Yl X.K J (hid H1 O) xs)(PL:ys.length=xs.length)(hz:xs.length<=sizeLine)(Qu:∀x∈xs,dom x)
  (Rb:∀(i:Nat) (x y:U) (σ:St) (H:Hp) (O':List E1) (Q:VK),xs[i]?=some x->ys[i]?=some y->Rs X.K H0 O0 (f (cu is ps) x) σ H O'->(∀v H',aJ H H'->Rp X.K (hid H' O') v y->Q v H')->te σ H Q)
  (P4:∀a vs H',aJ H1 H'->H1 a=none->H' a=some (.lst vs)->Rps X.K (hid H' (a::O)) vs ys->Q (.ref a) H'):sC is g te σ Q J H1:=by
 intro l hl;refine⟨λi m H2=>m=xs.length-i/\i<=xs.length/\aJ H1 H2/\∃vs,H2 l=some (.lst vs)/\vs.length=i/\Rps X.K (hid H2 (l::O)) vs (ys.take i),⟨_,rfl,FX _,aM hl _,[],aK,rfl,by rw[JX];exact .nil⟩,?_⟩
 rintro i m H2 ⟨rfl,hi,s2,vs,h2,hv,rs⟩;have seen:aJ (hid H1 O) (hid H2 (l::O)):=bn s2 hl;obtain⟨y1,y2⟩:=Y H2 (seen.trans ax);by_cases PU:i<xs.length
 ·obtain⟨g1,g2⟩:=y1 i PU;refine .inr ⟨g1,λx H3 y=>?_⟩
  obtain⟨rfl,u,hu,r⟩:=g2 x H3 y;have R2:=(R1.mask (is:=is)).hide s2 hl (by rw[h2];intro z;cases z)
  refine hg H0 O0 _ _ H3 (l::O) x u _ (Qu u (E9 hu)) R2 (r.same seen) λRk R4 keep=>?_
  have hy:ys[i]?=some (ys[i]'(by lia)):=EK _
  refine Rb i u _ Rk H3 (l::O) _ hu hy R4 λv H5 s5 r5=>⟨λj w e=>keep j w (fg is σ j w e).2 e,vs,s5 _ _ h2,?_,xs.length-(i+1),by lia,rfl,PU,(s2.trans s5).put hl _,vs++[v],aK,by simp[hv],?_⟩
  ·rw[hv];lia
  ·rw[iu EY,GO,hy];exact (rs.same (aC s5)).snoc (.cons r5 .nil)
 ·have e:i=xs.length:=by lia
  subst e;rw[<-PL,GQ]at rs;exact .inl ⟨y2,P4 l vs H2 s2 hl h2 rs⟩
theorem fK{Ql:Expr}{PF:Ju}{cl:List (Str×E1)}{is:List Nat}{g:TG}{f:PSt->U->PSt}{dom:U->Prop}(hc:X.calm=true)(B:cF X PF cl is)(hi:EvI X H0 O0 ps tg iter xs)(hg:∀C s H fp,PG (aA X PF cl C s H fp) tg g)(gk:GOk g X.K is f dom)
  (PL:ys.length=xs.length) (hz:xs.length<=sizeLine) (Qu:∀x∈xs,dom x) (he:∀C s H fp (i:Nat) (x y:U),xs[i]?=some x->ys[i]?=some y->Ev (aA X PF cl C s H fp) H0 O0 (f (cu is ps) x) Ql y)
  (hs:∀x,Gg iter X.env x=pure x:=by intro _;rfl):EvN X H0 O0 ps (.ListComp Ql [⟨tg,iter,[],0⟩] PF pos) ys:=by
 have Rb:∀C s H fp,PE (aA X PF cl C s H fp) Ql λσ H Q=>∃i x y,xs[i]?=some x/\ys[i]?=some y/\∃O',Rs X.K H0 O0 (f (cu is ps) x) σ H O'/\∀v H',aJ H H'->Rp X.K (hid H' O') v y->Q v H':=
  λC s H fp pins s' σ H' Q I ⟨i,x,y,h1,h2,z⟩=>he C s H fp i x y h1 h2 pins s' σ H' Q I z
 refine PE.mono (sO hc B hi hg Rb hs) λσ H Q ⟨O,R,q⟩=>⟨O,R,λJ H1 s1 Y=>?_⟩
 exact vm gk (R.go s1) Y PL hz Qu (λi x y σ H O' Q h1 h2 R' z=>⟨i,x,y,h1,h2,O',R',z⟩) λa vs H' s n h r=>q a vs H' (s1.trans s) (s1.free n) h r
end
def spU(K:EL)(Qd:List U->Out->Prop):Sp:=λvs H Q E=>∃us O o,(∀a∈O,H a≠none)/\Rps K (hid H O) vs us/\Qd us o/\n9 K H O Q E o
section
variable {X:Cx}{ps:PSt}{s:Hr}{a b c e:Expr}{p:Pos}{x y:U}{k:Bool}
 {CX:CXT}{n:Nat}{f C:E1}{fd:Ga}{pn:List Str}{Qd:List U->Out->Prop}{nm:Str}
theorem aw(F:a9 X.prog X.w X.K X.mg X.base CX n f fd pn (spU X.K Qd))(hr:d6 n X.A)(hg:Gl X nm)(hm:X.mg nm=some (.ref f))(hk:Ho X.K (.ref f)=true)(hb:dt X.K fd pn [])(hx:iL CX X E0)
  (ha:EvA X H0 O0 ps (e::es) us) (h:Qd us (.val u)) (Q6:(nm==("__debug__":Str))=false:=by decide) (he:E4 (e::es) X.env=(false,HE e X.env)::E4 es X.env:=by rfl) (QA:(Iu pos (E4 es X.env)).any (·.1)=false:=by rfl):
  Ev X H0 O0 ps (.Call (.Name nm p) (e::es) [] pos) u:=
 PE.mono (mw F hr hg hm hk hb .nil hx ha Q6 he QA) λσ H Q ⟨O,R,q⟩=>⟨O,R,λvs H1 s1 r1=>by
  show spU X.K Qd (vs++[]) H1 Q _;rw[HL];exact⟨us,O,.val u,(R.go s1).dom,r1,h,λv H2 s2 r2=>q v H2 (s1.trans s2) r2⟩⟩
theorem ba(F:a9 X.prog X.w X.K X.mg X.base CX n f fd pn (spU X.K Qd))(hr:d6 n X.A)(hg:Gl X nm)(hm:X.mg nm=some (.ref f))(hk:Ho X.K (.ref f)=true)(hb:dt X.K fd pn [])(hx:iL CX X E0)
  (ha:EvA X H0 O0 ps (e::es) us) (h:Qd us (.new xs)) (Q6:(nm==("__debug__":Str))=false:=by decide) (he:E4 (e::es) X.env=(false,HE e X.env)::E4 es X.env:=by rfl) (QA:(Iu pos (E4 es X.env)).any (·.1)=false:=by rfl):
  EvN X H0 O0 ps (.Call (.Name nm p) (e::es) [] pos) xs:=
 PE.mono (mw F hr hg hm hk hb .nil hx ha Q6 he QA) λσ H Q ⟨O,R,q⟩=>⟨O,R,λvs H1 s1 r1=>by
  show spU X.K Qd (vs++[]) H1 Q _;rw[HL];exact⟨us,O,.new xs,(R.go s1).dom,r1,h,λa vs H2 s2 n2 h2 r2=>q a vs H2 (s1.trans s2) (s1.free n2) h2 r2⟩⟩
end
section
variable {P:E2}{w:Fs}{K:EL}{mg:Str→Option EU}{base:Gz}{N pn:List Str}{PM nm:Str}{PF:Ju}{f:E1}{cd:EU}{A:Fq}{outer:List Env}{s:ER}{ps:PSt}
def gl(N:List Str)(us:List U):PSt:=us.map (λu=>some (.val u))++Of (N.length-us.length) none
theorem aW{st:Hr}{fd:Ga}{k:Nat}{Qd:List U->Out->Prop}(F:Fun K nm PM st f fd)(S:av N pn (aj st))(len:∀us o,Qd us o->us.length=pn.length)
  (QF:∀(PV:EU) (A:Fq) (outer:List Env) (s:ER) (H:Hp) (E:XK) (O:List E1) (us:List U) (o:Out),d6 k (A.deeper (L4 PM (aj st) s.heap.objs.size f PV))->Qd us o->
   Ws (m9 (CXF P w) P w K mg base N PM (aj st) f PV A outer s H E) H O E (bI st) ⟨λ_=>o=.val .non,λo'=>o'=o,λ_=>False,λ_=>False⟩ (gl N us)):a9 P w K mg base (CXF P w) (k+1) f fd pn (spU K Qd):=by
 refine F.okF S (λvs H Q E h=>?_) λPV A outer s H vs Q E hr h=>?_
 ·obtain⟨us,O,o,_,r,Q4,_⟩:=h;rw[r.len];exact len us o Q4
 ·obtain⟨us,O,o,d,r,Q4,q⟩:=h;refine⟨_,QF PV A outer s H E O us o hr Q4,⟨λps σ H' O' R e=>?_,λ_ _ _ _ _ e=>e.elim,λ_ _ _ _ _ e=>e.elim,λo' e=>by subst e;exact q⟩,O,?_⟩
  ·subst e;exact q .non H' R.same .non
  ·refine⟨.refl H,λa h=>h,λa h=>.inl h,d,?_,λi sl e=>?_,λi j xs ys a e1 e2 _ _=>?_⟩
   ·unfold start gl;rw[FM,FM,EM,EM,HV,HV,r.len]
   ·unfold gl at e;by_cases hi:i<us.length
    ·rw[Fh (by simpa using hi),EW,EK hi]at e
     cases e;obtain⟨v,h1,h2⟩:=r.get (EK hi);refine⟨v,?_,h2⟩;unfold start;rw[Fh (by simpa [r.len] using hi),EW,h1];rfl
    ·rw[Fj (by simpa using hi),Hz]at e
     split at e <;>cases e
   ·exfalso
    unfold gl at e1;by_cases hi:i<us.length
    ·rw[Fh (by simpa using hi),EW,EK hi]at e1
     cases e1
    ·rw[Fj (by simpa using hi),Hz]at e1
     split at e1 <;>cases e1
end
section
variable {X:Cx}{ps:PSt}{a b c e:Expr}{rest:List Expr}{p p2:Pos}{x y:U}{i j:Int}{k m:Bool}{lo hi:Option Expr}{l h:Option Int}
def EvO(X:Cx)(H0:Hp)(O0:List E1)(ps:PSt)(e:Option Expr)(n:Option Int):Prop:=PO X e λσ H Q=>∃O,Rs X.K H0 O0 ps σ H O/\∀H',aJ H H'->Q n H'
theorem dR:EvO X H0 O0 ps none none:=λpins s σ H Q I ⟨O,R,q⟩=>Ax pins s σ H Q I (q H (.refl H))
theorem dZ(he:Ev X H0 O0 ps e (.int i)):EvO X H0 O0 ps (some e) (some i):=λpins s σ H Q I ⟨O,R,q⟩=>zJ he pins s σ H Q I ⟨O,R,λv H' s r=>by cases r;exact⟨i,rfl,q H' s⟩⟩
def fI(xs:List U)(lo hi:Option Int):List U:=(xs.drop (HT.sIx xs.length 0 lo)).take (HT.sIx xs.length xs.length hi-HT.sIx xs.length 0 lo)
theorem Rps.drop{K:EL}{H:Hp}{vs:List V}{xs:List U}(r:Rps K H vs xs)(n:Nat):Rps K H (vs.drop n) (xs.drop n):=⟨by simp[r.len],λi v x h1 h2=>r.at_ _ v x (by rwa [HW]at h1) (by rwa [HW]at h2)⟩
theorem Rps.take{K:EL}{H:Hp}{vs:List V}{xs:List U}(r:Rps K H vs xs)(n:Nat):Rps K H (vs.take n) (xs.take n):=⟨by simp[r.len],λi v x h1 h2=>by
 by_cases hn:i<n
 ·rw[GW hn]at h1 h2;exact r.at_ i v x h1 h2
 ·rw[List.getElem?_take_eq_none (by lia)]at h1
  cases h1⟩
theorem Rps.cut{K:EL}{H:Hp}{vs:List V}{xs:List U}(r:Rps K H vs xs):Rps K H (uW vs l h) (fI xs l h):=by
 unfold uW fI;rw[r.len];exact (r.drop _).take _
theorem cP(he:Ev X H0 O0 ps e x)(hl:EvO X H0 O0 ps lo l)(hh:EvO X H0 O0 ps hi h)(hx:x=.lst xs\/x=.scr xs):EvN X H0 O0 ps (.Subscript e (.Slice lo hi none p2) pos) (fI xs l h):=
 PE.mono (xN Aq he hl hh) λσ H Q ⟨O,R,q⟩=>⟨O,R,λv H1 s1 r1=>⟨O,R.go s1,λH2 s2=>⟨O,R.go (s1.trans s2),λH3 s3=>by
  have key:∃a vs,v=.ref a/\SqL X.K (hid H1 O) a vs/\Rps X.K (hid H1 O) vs xs:=by
   rcases hx with rfl |rfl
   ·cases r1 with
    |lst hq hl hh=>exact⟨_,_,rfl,SqL.of hq,hl,hh⟩
   ·cases r1 with
    |scr hq hl hh=>exact⟨_,_,rfl,hq,hl,hh⟩
  obtain⟨a,vs,rfl,hq,rs⟩:=key;have s13:=s2.trans s3;refine⟨a,vs,rfl,s13.seq (ax.seq hq),λp hp=>q p _ _ ((s1.trans s13).trans (aM hp _)) ((s1.trans s13).free hp) aK ?_⟩
  exact (rs.cut.same (aC s13)).same (bn (aM hp _) hp)⟩⟩⟩
theorem lJ(ha:Ev X H0 O0 ps a (.lst xs))(hb:Ev X H0 O0 ps b (.lst ys))(hz:xs.length+ys.length<=sizeLine):EvN X H0 O0 ps (.BinOp a .Add b pos) (xs++ys):=
 PE.mono (x6 B9 ha hb) λσ H Q ⟨O,R,q⟩=>two R (λ_ _ _ z=>z) (λ_ _ _ z=>z) λv w H' s _ r1 r2=>by
  cases r1 with
  |lst hq hl hh=>
   cases r2 with
   |lst Qb P8 hh'=>
    refine⟨_,_,_,_,rfl,rfl,ax _ _ hq,ax _ _ Qb,by rw[hl,P8];exact hz,λp hp=>q p _ _ (s.trans (aM hp _)) (s.free hp) aK ?_⟩
    exact (Rps.snoc ⟨hl,hh⟩ ⟨P8,hh'⟩).same (bn (aM hp _) hp)
def fl:U->V
 | .bl b=>.bl b | .int i=>.int i | .str x=>.str x |_=>.non
def wz:U->Bool
 | .bl _=>true | .int _=>true | .str _=>true | .non=>true |_=>false
theorem Ba{K:EL}{H:Hp}{v:V}{u:U}(h:Rp K H v u)(f:wz u=true):v=fl u/\gQ v=true:=by
 cases h <;>first |exact⟨rfl,rfl⟩ |simp[wz]at f
theorem v9{K:EL}{H:Hp}:∀{vs:List V}{xs:List U},Rps K H vs xs->xs.all wz=true->vs=xs.map fl/\vs.all gQ=true
 |vs,[],r,_=>by rw[r.nil_inv];exact⟨rfl,rfl⟩
 |vs,x::xs,r,f=>by
  obtain⟨v,ws,rfl,h1,h2⟩:=r.cons_inv;simp only[Ki,Gv]at f;obtain⟨e1,e2⟩:=Ba h1 f.1;obtain⟨e3,e4⟩:=v9 h2 f.2;refine⟨by rw[Ff,<-e1,<-e3],?_⟩
  simp only[Ki,Gv];exact⟨e2,e4⟩
theorem Ex(hx:wz x=true)(hy:y.items=some ys)(hf:ys.all wz=true):OpS X (Gn .In) x y (.bl (inV (fl x) (ys.map fl))):=by
 intro pins s σ H v w p q Q I r1 r2 h;obtain⟨k1,k2,k3⟩:=h;obtain⟨a,vs,rfl,h1,h2⟩:=mI k2 hy;obtain⟨e1,e2⟩:=Ba k1 hx;obtain⟨e3,e4⟩:=v9 h2 hf;exact uB pins s σ H v _ p q Q I r1 r2 ⟨a,vs,rfl,h1,e2,e4,by rw[e1,e3];exact k3⟩
theorem DH{bs:List Bool}(hc:X.calm=true):eB X (.builtin "all") [.lst (bs.map U.bl)] (.bl (bs.all id)):=by
 intro pins s σ H vs us Q I r hq;obtain⟨O,d,rs,q⟩:=hq;obtain⟨v,rfl,h1⟩:=cq rs;obtain⟨p1,rfl,r1⟩:=eY r;cases h1 with
 | @lst a ws _ hq hl hh=>
  cases r1;obtain⟨PH,rv,pl,_⟩:=I.list (SqL.of (ax _ _ hq));have PL:PH.length=bs.length:=by rw[<-rv.length,hl,EM]
  have Rc:∀(i:Nat) (z:EU),PH.toArray[i]?=some z->z=.bool (bs.getD i false):=λi z e=>by
   have hi:i<PH.length:=by have:=aL (show PH[i]?=some z by simpa using e);exact this
   have hb:i<bs.length:=by lia
   have hw:i<ws.length:=by rw[rv.length];exact hi
   obtain⟨u,e1,e2⟩:=rv.get (EK hw);have e3:=hh i ws[i] (.bl bs[i]) (EK hw) (by rw[EW,EK hb];rfl)
   have e4:PH[i]?=some z:=by simpa using e
   rw[e4]at e1;cases e1;generalize ws[i]=wi at *;cases e3;rw[Fe,EK hb];exact e2
  refine call_all_walk (GV pl.isList ?_);have PN:a≠s.heap.objs.size:=by obtain⟨o,e,_⟩:=pl.isList;exact Fy (EZ e)
  refine⟨s.heap.objs.size,_,_,_,_,_,λi=>bs.getD i false,rfl,Walks.list (A:=X.A.in1) (I.ok.hd hc) s.heap.objs.size a PN PH.toArray,⟨⟨_,E3 _ rfl,rfl,rfl⟩,pl.isList.push _⟩,λi z s' Q' E' hP hQ=>?_,λh' tk hk=>?_⟩
  ·rw[Rc i z hP];exact Hi hQ
  ·have e:(F3 PH.toArray.size).all (λi=>bs.getD i false)=bs.all id:=by
    rw[E7,PL,HK,l9,Iz];constructor
    ·intro h x hx;obtain⟨i,hi,rfl⟩:=Kn hx;have:=h i hi
     rwa [Fe,EK hi]at this
    ·intro h j hj;rw[Fe,EK hj];exact h _ (Jk hj)
   rw[e];refine⟨.bl _,H,I.kept (t':=tk) λb o e=>hk b o ?_ (EN _ e),rfl,q _ H (.refl H) (.bl _)⟩
   intro z;have:b=s.heap.objs.size:=by simpa using z
   exact absurd (EZ e) (by rw[this];exact FG _)
end
def uR(J:It)(is:List Nat)(g:TG)(tt:TT)(te:TE)(σ:St)(H1:Hp)(l:E1)(Q:VK):Prop:=
 ∃W:Nat->Nat->Hp->Prop,(∃m,W 0 m (upd H1 l (.lst [])))/\∀i m H2,W i m H2->
  (J.stop i H2/\Q (.ref l) H2)\/(J.go i H2/\∀x H3,J.yld i H2 x H3->g x (mask is σ) H3 λRk H4=>tt Rk H4 λb H5=>
   (∀(j:Nat) (v:V),(mask is σ)[j]?=some (some v)->Rk[j]?=some (some v))/\
   if b=true then te Rk H5 λy H6=>∃vs,H6 l=some (.lst vs)/\vs.length<sizeLine/\∃m',m'<m/\W (i+1) m' (upd H6 l (.lst (vs++[y]))) else ∃m',m'<m/\W (i+1) m' H5)
def qW(is:List Nat)(g:TG)(tt:TT)(te:TE)(σ:St)(Q:VK)(J:It)(H1:Hp):Prop:=∀l,H1 l=none->uR J is g tt te σ H1 l Q
def vZ(is:List Nat)(wi:TI)(g:TG)(tt:TT)(te:TE):TE:=λσ H Q=>wi σ H (qW is g tt te σ Q)
section
variable {X:Cx}{σ:St}{s:ER}
theorem vJ{Ql iter tg:Expr}{PF:Ju}{cl:List (Str×E1)}{pos pos0:Pos}{is:List Nat}{wi:TI}{g:TG}{tt:TT}{te:TE}{cond:Expr}{use:Option (EU->Sem Unit)}{Q0:VK}{Q:EU->ER->Prop}(hc:X.calm=true)(B:cF X PF cl is)
  (hi:PI X tg iter wi) (hg:∀C s H fp,PG (aA X PF cl C s H fp) tg g) (ht:∀C s H fp,PT (aA X PF cl C s H fp) cond tt) (he:∀C s H fp,PE (aA X PF cl C s H fp) Ql te) (hs:∀x,Gg iter X.env x=pure x)
  (I:Inv X pins σ H s) (h:vZ is wi g tt te σ H Q0)
  (P4:∀(l C:E1) (H':Hp) (s':ER) (m:Str->Option EU),Inv X pins σ H' s'->s'.heap.Ns C m->H' C=none->C≠X.env.locals->C ∉ X.fs->X.s₀.heap.objs.size<=C->(∀x c,X.env.cells.lookup x=some c->c≠C)->(∀p∈X.pn++pins,p.1≠C)->Q0 (.ref l) H'->
   OU (FF X.prog X.w) X.A X.xe use Q (.ref l) C (.ok .next) s'):
  Fd (FF X.prog X.w) X.A (MW (.ListComp Ql [⟨tg,iter,[cond],0⟩] PF pos) PF X.env pos0 (newList []) false (HE iter X.env) use) Q X.xe s:=by
 refine K_ rfl hs B.clos B.kind B.names (thn (hi pins s σ H _ I h) λxv s1 h1=>thn h1 λitv s2 h2=>?_)
 obtain⟨it,fp,tn,J,H2,e,I2,T,st2,f2,R⟩:=h2;subst e;refine GX (Mu B.cell (by intro y hy;simp at hy) (λh₁ hns Q8=>?_) B.kind)
 have hl:H2 s2.heap.objs.size=none:=I2.hok.fresh (EX _);obtain⟨W,⟨m0,w0⟩,turn⟩:=R s2.heap.objs.size hl
 have I3:Inv X pins σ (upd H2 s2.heap.objs.size (.lst [])) {s2 with heap:=s2.heap.push {cls:=.type "list",dict:=none,data:=.seq ([]:List EU).toArray } }:=
  I2.laid (t':=s2.toks) (o:=.lst []) (λb u e=>EN _ e) (EX _) ⟨FX _,[],0,.nil,E3 _ rfl⟩
 have hfl:∀b∈fp,b<s2.heap.objs.size:=λb hb=>let ⟨o,e,_⟩:=T.obj 0 _ st2 b hb;EZ e
 have f3:∀b∈fp,iM X pins (upd H2 s2.heap.objs.size (.lst [])) b:=λb hb=>⟨by rw[aT (Fy (hfl b hb))];exact (f2 b hb).1,(f2 b hb).2⟩
 have kp:∀b o,(s2.heap.push {cls:=.type "list",dict:=none,data:=.seq ([]:List EU).toArray }).get? b=some o→h₁.get? b=some o:=λb o e=>
  Q8.extBut b o (Fy (EZ e)) (EN _ e)
 have st4:tn 0 h₁:=T.keep 0 _ _ st2 λb _ o e=>kp b o (EN _ e)
 have hfl3:∀b∈fp,b<(s2.heap.push {cls:=.type "list",dict:=none,data:=.seq ([]:List EU).toArray }).objs.size:=λb hb=>by
  rw[Gb];exact GY (hfl b hb)
 have I4:=iZ (t':=s2.toks+([]:List (Str×EU)).length) I3 B f3 hfl3 hns kp
 have loop:IJ (FF X.prog X.w) X.A (.compLoop (.ListComp Ql [⟨tg,iter,[cond],0⟩] PF pos) 0 (.ref it) (.ref s2.heap.objs.size) (Ms PF cl (s2.heap.push {cls:=.type "list",dict:=none,data:=.seq ([]:List EU).toArray }).objs.size X.env))
   (OU (FF X.prog X.w) X.A X.xe use Q (.ref s2.heap.objs.size) (s2.heap.push {cls:=.type "list",dict:=none,data:=.seq ([]:List EU).toArray }).objs.size)
   {s2 with heap:=h₁,toks:=s2.toks+([]:List (Str×EU)).length }:=by
  generalize Rq:({s2 with heap:=s2.heap.push {cls:=.type "list",dict:=none,data:=.seq ([]:List EU).toArray } }:ER)=s3 at *
  have hC:(s2.heap.push {cls:=.type "list",dict:=none,data:=.seq ([]:List EU).toArray }).objs.size=s3.heap.objs.size:=by rw[←Rq]
  rw[hC]
  have QZ:∀{H':Hp},(∀b∈fp,H' b=none)->∀b∈fp,iM (aA X PF cl s3.heap.objs.size s3 (upd H2 s2.heap.objs.size (.lst [])) fp) [] H' b:=λhn b hb=>
   ⟨hn b hb,(I4.ok.exf b hb).1,I4.ok.exfs b hb,.inl hb,λx c e=>(I4.ok.exf b hb).2 x c e,λp hp=>absurd (show p∈([]:List (E1×Obj)) from hp) (by simp)⟩
  have back:∀{P5:St}{H':Hp}{pp:List (E1×Obj)}{s':ER},Inv (aA X PF cl s3.heap.objs.size s3 (upd H2 s2.heap.objs.size (.lst [])) fp) pp P5 H' s'->Inv X pins σ H' s':=λI'=>
   I3.call' (ch:=fp) I'.os I'.base I'.hok I'.bare λb hb=>⟨(f3 b hb).2.2.2.1,(f3 b hb).2.1,(f3 b hb).2.2.2.2.1,(f3 b hb).2.2.2.2.2⟩
  refine codeAny_loop rfl (λn s'=>∃i H',Inv (aA X PF cl s3.heap.objs.size s3 (upd H2 s2.heap.objs.size (.lst [])) fp) [] (mask is σ) H' s'/\tn i s'.heap/\(∀b∈fp,H' b=none)/\W i n H') ?_ m0 ⟨0,_,(by subst Rq;exact I4),st4,λb hb=>(f3 b hb).1,w0⟩
  rintro n s5 ⟨i,H5,I5,Sk,fr5,w5⟩;show Fd _ _ ((compTurn (.ListComp Ql [⟨tg,iter,[cond],0⟩] PF pos) 0 (.ref it) (.ref s2.heap.objs.size) (Ms PF cl s3.heap.objs.size X.env)).onRaise (λx=>do noteFrame x (Ms PF cl s3.heap.objs.size X.env);NU x)) _ _ s5
  refine wpAny_noted ?_;rw[compTurn_list];refine EJ (Lm (EJ ?_));rcases turn i n H5 w5 with ⟨stop,q⟩ |⟨go,step⟩
  ·refine thn (T.done (aA X PF cl s3.heap.objs.size s3 (upd H2 s2.heap.objs.size (.lst [])) fp) rfl rfl rfl hc i [] s5 _ H5 _ I5 (QZ fr5) Sk stop) λr s6 ⟨hr,I6⟩=>?_
   subst hr;refine EO ?_;obtain⟨m6,hn6,_⟩:=I6.loc;have hCn:∀b,b<s3.heap.objs.size->b≠s3.heap.objs.size:=λb hb=>Fy hb
   refine P4 _ s3.heap.objs.size H5 s6 m6 (back I6) hn6 I6.free (Hs I3.lt) (I3.nofs (EX _)) I3.sz (λx c e=>?_) (λp hp=>?_) q
   ·obtain⟨v,z⟩:=I3.cell x c e;exact Fy z.lt
   ·exact Fy (EZ (I3.pin p hp).1)
  ·refine thn (T.item (aA X PF cl s3.heap.objs.size s3 (upd H2 s2.heap.objs.size (.lst [])) fp) rfl rfl rfl hc i [] s5 _ H5 _ I5 (QZ fr5) Sk go) λr s6 ⟨u,hr,h6⟩=>?_
   subst hr;refine EJ (thn h6 λ_ s7 ⟨x,H7,I7,r7,y7,st7,fr7⟩=>?_)
   have I7':=I7.pinned (QZ fr7) (T.obj _ _ st7);refine EJ (HS (hg _ _ _ _ _ s7 (mask is σ) H7 x u _ I7' r7 (step x H7 y7)) (λ_ s8 ⟨σ8,H8,I8,q8⟩=>?_) λ_ _ z=>z.elim)
   refine EJ (wpAny_tests_one (HS (ht _ _ _ _ _ s8 σ8 H8 _ I8 q8) (λbb s9 ⟨H9,I9,sub,q9⟩=>?_) λ_ _ z=>z.elim))
   have fpn:∀{H':Hp}{s':ER}{P5:St},Inv (aA X PF cl s3.heap.objs.size s3 (upd H2 s2.heap.objs.size (.lst [])) fp) ([]++j9 fp s7.heap) P5 H' s'->tn (i+1) s'.heap/\∀b∈fp,H' b=none:=λ{H' s' P5} J=>⟨T.keep _ _ _ st7 λb hb o e=>(J.pin (b,o) (Fg _ (Fg _ (c8 hb e)))).1,λb hb=>by
    obtain⟨o,e,d⟩:=T.obj _ _ st7 b hb;exact (J.pin (b,o) (Fg _ (Fg _ (c8 hb e)))).2.1⟩
   cases bb with
   |true=>
    rw[if_pos rfl]at q9;simp only[if_true];refine EJ (EJ (HS (he _ _ _ _ _ s9 σ8 H9 _ I9 q9) (λv s10 ⟨y,H10,I10,r10,vs,hl10,hz,m',hm,w'⟩=>?_) λ_ _ z=>z.elim))
    refine EJ (HS (iP (X:=aA X PF cl s3.heap.objs.size s3 (upd H2 s2.heap.objs.size (.lst [])) fp) _ s10 σ8 H10 (.ref s2.heap.objs.size) [y] (.ref s2.heap.objs.size) [v] (λ_ H'=>H'=upd H10 s2.heap.objs.size (.lst (vs++[y]))) I10 rfl (.cons r10 .nil) ⟨_,vs,y,rfl,rfl,hl10,hz,rfl⟩) (λz s11 ⟨zv,H11,I11,_,e11⟩=>?_) λ_ _ z=>z.elim)
    subst e11;obtain⟨k1,k2⟩:=fpn I11;exact EO (EO ⟨rfl,m',hm,i+1,_,(I11.unpinned (pins:=[])).weak (by rw[I11.len,ff,I.len]) sub,k1,k2,w'⟩)
   |false=>
    rw[if_neg (by decide)]at q9
    simp only[Fb,if_false];obtain⟨m',hm,w'⟩:=q9;obtain⟨k1,k2⟩:=fpn I9
    first
     |exact EO ⟨rfl,m',hm,i+1,_,(I9.unpinned (pins:=[])).weak (by rw[I9.len,ff,I.len]) sub,k1,k2,w'⟩
     |exact EJ (EO (EO ⟨rfl,m',hm,i+1,_,(I9.unpinned (pins:=[])).weak (by rw[I9.len,ff,I.len]) sub,k1,k2,w'⟩))
 exact LS loop (T.self X.A 0 _ _ _ st4 loop)
theorem nY{Ql iter tg:Expr}{PF:Ju}{cl:List (Str×E1)}{pos:Pos}{is:List Nat}{wi:TI}{g:TG}{tt:TT}{te:TE}{cond:Expr}(hc:X.calm=true)(B:cF X PF cl is)
  (hi:PI X tg iter wi) (hg:∀C s H fp,PG (aA X PF cl C s H fp) tg g) (ht:∀C s H fp,PT (aA X PF cl C s H fp) cond tt) (he:∀C s H fp,PE (aA X PF cl C s H fp) Ql te) (hs:∀x,Gg iter X.env x=pure x:=by intro _;rfl):
  PE X (.ListComp Ql [⟨tg,iter,[cond],0⟩] PF pos) (vZ is wi g tt te):=by
 intro pins s σ H Q I h;rw[eval_ListComp];refine vJ (use:=none) hc B hi hg ht he hs I h λl C H' s' m I' hn h1 h2 h3 h4 h5 h6 q=>⟨m,hn,λh' Q8=>?_⟩
 exact⟨.ref l,H',I'.turned (t':=s'.toks) (λb o hb e=>Q8.extBut b o hb e) h1 (Ne.symm h2.symm) (.inr h4) h5 h6,rfl,q⟩
variable {ps:PSt}{cond:Expr}{p:Pos}{fs:List (Option U)}
theorem qy{is:List Nat}{g:TG}{f:PSt->U->PSt}{dom:U->Prop}{σ:St}{H1:Hp}{O:List E1}{Q:VK}{J:It}{tt:TT}{te:TE}(hg:GOk g X.K is f dom)(R1:Rs X.K H0 O0 ps σ H1 O)(Y:Yl X.K J (hid H1 O) xs)(PL:fs.length=xs.length)(hz:xs.length<=sizeLine)(Qu:∀x∈xs,dom x)
  (htt:∀(i:Nat) (x:U) (o:Option U) (σ:St) (H:Hp) (O':List E1) (Q:Bool->Hp->Prop),xs[i]?=some x->fs[i]?=some o->Rs X.K H0 O0 (f (cu is ps) x) σ H O'->(∀H',aJ H H'->Q o.isSome H')->tt σ H Q)
  (Rb:∀(i:Nat) (x y:U) (σ:St) (H:Hp) (O':List E1) (Q:VK),xs[i]?=some x->fs[i]?=some (some y)->Rs X.K H0 O0 (f (cu is ps) x) σ H O'->(∀v H',aJ H H'->Rp X.K (hid H' O') v y->Q v H')->te σ H Q)
  (P4:∀a vs H',aJ H1 H'->H1 a=none->H' a=some (.lst vs)->Rps X.K (hid H' (a::O)) vs (fs.filterMap id)->Q (.ref a) H'):qW is g tt te σ Q J H1:=by
 intro l hl;refine⟨λi m H2=>m=xs.length-i/\i<=xs.length/\aJ H1 H2/\∃vs,H2 l=some (.lst vs)/\vs.length<=i/\Rps X.K (hid H2 (l::O)) vs ((fs.take i).filterMap id),⟨_,rfl,FX _,aM hl _,[],aK,EX _,by rw[JX];exact .nil⟩,?_⟩
 rintro i m H2 ⟨rfl,hi,s2,vs,h2,hv,rs⟩;have seen:aJ (hid H1 O) (hid H2 (l::O)):=bn s2 hl;obtain⟨y1,y2⟩:=Y H2 (seen.trans ax);by_cases PU:i<xs.length
 ·obtain⟨g1,g2⟩:=y1 i PU;refine .inr ⟨g1,λx H3 y=>?_⟩
  obtain⟨rfl,u,hu,r⟩:=g2 x H3 y;have R2:=(R1.mask (is:=is)).hide s2 hl (by rw[h2];intro z;cases z)
  refine hg H0 O0 _ _ H3 (l::O) x u _ (Qu u (E9 hu)) R2 (r.same seen) λRk R4 keep=>?_
  obtain⟨o,ho⟩:∃o,fs[i]?=some o:=⟨_,EK (by lia)⟩
  refine htt i u o Rk H3 (l::O) _ hu ho R4 λH5 s5=>⟨λj w e=>keep j w (fg is σ j w e).2 e,?_⟩
  cases o with
  |none=>
   refine m_ ⟨xs.length-(i+1),by lia,rfl,PU,s2.trans s5,vs,s5 _ _ h2,by lia,?_⟩
   rw[GO,ho,JA,IL];simpa using rs.same (aC s5)
  |some yv=>
   refine nj (Rb i u yv Rk H5 (l::O) _ hu ho (R4.go s5) λv H6 s6 r6=>⟨vs,s6 _ _ (s5 _ _ h2),?_,xs.length-(i+1),by lia,rfl,PU,((s2.trans s5).trans s6).put hl _,vs++[v],aK,by simp;lia,?_⟩)
   ·lia
   ·rw[iu EY,GO,ho,JA,IL];exact ((rs.same (aC s5)).same (aC s6)).snoc (.cons r6 .nil)
 ·have e:i=xs.length:=by lia
  subst e;rw[<-PL,GQ]at rs;exact .inl ⟨y2,P4 l vs H2 s2 hl h2 rs⟩
theorem AB{Ql:Expr}{PF:Ju}{cl:List (Str×E1)}{is:List Nat}{g:TG}{f:PSt->U->PSt}{dom:U->Prop}(fs:List (Option U))(hc:X.calm=true)(B:cF X PF cl is)(hi:EvI X H0 O0 ps tg iter xs)(hg:∀C s H fp,PG (aA X PF cl C s H fp) tg g)(gk:GOk g X.K is f dom)
  (PL:fs.length=xs.length) (hz:xs.length<=sizeLine) (Qu:∀x∈xs,dom x) (ht:∀C s H fp (i:Nat) (x:U) (o:Option U),xs[i]?=some x->fs[i]?=some o->Tt (aA X PF cl C s H fp) H0 O0 (f (cu is ps) x) cond o.isSome)
  (he:∀C s H fp (i:Nat) (x y:U),xs[i]?=some x->fs[i]?=some (some y)->Ev (aA X PF cl C s H fp) H0 O0 (f (cu is ps) x) Ql y)
  (hs:∀x,Gg iter X.env x=pure x:=by intro _;rfl):EvN X H0 O0 ps (.ListComp Ql [⟨tg,iter,[cond],0⟩] PF pos) (fs.filterMap id):=by
 have Rb:∀C s H fp,PE (aA X PF cl C s H fp) Ql λσ H Q=>∃i x y,xs[i]?=some x/\fs[i]?=some (some y)/\∃O',Rs X.K H0 O0 (f (cu is ps) x) σ H O'/\∀v H',aJ H H'->Rp X.K (hid H' O') v y->Q v H':=
  λC s H fp pins s' σ H' Q I ⟨i,x,y,h1,h2,z⟩=>he C s H fp i x y h1 h2 pins s' σ H' Q I z
 have htt:∀C s H fp,PT (aA X PF cl C s H fp) cond λσ H Q=>∃(i:Nat) (x:U) (o:Option U),xs[i]?=some x/\fs[i]?=some o/\∃O',Rs X.K H0 O0 (f (cu is ps) x) σ H O'/\∀H',aJ H H'->Q o.isSome H':=
  λC s H fp pins s' σ H' Q I ⟨i,x,o,h1,h2,z⟩=>ht C s H fp i x o h1 h2 pins s' σ H' Q I z
 refine PE.mono (nY hc B hi hg htt Rb hs) λσ H Q ⟨O,R,q⟩=>⟨O,R,λJ H1 s1 Y=>?_⟩
 exact qy gk (R.go s1) Y PL hz Qu (λi x o σ H O' Q h1 h2 R' z=>⟨i,x,o,h1,h2,O',R',z⟩) (λi x y σ H O' Q h1 h2 R' z=>⟨i,x,y,h1,h2,O',R',z⟩) λa vs H' s n h r=>q a vs H' (s1.trans s) (s1.free n) h r
end
inductive Ck:List (Option Expr)->List Expr->Prop where
 |nil:Ck [] []
 |cons {k v:Int}{a b:Nat}{p q:Pos}{ks:List (Option Expr)}{vs:List Expr} (h:Ck ks vs):Ck (some (.Constant (.int k) a p)::ks) (.Constant (.int v) b q::vs)
section
variable {X:Cx}{ps:PSt}{keys:List (Option Expr)}{values:List Expr}{k m:Bool}
end
theorem Ws.nox{X:Cx}{H0:Hp}{O0:List E1}{E:XK}{ss:List Hr}{D:PD}{ps:PSt}(h:Ws X.nox H0 O0 E ss D ps):Ws X H0 O0 E ss D ps:=PSs.nox h
theorem a9.calm{P:E2}{w:Fs}{K:EL}{mg:Str->Option EU}{base:Gz}{k:Nat}{f:E1}{fd:Ga}{ps:List Str}{sp:Sp}(F:a9 P w K mg base (CXF P w) k f fd ps sp)(h:∀vs H Q E,sp vs H Q E->sp vs H Q E0):a9 P w K mg base CX0 k f fd ps sp:=by
 refine⟨F.len,λA outer s H args us vs Q E hr he hb hv hs=>J2 (F.run A outer s H args us vs Q E0 hr he hb hv (h _ _ _ _ hs)) λr s' q=>?_⟩
 cases r with
 |ok fl=>
  cases fl with
  |ret u=>exact q
  |next=>exact q
  |brk=>exact q
  |cont=>exact q
 |error e=>
  obtain⟨_,_,_,_,_,_,_,_,_,_,_,_,_,_,_,hE⟩:=q;exact hE.elim
def ii:List U->Out->Prop:=λus o=>∃ns:List Int,us=[.scr (ns.map U.int)]/\ns.length<=63/\(∀m∈ns,Sz 1048576 m)/\o=.val (.bl true)
theorem xk{K:EL}(vs:List V)(H:Hp)(Q:VK)(E:XK)(h:spU K ii vs H Q E):spU K ii vs H Q E0:=by
 obtain⟨us,O,o,d,r,⟨ns,h1,h2,h3,rfl⟩,q⟩:=h;exact⟨us,O,_,d,r,⟨ns,h1,h2,h3,rfl⟩,q⟩
theorem uU{K:EL}{H:Hp}{a:E1}{ns:List Int}{E:XK}(h1:ns.length<=63)(h2:∀m∈ns,Sz 1048576 m)(h3:SqL K H a (ns.map V.int)):spU K ii [.ref a] H (λv _=>v=.bl true) E:=by
 refine⟨[.scr (ns.map U.int)],[],.val (.bl true),λa ha=>(nomatch ha),.cons ?_ .nil,⟨ns,rfl,h1,h2,rfl⟩,λv H' s r=>by cases r;rfl⟩
 have e:hid H []=H:=by funext b;unfold hid;rw[if_neg (by simp)]
 rw[e];refine .scr h3 (by simp) λi v x e1 e2=>?_
 rw[EW]at e1 e2;cases q:ns[i]? with
 |none=>rw[q]at e1;cases e1
 |some n=>rw[q]at e1 e2;cases e1;cases e2;exact .int n
theorem fZ{k:Nat}{A:Fq}(hr:d6 k A):A.units+10<II:=by have:=hr.un;lia
theorem o9{ns:List Int}{k:Int}(h0:0<=k)(h:k<(ns.length:Int)):atI (ns.map U.int) k=some (.int (ns.getD k.toNat 0)):=by
 have hk:k.toNat<ns.length:=by lia
 have q:atI (ns.map U.int) ((k.toNat:Nat):Int)=some (.int (ns.getD k.toNat 0)):=rZ (by rw[EW,Fe,EK hk] <;>rfl)
 rwa [show ((k.toNat:Nat):Int)=k by lia]at q
theorem zo{ns:List Int}(h:∀m∈ns,Sz 1048576 m)(i:Nat):Sz 1048576 (ns.getD i 0):=by
 by_cases hk:i<ns.length
 ·rw[Fe,EK hk,HU];exact h _ (Jk hk)
 ·rw[Fe,FC (by lia),LD];exact Sz.mono (m:=8) (by decide) (by decide)
abbrev pt(x y:Int):U:=.tup [.int x,.int y]
theorem dTb{p:Prop}[Decidable p](h:decide p=true):p:=of_decide_eq_true h
theorem dFb{p:Prop}[Decidable p](h:decide p=false):¬ p:=of_decide_eq_false h
theorem nTb{p:Prop}[Decidable p](h:(!decide p)=true):¬ p:=by simpa using h
theorem nFb{p:Prop}[Decidable p](h:(!decide p)=false):p:=by simpa using h
theorem vB{a b:Bool}(h:a=b):Out.val (.bl a)=Out.val (.bl b):=by rw[h]
theorem vIO{a b:Int}(h:a=b):Out.val (.int a)=Out.val (.int b):=by rw[h]
mutual
theorem jO:∀(n:Nat) (u:U),okU n u=true->eqW u u=true
 |_,.non,_=>rfl
 |_,.bl b,_=>by simp[eqW]
 |_,.int b,_=>by simp[eqW]
 |_,.str b,_=>by simp[eqW]
 |_,.ty _,h=>by simp[okU]at h
 |_,.dic,h=>by simp[okU]at h
 |0,.tup _,h=>by simp[okU]at h
 |0,.lst _,h=>by simp[okU]at h
 |0,.scr _,h=>by simp[okU]at h
 |n+1,.tup xs,h=>by rw[eqW];rw[okU]at h;exact eqWs_refl n xs h
 |n+1,.lst xs,h=>by rw[eqW];rw[okU]at h;exact eqWs_refl n xs h
 |n+1,.scr xs,h=>by rw[eqW];rw[okU]at h;exact eqWs_refl n xs h
theorem eqWs_refl:∀(n:Nat) (xs:List U),okUs n xs=true->eqWs xs xs=true
 |_,[],_=>rfl
 |n,x::xs,h=>by
  simp only[okUs,Gv]at h;simp only[eqWs,Gv];exact⟨jO n x h.1,eqWs_refl n xs h.2⟩
end
theorem xf{α:Type}{n:Nat}{f:α->U}{l:List α}(h:∀a∈l,okU n (f a)=true):okUs n (l.map f)=true:=by
 induction l with
 |nil=>rfl
 |cons a l ih=>
  rw[Ff,okUs,Gv];exact⟨h a EY,ih λb hb=>h b (ES _ hb)⟩
theorem oa{α:Type}{n:Nat}{f:α->U}{l:List α}(h:∀a,okU n (f a)=true):okU (n+1) (.lst (l.map f))=true:=by rw[okU];exact xf λa _=>h a
section
variable {X:Cx}{ps:PSt}{a b c e:Expr}{rest:List Expr}{k:Bool}
theorem c7{tb fb:List Hr}(hc:Tt X H0 O0 ps c k)(hk:k=true)(h:Ws X H0 O0 E tb D ps):W1 X H0 O0 E (.If c tb fb pos) D ps:=nE hc (λ_=>h) (λe=>by rw[hk]at e;cases e)
theorem br{tb fb:List Hr}(hc:Tt X H0 O0 ps c k)(hk:k=false)(h:Ws X H0 O0 E fb D ps):W1 X H0 O0 E (.If c tb fb pos) D ps:=nE hc (λe=>by rw[hk]at e;cases e) (λ_=>h)
theorem iQ(ha:Tt X H0 O0 ps a k)(hk:k=false):Tw X H0 O0 ps (.BoolOp .And (a::b::rest) pos) false:=by
 subst hk;exact sJ (m:=true) ha λh=>by cases h
end
section
variable {X:Cx}{ps:PSt}{c:Expr}{α:Type}
theorem TgS.sub{p p':PSt}{u:U}{Qo:PSt}(h:TgS X H0 O0 tg p u Qo)(hs:SubP p p'):TgS X H0 O0 tg p' u Qo:=PG.mono h λv σ H Q ⟨O,R,r,q⟩=>⟨O,R.sub hs,r,q⟩
theorem Tt.sub{p p':PSt}{e:Expr}{k:Bool}(h:Tt X H0 O0 p e k)(hs:SubP p p'):Tt X H0 O0 p' e k:=PT.mono h λσ H Q ⟨O,R,q⟩=>⟨O,R.sub hs,q⟩
theorem d7(st:α->PSt)(Q:Nat->α->Prop)(hc:X.calm=true)(hp:L1 (FF X.prog X.w) X.A X.env X.xe)(hi:EvI X H0 O0 ps tg iter xs)(h0:∃a,Q 0 a/\SubP (st a) ps)
  (hs:∀(H0:Hp) (i:Nat) (x:U) (a:α),xs[i]?=some x->Q i a->∃Qo,TgS X H0 O0 tg (st a) x Qo/\Ws X H0 O0 E Qc {D with nx:=λp=>∃b,Q (i+1) b/\SubP (st b) p,ct:=λp=>∃b,Q (i+1) b/\SubP (st b) p,bk:=D.nx } Qo)
  (hd:∀a ps,Q xs.length a->SubP (st a) ps->D.nx ps) (hf:∀x,Gg iter X.env x=pure x:=by intro _;rfl):W1 X H0 O0 E (.For tg iter Qc [] pos) D ps:=
 Dk hc hp hi (λi ps=>∃a,Q i a/\SubP (st a) ps) h0 (λH0 i x ps hx ⟨a,q,sb⟩=>by
  obtain⟨Qo,t,w⟩:=hs H0 i x a hx q;exact⟨Qo,t.sub sb,w⟩) (λps ⟨a,q,sb⟩=>hd a ps q sb) hf
theorem il(st:α->PSt)(Q:Nat->α->Prop)(hp:L1 (FF X.prog X.w) X.A X.env X.xe)(h0:∃m a,Q m a/\SubP (st a) ps)
  (hs:∀m a,Q m a->∃b,Tt X H0 O0 (st a) c b/\(b=true->Ws X H0 O0 E Qc {D with nx:=λp=>∃m' a',m'<m/\Q m' a'/\SubP (st a') p,ct:=λp=>∃m' a',m'<m/\Q m' a'/\SubP (st a') p,bk:=D.nx } (st a))/\(b=false->∀ps,SubP (st a) ps->D.nx ps)):W1 X H0 O0 E (.While c Qc [] pos) D ps:=by
 obtain⟨m,a,q,sb⟩:=h0;refine At hp (λm ps=>∃a,Q m a/\SubP (st a) ps) m ⟨a,q,sb⟩ λm ps ⟨a,q,sb⟩=>?_
 obtain⟨b,t,h1,h2⟩:=hs m a q;refine⟨b,t.sub sb,λe=>?_,λe=>h2 e ps sb⟩
 refine du (PSs.mono (h1 e) λD' σ H ⟨L,O,R⟩=>⟨⟨λp σ H O R ⟨m',a',l,q',sb'⟩=>L.nx p σ H O R ⟨m',l,a',q',sb'⟩,L.bk,λp σ H O R ⟨m',a',l,q',sb'⟩=>L.ct p σ H O R ⟨m',l,a',q',sb'⟩,L.rt⟩,O,R⟩) sb
end
abbrev P2:=Int×Int
abbrev pu(p:P2):U:=.tup [.int p.1,.int p.2]
abbrev lp(l:List P2):U:=.lst (l.map pu)
theorem CO(p q:P2):eqW (pu p) (pu q)=decide (p=q):=by
 obtain⟨a,b⟩:=p;obtain⟨c,d⟩:=q;simp only[pu,eqW,eqWs,MX];rw[HK];simp
theorem t7{l:List P2}{i:Nat}{x:U}(h:(l.map pu)[i]?=some x):∃p,l[i]?=some p/\p∈l/\x=pu p:=by
 rw[EW]at h;cases q:l[i]? with
 |none=>rw[q]at h;cases h
 |some p=>rw[q]at h;cases h;exact⟨p,rfl,E9 q,rfl⟩
theorem eF{α:Type}{l:List α}{f:α->U}{g:α->U}{i:Nat}{x y:U}(hx:(l.map f)[i]?=some x)(hy:(l.map g)[i]?=some y):∃a,l[i]?=some a/\a∈l/\x=f a/\y=g a:=by
 rw[EW]at hx hy;cases q:l[i]? with
 |none=>rw[q]at hx;cases hx
 |some p=>rw[q]at hx hy;cases hx;cases hy;exact⟨p,rfl,E9 q,rfl,rfl⟩
theorem W1.mono{X:Cx}{H0:Hp}{O0:List E1}{E:XK}{s:Hr}{D:PD}{J:PSt->Prop}{ps:PSt}(h:W1 X H0 O0 E s {D with nx:=J } ps)(m:∀ps,J ps->D.nx ps):W1 X H0 O0 E s D ps:=
 PS.mono h λD' σ H ⟨L,O,R⟩=>⟨⟨λp σ H O R q=>L.nx p σ H O R (m p q),L.bk,L.ct,L.rt⟩,O,R⟩
theorem kE{X:Cx}{H0:Hp}{O0:List E1}{E:XK}{s:Hr}{ss:List Hr}{D:PD}{ps:PSt}(J:PSt->Prop)(h1:W1 X H0 O0 E s {D with nx:=J } ps)(h2:∀ps,J ps->Ws X H0 O0 E ss D ps):Ws X H0 O0 E (s::ss) D ps:=
 af (W1.mono (J:=J) (D:={D with nx:=λp=>Ws X H0 O0 E ss D p }) h1 h2)
end L2
namespace PySem.W
open PySem PySem.Spec PySem.Calls PyProof.Rows
end PySem.W
namespace L2
open PySem PySem.Spec PySem.W PyProof.Rows
section
variable {X:Cx}{pins:List (E1×Obj)}{σ:St}{H:Hp}{s:ER}
def m7.drop(D:m7)(i:Nat):m7:=⟨λσ H=>D.nx (σ.set i none) H,D.rt,λσ H=>D.bk (σ.set i none) H,λσ H=>D.ct (σ.set i none) H⟩
variable {H0:Hp}{O0:List E1}{E:XK}{ps:PSt}{D:PD}{a e:Expr}{es:List Expr}{us:List U}{k:Bool}{n:Nat}{fd:Ga}{pn:List Str}{Qd:List U→Out→Prop}
def PD.drop(D:PD)(i:Nat):PD:=⟨λp=>D.nx (p.set i none),D.rt,λp=>D.bk (p.set i none),λp=>D.ct (p.set i none)⟩
variable {pos:Pos}
end
end L2
namespace L2
open PySem
theorem bq{c:Const}{j:Nat}{pos:Pos}{es:List Expr}{env:Env}:E4 (.Constant c j pos::es) env=(false,HE (.Constant c j pos) env)::E4 es env:=by rw[E4];intro e p h;cases h
theorem fG{l:List Expr}{j:Nat}{pos:Pos}{es:List Expr}{env:Env}:E4 (.Tuple l j pos::es) env=(false,HE (.Tuple l j pos) env)::E4 es env:=by rw[E4];intro e p h;cases h
theorem Cu{l:List Expr}{pos:Pos}{es:List Expr}{env:Env}:E4 (.List l pos::es) env=(false,HE (.List l pos) env)::E4 es env:=by rw[E4];intro e p h;cases h
theorem kc{o:UnaryOp}{a:Expr}{pos:Pos}{es:List Expr}{env:Env}:E4 (.UnaryOp o a pos::es) env=(false,HE (.UnaryOp o a pos) env)::E4 es env:=by rw[E4];intro e p h;cases h
theorem bK{a b:Expr}{o:OQ}{pos:Pos}{es:List Expr}{env:Env}:E4 (.BinOp a o b pos::es) env=(false,HE (.BinOp a o b pos) env)::E4 es env:=by rw[E4];intro e p h;cases h
theorem ag{x:Str}{pos:Pos}{es:List Expr}{env:Env}:E4 (.Name x pos::es) env=(false,HE (.Name x pos) env)::E4 es env:=by rw[E4];intro e p h;cases h
theorem aR{a b:Expr}{pos:Pos}{es:List Expr}{env:Env}:E4 (.Subscript a b pos::es) env=(false,HE (.Subscript a b pos) env)::E4 es env:=by rw[E4];intro e p h;cases h
theorem aN{f:Expr}{a:List Expr}{k:List Km}{pos:Pos}{es:List Expr}{env:Env}:E4 (.Call f a k pos::es) env=(false,HE (.Call f a k pos) env)::E4 es env:=by rw[E4];intro e p h;cases h
theorem cU{e:Expr}{g:List Comprehension}{sc:Ju}{pos:Pos}{es:List Expr}{env:Env}:E4 (.ListComp e g sc pos::es) env=(false,HE (.ListComp e g sc pos) env)::E4 es env:=by rw[E4];intro e p h;cases h
structure EvS(X:Cx)(H0:Hp)(O0:List E1)(ps:PSt)(es:List Expr)(us:List U):Prop where
 a:EvA X H0 O0 ps es us
section
variable {X:Cx}{H0:Hp}{O0:List E1}{ps:PSt}{e:Expr}{es:List Expr}{u:U}{us:List U}{pos:Pos}
theorem bj:EvS X H0 O0 ps [] []:=⟨ak⟩
theorem aq(ha:Ev X H0 O0 ps e u)(hr:EvS X H0 O0 ps es us)(hs:E4 (e::es) X.env=(false,HE e X.env)::E4 es X.env):EvS X H0 O0 ps (e::es) (u::us):=⟨ae ha hr.a hs⟩
theorem bw{x1}(h:EvS X H0 O0 ps es us)(hz:us.length<=sizeLine:=by first |decide | (simp only[FV,IK];decide)):Ev X H0 O0 ps (.Tuple es x1 pos) (.tup us):=DV h.a hz
theorem cT(h:EvS X H0 O0 ps es us)(hz:us.length<=sizeLine:=by first |decide | (simp only[FV,IK];decide)):EvN X H0 O0 ps (.List es pos) us:=C5 h.a hz
end
end L2
namespace ST
open PySem PySem.SetTable
def Ris(xs:Array Nat):Prop:=∀(i j x y:Nat),i<j->xs[i]?=some x->xs[j]?=some y->x<y
theorem Ris.inj{xs:Array Nat}(h:Ris xs){i j x:Nat}(h1:xs[i]?=some x)(h2:xs[j]?=some x):i=j:=by
 rcases Hk i j with z |z |z
 ·exact absurd (h i j x x z h1 h2) (FG _)
 ·exact z
 ·exact absurd (h j i x x z h2 h1) (FG _)
theorem eE{xs:Array Nat}{i:Nat}(h:i<xs.size):xs[i]?=some xs[i]:=by simp[h]
theorem sQ{xs:Array Nat}{i x:Nat}(h:xs[i]?=some x):i<xs.size:=(HQ.mp h).1
theorem mW{xs:Array Nat}(R:Ris xs)(j:Nat):∀(P1 lo hi:Nat),lo<=hi->hi<=xs.size->hi-lo<=P1->(∀(i x:Nat),i<lo->xs[i]?=some x->x<j)->(∀(i x:Nat),hi<=i->xs[i]?=some x->j<=x)->
  (∀(i x:Nat),i<below.go xs j P1 lo hi->xs[i]?=some x->x<j)/\(∀(i x:Nat),below.go xs j P1 lo hi<=i->xs[i]?=some x->j<=x)/\below.go xs j P1 lo hi<=xs.size
 |0,lo,hi,h1,h2,h3,h4,h5=>by
  have e:lo=hi:=by lia
  subst e;rw[below.go];exact⟨h4,h5,h2⟩
 |P1+1,lo,hi,h1,h2,h3,h4,h5=>by
  rw[below.go];by_cases PU:lo<hi
  ·rw[if_pos PU];have hm:(lo+hi)/2<xs.size:=by lia
   have e:xs.getD ((lo+hi)/2) j=xs[(lo+hi)/2]:=by simp[Hl,hm]
   simp only[e];split
   ·rename_i hl
    refine mW R j P1 _ hi (by lia) h2 (by lia) (λi x PY hx=>?_) h5
    rcases Fu (show i<=(lo+hi)/2 by lia) with z |z
    ·exact L8 (R i _ x _ z hx (eE hm)) hl
    ·subst z;rw[eE hm]at hx;cases hx;exact hl
   ·rename_i hl
    refine mW R j P1 lo _ (by lia) (by lia) (by lia) h4 (λi x PY hx=>?_)
    rcases Fu PY with z |z
    ·exact GJ (Kb hl) (FT (R _ i _ x z (eE hm) hx))
    ·subst z;rw[eE hm]at hx;cases hx;exact Kb hl
  ·rw[if_neg PU];have e:lo=hi:=by lia
   subst e;exact⟨h4,h5,h2⟩
theorem fA{xs:Array Nat}(R:Ris xs)(j:Nat):(∀(i x:Nat),i<below xs j->xs[i]?=some x->x<j)/\(∀(i x:Nat),below xs j<=i->xs[i]?=some x->j<=x)/\below xs j<=xs.size:=
 mW R j xs.size 0 xs.size (FX _) (EX _) (by lia) (λi x h=>absurd h (NV _)) (λi x h e=>absurd (sQ e) (by lia))
theorem wJ{xs:Array Nat}(R:Ris xs){i j:Nat}(h:xs[i]?=some j):below xs j=i:=by
 obtain⟨h1,h2,h3⟩:=fA R j;rcases Hk (below xs j) i with z |z |z
 ·have hk:below xs j<xs.size:=L8 z (sQ h);have:=h2 _ _ (EX _) (eE hk);have:=R _ _ _ _ z (eE hk) h;lia
 ·exact z
 ·have:=h1 i j z h;lia
theorem lx{t:SetTable}(R:Ris t.place){i j:Nat}(h:t.place[i]?=some j):t.slot j=.live i:=by
 unfold SetTable.slot;simp only[wJ R h,h,beq_self_eq_true,if_true]
theorem uv{t:SetTable}(hd:t.dummies=#[]){j:Nat}(h:∀i:Nat,t.place[i]?≠some j):t.slot j=.empty:=by
 unfold SetTable.slot;have e:(t.place[below t.place j]?==some j)=false:=by simpa using h _
 simp only[e,hd];simp[SetTable.has]
theorem rF{t:SetTable}(R:Ris t.place)(hd:t.dummies=#[])(j:Nat):(t.slot j=.empty/\∀i:Nat,t.place[i]?≠some j)\/∃i:Nat,t.slot j=.live i/\t.place[i]?=some j:=by
 by_cases h:∃i:Nat,t.place[i]?=some j
 ·obtain⟨i,hi⟩:=h;exact .inr ⟨i,lx R hi,hi⟩
 ·exact .inl ⟨uv hd λi e=>h ⟨i,e⟩,λi e=>h ⟨i,e⟩⟩
theorem uV{xs:Array Nat}(R:Ris xs){mask:Nat}(hn:xs.size<=mask):∃s,s<=mask/\∀i:Nat,xs[i]?≠some s:=by
 apply FD;intro QQ
 have all:∀s,s<=mask->∃i:Nat,xs[i]?=some s:=λs hs=>by
  apply FD;intro h;exact QQ ⟨s,hs,λi e=>h ⟨i,e⟩⟩
 have key:∀s,s<=mask->∃i:Nat,xs[i]?=some s/\s<=i:=by
  intro s
  induction s with
  |zero=>intro h;obtain⟨i,hi⟩:=all 0 h;exact⟨i,hi,FX _⟩
  |succ s ih=>
   intro h;obtain⟨i,hi,Ss⟩:=ih (by lia)
   obtain⟨k,hk⟩:=all (s+1) h;refine⟨k,hk,?_⟩;rcases Hk i k with z |z |z
   ·lia
   ·subst z;rw[hi]at hk;cases hk
   ·have:=R k i _ _ z hk hi;lia
 obtain⟨i,hi,Ss⟩:=key mask (EX _);have:=sQ hi;lia
def adv(mask:Nat)(p:Probe):Probe:=
 if p.more >0 then {p with j:=p.j+1,more:=p.more-1 } else
 {p with j:=(leap mask p.i p.perturb).1,more:=runEnd mask (leap mask p.i p.perturb).1-(leap mask p.i p.perturb).1,i:=(leap mask p.i p.perturb).1,perturb:=(leap mask p.i p.perturb).2 }
theorem kC(t:SetTable)(p:Probe):t.advance p=adv t.mask p:=by
 unfold SetTable.advance adv;split
 ·rfl
 ·rfl
def start(mask:Nat)(h:Int):Probe:={j:=bits h%(mask+1),more:=runEnd mask (bits h%(mask+1))-bits h%(mask+1),i:=bits h%(mask+1),perturb:=bits h,dummy:=none }
def pth(mask:Nat)(h:Int):Nat->Probe
 |0=>start mask h
 |n+1=>adv mask (pth mask h n)
def aX(mask:Nat)(h:Int):Nat->Nat×Nat
 |0=>(bits h%(mask+1),bits h)
 |r+1=>leap mask (aX mask h r).1 (aX mask h r).2
theorem jy{mask:Nat}:∀(m:Nat) (p:Probe) (f:Nat->Probe),f 0=p->(∀n,f (n+1)=adv mask (f n))->m<=p.more->f m={p with j:=p.j+m,more:=p.more-m }
 |0,p,f,h0,_,_=>by rw[h0];rfl
 |m+1,p,f,h0,hs,hm=>by
  rw[hs m,jy m p f h0 hs (by lia)]
  unfold adv;rw[if_pos (by show p.more-m >0;lia)]
  simp only[Probe.mk.injEq];exact⟨by lia,by lia,trivial,trivial,trivial⟩
theorem j8(mask:Nat)(h:Int):∀n,(pth mask h n).dummy=none
 |0=>rfl
 |n+1=>by
  rw[pth];unfold adv;split
  ·exact j8 mask h n
  ·exact j8 mask h n
theorem ur(mask i:Nat):runEnd mask i-i<=9:=by unfold runEnd;split <;>lia
theorem t6(mask:Nat)(h:Int):∀r,∃n,n<=10*r/\pth mask h n={j:=(aX mask h r).1,more:=runEnd mask (aX mask h r).1-(aX mask h r).1,i:=(aX mask h r).1,perturb:=(aX mask h r).2,dummy:=none }
 |0=>⟨0,EX _,rfl⟩
 |r+1=>by
  obtain⟨n,hn,e⟩:=t6 mask h r;have hL:=ur mask (aX mask h r).1;have step:=jy (mask:=mask) (runEnd mask (aX mask h r).1-(aX mask h r).1) (pth mask h n) (λm=>pth mask h (n+m)) rfl (λm=>rfl) (by rw[e];exact EX _)
  refine⟨n+(runEnd mask (aX mask h r).1-(aX mask h r).1)+1,by lia,?_⟩
  rw[pth];have Rf:pth mask h (n+(runEnd mask (aX mask h r).1-(aX mask h r).1))=_:=step;rw[Rf,e];unfold adv;rw[if_neg (by simp)]
  rfl
theorem Ak(h:Int):bits h<2 ^ 64:=by
 unfold bits;have h1:=Im h (show (2 ^ 64:Int)≠0 by decide)
 have h2:=Hx h (show (0:Int)<2 ^ 64 by decide)
 lia
theorem ly(mask:Nat)(h:Int):∀r,(aX mask h r).2=bits h/32 ^ r
 |0=>by simp[aX]
 |r+1=>by
  rw[aX];show (aX mask h r).2/32=_;rw[ly mask h r,LU,HD]
theorem vx(mask:Nat)(h:Int)(r:Nat)(hr:12<=r):(aX mask h r).2/32=0:=by
 rw[ly];have h1:=Ak h;rw[LU];apply Nat.div_eq_of_lt;have:32 ^ 12*32<=32 ^ r*32:=Mx _ (Je (by decide) hr)
 exact Fx (Fx h1 (by decide)) this
def cK:Nat->Nat
 |0=>1
 |k+1=>cK k*(4*cK k+2)
theorem w_:∀k,∃m,cK k=2 ^ k*(2*m+1)
 |0=>⟨0,by simp[cK]⟩
 |k+1=>by
  obtain⟨m,e⟩:=w_ k;refine⟨2*(cK k) *m+m+cK k,?_⟩;rw[cK,HD];have:cK k*(4*cK k+2)=2 ^ k*(2*m+1) *(4*cK k+2):=by rw[<-e]
  rw[this];generalize cK k=c;generalize 2 ^ k=p;grind
def gD:Nat->Nat->Nat
 |0,x=>x
 |n+1,x=>5*gD n x+1
theorem kh(m x:Nat):∀n,gD (m+n) x=gD n (gD m x)
 |0=>rfl
 |n+1=>by rw[<-Nat.add_assoc,gD,kh m x n,gD]
theorem kD:∀(k x:Nat),gD (2 ^ k) x=(1+4*cK k) *x+cK k
 |0,x=>by simp[gD,cK]
 |k+1,x=>by
  rw[HD,Nat.mul_two,kh,kD k,kD k,cK];generalize cK k=c;grind
theorem qY(k x:Nat):gD (2 ^ k) x%2 ^ (k+1)=(x+2 ^ k)%2 ^ (k+1):=by
 rw[kD];obtain⟨m,e⟩:=w_ k;rw[e]
 have:(1+4*(2 ^ k*(2*m+1))) *x+2 ^ k*(2*m+1)=(x+2 ^ k)+2 ^ (k+1) *(2*(2*m+1) *x+m):=by
  rw[HD];generalize 2 ^ k=p;grind
 rw[this,Nat.add_mul_mod_self_left]
theorem gX(x:Nat):∀(k y:Nat),∃n,n<2 ^ k/\gD n x%2 ^ k=y%2 ^ k
 |0,y=>⟨0,by simp,by simp[Nat.mod_one]⟩
 |k+1,y=>by
  obtain⟨n,hn,e⟩:=gX x k y;have hp:2 ^ (k+1)=2 ^ k+2 ^ k:=by rw[HD];lia
  have h2:0<2 ^ k:=Pn (by decide)
  by_cases h:gD n x%2 ^ (k+1)=y%2 ^ (k+1)
  ·exact⟨n,by lia,h⟩
  ·refine⟨n+2 ^ k,by lia,?_⟩
   rw[kh,qY];generalize gD n x=z at *;have d1:z%2 ^ (k+1)%2 ^ k=z%2 ^ k:=MY _ ⟨2,by rw[HD]⟩
   have d2:y%2 ^ (k+1)%2 ^ k=y%2 ^ k:=MY _ ⟨2,by rw[HD]⟩
   have l1:=HF z (show 0<2 ^ (k+1) by lia)
   have l2:=HF y (show 0<2 ^ (k+1) by lia)
   rw[<-L9];rw[<-d1,<-d2]at e;generalize z%2 ^ (k+1)=a at *;generalize y%2 ^ (k+1)=b at *;rw[hp]at *;generalize 2 ^ k=p at *
   have ea:a%p=if a<p then a else a-p:=by
    split
    ·exact FW (by assumption)
    ·rw[KD (by lia),FW (by lia)]
   have eb:b%p=if b<p then b else b-p:=by
    split
    ·exact FW (by assumption)
    ·rw[KD (by lia),FW (by lia)]
   rw[ea,eb]at e;by_cases ha:a<p
   ·rw[if_pos ha]at e;rw[FW (by lia)]
    split at e <;>lia
   ·rw[if_neg ha]at e;rw[KD (by lia),FW (by lia)]
    split at e <;>lia
theorem ka{mask k:Nat}(hk:mask+1=2 ^ k)(h:Int):∀q,(aX mask h (12+q)).1=gD q (aX mask h 12).1%2 ^ k
 |0=>by
  rw[gD]
  have:(aX mask h 12).1<2 ^ k:=by
   rw[<-hk];show (leap mask (aX mask h 11).1 (aX mask h 11).2).1<_;exact HF _ (by lia)
  exact (FW this).symm
 |q+1=>by
  show (leap mask (aX mask h (12+q)).1 (aX mask h (12+q)).2).1=_;unfold leap;simp only[vx mask h (12+q) (by lia)]
  rw[ka hk h q,hk,gD,Pa,Nat.mul_comm 5 _];generalize gD q (aX mask h 12).1=z;generalize 2 ^ k=m;rw[Po,Nat.mod_mul_mod,<-Po]
theorem cover{mask k:Nat}(hk:mask+1=2 ^ k)(h:Int)(s:Nat)(hs:s<=mask):∃n,n<10*turns mask/\(pth mask h n).j=s:=by
 obtain⟨q,hq,e⟩:=gX (aX mask h 12).1 k s;obtain⟨n,hn,en⟩:=t6 mask h (12+q);refine⟨n,?_,?_⟩
 ·unfold turns;lia
 ·rw[en];show (aX mask h (12+q)).1=s;rw[ka hk h q,e];exact FW (by lia)
def Liv(t:SetTable)(j:Nat):Prop:=∃i:Nat,t.place[i]?=some j
structure TOk(t:SetTable)(hs:List Int):Prop where
 R:Ris t.place
 d:t.dummies=#[]
 k:∃k,3<=k/\t.mask+1=2 ^ k
 n:t.place.size=hs.length
 f:t.place.size<=t.mask
 le:∀(i x:Nat),t.place[i]?=some x->x<=t.mask
 reach:∀(i j:Nat) (h:Int),t.place[i]?=some j->hs[i]?=some h->∃m,(pth t.mask h m).j=j/\∀m',m'<m->Liv t (pth t.mask h m').j
theorem least{P:Nat->Prop}:∀n,P n->∃m,m<=n/\P m/\∀k,k<m->¬ P k:=by
 intro n
 induction n using Nat.strongRecOn with
 |_ n ih=>
  intro h;by_cases hk:∃k,k<n/\P k
  ·obtain⟨k,hk,hp⟩:=hk;obtain⟨m,h1,h2,h3⟩:=ih k hk hp;exact⟨m,by lia,h2,h3⟩
  ·exact⟨n,EX _,h,λk SU hp=>hk ⟨k,SU,hp⟩⟩
theorem qS{t:SetTable}{hs:List Int}(T:TOk t hs)(h:Int):∃N,N<10*turns t.mask/\¬ Liv t (pth t.mask h N).j/\∀m,m<N->Liv t (pth t.mask h m).j:=by
 obtain⟨s,Rl,Qq⟩:=uV T.R T.f;obtain⟨k,_,hk⟩:=T.k;obtain⟨n,hn,e⟩:=cover hk h s Rl;obtain⟨m,h1,h2,h3⟩:=least (P:=λn=>¬ Liv t (pth t.mask h n).j) n (by show ¬ Liv t (pth t.mask h n).j;rw[e];rintro ⟨i,hi⟩;exact Qq i hi)
 exact⟨m,by lia,h2,λk SU=>FD λz=>h3 k SU z⟩
theorem ox{t:SetTable}{hs:List Int}(T:TOk t hs)(hashAt:Nat->Int)(h:Int){N:Nat}(h0:¬ Liv t (pth t.mask h N).j)(h1:∀m,m<N->Liv t (pth t.mask h m).j):∀(P1 n:Nat),n<=N->N-n<P1->
  (probe.go t hashAt h P1 (pth t.mask h n)=some (.empty (pth t.mask h N).j none)/\∀(m i:Nat),n<=m->m<N->t.place[i]?=some (pth t.mask h m).j->hashAt i≠h)\/
  ∃m i:Nat,n<=m/\m<N/\t.place[i]?=some (pth t.mask h m).j/\hashAt i=h/\probe.go t hashAt h P1 (pth t.mask h n)=some (.candidate (pth t.mask h m).j i (pth t.mask h (m+1)))/\
   ∀(m' i':Nat),n<=m'->m'<m->t.place[i']?=some (pth t.mask h m').j->hashAt i'≠h
 |0,n,_,hf=>by lia
 |P1+1,n,hn,hf=>by
  rw[probe.go];rcases rF T.R T.d (pth t.mask h n).j with ⟨e,QQ⟩ |⟨i,e,hi⟩
  ·have hN:n=N:=by
    rcases Fu hn with z |z
    ·obtain⟨i,hi⟩:=h1 n z;exact absurd hi (QQ i)
    ·exact z
   subst hN;refine .inl ⟨by simp only[e,j8],λm i z1 z2=>by lia⟩
  ·have hN:n<N:=by
    rcases Fu hn with z |z
    ·exact z
    ·subst z;exact absurd ⟨i,hi⟩ h0
   simp only[e];by_cases hh:hashAt i=h
   ·refine .inr ⟨n,i,EX _,hN,hi,hh,?_,λm' i' z1 z2=>by lia⟩
    simp only[hh,beq_self_eq_true,if_true,kC];rfl
   ·have hb:(hashAt i==h)=false:=by simpa using hh
    simp only[hb,Fb,if_false,kC];have ih:=ox T hashAt h h0 h1 P1 (n+1) (by lia) (by lia)
    rcases ih with ⟨q1,q2⟩ |⟨m,i2,q1,q2,q3,q4,q5,q6⟩
    ·refine .inl ⟨q1,λm i' z1 z2 z3=>?_⟩
     rcases Fu z1 with z |z
     ·exact q2 m i' z z2 z3
     ·subst z;rw[T.R.inj z3 hi];exact hh
    ·refine .inr ⟨m,i2,by lia,q2,q3,q4,q5,λm' i' z1 z2 z3=>?_⟩
     rcases Fu z1 with z |z
     ·exact q6 m' i' z z2 z3
     ·subst z;rw[T.R.inj z3 hi];exact hh
theorem yg{t:SetTable}{hs:List Int}(T:TOk t hs){h:Int}{N i:Nat}(h0:¬ Liv t (pth t.mask h N).j)(hi:hs[i]?=some h):∃(m j:Nat),m<N/\t.place[i]?=some j/\(pth t.mask h m).j=j:=by
 have PU:i<t.place.size:=by rw[T.n];exact (E6.mp hi).1
 obtain⟨m,e,hm⟩:=T.reach i _ h (eE PU) hi;refine⟨m,_,?_,eE PU,e⟩;rcases Hk m N with z |z |z
 ·exact z
 ·subst z;exact absurd ⟨i,by rw[e];exact eE PU⟩ h0
 ·exact absurd (hm N z) h0
theorem eL{α:Type}(xs:Array α)(p:Nat)(x:α):(insertAt xs p x).toList=xs.toList.take p++x::xs.toList.drop p:=by
 unfold insertAt;simp[Array.toList_extract];exact LV (by simp)
theorem cg{α:Type}{xs:Array α}{p:Nat}{x:α}(hp:p<=xs.size)(i:Nat):(insertAt xs p x)[i]?=if i<p then xs[i]? else if i=p then some x else xs[i-1]?:=by
 rw[<-FU,eL];have hl:(xs.toList.take p).length=p:=by simp;lia
 by_cases h1:i<p
 ·rw[if_pos h1,Fh (by lia),GW h1,FU]
 ·rw[if_neg h1,Fj (by lia),hl]
  by_cases h2:i=p
  ·subst h2;simp
  ·rw[if_neg h2];obtain⟨q,hq⟩:∃q,i-p=q+1:=⟨i-p-1,by lia⟩
   rw[hq,HA,HW,FU];congr 1;lia
theorem gJ{α:Type}(xs:Array α)(p:Nat)(x:α)(hp:p<=xs.size):(insertAt xs p x).size=xs.size+1:=by
 rw[<-E_,eL];simp;lia
def gE{α:Type}(xs:List α)(p:Nat)(x:α):List α:=xs.take p++x::xs.drop p
theorem yM{α:Type}{xs:List α}{p:Nat}{x:α}(hp:p<=xs.length)(i:Nat):(gE xs p x)[i]?=if i<p then xs[i]? else if i=p then some x else xs[i-1]?:=by
 unfold gE;have hl:(xs.take p).length=p:=by simp;lia
 by_cases h1:i<p
 ·rw[if_pos h1,Fh (by lia),GW h1]
 ·rw[if_neg h1,Fj (by lia),hl]
  by_cases h2:i=p
  ·subst h2;simp
  ·rw[if_neg h2];obtain⟨q,hq⟩:∃q,i-p=q+1:=⟨i-p-1,by lia⟩
   rw[hq,HA,HW];congr 1;lia
theorem AG{xs:Array Nat}(R:Ris xs){j:Nat}(QQ:∀i:Nat,xs[i]?≠some j):Ris (insertAt xs (below xs j) j):=by
 obtain⟨h1,h2,h3⟩:=fA R j
 have gt:∀(i x:Nat),below xs j<=i->xs[i]?=some x->j<x:=λi x hi hx=>by
  rcases Fu (h2 i x hi hx) with z |z
  ·exact z
  ·subst z;exact absurd hx (QQ i)
 intro a b x y Qy hx hy;rw[cg h3]at hx hy;by_cases a1:a<below xs j
 ·rw[if_pos a1]at hx;by_cases b1:b<below xs j
  ·rw[if_pos b1]at hy;exact R a b x y Qy hx hy
  ·rw[if_neg b1]at hy;by_cases b2:b=below xs j
   ·rw[if_pos b2]at hy;cases hy;exact h1 a x a1 hx
   ·rw[if_neg b2]at hy;exact R a (b-1) x y (by lia) hx hy
 ·rw[if_neg a1]at hx;have b1:¬ b<below xs j:=by lia
  rw[if_neg b1]at hy;have b2:¬ b=below xs j:=by lia
  rw[if_neg b2]at hy;by_cases a2:a=below xs j
  ·rw[if_pos a2]at hx;cases hx;exact gt (b-1) y (by lia) hy
  ·rw[if_neg a2]at hx;exact R (a-1) (b-1) x y (by lia) hx hy
theorem rO{xs:Array Nat}{p j:Nat}(hp:p<=xs.size)(s:Nat):(∃i:Nat,(insertAt xs p j)[i]?=some s)↔s=j\/∃i:Nat,xs[i]?=some s:=by
 constructor
 ·rintro ⟨i,hi⟩;rw[cg hp]at hi;split at hi
  ·exact .inr ⟨i,hi⟩
  ·split at hi
   ·cases hi;exact .inl rfl
   ·exact .inr ⟨i-1,hi⟩
 ·rintro (rfl |⟨i,hi⟩)
  ·exact⟨p,by rw[cg hp,if_neg (FG _),if_pos rfl]⟩
  ·by_cases h:i<p
   ·exact⟨i,by rw[cg hp,if_pos h];exact hi⟩
   ·exact⟨i+1,by rw[cg hp,if_neg (by lia),if_neg (by lia)];simpa using hi⟩
theorem TOk.put{t:SetTable}{hs:List Int}(T:TOk t hs){h:Int}{N:Nat}(h0:¬ Liv t (pth t.mask h N).j)(h1:∀m,m<N->Liv t (pth t.mask h m).j)(Ss:(pth t.mask h N).j<=t.mask)(hf:t.place.size+1<=t.mask):
  TOk (t.put (pth t.mask h N).j).1 (gE hs (t.put (pth t.mask h N).j).2 h):=by
 have QQ:∀i:Nat,t.place[i]?≠some (pth t.mask h N).j:=λi e=>h0 ⟨i,e⟩
 obtain⟨_,_,hb⟩:=fA T.R (pth t.mask h N).j;have hbl:below t.place (pth t.mask h N).j<=hs.length:=by rw[<-T.n];exact hb
 have ed:(if SetTable.has t.dummies (pth t.mask h N).j then eraseAt t.dummies (below t.dummies (pth t.mask h N).j) else t.dummies)=#[]:=by
  rw[T.d];simp[SetTable.has]
 unfold SetTable.put;simp only[ed];refine⟨AG T.R QQ,rfl,T.k,?_,?_,λi x e=>?_,λi j hh e1 e2=>?_⟩
 ·show (insertAt _ _ _).size=(gE hs _ h).length;rw[gJ _ _ _ hb,T.n];unfold gE;simp;lia
 ·show (insertAt _ _ _).size<=t.mask;rw[gJ _ _ _ hb];exact hf
 ·rcases (rO hb x).mp ⟨i,e⟩ with z |⟨q,hq⟩
  ·rw[z];exact Ss
  ·exact T.le q x hq
 ·have liv:∀s,Liv t s->Liv {t with place:=insertAt t.place (below t.place (pth t.mask h N).j) (pth t.mask h N).j,dummies:=#[] } s:=λs z=>(rO hb s).mpr (.inr z)
  change (insertAt t.place _ _)[i]?=some j at e1
  rw[cg hb]at e1;rw[yM hbl]at e2;split at e1
  ·rename_i z
   rw[if_pos z]at e2;obtain⟨m,q1,q2⟩:=T.reach i j hh e1 e2;exact⟨m,q1,λm' hm=>liv _ (q2 m' hm)⟩
  ·rename_i z
   rw[if_neg z]at e2;split at e1
   ·rename_i z2
    rw[if_pos z2]at e2;cases e1;cases e2;exact⟨N,rfl,λm' hm=>liv _ (h1 m' hm)⟩
   ·rename_i z2
    rw[if_neg z2]at e2;obtain⟨m,q1,q2⟩:=T.reach (i-1) j hh e1 e2;exact⟨m,q1,λm' hm=>liv _ (q2 m' hm)⟩
theorem wj{mask:Nat}(h:Int):∀n,(pth mask h n).j+(pth mask h n).more<=mask
 |0=>by
  show bits h%(mask+1)+(runEnd mask (bits h%(mask+1))-bits h%(mask+1))<=mask;have:=HF (bits h) (show 0<mask+1 by lia)
  unfold runEnd;split <;>lia
 |n+1=>by
  have ih:=wj (mask:=mask) h n;rw[pth];unfold adv;split
  ·simp only;lia
  ·show (leap mask _ _).1+(runEnd mask (leap mask _ _).1-(leap mask _ _).1)<=mask;have:(leap mask (pth mask h n).i (pth mask h n).perturb).1<mask+1:=HF _ (by lia)
   unfold runEnd;split <;>lia
def OL(owner:Array (Option Nat))(j:Nat):Prop:=∃k:Nat,owner[j]?=some (some k)
def nr(mask:Nat)(h:Int):Nat->Nat
 |0=>0
 |r+1=>nr mask h r+(runEnd mask (aX mask h r).1-(aX mask h r).1)+1
theorem A0(mask:Nat)(h:Int):∀r,pth mask h (nr mask h r)={j:=(aX mask h r).1,more:=runEnd mask (aX mask h r).1-(aX mask h r).1,i:=(aX mask h r).1,perturb:=(aX mask h r).2,dummy:=none }
 |0=>rfl
 |r+1=>by
  have e:=A0 mask h r;have step:=jy (mask:=mask) (runEnd mask (aX mask h r).1-(aX mask h r).1) (pth mask h (nr mask h r)) (λm=>pth mask h (nr mask h r+m)) rfl (λm=>rfl) (by rw[e];exact EX _)
  have Rf:pth mask h (nr mask h r+(runEnd mask (aX mask h r).1-(aX mask h r).1))=_:=step;rw[nr,pth,Rf,e];unfold adv;rw[if_neg (by simp)]
  rfl
theorem qr(mask:Nat)(h:Int)(r k:Nat)(hk:k<=runEnd mask (aX mask h r).1-(aX mask h r).1):(pth mask h (nr mask h r+k)).j=(aX mask h r).1+k:=by
 have e:=A0 mask h r;have step:=jy (mask:=mask) k (pth mask h (nr mask h r)) (λm=>pth mask h (nr mask h r+m)) rfl (λm=>rfl) (by rw[e];exact hk)
 have Rf:pth mask h (nr mask h r+k)=_:=step;rw[Rf,e]
theorem vq(mask i:Nat):i<=runEnd mask i:=by unfold runEnd;split <;>lia
theorem zj(mask:Nat)(h:Int):∀r,(aX mask h r).1<=mask
 |0=>GZ (HF _ (by lia))
 |r+1=>GZ (HF _ (by lia))
theorem o0{mask i:Nat}(h:i<=mask):runEnd mask i<=mask:=by unfold runEnd;split <;>lia
theorem tH{mask:Nat}{owner:Array (Option Nat)}(Qr:owner.size=mask+1)(h:Int):∀(P1 r:Nat),(∃r',r<=r'/\r'<r+P1/\owner[(aX mask h r').1]?=some none)->(∀m,m<nr mask h r->OL owner (pth mask h m).j)->
  ∃N,layClean.free mask owner P1 (aX mask h r).1 (aX mask h r).2=some (pth mask h N).j/\owner[(pth mask h N).j]?=some none/\∀m,m<N->OL owner (pth mask h m).j
 |0,r,⟨r',h1,h2,_⟩,_=>by lia
 |P1+1,r,hex,hl=>by
  rw[layClean.free];have hge:=vq mask (aX mask h r).1;have hmk:=o0 (zj mask h r);have Su:∀k,k<runEnd mask (aX mask h r).1+1-(aX mask h r).1->(aX mask h r).1+k<owner.size:=λk hk=>by lia
  cases hf:(F3 (runEnd mask (aX mask h r).1+1-(aX mask h r).1)).find? λk=>(owner.getD ((aX mask h r).1+k) (some 0)).isNone with
  |some k=>
   obtain⟨p1,p2,p3⟩:=List.find?_range_eq_some.mp hf;have hk:=Fo.mp p2;have PU:=Su k hk
   have e1:owner[(aX mask h r).1+k]?=some none:=by
    have:owner.getD ((aX mask h r).1+k) (some 0)=owner[(aX mask h r).1+k]:=by simp[Hl,PU]
    rw[this]at p1;have:owner[(aX mask h r).1+k]=none:=by simpa using p1
    simp[PU,this]
   have ej:=qr mask h r k (by lia)
   refine⟨nr mask h r+k,by simp only[ej],by rw[ej];exact e1,λm hm=>?_⟩
   by_cases hm1:m<nr mask h r
   ·exact hl m hm1
   ·obtain⟨q,rfl⟩:∃q,m=nr mask h r+q:=⟨m-nr mask h r,by lia⟩
    have hq:=p3 q (by lia)
    have Rg:=Su q (by lia)
    rw[qr mask h r q (by lia)]
    have:owner.getD ((aX mask h r).1+q) (some 0)=owner[(aX mask h r).1+q]:=by simp[Hl,Rg]
    rw[this]at hq;cases hv:owner[(aX mask h r).1+q] with
    |none=>rw[hv]at hq;simp at hq
    |some v=>exact⟨v,by simp[Rg,hv]⟩
  |none=>
   have Qn:∀q,q<runEnd mask (aX mask h r).1+1-(aX mask h r).1->OL owner ((aX mask h r).1+q):=λq hq=>by
    have:=List.find?_eq_none.mp hf q (Fo.mpr hq);have Rg:=Su q hq;have e:owner.getD ((aX mask h r).1+q) (some 0)=owner[(aX mask h r).1+q]:=by simp[Hl,Rg]
    rw[e]at this;cases hv:owner[(aX mask h r).1+q] with
    |none=>rw[hv]at this;simp at this
    |some v=>exact⟨v,by simp[Rg,hv]⟩
   have next:=tH Qr h P1 (r+1) (by
    obtain⟨r',h1,h2,h3⟩:=hex;refine⟨r',?_,by lia,h3⟩
    rcases Fu h1 with z |z
    ·exact z
    ·subst z;obtain⟨v,hv⟩:=Qn 0 (by lia)
     rw[Pa,h3]at hv;cases hv) (λm hm=>by
    by_cases hm1:m<nr mask h r
    ·exact hl m hm1
    ·obtain⟨q,rfl⟩:∃q,m=nr mask h r+q:=⟨m-nr mask h r,by lia⟩
     have hm2:nr mask h r+q<nr mask h r+(runEnd mask (aX mask h r).1-(aX mask h r).1)+1:=hm;rw[qr mask h r q (by lia)]
     exact Qn q (by lia))
   exact next
structure OI(mask:Nat)(owner:Array (Option Nat))(hs:List Int):Prop where
 sz:owner.size=mask+1
 lt:∀(j k:Nat),owner[j]?=some (some k)->k<hs.length
 inj:∀(i j k:Nat),owner[i]?=some (some k)->owner[j]?=some (some k)->i=j
 all:∀k:Nat,k<hs.length->∃j:Nat,owner[j]?=some (some k)
 reach:∀(j k:Nat) (h:Int),owner[j]?=some (some k)->hs[k]?=some h->∃m,(pth mask h m).j=j/\∀m',m'<m->OL owner (pth mask h m').j
theorem OI.free{mask:Nat}{owner:Array (Option Nat)}{hs:List Int}(O:OI mask owner hs)(hn:hs.length<=mask):∃s,s<=mask/\owner[s]?=some none:=by
 apply FD;intro QQ
 have RR:∀s,s<=mask->OL owner s:=λs QS=>by
  have PU:s<owner.size:=by rw[O.sz];lia
  cases e:owner[s] with
  |none=>exact absurd ⟨s,QS,by simp[PU,e]⟩ QQ
  |some k=>exact⟨k,by simp[PU,e]⟩
 have nd:((F3 (mask+1)).map λs=>(owner.getD s none).getD 0).Nodup:=by
  rw[Kx,FO];refine Jq ?_ (LW (n:=mask+1));intro a b ha hb Qy e;obtain⟨k1,h1⟩:=RR a (by have:=Fo.mp ha;lia)
  obtain⟨k2,h2⟩:=RR b (by have:=Fo.mp hb;lia)
  have e1:(owner.getD a none).getD 0=k1:=by simp[GD,h1]
  have e2:(owner.getD b none).getD 0=k2:=by simp[GD,h2]
  rw[e1,e2]at e;subst e;have:=O.inj a b k1 h1 h2;lia
 have sub:((F3 (mask+1)).map λs=>(owner.getD s none).getD 0) ⊆ F3 hs.length:=by
  intro x hx;obtain⟨s,Rl,rfl⟩:=EV.mp hx;obtain⟨k1,h1⟩:=RR s (by have:=Fo.mp Rl;lia)
  have e1:(owner.getD s none).getD 0=k1:=by simp[GD,h1]
  rw[e1];exact Fo.mpr (O.lt s k1 h1)
 have:=Nu nd sub;simp at this;lia
theorem OI.step{mask k:Nat}(hk:mask+1=2 ^ k){owner:Array (Option Nat)}{hs:List Int}(O:OI mask owner hs)(hn:hs.length<=mask)(h:Int):
  ∃j,layClean.free mask owner (turns mask) (bits h%(mask+1)) (bits h)=some j/\OI mask (owner.setIfInBounds j (some hs.length)) (hs++[h]):=by
 obtain⟨s,Rl,Qq⟩:=O.free hn;obtain⟨q,hq,e⟩:=gX (aX mask h 12).1 k s;have er:(aX mask h (12+q)).1=s:=by rw[ka hk h q,e];exact FW (by lia)
 obtain⟨N,f1,f2,f3⟩:=tH O.sz h (turns mask) 0 ⟨12+q,FX _,by unfold turns;lia,by rw[er];exact Qq⟩ (λm hm=>absurd hm (NV _))
 refine⟨_,f1,?_⟩;generalize hj:(pth mask h N).j=j at *;have hjs:j<owner.size:=(HQ.mp f2).1
 have get:∀i:Nat,(owner.setIfInBounds j (some hs.length))[i]?=if j=i then some (some hs.length) else owner[i]?:=λi=>by
  rw[Array.getElem?_setIfInBounds];split
  ·rename_i z;subst z;simp[hjs]
  ·rfl
 have liv:∀i,OL owner i->OL (owner.setIfInBounds j (some hs.length)) i:=λi ⟨v,hv⟩=>by
  refine⟨v,?_⟩;rw[get,if_neg (λz=>by subst z;rw[f2]at hv;cases hv)]
  exact hv
 refine⟨by simp[O.sz],λi v e=>?_,λa b v e1 e2=>?_,λv hv=>?_,λi v hh e1 e2=>?_⟩
 ·rw[get]at e;split at e
  ·cases e;simp
  ·have:=O.lt i v e;simp;lia
 ·rw[get]at e1 e2;split at e1 <;>split at e2
  ·lia
  ·cases e1;exact absurd (O.lt b _ e2) (FG _)
  ·cases e2;exact absurd (O.lt a _ e1) (FG _)
  ·exact O.inj a b v e1 e2
 ·simp at hv;rcases Fu (GZ hv) with z |z
  ·obtain⟨i,hi⟩:=O.all v z;refine⟨i,?_⟩;rw[get,if_neg (λy=>by subst y;rw[f2]at hi;cases hi)]
   exact hi
  ·subst z;exact⟨j,by rw[get,if_pos rfl]⟩
 ·rw[get]at e1;split at e1
  ·rename_i z
   cases e1;rw[Fj (EX _)]at e2;simp at e2;subst e2;exact⟨N,by rw[hj];exact z,λm hm=>liv _ (f3 m hm)⟩
  ·have hv:=O.lt i v e1;rw[Fh hv]at e2;obtain⟨m,q1,q2⟩:=O.reach i v hh e1 e2;exact⟨m,q1,λm' hm=>liv _ (q2 m' hm)⟩
theorem tG{mask k:Nat}(hk:mask+1=2 ^ k):∀(more done:List Int) (owner:Array (Option Nat)),OI mask owner done->done.length+more.length<=mask+1->∃RS,more.foldl (λacc h=>do
  let (owner,k) <-acc
  let j <-layClean.free mask owner (turns mask) (bits h%(mask+1)) (bits h)
  pure (owner.setIfInBounds j (some k),k+1)) (some (owner,done.length))=some (RS,done.length+more.length)/\OI mask RS (done++more)
 |[],done,owner,O,_=>⟨owner,by simp,by simpa using O⟩
 |h::more,done,owner,O,hl=>by
  obtain⟨j,e,O2⟩:=O.step hk (by simp at hl;lia) h
  obtain⟨ow,e2,O3⟩:=tG hk more (done++[h]) _ O2 (by simp at hl |-;lia)
  refine⟨ow,?_,by simpa using O3⟩
  rw[Hu]
  have:(do
   let (owner,k) <-some (owner,done.length)
   let j <-layClean.free mask owner (turns mask) (bits h%(mask+1)) (bits h)
   pure (owner.setIfInBounds j (some k),k+1):Option (Array (Option Nat)×Nat))=some (owner.setIfInBounds j (some done.length),done.length+1):=by
   simp[e]
  rw[this];simp only[FM,L5]at e2;rw[e2];simp;lia
theorem ou{mask k:Nat}(hk:mask+1=2 ^ k){hs:Array Int}(hl:hs.size<=mask+1):∃owner,layClean mask hs=some owner/\OI mask owner hs.toList:=by
 have O0:OI mask (Array.replicate (mask+1) none) []:=⟨by simp,λj k e=>by simp[Jr]at e,λi j k e=>by simp[Jr]at e,λk h=>by simp at h,λj k h e=>by simp[Jr]at e⟩
 obtain⟨ow,e,O⟩:=tG hk hs.toList [] _ O0 (by simpa using hl)
 refine⟨ow,?_,by simpa using O⟩
 unfold layClean;rw[<-Array.foldl_toList];simp only[IK]at e;rw[e];rfl
theorem pE(n:Nat):∀(P1 k:Nat),n<2 ^ (k+P1)->∃k',k<=k'/\sizeAbove.go n P1 (2 ^ k)=2 ^ k'/\n<2 ^ k'/\(2 ^ k'<=2*n\/k'=k)
 |0,k,h=>⟨k,EX _,rfl,by simpa using h,.inr rfl⟩
 |P1+1,k,h=>by
  rw[sizeAbove.go];by_cases Ss:2 ^ k<=n
  ·rw[if_pos Ss,<-HD];obtain⟨k',h1,h2,h3,h4⟩:=pE n P1 (k+1) (by rw[show k+1+P1=k+(P1+1) by lia];exact h)
   refine⟨k',by lia,h2,h3,.inl ?_⟩
   rcases h4 with z |z
   ·exact z
   ·subst z;rw[HD];lia
  ·rw[if_neg Ss];exact⟨k,EX _,rfl,by lia,.inr rfl⟩
theorem above(n:Nat)(h:n<2 ^ 60):∃k,3<=k/\sizeAbove n=2 ^ k/\n<2 ^ k/\2 ^ k<=2*n+8:=by
 obtain⟨k,h1,h2,h3,h4⟩:=pE n 64 3 (Fx h (Je (by decide) (by decide)))
 refine⟨k,h1,h2,h3,?_⟩;rcases h4 with z |z
 ·lia
 ·subst z;lia
def dr(mask:Nat)(owner:Array (Option Nat)):List (Nat×Nat):=(F3 (mask+1)).filterMap λj=>(owner.getD j none).map (j,·)
theorem o6(owner:Array (Option Nat)):∀l:List Nat,(l.filterMap λj=>(owner.getD j none).map (j,·)).map (·.1)=l.filter λj=>(owner.getD j none).isSome
 |[]=>rfl
 |a::l=>by
  have ih:=o6 owner l;rw[HJ,LG];cases owner.getD a none with
  |none=>simpa using ih
  |some v=>simpa using ih
theorem dX{mask:Nat}{owner:Array (Option Nat)}(Qr:owner.size=mask+1)(j k:Nat):(j,k)∈dr mask owner↔owner[j]?=some (some k):=by
 unfold dr;rw[KC];constructor
 ·rintro ⟨a,ha,e⟩;have PU:a<owner.size:=by rw[Qr];exact Fo.mp ha
  cases hv:owner.getD a none with
  |none=>rw[hv]at e;cases e
  |some v=>
   rw[hv]at e;cases e;have:owner.getD j none=owner[j]:=by simp[Hl,PU]
   rw[this]at hv;simp[PU,hv]
 ·intro e;have PU:=(HQ.mp e).1;refine⟨j,Fo.mpr (by lia),?_⟩
  rw[GD,e];rfl
theorem uy(mask:Nat)(owner:Array (Option Nat)):(dr mask owner).Pairwise λa b=>a.1<b.1:=by
 have:=(LW (n:=mask+1)).filter λj=>(owner.getD j none).isSome
 rw[<-o6 owner (F3 (mask+1)),FO]at this;exact this
theorem Cs{l:List Nat}(h:l.Pairwise (· < ·)):Ris l.toArray:=by
 intro i j x y QR hx hy;rw[IM]at hx hy;obtain⟨h1,e1⟩:=E6.mp hx;obtain⟨h2,e2⟩:=E6.mp hy;have:=FE.mp h i j h1 h2 QR;rw[e1,e2]at this;exact this
theorem zT{mask k:Nat}(h3:3<=k)(hk:mask+1=2 ^ k){hs:Array Int}(hl:hs.size<=mask)(finger moves:Nat)(led plain:Bool):
  ∃t order,laid mask finger moves led plain hs=some (t,order)/\TOk t (order.toList.map λi=>hs.getD i 0)/\order.toList.Perm (F3 hs.size)/\t.mask=mask/\t.led=led/\t.plain=plain/\t.moves=moves:=by
 obtain⟨owner,e,O⟩:=ou hk (hs:=hs) (by lia)
 have pr:=uy mask owner
 have nd:((dr mask owner).map (·.2)).Nodup:=by
  rw[Kx,FO];refine Jq ?_ pr;intro a b ha hb Qy ee;have h1:=(dX O.sz a.1 a.2).mp ha;have h2:=(dX O.sz b.1 b.2).mp hb;rw[ee]at h1;have:=O.inj a.1 b.1 b.2 h1 h2;lia
 have perm:((dr mask owner).map (·.2)).Perm (F3 hs.size):=by
  refine (HR nd LH).mpr λx=>?_
  rw[EV,Fo];constructor
  ·rintro ⟨⟨j,v⟩,hm,rfl⟩;have:=O.lt j v ((dX O.sz j v).mp hm);simpa using this
  ·intro hx;obtain⟨j,hj⟩:=O.all x (by simpa using hx)
   exact⟨(j,x),(dX O.sz j x).mpr hj,rfl⟩
 have len:(dr mask owner).length=hs.size:=by have:=perm.length_eq;simpa using this
 refine⟨_,_,by unfold laid;rw[e];rfl,⟨?_,rfl,⟨k,h3,hk⟩,?_,?_,λi x ee=>?_,λi j h e1 e2=>?_⟩,?_,rfl,rfl,rfl,rfl⟩
 ·show Ris ((dr mask owner).map (·.1)).toArray;exact Cs (by rw[FO];exact pr)
 ·show ((dr mask owner).map (·.1)).toArray.size=_;simp[dr]
 ·show ((dr mask owner).map (·.1)).toArray.size<=mask;simp[len,hl]
 ·change ((dr mask owner).map (·.1)).toArray[i]?=some x at ee
  rw[IM,EW]at ee;cases q:(dr mask owner)[i]? with
  |none=>rw[q]at ee;cases ee
  |some p=>
   rw[q]at ee;cases ee;have:=(dX O.sz p.1 p.2).mp (E9 q);have:=(HQ.mp this).1;show p.1<=mask;have hz:=O.sz;lia
 ·change ((dr mask owner).map (·.1)).toArray[i]?=some j at e1
  change (((dr mask owner).map (·.2)).toArray.toList.map λi=>hs.getD i 0)[i]?=some h at e2
  rw[IM,EW]at e1;rw[EW,EW]at e2;cases q:(dr mask owner)[i]? with
  |none=>rw[q]at e1;cases e1
  |some p=>
   rw[q]at e1 e2;cases e1;have hp:=(dX O.sz p.1 p.2).mp (E9 q);have PU:=O.lt _ _ hp
   have e3:hs.toList[p.2]?=some h:=by
    have e4:hs.getD p.2 0=h:=by simpa using e2
    have:p.2<hs.size:=by simpa using PU
    rw[<-e4];simp[Hl,this]
   obtain⟨m,q1,q2⟩:=O.reach _ _ h hp e3;refine⟨m,q1,λm' hm=>?_⟩
   obtain⟨v,hv⟩:=q2 m' hm;obtain⟨n,hn⟩:=F9.mp ((dX O.sz _ v).mpr hv);refine⟨n,?_⟩;show ((dr mask owner).map (·.1)).toArray[n]?=_;rw[IM,EW,hn];rfl
 ·show ((dr mask owner).map (·.2)).toArray.toList.Perm _;simpa using perm
variable {prog:E2}{E:EU→ER→Prop}
section
variable {w:Fs}{A:Fq}{s:ER}
abbrev TK(prog:E2)(w:Fs)(h:Gz)(k:List Int)(b:E1):Prop:=IsTupleKey (JK prog w) h k b
abbrev hsh(prog:E2)(w:Fs)(k:List Int):Int:=tupleKeyHash (JK prog w) k
theorem TK.ints{h:Gz}{k:List Int}{vs:List EU}(x:ItemsAre (JK prog w) k vs):∀v∈vs,∃n t,v=.int n t:=by
 induction x with
 |nil=>intro v hv;simp at hv
 |cons h1 _ ih=>
  intro v hv;rcases ET.mp hv with rfl |hv
  ·obtain⟨t,rfl⟩:=JJ h1;exact⟨_,t,rfl⟩
  ·exact ih v hv
theorem l7{k:List Int}{a:E1}{Q:Bool->ER->Prop}(hk:TK prog w s.heap k a)(h:Q false s):Fd (FF prog w) A (JN 8 (.ref a)) Q E s:=by
 have hT:=hk.typeIs;obtain⟨o,items,n,ho,_,hd,hi⟩:=hk;unfold JN;refine EJ (L_ hT ?_);dsimp only;rw[if_pos (by decide)]
 refine EJ (EO ?_);simp only[GI,Fb,if_false];refine EJ (F7 ho hd ?_);dsimp only;refine EJ ?_;rw[<-IF];refine LI _ (λrest r s'=>r.1=none/\s'=s/\∀v∈rest,∃n t,v=FZ n t) _ ?_ ?_ _ _ ⟨rfl,rfl,TK.ints (h:=s.heap) hi⟩
 ·rintro v rest r s' ⟨hr,rfl,Qn⟩;obtain⟨n,t,rfl⟩:=Qn v EY;have e:JN 7 (FZ n t)=pure false:=by unfold JN;rfl
  rw[e];refine EJ (EO ?_);simp only[Fb,if_false];exact EO ⟨rfl,rfl,λu hu'=>Qn u (ES _ hu')⟩
 ·rintro ⟨r1,r2⟩ s' ⟨hr,rfl,_⟩;simp only at hr;subst hr;exact EO h
theorem Dw{k:List Int}{a:E1}{Q:Bool->ER->Prop}(hk:TK prog w s.heap k a)(h:Q true s):Fd (FF prog w) A (ML 8 (.ref a)) Q E s:=by
 have hT:=hk.typeIs;obtain⟨o,items,n,ho,_,hd,hi⟩:=hk;unfold ML;refine EJ (IP hT F.slot_tuple_hash.lookup ?_);show Fd _ _ (J4 (.ref a) >>=_) _ _ s;refine EJ (F7 ho hd ?_);refine EJ ?_;show Fd _ _ (forIn items _ _) _ _ s;rw[<-IF];refine LI _ (λrest r s'=>r.1=none/\s'=s/\∀v∈rest,∃n t,v=FZ n t) _ ?_ ?_ _ _ ⟨rfl,rfl,TK.ints (h:=s.heap) hi⟩
 ·rintro v rest r s' ⟨hr,rfl,Qn⟩;obtain⟨n,t,rfl⟩:=Qn v EY;have e:ML 7 (FZ n t)=pure true:=by unfold ML;rfl
  rw[e];refine EJ (EO ?_);simp only[GI,Fb,if_false];exact EO ⟨rfl,rfl,λu hu'=>Qn u (ES _ hu')⟩
 ·rintro ⟨r1,r2⟩ s' ⟨hr,rfl,_⟩;simp only at hr;subst hr;exact EO h
theorem rJ{k:List Int}{a:E1}{l:List EU}{Q:Bool->ER->Prop}(hk:TK prog w s.heap k a)(hl:∀v∈l,∃k' b,v=.ref b/\TK prog w s.heap k' b)(h:Q false s):
  Fd (FF prog w) A (Nh (.ref a) l) Q E s:=by
 unfold Nh;refine EJ ?_;refine LI _ (λrest r s'=>r.1=none/\s'=s/\∀v∈rest,∃k' b,v=.ref b/\TK prog w s.heap k' b) _ ?_ ?_ _ _ ⟨rfl,rfl,hl⟩
 ·rintro v rest r s' ⟨hr,rfl,Qn⟩;obtain⟨k',b,rfl,hb⟩:=Qn v EY;dsimp only;split
  ·exact EO ⟨rfl,rfl,λu hu'=>Qn u (ES _ hu')⟩
  ·refine EJ (Ma hk ?_);simp only[GI,Fb,if_false];refine EJ (Ma hb ?_);simp only[GI,Fb,if_false];refine EJ (l7 hk ?_);simp only[Fb,if_false];refine EJ (l7 hb ?_);simp only[Fb,if_false];exact EO ⟨rfl,rfl,λu hu'=>Qn u (ES _ hu')⟩
 ·rintro ⟨r1,r2⟩ s' ⟨hr,rfl,_⟩;simp only at hr;subst hr;exact EO h
def ents(prog:E2)(w:Fs)(kb:List (List Int×E1)):List (Int×EU):=kb.map λp=>(hsh prog w p.1,.ref p.2)
theorem t9{kb:List (List Int×E1)}{i:Nat}:(ents prog w kb)[i]?=(kb[i]?).map λp=>(hsh prog w p.1,.ref p.2):=by unfold ents;rw[EW]
theorem AL(kb:List (List Int×E1)):(ents prog w kb).map (·.1)=kb.map λp=>hsh prog w p.1:=by unfold ents;rw[FI];rfl
theorem TOk.fits{t:SetTable}{hs:List Int}(T:TOk t hs){n:Nat}(hn:hs.length=n):t.fits n=true:=by
 have h1:=T.n;have h2:=T.f;have h3:t.fill=t.place.size:=by unfold fill;rw[T.d];rfl
 unfold SetTable.fits;rw[h3];simp[h1,hn];lia
theorem TOk.gave{t:SetTable}{hs:List Int}(T:TOk t hs):t.gaveWay=false:=by
 obtain⟨k,h3,hk⟩:=T.k;unfold SetTable.gaveWay;obtain⟨j,rfl⟩:∃j,k=j+1:=⟨k-1,by lia⟩
 rw[HD]at hk;have:t.mask%2=1:=by lia
 simp[this]
theorem o_{S:E1}{o:Obj}{es:Array (Int×EU)}{ep:Nat}{t:SetTable}{kb:List (List Int×E1)}{k:List Int}{x:E1}(hu:A.units<II)
  (ho:s.heap.get? S=some o) (hd:o.data=.set es ep t) (he:es.toList=ents prog w kb) (T:TOk t (kb.map λp=>hsh prog w p.1)) (R8:∀p∈kb,TK prog w s.heap p.1 p.2) (hx:TK prog w s.heap k x)
  {N:Nat} (hN:N<10*turns t.mask) (h0:¬ Liv t (pth t.mask (hsh prog w k) N).j) (h1:∀m,m<N->Liv t (pth t.mask (hsh prog w k) m).j) {Q:SetFound->ER->Prop}
  (qf:(∀p∈kb,p.1≠k)->Q (.free (pth t.mask (hsh prog w k) N).j false) s) (qt:(∃p∈kb,p.1=k)->Q (.there none) s):
  ∀(P1 n:Nat) (Q7:Option Probe),n<=N->N-n<P1->Q7.getD (t.probeStart (hsh prog w k))=pth t.mask (hsh prog w k) n->
   (∀(m i:Nat) (p:List Int×E1),m<n->t.place[i]?=some (pth t.mask (hsh prog w k) m).j->kb[i]?=some p->p.1≠k)->
   Fd (FF prog w) A (Lp S (.ref x) (hsh prog w k) true P1 Q7) Q E s:=by
 have Qr:es.size=kb.length:=by rw[<-E_,he];simp[ents]
 have QJ:t.fits es.size=true:=T.fits (by rw[EM,Qr])
 have eat:∀i:Nat,es[i]?=(kb[i]?).map λ(p:List Int×E1)=>(hsh prog w p.1,Ft p.2):=λi=>by rw[<-FU,he,t9]
 intro P1
 induction P1 with
 |zero=>intro n Q7 _ h;lia
 |succ P1 ih=>
  intro n Q7 hn hf QM Ro;unfold Lp;refine EJ (Hm ho hd QJ ?_);dsimp only;rw[T.gave];simp only[Fb,if_false];rw[QM];have hash:∀(i:Nat) (p:List Int×E1),kb[i]?=some p->((es[i]?.map (λ(e:Int×EU)=>e.1)).getD 0:Int)=hsh prog w p.1:=λi p hp=>by rw[eat,hp];rfl
  have pg:=ox T (λ(i:Nat)=>(es[i]?.map (λ(e:Int×EU)=>e.1)).getD 0) (hsh prog w k) h0 h1 (10*turns t.mask) n hn (by lia)
  split
  ·rename_i met hmet
   rcases pg with ⟨e,PN⟩ |⟨m,i,hnm,hmN,QA,hhi,e,hbef⟩
   ·have q:some met=some (.empty (pth t.mask (hsh prog w k) N).j none):=hmet.symm.trans e;cases q;dsimp only;refine EO (qf λp hp Ry=>?_)
    obtain⟨i,hi⟩:=F9.mp hp;obtain⟨m,j,hm,QA,hj⟩:=yg T (h:=hsh prog w k) h0 (i:=i) (by rw[EW,hi,<-Ry];rfl)
    rcases G0 m n with SQ |SQ
    ·exact Ro m i p SQ (by rw[hj];exact QA) hi Ry
    ·exact PN m i SQ hm (by rw[hj];exact QA) (by rw[hash i p hi,Ry])
   ·have q:some met=some (.candidate (pth t.mask (hsh prog w k) m).j i (pth t.mask (hsh prog w k) (m+1))):=hmet.symm.trans e;cases q;dsimp only;have hik:i<kb.length:=by rw[<-Qr,<-show t.place.size=es.size by rw[T.n,EM,Qr]];exact sQ QA
    obtain⟨p,hp⟩:∃p,kb[i]?=some p:=⟨_,EK hik⟩;have hpm:p∈kb:=E9 hp;have hei:es[i]?=some (hsh prog w p.1,Ft p.2):=by rw[eat,hp];rfl
    have rest:Fd (FF prog w) A (do
      let SV <-Kk [Ft p.2] (eqBool (Ft p.2) (.ref x))
      let (es',_,t') <-setState S
      if true && SV then return .there none
      let some same:=t'.sameMemory t.moves t.mask |NW "set.changed-during-lookup:is-the-new-block-at-the-old-address"
      let still <-match (if same then t'.slot (pth t.mask (hsh prog w k) m).j else .empty) with
       | .live i'=>match es'[i']? with
        |some (_,y')=>do pure (if <-isSame y' (Ft p.2) then some i' else none)
        |none=>pure none
       |_=>pure none
      match still with
      |none=>rule "set.search.anew";Lp S (.ref x) (hsh prog w k) true P1 none
      |some i'=>if SV then return .there (some i') else Lp S (.ref x) (hsh prog w k) true P1 (some (pth t.mask (hsh prog w k) (m+1)))) Q E s:=by
     refine EJ (F6 (IG hu (R8 p hpm) hx ?_));refine EJ (Hm ho hd QJ ?_);dsimp only;by_cases Ry:p.1=k
     ·rw[decide_eq_true Ry];simp only[Bool.and_self,if_true];exact EO (qt ⟨p,hpm,Ry⟩)
     ·rw[decide_eq_false Ry];simp only[KN,Fb,if_false];have hsm:t.sameMemory t.moves t.mask=some true:=by unfold SetTable.sameMemory;simp
      rw[hsm];dsimp only;rw[if_pos rfl,lx T.R QA];dsimp only;rw[hei];dsimp only;refine EJ (wpAny_isSame_ref_self ?_);refine EJ (EO ?_);simp only[if_true];refine ih (m+1) (some (pth t.mask (hsh prog w k) (m+1))) (by lia) (by lia) rfl λm' i' p' hm' hpl' QV=>?_
      rcases G0 m' n with z |z
      ·exact Ro m' i' p' z hpl' QV
      ·rcases Fu (GZ hm') with y |y
       ·have:=hbef m' i' z y hpl';intro e';exact this (by rw[hash i' p' QV,e'])
       ·subst y;have ei:=T.R.inj QA hpl';subst ei;rw[hp]at QV;cases QV;exact Ry
    by_cases hled:t.led=true
    ·rw[hled];simp only[GI,Fb,if_false];rw[hei];exact rest
    ·rw[show t.led=false by simpa using hled]
     simp only[Ib,if_true];refine EJ (rJ hx (λv hv=>?_) ?_)
     ·obtain⟨e',he',rfl⟩:=EV.mp hv
      have hm':e'∈es.toList:=by
       have:=Kg.mp he';exact Kg.mpr (Array.mem_filter.mp this).1
      rw[he]at hm';obtain⟨p',QV,rfl⟩:=EV.mp hm';exact⟨p'.1,p'.2,rfl,R8 p' QV⟩
     ·simp only[Fb,if_false];rw[hei];exact rest
  ·rename_i QQ
   rcases pg with ⟨e,PN⟩ |⟨m,i,hnm,hmN,QA,hhi,e,hbef⟩
   ·exact absurd e (QQ _)
   ·exact absurd e (QQ _)
structure SP(prog:E2)(w:Fs)(h:Gz)(S:E1)(kb:List (List Int×E1)):Prop where
 ex:∃o es ep t,h.get? S=some o∧o.ExactSet∧o.data=.set es ep t∧es.toList=ents prog w kb∧TOk t (kb.map λp=>hsh prog w p.1)∧t.led=(!w.params.followText "set-order")∧t.plain=true∧t.tooFull=false∧t.mask<8*kb.length+8
 keys:∀p∈kb,TK prog w h p.1 p.2
 nd:(kb.map (·.1)).Nodup
theorem TK.keep{h h':Gz}{k:List Int}{b S:E1}{o:Obj}{es ep t}(x:TK prog w h k b)(ho:h.get? S=some o)(hd:o.data=.set es ep t)(hs:IH S h h'):TK prog w h' k b:=by
 obtain⟨o',items,n,QO,hc,Qt,hi⟩:=x
 have PN:b≠S:=by
  rintro rfl;obtain rfl:o'=o:=FN (QO.symm.trans ho);rw[hd]at Qt;exact nomatch Qt
 exact⟨o',items,n,(hs.2 b PN).trans QO,hc,Qt,hi⟩
theorem p_(x:E1)(es:Array (Int×EU)):byScan (.ref x) es=false:=by simp[byScan,Value.scannable]
theorem oQ{α β:Type}(f:α->β)(xs:List α)(p:Nat)(x:α):(gE xs p x).map f=gE (xs.map f) p (f x):=by
 unfold gE;rw[F1,Ff,MZ,OV]
theorem e8{α:Type}(xs:List α)(p:Nat)(x:α):(gE xs p x).Perm (xs++[x]):=by
 unfold gE;refine LJ.trans ?_;rw[Mb];exact (Kz x xs).symm
theorem o8{α β:Type}{kb:List α}(f:α->β)(d:β):∀(o:List Nat),(∀i∈o,i<kb.length)->o.map (λi=>((kb.map f).toArray).getD i d)=(o.filterMap λi=>kb[i]?).map f
 |[],_=>rfl
 |i::o,h=>by
  have hi:=h i EY;rw[Ff,HJ,EK hi,o8 f d o λj hj=>h j (ES _ hj)]
  simp[Hl,hi]
theorem u9{α:Type}{kb:List α}{o:List Nat}(h:o.Perm (F3 kb.length)):(o.filterMap λi=>kb[i]?).Perm kb:=by
 refine (h.filterMap _).trans ?_
 suffices (F3 kb.length).filterMap (λi=>kb[i]?)=kb by rw[this]
 have:∀(l pre:List α),(List.range' pre.length l.length).filterMap (λi=>(pre++l)[i]?)=l:=by
  intro l
  induction l with
  |nil=>intro pre;rfl
  |cons x l ih=>
   intro pre;rw[FV,List.range'_succ,HJ];have e:(pre++x::l)[pre.length]?=some x:=by rw[Fj (EX _)];simp
   rw[e];have:=ih (pre++[x]);rw[JO,FM]at this;simpa using this
 have q:=this kb [];simpa [List.range_eq_range'] using q
theorem AF{t:SetTable}{hs:List Int}(T:TOk t hs)(h:t.tooFull=false):t.place.size+1<=t.mask:=by
 obtain⟨k,h3,hk⟩:=T.k;have hf:t.fill=t.place.size:=by unfold fill;rw[T.d];rfl
 have h8:2 ^ 3<=2 ^ k:=Je (by decide) h3
 unfold tooFull at h;rw[hf]at h;simp at h;lia
theorem DT{S:E1}{o:Obj}{es:Array (Int×EU)}{ep:Nat}{t:SetTable}{kb:List (List Int×E1)}{Q:Unit->ER->Prop}(ho:s.heap.get? S=some o)(hex:o.ExactSet)(hd:o.data=.set es ep t)(he:es.toList=ents prog w kb)
  (T:TOk t (kb.map λp=>hsh prog w p.1)) (hl:t.led=(!w.params.followText "set-order")) (hp:t.plain=true) (R8:∀p∈kb,TK prog w s.heap p.1 p.2) (Rm:(kb.map (·.1)).Nodup) (h1:0<kb.length) (hn:kb.length≤1000)
  (h:∀h' Q5,IH S s.heap h'->SP prog w h' S Q5->Q5.Perm kb->Q () {s with heap:=h' }):Fd (FF prog w) A (setRelay S (grown kb.length)) Q E s:=by
 have Qr:es.size=kb.length:=by rw[<-E_,he];simp[ents]
 have QJ:t.fits es.size=true:=T.fits (by rw[EM,Qr])
 have eat:∀i:Nat,es[i]?=(kb[i]?).map λ(p:List Int×E1)=>(hsh prog w p.1,Ft p.2):=λi=>by rw[<-FU,he,t9]
 have hg:grown kb.length=kb.length*4:=by unfold grown;rw[if_neg (by lia)]
 rw[hg];obtain⟨k,k3,ek,lk,uk⟩:=above (kb.length*4) (by lia)
 have RT:(sizeAbove (kb.length*4)-1)+1=2 ^ k:=by lia
 obtain⟨t',order,e,T',hord,em,el,ep',_⟩:=zT k3 RT (hs:=es.map (·.1)) (by rw[Oi,Qr];lia) t.finger (t.movedTo (sizeAbove (kb.length*4)-1)) t.led t.plain
 have hrel:t.relaid (es.map (·.1)) (kb.length*4)=some (t',order):=e;have RU:order.toList.Perm (F3 kb.length):=by rw[Oi,Qr]at hord;exact hord
 have PU:∀i∈order.toList,i<kb.length:=λi hi=>Fo.mp (RU.mem_iff.mp hi)
 have Ry:=u9 RU
 have hes:(order.filterMap (λi=>es[i]?)).toList=ents prog w (order.toList.filterMap λi=>kb[i]?):=by
  rw[Array.toList_filterMap];unfold ents;rw[List.map_filterMap];congr 1
  funext i
  rw[eat]
 have hes2:(order.filterMap (λi=>es[i]?)).size=es.size:=by
  rw[<-E_,hes,Qr];unfold ents;rw[EM,Ry.length_eq]
 unfold setRelay;refine EJ (Hm ho hd QJ ?_);dsimp only;rw[if_neg (by rw[ek,Gp];lia),hrel]
 have goal:Fd (FF prog w) A (do
   if (order.filterMap (λi=>es[i]?)).size !=es.size then NW "internal:set-table-lost-an-element"
   pure (order.filterMap (λi=>es[i]?),t'):Sem (Array (Int×EU)×SetTable)) (λr s'=>Fd (FF prog w) A (storeSet S r.1 r.2) Q E s') E s:=by
  rw[hes2];simp only[bne_self_eq_false,Fb,if_false];refine EO ?_;refine Ni ho hd ?_ (by rw[hes2,Qr,Gp];lia)
  have hg':(s.heap.update S (JP (order.filterMap (λi=>es[i]?)) t')).get? S=some {o with data:=.set (order.filterMap (λi=>es[i]?)) (ep+1) t' }:=by
   have:=FB (JP (order.filterMap (λi=>es[i]?)) t') ho (by rw[NX _ t' hd];rfl)
   rw[NX _ t' hd]at this;exact this
  have Q8:=Hn s.heap S (JP (order.filterMap (λi=>es[i]?)) t')
  refine h _ (order.toList.filterMap λi=>kb[i]?) Q8 ⟨⟨_,_,_,t',hg',hex,rfl,hes,?_,by rw[el];exact hl,by rw[ep'];exact hp,?_,?_⟩,λp QV=>?_,?_⟩ Ry
  ·have:=o8 (kb:=kb) (λp=>hsh prog w p.1) 0 order.toList PU
   rw[<-this]
   have e2:(es.map (·.1))=((kb.map λp=>hsh prog w p.1)).toArray:=by
    apply LK.mp;rw[LL,he,AL]
   rw[e2]at T';exact T'
  ·have hf:t'.fill=t'.place.size:=by unfold fill;rw[T'.d];rfl
   have hn':=T'.n;rw[EM,RU.length_eq,La]at hn';unfold tooFull;rw[hf,hn',em];simp;lia
  ·rw[em,Ry.length_eq];lia
  ·exact (R8 p (Ry.mem_iff.mp QV)).keep ho hd Q8
  ·exact ((Ry.map (·.1)).nodup_iff).mpr Rm
 exact EJ goal
theorem qg{S x:E1}{kb:List (List Int×E1)}{k:List Int}{Q:Bool->ER->Prop}(hu:A.units<II)(P:SP prog w s.heap S kb)(hx:TK prog w s.heap k x)(hn:kb.length<1000)
  (h:∀b h' Q5,IH S s.heap h'->SP prog w h' S Q5->(if k∈kb.map (·.1) then Q5=kb else Q5.Perm (kb++[(k,x)]))->Q b {s with heap:=h' }):
  Fd (FF prog w) A (setAddHashed S (.ref x) (hsh prog w k)) Q E s:=by
 obtain⟨⟨o,es,ep,t,ho,hex,hd,he,T,hl,hp,SW,RT⟩,R8,Rm⟩:=P;have P0:SP prog w s.heap S kb:=⟨⟨o,es,ep,t,ho,hex,hd,he,T,hl,hp,SW,RT⟩,R8,Rm⟩;have Qr:es.size=kb.length:=by rw[<-E_,he];simp[ents]
 have QJ:t.fits es.size=true:=T.fits (by rw[EM,Qr])
 obtain⟨N,hN,h0,h1⟩:=qS T (hsh prog w k);have hN':N<100000:=by unfold turns at hN;lia
 unfold setAddHashed setAddHashedIn;refine F6 (EJ (Hm ho hd QJ ?_));dsimp only;rw[p_];simp only[Fb,if_false];unfold setSearch;refine EJ (o_ hu ho hd he T R8 hx hN h0 h1 (λQQ=>?_) (λhyes=>?_) 100000 0 none (FX _) (by lia) rfl λm i p hm=>by lia)
 ·dsimp only;have hk:k ∉ kb.map (·.1):=λz=>by obtain⟨p,QV,e⟩:=EV.mp z;exact QQ p QV e
  refine EJ (Hm ho hd QJ ?_);dsimp only;generalize hj:(pth t.mask (hsh prog w k) N).j=j at *;have T1:=T.put (h:=hsh prog w k) (N:=N) (by rw[hj];exact h0) h1 (by have:=wj (mask:=t.mask) (hsh prog w k) N;lia) (AF T SW)
  rw[hj]at T1;have epl:(t.put j).1.plain=true:=hp;have eled:(t.put j).1.led=(!w.params.followText "set-order"):=hl;have emask:(t.put j).1.mask=t.mask:=rfl;generalize (t.put j).1=t1 at *;generalize (t.put j).2=q at *;have Rh:(gE kb q (k,x)).length=kb.length+1:=by rw[(e8 kb q (k,x)).length_eq];simp
  have he1:(insertAt es q (hsh prog w k,Ft x)).toList=ents prog w (gE kb q (k,x)):=by
   rw[eL,he];unfold ents;rw[oQ];rfl
  have hsz1:(insertAt es q (hsh prog w k,Ft x)).size=kb.length+1:=by
   rw[<-E_,he1];unfold ents;rw[EM,Rh]
  have T2:TOk t1 ((gE kb q (k,x)).map λp=>hsh prog w p.1):=by rw[oQ];exact T1
  rw[if_pos epl];refine EJ (Dw hx ?_);rw[if_pos rfl]
  have hg1:(s.heap.update S (JP (insertAt es q (hsh prog w k,Ft x)) t1)).get? S=some {o with data:=.set (insertAt es q (hsh prog w k,Ft x)) (ep+1) t1 }:=by
   have:=FB (JP (insertAt es q (hsh prog w k,Ft x)) t1) ho (by rw[NX _ t1 hd];rfl)
   rw[NX _ t1 hd]at this;exact this
  have Q8:=Hn s.heap S (JP (insertAt es q (hsh prog w k,Ft x)) t1)
  have hkb1:∀p∈gE kb q (k,x),TK prog w (s.heap.update S (JP (insertAt es q (hsh prog w k,Ft x)) t1)) p.1 p.2:=λp QV=>by
   have:=(e8 kb q (k,x)).mem_iff.mp QV;rcases FA.mp this with z |z
   ·exact (R8 p z).keep ho hd Q8
   ·rw[E5.mp z];exact hx.keep ho hd Q8
  have hnd1:((gE kb q (k,x)).map (·.1)).Nodup:=by
   rw[((e8 kb q (k,x)).map (·.1)).nodup_iff,F1,HG];refine⟨Rm,by simp,λa ha b hb=>?_⟩
   simp at hb;subst hb;rintro rfl;exact hk ha
  refine EJ (Ni ho hd ?_ (by rw[hsz1,Gp];lia))
  rw[Ib,IY];by_cases hft:t1.tooFull=true
  ·rw[if_pos hft,Qr,<-Rh];refine EJ (DT (s:={s with heap:=s.heap.update S (JP (insertAt es q (hsh prog w k,Ft x)) t1) }) hg1 hex rfl he1 T2 eled epl hkb1 hnd1 (by lia) (by lia) λh' Q5 hsb' P' pm=>EO ?_)
   exact h true h' Q5 (Q8.trans hsb') P' (by rw[if_neg hk];exact pm.trans (e8 kb q (k,x)))
  ·rw[if_neg hft];refine EO (h true _ (gE kb q (k,x)) Q8 ⟨⟨_,_,_,t1,hg1,hex,rfl,he1,T2,eled,epl,by simpa using hft,by rw[emask,Rh];lia⟩,hkb1,hnd1⟩ (by rw[if_neg hk];exact e8 kb q (k,x)))
 ·dsimp only;refine EO ?_;have hk:k∈kb.map (·.1):=by obtain⟨p,QV,e⟩:=hyes;exact EV.mpr ⟨p,QV,e⟩
  exact h false s.heap kb (Nj S s.heap) P0 (by rw[if_pos hk])
theorem TK.moved{s s':ER}{wr:List E1}{G:Array IV->Array IV->Prop}{k:List Int}{b:E1}(x:TK prog w s.heap k b)(hb:b ∉ wr)(m:Moved wr G s s'):TK prog w s'.heap k b:=by
 obtain⟨o,PH,n,ho,hc,hd,hi⟩:=x;exact⟨o,PH,n,m.heap b o hb ho,hc,hd,hi⟩
theorem SP.moved{s s':ER}{wr:List E1}{G:Array IV->Array IV->Prop}{S:E1}{kb:List (List Int×E1)}(x:SP prog w s.heap S kb)(hS:S ∉ wr)(hb:∀p∈kb,p.2 ∉ wr)(m:Moved wr G s s'):SP prog w s'.heap S kb:=by
 obtain⟨⟨o,es,ep,t,ho,r⟩,hk,hn⟩:=x;exact⟨⟨o,es,ep,t,m.heap S o hS ho,r⟩,λp hp=>(hk p hp).moved (hb p hp) m,hn⟩
structure Got(kx:Nat->List Int×E1)(i:Nat)(kb:List (List Int×E1)):Prop where
 src:∀p∈kb,∃j,j<i/\p=kx j
 all:∀j,j<i->(kx j).1∈kb.map (·.1)
 len:kb.length<=i
variable {R:Nr→ER→Prop}{I:E1}{fp wr:List E1}{G:Array IV→Array IV→Prop}{n:Nat}{P:Nat→EU→Prop}{St:Nat→ER→Prop}
theorem v6(W:WalksS prog w A.in1 I fp wr G n P St)(hu:A.in1.units<II){S:E1}(QL:S ∉ fp)(kx:Nat->List Int×E1)(hP:∀i v,P i v->v=.ref (kx i).2)(hwr:∀i,i<n->(kx i).2 ∉ wr)(hn:n<=1000):
  ∀(k i:Nat) (s:ER) (kb:List (List Int×E1)),n-i=k->i<=n->St i s->SP prog w s.heap S kb->Got kx i kb->(∀j,j<n->TK prog w s.heap (kx j).1 (kx j).2)->
   (∀s' Q5,Moved (S::wr) G s s'->SP prog w s'.heap S Q5->Got kx n Q5->R (.ok (.ret .none)) s')->
   IJ (FF prog w) A (.builtin "set.update.loop" ⟨[.ref S,.ref I],[]⟩) R s:=by
 have hSw:S ∉ wr:=λh=>QL (W.sub _ h)
 have more:∀b∈wr,b∈S::wr:=λb hb=>ES _ hb
 intro k
 induction k with
 |zero=>
  intro i s kb hk hi st hS g tk hR;obtain rfl:i=n:=by lia
  refine GE PyProof.Rows.F.entry_set_update_loop ?_;rw[Gf PyProof.Rows.F.plain_set_update_loop _];show Fd _ A.in1 (Iy (.ref I) >>=_) _ _ s;refine EJ (W.done s _ _ st λs' m=>?_)
  exact EO (hR s' kb (m.mono more) (hS.moved hSw (λp hp=>by obtain⟨j,hj,rfl⟩:=g.src p hp;exact hwr j hj) m) g)
 |succ k ih=>
  intro i s kb hk hi st hS g tk hR;have PU:i<n:=by lia
  have R8:∀p∈kb,p.2 ∉ wr:=λp hp=>by obtain⟨j,hj,rfl⟩:=g.src p hp;exact hwr j (by lia)
  refine GE PyProof.Rows.F.entry_set_update_loop ?_;rw[Gf PyProof.Rows.F.plain_set_update_loop _];show Fd _ A.in1 (Iy (.ref I) >>=_) _ _ s;refine EJ (W.item i s _ _ PU st λv s1 pv st1 m=>?_)
  obtain rfl:=hP i v pv;have hS1:=hS.moved hSw R8 m;have tk1:∀j,j<n->TK prog w s1.heap (kx j).1 (kx j).2:=λj hj=>(tk j hj).moved (hwr j hj) m
  show Fd _ A.in1 (Kk [Ft (kx i).2] (setAdd S (.ref (kx i).2)) >>=_) _ _ s1;refine EJ (F6 ?_);unfold setAdd;refine F6 (EJ (wpAny_pyHash_tuple hu (tk1 i PU) ?_));refine qg (s:={s1 with toks:=s1.toks+((kx i).1.length+1) }) hu hS1 (tk1 i PU) (by have:=g.len;lia) λb h' Q5 sb hS2 hkk=>?_
  obtain⟨⟨o,es,ep,t,ho,hex,hd,hrest⟩,hks,Rm⟩:=hS1;have same:∀b o,b ∉ S::wr->s1.heap.get? b=some o->h'.get? b=some o:=λb o hb e=>by rw[sb.2 b (λz=>hb (by rw[z];exact EY))];exact e
  refine EO ⟨GA PyProof.Rows.F.plain_set_update_loop _,ih (i+1) _ Q5 (by lia) PU (W.frame _ s1 _ _ st1 (by show s1.toks<=s1.toks+_;lia) λb hb o e=>?_) hS2 ?_ (λj hj=>(tk1 j hj).keep ho hd sb) λs2 kb2 m2 hS3 g2=>?_⟩
  ·rw[sb.2 b (λz=>QL (by rw[<-z];exact hb))];exact e
  ·by_cases Su:(kx i).1∈kb.map (·.1)
   ·rw[if_pos Su]at hkk;subst hkk;refine⟨λp hp=>?_,λj hj=>?_,by have:=g.len;lia⟩
    ·obtain⟨j,hj,e⟩:=g.src p hp;exact⟨j,by lia,e⟩
    ·rcases Fu (GZ hj) with z |z
     ·exact g.all j z
     ·rw[z];exact Su
   ·rw[if_neg Su]at hkk;refine⟨λp hp=>?_,λj hj=>?_,by rw[hkk.length_eq];have:=g.len;simp;lia⟩
    ·rcases FA.mp (hkk.mem_iff.mp hp) with z |z
     ·obtain⟨j,hj,e⟩:=g.src p z;exact⟨j,by lia,e⟩
     ·exact⟨i,GR i,by rw[E5.mp z]⟩
    ·rw[(hkk.map (·.1)).mem_iff,F1];rcases Fu (GZ hj) with z |z
     ·exact FH _ (g.all j z)
     ·rw[z];exact Fg _ (by simp)
  ·exact hR s2 kb2 (Moved.trans W.gtrans ((m.mono more).then_heap (by show s1.toks<=s1.toks+_;lia) same) m2) hS3 g2
end
section
variable {w:Fs}{A:Fq}{s:ER}
abbrev b6(w:Fs):Obj:={cls:=.type "set",dict:=none,data:=.set #[] 0 (.fresh 0 0 (!w.params.followText "set-order")) }
theorem v4:TOk (.fresh 0 0 (!w.params.followText "set-order")) [] where
 R:=by intro i j x y _ h;simp[SetTable.fresh]at h
 d:=rfl
 k:=⟨3,by decide,rfl⟩
 n:=rfl
 f:=by show 0<=7;decide
 le:=by intro i x h;simp[SetTable.fresh]at h
 reach:=by intro i x h hi;simp[SetTable.fresh]at hi
theorem v5{h:Gz}{S:E1}(e:h.get? S=some (b6 w)):SP prog w h S []:=by
 refine⟨⟨_,_,_,_,e,⟨rfl,rfl,rfl⟩,rfl,rfl,v4,rfl,rfl,by simp[SetTable.tooFull,SetTable.fresh,SetTable.fill],by show 7<8;decide⟩,λp hp=>by simp at hp,by simp⟩
theorem zS(a:EU){Q:EU->ER->Prop}(h:Q (.ref s.heap.objs.size) {s with heap:=s.heap.push (b6 w) }):
  IJ (FF prog w) A (.call (.builtin "set.__new__") ⟨[.type "set",a],[]⟩) (wants Q E) s:=by
 refine NY ?_;show Fd _ A.in1 (do checkBuiltinCall "set.__new__" ⟨[.type "set",a],[]⟩;again (.builtin "set.__new__" ⟨[.type "set",a],[]⟩)) _ _ s
 refine EJ (Lq (PySem.F.newCall_set_1 a) (EO ⟨GA Mc _,GE PySem.F.entry_set_new ?_⟩));rw[Gf Mc _];unfold Builtin.«set.__new__» Builtin.Frozenset.newClass;have hsub:=sub_set_self;obtain⟨hp,g,d,tk,os⟩:=s;dsimp only
 wp_walk
 refine Jl (EO ?_);dsimp only;simp only[newObj];exact EJ (wpAny_alloc (EO (EO h)))
set_option maxRecDepth 100000 in
theorem call_set_pts{l:E1}{items:Array EU}{Q:EU->ER->Prop}(kx:Nat->List Int×E1)(hh:A.handled=none)(hu:A.in1.in1.in1.units<II)(hl:s.heap.IsList l items)
  (QU:∀(i:Nat) (v:EU),items[i]?=some v->v=.ref (kx i).2) (Q1:∀i,i<items.size->TK prog w s.heap (kx i).1 (kx i).2) (hn:items.size<=1000)
  (h:∀(h':Gz) (tk:Nat) (kb:List (List Int×E1)),SP prog w h' s.heap.objs.size kb->Got kx items.size kb->(∀b o,s.heap.get? b=some o->h'.get? b=some o)->Q (.ref s.heap.objs.size) {s with heap:=h',toks:=tk }):
  Fd (FF prog w) A (call (.type "set") [.ref l]) Q E s:=by
 obtain⟨cc,tl,hmro⟩:=G7.mro;have hmade:=G7.made;have hsub:=G7.sub;refine wpAny_call (NY ?_);show Fd _ _ (callAny (.type "set") _) _ _ _;refine EO ⟨Code.quiet_builtin _ (by decide+kernel),GE PySem.F.entry_type_call ?_⟩
 rw[Around.under_plain (weight_type_call_type "set" [.ref l] []) rfl];have g1:=G7.notType;have g2:=G7.canCreate;have g3:=PySem.F.typeCall_set_1 (.ref l)
 repeat (any_goals (first |assumption |wp_step))
 refine J2 (zS (w:=w) (.ref l) (E:=E) (Q:=λobj PR=>obj=.ref s.heap.objs.size/\PR={s with heap:=s.heap.push (b6 w) }) ⟨rfl,rfl⟩) λr PR hr=>?_
 cases r with
 |error e=>exact hr
 |ok fl=>
  cases fl with
  |ret obj=>
   obtain⟨rfl,rfl⟩:=hr;have hS:(s.heap.push (b6 w)).get? s.heap.objs.size=some (b6 w):=E3 _ rfl;have hT:Shared.TypeIs {s with heap:=s.heap.push (b6 w) } (.ref s.heap.objs.size) "set":=⟨_,hS,rfl⟩
   have hli:=G7.init.lookup;have hbi:=G7.init.bind (.ref s.heap.objs.size)
   repeat (any_goals (first |assumption |wp_step))
   refine J2 (codeAny_call_builtin (R:=wants (λr Sm=>r=.none/\∃h' tk kb,Sm={s with heap:=h',toks:=tk }/\
     SP prog w h' s.heap.objs.size kb/\Got kx items.size kb/\(∀b o,s.heap.get? b=some o->h'.get? b=some o)) E) G7.init.plain PySem.F.entry_set_init (check_set_init_1 hT ?_)) λr₂ Sm RV=>?_
   ·obtain⟨ol,hol,hcl,nl,hdl⟩:=hl;obtain⟨ocls,odict,odata,oslots⟩:=ol;simp only at hcl hdl;subst hcl;subst hdl;have hol':(s.heap.push (b6 w)).get? l=some {cls:=.type "list",dict:=odict,data:=.seq items nl,slots:=oslots }:=EN _ hol;have k1:=PySem.F.sub_list_set;have k2:=PySem.F.sub_list_frozenset;have k3:(Gm "list"==Gm "dict")=false:=by decide
    have Qk:(s.heap.push (b6 w)).IsList l items:=⟨_,hol',rfl,nl,rfl⟩;unfold Builtin.«set.__init__» noKeywords Builtin.Frozenset.updateFrom;generalize hPI:Nq=PI
    wp_walk
    subst hPI;refine GV Qk (EJ (wpAny_runValue ?_));have hlS:l<s.heap.objs.size:=EZ hol;have h3:A.in1.in1.in1.handled=none:=by simp[hh]
    have szI:(s.heap.push (b6 w)).objs.size=s.heap.objs.size+1:=Gb ..;have hneI:l≠(s.heap.push (b6 w)).objs.size:=by rw[szI];exact Fy (GY hlS)
    have QL:s.heap.objs.size ∉ [(s.heap.push (b6 w)).objs.size,l]:=by
     rw[szI];intro z;rcases ET.mp z with z |z
     ·exact absurd z (Fy (GR _))
     ·exact absurd (E5.mp z) (Hs hlS)
    refine v6 ((Walks.list h3 _ l hneI items).toS) hu QL kx QU (λi hi=>?_) hn (items.size-0) 0 _ [] (by lia) (FX _)
     ⟨⟨_,E3 _ rfl,rfl,rfl⟩,(Qk.push _)⟩ ?_ ⟨λp hp=>by simp at hp,λj hj=>by lia,by simp⟩ (λj hj=>?_) λs' kb m Ri g=>?_
    ·intro z;have z':=E5.mp z;obtain⟨o,_,_,ho,_⟩:=Q1 i hi;have:=EZ ho;rw[z',szI]at this;exact FG _ (L8 (GR _) this)
    ·exact v5 (EN _ hS)
    ·obtain⟨o,PH,k,ho,r⟩:=Q1 j hj;exact⟨o,PH,k,EN _ (EN _ ho),r⟩
    ·obtain⟨h',g',d',tk',os'⟩:=s';obtain rfl:g'=s.gens:=m.gens;obtain rfl:d'=s.drawn:=m.drawn;obtain rfl:os'=s.os:=m.os;refine EO ?_;show Fd _ _ (ret Fl) _ _ _;refine EO ⟨rfl,h',tk',kb,rfl,Ri,g,λb o e=>?_⟩
     have hb:=EZ e;refine m.heap b o (λz=>?_) (EN _ (EN _ e))
     rcases ET.mp z with z |z
     ·exact absurd z (Fy hb)
     ·have z':=E5.mp z;rw[z',szI]at hb;exact FG _ (L8 (GR _) hb)
   ·cases r₂ with
    |error e=>exact RV
    |ok fl₂=>
     cases fl₂ with
     |ret r=>
      obtain⟨rfl,h',tk,kb,rfl,Ri,g,SU⟩:=RV
      repeat (any_goals (first |assumption |wp_step))
      exact h _ _ kb Ri g SU
     |_=>exact RV.elim
  |_=>exact hr.elim
end
theorem dL:Slot "set_iterator" "__next__" "set_iterator.__next__":=
 .of (owner:="set_iterator") (n:="__next__") (by rw[IQ,Hv];kernel_rfl) (by decide+kernel) (by decide+kernel) (by decide+kernel) (by first |exact .inl (by decide+kernel) |exact .inr (by decide+kernel)) (by rw[JY];kernel_rfl)
theorem kr:entryFor table "set_iterator.__next__"=some Builtin.«set_iterator.__next__»:=entryFor_of_tree (by kernel_rfl)
theorem lY(a:EU):argsOk "set_iterator.__next__" ⟨[a],[]⟩:=by unfold argsOk;kernel_rfl
theorem qi:entryFor table "set.__iter__"=some Builtin.«frozenset.__iter__»:=Oj (id':="frozenset.__iter__") (by kernel_rfl) rfl (by decide+kernel) (by kernel_rfl)
theorem qQ{α:Type}{l:List α}{i:Nat}(h:i<l.length):(l[i]::l.eraseIdx i).Perm l:=by
 rw[List.eraseIdx_eq_take_drop_succ];refine LJ.symm.trans ?_;rw[<-List.drop_eq_getElem_cons h,Mb]
theorem tN{α:Type}(next:Nat->Nat):∀(P1 k:Nat) (left:List α) (out:Array α),left.length=P1->(pickOrder.go next P1 k left out).toList.Perm (out.toList++left)
 |0,k,left,out,h=>by
  obtain rfl:left=[]:=GH.mp h;rw[pickOrder.go,HL]
 |P1+1,k,left,out,h=>by
  have hi:next k%left.length<left.length:=HF _ (by lia)
  rw[pickOrder.go,EK hi];refine (tN next P1 (k+1) _ _ (by rw[List.length_eraseIdx_of_lt hi];lia)).trans ?_
  rw[Array.toList_push,JO];refine Md _ ?_;rw[List.singleton_append];exact qQ hi
theorem xQ{α:Type}(next:Nat->Nat)(xs:Array α):(M0 next xs).toList.Perm xs.toList:=by
 unfold M0;have:=tN next xs.size 0 xs.toList #[] (by simp)
 simpa using this
section
variable {w:Fs}{A:Fq}{s:ER}
def cj(w:Fs)(S:E1)(es:Array (Int×EU))(ep:Nat):List EU:=(if w.params.followText "set-order"=true then M0 (w.params.setOrder S ep) es else es).toList.map (·.2)
theorem eW(w:Fs)(S:E1)(es:Array (Int×EU))(ep:Nat):(cj w S es ep).Perm (es.toList.map (·.2)):=by
 unfold cj;refine List.Perm.map _ ?_;split
 ·exact xQ _ es
 ·exact KO _
def fP(t:SetTable):Nat->Nat
 |0=>0
 |j+1=>t.place.getD j 0+1
def aY(w:Fs)(t:SetTable)(i:Nat):Nat:=if w.params.followText "set-order"=true then 0 else fP t i
def qB(w:Fs)(h:Gz)(it S:E1)(t:SetTable)(i n ep:Nat):Prop:=∃o,h.get? it=some o∧o.cls=.type "set_iterator"∧o.data=.fields #[Jw (aY w t i),Jw i,.ref S,Jw n,Jw ep]
theorem qB.ty{it S:E1}{t:SetTable}{i n ep:Nat}(x:qB w s.heap it S t i n ep):s.TypeIs (.ref it) "set_iterator":=let ⟨o,ho,hc,_⟩:=x;⟨o,ho,hc⟩
structure SO(prog:E2)(w:Fs)(o:Obj)(es:Array (Int×EU))(ep:Nat)(t:SetTable)(hs:List Int):Prop where
 ex:o.ExactSet
 d:o.data=.set es ep t
 T:TOk t hs
 n:hs.length=es.size
 led:t.led=(!w.params.followText "set-order")
 plain:t.plain=true
theorem xJ{S:E1}{o:Obj}{es ep t hs}{Q:Bool->ER->Prop}(O:SO prog w o es ep t hs)(ho:s.heap.get? S=some o)(h:Q false s):Fd (FF prog w) A (setDrawn S) Q E s:=by
 unfold setDrawn ON;refine EJ (Hm ho O.d (O.T.fits O.n) (EJ (EJ (Jl (EO (EO ?_))))));have q:Q (!w.params.followText "set-order" && (!t.plain && decide (es.size >1))) s:=by rw[O.plain];simpa using h
 exact q
theorem yt{S:E1}{o:Obj}{es ep t hs}{Q:EU->ER->Prop}(O:SO prog w o es ep t hs)(ho:s.heap.get? S=some o)
  (hQ:Q (.ref s.heap.objs.size) {s with heap:=s.heap.push {cls:=.type "set_iterator",data:=.fields #[Jw 0,Jw 0,.ref S,Jw es.size,Jw ep] } }):Fd (FF prog w) A (Nq (.ref S)) Q E s:=by
 have hT:s.TypeIs (.ref S) "set":=⟨o,ho,O.ex.1⟩;refine Lb hT Me (F4 Me hT qi ?_ (PySem.F.args_set_iter_1 _));unfold Builtin.«frozenset.__iter__»;show Fd _ _ (Builtin.Frozenset.sizeOf S >>=_) _ _ s;unfold Builtin.Frozenset.sizeOf;refine EJ (EJ (Ko ho O.d (O.T.fits O.n) (EO ?_)));refine EJ (xJ O ho ?_);simp only[Fb,if_false];refine EJ (EO ?_);refine EJ (wpAny_setEpoch_of ho O.d (O.T.fits O.n) ?_);refine EJ (GX (EO ⟨_,rfl,"set_iterator",_,⟨_,E3 _ rfl,rfl⟩,dL.lookup,?_⟩));exact hQ
theorem qT{t:SetTable}{hs:List Int}(T:TOk t hs){i:Nat}(hi:i<=t.place.size):below t.place (fP t i)=i:=by
 obtain⟨h1,h2,h3⟩:=fA T.R (fP t i);cases i with
 |zero=>
  dsimp only[fP]at *;rcases KF (below t.place 0) with z |z
  ·exact z
  ·have:=h1 0 _ z (eE (by lia));lia
 |succ j=>
  dsimp only[fP]at *;have hj:j<t.place.size:=by lia
  have ej:t.place.getD j 0=t.place[j]:=by simp[Hl,hj]
  rw[ej]at h1 h2 h3 |-;generalize hb:below t.place (t.place[j]+1)=b at *;rcases Hk b (j+1) with z |z |z
  ·have:=h2 j t.place[j] (by lia) (eE hj);lia
  ·exact z
  ·have q:=h1 (j+1) _ z (eE (by lia))
   have:=T.R j (j+1) _ _ (by lia) (eE hj) (eE (show j+1<t.place.size by lia))
   lia
theorem jH{S:E1}{o:Obj}{es ep t hs}{i:Nat}{Q:Option (EU×Nat)->ER->Prop}(O:SO prog w o es ep t hs)(ho:s.heap.get? S=some o)(hi:i<=es.size)
  (h:Q (((cj w S es ep)[i]?).map λv=>(v,aY w t (i+1))) s):Fd (FF prog w) A (setNext S (aY w t i) i ep) Q E s:=by
 have QJ:=O.T.fits O.n;have QA:t.place.size=es.size:=by rw[O.T.n,O.n]
 unfold setNext ON;refine EJ (Hm ho O.d QJ (EJ (EJ (Jl (EO ?_)))));by_cases bt:w.params.followText "set-order"=true
 ·dsimp only;rw[show (FF prog w).w.params.followText "set-order"=true from bt,if_pos rfl,if_neg (by simp)]
  unfold setWalk ON;refine EJ (EJ (Hm ho O.d QJ (EJ (EJ (Jl (EO ?_))))));dsimp only;rw[show (FF prog w).w.params.followText "set-order"=true from bt,if_pos rfl]
  refine EJ (Jl (EO (EO ?_)))
  have e:Nk (λ(e:Int×EU)=>(e.2,aY w t i)) (M0 (w.params.setOrder S ep) es)[i]?=((cj w S es ep)[i]?).map λv=>(v,aY w t (i+1)):=by
   unfold cj aY;rw[if_pos bt,if_pos bt,if_pos bt,EW,FU,Option.map_map];rfl
  have q:Q (Nk (λ(e:Int×EU)=>(e.2,aY w t i)) (M0 (w.params.setOrder S ep) es)[i]?) s:=by rw[e];exact h
  exact q
 ·have bf:w.params.followText "set-order"=false:=by simpa using bt
  dsimp only;rw[show (FF prog w).w.params.followText "set-order"=false from bf,if_neg (by simp)]
  have e1:aY w t i=fP t i:=by unfold aY;rw[if_neg bt]
  have e2:below t.place (aY w t i)=i:=by rw[e1];exact qT O.T (by lia)
  have e3:(match es[below t.place (aY w t i)]?,t.place[below t.place (aY w t i)]? with
    |some (_,x),some j=>some (x,j+1)
    |_,_=>none)=((cj w S es ep)[i]?).map λv=>(v,aY w t (i+1)):=by
   rw[e2];unfold cj aY;rw[if_neg bt,if_neg bt,EW,FU];rcases G0 i es.size with z |z
   ·have z':i<t.place.size:=by lia
    simp[z,z',Hl,fP]
   ·have z':t.place.size<=i:=by lia
    simp[z,z']
  split
  ·rename_i hc
   exact absurd (show (!t.plain && decide (es.size >1))=true from hc) (by rw[O.plain];simp)
  ·refine EJ ?_;show Fd _ _ (if (!t.led && !es.isEmpty)=true then NW "set:maker-not-led" else pure ()) _ _ _
   rw[O.led,bf,if_neg (by simp)]
   refine EO (EO ?_)
   have q:Q (match es[below t.place (aY w t i)]?,t.place[below t.place (aY w t i)]? with
    |some (_,x),some j=>some (x,j+1)
    |_,_=>none) s:=by rw[e3];exact h
   exact q
theorem vv{S it:E1}{o:Obj}{es ep t hs}{i:Nat}{v:EU}{Q:Option EU->ER->Prop}(O:SO prog w o es ep t hs)(ho:s.heap.get? S=some o)(QU:qB w s.heap it S t i es.size ep)(hv:(cj w S es ep)[i]?=some v)
  (hQ:∀h',qB w h' it S t (i+1) es.size ep->IH it s.heap h'->Q (some v) {s with heap:=h' }):Fd (FF prog w) A (Iy (.ref it)) Q E s:=by
 obtain⟨oi,hoi,hc,hd⟩:=id QU;have QJ:=O.T.fits O.n;unfold Iy;refine EJ (IZ (Gi (name:=Str.ofString "__next__") QU.ty dL (F4 dL QU.ty kr ?_ (lY _))));unfold Builtin.«set_iterator.__next__»;refine EJ (m:=slotArgs "__next__" 0 _) (EO ?_);dsimp only;refine EJ (Ol hoi hd ?_);dsimp only[Jw];refine EJ (Ko ho O.d QJ ?_);rw[if_neg (by simp)]
 have PU:i<es.size:=by
  have q:=(E6.mp hv).1;rw[(eW w S es ep).length_eq,EM,E_]at q;exact q
 rw[show ((aY w t i:Nat):Int).toNat=aY w t i from G3 _,show ((i:Nat):Int).toNat=i from G3 _,show ((ep:Nat):Int).toNat=ep from G3 _]
 refine EJ (jH O ho (FT PU) ?_);rw[hv];dsimp only[Nk];refine EJ (JZ hoi hd (by simp) ?_)
 have g1:=FB (Obj.mapFields (·.setIfInBounds 0 (FZ ((aY w t (i+1):Nat):Int) 0))) hoi (J5 (G8 hd _));refine EJ (JZ g1 (G8 hd _) (by simp) ?_)
 refine EO ⟨_,rfl,EO (hQ _ ?_ ((Hn ..).trans (Hn ..)))⟩;refine⟨_,FB _ g1 (J5 (G8 (G8 hd _) _)),(Lc ..).trans ((Lc ..).trans hc),?_⟩;rw[G8 (G8 hd _)];simp[Jw]
theorem yJ{S it:E1}{o:Obj}{es ep t hs}{Q:Option EU->ER->Prop}(hh:A.handled=none)(O:SO prog w o es ep t hs)(ho:s.heap.get? S=some o)(QU:qB w s.heap it S t es.size es.size ep)
  (hQ:∀h',Pp it s.heap h'->Q none {s with heap:=h' }):Fd (FF prog w) A (Iy (.ref it)) Q E s:=by
 obtain⟨oi,hoi,hc,hd⟩:=id QU;have QJ:=O.T.fits O.n;unfold Iy;refine EJ (IZ (Gi (name:=Str.ofString "__next__") QU.ty dL (F4 dL QU.ty kr ?_ (lY _))));unfold Builtin.«set_iterator.__next__»;refine EJ (m:=slotArgs "__next__" 0 _) (EO ?_);dsimp only;refine EJ (Ol hoi hd ?_);dsimp only[Jw];refine EJ (Ko ho O.d QJ ?_);rw[if_neg (by simp)]
 rw[show ((aY w t es.size:Nat):Int).toNat=aY w t es.size from G3 _,show ((es.size:Nat):Int).toNat=es.size from G3 _,show ((ep:Nat):Int).toNat=ep from G3 _]
 refine EJ (jH O ho (EX _) ?_);rw[show (cj w S es ep)[es.size]?=none from FC (by rw[(eW w S es ep).length_eq,EM,E_];exact EX _)]
 dsimp only[Nk];refine EJ (JZ hoi hd (by simp) ?_)
 refine EJ ?_;simp only[newExc,newTuple];refine EJ (GX ?_ (by size_fits))
 refine EJ (m:=KS _ _) (Lq (a:=Fl) (by first |rfl | (simp only[KS];rfl)) ?_)
 refine GX ?_ (by size_fits)
 simp only[raiseNew];refine EJ (wpAny_handled ?_);rw[show A.in1.handled=none from hh]
 refine EJ (EO (wpAny_throw ?_));refine EJ (Ha (T:="StopIteration") (b:=true) ⟨_,E3 _ rfl,rfl⟩ KU ?_);exact EO (hQ _ (((Hn ..).extBut.push _).push _))
end
end ST
namespace ST
open PySem PySem.SetTable PySem.W
theorem lU:Slot "set_iterator" "__iter__" "set_iterator.__iter__":=
 .of (owner:="set_iterator") (n:="__iter__") (by rw[IQ,Hv];kernel_rfl) (by decide+kernel) (by decide+kernel) (by decide+kernel) (by first |exact .inl (by decide+kernel) |exact .inr (by decide+kernel)) (by rw[JY];kernel_rfl)
theorem qv:entryFor table "set_iterator.__iter__"=some Builtin.«dict_keyiterator.__iter__»:=Oj (id':="dict_keyiterator.__iter__") (by kernel_rfl) rfl (by decide+kernel) (by kernel_rfl)
theorem vg(a:EU):argsOk "set_iterator.__iter__" ⟨[a],[]⟩:=by unfold argsOk;kernel_rfl
section
variable {prog:E2}{w:Fs}{A:Fq}{E:EU→ER→Prop}{s:ER}
theorem Ay{it S:E1}{t:SetTable}{i n ep:Nat}{Q:EU->ER->Prop}(QU:qB w s.heap it S t i n ep)(h:Q (.ref it) s):Fd (FF prog w) A (Nq (.ref it)) Q E s:=by
 refine Lb QU.ty lU (F4 lU QU.ty qv ?_ (vg _));exact EO ⟨_,rfl,"set_iterator",_,QU.ty,dL.lookup,h⟩
theorem vy(hh:A.handled=none){it S:E1}(PN:S≠it){o:Obj}{es ep t hs}(O:SO prog w o es ep t hs):
  Walks prog w A it [it,S] [it] es.size (λi v=>(cj w S es ep)[i]?=some v) (λi h=>qB w h it S t i es.size ep/\h.get? S=some o) where
 sub:=λb hb=>by simp at hb;simp[hb]
 frame:=λ_ _ _ st hk=>⟨let ⟨x,hx,r⟩:=st.1;⟨x,hk it (by simp) x hx,r⟩,hk S (by simp) o st.2⟩
 item:=λi s Q E hi st hQ=>by
  obtain⟨v,hv⟩:∃v,(cj w S es ep)[i]?=some v:=⟨_,EK (by rw[(eW w S es ep).length_eq,EM,E_];exact hi)⟩
  refine vv O st.2 st.1 hv λh' hit' sb=>?_
  exact hQ v h' s.toks hv ⟨hit',(sb.2 S PN).trans st.2⟩ λb x hb e=>sb.extBut b x (λz=>hb (by simp[z])) e
 done:=λs Q E st hQ=>yJ hh O st.2 st.1 λh' xb=>hQ h' s.toks λb x hb e=>xb b x (λz=>hb (by simp[z])) e
 self:=λ_ _ _ _ st hQ=>Ay st.1 hQ
theorem x8{r:E1}{Q:Bool→ER→Prop}(hT:s.TypeIs (.ref r) "set")(h:Q false s):Fd (FF prog w) A (Builtin.List.listLengthHint (.ref r)) Q E s:=by
 unfold Builtin.List.listLengthHint;refine EJ (IP hT PySem.F.slot_set_len.lookup ?_);generalize hid:("set.__len__":String)=id0
 wp_delta
 rw[show splitId id0=some ("set","__len__") from by subst hid;decide+kernel]
 subst hid;refine EJ (Ha (T:="set") (b:=true) hT (by rw[JY];kernel_rfl) ?_)
 refine Io (λz=>absurd z (by decide)) (λ_=>?_)
 refine Io (λ_=>?_) (λz=>absurd (by decide+kernel) z)
 exact EJ (L_ hT (EO h))
theorem zC{S:E1}{o:Obj}{es ep t hs}(O:SO prog w o es ep t hs):KdlSrc prog w "set" S S es.size (λi v=>(cj w S es ep)[i]?=some v) (λh=>h.get? S=some o) where
 type:=λ_ hm=>⟨o,hm,O.ex.1⟩
 there:=λ_ hm=>⟨EZ hm,EZ hm⟩
 keep:=λ_ _ hm hk=>hk S (.inl rfl) o hm
 notList:=by decide
 notTuple:=by decide
 hint:=λ_ _ _ _ hm hq=>x8 ⟨o,hm,O.ex.1⟩ hq
 iter:=λ_ s hh hm=>⟨_,_,(λ_ _ hq=>yt O hm hq),vy hh (Fy (EZ hm)) O,⟨⟨_,E3 _ rfl,rfl,by simp[aY,fP]⟩,EN _ hm⟩⟩
end
end ST
namespace ST
open PySem PySem.W PyProof.Rows
inductive gi (lt:Nat->Nat->Bool) (n:Nat) {α:Type}:KasT α->α->Prop
 |ret (a:α):gi lt n (.ret a) a
 |ask {i j:Nat}{k:Bool->KasT α}{a:α}:i<n->j<n->gi lt n (k (lt i j)) a->gi lt n (.ask i j k) a
variable {lt:Nat→Nat→Bool}{n:Nat}
theorem gi.bind{α β:Type}{t:KasT α}{a:α}{f:α->KasT β}{b:β}(h:gi lt n t a)(h':gi lt n (f a) b):gi lt n (t.bind f) b:=by
 induction h with
 |ret a=>exact h'
 |ask hi hj _ ih=>exact gi.ask hi hj (ih h')
theorem gi.wp{α:Type}{t:KasT α}{a:α}(h:gi lt n t a){cmp:Nat->Nat->(Bool->ER->Prop)->ER->Prop}{s:ER}(hc:∀i j C,i<n->j<n->C (lt i j) s->cmp i j C s){Q:α->ER->Prop}(q:Q a s):t.kasWp cmp Q s:=by
 induction h with
 |ret a=>exact q
 |ask hi hj _ ih=>exact hc _ _ _ hi hj (ih q)
structure LtO(n:Nat)(lt:Nat->Nat->Bool):Prop where
 tr:∀i j k,lt i j=true->lt j k=true->lt i k=true
 tot:∀i j,i<n->j<n->i≠j->lt i j=false->lt j i=true
 asy:∀i j,lt i j=true->lt j i=false
abbrev g(p:Array Nat)(k:Nat):Nat:=p.getD k 0
theorem zB{p q:Array Nat}{k l:Nat}(h:p[k]?=q[l]?):g p k=g q l:=by
 unfold g;rw[GD,GD,h]
structure PP(n:Nat)(p:Array Nat):Prop where
 perm:p.toList.Perm (F3 n)
theorem PP.size{p:Array Nat}(h:PP n p):p.size=n:=by rw[<-E_,h.perm.length_eq,La]
theorem PP.mem{p:Array Nat}(h:PP n p){k:Nat}(hk:k<n):g p k<n:=by
 have SU:k<p.size:=by rw[h.size];exact hk
 have e:g p k=p[k]:=by simp[g,Hl,SU]
 rw[e];exact Fo.mp (h.perm.mem_iff.mp (by simp))
theorem PP.inj{p:Array Nat}(h:PP n p){k l:Nat}(hk:k<n)(hl:l<n)(e:g p k=g p l):k=l:=by
 have SU:k<p.toList.length:=by rw[E_,h.size];exact hk
 have P8:l<p.toList.length:=by rw[E_,h.size];exact hl
 have nd:p.toList.Nodup:=h.perm.nodup_iff.mpr LH;have e1:g p k=p.toList[k]:=by simp[g,Hl,h.size,hk]
 have e2:g p l=p.toList[l]:=by simp[g,Hl,h.size,hl]
 exact (J_ nd).mp (by rw[<-e1,<-e2,e])
theorem PP.of{p q:Array Nat}(h:PP n p)(hq:q.Perm p):PP n q:=⟨(Array.perm_iff_toList_perm.mp hq).trans h.perm⟩
def Srt(lt:Nat->Nat->Bool)(p:Array Nat)(m:Nat):Prop:=∀i j,i<j->j<m->lt (g p i) (g p j)=true
def Dsc(lt:Nat->Nat->Bool)(p:Array Nat)(m:Nat):Prop:=∀i j,i<j->j<m->lt (g p j) (g p i)=true
theorem Srt.one(p:Array Nat):Srt lt p 1:=λi j h1 h2=>by lia
theorem Srt.more(O:LtO n lt){p:Array Nat}{m:Nat}(S:Srt lt p m)(h1:1<=m)(h:lt (g p (m-1)) (g p m)=true):Srt lt p (m+1):=λi j QR hj=>by
 rcases Fu (GZ hj) with z |z
 ·exact S i j QR z
 ·subst z;rcases Fu (show i<=j-1 by lia) with y |y
  ·exact O.tr _ _ _ (S i (j-1) y (by lia)) h
  ·subst y;exact h
theorem Dsc.more(O:LtO n lt){p:Array Nat}{m:Nat}(S:Dsc lt p m)(h1:1<=m)(h:lt (g p m) (g p (m-1))=true):Dsc lt p (m+1):=λi j QR hj=>by
 rcases Fu (GZ hj) with z |z
 ·exact S i j QR z
 ·subst z;rcases Fu (show i<=j-1 by lia) with y |y
  ·exact O.tr _ _ _ h (S i (j-1) y (by lia))
  ·subst y;exact h
theorem mV(O:LtO n lt){p:Array Nat}(P:PP n p):∀(f m:Nat),1<=m->m+f=n->Srt lt p m->∃m',gi lt n (kas_asc p f m) m'/\m<=m'/\m'<=n/\Srt lt p m'/\(m'<n->lt (g p m') (g p (m'-1))=true)
 |0,m,h1,hf,S=>⟨m,.ret m,EX _,by lia,S,λh=>by lia⟩
 |f+1,m,h1,hf,S=>by
  by_cases hc:lt (g p m) (g p (m-1))=true
  ·refine⟨m,.ask (P.mem (by lia)) (P.mem (by lia)) ?_,EX _,by lia,S,λ_=>hc⟩
   rw[if_pos hc];exact .ret m
  ·have Ru:lt (g p m) (g p (m-1))=false:=by simpa using hc
   have ht:=O.tot _ _ (P.mem (show m<n by lia)) (P.mem (show m-1<n by lia)) (λe=>by have:=P.inj (by lia) (by lia) e;lia) Ru
   obtain⟨m',r,a1,a2,a3,a4⟩:=mV O P f (m+1) (by lia) (by lia) (S.more O h1 ht)
   refine⟨m',.ask (P.mem (by lia)) (P.mem (by lia)) ?_,by lia,a2,a3,a4⟩
   rw[if_neg hc];exact r
theorem oY(O:LtO n lt){p:Array Nat}(P:PP n p):∀(f m:Nat),1<=m->m+f=n->Dsc lt p m->∃m',gi lt n (kas_desc f p m 0) (p,m',0)/\m<=m'/\m'<=n/\Dsc lt p m'
 |0,m,h1,hf,S=>⟨m,.ret _,EX _,by lia,S⟩
 |f+1,m,h1,hf,S=>by
  by_cases hc:lt (g p m) (g p (m-1))=true
  ·obtain⟨m',r,a1,a2,a3⟩:=oY O P f (m+1) (by lia) (by lia) (S.more O h1 hc)
   refine⟨m',.ask (P.mem (by lia)) (P.mem (by lia)) ?_,by lia,a2,a3⟩
   rw[if_pos hc,if_neg (by lia)];exact r
  ·have Ru:lt (g p m) (g p (m-1))=false:=by simpa using hc
   have ht:=O.tot _ _ (P.mem (show m<n by lia)) (P.mem (show m-1<n by lia)) (λe=>by have:=P.inj (by lia) (by lia) e;lia) Ru
   refine⟨m,.ask (P.mem (by lia)) (P.mem (by lia)) ?_,EX _,by lia,S⟩
   rw[if_neg hc];refine .ask (P.mem (by lia)) (P.mem (by lia)) ?_
   rw[if_pos ht];exact .ret _
theorem wC{p:Array Nat}(P:PP n p){m k:Nat}(hm:m<=n)(hk:k<m):g (kas_rev p 0 m) k=g p (m-1-k):=by
 refine zB ?_;unfold kas_rev;rw[getElem?_mirror (by rw[P.size];exact hm) _ (by lia)]
 split
 ·congr 1;lia
 ·congr 1;lia
theorem vN{p:Array Nat}(P:PP n p)(i j:Nat):PP n (kas_rev p i j):=P.of (mirror_perm _ _ _ _)
theorem yR{p:Array Nat}(P:PP n p){m:Nat}(hm:m<=n)(D:Dsc lt p m):Srt lt (kas_rev p 0 m) m:=λi j QR hj=>by
 rw[wC P hm (by lia),wC P hm hj]
 exact D _ _ (by lia) (by lia)
theorem uJ(O:LtO n lt){p:Array Nat}(P:PP n p)(h2:2<=n):∃m p',gi lt n (kas_count n p) (m,p')/\PP n p'/\1<=m/\m<=n/\Srt lt p' m:=by
 obtain⟨m,r,a1,a2,a3,a4⟩:=mV O P (n-1) 1 (EX _) (by lia) (Srt.one p)
 by_cases hm:m=n
 ·exact⟨m,p,r.bind (by rw[if_pos (by simp[hm])];exact .ret _),P,a1,a2,a3⟩
 ·have PN:¬ ((m==n)=true):=by simpa using hm
  by_cases h1:m >1
  ·refine⟨m,p,r.bind ?_,P,a1,a2,a3⟩;rw[if_neg PN,if_pos h1];refine .ask (P.mem (by lia)) (P.mem (by lia)) ?_
   rw[if_pos (a3 0 (m-1) (by lia) (by lia))]
   exact .ret _
  ·obtain rfl:m=1:=by lia
   have D2:Dsc lt p 2:=Dsc.more O (λi j x y=>by lia) (EX _) (a4 (by lia))
   obtain⟨d,rd,b1,b2,b3⟩:=oY O P (n-2) 2 (by lia) (by lia) D2
   obtain⟨e,re,c1,c2,c3,c4⟩:=mV O (vN P 0 d) (n-d) d (by lia) (by lia) (yR P b2 b3)
   refine⟨e,kas_rev p 0 d,r.bind ?_,vN P 0 d,by lia,c2,c3⟩
   rw[if_neg PN,if_neg h1];unfold kas_descPart;refine gi.bind (a:=(p,d,0)) rd ?_;rw[if_neg (by simp)]
   unfold kas_tail3;exact re.bind (.ret _)
theorem iS(O:LtO n lt){p:Array Nat}(P:PP n p){k:Nat}(hk:k<n)(S:Srt lt p k):∀(f l r:Nat),l<=r->r<=k->r-l<=f->(∀i,i<l->lt (g p i) (g p k)=true)->(∀i,r<=i->i<k->lt (g p k) (g p i)=true)->
  ∃l',gi lt n (kas_place p k f l r) l'/\l'<=k/\(∀i,i<l'->lt (g p i) (g p k)=true)/\(∀i,l'<=i->i<k->lt (g p k) (g p i)=true)
 |0,l,r,h1,h2,h3,a,b=>⟨l,.ret l,by lia,a,λi x y=>b i (by lia) y⟩
 |f+1,l,r,h1,h2,h3,a,b=>by
  unfold kas_place;by_cases hlr:l ≥ r
  ·rw[if_pos hlr];exact⟨l,.ret l,by lia,a,λi x y=>b i (by lia) y⟩
  ·rw[if_neg hlr];have hm:(l+r)/2<k:=by lia
   by_cases hc:lt (g p k) (g p ((l+r)/2))=true
   ·obtain⟨l',r',x1,x2,x3⟩:=iS O P hk S f l ((l+r)/2) (by lia) (by lia) (by lia) a λi hi hik=>by
     rcases Fu hi with z |z
     ·exact O.tr _ _ _ hc (S _ _ z hik)
     ·rw[<-z];exact hc
    refine⟨l',.ask (P.mem hk) (P.mem (by lia)) ?_,x1,x2,x3⟩
    rw[if_pos hc];exact r'
   ·have Ru:lt (g p k) (g p ((l+r)/2))=false:=by simpa using hc
    have ht:=O.tot _ _ (P.mem hk) (P.mem (show (l+r)/2<n by lia)) (λe=>by have:=P.inj hk (by lia) e;lia) Ru
    obtain⟨l',r',x1,x2,x3⟩:=iS O P hk S f ((l+r)/2+1) r (by lia) h2 (by lia) (λi hi=>by
     rcases Fu (GZ hi) with z |z
     ·exact O.tr _ _ _ (S _ _ z hm) ht
     ·rw[z];exact ht) b
    refine⟨l',.ask (P.mem hk) (P.mem (by lia)) ?_,x1,x2,x3⟩
    rw[if_neg hc];exact r'
theorem rT(O:LtO n lt):∀(f k:Nat) (p:Array Nat),k+f=n->PP n p->Srt lt p k->∃p',gi lt n (kas_bin f p k) p'/\PP n p'/\Srt lt p' n
 |0,k,p,hf,P,S=>⟨p,.ret p,P,by rw[<-hf];exact S⟩
 |f+1,k,p,hf,P,S=>by
  obtain⟨l,rl,x1,x2,x3⟩:=iS O P (show k<n by lia) S k 0 k (FX _) (EX _) (by lia) (λi h=>by lia) (λi h h'=>by lia)
  have at_:∀j,g (Pb p k (k-l)) j=if j=l then g p k else if l<j/\j<=k then g p (j-1) else g p j:=λj=>by
   have e:=getElem?_bubble (xs:=p) (src:=k) (by rw[P.size];lia) (k-l) (by lia) j
   rw[show k-(k-l)=l by lia]at e
   split
   ·rename_i z;rw[if_pos z]at e;exact zB e
   ·rename_i z
    rw[if_neg z]at e;split
    ·rename_i y;rw[if_pos y]at e;exact zB e
    ·rename_i y;rw[if_neg y]at e;exact zB e
  have e1:g (Pb p k (k-l)) l=g p k:=by rw[at_,if_pos rfl]
  have e2:∀j,l<j->j<=k->g (Pb p k (k-l)) j=g p (j-1):=λj y z=>by rw[at_,if_neg (by lia),if_pos ⟨y,z⟩]
  have e3:∀j,j<l->g (Pb p k (k-l)) j=g p j:=λj y=>by rw[at_,if_neg (by lia),if_neg (by lia)]
  have S':Srt lt (Pb p k (k-l)) (k+1):=λi j QR hj=>by
   rcases Hk j l with y |y |y
   ·rw[e3 i (by lia),e3 j y];exact S _ _ QR (by lia)
   ·rw[y,e1,e3 i (by lia)];exact x2 i (by lia)
   ·rw[e2 j y (by lia)]
    rcases Hk i l with z |z |z
    ·rw[e3 i z];exact S _ _ (by lia) (by lia)
    ·rw[z,e1];exact x3 (j-1) (by lia) (by lia)
    ·rw[e2 i z (by lia)];exact S _ _ (by lia) (by lia)
  obtain⟨p',r',P',S''⟩:=rT O f (k+1) (Pb p k (k-l)) (by lia) (P.of (bubble_perm _ _ _)) S'
  exact⟨p',rl.bind r',P',S''⟩
theorem px(O:LtO n lt)(h2:2<=n):∃p,gi lt n (kas_sort n) p/\PP n p/\Srt lt p n:=by
 obtain⟨m,p,r,P,a1,a2,S⟩:=uJ O (p:=Nv (F3 n)) ⟨by simp⟩ h2
 by_cases hm:m<n
 ·obtain⟨p',r',P',S'⟩:=rT O (n-max m 1) (max m 1) p (by lia) P (by rw[show max m 1=m by lia];exact S)
  exact⟨p',r.bind (by rw[if_pos hm];exact r'),P',S'⟩
 ·obtain rfl:m=n:=by lia
  exact⟨p,r.bind (by rw[if_neg hm];exact .ret _),P,S⟩
def ltP(a b:Int×Int):Bool:=decide (a.1<b.1\/(a.1=b.1/\a.2<b.2))
theorem gZ{a b c:Int×Int}(h1:ltP a b=true)(h2:ltP b c=true):ltP a c=true:=by
 unfold ltP at *;simp at *;lia
theorem fC{a b:Int×Int}(h1:ltP a b=true):ltP b a=false:=by
 unfold ltP at *;simp at *;lia
theorem ltP_tot{a b:Int×Int}(h:a≠b)(h1:ltP a b=false):ltP b a=true:=by
 unfold ltP at *;have:¬ (a.1=b.1/\a.2=b.2):=λz=>h (GC z.1 z.2)
 simp at *;lia
section
variable {prog:E2}{w:Fs}{A:Fq}{E:EU→ER→Prop}{s:ER}
theorem TK.two{h:Gz}{x y:Int}{b:E1}(k:TK prog w h [x,y] b):∃o PH n t u,h.get? b=some o∧o.cls=.type "tuple"∧o.data=.seq PH n∧PH.toList=[.int x t,.int y u]:=by
 obtain⟨o,PH,n,ho,hc,hd,hi⟩:=k;cases PY:PH.toList with
 |nil=>rw[PY]at hi;cases hi
 |cons v1 r=>
  rw[PY]at hi;cases hi with
  |cons h1 hr=>
   cases hr with
   |cons h2 hr2=>
    cases hr2;obtain⟨t,rfl⟩:=JJ h1;obtain⟨u,rfl⟩:=JJ h2;exact⟨o,PH,n,t,u,ho,hc,hd,PY⟩
theorem xU{x y:E1}{a b:Int×Int}{Q:Bool->ER->Prop}(hx:TK prog w s.heap [a.1,a.2] x)(hy:TK prog w s.heap [b.1,b.2] y)(h:Q (ltP a b) s):Fd (FF prog w) A (keyLt' (KY true) (.ref x) (.ref y)) Q E s:=by
 obtain⟨o,PH,n,t,u,ho,_,hd,hi⟩:=hx.two;obtain⟨o',its',n',t',u',QO,_,Qt,PY⟩:=hy.two;refine kat_lt ho hd QO Qt ?_;rw[hi,PY];refine kat_cons ((JK prog w).eqBool (a:=a.1) (b:=b.1) (Gq _ _ _ _) (Gq _ _ _ _) ?_);by_cases e1:a.1=b.1
 ·rw[decide_eq_true e1];refine kat_yes (kat_cons ((JK prog w).eqBool (a:=a.2) (b:=b.2) (Gq _ _ _ _) (Gq _ _ _ _) ?_));by_cases e2:a.2=b.2
  ·rw[decide_eq_true e2];refine kat_yes (kat_nil ?_);have z:ltP a b=false:=by unfold ltP;simp;lia
   rw[z]at h
   have z2:decide (PH.size<its'.size)=false:=by
    rw[<-E_,<-E_,hi,PY];simp
   rw[z2];exact h
  ·rw[decide_eq_false e2];refine kat_no (kat_one _ _ (lt_int ?_));have z:ltP a b=decide (a.2<b.2):=by unfold ltP;rw[e1];simp
   rw[z]at h;exact h
 ·rw[decide_eq_false e1];refine kat_no (oneLt_int ?_);have z:ltP a b=decide (a.1<b.1):=by unfold ltP;simp[e1]
  rw[z]at h;exact h
abbrev PB:=List ((Int×Int)×E1)
abbrev refs(pb:PB):List EU:=pb.map λp=>Ft p.2
def dfl:(Int×Int)×E1:=((0,0),0)
theorem rc(pb:PB):(F3 pb.length).map (λi=>pb.getD i dfl)=pb:=by
 apply NC
 ·simp
 ·intro i h1 h2;simp at h1;simp[h1]
theorem oy{pb:PB}{Q:I0->ER->Prop}(Q1:∀p∈pb,TK prog w s.heap [p.1.1,p.1.2] p.2)(h0:0<pb.length)(h:Q (KY true) s):Fd (FF prog w) A (OW (refs pb).toArray) Q E s:=by
 obtain⟨fs,hf,hl,hi⟩:∃fs,KatTups s.heap (refs pb) fs/\fs.length=pb.length/\∀v∈fs,∃n t,v=FZ n t:=by
  clear h h0
  induction pb with
  |nil=>exact⟨[],.nil,rfl,λv hv=>by simp at hv⟩
  |cons p r ih=>
   obtain⟨fs,hf,hl,hi⟩:=ih λq hq=>Q1 q (ES _ hq)
   obtain⟨o,PH,n,t,u,ho,hc,hd,QU⟩:=(Q1 p EY).two;refine⟨.int p.1.1 t::fs,.cons ho hc hd (by rw[<-FU,QU];rfl) hf,by simp[hl],λv hv=>?_⟩
   rcases ET.mp hv with z |z
   ·exact⟨_,_,z⟩
   ·exact hi v z
 refine kat_kind (T:=.type "int") hf (by lia) (λv hv=>?_) (by decide) h
 obtain⟨n,t,rfl⟩:=hi v hv;exact Looks.of_pure rfl
theorem xY{a:E1}{pb:PB}{n:Nat}{P:M3→ER→Prop}(ho:s.heap.get? a=some (KG "list" (refs pb).toArray n))(Q1:∀p∈pb,TK prog w s.heap [p.1.1,p.1.2] p.2)(Rm:(pb.map (·.1)).Nodup)(h64:pb.length<64)
  (h:∀Qs:PB,Qs.Perm pb->(Qs.map (·.1)).Pairwise (λx y=>ltP x y=true)->P (.done (.ret .none)) {s with heap:=sortedHeap s.heap a (refs pb) (refs Qs).toArray }):
  Fd (FF prog w) A (Builtin.«list.sort» ⟨[.ref a],[]⟩) P E s:=by
 have Sv:(refs pb).length=pb.length:=by simp
 have RD:(refs pb).toArray.size=pb.length:=by simp
 rw[NZ];have ha:a<s.heap.objs.size:=EZ ho;refine EJ (listItems_at ho rfl (EJ (JB ho rfl ?_ (by rw[RD,Gp];lia) (FX _))))
 obtain⟨e1,ho1⟩:∃e1,(s.heap.update a (FP λ_=>(#[]:Array EU))).get? a=some (KG "list" #[] e1):=⟨_,N0 ho (λ_=>#[])⟩
 refine EJ (Kp ho1 rfl (EJ (KZ ?_ (by show (refs pb).length<=_;rw[Sv,Gp];lia))))
 refine EJ (Lr ?_ (FX _));refine F6 ?_;generalize hh6:((s.heap.update a (FP λ_=>(#[]:Array EU))).push (KG "tuple" (refs pb).toArray 0)).push (KG "list" #[] 0)=h6
 have old6:∀b o,b≠a->s.heap.get? b=some o->h6.get? b=some o:=λb o hb e=>by
  rw[<-hh6];exact EN _ (EN _ ((Fk _ _ (Ne.symm hb)).trans e))
 have Sw:h6.get? a=some (KG "list" #[] e1):=by rw[←hh6];exact EN _ (EN _ ho1)
 have tk6:∀p∈pb,TK prog w h6 [p.1.1,p.1.2] p.2:=λp hp=>by
  obtain⟨o,PH,k,hop,hc,r⟩:=Q1 p hp;refine⟨o,PH,k,old6 p.2 o (λz=>?_) hop,hc,r⟩
  rw[z,ho]at hop;cases hop;exact absurd hc (by show ¬ (Gm "list"=Gm "tuple");decide)
 have P4:∀Qs:PB,Qs.Perm pb->(Qs.map (·.1)).Pairwise (λx y=>ltP x y=true)->P (.done (.ret .none)) {s with heap:=h6.update a (FP λ_=>(refs Qs).toArray) }:=λQs p1 p2=>by
  rw[<-hh6];exact h Qs p1 p2
 show Fd (FF prog w) A _ P E {s with heap:=h6 }
 dsimp only;by_cases h2:(refs pb).toArray.size<2
 ·rw[if_pos h2,if_pos h2];refine EJ (EO ?_);rw[StateT.run_pure];refine EJ (EO ?_);dsimp only
  have eout:(arrOf (SortSt.mk' general' ((refs pb).toArray.zip (refs pb).toArray) #[] 7 none)).map (·.2)=(refs pb).toArray:=by
   show (((refs pb).toArray.zip (refs pb).toArray)).map (·.2)=_;apply LK.mp
   have zip2:∀l:List EU,(l.zip l).map (·.2)=l:=λl=>by
    induction l with
    |nil=>rfl
    |cons x r ih=>rw[GB,Ff,ih]
   rw[LL,ND];exact zip2 _
  rw[eout];refine EJ (Kp Sw rfl (EJ (JB Sw rfl ?_ (FX _) (by rw[RD,Gp];lia))))
  show Fd _ _ (if (e1 !=e1)=true then _ else _) _ _ _
  rw[if_neg (by simp)]
  refine EO (P4 pb (KO _) ?_)
  match pb,RD,h2 with
  |[],_,_=>simp
  |[_],_,_=>simp
  |_::_::r,RD,h2=>rw[RD]at h2;exact absurd h2 (by simp)
 ·rw[if_neg h2,if_neg h2];rw[RD]at h2;have h2':2<=(refs pb).length:=by rw[Sv];lia
  refine EJ (oy (s:={s with heap:=h6 }) tk6 (by lia) ?_)
  have inj:∀i j,i<pb.length->j<pb.length->i≠j->(pb.getD i dfl).1≠(pb.getD j dfl).1:=λi j hi hj QR e=>by
   refine QR ((J_ (xs:=pb.map (·.1)) (h₀:=by simpa using hi) (h₁:=by simpa using hj) Rm).mp ?_)
   simpa [hi,hj] using e
  have O:LtO pb.length (λi j=>ltP (pb.getD i dfl).1 (pb.getD j dfl).1):=⟨λi j k=>gZ,λi j hi hj QR=>ltP_tot (inj i j hi hj QR),λi j=>fC⟩
  obtain⟨p,R,RE,S⟩:=px O (by lia)
  have hcmp:∀i j C,i<pb.length->j<pb.length->C (ltP (pb.getD i dfl).1 (pb.getD j dfl).1) {s with heap:=h6 }->kas_ask prog w A (KY true) (refs pb) i j C {s with heap:=h6 }:=λi j C hi hj c=>by
   unfold kas_ask;have ei:(refs pb).getD i Fl=.ref (pb.getD i dfl).2:=by simp[hi]
   have ej:(refs pb).getD j Fl=.ref (pb.getD j dfl).2:=by simp[hj]
   rw[ei,ej];have mi:pb.getD i dfl∈pb:=by simp[hi]
   have mj:pb.getD j dfl∈pb:=by simp[hj]
   exact xU (s:={s with heap:=h6 }) (tk6 _ mi) (tk6 _ mj) c
  have tree:(kas_sort (refs pb).length).kasWp (kas_ask prog w A (KY true) (refs pb)) (λp' s'=>p'=p/\s'={s with heap:=h6 }) {s with heap:=h6 }:=by
   rw[Sv];exact R.wp hcmp ⟨rfl,rfl⟩
  refine EJ (HS (kat_run (Q:=λQw s'=>s'={s with heap:=h6 }/\failedOf Qw=none/\(arrOf Qw).map (·.2)=Nv (p.toList.map λi=>(refs pb).getD i Fl)) rfl h2' (by rw[Sv];exact h64) (λp' Qw s' _ a2 a3 a4=>?_) tree) ?_ λ_ _ e=>e)
  ·obtain⟨rfl,rfl⟩:=a4;exact⟨rfl,a3,kat_snds rfl a2⟩
  ·rintro ⟨⟨⟩,Qw⟩ s' ⟨rfl,hf,hout⟩;dsimp only;rw[hout];have PU:∀i∈p.toList,i<pb.length:=λi hi=>Fo.mp (RE.perm.mem_iff.mp hi)
   have er:(p.toList.map λi=>(refs pb).getD i Fl)=refs (p.toList.map λi=>pb.getD i dfl):=by
    unfold refs;rw[FI];refine Kq λi hi=>?_
    have:=PU i hi;simp[this]
   rw[er]
   have RW:(p.toList.map λi=>pb.getD i dfl).Perm pb:=by
    refine (RE.perm.map _).trans ?_;rw[rc]
   have Qq:(refs (p.toList.map λi=>pb.getD i dfl)).toArray.size=pb.length:=by simp[RE.size]
   refine EJ (Kp Sw rfl (EJ (JB Sw rfl ?_ (FX _) (by rw[Qq,Gp];lia))))
   rw[hf];show Fd _ _ (if (e1 !=e1)=true then _ else _) _ _ _
   rw[if_neg (by simp)]
   refine EO (P4 _ RW ?_);rw[FI,FO,FE];intro i j hi hj QR;have hj':j<pb.length:=by rw[E_,RE.size]at hj;exact hj
   have q:=S i j QR hj';have ei:g p i=p.toList[i]:=by simp[g,Hl,RE.size,show i<pb.length by lia]
   have ej:g p j=p.toList[j]:=by simp[g,Hl,RE.size,hj']
   rw[ei,ej]at q;exact q
end
end ST
namespace ST
open PySem PySem.W PyProof.Rows PySem.Calls
theorem vV{α β:Type}(f:α->β){l m:List β}(h:l.Perm m):∀kb:List α,m=kb.map f->∃Q5:List α,M4 Q5 kb/\l=List.map f Q5:=by
 induction h with
 |nil=>intro kb e;exact⟨kb,.refl _,e⟩
 | @cons x l m _ ih=>
  intro kb e
  match kb,e with
  |[],e=>simp at e
  |k::kb,e=>
   rw[Ff,N1]at e;obtain⟨Q5,p,e'⟩:=ih kb e.2;exact⟨k::Q5,p.cons k,by rw[Ff,<-e',e.1]⟩
 |swap x y l=>
  intro kb e
  match kb,e with
  |[],e=>simp at e
  |[_],e=>simp at e
  |k::k'::kb,e=>
   simp only[Ff,N1]at e;exact⟨k'::k::kb,.swap k k' kb,by rw[Ff,Ff,<-e.2.2,e.1,e.2.1]⟩
 |trans _ _ ih1 ih2=>
  intro kb e;obtain⟨kb2,p2,e2⟩:=ih2 kb e;obtain⟨SX,p1,e1⟩:=ih1 kb2 e2;exact⟨SX,p1.trans p2,e1⟩
def ptsOf(kb:List (List Int×E1)):PB:=kb.map λp=>((p.1.getD 0 0,p.1.getD 1 0),p.2)
section
variable {prog:E2}{w:Fs}{A:Fq}{E:EU→ER→Prop}{s:ER}
theorem call_sorted_set{S:E1}{kb:List (List Int×E1)}{Q:EU->ER->Prop}(hh:A.handled=none)(P:SP prog w s.heap S kb)(h64:kb.length<64)(h2:∀p∈kb,p.1.length=2)
  (h:∀(h1 h':Gz) (tk:Nat) (pb:PB) (e:Nat),M4 pb (ptsOf kb)→(pb.map (·.1)).Pairwise (λx y=>ltP x y=true)→(∀b o,s.heap.get? b=some o→h1.get? b=some o)→(∀b o,h1.get? b=some o→h'.get? b=some o)→h'.get? h1.objs.size=some (KG "list" (refs pb).toArray e)→Q (.ref h1.objs.size) {s with heap:=h',toks:=tk }):
  Fd (FF prog w) A (call (.builtin "sorted") [.ref S]) Q E s:=by
 obtain⟨⟨o,es,ep,t,ho,hex,hd,he,T,hl,hp,_,_⟩,hk,Rm⟩:=P;have Qr:es.size=kb.length:=by rw[<-E_,he];simp[ents]
 have O:SO prog w o es ep t (kb.map λp=>hsh prog w p.1):=⟨hex,hd,T,by rw[EM,Qr],hl,hp⟩
 have two:∀p∈kb,p.1=[p.1.getD 0 0,p.1.getD 1 0]:=λp QV=>by
  have:=h2 p QV
  match hq:p.1,this with
  |[x,y],_=>rfl
 refine call_function_entry kind_sorted plain_sorted entry_sorted (args_sorted1 _) ?_;unfold Builtin.«sorted»;refine EJ (m:=checkCount "sorted" 1 1 _) (EO ?_);refine EJ (kdu_collect (A:=A.in1) (zC O) hh ho (by rw[Qr,Gp];lia) λh' tk acc keep Sx=>?_)
 have QW:acc.toList=cj w S es ep:=by
  apply HH;intro i;rcases G0 i acc.size with z |z
  ·rw[FU,Gx z];exact (Sx.2 i _ (Gx z)).symm
  ·rw[FC (by simpa using z),FC]
   rw[(eW w S es ep).length_eq,EM,E_,<-Sx.1];exact z
 obtain⟨SX,pk,ek⟩:=vV (λ(p:List Int×E1)=>Ft p.2) (eW w S es ep) kb (by rw[he];unfold ents;rw[FI];rfl)
 have Qk:acc.toList=refs (ptsOf SX):=by
  rw[QW,ek];unfold refs ptsOf;rw[FI];rfl
 have Rh:(ptsOf SX).length=kb.length:=by unfold ptsOf;rw[EM,pk.length_eq]
 have hlenA:acc.toList.length=kb.length:=by rw[Qk];simp[Rh]
 refine EJ (Lr ?_ (by rw[hlenA,Gp];lia))
 have hD:(h'.push {cls:=.type "list",data:=.seq acc.toList.toArray }).get? h'.objs.size=some (KG "list" (refs (ptsOf SX)).toArray 0):=by
  rw[<-Qk];exact E3 _ rfl
 have tk1:∀p∈ptsOf SX,TK prog w (h'.push {cls:=.type "list",data:=.seq acc.toList.toArray }) [p.1.1,p.1.2] p.2:=λp QV=>by
  obtain⟨q,hq,rfl⟩:=EV.mp QV;have Qb:=pk.mem_iff.mp hq;obtain⟨oq,PH,k,hoq,r⟩:=hk q Qb;have e2:=two q Qb;refine⟨oq,PH,k,EN _ (keep _ _ hoq),?_⟩;rw[<-e2];exact r
 have nd1:((ptsOf SX).map (·.1)).Nodup:=by
  have n1:(SX.map (·.1)).Nodup:=((pk.map (·.1)).nodup_iff).mpr Rm;unfold ptsOf;rw[FI];refine FO.mpr ((FO.mp n1).imp_of_mem λ{a b} ha hb Qy=>?_)
  intro z;have ea:=two a (pk.mem_iff.mp ha);have eb:=two b (pk.mem_iff.mp hb);have z':(a.1.getD 0 0,a.1.getD 1 0)=(b.1.getD 0 0,b.1.getD 1 0):=z;rw[JC]at z';rw[z'.1,z'.2]at ea;exact Qy (ea.trans eb.symm)
 refine EJ (F6 (F4 Om ⟨_,hD,rfl⟩ N2 ?_ (On _)));refine xY (s:={s with heap:=h'.push {cls:=.type "list",data:=.seq acc.toList.toArray },toks:=tk }) hD tk1 nd1 (by lia) λQs pp so=>⟨_,rfl,EO ⟨_,rfl,?_⟩⟩
 obtain⟨e,eD⟩:=sortedHeap_at (out:=(refs Qs).toArray) hD;refine h h' _ tk Qs e (pp.trans ?_) so keep (λb x RN=>?_) eD
 ·unfold ptsOf;exact pk.map _
 ·have PU:=EZ RN;rw[Oo (Fy PU) (by rw[Gb];exact GY PU)]
  exact EN _ RN
end
end ST
namespace ST
open PySem
def ins(x:Int×Int):List (Int×Int)->List (Int×Int)
 |[]=>[x]
 |y::r=>if x=y then y::r else if ltP x y=true then x::y::r else y::ins x r
def srt(pts:List (Int×Int)):List (Int×Int):=pts.foldr ins []
theorem ins_mem(x z:Int×Int):∀l,z∈ins x l↔z=x\/z∈l
 |[]=>by simp[ins]
 |y::r=>by
  unfold ins;split
  ·rename_i h;subst h;simp
  ·split
   ·simp
   ·rw[ET,ins_mem x z r,ET];constructor
    ·rintro (h |h |h)
     ·exact .inr (.inl h)
     ·exact .inl h
     ·exact .inr (.inr h)
    ·rintro (h |h |h)
     ·exact .inr (.inl h)
     ·exact .inl h
     ·exact .inr (.inr h)
abbrev Asc(l:List (Int×Int)):Prop:=l.Pairwise (λx y=>ltP x y=true)
theorem ins_asc(x:Int×Int):∀l,Asc l->Asc (ins x l)
 |[],_=>by simp[ins]
 |y::r,h=>by
  unfold ins;split
  ·exact h
  ·rename_i PN
   obtain⟨h1,h2⟩:=Fv.mp h;split
   ·rename_i PU
    refine Fv.mpr ⟨λz hz=>?_,h⟩
    rcases ET.mp hz with e |e
    ·rw[e];exact PU
    ·exact gZ PU (h1 z e)
   ·rename_i PU
    refine Fv.mpr ⟨λz hz=>?_,ins_asc x r h2⟩
    rcases (ins_mem x z r).mp hz with e |e
    ·rw[e];exact ltP_tot PN (by simpa using PU)
    ·exact h1 z e
theorem srt_mem(z:Int×Int):∀l,z∈srt l↔z∈l
 |[]=>by simp[srt]
 |y::r=>by
  show z∈ins y (srt r)↔_;rw[ins_mem,srt_mem z r,ET]
theorem srt_asc:∀l,Asc (srt l)
 |[]=>IX
 |y::r=>ins_asc y (srt r) (srt_asc r)
theorem asc_irr{x:Int×Int}:ltP x x=false:=by unfold ltP;simp
theorem asc_one:∀{l m:List (Int×Int)},Asc l->Asc m->(∀z,z∈l↔z∈m)->l=m
 |[],[],_,_,_=>rfl
 |[],y::r,_,_,h=>by have:=(h y).mpr EY;simp at this
 |x::l,[],_,_,h=>by have:=(h x).mp EY;simp at this
 |x::l,y::m,hl,hm,h=>by
  obtain⟨a1,a2⟩:=Fv.mp hl;obtain⟨b1,b2⟩:=Fv.mp hm
  have e:x=y:=by
   rcases ET.mp ((h x).mp EY) with z |z
   ·exact z
   ·rcases ET.mp ((h y).mpr EY) with z' |z'
    ·exact z'.symm
    ·have:=fC (b1 x z);rw[a1 y z']at this;cases this
  subst e;congr 1;refine asc_one a2 b2 λz=>⟨λhz=>?_,λhz=>?_⟩
  ·rcases ET.mp ((h z).mp (ES _ hz)) with e |e
   ·have:=a1 z hz;rw[e,asc_irr]at this;cases this
   ·exact e
  ·rcases ET.mp ((h z).mpr (ES _ hz)) with e |e
   ·have:=b1 z hz;rw[e,asc_irr]at this;cases this
   ·exact e
theorem asc_srt{l:List (Int×Int)}(h:Asc l):srt l=l:=asc_one (srt_asc l) h λz=>srt_mem z l
theorem tJ(x:Int×Int):∀l,(ins x l).length<=l.length+1
 |[]=>by simp[ins]
 |y::r=>by
  have:=tJ x r;unfold ins;split
  ·simp
  ·split
   ·simp
   ·simp only[FV];lia
theorem srt_len:∀l,(srt l).length<=l.length
 |[]=>EX _
 |y::r=>by
  have h1:=tJ y (srt r);have h2:=srt_len r;show (ins y (srt r)).length<=_;simp only[FV];lia
end ST
namespace L2
open PySem PySem.Spec PyProof.Rows
theorem En{p:Nat->E1->Prop}{n:Nat}(h:∀i,i<n->∃b,p i b):∃f:Nat->E1,∀i,i<n->p i (f i):=by
 refine⟨λi=>if k:i<n then Classical.choose (h i k) else 0,λi hi=>?_⟩
 dsimp only;rw[dif_pos hi];exact Classical.choose_spec (h i hi)
theorem xT:GU "set"=some (.type "set"):=by decide+kernel
section
variable {X:Cx}{H0:Hp}{O0:List E1}{ps:PSt}{e:Expr}{pts:List P2}{pos P9 p p':Pos}
theorem gr(hc:X.calm=true)(hu:X.A.units+10<II)(hg:Gl X "sorted")(hm:X.mg "sorted"=none)(hgs:Gl X "set")(hms:X.mg "set"=none)(ha:Ev X H0 O0 ps e (lp pts))(hl:pts.length<64)
  (he:E4 [e] X.env=(false,HE e X.env)::E4 [] X.env:=by rfl):EvN X H0 O0 ps (.Call (.Name "sorted" p) [.Call (.Name "set" p') [e] [] P9] [] pos) ((ST.srt pts).map pu):=by
 rintro pins s σ H Q I ⟨O,R,q⟩;have hh:X.A.handled=none:=I.ok.hd hc;refine Gh (ca I hg hm boot_sorted ?_);refine callWith_builtin1 (e:=.Call (.Name "set" p') [e] [] P9) (rest:=[]) ?_ rfl rfl;show Fd _ _ (OP ((false,HE (.Call (.Name "set" p') [e] [] P9) X.env)::Iu pos (E4 [] X.env))) _ _ s;refine Jy ?_;refine Gh (ca I hgs hms xT ?_);refine callWith_type1 (thn (ci ha eP he P9 pins s σ H (λvs H1=>∃v,vs=[v]/\aJ H H1/\Rp X.K (hid H1 O) v (lp pts)) I ⟨O,R,λv H1 s1 r1=>⟨v,rfl,s1,r1⟩⟩) λus s1 hx=>?_) he rfl
 obtain⟨vs,H1,I1,rv,v,rfl,sm,rp⟩:=hx;obtain⟨u,rfl,ru⟩:=eY rv;cases rp with
 | @lst a ws _ hq hwl hwi=>
  cases ru;obtain⟨PH,RH,pl,hz⟩:=I1.list (SqL.of (ax _ _ hq));have hlp:ws.length=pts.length:=by rw[hwl,EM]
  have hil:PH.length=pts.length:=by rw[<-RH.length,hlp]
  have item:∀i,i<pts.length->∃b,PH[i]?=some (.ref b)/\Rp X.K (hid H1 O) (.ref b) (pu (pts.getD i (0,0)))/\ST.TK X.prog X.w s1.heap [(pts.getD i (0,0)).1,(pts.getD i (0,0)).2] b:=λi hi=>by
   have hw:ws[i]?=some ws[i]:=EK (by lia)
   have hp:(pts.map pu)[i]?=some (pu (pts.getD i (0,0))):=by rw[EW,EK hi];simp[hi]
   have r:=hwi i _ _ hw hp;obtain⟨u',e1,e2⟩:=RH.get hw;generalize ws[i]=z at *;cases r with
   | @tup b zs _ hs hsl hsi=>
    cases e2;refine⟨b,e1,Rp.tup hs hsl hsi,?_⟩;obtain⟨jts,rj,ht,_⟩:=I1.tuple (by exact ax.tup hs)
    have z0:zs.length=2:=hsl
    match zs,z0,hsi,rj with
    |[z1,z2],_,hsi,rj=>
     have q1:=hsi 0 z1 _ rfl rfl;have q2:=hsi 1 z2 _ rfl rfl;cases q1;cases q2;obtain⟨u1,u2,rfl,r1,r2⟩:=gG rj;obtain⟨t1,rfl⟩:=r1;obtain⟨t2,rfl⟩:=r2;obtain⟨o,ho,RG,n,Sy⟩:=ht;exact⟨o,_,n,ho,RG,Sy,.cons (Gq _ _ _ _) (.cons (Gq _ _ _ _) .nil)⟩
  obtain⟨Q2,SY⟩:=En item;have Qr:PH.toArray.size=pts.length:=by simp[hil]
  refine ST.call_set_pts (λi=>([(pts.getD i (0,0)).1,(pts.getD i (0,0)).2],Q2 i)) hh (by show X.A.units+1+1+1<II;lia) pl.isList (λi z ez=>?_) (λi hi=>?_) (by rw[Qr];lia) λh2 tk kb sp got keep=>?_
  ·have hi:i<pts.length:=by have:=aL (show PH[i]?=some z by simpa using ez);lia
   have:=(SY i hi).1;rw[show PH.toArray[i]?=PH[i]? by simp,this]at ez
   cases ez;rfl
  ·exact (SY i (by rw[Qr]at hi;exact hi)).2.2
  ·rw[Qr]at got;have I2:Inv X pins σ H1 {s1 with heap:=h2,toks:=tk }:=I1.kept (t':=tk) keep
   refine JL ?_;have hkl:kb.length<64:=by have:=got.len;lia
   refine ST.call_sorted_set (s:={s1 with heap:=h2,toks:=tk }) hh sp hkl (λz hz=>by obtain⟨j,_,rfl⟩:=got.src z hz;rfl) λh3 h4 tk2 pb ep pm so k1 k2 hD=>?_
   have I3:Inv X pins σ H1 {s1 with heap:=h3,toks:=tk2 }:=I2.kept (t':=tk2) k1
   have src:∀z∈pb,∃j,j<pts.length/\z=(pts.getD j (0,0),Q2 j):=λz hz=>by
    obtain⟨y,hy,rfl⟩:=EV.mp (pm.mem_iff.mp hz);obtain⟨j,hj,rfl⟩:=got.src y hy;exact⟨j,hj,rfl⟩
   have epts:pb.map (·.1)=ST.srt pts:=by
    refine ST.asc_one so (ST.srt_asc pts) λz=>?_
    rw[ST.srt_mem];constructor
    ·intro hz;obtain⟨y,hy,rfl⟩:=EV.mp hz;obtain⟨j,hj,rfl⟩:=src y hy;simp[hj]
    ·intro hz;obtain⟨j,hj⟩:=F9.mp hz;have hjl:=aL hj;have hk:=got.all j hjl;obtain⟨y,hy,ey⟩:=EV.mp hk;have Su:((y.1.getD 0 0,y.1.getD 1 0),y.2)∈ST.ptsOf kb:=EV.mpr ⟨y,hy,rfl⟩;have hin':=pm.mem_iff.mpr Su;refine EV.mpr ⟨_,hin',?_⟩;rw[ey];have:pts.getD j (0,0)=z:=by rw[Fe,hj];rfl
     show ((pts.getD j (0,0)).1,(pts.getD j (0,0)).2)=z;rw[this]
   have fr:H1 h3.objs.size=none:=I3.hok.fresh (EX _);refine⟨.ref h3.objs.size,upd H1 h3.objs.size (.lst (pb.map λz=>V.ref z.2)),?_,rfl,?_⟩
   ·refine I3.laid (t':=tk2) k2 (EX _) ⟨?_,(ST.refs pb),ep,?_,hD⟩
    ·rw[EM,<-EM (f:=(·.1)),epts,Gp];have:=ST.srt_len pts;lia
    ·have all:∀l:ST.PB,aQ (l.map λz=>V.ref z.2) (ST.refs l):=λl=>by
      induction l with
      |nil=>exact .nil
      |cons z r ih=>exact .cons rfl ih
     exact all pb
   ·refine q _ _ _ (sm.trans (aM fr _)) (sm.free fr) aK ⟨?_,λi z x e1 e2=>?_⟩
    ·rw[EM,<-epts,EM,EM]
    ·rw[<-epts,FI,EW]at e2;rw[EW]at e1;cases hpi:pb[i]? with
     |none=>rw[hpi]at e1;cases e1
     |some y=>
      rw[hpi]at e1 e2;cases e1;cases e2;obtain⟨j,hj,rfl⟩:=src y (E9 hpi);exact (SY j hj).2.1.same (bn (aM fr _) fr)
end
end L2
namespace ST
open PySem
section
variable {prog:E2}{w:Fs}{A:Fq}{s:ER}{R:Nr→ER→Prop}{I:E1}{fp wr:List E1}{G:Array IV→Array IV→Prop}{n:Nat}{P:Nat→EU→Prop}{St:Nat→ER→Prop}{T:String}
def xa(prog:E2)(w:Fs)(T:String):Prop:=∀(A:Fq) (E:EU->ER->Prop) (s:ER) (r:E1) (Q:Bool->ER->Prop),s.TypeIs (.ref r) T->(∀b,Q b s)->Fd (FF prog w) A (Builtin.List.listLengthHint (.ref r)) Q E s
theorem uo(W:WalksS prog w A.in1 I fp wr G n P St)(hT:∀i s,St i s→s.TypeIs (.ref I) T)(hl:(Gm T==Gm "list")=false)(ht:(Gm T==Gm "tuple")=false)(hint:xa prog w T)(S:E1)(res:EU)(c₀:Nat)(QM:St 0 s)(QL:S ∉ fp)(hI:I∈fp)
  (hS:s.heap.get? S=some {cls:=.type "list",data:=.seq #[] c₀ })
  (hR:∀s' Qz c',Moved (S::wr) G s s'→s'.heap.get? S=some {cls:=.type "list",dict:=none,data:=.seq Qz c',slots:=#[] }→ItemsOf P Qz n→R (.ok (.ret res)) s') (hn:n≤sizeLine):
  Fd (FF prog w) A.in1 (Builtin.List.listExtendWith (.ref S) (.ref I) res)
   (λP4 s'=>match P4 with | .done f=>R (.ok f) s' | .again c'=>c'.quiet=true/\IJ (FF prog w) A c' R s') (λe s'=>R (.error e) s') s:=by
 have hSI:S≠I:=λe=>QL (e ▸ hI)
 unfold Builtin.List.listExtendWith;refine EJ (L_ (hT 0 _ QM) ?_);have k1:Builtin.List.listSameRef (.ref S) (.ref I)=false:=by simp[Builtin.List.listSameRef,hSI]
 simp only[k1,hl,ht,OX,Fb,if_false];refine EJ (W.self 0 _ _ _ QM (EJ (F6 (hint _ _ _ _ _ (hT 0 _ QM) λb=>?_))))
 refine Io (λ_=>?_) (λ_=>?_)
 ·refine EJ (IA (EJ ?_));show Fd _ A.in1 (Ji S (·.push .none) >>=λ_=>Ji S (·.pop)) _ _ _
  refine EJ (Gw hS rfl ?_);have g2:=FB (FP (·.push Fl)) hS rfl;refine Gw (hz:=by seq_fits) g2 rfl ?_
  have g3:=FB (FP (·.pop)) g2 rfl;have Qm:∀b o,b≠S->s.heap.get? b=some o->((s.heap.update S (FP (·.push Fl))).update S (FP (·.pop))).get? b=some o:=λb o hb e=>(Fk _ _ (Ne.symm hb)).trans ((Fk _ _ (Ne.symm hb)).trans e)
  refine EO ⟨GA Gy _,Mz W hn _ QL _ n 0 _ _ _ rfl (FX _) (W.frame 0 s _ s.toks QM (EX _) λb hb o e=>Qm b o (λz=>QL (z ▸ hb)) e) g3 (ItemsOf.nil P) λs' Qz c' m g' it=>?_⟩
  exact hR s' Qz c' (Moved.trans W.gtrans ((Moved.refl W.grefl).then_heap (EX _) λb o hb e=>Qm b o (λz=>hb (z ▸ EY)) e) m) g' it
 ·exact EO ⟨GA Gy _,Mz W hn _ QL _ n 0 _ _ _ rfl (FX _) QM hS (ItemsOf.nil P) λs' Qz c' m g' it=>hR s' Qz c' m g' it⟩
theorem Am(W:WalksS prog w A.in1 I fp wr G n P St)(hT:∀i s,St i s→s.TypeIs (.ref I) T)(hl:(Gm T==Gm "list")=false)(ht:(Gm T==Gm "tuple")=false)(hint:xa prog w T)(S:E1)(QM:St 0 s)(QL:S ∉ fp)(hI:I∈fp)
  (hS:s.heap.get? S=some {cls:=.type "list",data:=.seq #[] })
  (hR:∀s' Qz c',Moved (S::wr) G s s'→s'.heap.get? S=some {cls:=.type "list",dict:=none,data:=.seq Qz c',slots:=#[] }→ItemsOf P Qz n→R (.ok (.ret .none)) s') (hn:n≤sizeLine):
  Fd (FF prog w) A.in1 (Builtin.«list.__init__» ⟨[.ref S,.ref I],[]⟩)
   (λP4 s'=>match P4 with | .done f=>R (.ok f) s' | .again c'=>c'.quiet=true/\IJ (FF prog w) A c' R s') (λe s'=>R (.error e) s') s:=by
 show Fd _ A.in1 (Builtin.List.listItems (.ref S) >>=λold=>Builtin.List.listUpdate (.ref S) (λ_=>#[]) >>=λ_=>letGo old.toList.reverse >>=λ_=>Builtin.List.listExtendWith (.ref S) (.ref I) .none) _ _ s
 refine EJ ?_;unfold Builtin.List.listItems;refine EJ (F7 hS rfl (EO ?_));show Fd _ A.in1 (Ji S (λ_=>#[]) >>=λ_=>letGo (#[]:Array EU).toList.reverse >>=λ_=>Builtin.List.listExtendWith (.ref S) (.ref I) .none) _ _ s
 refine EJ (Gw hS rfl ?_);have g2:=FB (FP (λ_=>(#[]:Array EU))) hS rfl
 have Qm:∀b o,b≠S->s.heap.get? b=some o->(s.heap.update S (FP (λ_=>(#[]:Array EU)))).get? b=some o:=λb o hb e=>(Fk _ _ (Ne.symm hb)).trans e
 refine EJ (HN ?_);refine uo W hT hl ht hint S .none _ (W.frame 0 s _ s.toks QM (EX _) λb hb o e=>Qm b o (λz=>QL (z ▸ hb)) e) QL hI g2 (λs' Qz c' m g' it=>?_) hn
 exact hR s' Qz c' (Moved.trans W.gtrans ((Moved.refl W.grefl).then_heap (EX _) λb o hb e=>Qm b o (λz=>hb (z ▸ EY)) e) m) g' it
variable {E:EU→ER→Prop}
theorem call_list_it{Q:EU→ER→Prop}(W:WalksS prog w A.in1.in1 I fp wr G n P St)(hT:∀i s,St i s→s.TypeIs (.ref I) T)(hl:(Gm T==Gm "list")=false)(ht:(Gm T==Gm "tuple")=false)(hint:xa prog w T)(QM:St 0 s)(hfp:∀b∈fp,b<s.heap.objs.size)(hI:I∈fp)
  (hQ:∀s' Qz c',Moved (s.heap.objs.size::wr) G {s with heap:=s.heap.push {cls:=.type "list",data:=.seq #[] } } s'→
   s'.heap.get? s.heap.objs.size=some {cls:=.type "list",dict:=none,data:=.seq Qz c',slots:=#[] }→ItemsOf P Qz n→Q (.ref s.heap.objs.size) s') (hn:n≤sizeLine):
  Fd (FF prog w) A (call (.type "list") [.ref I]) Q E s:=by
 have QL:s.heap.objs.size ∉ fp:=λhm=>FG _ (hfp _ hm)
 refine Oq (Q₁:=λobj PR=>obj=.ref s.heap.objs.size∧PR={s with heap:=s.heap.push {cls:=.type "list",data:=.seq #[] } }) MM (Ls _) Lu (code_list_new _ ⟨rfl,rfl⟩) λobj PR h₁=>?_
 obtain⟨rfl,rfl⟩:=h₁;have hS:(s.heap.push {cls:=.type "list",data:=.seq #[] }).get? s.heap.objs.size=some {cls:=.type "list",data:=.seq #[] }:=E3 _ rfl;refine⟨⟨_,hS,rfl⟩,Ld _ _,Am W hT hl ht hint _ (W.frame 0 s _ s.toks QM (EX _) λb _ o e=>EN _ e) QL hI hS (λs' Qz c' m g' it=>?_) hn⟩
 exact⟨rfl,hQ s' Qz c' m g' it⟩
end
theorem zi:Nf (.type "list_reverseiterator") "__len__"=pure none:=by rw[IQ,Hv];kernel_rfl
theorem lf:Slot "list_reverseiterator" "__length_hint__" "list_reverseiterator.__length_hint__":=
 .of (owner:="list_reverseiterator") (n:="__length_hint__") (by rw[IQ,Hv];kernel_rfl) (by decide+kernel) (by decide+kernel) (by decide+kernel) (by first |exact .inl (by decide+kernel) |exact .inr (by decide+kernel)) (by rw[JY];kernel_rfl)
theorem hint_rev(prog:E2)(w:Fs):xa prog w "list_reverseiterator":=λA E s r Q hT h=>by
 unfold Builtin.List.listLengthHint;refine EJ (IP hT zi ?_);show Fd _ A (specialOf (Ft r) (Str.ofString "__length_hint__") >>=_) _ _ _;refine EJ (IP hT lf.lookup ?_);generalize hid:("list_reverseiterator.__length_hint__":String)=id0
 wp_delta
 rw[show splitId id0=some ("list_reverseiterator","__length_hint__") from by subst hid;decide+kernel]
 subst hid;refine EJ (Ha (T:="list_reverseiterator") (b:=true) hT (by rw[JY];kernel_rfl) ?_)
 refine Io (λz=>absurd z (by decide)) (λ_=>?_)
 refine Io (λ_=>?_) (λz=>absurd (by decide+kernel) z)
 refine Io (λz=>absurd z (by decide+kernel)) (λ_=>EO (h _))
end ST
namespace L2
open PySem PySem.Spec PyProof.Rows
theorem kZ:GU "reversed"=some (.type "reversed"):=by decide+kernel
theorem aQ.rev:∀{xs:List V}{us:List EU},aQ xs us->aQ xs.reverse us.reverse:=λ{xs us} r=>by
 induction r with
 |nil=>exact .nil
 | @cons x u xs us r1 r2 ih=>
  rw[JQ,JQ]
  have app:∀{a:List V}{b:List EU},aQ a b->aQ (a++[x]) (b++[u]):=λ{a b} q=>by
   induction q with
   |nil=>exact .cons r1 .nil
   |cons q1 _ ih'=>exact .cons q1 ih'
  exact app ih
theorem Rps.rev{K:EL}{H:Hp}{vs:List V}{xs:List U}(r:Rps K H vs xs):Rps K H vs.reverse xs.reverse:=⟨by simp[r.len],λi v x h1 h2=>by
 have hi:i<vs.length:=by have:=aL h1;simpa using this
 have hx:i<xs.length:=by rw[<-r.len];exact hi
 rw[GF hi]at h1;rw[GF hx,<-r.len]at h2;exact r.at_ _ v x h1 h2⟩
section
variable {X:Cx}{H0:Hp}{O0:List E1}{ps:PSt}{e k:Expr}{x:U}{xs:List U}{pos P9 p p' p2:Pos}
theorem rh{K:EL}{H:Hp}{v:V}(rp:Rp K H v x)(hx:x=.lst xs\/x=.scr xs):∃a vs,v=.ref a/\SqL K H a vs/\Rps K H vs xs:=by
 rcases hx with rfl |rfl
 ·cases rp with
  |lst hq hl hh=>exact⟨_,_,rfl,SqL.of hq,hl,hh⟩
 ·cases rp with
  |scr hq hl hh=>exact⟨_,_,rfl,hq,hl,hh⟩
theorem DE(he:Ev X H0 O0 ps e x)(hk:Ev X H0 O0 ps k (.int (-1)))(hx:x=.lst xs\/x=.scr xs):EvN X H0 O0 ps (.Subscript e (.Slice none none (some k) p2) pos) xs.reverse:=by
 rintro pins s σ H Q I ⟨O,R,q⟩;refine OJ (thn (he pins s σ H (λv H1=>aJ H H1/\Rp X.K (hid H1 O) v x) I ⟨O,R,λv H1 s1 r1=>⟨s1,r1⟩⟩) λu s1 ⟨v,H1,I1,r1,sm,rp⟩=>?_)
 obtain⟨a,vs,rfl,hq,rs⟩:=rh rp hx;cases r1;refine wpAny_Slice ?_;rw[MT];refine EO (EO ?_);rw[evalPart_some];refine thn (hk pins s1 σ H1 (λv H2=>aJ H1 H2/\v=.int (-1)) I1 ⟨O,R.go sm,λv H2 s2 r2=>⟨s2,by cases r2;rfl⟩⟩) λuk s2 hy=>?_
 obtain⟨vk,H2,I2,rk,s12,rfl⟩:=hy;obtain⟨t,rfl⟩:=rk;have I3:Inv X pins σ H2 {s2 with heap:=s2.heap.push {cls:=.type "slice",data:=.fields #[.none,.none,.int (-1) t] } }:=I2.kept (t':=s2.toks) λb ob z=>EN _ z
 obtain⟨PH,rv,pl,hz⟩:=I3.list (s12.seq (ax.seq hq));have PL:=rv.length;show Fd (FF X.prog X.w) X.A (MV e (.Slice none none (some k) p2) (.ref a) (.ref s2.heap.objs.size)) (EP X pins σ Q) X.xe {s2 with heap:=s2.heap.push {cls:=.type "slice",data:=.fields #[.none,.none,.int (-1) t] } }
 refine tail_any (ops:=[.ref a,.ref s2.heap.objs.size]) pl.isList.typeIs slot_list_getitem.lookup ?_ (by with_unfolding_all rfl)
 refine K8 pl.isList (MU ..) .none .none (IsPart.int _ _) (by simp) ?_ (by rw[E7];lia)
 rw[PySem.W.krv_pick];generalize hn:(s2.heap.push {cls:=.type "slice",data:=.fields #[.none,.none,.int (-1) t] }).objs.size=D;have fr:H2 D=none:=I3.hok.fresh (by rw[<-hn];exact EX _)
 refine⟨.ref D,upd H2 D (.lst vs.reverse),I3.laid (t':=s2.toks) (o:=.lst vs.reverse) (λb ob z=>EN _ z) (by rw[<-hn];exact EX _) ⟨by rw[FR];exact hz,PH.reverse,0,rv.rev,?_⟩,rfl,?_⟩
 ·rw[<-hn];exact E3 _ rfl
 ·refine q D _ _ ((sm.trans s12).trans (aM fr _)) ((sm.trans s12).free fr) aK ?_;exact (rs.rev.same (aC s12)).same (bn (aM fr _) fr)
theorem vC(hc:X.calm=true)(hg:Gl X "list")(hm:X.mg "list"=none)(hgr:Gl X "reversed")(hmr:X.mg "reversed"=none)(ha:Ev X H0 O0 ps e (.lst xs))
  (he:E4 [e] X.env=(false,HE e X.env)::E4 [] X.env:=by rfl):EvN X H0 O0 ps (.Call (.Name "list" p) [.Call (.Name "reversed" p') [e] [] P9] [] pos) xs.reverse:=by
 rintro pins s σ H Q I ⟨O,R,q⟩;have hh:X.A.handled=none:=I.ok.hd hc;refine Gh (ca I hg hm Ip ?_);refine callWith_type1 (e:=.Call (.Name "reversed" p') [e] [] P9) (rest:=[]) ?_ aN rfl;rw[aN];show Fd _ _ (OP ((false,HE (.Call (.Name "reversed" p') [e] [] P9) X.env)::Iu pos (E4 [] X.env))) _ _ s;refine Jy ?_;refine Gh (ca I hgr hmr kZ ?_);refine callWith_type1 (thn (ci ha eP he P9 pins s σ H (λvs H1=>∃v,vs=[v]/\aJ H H1/\Rp X.K (hid H1 O) v (.lst xs)) I ⟨O,R,λv H1 s1 r1=>⟨v,rfl,s1,r1⟩⟩) λus s1 hx=>?_) he rfl
 obtain⟨vs,H1,I1,rv,v,rfl,sm,rp⟩:=hx;obtain⟨u,rfl,ru⟩:=eY rv;obtain⟨a,ws,rfl,hq,rs⟩:=rh rp (.inl rfl);cases ru;obtain⟨PH,RH,pl,hz⟩:=I1.list (ax.seq hq);have PL:=RH.length;have Qr:PH.toArray.size=PH.length:=by simp
 refine call_reversed_list pl.isList ?_;have I2:Inv X pins σ H1 {s1 with heap:=s1.heap.push (Pw a ((PH.toArray.size:Int)-1)) }:=I1.kept (t':=s1.toks) λb ob z=>EN _ z
 refine JL ?_;have QW:a<s1.heap.objs.size:=by obtain⟨o,ho,_⟩:=pl.isList;exact EZ ho
 have W:=(Walks.listRev (prog:=X.prog) (w:=X.w) (A:=X.A.in1.in1) hh s1.heap.objs.size a (Fy QW) PH.toArray).toS;refine ST.call_list_it (T:="list_reverseiterator") (s:={s1 with heap:=s1.heap.push (Pw a ((PH.toArray.size:Int)-1)) }) W (λi s' st=>st.2.1.typeIs) (by decide) (by decide) (ST.hint_rev _ _) ⟨FX _,⟨_,E3 _ rfl,rfl,by simp[Pw]⟩,pl.isList.push _⟩ (λb hb=>?_) (by simp) (λs3 acc c m hD QU=>?_) (by rw[Qr];lia)
 ·show b<(s1.heap.push _).objs.size;rw[Gb];simp at hb;rcases hb with z |z
  ·rw[z];exact GR _
  ·rw[z];exact GY QW
 ·obtain⟨h3,g3,d3,tk3,os3⟩:=s3;obtain rfl:g3=s1.gens:=m.gens;obtain rfl:d3=s1.drawn:=m.drawn;obtain rfl:os3=s1.os:=m.os;have szI:(s1.heap.push (Pw a ((PH.toArray.size:Int)-1))).objs.size=s1.heap.objs.size+1:=Gb ..
  have keep:∀b ob,s1.heap.get? b=some ob->h3.get? b=some ob:=λb ob z=>by
   have hb:=EZ z;refine m.heap b ob (λy=>?_) (EN _ (EN _ z))
   rcases ET.mp y with y |y
   ·rw[y]at hb;have RN:s1.heap.objs.size+1<s1.heap.objs.size:=by rw[<-szI];exact hb
    exact absurd RN (by lia)
   ·rw[E5.mp y]at hb;exact FG _ hb
  have Sx:acc.toList=PH.reverse:=by
   apply HH;intro i;rcases G0 i acc.size with z |z
   ·have y:=QU.2 i _ (Gx z);have hi:i<PH.length:=by rw[QU.1,Qr]at z;exact z
    rw[FU,Gx z,GF hi,<-y,Qr];simp
   ·have hi:PH.length<=i:=by rw[QU.1,Qr]at z;exact z
    rw[FC (by simpa using z),FC (by simpa using hi)]
  generalize hn:(s1.heap.push (Pw a ((PH.toArray.size:Int)-1))).objs.size=D at *;have fr:H1 D=none:=I2.hok.fresh (by rw[<-hn];exact EX _)
  have I3:Inv X pins σ (upd H1 D (.lst ws.reverse)) {s1 with heap:=h3,toks:=tk3 }:=I1.laid (t':=tk3) (o:=.lst ws.reverse) keep (by rw[szI];exact Nat.le_succ _) ⟨by rw[FR];exact hz,PH.reverse,c,RH.rev,by rw[<-Sx,Array.toArray_toList];exact hD⟩
  refine⟨.ref D,_,I3,rfl,q D _ _ (sm.trans (aM fr _)) (sm.free fr) aK ?_⟩;exact rs.rev.same (bn (aM fr _) fr)
end
section
variable {X:Cx}{H0:Hp}{O0:List E1}{ps:PSt}{xs:List U}{us:List U}{es:List Expr}{x:Str}{pc p' pos:Pos}
theorem b8(n:Nat)(h:ps[n]?=some (some (.own xs)))(hg:Gl X "len")(hm:X.mg "len"=none)(hN:X.N[n]?=some x:=by rfl)(hv:Vis X.env.scope x:=by first |exact Or.inl rfl |exact Or.inr (Or.inl rfl) |exact Or.inr (Or.inr rfl))(hd:(x==("__debug__":Str))=false:=by decide)
  (QD:(x==("__classdict__":Str))=false:=by decide) (QA:(Iu pos (E4 [] X.env)).any (·.1)=false:=by rfl):Ev X H0 O0 ps (.Call (.Name "len" pc) [.Name x p'] [] pos) (.int xs.length):=By n h hg hm hN hv hd QD ag QA
end
end L2
namespace ST
open PySem
abbrev io(h:Gz)(z TI TO T:E1)(b:Bool):Prop:=h.get? z=some {cls:=.type "zip",dict:=none,data:=.fields #[Jw T,.bool b,.bool false,.ref TI,.ref TO],slots:=#[] }
variable {prog:E2}{E:EU→ER→Prop}
section
variable {w:Fs}{A:Fq}{s:ER}
theorem DL{T:E1}{o:Obj}{Q:Option Obj->ER->Prop}(h:s.heap.get? T=some o)(q:Q (some o) s):Fd (FF prog w) A (loadIfAlive T) Q E s:=λΓ p hΓ=>by
 unfold loadIfAlive;rw[Sem.wp_loadIfAlive,h];simpa using q
theorem fO{z TI TO T:E1}{b:Bool}{oT:Obj}{Q:Bool->ER->Prop}(hz:io s.heap z TI TO T b)(hT:s.heap.get? T=some oT)(h:∀h',io h' z TI TO T true->IH z s.heap h'->Q false {s with heap:=h' }):
  Fd (FF prog w) A (Builtin.SmallTypes.ownedTupleIsFree (.ref z)) Q E s:=by
 unfold Builtin.SmallTypes.ownedTupleIsFree;refine EJ (Gr hz rfl (x:=Jw T) rfl ?_);dsimp only[Jw];refine EJ (DL (T:=(T:Int).toNat) (o:=oT) (by rw[G3];exact hT) ?_)
 rw[if_neg (by simp)]
 refine EJ (Gr hz rfl (x:=.bool b) rfl ?_);cases b with
 |true=>
  rw[if_neg (by decide)]
  exact EO (h s.heap hz (Nj _ _))
 |false=>
  rw[if_pos (by decide)]
  refine EJ (HX hz (by simp) λh₁ hz₁ hs₁=>EO (h h₁ hz₁ hs₁))
theorem wV{z TI TO i1 i2 l1 l2 T:E1}{b:Bool}{oT:Obj}{k1 k2:Nat}{xs ys:Array EU}{x y:EU}{Q:EU->ER->Prop}(D:Ij z TI TO i1 i2 l1 l2)
  (hz:io s.heap z TI TO T b) (hT:s.heap.get? T=some oT) (Rz:Hb s.heap TI (.ref i1) (.ref i2))
  (h1:s.heap.IsListIter i1 l1 k1) (h2:s.heap.IsListIter i2 l2 k2) (Qk:s.heap.IsList l1 xs) (P7:s.heap.IsList l2 ys) (hx:xs[k1]?=some x) (hy:ys[k2]?=some y)
  (hQ:∀h',io h' z TI TO T true->h'.IsListIter i1 l1 (k1+1)->h'.IsListIter i2 l2 (k2+1)->Hb h' s.heap.objs.size x y->(∀c o,c≠z->c≠i1->c≠i2->s.heap.get? c=some o->h'.get? c=some o)->Q (.ref s.heap.objs.size) {s with heap:=h' }):
  Fd (FF prog w) A (Builtin.«zip.__next__» ⟨[.ref z],[]⟩) (λP4 s'=>∃v,P4=.done (.ret v)/\Q v s') E s:=by
 show Fd _ _ (Nl (.ref z) 2 >>=_) _ _ _;refine EJ (Gr hz rfl (x:=.bool false) rfl ?_);show Fd _ _ (Nl (.ref z) 3 >>=_) _ _ _;refine EJ (Gr hz rfl (x:=.ref TI) rfl (EJ (F7 Rz rfl ?_)));show Fd _ _ (Builtin.SmallTypes.ownedTupleIsFree (.ref z) >>=_) _ _ _;refine EJ (fO hz hT λha za sa=>?_)
 simp only[Fb,if_false];refine EJ ?_;rw[<-IF];show Fd _ _ (forIn [Ft i1,Ft i2] _ _) _ _ _;simp only[Ht,Ic];refine EJ (EJ (F6 ?_));show Fd _ _ (Builtin.SmallTypes.nextOf (.ref i1) >>=_) _ _ _;refine EJ (IC (h1.extBut sa.extBut D.i1z) (Qk.extBut sa.extBut D.l1z) hx λhb b1 sb=>EO ?_)
 dsimp only;refine EO ?_;dsimp only;refine EJ (EJ (F6 ?_));show Fd _ _ (Builtin.SmallTypes.nextOf (.ref i2) >>=_) _ _ _;refine EJ (IC ((h2.extBut sa.extBut D.i2z).extBut sb.extBut D.i12.symm) ((P7.extBut sa.extBut D.l2z).extBut sb.extBut D.l2i1) hy λhc c2 sc=>EO ?_)
 dsimp only;refine EO (EO ?_);dsimp only;refine EJ (KZ ?_ (by show 2<=sizeLine;rw[Gp];lia))
 have Qr:hc.objs.size=s.heap.objs.size:=by rw[sc.1,sb.1,sa.1]
 have zc:io hc z TI TO T true:=sc.extBut _ _ D.i2z.symm (sb.extBut _ _ D.i1z.symm za);refine EO ⟨_,rfl,?_⟩;show Q (.ref hc.objs.size) _;rw[Qr];refine hQ _ (EN _ zc) (((b1.extBut sc.extBut D.i12)).at λo e=>EN _ e) (c2.at λo e=>EN _ e) ?_ λc o n1 n2 n3 e=>EN _ (sc.extBut _ _ n3 (sb.extBut _ _ n2 (sa.extBut _ _ n1 e)))
 rw[<-Qr];exact E3 _ rfl
theorem l_{z TI TO i1 i2 l1 l2 T:E1}{b:Bool}{oT:Obj}{k1:Nat}{xs:Array EU}{Q:M3->ER->Prop}(hh:A.handled=none)(D:Ij z TI TO i1 i2 l1 l2)
  (hz:io s.heap z TI TO T b) (hT:s.heap.get? T=some oT) (Rz:Hb s.heap TI (.ref i1) (.ref i2))
  (h1:s.heap.IsListIter i1 l1 k1) (Qk:s.heap.IsList l1 xs) (hx:xs[k1]?=none)
  (hE:∀h' e,(∀c o,c≠z→c≠i1→c≠i2→s.heap.get? c=some o→h'.get? c=some o)→(∃o,h'.get? e=some o∧o.cls=.type "StopIteration")→E (.ref e) {s with heap:=h' }):
  Fd (FF prog w) A (Builtin.«zip.__next__» ⟨[.ref z],[]⟩) Q E s:=by
 show Fd _ _ (Nl (.ref z) 2 >>=_) _ _ _;refine EJ (Gr hz rfl (x:=.bool false) rfl ?_);show Fd _ _ (Nl (.ref z) 3 >>=_) _ _ _;refine EJ (Gr hz rfl (x:=.ref TI) rfl (EJ (F7 Rz rfl ?_)));show Fd _ _ (Builtin.SmallTypes.ownedTupleIsFree (.ref z) >>=_) _ _ _;refine EJ (fO hz hT λha za sa=>?_)
 simp only[Fb,if_false];refine EJ ?_;rw[<-IF];show Fd _ _ (forIn [Ft i1,Ft i2] _ _) _ _ _;simp only[Ht,Ic];refine EJ (EJ (F6 ?_));show Fd _ _ (Builtin.SmallTypes.nextOf (.ref i1) >>=_) _ _ _;refine EJ (Mf hh (h1.extBut sa.extBut D.i1z) (Qk.extBut sa.extBut D.l1z) hx λhb e sb he=>?_)
 exact hE hb e (λc o n1 n2 n3 q=>sb _ _ n2 (sa.extBut _ _ n1 q)) he
theorem k7{z TI TO i1 i2 l1 l2 T:E1}{b:Bool}{oT:Obj}{k1 k2:Nat}{xs ys:Array EU}{x:EU}{Q:M3->ER->Prop}(hh:A.handled=none)(D:Ij z TI TO i1 i2 l1 l2)
  (hz:io s.heap z TI TO T b) (hT:s.heap.get? T=some oT) (Rz:Hb s.heap TI (.ref i1) (.ref i2))
  (h1:s.heap.IsListIter i1 l1 k1) (h2:s.heap.IsListIter i2 l2 k2) (Qk:s.heap.IsList l1 xs) (P7:s.heap.IsList l2 ys) (hx:xs[k1]?=some x) (hy:ys[k2]?=none)
  (hE:∀h' e,(∀c o,c≠z→c≠i1→c≠i2→s.heap.get? c=some o→h'.get? c=some o)→(∃o,h'.get? e=some o∧o.cls=.type "StopIteration")→E (.ref e) {s with heap:=h' }):
  Fd (FF prog w) A (Builtin.«zip.__next__» ⟨[.ref z],[]⟩) Q E s:=by
 show Fd _ _ (Nl (.ref z) 2 >>=_) _ _ _;refine EJ (Gr hz rfl (x:=.bool false) rfl ?_);show Fd _ _ (Nl (.ref z) 3 >>=_) _ _ _;refine EJ (Gr hz rfl (x:=.ref TI) rfl (EJ (F7 Rz rfl ?_)));show Fd _ _ (Builtin.SmallTypes.ownedTupleIsFree (.ref z) >>=_) _ _ _;refine EJ (fO hz hT λha za sa=>?_)
 simp only[Fb,if_false];refine EJ ?_;rw[<-IF];show Fd _ _ (forIn [Ft i1,Ft i2] _ _) _ _ _;simp only[Ht,Ic];refine EJ (EJ (F6 ?_));show Fd _ _ (Builtin.SmallTypes.nextOf (.ref i1) >>=_) _ _ _;refine EJ (IC (h1.extBut sa.extBut D.i1z) (Qk.extBut sa.extBut D.l1z) hx λhb b1 sb=>EO ?_)
 dsimp only;refine EO ?_;dsimp only;refine EJ (EJ (F6 ?_));show Fd _ _ (Builtin.SmallTypes.nextOf (.ref i2) >>=_) _ _ _;refine EJ (Mf hh ((h2.extBut sa.extBut D.i2z).extBut sb.extBut D.i12.symm) ((P7.extBut sa.extBut D.l2z).extBut sb.extBut D.l2i1) hy λhc e sc he=>?_)
 exact hE hc e (λc o n1 n2 n3 q=>sc _ _ n3 (sb.extBut _ _ n2 (sa.extBut _ _ n1 q))) he
theorem uO{z TI TO i1 i2 l1 l2 T:E1}{b:Bool}{oT:Obj}{k1 k2:Nat}{xs ys:Array EU}{x y:EU}{Q:Option EU->ER->Prop}(D:Ij z TI TO i1 i2 l1 l2)
  (hz:io s.heap z TI TO T b) (hT:s.heap.get? T=some oT) (Rz:Hb s.heap TI (.ref i1) (.ref i2))
  (h1:s.heap.IsListIter i1 l1 k1) (h2:s.heap.IsListIter i2 l2 k2) (Qk:s.heap.IsList l1 xs) (P7:s.heap.IsList l2 ys) (hx:xs[k1]?=some x) (hy:ys[k2]?=some y)
  (hQ:∀h',io h' z TI TO T true->h'.IsListIter i1 l1 (k1+1)->h'.IsListIter i2 l2 (k2+1)->Hb h' s.heap.objs.size x y->(∀c o,c≠z->c≠i1->c≠i2->s.heap.get? c=some o->h'.get? c=some o)->Q (some (.ref s.heap.objs.size)) {s with heap:=h' }):
  Fd (FF prog w) A (Iy (.ref z)) Q E s:=by
 have RI:s.TypeIs (.ref z) "zip":=⟨_,hz,rfl⟩;unfold Iy
 exact EJ (IZ (Gi (name:=Str.ofString "__next__") RI Gc
  (F4 Gc RI HP (wV D hz hT Rz h1 h2 Qk P7 hx hy λh' a1 a2 a3 a4 a5=>EO (hQ h' a1 a2 a3 a4 a5)) (HB _))))
theorem kX{z TI TO i1 i2 l1 l2 T:E1}{b:Bool}{oT:Obj}{k1:Nat}{xs:Array EU}{Q:Option EU->ER->Prop}(hh:A.handled=none)(D:Ij z TI TO i1 i2 l1 l2)
  (hz:io s.heap z TI TO T b) (hT:s.heap.get? T=some oT) (Rz:Hb s.heap TI (.ref i1) (.ref i2)) (h1:s.heap.IsListIter i1 l1 k1) (Qk:s.heap.IsList l1 xs) (hx:xs[k1]?=none)
  (hQ:∀h',(∀c o,c≠z->c≠i1->c≠i2->s.heap.get? c=some o->h'.get? c=some o)->Q none {s with heap:=h' }):Fd (FF prog w) A (Iy (.ref z)) Q E s:=by
 have RI:s.TypeIs (.ref z) "zip":=⟨_,hz,rfl⟩;unfold Iy
 refine EJ (IZ (Gi (name:=Str.ofString "__next__") RI Gc
  (F4 Gc RI HP (l_ hh D hz hT Rz h1 Qk hx λh' e hk he=>?_) (HB _))))
 obtain⟨o,ho,hc⟩:=he;refine EJ (Ha (T:="StopIteration") (b:=true) ⟨o,ho,hc⟩ KU ?_);exact EO (hQ h' hk)
theorem kK{z TI TO i1 i2 l1 l2 T:E1}{b:Bool}{oT:Obj}{k1 k2:Nat}{xs ys:Array EU}{x:EU}{Q:Option EU->ER->Prop}(hh:A.handled=none)(D:Ij z TI TO i1 i2 l1 l2)
  (hz:io s.heap z TI TO T b) (hT:s.heap.get? T=some oT) (Rz:Hb s.heap TI (.ref i1) (.ref i2)) (h1:s.heap.IsListIter i1 l1 k1) (h2:s.heap.IsListIter i2 l2 k2) (Qk:s.heap.IsList l1 xs) (P7:s.heap.IsList l2 ys) (hx:xs[k1]?=some x) (hy:ys[k2]?=none)
  (hQ:∀h',(∀c o,c≠z->c≠i1->c≠i2->s.heap.get? c=some o->h'.get? c=some o)->Q none {s with heap:=h' }):Fd (FF prog w) A (Iy (.ref z)) Q E s:=by
 have RI:s.TypeIs (.ref z) "zip":=⟨_,hz,rfl⟩;unfold Iy
 refine EJ (IZ (Gi (name:=Str.ofString "__next__") RI Gc
  (F4 Gc RI HP (k7 hh D hz hT Rz h1 h2 Qk P7 hx hy λh' e hk he=>?_) (HB _))))
 obtain⟨o,ho,hc⟩:=he;refine EJ (Ha (T:="StopIteration") (b:=true) ⟨o,ho,hc⟩ KU ?_);exact EO (hQ h' hk)
end
structure ZL(xs ys:Array EU)(z TI TO i1 i2 l1 l2 S:E1)(h:Gz)(i:Nat)(ad:List E1)(c:Nat):Prop where
 ti:Hb h TI (.ref i1) (.ref i2)
 a1:h.IsListIter i1 l1 i
 a2:h.IsListIter i2 l2 i
 b1:h.IsList l1 xs
 b2:h.IsList l2 ys
 acc:h.get? S=some {cls:=.type "list",dict:=none,data:=.seq (ad.map Ft).toArray c,slots:=#[] }
 len:ad.length=i
 tup:∀(j:Nat) (a:E1),ad[j]?=some a->∃x y,xs[j]?=some x/\ys[j]?=some y/\Hb h a x y
 far:∀a∈ad,a≠z/\a≠TO/\a≠i1/\a≠i2/\a≠S
 to:∃o,h.get? TO=some o
 nd:ad.Nodup
 zz:(i=0/\Lv h z TI TO .none/\∃a b,Hb h TO a b)\/(∃b T,ad[0]?=some T/\io h z TI TO T b)
variable {R:Nr→ER→Prop}
section
variable {w:Fs}{A:Fq}
theorem ZL.put{xs ys:Array EU}{z TI TO i1 i2 l1 l2 S:E1}{h h':Gz}{i:Nat}{ad:List E1}{c:Nat}{a:E1}{x y:EU}(Z:ZL xs ys z TI TO i1 i2 l1 l2 S h i ad c)(D:Ij z TI TO i1 i2 l1 l2)
  (hS:S≠z/\S≠TI/\S≠TO/\S≠i1/\S≠i2/\S≠l1/\S≠l2) (ha:a=h.objs.size) (hzlt:z<h.objs.size) (nto:∃o,h'.get? TO=some o) (hx:xs[i]?=some x) (hy:ys[i]?=some y)
  (n1:h'.IsListIter i1 l1 (i+1)) (n2:h'.IsListIter i2 l2 (i+1)) (np:Hb h' a x y) (nk:∀c o,c≠z->c≠TO->c≠i1->c≠i2->h.get? c=some o->h'.get? c=some o)
  (nz:∃b T,(ad++[a])[0]?=some T/\io h' z TI TO T b):
  ∃c',ZL xs ys z TI TO i1 i2 l1 l2 S (h'.update S (FP (·.push (.ref a)))) (i+1) (ad++[a]) c':=by
 obtain⟨s1,s2,s3,s4,s5,s6,s7⟩:=hS;have gS:h'.get? S=some {cls:=.type "list",dict:=none,data:=.seq (ad.map Ft).toArray c,slots:=#[] }:=nk S _ s1 s3 s4 s5 Z.acc;have Qm:∀b o,b≠S->h'.get? b=some o->(h'.update S (FP (·.push (.ref a)))).get? b=some o:=λb o hb e=>(Fk _ _ (Ne.symm hb)).trans e
 have PU:∀b o,h.get? b=some o->b≠a:=λb o e z=>by rw[z,ha]at e;exact FG _ (EZ e)
 have aS:a≠S:=λe=>PU S _ Z.acc e.symm
 have ai1:a≠i1:=by obtain⟨o,e,_⟩:=Z.a1;exact λq=>PU i1 o e q.symm
 have ai2:a≠i2:=by obtain⟨o,e,_⟩:=Z.a2;exact λq=>PU i2 o e q.symm
 have az:a≠z:=by rw[ha];exact Hs hzlt
 have aTO:a≠TO:=by obtain⟨o,e⟩:=Z.to;exact λq=>PU TO o e q.symm
 obtain⟨c',gS'⟩:∃c',(h'.update S (FP (·.push (.ref a)))).get? S=some {cls:=.type "list",dict:=none,data:=.seq ((ad.map Ft).toArray.push (.ref a)) c',slots:=#[] }:=⟨_,PyProof.Rows.get?_update_seq gS (·.push (.ref a))⟩;refine⟨c',⟨Qm _ _ s2.symm (nk TI _ D.TIz D.TITO D.TIi1 D.TIi2 Z.ti),n1.at λo e=>Qm _ o s4.symm e,n2.at λo e=>Qm _ o s5.symm e,?_,?_,?_,by rw[FM,Z.len];rfl,?_,?_,?_,?_,?_⟩⟩
 ·exact (Z.b1.at λo e=>nk l1 o D.l1z D.l1TO D.l1i1 D.l1i2 e).at λo e=>Qm _ o s6.symm e
 ·exact (Z.b2.at λo e=>nk l2 o D.l2z D.l2TO D.l2i1 D.l2i2 e).at λo e=>Qm _ o s7.symm e
 ·rw[gS'];simp
 ·intro j b hj;rcases G0 j ad.length with q |q
  ·rw[Fh q]at hj;obtain⟨x',y',e1,e2,e3⟩:=Z.tup j b hj;obtain⟨f1,f2,f3,f4,f5⟩:=Z.far b (E9 hj);exact⟨x',y',e1,e2,Qm _ _ f5 (nk b _ f1 f2 f3 f4 e3)⟩
  ·rw[Fj q]at hj
   have hj0:j=i:=by
    have:=(E6.mp hj).1;simp at this;rw[Z.len]at *;lia
   subst hj0;rw[Z.len,Nw]at hj;cases hj;exact⟨x,y,hx,hy,Qm _ _ aS np⟩
 ·intro b hb;rcases FA.mp hb with q |q
  ·exact Z.far b q
  ·rw[E5.mp q];exact⟨az,aTO,ai1,ai2,aS⟩
 ·obtain⟨o,e⟩:=nto;exact⟨o,Qm _ _ s3.symm e⟩
 ·rw[HG];refine⟨Z.nd,by simp,λp hp q hq=>?_⟩
  rw[E5.mp hq];obtain⟨j,hj⟩:=F9.mp hp;obtain⟨_,_,_,_,e⟩:=Z.tup j p hj;exact PU p _ e
 ·obtain⟨b,T,e1,e2⟩:=nz;exact .inr ⟨b,T,e1,Qm _ _ s1.symm e2⟩
structure ZF(xs ys:Array EU)(S:E1)(h:Gz)(ad:List E1)(c:Nat):Prop where
 acc:h.get? S=some {cls:=.type "list",dict:=none,data:=.seq (ad.map Ft).toArray c,slots:=#[] }
 len:ad.length=ys.size
 tup:∀(j:Nat) (a:E1),ad[j]?=some a->∃x y,xs[j]?=some x/\ys[j]?=some y/\Hb h a x y
 ne:∀a∈ad,a≠S
 nd:ad.Nodup
theorem pI(hh:A.in1.handled=none){xs ys:Array EU}{z TI TO i1 i2 l1 l2 S:E1}(D:Ij z TI TO i1 i2 l1 l2)(hS:S≠z/\S≠TI/\S≠TO/\S≠i1/\S≠i2/\S≠l1/\S≠l2)(hxy:ys.size<=xs.size)(hn:xs.size<=1000)(res:EU):
  ∀(k i:Nat) (s:ER) (ad:List E1) (c:Nat),ys.size-i=k->i<=ys.size->ZL xs ys z TI TO i1 i2 l1 l2 S s.heap i ad c->
   (∀h' Q2 c',ZF xs ys S h' Q2 c'->(∀b o,b≠z->b≠TO->b≠i1->b≠i2->b≠S->s.heap.get? b=some o->h'.get? b=some o)->(∀a∈Q2,a∈ad\/s.heap.get? a=none)->R (.ok (.ret res)) {s with heap:=h' })->
   IJ (FF prog w) A (.builtin "list.extend.loop" ⟨[.ref S,.ref z,res],[]⟩) R s:=by
 intro k
 induction k with
 |zero=>
  intro i s ad c hk hi Z hR;obtain rfl:i=ys.size:=by lia
  refine GE K0 ?_;rw[Gf Gy _];show Fd _ A.in1 (Iy (.ref z) >>=_) _ _ s
  have P4:∀h',(∀b o,b≠z->b≠TO->b≠i1->b≠i2->s.heap.get? b=some o->h'.get? b=some o)->R (.ok (.ret res)) {s with heap:=h' }:=λh' kp=>
   hR h' ad c ⟨kp S _ hS.1 hS.2.2.1 hS.2.2.2.1 hS.2.2.2.2.1 Z.acc,Z.len,λj a e=>by
    obtain⟨x,y,e1,e2,e3⟩:=Z.tup j a e;obtain⟨f1,f2,f3,f4,f5⟩:=Z.far a (E9 e);exact⟨x,y,e1,e2,kp a _ f1 f2 f3 f4 e3⟩,λa ha=>(Z.far a ha).2.2.2.2,Z.nd⟩ (λb o n1 n2 n3 n4 _ e=>kp b o n1 n2 n3 n4 e) λa ha=>.inl ha
  rcases Z.zz with ⟨h0,hz,a,b,hTO⟩ |⟨b,T,hT,hz⟩
  ·refine EJ (MA hh D hz Z.ti hTO Z.a1 Z.a2 Z.b1 Z.b2 (.inr (by simp)) λh' kp=>?_)
   exact EO (P4 h' kp)
  ·obtain⟨x,y,_,_,hp⟩:=Z.tup 0 T hT;by_cases hq:ys.size<xs.size
   ·refine EJ (kK hh D hz hp Z.ti Z.a1 Z.a2 Z.b1 Z.b2 (Gx hq) (by simp) λh' kp=>?_)
    exact EO (P4 h' λb o n1 _ n3 n4 e=>kp b o n1 n3 n4 e)
   ·refine EJ (kX hh D hz hp Z.ti Z.a1 Z.b1 (Array.getElem?_eq_none (by lia)) λh' kp=>?_)
    exact EO (P4 h' λb o n1 _ n3 n4 e=>kp b o n1 n3 n4 e)
 |succ k ih=>
  intro i s ad c hk hi Z hR;have PU:i<xs.size:=by lia
  have hly:i+1<=ys.size:=by lia
  have hx:xs[i]?=some xs[i]:=Gx PU;have hy:ys[i]?=some (ys[i]'(by lia)):=Gx (by lia)
  refine GE K0 ?_;rw[Gf Gy _];show Fd _ A.in1 (Iy (.ref z) >>=_) _ _ s
  have go:∀h',(∃b T,(ad++[s.heap.objs.size])[0]?=some T/\io h' z TI TO T b)->(∃o,h'.get? TO=some o)->h'.IsListIter i1 l1 (i+1)->h'.IsListIter i2 l2 (i+1)->Hb h' s.heap.objs.size xs[i] (ys[i]'(by lia))->
    (∀b o,b≠z->b≠TO->b≠i1->b≠i2->s.heap.get? b=some o->h'.get? b=some o)->
    Fd (FF prog w) A.in1 (Ji S (·.push (.ref s.heap.objs.size)) >>=λ_=>again (.builtin "list.extend.loop" ⟨[.ref S,.ref z,res],[]⟩))
     (λP4 s'=>match P4 with | .done f=>R (.ok f) s' | .again c'=>c'.quiet=true/\IJ (FF prog w) A c' R s') (λe s'=>R (.error e) s') {s with heap:=h' }:=λh' nz nto n1 n2 np nk=>by
   have gS:h'.get? S=some {cls:=.type "list",dict:=none,data:=.seq (ad.map Ft).toArray c,slots:=#[] }:=nk S _ hS.1 hS.2.2.1 hS.2.2.2.1 hS.2.2.2.2.1 Z.acc
   have hzlt:z<s.heap.objs.size:=by
    rcases Z.zz with ⟨_,hz,_⟩ |⟨_,_,_,hz⟩ <;>exact EZ hz
   obtain⟨c',Z'⟩:=Z.put D hS rfl hzlt nto hx hy n1 n2 np nk nz;have QW:((ad.map Ft).toArray).size=i:=by simp[Z.len]
   refine EJ (Gw (s:={s with heap:=h' }) gS rfl (EO ⟨GA Gy _,ih (i+1) _ (ad++[s.heap.objs.size]) c' (by lia) hly Z' λh2 ad2 c2 F kp fr=>?_⟩) (by rw[QW,Gp];lia) (by rw[Array.size_push,QW,Gp];lia))
   refine hR h2 ad2 c2 F (λb o m1 m2 m3 m4 m5 e=>kp b o m1 m2 m3 m4 m5 ((Fk _ _ (Ne.symm m5)).trans (nk b o m1 m2 m3 m4 e))) λa ha=>?_
   rcases fr a ha with q |q
   ·rcases FA.mp q with q |q
    ·exact .inl q
    ·right;rw[E5.mp q];exact Kf (EX _)
   ·right
    cases hq:s.heap.get? a with
    |none=>rfl
    |some o=>
     exfalso
     by_cases e1:a=S
     ·subst e1;exact F.ne a ha rfl
     ·have q':h'.get? a=none:=by
       have:=q;rw[Fk _ _ (Ne.symm e1)]at this;exact this
      by_cases f1:a=z
      ·obtain⟨_,_,_,e⟩:=nz;rw[f1,e]at q';cases q'
      ·by_cases f2:a=TO
       ·obtain⟨o',e⟩:=nto;rw[f2,e]at q';cases q'
       ·by_cases f3:a=i1
        ·obtain⟨o',e,_⟩:=n1;rw[f3,e]at q';cases q'
        ·by_cases f4:a=i2
         ·obtain⟨o',e,_⟩:=n2;rw[f4,e]at q';cases q'
         ·rw[nk a o f1 f2 f3 f4 hq]at q';cases q'
  rcases Z.zz with ⟨h0,hz,a,b,hTO⟩ |⟨b,T,hT,hz⟩
  ·subst h0;have had:ad=[]:=GH.mp Z.len;refine EJ (Mg D hz Z.ti hTO Z.a1 Z.a2 Z.b1 Z.b2 hx hy λh' m1 m2 m3 m4 m5 _ kp=>?_)
   exact go h' ⟨false,_,by rw[had];rfl,m1⟩ ⟨_,m2⟩ m3 m4 m5 kp
  ·obtain⟨x,y,_,_,hp⟩:=Z.tup 0 T hT;refine EJ (uO D hz hp Z.ti Z.a1 Z.a2 Z.b1 Z.b2 hx hy λh' m1 m3 m4 m5 kp=>?_)
   refine go h' ⟨true,T,?_,m1⟩ ?_ m3 m4 m5 λb o n1 _ n3 n4 e=>kp b o n1 n3 n4 e
   ·rw[Fh (E6.mp hT).1];exact hT
   ·obtain⟨o,e⟩:=Z.to;exact⟨o,kp TO o D.TOz D.TOi1 D.TOi2 e⟩
end
theorem zq:Nf (.type "zip") "__len__"=pure none:=by rw[IQ,Hv];kernel_rfl
theorem yj:Nf (.type "zip") "__length_hint__"=pure none:=by rw[IQ,Hv];kernel_rfl
theorem wY(prog:E2)(w:Fs):xa prog w "zip":=λA E s r Q hT h=>by
 unfold Builtin.List.listLengthHint;refine EJ (IP hT zq ?_);show Fd _ A (specialOf (Ft r) (Str.ofString "__length_hint__") >>=_) _ _ _;refine EJ (IP hT yj ?_);exact EO (h _)
section
variable {w:Fs}{A:Fq}{s:ER}
theorem yd{z TI TO:E1}{f:EU}{Q:EU->ER->Prop}(hz:Lv s.heap z TI TO f)(h:Q (.ref z) s):Fd (FF prog w) A (Nq (.ref z)) Q E s:=by
 have hT:s.TypeIs (.ref z) "zip":=⟨_,hz,rfl⟩;refine Lb hT Mh (F4 Mh hT PySem.F.entry_zip_iter ?_ (PySem.F.args_zip_iter_1 _));exact EO ⟨_,rfl,"zip",_,hT,Gc.lookup,h⟩
theorem qA(hh:A.in1.handled=none){xs ys:Array EU}{z TI TO i1 i2 l1 l2 S:E1}(D:Ij z TI TO i1 i2 l1 l2)(hS:S≠z/\S≠TI/\S≠TO/\S≠i1/\S≠i2/\S≠l1/\S≠l2)(hxy:ys.size<=xs.size)(hn:xs.size<=1000)(res:EU){c₀:Nat}
  (hz:Lv s.heap z TI TO .none) (Z:∀h',(∀b o,b≠S→s.heap.get? b=some o→h'.get? b=some o)→∀c,h'.get? S=some {cls:=.type "list",dict:=none,data:=.seq #[] c,slots:=#[] }→ZL xs ys z TI TO i1 i2 l1 l2 S h' 0 [] c)
  (gS:s.heap.get? S=some {cls:=.type "list",data:=.seq #[] c₀ })
  (hR:∀h' Q2 c',ZF xs ys S h' Q2 c'->(∀b o,b≠z->b≠TO->b≠i1->b≠i2->b≠S->s.heap.get? b=some o->h'.get? b=some o)->(∀a∈Q2,s.heap.get? a=none)->R (.ok (.ret res)) {s with heap:=h' }):
  Fd (FF prog w) A.in1 (Builtin.List.listExtendWith (.ref S) (.ref z) res)
   (λP4 s'=>match P4 with | .done f=>R (.ok f) s' | .again c'=>c'.quiet=true/\IJ (FF prog w) A c' R s') (λe s'=>R (.error e) s') s:=by
 have hT:s.TypeIs (.ref z) "zip":=⟨_,hz,rfl⟩;unfold Builtin.List.listExtendWith;refine EJ (L_ hT ?_);have k1:Builtin.List.listSameRef (.ref S) (.ref z)=false:=by simp[Builtin.List.listSameRef,hS.1]
 have k2:(Gm "zip"==Gm "list")=false:=by decide
 have k3:(Gm "zip"==Gm "tuple")=false:=by decide
 simp only[k1,k2,k3,OX,Fb,if_false];refine EJ (yd hz (EJ (F6 (wY prog w _ _ _ _ _ hT λb=>?_))))
 refine Io (λ_=>?_) (λ_=>?_)
 ·refine EJ (IA (EJ ?_));show Fd _ A.in1 (Ji S (·.push .none) >>=λ_=>Ji S (·.pop)) _ _ _
  refine EJ (Gw gS rfl ?_);have g2:=FB (FP (·.push Fl)) gS rfl;refine Gw (hz:=by seq_fits) g2 rfl ?_
  have g3:=FB (FP (·.pop)) g2 rfl;have Qm:∀b o,b≠S->s.heap.get? b=some o->((s.heap.update S (FP (·.push Fl))).update S (FP (·.pop))).get? b=some o:=λb o hb e=>(Fk _ _ (Ne.symm hb)).trans ((Fk _ _ (Ne.symm hb)).trans e)
  refine EO ⟨GA Gy _,pI (s:={s with heap:=(s.heap.update S (FP (·.push Fl))).update S (FP (·.pop)) }) hh D hS hxy hn res _ 0 [] _ rfl (FX _) (Z _ Qm _ g3) λh' Q2 c' F kp fr=>?_⟩
  refine hR h' Q2 c' F (λb o m1 m2 m3 m4 m5 e=>kp b o m1 m2 m3 m4 m5 (Qm b o m5 e)) λa ha=>?_
  rcases fr a ha with q |q
  ·simp at q
  ·cases hq:s.heap.get? a with
   |none=>rfl
   |some o=>
    have e:=Qm a o (F.ne a ha) hq;rw[e]at q;cases q
 ·refine EO ⟨GA Gy _,pI hh D hS hxy hn res _ 0 _ [] _ rfl (FX _) (Z _ (λ_ _ _ e=>e) _ gS) λh' Q2 c' F kp fr=>?_⟩
  exact hR h' Q2 c' F kp λa ha=>(fr a ha).resolve_left (by simp)
theorem call_list_zip{Q:EU->ER->Prop}(hh:A.handled=none){xs ys:Array EU}{z TI TO i1 i2 l1 l2:E1}(D:Ij z TI TO i1 i2 l1 l2)(hxy:ys.size<=xs.size)(hn:xs.size<=1000)
  (hz:Lv s.heap z TI TO .none) (Rz:Hb s.heap TI (.ref i1) (.ref i2)) {a b:EU} (hTO:Hb s.heap TO a b) (h1:s.heap.IsListIter i1 l1 0) (h2:s.heap.IsListIter i2 l2 0) (Qk:s.heap.IsList l1 xs) (P7:s.heap.IsList l2 ys)
  (hQ:∀h' Q2 c',ZF xs ys s.heap.objs.size h' Q2 c'->(∀b o,b≠z->b≠TO->b≠i1->b≠i2->s.heap.get? b=some o->h'.get? b=some o)->(∀a∈Q2,s.heap.get? a=none)->Q (.ref s.heap.objs.size) {s with heap:=h' }):
  Fd (FF prog w) A (call (.type "list") [.ref z]) Q E s:=by
 refine Oq (Q₁:=λobj PR=>obj=.ref s.heap.objs.size∧PR={s with heap:=s.heap.push {cls:=.type "list",data:=.seq #[] } }) MM (Ls _) Lu (code_list_new _ ⟨rfl,rfl⟩) λobj PR h₁=>?_
 obtain⟨rfl,rfl⟩:=h₁;generalize hSd:s.heap.objs.size=S at *;have lt:∀c o,s.heap.get? c=some o->S≠c:=λc o e q=>by rw[<-q,<-hSd]at e;exact FG _ (EZ e)
 have gS:(s.heap.push {cls:=.type "list",data:=.seq #[] }).get? S=some {cls:=.type "list",data:=.seq #[] }:=by rw[←hSd];exact E3 _ rfl
 have up:∀b o,s.heap.get? b=some o→(s.heap.push {cls:=.type "list",data:=.seq #[] }).get? b=some o:=λb o e=>EN _ e
 have hS:S≠z/\S≠TI/\S≠TO/\S≠i1/\S≠i2/\S≠l1/\S≠l2:=⟨lt _ _ hz,lt _ _ Rz,lt _ _ hTO,by obtain⟨o,e,_⟩:=h1;exact lt _ _ e,by obtain⟨o,e,_⟩:=h2;exact lt _ _ e,by obtain⟨o,e,_⟩:=Qk;exact lt _ _ e,by obtain⟨o,e,_⟩:=P7;exact lt _ _ e⟩
 refine⟨⟨_,gS,rfl⟩,Ld _ _,?_⟩;show Fd _ A.in1.in1 (Builtin.List.listItems (.ref S) >>=λold=>Builtin.List.listUpdate (.ref S) (λ_=>#[]) >>=λ_=>letGo old.toList.reverse >>=λ_=>Builtin.List.listExtendWith (.ref S) (.ref z) .none) _ _ _
 refine EJ ?_;unfold Builtin.List.listItems;refine EJ (F7 gS rfl (EO ?_));show Fd _ A.in1.in1 (Ji S (λ_=>#[]) >>=λ_=>letGo (#[]:Array EU).toList.reverse >>=λ_=>Builtin.List.listExtendWith (.ref S) (.ref z) .none) _ _ _
 refine EJ (Gw gS rfl ?_);have g2:=FB (FP (λ_=>(#[]:Array EU))) gS rfl
 have Qm:∀b o,b≠S→s.heap.get? b=some o→((s.heap.push {cls:=.type "list",data:=.seq #[] }).update S (FP (λ_=>(#[]:Array EU)))).get? b=some o:=λb o hb e=>(Fk _ _ (Ne.symm hb)).trans (up b o e)
 refine EJ (HN ?_);refine qA (A:=A.in1) (s:={s with heap:=(s.heap.push {cls:=.type "list",data:=.seq #[] }).update S (FP (λ_=>(#[]:Array EU))) }) hh D hS hxy hn .none (Qm _ _ hS.1.symm hz) (λh' kp c e=>?_) g2 λh' Q2 c' F kp fr=>?_
 ·have k:∀b o,b≠S->s.heap.get? b=some o->h'.get? b=some o:=λb o hb e=>kp b o hb (Qm b o hb e)
  exact⟨k _ _ hS.2.1.symm Rz,h1.at λo e=>k _ o hS.2.2.2.1.symm e,h2.at λo e=>k _ o hS.2.2.2.2.1.symm e,Qk.at λo e=>k _ o hS.2.2.2.2.2.1.symm e,P7.at λo e=>k _ o hS.2.2.2.2.2.2.symm e,e,rfl,λj a e=>by simp at e,λa ha=>by simp at ha,⟨_,k _ _ hS.2.2.1.symm hTO⟩,MK,.inl ⟨rfl,k _ _ hS.1.symm hz,a,b,k _ _ hS.2.2.1.symm hTO⟩⟩
 ·refine⟨rfl,hQ h' Q2 c' F (λb o m1 m2 m3 m4 e=>kp b o m1 m2 m3 m4 (λq=>lt b o e q.symm) (Qm b o (λq=>lt b o e q.symm) e)) λa ha=>?_⟩
  cases hq:s.heap.get? a with
  |none=>rfl
  |some o=>
   have e:=Qm a o (F.ne a ha) hq;have q:=fr a ha;rw[show ({s with heap:=(s.heap.push {cls:=.type "list",data:=.seq #[] }).update S (FP (λ_=>(#[]:Array EU))) }:ER).heap.get? a=some o from e]at q
   cases q
end
end ST
namespace L2
open PySem PySem.Spec PyProof.Rows
theorem qX{a b:Nat}(h:a<b\/b<a):@Ne E1 a b:=λe=>by
 have e':a=b:=e;lia
theorem jF:GU "zip"=some (.type "zip"):=by decide+kernel
section
variable {P:E2}{w:Fs}{H:Hp}{h:Gz}{a:E1}{o:HO}
theorem g9(x:b_ P w H h a o):∃ob,h.get? a=some ob:=by
 cases o with
 |lst xs=>obtain⟨_,_,_,_,e⟩:=x;exact⟨_,e⟩
 |tup xs=>obtain⟨_,_,_,ob,e,_⟩:=x;exact⟨_,e⟩
 |dK Qg=>obtain⟨_,_,_,_,o,_,_,e,_⟩:=x;exact⟨_,e⟩
 |dT Qg=>obtain⟨_,_,_,_,o,_,_,e,_⟩:=x;exact⟨_,e⟩
 |set S n=>obtain⟨o,_,_,_,e,_⟩:=x;exact⟨_,e⟩
 |ins C dx fs=>obtain⟨_,_,_,e,_⟩:=x;exact⟨_,e⟩
 |own y=>exact x
 |xd fs=>obtain⟨_,⟨_,_,_,e,_⟩,_⟩:=x;exact⟨_,e⟩
 |rng lo hi=>obtain⟨_,_,_,e⟩:=x;exact⟨_,e⟩
 |frz ob u=>obtain⟨e,_⟩:=x;exact⟨_,e⟩
 |tbl ps=>exact⟨_,(show h.get? a=some _ from x)⟩
 |met f y=>exact⟨_,(show h.get? a=some _ from x)⟩
 |ext φ=>exact x.2.1
end
theorem AJ{X:Cx}{pins:List (E1×Obj)}{σ:List (Option V)}{H H':Hp}{s:ER}{h':Gz}{t':Nat}(I:Inv X pins σ H s)(k:∀b u,s.heap.get? b=some u->h'.get? b=some u)
  (old:∀b u,s.heap.get? b=some u->H' b=H b) (new:∀b o,s.heap.get? b=none->H' b=some o->b_ X.prog X.w H' h' b o):Inv X pins σ H' {s with heap:=h',toks:=t' }:=by
 have at':∀b o,H b=some o->H' b=some o:=λb o e=>let ⟨ob,q⟩:=g9 (I.hok b o e);(old b ob q).trans e
 refine I.un ⟨λb u q _ _ _=>k b u q,λb u q _ _ _=>⟨u.slots,k b u q⟩,λb u q n _=>(old b u q).trans n,λb u q _=>⟨u,k b u q⟩,λb xs q=>at' b _ q,λb u xs q=>at' b _ q,λb ps q=>⟨#[],by rw[at' b _ q];simp⟩⟩ λb u e=>?_
 cases hb:s.heap.get? b with
 |some ob=>
  rw[old b ob hb]at e;exact (I.hok b u e).stay (λc v _ q=>k c v q) (λc q=>at' c _ q) λc xs q=>at' c _ q
 |none=>exact new b u hb e
def jE(H:Hp):List E1->List (List V)->Hp
 |[],_=>H
 |a::as,ps=>match ps with
  |[]=>H
  |p::ps=>upd (jE H as ps) a (.tup p)
theorem oA{H:Hp}:∀{as:List E1}{ps:List (List V)}{b:E1},b ∉ as->jE H as ps b=H b
 |[],_,_,_=>rfl
 |a::as,[],_,_=>rfl
 |a::as,p::ps,b,h=>by
  show upd (jE H as ps) a (.tup p) b=H b;rw[aT λz=>h (by rw[z];exact EY)]
  exact oA λz=>h (ES _ z)
theorem sr{H:Hp}:∀{as:List E1}{ps:List (List V)}{j:Nat}{a:E1}{p:List V},as.Nodup->as[j]?=some a->ps[j]?=some p->jE H as ps a=some (.tup p)
 |[],_,j,_,_,_,e,_=>by simp at e
 |_::_,[],j,_,_,_,_,e=>by simp at e
 |b::as,q::ps,0,a,p,_,e1,e2=>by
  simp at e1 e2;subst e1;subst e2;exact aK
 |b::as,q::ps,j+1,a,p,nd,e1,e2=>by
  show upd (jE H as ps) b (.tup q) a=_;rw[HA]at e1 e2;have nd':=GN.mp nd;rw[aT λz=>nd'.1 (by rw[<-z];exact E9 e1)]
  exact sr nd'.2 e1 e2
theorem pG{H:Hp}:∀{as:List E1}{ps:List (List V)}{b:E1}{o:HO},jE H as ps b=some o->H b=some o\/∃(j:Nat) (p:List V),as[j]?=some b/\ps[j]?=some p/\o=.tup p
 |[],_,_,_,e=>.inl e
 |_::_,[],_,_,e=>.inl e
 |a::as,p::ps,b,o,e=>by
  have e':upd (jE H as ps) a (.tup p) b=some o:=e;by_cases hb:b=a
  ·subst hb;rw[aK]at e';cases e';exact .inr ⟨0,p,rfl,rfl,rfl⟩
  ·rw[aT hb]at e';rcases pG e' with z |⟨j,q,e1,e2,e3⟩
   ·exact .inl z
   ·exact .inr ⟨j+1,q,by simpa using e1,by simpa using e2,e3⟩
theorem lK:∀(ad:List E1),aQ (ad.map V.ref) (ad.map Ft)
 |[]=>.nil
 |_::ad=>.cons rfl (lK ad)
section
variable {X:Cx}{H0:Hp}{O0:List E1}{ps:PSt}{e f:Expr}{x y:U}{xs ys:List U}{pos P9 p p':Pos}
theorem kQ(hc:X.calm=true)(hg:Gl X "list")(hm:X.mg "list"=none)(hgz:Gl X "zip")(hmz:X.mg "zip"=none)(ha:Ev X H0 O0 ps e x)(hx:x=.lst xs∨x=.scr xs)(hb:Ev X H0 O0 ps f y)(hy:y=.lst ys∨y=.scr ys)(hl:ys.length≤xs.length)(hn:xs.length≤1000)
  (he:E4 [e,f] X.env=(false,HE e X.env)::E4 [f] X.env:=by rfl) (hf:E4 [f] X.env=(false,HE f X.env)::E4 [] X.env:=by rfl):
  EvN X H0 O0 ps (.Call (.Name "list" p) [.Call (.Name "zip" p') [e,f] [] P9] [] pos) (KH (λa b=>U.tup [a,b]) xs ys):=by
 rintro pins s σ H Q I ⟨O,R,q⟩;have hh:X.A.handled=none:=I.ok.hd hc;refine Gh (ca I hg hm Ip ?_);refine callWith_type1 (e:=.Call (.Name "zip" p') [e,f] [] P9) (rest:=[]) ?_ aN rfl;rw[aN];show Fd _ _ (OP ((false,HE (.Call (.Name "zip" p') [e,f] [] P9) X.env)::Iu pos (E4 [] X.env))) _ _ s;refine Jy ?_;refine Gh (ca I hgz hmz jF ?_);refine callWith_type1 (thn (ci ha (ci hb eP hf) he P9 pins s σ H (λvs H1=>∃v u,vs=[v,u]/\aJ H H1/\Rp X.K (hid H1 O) v x/\Rp X.K (hid H1 O) u y) I ⟨O,R,λv H1 s1 r1=>⟨O,R.go s1,λu H2 s2 r2=>⟨v,u,rfl,s1.trans s2,r1.same (aC s2),r2⟩⟩⟩) λus s1 Q9=>?_) he (by rw[hf];rfl)
 obtain⟨vs,H1,I1,rv,v,u,rfl,sm,rp1,rp2⟩:=Q9;obtain⟨w1,w2,rfl,ru1,ru2⟩:=gG rv;obtain⟨a,va,rfl,Ra,S0⟩:=rh rp1 hx;obtain⟨b,vb,rfl,Qe,S1⟩:=rh rp2 hy;cases ru1;cases ru2;obtain⟨ia,ra,Qx,hz1⟩:=I1.list (ax.seq Ra);obtain⟨ib,rb,P6,hz2⟩:=I1.list (ax.seq Qe);have la:=ra.length;have lb:=rb.length;have l1:=S0.len;have l2:=S1.len;have al:@LT.lt Nat instLTNat a s1.heap.objs.size:=by obtain⟨o,ho,_⟩:=Qx.isList;exact EZ ho
 have bl:@LT.lt Nat instLTNat b s1.heap.objs.size:=by obtain⟨o,ho,_⟩:=P6.isList;exact EZ ho
 refine PySem.call_zip_2 Qx.isList P6.isList λh' z1 z2 z3 z4 z5 z6 z7=>?_
 refine JL ?_;have D:Ij (s1.heap.objs.size+4) (s1.heap.objs.size+2) (s1.heap.objs.size+3) s1.heap.objs.size (s1.heap.objs.size+1) a b:=by constructor <;>exact qX (by lia)
 have sxy:ib.toArray.size<=ia.toArray.size:=by simp;lia
 have sx:ia.toArray.size<=1000:=by simp;lia
 refine ST.call_list_zip (s:={s1 with heap:=h' }) hh D sxy sx z1 z2 z3 z4 z5 (Qx.isList.at λo e=>z7 _ o e) (P6.isList.at λo e=>z7 _ o e) λh3 ad c F kp fr=>?_
 have lD:s1.heap.objs.size<=({s1 with heap:=h' }:ER).heap.objs.size:=by show _<=h'.objs.size;lia
 generalize ({s1 with heap:=h' }:ER).heap.objs.size=D0 at *
 have keep:∀b o,s1.heap.get? b=some o->h3.get? b=some o:=λb o e=>by
  have this:@LT.lt Nat instLTNat b s1.heap.objs.size:=EZ e;exact kp b o (qX (by lia)) (qX (by lia)) (qX (by lia)) (qX (by lia)) (z7 b o e)
 have fr':∀a∈ad,s1.heap.get? a=none:=λa ha=>by
  cases hq:s1.heap.get? a with
  |none=>rfl
  |some o=>
   have q1:=fr a ha;rw[show ({s1 with heap:=h' }:ER).heap.get? a=some o from z7 a o hq]at q1
   cases q1
 have frD:s1.heap.get? D0=none:=Kf lD
 have nH:∀a,s1.heap.get? a=none->H1 a=none:=λa e=>by
  cases hq:H1 a with
  |none=>rfl
  |some o=>
   obtain⟨ob,z⟩:=g9 (I1.hok a o hq);rw[e]at z;cases z
 generalize hP:KH (λx y:V=>[x,y]) va vb=PS
 have old:∀b u,s1.heap.get? b=some u->upd (jE H1 ad PS) D0 (.lst (ad.map V.ref)) b=H1 b:=λb u e=>by
  rw[aT λz=>by rw[z,frD]at e;cases e]
  exact oA λz=>by rw[fr' b z]at e;cases e
 have sm1:aJ H1 (upd (jE H1 ad PS) D0 (.lst (ad.map V.ref))):=λb o e=>let ⟨ob,z⟩:=g9 (I1.hok b o e);(old b ob z).trans e
 have lad:ad.length=ib.length:=by rw[F.len];simp
 have atT:∀(j:Nat) (c:E1) (v u:V),ad[j]?=some c->va[j]?=some v->vb[j]?=some u->upd (jE H1 ad PS) D0 (.lst (ad.map V.ref)) c=some (.tup [v,u]):=λj c v u e1 e2 e3=>by
  rw[aT (F.ne c (E9 e1))];refine sr F.nd e1 ?_;rw[<-hP];exact Hy.mpr ⟨v,u,e2,e3,rfl⟩
 have I3:Inv X pins σ (upd (jE H1 ad PS) D0 (.lst (ad.map V.ref))) {s1 with heap:=h3 }:=by
  refine AJ (t':=s1.toks) I1 keep old λb o nb e=>?_
  by_cases hbD:b=D0
  ·subst hbD;rw[aK]at e;cases e;exact⟨by rw[EM,lad,<-lb];exact hz2,ad.map Ft,c,lK ad,F.acc⟩
  ·rw[aT hbD]at e;rcases pG e with z |⟨j,pr,e1,e2,rfl⟩
   ·rw[nH b nb]at z;cases z
   ·rw[<-hP]at e2;obtain⟨v,u,f1,f2,rfl⟩:=Hy.mp e2;obtain⟨xv,g1,r1⟩:=ra.get f1;obtain⟨yv,g2,r2⟩:=rb.get f2;obtain⟨xv',yv',k1,k2,k3⟩:=F.tup j b e1
    have m1:xv'=xv:=by
     have:ia.toArray[j]?=some xv:=by simpa using g1
     rw[this]at k1;cases k1;rfl
    have m2:yv'=yv:=by
     have:ib.toArray[j]?=some yv:=by simpa using g2
     rw[this]at k2;cases k2;rfl
    subst m1;subst m2;exact⟨(show 2<=sizeLine by decide),[xv',yv'],.cons r1 (.cons r2 .nil),_,k3,rfl,_,rfl⟩
 refine⟨.ref D0,_,I3,rfl,q D0 _ _ (sm.trans sm1) (sm.free (nH _ frD)) aK ⟨?_,λi v u h1 h2=>?_⟩⟩
 ·rw[EM,List.length_zipWith];lia
 ·rw[EW]at h1;cases hi:ad[i]? with
  |none=>rw[hi]at h1;cases h1
  |some c'=>
   rw[hi]at h1;obtain rfl:V.ref c'=v:=by simpa using h1
   obtain⟨xi,yi,f1,f2,rfl⟩:=Hy.mp h2;obtain⟨vi,g1,r1⟩:=S0.get f1;obtain⟨wi,g2,r2⟩:=S1.get f2;have S:=bn (O:=O) sm1 (nH _ frD);have rr:=Rps.cons (r1.same S) (Rps.cons (r2.same S) Rps.nil);have Ru:=E9 hi;refine .tup (SqT.of (cS (atT i c' vi wi hi g1 g2) λz=>?_)) rr.len rr.at_
   rcases ET.mp z with z |z
   ·exact F.ne c' Ru z
   ·exact (R.go sm).dom c' z (nH _ (fr' c' Ru))
theorem uQ(hc:X.calm=true)(hg:Gl X "list")(hm:X.mg "list"=none)(hgz:Gl X "zip")(hmz:X.mg "zip"=none)(ha:Ev X H0 O0 ps e x)(hx:x=.lst xs∨x=.scr xs)(hb:Ev X H0 O0 ps f y)(hy:y=.lst ys∨y=.scr ys)(hl:ys.length=xs.length)(hn:xs.length≤1000)
  (he:E4 [e,f] X.env=(false,HE e X.env)::E4 [f] X.env:=by rfl) (hf:E4 [f] X.env=(false,HE f X.env)::E4 [] X.env:=by rfl):
  EvN X H0 O0 ps (.Call (.Name "list" p) [.Call (.Name "zip" p') [e,f] [] P9] [] pos) (KH (λa b=>U.tup [a,b]) xs ys):=kQ hc hg hm hgz hmz ha hx hb hy (O8 hl) hn he hf
end
theorem iW(ns:List Int):∀j,preSum (λi=>ns.getD i 0) j=(ns.take j).sum
 |0=>by simp[preSum]
 |j+1=>by rw[preSum,iW ns j,PySem.sum_take_succ]
section
variable {X:Cx}{ns:List Int}{M:Int}
theorem kH{K:EL}{H:Hp}{ws:List V}{PH:List EU}(rv:aQ ws PH)(rs:Rps K H ws (ns.map U.int))(i:Nat)(z:EU)(e:PH.toArray[i]?=some z):∃t,z=.int (ns.getD i 0) t:=by
 have hl:=rs.len;rw[EM]at hl;have e4:PH[i]?=some z:=by simpa using e
 have hi:i<PH.length:=aL e4;have hw:i<ws.length:=by rw[rv.length];exact hi
 have hb:i<ns.length:=by lia
 obtain⟨u,e1,e2⟩:=rv.get (EK hw);have e3:=rs.at_ i ws[i] (.int ns[i]) (EK hw) (by rw[EW,EK hb];rfl)
 rw[e4]at e1;cases e1;generalize ws[i]=wi at *;cases e3;rw[Fe,EK hb];obtain⟨t,rfl⟩:=e2;exact⟨t,rfl⟩
theorem yu(hc:X.calm=true)(hM:M∈ns∧∀a∈ns,M≤a):eB X (.builtin "min") [.lst (ns.map U.int)] (.int M):=by
 intro pins s σ H vs us Q I r hq;obtain⟨O,d,rs,q⟩:=hq;obtain⟨v,rfl,h1⟩:=cq rs;obtain⟨p1,rfl,r1⟩:=eY r;cases h1 with
 | @lst a ws _ hq hl hh=>
  cases r1;obtain⟨PH,rv,pl,_⟩:=I.list (SqL.of (ax _ _ hq));have PL:PH.length=ns.length:=by rw[<-rv.length,hl,EM]
  have Rc:=kH (ns:=ns) rv ⟨hl,hh⟩;have hn:0<ns.length:=Gk hM.1;refine call_min_walk (GV pl.isList ?_);have QW:a<s.heap.objs.size:=by obtain⟨o,e,_⟩:=pl.isList;exact EZ e
  refine⟨s.heap.objs.size,_,_,_,_,_,_,rfl,Walks.list (A:=X.A.in1) (I.ok.hd hc) s.heap.objs.size a (Fy QW) PH.toArray,⟨⟨_,E3 _ rfl,rfl,rfl⟩,pl.isList.push _⟩,λb hb=>?_,by rw[E7,PL];exact hn,CmpOf.ints_lt (λi=>ns.getD i 0) Rc,λv h' tk hP hk=>?_⟩
  ·show b<(s.heap.push _).objs.size;rw[Gb];rcases ET.mp hb with z |z
   ·rw[z];exact GR _
   ·rw[E5.mp z];exact GY QW
  ·obtain⟨t,rfl⟩:=Rc _ _ hP;obtain⟨b1,b2⟩:=argBest_lt (λi=>ns.getD i 0) (PH.toArray.size-1)
   have e:ns.getD (GG (λi j=>decide (ns.getD i 0<ns.getD j 0)) (PH.toArray.size-1)) 0=M:=by
    rw[E7,PL]at b1 b2 |-;generalize GG (λi j=>decide (ns.getD i 0<ns.getD j 0)) (ns.length-1)=g at *
    have hg:g<ns.length:=by lia
    obtain⟨j,hj,ej⟩:=Kn hM.1;have k1:=b2 j (by lia)
    have k2:=hM.2 ns[g] (Jk hg);simp only[Fe,EK hg,EK hj,HU]at k1 |-;lia
   rw[e];refine⟨.int M,H,I.kept (t':=tk) λb o e=>hk b o ?_ (EN _ e),⟨t,rfl⟩,q _ H (.refl H) (.int _)⟩
   intro z;have:b=s.heap.objs.size:=by simpa using z
   exact absurd (EZ e) (by rw[this];exact FG _)
theorem iN(hc:X.calm=true):eB X (.builtin "sum") [.lst (ns.map U.int)] (.int ns.sum):=by
 intro pins s σ H vs us Q I r hq;obtain⟨O,d,rs,q⟩:=hq;obtain⟨v,rfl,h1⟩:=cq rs;obtain⟨p1,rfl,r1⟩:=eY r;cases h1 with
 | @lst a ws _ hq hl hh=>
  cases r1;obtain⟨PH,rv,pl,_⟩:=I.list (SqL.of (ax _ _ hq));have PL:PH.length=ns.length:=by rw[<-rv.length,hl,EM]
  have Rc:=kH (ns:=ns) rv ⟨hl,hh⟩;refine call_sum_walkG (GV pl.isList ?_);have QW:a<s.heap.objs.size:=by obtain⟨o,e,_⟩:=pl.isList;exact EZ e
  refine⟨s.heap.objs.size,_,_,_,_,_,λi=>ns.getD i 0,rfl,Walks.list (A:=X.A.in1) (I.ok.hd hc) s.heap.objs.size a (Fy QW) PH.toArray,⟨⟨_,E3 _ rfl,rfl,rfl⟩,pl.isList.push _⟩,λb hb=>?_,Rc,λh' tk t' hk=>?_⟩
  ·show b<(s.heap.push _).objs.size;rw[Gb];rcases ET.mp hb with z |z
   ·rw[z];exact GR _
   ·rw[E5.mp z];exact GY QW
  ·rw[iW,E7,PL,GQ];refine⟨.int ns.sum,H,I.kept (t':=tk) λb o e=>hk b o ?_ (EN _ e),⟨t',rfl⟩,q _ H (.refl H) (.int _)⟩
   intro z;have:b=s.heap.objs.size:=by simpa using z
   exact absurd (EZ e) (by rw[this];exact FG _)
end
end L2
namespace ST
open PySem PyProof.Rows
def leP(a b:Int×Int):Bool:=decide (a.1<b.1\/(a.1=b.1/\a.2<=b.2))
section
variable {prog:E2}{w:Fs}{A:Fq}{E:EU→ER→Prop}{s:ER}
theorem sV{x y:Int}{t u:Tok}{Q:EU->ER->Prop}(h:Q (.bool (decide (x<=y))) s):Fd (FF prog w) A (Kr .LtE (.int x t) (.int y u)) Q E s:=
 Le (op:=.LtE) (Kj s _ t) (Kj s _ u) PySem.F.slot_int_le PySem.F.entry_int_le (PySem.F.args_int_le_2 _ _) (gives_int_le _ _ t u) (λx=>nomatch x) h
theorem wD{x y:E1}{a b:Int×Int}{P:Fin->ER->Prop}(hx:TK prog w s.heap [a.1,a.2] x)(hy:TK prog w s.heap [b.1,b.2] y)(h:P (.done (.ret (.bool (leP a b)))) s):
  Fd (FF prog w) A (Builtin.«tuple.__le__» ⟨[.ref x,.ref y],[]⟩) P E s:=by
 have hTb:=hy.typeIs;obtain⟨o,PH,n,t,u,ho,_,hd,hi⟩:=hx.two;obtain⟨o',its',n',t',u',QO,_,Qt,PY⟩:=hy.two;show Fd _ _ (OO (.ref y) (.type "tuple") >>=_) _ _ s;refine EJ (Ha hTb J6 ?_);simp only[GI,Fb,if_false];refine EJ (HY ho hd ?_);refine EJ (HY QO Qt ?_);have sz:PH.size=its'.size:=by rw[<-E_,<-E_,hi,PY];rfl
 rw[hi,PY];refine EJ ?_;simp only[GB,Lg,Ht,Ic];refine EJ (EJ ((JK prog w).eqBool (a:=a.1) (b:=b.1) (Gq _ _ _ _) (Gq _ _ _ _) ?_));by_cases e1:a.1=b.1
 ·rw[decide_eq_true e1];simp only[GI,Fb,if_false];refine EO ?_;refine EJ (EJ ((JK prog w).eqBool (a:=a.2) (b:=b.2) (Gq _ _ _ _) (Gq _ _ _ _) ?_));by_cases e2:a.2=b.2
  ·rw[decide_eq_true e2];simp only[GI,Fb,if_false];refine EO (EO ?_);have z:leP a b=true:=by unfold leP;simp;lia
   rw[z]at h;refine EO ?_;show P (.done (.ret (.bool (decide (PH.size<=its'.size))))) s;rw[sz,decide_eq_true (EX _)];exact h
  ·rw[decide_eq_false e2];simp only[Ib,if_true];have z:leP a b=decide (a.2<=b.2):=by unfold leP;rw[e1];simp
   rw[z]at h;exact EJ (IA (EJ (sV (EJ (EO (EO (EO (EO h))))))))
 ·rw[decide_eq_false e1];simp only[Ib,if_true];have z:leP a b=decide (a.1<=b.1):=by unfold leP;simp[e1];rw[Int.lt_iff_le_and_ne];simp[e1]
  rw[z]at h;exact EJ (IA (EJ (sV (EJ (EO (EO (EO (EO h))))))))
theorem le_pts{x y:E1}{a b:Int×Int}{Q:EU->ER->Prop}(hu:A.units<II)(hx:TK prog w s.heap [a.1,a.2] x)(hy:TK prog w s.heap [b.1,b.2] y)(h:Q (.bool (leP a b)) s):
  Fd (FF prog w) A (Gn .LtE (.ref x) (.ref y)) Q E s:=
 IR (op:=.LtE) hx.typeIs hy.typeIs Mi
  (F4 Mi hx.typeIs PySem.F.entry_tuple_le (wD hx hy ⟨_,rfl,(λe=>nomatch e),h⟩) (PySem.F.args_tuple_le_2 _ _)) hu
end
end ST
namespace L2
open PySem PySem.Spec PyProof.Rows
section
variable {X:Cx}{H0:Hp}{O0:List E1}{ps:PSt}{a b c:Expr}{pos:Pos}{x y z:U}{p q:P2}{k m:Bool}
theorem Bi{pins:List (E1×Obj)}{σ:List (Option V)}{H:Hp}{s:ER}(I:Inv X pins σ H s){v:V}{u:EU}(r:Rp X.K H v (pu p))(e:aZ v u):∃b,u=.ref b/\ST.TK X.prog X.w s.heap [p.1,p.2] b:=by
 cases r with
 | @tup b zs _ hs hsl hsi=>
  cases e;refine⟨b,rfl,?_⟩;obtain⟨jts,rj,ht,_⟩:=I.tuple hs;have z0:zs.length=2:=hsl
  match zs,z0,hsi,rj with
  |[z1,z2],_,hsi,rj=>
   have q1:=hsi 0 z1 _ rfl rfl;have q2:=hsi 1 z2 _ rfl rfl;cases q1;cases q2;obtain⟨u1,u2,rfl,r1,r2⟩:=gG rj;obtain⟨t1,rfl⟩:=r1;obtain⟨t2,rfl⟩:=r2;obtain⟨o,ho,RG,n,Sy⟩:=ht;exact⟨o,_,n,ho,RG,Sy,.cons (Gq _ _ _ _) (.cons (Gq _ _ _ _) .nil)⟩
theorem tj(hu:X.A.units+10<II):OpS X (Gn .LtE) (pu p) (pu q) (.bl (ST.leP p q)):=by
 intro pins s σ H v w e f Q I r1 r2 h;obtain⟨k1,k2,k3⟩:=h;obtain⟨b1,rfl,t1⟩:=Bi I k1 r1;obtain⟨b2,rfl,t2⟩:=Bi I k2 r2;exact ST.le_pts (by lia) t1 t2 (a_ I k3 rfl)
theorem DJ{cd:Expr}(hc:Tt X H0 O0 ps cd k)(ha:Ev X H0 O0 ps a x)(hb:Ev X H0 O0 ps b y):Ev X H0 O0 ps (.IfExp cd a b pos) (if k=true then x else y):=by
 cases k with
 |true=>exact Be hc (λ_=>ha) (λh=>nomatch h)
 |false=>exact Be hc (λh=>nomatch h) (λ_=>hb)
theorem zV{op op':O6}(ho:OpS X (Gn op) x y (.bl k))(QO:OpS X (Gn op') y z (.bl m))(ha:Ev X H0 O0 ps a x)(hb:Ev X H0 O0 ps b y)(hc:Ev X H0 O0 ps c z)
  (hm:lastMarks [op,op'] [b,c]=false:=by with_unfolding_all rfl):Ev X H0 O0 ps (.Compare a [op,op'] [b,c] pos) (.bl (k && m)):=
 PE.mono (wH ho QO ha hb hc hm) λσ H Q ⟨O,R,q⟩=>⟨O,R,λv1 H1 s1 r1=>⟨O,R.go s1,λv2 H2 s2 r2=>⟨(r1.same (aC s2)).out,r2.out,k,rfl,by
  cases k with
  |false=>exact m_ (q _ H2 (s1.trans s2) (.bl _))
  |true=>exact nj ⟨O,(R.go s1).go s2,λv3 H3 s3 r3=>⟨(r2.same (aC s3)).out,r3.out,q _ H3 ((s1.trans s2).trans s3) (.bl _)⟩⟩⟩⟩⟩
end
section
variable {X:Cx}{p q:P2}{l:List P2}
theorem iJ{pins:List (E1×Obj)}{σ:List (Option V)}{H:Hp}{s:ER}(I:Inv X pins σ H s){v:V}{u:EU}(r:Rp X.K H v (pu p))(e:aZ v u):∃b,u=.ref b/\∀prog w,ST.TK prog w s.heap [p.1,p.2] b:=by
 cases r with
 | @tup b zs _ hs hsl hsi=>
  cases e;refine⟨b,rfl,λprog w=>?_⟩
  obtain⟨jts,rj,ht,_⟩:=I.tuple hs;have z0:zs.length=2:=hsl
  match zs,z0,hsi,rj with
  |[z1,z2],_,hsi,rj=>
   have q1:=hsi 0 z1 _ rfl rfl;have q2:=hsi 1 z2 _ rfl rfl;cases q1;cases q2;obtain⟨u1,u2,rfl,r1,r2⟩:=gG rj;obtain⟨t1,rfl⟩:=r1;obtain⟨t2,rfl⟩:=r2;obtain⟨o,ho,RG,n,Sy⟩:=ht;exact⟨o,_,n,ho,RG,Sy,.cons (Gq _ _ _ _) (.cons (Gq _ _ _ _) .nil)⟩
end
theorem nd_len{α:Type}[DecidableEq α]:∀{l m:List α},l.Nodup->(∀x∈l,x∈m)->l.length<=m.length
 |[],_,_,_=>FX _
 |a::l,m,nd,sub=>by
  have h:=GN.mp nd;have ha:=sub a EY;have ih:=nd_len (m:=m.erase a) h.2 λx hx=>(MC (λe=>h.1 (by rw[<-e];exact hx))).mpr (sub x (ES _ hx))
  rw[Lh ha]at ih;have:=Gk ha;simp only[FV];lia
section
variable {X:Cx}{H0:Hp}{O0:List E1}{ps:PSt}{e:Expr}{pts:List P2}{pos P9 p p':Pos}
end
end L2
namespace ST
open PySem
def uq(prog:E2)(w:Fs)(A:Fq)(op:O6)(G:Gz->Prop)(P:Nat->EU->Prop)(bt:Nat->Nat->Bool):Prop:=
 ∀i j vi vj (s:ER) (Q:EU->ER->Prop) (E:EU->ER->Prop),G s.heap->P i vi->P j vj->Q (.bool (bt i j)) s->Fd (FF prog w) A (Kr op vi vj) Q E s
section
variable {prog:E2}{w:Fs}{A:Fq}{R:Nr→ER→Prop}{I S:E1}{fp wr:List E1}{n:Nat}{P:Nat→EU→Prop}{St:Nat→Gz→Prop}{G:Gz→Prop}{bt:Nat→Nat→Bool}
theorem uu(W:Walks prog w A.in1 I fp wr n P St)(hc:uq prog w A.in1 .Lt G P bt)(stay:∀h h':Gz,G h->(∀b o,b ∉ wr->b≠S->h.get? b=some o->h'.get? b=some o)->G h')(QL:S ∉ fp):
  ∀(k j:Nat) (s:ER) (vb:EU) (c:Nat),n-(j+1)=k→j+1≤n→G s.heap→St (j+1) s.heap→P (GG bt j) vb→s.heap.get? S=some {cls:=.type "list",dict:=none,data:=.seq #[vb,vb] c,slots:=#[] }→
  (∀v h' tk,P (GG bt (n-1)) v->(∀b o,b ∉ wr->b≠S->s.heap.get? b=some o->h'.get? b=some o)->R (.ok (.ret v)) {s with heap:=h',toks:=tk })->
  IJ (FF prog w) A (.builtin "min.loop" ⟨[.ref I,.none,.ref S],[]⟩) R s:=by
 have nw:S ∉ wr:=λh=>QL (W.sub _ h)
 have nm:(JD "min"++JD ".loop":String)="min.loop":=by decide
 intro k
 induction k with
 |zero=>
  intro j s vb c hk hj g st pb hS hR;obtain rfl:j+1=n:=by lia
  refine GE JH ?_;rw[Gf GL _];show Fd _ A.in1 (J4 (.ref S) >>=_) _ _ s;refine EJ (F7 hS rfl ?_);show Fd _ A.in1 (Lw (Iy (.ref I)) _ >>=_) _ _ s;refine EJ (Ie (W.done s _ _ st λh' tk kp=>?_))
  show Fd _ A.in1 (Ji S (λ_=>#[]) >>=_) _ _ _
  refine EJ (Gw (kp S _ nw hS) rfl (EJ (HN (EO ?_))));exact hR vb _ tk pb λb o hw hb e=>(Fk _ _ (Ne.symm hb)).trans (kp b o hw e)
 |succ k ih=>
  intro j s vb c hk hj g st pb hS hR;refine GE JH ?_;rw[Gf GL _];show Fd _ A.in1 (J4 (.ref S) >>=_) _ _ s;refine EJ (F7 hS rfl ?_);show Fd _ A.in1 (Lw (Iy (.ref I)) _ >>=_) _ _ s;refine EJ (Ie (W.item (j+1) s _ _ (by lia) st λv h' tk pv Qw kp=>?_))
  have g':G h':=stay _ _ g λb o hw _ e=>kp b o hw e
  have Ri:=kp S _ nw hS;show Fd _ A.in1 (Lw (Kk [v,v] (Kr .Lt v vb >>=_)) _ >>=_) _ _ _;refine EJ (Ie (F6 (EJ (hc (j+1) (GG bt j) v vb _ _ _ g' pv pb ?_))));refine EJ (F6 (Hi (EJ (HN (EO ?_)))));by_cases hb:bt (j+1) (GG bt j)=true
  ·rw[if_pos hb];refine EJ (Gw Ri rfl (EJ (HN ?_)));rw[nm];have Qm:∀b o,b≠S->h'.get? b=some o->(h'.update S (FP λ_=>#[v,v])).get? b=some o:=λb o h e=>(Fk _ _ (Ne.symm h)).trans e
   refine EO ⟨GA GL _,ih (j+1) _ v _ (by lia) (by lia) (stay _ _ g' λb o _ h e=>Qm b o h e) (W.frame _ _ _ Qw λb hf o e=>Qm b o (λh=>QL (h ▸ hf)) e) (by rw[GG,if_pos hb];exact pv) (FB _ Ri rfl) λv2 h2 t2 p2 k2=>?_⟩
   exact hR v2 h2 t2 p2 λb o hw h e=>k2 b o hw h (Qm b o h (kp b o hw e))
  ·rw[if_neg hb];refine EJ (HN ?_);rw[nm];refine EO ⟨GA GL _,ih (j+1) _ vb c (by lia) (by lia) g' Qw (by rw[GG,if_neg hb];exact pb) Ri λv2 h2 t2 p2 k2=>?_⟩
   exact hR v2 h2 t2 p2 λb o hw h e=>k2 b o hw h (kp b o hw e)
theorem qI(W:Walks prog w A.in1 I fp wr n P St)(hc:uq prog w A.in1 .Lt G P bt)(stay:∀h h':Gz,G h->(∀b o,b ∉ wr->b≠S->h.get? b=some o->h'.get? b=some o)->G h')(QL:S ∉ fp)(hn:0<n){s:ER}{c:Nat}(g:G s.heap)(st:St 0 s.heap)
  (hS:s.heap.get? S=some {cls:=.type "list",dict:=none,data:=.seq #[] c,slots:=#[] })
  (hR:∀v h' tk,P (GG bt (n-1)) v->(∀b o,b ∉ wr->b≠S->s.heap.get? b=some o->h'.get? b=some o)->R (.ok (.ret v)) {s with heap:=h',toks:=tk }):
  IJ (FF prog w) A (.builtin "min.loop" ⟨[.ref I,.none,.ref S],[]⟩) R s:=by
 have nw:S ∉ wr:=λh=>QL (W.sub _ h)
 have nm:(JD "min"++JD ".loop":String)="min.loop":=by decide
 refine GE JH ?_;rw[Gf GL _];show Fd _ A.in1 (J4 (.ref S) >>=_) _ _ s;refine EJ (F7 hS rfl ?_);show Fd _ A.in1 (Lw (Iy (.ref I)) _ >>=_) _ _ s;refine EJ (Ie (W.item 0 s _ _ hn st λv h' tk pv Qw kp=>?_))
 have Ri:=kp S _ nw hS;show Fd _ A.in1 (Ji S (λ_=>#[v,v]) >>=_) _ _ _
 refine EJ (Gw Ri rfl ?_);rw[nm];have Qm:∀b o,b≠S->h'.get? b=some o->(h'.update S (FP λ_=>#[v,v])).get? b=some o:=λb o h e=>(Fk _ _ (Ne.symm h)).trans e
 refine EO ⟨GA GL _,uu W hc stay QL _ 0 _ v _ rfl hn (stay _ _ g λb o hw h e=>Qm b o h (kp b o hw e)) (W.frame _ _ _ Qw λb hf o e=>Qm b o (λh=>QL (h ▸ hf)) e) pv (FB _ Ri rfl) λv2 h2 t2 p2 k2=>?_⟩
 exact hR v2 h2 t2 p2 λb o hw h e=>k2 b o hw h (Qm b o h (kp b o hw e))
variable {E:EU→ER→Prop}{s:ER}
theorem call_minG{l:E1}{items:Array EU}{G:Gz->Prop}{bt:Nat->Nat->Bool}{Q:EU->ER->Prop}(hh:A.handled=none)(hl:s.heap.IsList l items)(hn:0<items.size)(hc:uq prog w A.in1 .Lt G (λi v=>items[i]?=some v) bt)
  (g:G s.heap) (stay:∀h h':Gz,G h->(∀b o,s.heap.get? b=some o->h.get? b=some o)->(∀b o,s.heap.get? b=some o->h'.get? b=some o)->G h')
  (hQ:∀v h' tk,items[GG bt (items.size-1)]?=some v->(∀b o,s.heap.get? b=some o->h'.get? b=some o)->Q v {s with heap:=h',toks:=tk }):
  Fd (FF prog w) A (call (.builtin "min") [.ref l]) Q E s:=by
 have nm:(JD "min"++JD ".loop":String)="min.loop":=by decide
 refine M5 PySem.F.kind_min PySem.F.plain_min PySem.F.entry_min (PySem.F.args_min1 _) ?_;show Fd _ A.in1 (Builtin.Builtins.bindParams "min" ["key","default"] 0 ⟨[],[]⟩ >>=_) _ _ s;refine EJ (Lq (show Builtin.Builtins.bindParams "min" ["key","default"] 0 ⟨[],[]⟩=pure [none,none] from rfl) ?_)
 refine EJ (EO ?_);refine EJ (GV hl ?_);have QW:l<s.heap.objs.size:=by obtain⟨o,e,_⟩:=hl;exact EZ e
 refine EJ (GX ?_);rw[nm];have W:=Walks.list (prog:=prog) (w:=w) (A:=A.in1) hh s.heap.objs.size l (Fy QW) items;have up:∀b o,s.heap.get? b=some o→((s.heap.push {cls:=.type "list_iterator",data:=.fields #[.ref l,.int 0 0] }).push {cls:=.type "list",data:=.seq #[] }).get? b=some o:=λb o e=>EN _ (EN _ e)
 have sI:(s.heap.push {cls:=.type "list_iterator",data:=.fields #[.ref l,.int 0 0] }).objs.size=s.heap.objs.size+1:=Gb ..
 have lt:∀b o,s.heap.get? b=some o→b ∉ [s.heap.objs.size]∧b≠(s.heap.push {cls:=.type "list_iterator",data:=.fields #[.ref l,.int 0 0] }).objs.size:=λb o e=>by
  have h:=EZ e;refine⟨λz=>?_,λz=>?_⟩
  ·rw[E5.mp z]at h;exact FG _ h
  ·rw[z,sI]at h;exact FG _ (Nm h)
 refine EO ⟨GA GL _,qI (G:=λh=>G h/\∀b o,s.heap.get? b=some o->h.get? b=some o) W (λi j vi vj s' Q' E' g'=>hc i j vi vj s' Q' E' g'.1) (λh h' g' kp=>?_) ?_ hn ⟨stay _ _ g (λ_ _ e=>e) up,up⟩ ⟨⟨_,EN _ (E3 _ rfl),rfl,rfl⟩,(hl.push _).push _⟩ (E3 _ rfl) λv h' tk pv kp=>?_⟩
 ·have k2:∀b o,s.heap.get? b=some o->h'.get? b=some o:=λb o e=>kp b o (lt b o e).1 (lt b o e).2 (g'.2 b o e)
  exact⟨stay _ _ g'.1 g'.2 k2,k2⟩
 ·intro z;have z':(s.heap.push {cls:=.type "list_iterator",data:=.fields #[.ref l,.int 0 0] }).objs.size∈[s.heap.objs.size,l]:=z;rw[sI]at z';rcases ET.mp z' with z |z
  ·exact absurd z (NF _)
  ·have e:=E5.mp z;rw[<-e]at QW;exact absurd QW (NG (GR _))
 ·exact hQ v h' tk pv λb o e=>kp b o (lt b o e).1 (lt b o e).2 (up b o e)
theorem uE(W:Walks prog w A.in1 I fp wr n P St)(hc:uq prog w A.in1 .Gt G P bt)(stay:∀h h':Gz,G h->(∀b o,b ∉ wr->b≠S->h.get? b=some o->h'.get? b=some o)->G h')(QL:S ∉ fp):
  ∀(k j:Nat) (s:ER) (vb:EU) (c:Nat),n-(j+1)=k→j+1≤n→G s.heap→St (j+1) s.heap→P (GG bt j) vb→s.heap.get? S=some {cls:=.type "list",dict:=none,data:=.seq #[vb,vb] c,slots:=#[] }→
  (∀v h' tk,P (GG bt (n-1)) v->(∀b o,b ∉ wr->b≠S->s.heap.get? b=some o->h'.get? b=some o)->R (.ok (.ret v)) {s with heap:=h',toks:=tk })->
  IJ (FF prog w) A (.builtin "max.loop" ⟨[.ref I,.none,.ref S],[]⟩) R s:=by
 have nw:S ∉ wr:=λh=>QL (W.sub _ h)
 have nm:(JD "max"++JD ".loop":String)="max.loop":=by decide
 intro k
 induction k with
 |zero=>
  intro j s vb c hk hj g st pb hS hR;obtain rfl:j+1=n:=by lia
  refine GE JI ?_;rw[Gf GM _];show Fd _ A.in1 (J4 (.ref S) >>=_) _ _ s;refine EJ (F7 hS rfl ?_);show Fd _ A.in1 (Lw (Iy (.ref I)) _ >>=_) _ _ s;refine EJ (Ie (W.done s _ _ st λh' tk kp=>?_))
  show Fd _ A.in1 (Ji S (λ_=>#[]) >>=_) _ _ _
  refine EJ (Gw (kp S _ nw hS) rfl (EJ (HN (EO ?_))));exact hR vb _ tk pb λb o hw hb e=>(Fk _ _ (Ne.symm hb)).trans (kp b o hw e)
 |succ k ih=>
  intro j s vb c hk hj g st pb hS hR;refine GE JI ?_;rw[Gf GM _];show Fd _ A.in1 (J4 (.ref S) >>=_) _ _ s;refine EJ (F7 hS rfl ?_);show Fd _ A.in1 (Lw (Iy (.ref I)) _ >>=_) _ _ s;refine EJ (Ie (W.item (j+1) s _ _ (by lia) st λv h' tk pv Qw kp=>?_))
  have g':G h':=stay _ _ g λb o hw _ e=>kp b o hw e
  have Ri:=kp S _ nw hS;show Fd _ A.in1 (Lw (Kk [v,v] (Kr .Gt v vb >>=_)) _ >>=_) _ _ _;refine EJ (Ie (F6 (EJ (hc (j+1) (GG bt j) v vb _ _ _ g' pv pb ?_))));refine EJ (F6 (Hi (EJ (HN (EO ?_)))));by_cases hb:bt (j+1) (GG bt j)=true
  ·rw[if_pos hb];refine EJ (Gw Ri rfl (EJ (HN ?_)));rw[nm];have Qm:∀b o,b≠S->h'.get? b=some o->(h'.update S (FP λ_=>#[v,v])).get? b=some o:=λb o h e=>(Fk _ _ (Ne.symm h)).trans e
   refine EO ⟨GA GM _,ih (j+1) _ v _ (by lia) (by lia) (stay _ _ g' λb o _ h e=>Qm b o h e) (W.frame _ _ _ Qw λb hf o e=>Qm b o (λh=>QL (h ▸ hf)) e) (by rw[GG,if_pos hb];exact pv) (FB _ Ri rfl) λv2 h2 t2 p2 k2=>?_⟩
   exact hR v2 h2 t2 p2 λb o hw h e=>k2 b o hw h (Qm b o h (kp b o hw e))
  ·rw[if_neg hb];refine EJ (HN ?_);rw[nm];refine EO ⟨GA GM _,ih (j+1) _ vb c (by lia) (by lia) g' Qw (by rw[GG,if_neg hb];exact pb) Ri λv2 h2 t2 p2 k2=>?_⟩
   exact hR v2 h2 t2 p2 λb o hw h e=>k2 b o hw h (kp b o hw e)
theorem qV(W:Walks prog w A.in1 I fp wr n P St)(hc:uq prog w A.in1 .Gt G P bt)(stay:∀h h':Gz,G h->(∀b o,b ∉ wr->b≠S->h.get? b=some o->h'.get? b=some o)->G h')(QL:S ∉ fp)(hn:0<n){s:ER}{c:Nat}(g:G s.heap)(st:St 0 s.heap)
  (hS:s.heap.get? S=some {cls:=.type "list",dict:=none,data:=.seq #[] c,slots:=#[] })
  (hR:∀v h' tk,P (GG bt (n-1)) v->(∀b o,b ∉ wr->b≠S->s.heap.get? b=some o->h'.get? b=some o)->R (.ok (.ret v)) {s with heap:=h',toks:=tk }):
  IJ (FF prog w) A (.builtin "max.loop" ⟨[.ref I,.none,.ref S],[]⟩) R s:=by
 have nw:S ∉ wr:=λh=>QL (W.sub _ h)
 have nm:(JD "max"++JD ".loop":String)="max.loop":=by decide
 refine GE JI ?_;rw[Gf GM _];show Fd _ A.in1 (J4 (.ref S) >>=_) _ _ s;refine EJ (F7 hS rfl ?_);show Fd _ A.in1 (Lw (Iy (.ref I)) _ >>=_) _ _ s;refine EJ (Ie (W.item 0 s _ _ hn st λv h' tk pv Qw kp=>?_))
 have Ri:=kp S _ nw hS;show Fd _ A.in1 (Ji S (λ_=>#[v,v]) >>=_) _ _ _
 refine EJ (Gw Ri rfl ?_);rw[nm];have Qm:∀b o,b≠S->h'.get? b=some o->(h'.update S (FP λ_=>#[v,v])).get? b=some o:=λb o h e=>(Fk _ _ (Ne.symm h)).trans e
 refine EO ⟨GA GM _,uE W hc stay QL _ 0 _ v _ rfl hn (stay _ _ g λb o hw h e=>Qm b o h (kp b o hw e)) (W.frame _ _ _ Qw λb hf o e=>Qm b o (λh=>QL (h ▸ hf)) e) pv (FB _ Ri rfl) λv2 h2 t2 p2 k2=>?_⟩
 exact hR v2 h2 t2 p2 λb o hw h e=>k2 b o hw h (Qm b o h (kp b o hw e))
theorem call_maxG{l:E1}{items:Array EU}{G:Gz->Prop}{bt:Nat->Nat->Bool}{Q:EU->ER->Prop}(hh:A.handled=none)(hl:s.heap.IsList l items)(hn:0<items.size)(hc:uq prog w A.in1 .Gt G (λi v=>items[i]?=some v) bt)
  (g:G s.heap) (stay:∀h h':Gz,G h->(∀b o,s.heap.get? b=some o->h.get? b=some o)->(∀b o,s.heap.get? b=some o->h'.get? b=some o)->G h')
  (hQ:∀v h' tk,items[GG bt (items.size-1)]?=some v->(∀b o,s.heap.get? b=some o->h'.get? b=some o)->Q v {s with heap:=h',toks:=tk }):
  Fd (FF prog w) A (call (.builtin "max") [.ref l]) Q E s:=by
 have nm:(JD "max"++JD ".loop":String)="max.loop":=by decide
 refine M5 PySem.F.kind_max PySem.F.plain_max PySem.F.entry_max (PySem.F.args_max1 _) ?_;show Fd _ A.in1 (Builtin.Builtins.bindParams "max" ["key","default"] 0 ⟨[],[]⟩ >>=_) _ _ s;refine EJ (Lq (show Builtin.Builtins.bindParams "max" ["key","default"] 0 ⟨[],[]⟩=pure [none,none] from rfl) ?_)
 refine EJ (EO ?_);refine EJ (GV hl ?_);have QW:l<s.heap.objs.size:=by obtain⟨o,e,_⟩:=hl;exact EZ e
 refine EJ (GX ?_);rw[nm];have W:=Walks.list (prog:=prog) (w:=w) (A:=A.in1) hh s.heap.objs.size l (Fy QW) items;have up:∀b o,s.heap.get? b=some o→((s.heap.push {cls:=.type "list_iterator",data:=.fields #[.ref l,.int 0 0] }).push {cls:=.type "list",data:=.seq #[] }).get? b=some o:=λb o e=>EN _ (EN _ e)
 have sI:(s.heap.push {cls:=.type "list_iterator",data:=.fields #[.ref l,.int 0 0] }).objs.size=s.heap.objs.size+1:=Gb ..
 have lt:∀b o,s.heap.get? b=some o→b ∉ [s.heap.objs.size]∧b≠(s.heap.push {cls:=.type "list_iterator",data:=.fields #[.ref l,.int 0 0] }).objs.size:=λb o e=>by
  have h:=EZ e;refine⟨λz=>?_,λz=>?_⟩
  ·rw[E5.mp z]at h;exact FG _ h
  ·rw[z,sI]at h;exact FG _ (Nm h)
 refine EO ⟨GA GM _,qV (G:=λh=>G h/\∀b o,s.heap.get? b=some o->h.get? b=some o) W (λi j vi vj s' Q' E' g'=>hc i j vi vj s' Q' E' g'.1) (λh h' g' kp=>?_) ?_ hn ⟨stay _ _ g (λ_ _ e=>e) up,up⟩ ⟨⟨_,EN _ (E3 _ rfl),rfl,rfl⟩,(hl.push _).push _⟩ (E3 _ rfl) λv h' tk pv kp=>?_⟩
 ·have k2:∀b o,s.heap.get? b=some o->h'.get? b=some o:=λb o e=>kp b o (lt b o e).1 (lt b o e).2 (g'.2 b o e)
  exact⟨stay _ _ g'.1 g'.2 k2,k2⟩
 ·intro z;have z':(s.heap.push {cls:=.type "list_iterator",data:=.fields #[.ref l,.int 0 0] }).objs.size∈[s.heap.objs.size,l]:=z;rw[sI]at z';rcases ET.mp z' with z |z
  ·exact absurd z (NF _)
  ·have e:=E5.mp z;rw[<-e]at QW;exact absurd QW (NG (GR _))
 ·exact hQ v h' tk pv λb o e=>kp b o (lt b o e).1 (lt b o e).2 (up b o e)
end
end ST
namespace ST
open PySem PyProof.Rows
section
variable {prog:E2}{w:Fs}{A:Fq}{E:EU→ER→Prop}{s:ER}
theorem sR{x y:Int}{t u:Tok}{Q:EU->ER->Prop}(h:Q (.bool (decide (x<y))) s):Fd (FF prog w) A (Kr .Lt (.int x t) (.int y u)) Q E s:=
 Le (op:=.Lt) (Kj s _ t) (Kj s _ u) PySem.F.slot_int_lt PySem.F.entry_int_lt (PySem.F.args_int_lt_2 _ _) (gives_int_lt _ _ t u) (λx=>nomatch x) h
theorem w9{x y:E1}{a b:Int×Int}{P:Fin->ER->Prop}(hx:TK prog w s.heap [a.1,a.2] x)(hy:TK prog w s.heap [b.1,b.2] y)(h:P (.done (.ret (.bool (ltP a b)))) s):
  Fd (FF prog w) A (Builtin.«tuple.__lt__» ⟨[.ref x,.ref y],[]⟩) P E s:=by
 have hTb:=hy.typeIs;obtain⟨o,PH,n,t,u,ho,_,hd,hi⟩:=hx.two;obtain⟨o',its',n',t',u',QO,_,Qt,PY⟩:=hy.two;show Fd _ _ (OO (.ref y) (.type "tuple") >>=_) _ _ s;refine EJ (Ha hTb J6 ?_);simp only[GI,Fb,if_false];refine EJ (HY ho hd ?_);refine EJ (HY QO Qt ?_);have sz:PH.size=its'.size:=by rw[<-E_,<-E_,hi,PY];rfl
 rw[hi,PY];refine EJ ?_;simp only[GB,Lg,Ht,Ic];refine EJ (EJ ((JK prog w).eqBool (a:=a.1) (b:=b.1) (Gq _ _ _ _) (Gq _ _ _ _) ?_));by_cases e1:a.1=b.1
 ·rw[decide_eq_true e1];simp only[GI,Fb,if_false];refine EO ?_;refine EJ (EJ ((JK prog w).eqBool (a:=a.2) (b:=b.2) (Gq _ _ _ _) (Gq _ _ _ _) ?_));by_cases e2:a.2=b.2
  ·rw[decide_eq_true e2];simp only[GI,Fb,if_false];refine EO (EO ?_);have z:ltP a b=false:=by unfold ltP;simp;lia
   rw[z]at h;refine EO ?_;show P (.done (.ret (.bool (decide (PH.size<its'.size))))) s;rw[sz,decide_eq_false (FG _)];exact h
  ·rw[decide_eq_false e2];simp only[Ib,if_true];have z:ltP a b=decide (a.2<b.2):=by unfold ltP;rw[e1];simp
   rw[z]at h;exact EJ (IA (EJ (sR (EJ (EO (EO (EO (EO h))))))))
 ·rw[decide_eq_false e1];simp only[Ib,if_true];have z:ltP a b=decide (a.1<b.1):=by unfold ltP;simp[e1]
  rw[z]at h;exact EJ (IA (EJ (sR (EJ (EO (EO (EO (EO h))))))))
theorem lt_ptsR{x y:E1}{a b:Int×Int}{Q:EU->ER->Prop}(hu:A.units<II)(hx:TK prog w s.heap [a.1,a.2] x)(hy:TK prog w s.heap [b.1,b.2] y)(h:Q (.bool (ltP a b)) s):
  Fd (FF prog w) A (Gn .Lt (.ref x) (.ref y)) Q E s:=
 IR (op:=.Lt) hx.typeIs hy.typeIs Mj
  (F4 Mj hx.typeIs PySem.F.entry_tuple_lt (w9 hx hy ⟨_,rfl,(λe=>nomatch e),h⟩) (PySem.F.args_tuple_lt_2 _ _)) hu
theorem tU{x y:Int}{t u:Tok}{Q:EU->ER->Prop}(h:Q (.bool (decide (y<x))) s):Fd (FF prog w) A (Kr .Gt (.int x t) (.int y u)) Q E s:=
 Le (op:=.Gt) (Kj s _ t) (Kj s _ u) PySem.F.slot_int_gt PySem.F.entry_int_gt (PySem.F.args_int_gt_2 _ _) (gives_int_gt _ _ t u) (λx=>nomatch x) h
theorem vU{x y:E1}{a b:Int×Int}{P:Fin->ER->Prop}(hx:TK prog w s.heap [a.1,a.2] x)(hy:TK prog w s.heap [b.1,b.2] y)(h:P (.done (.ret (.bool (ltP b a)))) s):
  Fd (FF prog w) A (Builtin.«tuple.__gt__» ⟨[.ref x,.ref y],[]⟩) P E s:=by
 have hTb:=hy.typeIs;obtain⟨o,PH,n,t,u,ho,_,hd,hi⟩:=hx.two;obtain⟨o',its',n',t',u',QO,_,Qt,PY⟩:=hy.two;show Fd _ _ (OO (.ref y) (.type "tuple") >>=_) _ _ s;refine EJ (Ha hTb J6 ?_);simp only[GI,Fb,if_false];refine EJ (HY ho hd ?_);refine EJ (HY QO Qt ?_);have sz:PH.size=its'.size:=by rw[<-E_,<-E_,hi,PY];rfl
 rw[hi,PY];refine EJ ?_;simp only[GB,Lg,Ht,Ic];refine EJ (EJ ((JK prog w).eqBool (a:=a.1) (b:=b.1) (Gq _ _ _ _) (Gq _ _ _ _) ?_));by_cases e1:a.1=b.1
 ·rw[decide_eq_true e1];simp only[GI,Fb,if_false];refine EO ?_;refine EJ (EJ ((JK prog w).eqBool (a:=a.2) (b:=b.2) (Gq _ _ _ _) (Gq _ _ _ _) ?_));by_cases e2:a.2=b.2
  ·rw[decide_eq_true e2];simp only[GI,Fb,if_false];refine EO (EO ?_);have z:ltP b a=false:=by unfold ltP;simp;lia
   rw[z]at h;refine EO ?_;show P (.done (.ret (.bool (decide (PH.size >its'.size))))) s;rw[sz,decide_eq_false (FG _)];exact h
  ·rw[decide_eq_false e2];simp only[Ib,if_true];have z:ltP b a=decide (b.2<a.2):=by unfold ltP;rw[e1];simp
   rw[z]at h;exact EJ (IA (EJ (tU (EJ (EO (EO (EO (EO h))))))))
 ·rw[decide_eq_false e1];simp only[Ib,if_true];have z:ltP b a=decide (b.1<a.1):=by unfold ltP;simp[Ne.symm e1]
  rw[z]at h;exact EJ (IA (EJ (tU (EJ (EO (EO (EO (EO h))))))))
theorem gt_ptsR{x y:E1}{a b:Int×Int}{Q:EU->ER->Prop}(hu:A.units<II)(hx:TK prog w s.heap [a.1,a.2] x)(hy:TK prog w s.heap [b.1,b.2] y)(h:Q (.bool (ltP b a)) s):
  Fd (FF prog w) A (Gn .Gt (.ref x) (.ref y)) Q E s:=
 IR (op:=.Gt) hx.typeIs hy.typeIs Ml
  (F4 Ml hx.typeIs PySem.F.entry_tuple_gt (vU hx hy ⟨_,rfl,(λe=>nomatch e),h⟩) (PySem.F.args_tuple_gt_2 _ _)) hu
end
theorem sj{a b:Int×Int}:ltP a b=true↔(a.1<b.1\/(a.1=b.1/\a.2<b.2)):=by unfold ltP;exact decide_eq_true_iff
theorem ltP_no{a b:Int×Int}:ltP a b=false↔¬ (a.1<b.1\/(a.1=b.1/\a.2<b.2)):=by unfold ltP;exact decide_eq_false_iff_not
theorem ltP_one{a b:Int×Int}(h1:ltP a b=false)(h2:ltP b a=false):a=b:=by
 rw[ltP_no]at h1 h2;obtain⟨a1,a2⟩:=a;obtain⟨b1,b2⟩:=b;simp only[JC]at *;lia
theorem best_min(f:Nat->Int×Int):∀k,GG (λi j=>ltP (f i) (f j)) k<=k/\∀j,j<=k->ltP (f j) (f (GG (λi j=>ltP (f i) (f j)) k))=false
 |0=>⟨EX _,λj hj=>by
  obtain rfl:j=0:=by lia
  rw[ltP_no];simp[GG]⟩
 |k+1=>by
  obtain⟨h1,h2⟩:=best_min f k;by_cases hb:ltP (f (k+1)) (f (GG (λi j=>ltP (f i) (f j)) k))=true
  ·rw[GG,if_pos hb];refine⟨EX _,λj hj=>?_⟩
   rw[sj]at hb;rcases G0 j (k+1) with z |z
   ·have:=ltP_no.mp (h2 j (by lia))
    rw[ltP_no];lia
   ·obtain rfl:j=k+1:=by lia
    rw[ltP_no];lia
  ·rw[GG,if_neg hb];refine⟨by lia,λj hj=>?_⟩
   rcases G0 j (k+1) with z |z
   ·exact h2 j (by lia)
   ·obtain rfl:j=k+1:=by lia
    simpa using hb
theorem best_max(f:Nat->Int×Int):∀k,GG (λi j=>ltP (f j) (f i)) k<=k/\∀j,j<=k->ltP (f (GG (λi j=>ltP (f j) (f i)) k)) (f j)=false
 |0=>⟨EX _,λj hj=>by
  obtain rfl:j=0:=by lia
  rw[ltP_no];simp[GG]⟩
 |k+1=>by
  obtain⟨h1,h2⟩:=best_max f k;by_cases hb:ltP (f (GG (λi j=>ltP (f j) (f i)) k)) (f (k+1))=true
  ·rw[GG,if_pos hb];refine⟨EX _,λj hj=>?_⟩
   rw[sj]at hb;rcases G0 j (k+1) with z |z
   ·have:=ltP_no.mp (h2 j (by lia))
    rw[ltP_no];lia
   ·obtain rfl:j=k+1:=by lia
    rw[ltP_no];lia
  ·rw[GG,if_neg hb];refine⟨by lia,λj hj=>?_⟩
   rcases G0 j (k+1) with z |z
   ·exact h2 j (by lia)
   ·obtain rfl:j=k+1:=by lia
    simpa using hb
end ST
namespace L2
open PySem PySem.Spec PyProof.Rows
section
variable {X:Cx}{pts:List P2}{M:P2}
theorem vO{pins:List (E1×Obj)}{σ:List (Option V)}{H:Hp}{s:ER}(I:Inv X pins σ H s){ws:List V}{PH:List EU}(rv:aQ ws PH)(rs:Rps X.K H ws (pts.map pu))(i:Nat)(y:EU)(hy:PH.toArray[i]?=some y):
  i<pts.length/\∃c,y=.ref c/\ws[i]?=some (.ref c)/\∀prog w,ST.TK prog w s.heap [(pts.getD i (0,0)).1,(pts.getD i (0,0)).2] c:=by
 have R6:PH[i]?=some y:=by simpa using hy
 have hll:ws.length=pts.length:=by rw[rs.len,EM]
 have hi:i<PH.length:=aL R6;have hw:i<ws.length:=by rw[rv.length];exact hi
 have hq:i<pts.length:=by lia
 obtain⟨u,e1,e2⟩:=rv.get (EK hw);rw[R6]at e1;cases e1;have r:=rs.at_ i _ (pu (pts.getD i (0,0))) (EK hw) (by rw[EW,EK hq];simp[hq])
 obtain⟨c,rfl,t⟩:=iJ I r e2;refine⟨hq,c,rfl,?_,t⟩;rw[EK hw];generalize ws[i]=z at *;cases r;cases e2;rfl
theorem Bg{g:Nat}(hg:g<pts.length):(pts.map pu)[g]?=some (pu (pts.getD g (0,0))):=by
 rw[EW,EK hg];simp[hg]
theorem B4(hc:X.calm=true)(hu:X.A.units+10<II)(hM:M∈pts)(hL:∀q∈pts,ST.ltP q M=false):eB X (.builtin "min") [lp pts] (pu M):=by
 intro pins s σ H vs us Q I r hq;obtain⟨O,d,rs,q⟩:=hq;obtain⟨v,rfl,h1⟩:=cq rs;obtain⟨p1,rfl,r1⟩:=eY r;cases h1 with
 | @lst a ws _ hq hl hh=>
  cases r1;obtain⟨PH,rv,pl,_⟩:=I.list (SqL.of (ax _ _ hq));have rs':Rps X.K (hid H O) ws (pts.map pu):=⟨hl,hh⟩;have PL:PH.toArray.size=pts.length:=by rw[E7,<-rv.length,hl,EM]
  have Rc:=vO (pts:=pts) I rv (rs'.same ax);have hn:0<pts.length:=Gk hM;refine ST.call_minG (G:=λh=>∀(i:Nat) (y:EU),PH.toArray[i]?=some y->∃c,y=.ref c/\ST.TK X.prog X.w h [(pts.getD i (0,0)).1,(pts.getD i (0,0)).2] c) (bt:=λi j=>ST.ltP (pts.getD i (0,0)) (pts.getD j (0,0))) (I.ok.hd hc) pl.isList (by rw[PL];exact hn) (λi j vi vj s' Q' E' g hi hj k=>?_) (λi y hy=>?_) (λh h' _ _ k2 i y hy=>?_) λy h' tk hy kp=>?_
  ·obtain⟨c,rfl,t⟩:=g i vi hi;obtain⟨c',rfl,t'⟩:=g j vj hj;exact ST.lt_ptsR (show X.A.units+1<II by lia) t t' k
  ·obtain⟨_,c,rfl,_,t⟩:=Rc i y hy;exact⟨c,rfl,t _ _⟩
  ·obtain⟨_,c,rfl,_,t⟩:=Rc i y hy;obtain⟨o,items,n,ho,z⟩:=t X.prog X.w;exact⟨c,rfl,o,items,n,k2 c o ho,z⟩
  ·obtain⟨hg,c,rfl,hw,t⟩:=Rc _ y hy;obtain⟨b1,b2⟩:=ST.best_min (λi=>pts.getD i (0,0)) (PH.toArray.size-1)
   have e:pts.getD (GG (λi j=>ST.ltP (pts.getD i (0,0)) (pts.getD j (0,0))) (PH.toArray.size-1)) (0,0)=M:=by
    rw[PL]at b1 b2 hg |-;generalize GG (λi j=>ST.ltP (pts.getD i (0,0)) (pts.getD j (0,0))) (pts.length-1)=g at *
    obtain⟨j,hj⟩:=F9.mp hM;have k1:=b2 j (by have:=aL hj;lia)
    rw[show pts.getD j (0,0)=M by rw[Fe,hj];rfl]at k1
    exact ST.ltP_one (hL _ (by simp[hg])) k1
   refine⟨.ref c,H,I.kept (t':=tk) kp,rfl,q _ H (.refl H) ?_⟩;have z:=rs'.at_ _ _ _ hw (Bg hg);rw[e]at z;exact z
theorem Bq(hc:X.calm=true)(hu:X.A.units+10<II)(hM:M∈pts)(hL:∀q∈pts,ST.ltP M q=false):eB X (.builtin "max") [lp pts] (pu M):=by
 intro pins s σ H vs us Q I r hq;obtain⟨O,d,rs,q⟩:=hq;obtain⟨v,rfl,h1⟩:=cq rs;obtain⟨p1,rfl,r1⟩:=eY r;cases h1 with
 | @lst a ws _ hq hl hh=>
  cases r1;obtain⟨PH,rv,pl,_⟩:=I.list (SqL.of (ax _ _ hq));have rs':Rps X.K (hid H O) ws (pts.map pu):=⟨hl,hh⟩;have PL:PH.toArray.size=pts.length:=by rw[E7,<-rv.length,hl,EM]
  have Rc:=vO (pts:=pts) I rv (rs'.same ax);have hn:0<pts.length:=Gk hM;refine ST.call_maxG (G:=λh=>∀(i:Nat) (y:EU),PH.toArray[i]?=some y->∃c,y=.ref c/\ST.TK X.prog X.w h [(pts.getD i (0,0)).1,(pts.getD i (0,0)).2] c) (bt:=λi j=>ST.ltP (pts.getD j (0,0)) (pts.getD i (0,0))) (I.ok.hd hc) pl.isList (by rw[PL];exact hn) (λi j vi vj s' Q' E' g hi hj k=>?_) (λi y hy=>?_) (λh h' _ _ k2 i y hy=>?_) λy h' tk hy kp=>?_
  ·obtain⟨c,rfl,t⟩:=g i vi hi;obtain⟨c',rfl,t'⟩:=g j vj hj;exact ST.gt_ptsR (show X.A.units+1<II by lia) t t' k
  ·obtain⟨_,c,rfl,_,t⟩:=Rc i y hy;exact⟨c,rfl,t _ _⟩
  ·obtain⟨_,c,rfl,_,t⟩:=Rc i y hy;obtain⟨o,items,n,ho,z⟩:=t X.prog X.w;exact⟨c,rfl,o,items,n,k2 c o ho,z⟩
  ·obtain⟨hg,c,rfl,hw,t⟩:=Rc _ y hy;obtain⟨b1,b2⟩:=ST.best_max (λi=>pts.getD i (0,0)) (PH.toArray.size-1)
   have e:pts.getD (GG (λi j=>ST.ltP (pts.getD j (0,0)) (pts.getD i (0,0))) (PH.toArray.size-1)) (0,0)=M:=by
    rw[PL]at b1 b2 hg |-;generalize GG (λi j=>ST.ltP (pts.getD j (0,0)) (pts.getD i (0,0))) (pts.length-1)=g at *
    obtain⟨j,hj⟩:=F9.mp hM;have k1:=b2 j (by have:=aL hj;lia)
    rw[show pts.getD j (0,0)=M by rw[Fe,hj];rfl]at k1
    exact ST.ltP_one k1 (hL _ (by simp[hg]))
   refine⟨.ref c,H,I.kept (t':=tk) kp,rfl,q _ H (.refl H) ?_⟩;have z:=rs'.at_ _ _ _ hw (Bg hg);rw[e]at z;exact z
variable {H0:Hp}{O0:List E1}{ps:PSt}{xs:List U}{x:Str}{pos pc p':Pos}
variable {a b:Expr}{i j:Int}
theorem DC(hg:Gl X x)(h:∃t,X.mg x=some (.int i t))(hd:(x==("__debug__":Str))=false:=by decide):Ev X H0 O0 ps (.Name x pos) (.int i):=by
 obtain⟨t,hm⟩:=h;exact PE.mono (As (v:=.int i) hg hm ⟨t,rfl⟩ hd) λ_ H _ ⟨_,_,k⟩=>k _ H (.refl H) (.int i)
end
section
variable {X:Cx}{H0:Hp}{O0:List E1}{ps:PSt}{e tg:Expr}{p pos:Pos}{xs:List U}{x:U}
variable {a b:Expr}{u:U}{k:Int}
end
end L2
namespace L2
open PySem PySem.Spec PySem.W PyProof.Rows
section
variable {X:Cx}
end
end L2
namespace L2
open PySem PySem.Spec PyProof.Rows
variable {H0:Hp}{O0:List E1}{xs:List U}
section
variable {X:Cx}{E:XK}{ps Qo:PSt}{D:PD}{s:Hr}{ss Qc:List Hr}{a b c e:Expr}{es:List Expr}{pos p:Pos}{u x y:U}{ys us:List U}{k:Bool}
 {CX:CXT}{n:Nat}{f C:E1}{fd:Ga}{pn:List Str}{Qd:List U->Out->Prop}{nm:Str}
end
theorem Rs.free{K:EL}{H0 H:Hp}{O0 O:List E1}{ps:PSt}{σ:St}{xs:List U}(n:Nat)(h:ps[n]?=some (some (.own xs)))(R:Rs K H0 O0 ps σ H O):∃O',(∀b∈O',b∈O)/\Rs K H0 O0 (ps.set n (some (.val (.lst xs)))) σ H O':=by
 obtain⟨v,hv,a,vs,rfl,ha,ha0,hH,rs⟩:=R.at_ n _ h;have less:∀b∈O.filter (λb=>decide (b≠a)),b∈O:=λb hb=>(F_.mp hb).1
 have keep:∀b∈O,b≠a->b∈O.filter (λb=>decide (b≠a)):=λb hb ne=>F_.mpr ⟨hb,by simpa using ne⟩
 have sm:aJ (hid H O) (hid H (O.filter (λb=>decide (b≠a)))):=e7 less
 have na:a ∉ O.filter (λb=>decide (b≠a)):=λz=>by have:=(F_.mp z).2;simp at this
 refine⟨O.filter (λb=>decide (b≠a)),less,R.same,λb hb=>keep b (R.old b hb) λe=>ha0 (e ▸ hb),λb hb=>R.new b (less b hb),λb hb=>R.dom b (less b hb),by rw[R.len,HM],λi s hs=>?_,λi j ys zs b h1 h2 h3 h4=>?_⟩
 ·rcases cJ hs with ⟨rfl,e⟩ |⟨ne,hs⟩
  ·cases e;exact⟨.ref a,hv,.lst (cS hH na) (rs.same sm).len (rs.same sm).at_⟩
  ·obtain⟨w,hw,ok⟩:=R.at_ i s hs;refine⟨w,hw,?_⟩;cases s with
   |val u=>exact Rp.same sm ok
   |own ys=>
    obtain⟨b,ws,rfl,hb,hb0,hHb,rsb⟩:=ok;refine⟨b,ws,rfl,keep b hb λe=>?_,hb0,hHb,rsb.same sm⟩
    subst e;exact ne (R.inj n i _ _ b h hs hv hw)
   |pin z u=>exact⟨ok.1,Rp.same sm ok.2⟩
   |dsk w C b d Qg=>
    obtain⟨dx,kv,e1,e2,e3,e4,e5,e6⟩:=ok;exact⟨dx,kv,e1,keep d e2 (λe=>by rw[e,hH]at e5;cases e5),e3,e4,e5,e6.same sm⟩
 ·rcases cJ h1 with ⟨_,e⟩ |⟨_,h1⟩
  ·cases e
  ·rcases cJ h2 with ⟨_,e⟩ |⟨_,h2⟩
   ·cases e
   ·exact R.inj i j _ _ b h1 h2 h3 h4
section
variable {X:Cx}{E:XK}{ps:PSt}{D:PD}{ss:List Hr}{e:Expr}{b:Bool}
theorem my(n:Nat)(h:ps[n]?=some (some (.own xs)))(w:Ws X H0 O0 E ss D (ps.set n (some (.val (.lst xs))))):Ws X H0 O0 E ss D ps:=
 PSs.mono w λD' σ H ⟨L,O,R⟩=>by
  obtain⟨O',_,R'⟩:=R.free n h;exact⟨L,O',R'⟩
end
section
variable {X:Cx}{ns:List Int}{M:Int}
theorem yc(hc:X.calm=true)(hM:M∈ns∧∀a∈ns,a≤M):eB X (.builtin "max") [.lst (ns.map U.int)] (.int M):=by
 intro pins s σ H vs us Q I r hq;obtain⟨O,d,rs,q⟩:=hq;obtain⟨v,rfl,h1⟩:=cq rs;obtain⟨p1,rfl,r1⟩:=eY r;cases h1 with
 | @lst a ws _ hq hl hh=>
  cases r1;obtain⟨PH,rv,pl,_⟩:=I.list (SqL.of (ax _ _ hq));have PL:PH.length=ns.length:=by rw[<-rv.length,hl,EM]
  have Rc:=kH (ns:=ns) rv ⟨hl,hh⟩;have hn:0<ns.length:=Gk hM.1;refine call_max_walk (GV pl.isList ?_);have QW:a<s.heap.objs.size:=by obtain⟨o,e,_⟩:=pl.isList;exact EZ e
  refine⟨s.heap.objs.size,_,_,_,_,_,_,rfl,Walks.list (A:=X.A.in1) (I.ok.hd hc) s.heap.objs.size a (Fy QW) PH.toArray,⟨⟨_,E3 _ rfl,rfl,rfl⟩,pl.isList.push _⟩,λb hb=>?_,by rw[E7,PL];exact hn,CmpOf.ints_gt (λi=>ns.getD i 0) Rc,λv h' tk hP hk=>?_⟩
  ·show b<(s.heap.push _).objs.size;rw[Gb];rcases ET.mp hb with z |z
   ·rw[z];exact GR _
   ·rw[E5.mp z];exact GY QW
  ·obtain⟨t,rfl⟩:=Rc _ _ hP;obtain⟨b1,b2⟩:=argBest_gt (λi=>ns.getD i 0) (PH.toArray.size-1)
   have e:ns.getD (GG (λi j=>decide (ns.getD i 0 >ns.getD j 0)) (PH.toArray.size-1)) 0=M:=by
    rw[E7,PL]at b1 b2 |-;generalize GG (λi j=>decide (ns.getD i 0 >ns.getD j 0)) (ns.length-1)=g at *
    have hg:g<ns.length:=by lia
    obtain⟨j,hj,ej⟩:=Kn hM.1;have k1:=b2 j (by lia)
    have k2:=hM.2 ns[g] (Jk hg);simp only[Fe,EK hg,EK hj,HU]at k1 |-;lia
   rw[e];refine⟨.int M,H,I.kept (t':=tk) λb o e=>hk b o ?_ (EN _ e),⟨t,rfl⟩,q _ H (.refl H) (.int _)⟩
   intro z;have:b=s.heap.objs.size:=by simpa using z
   exact absurd (EZ e) (by rw[this];exact FG _)
variable {E:XK}{ps:PSt}{D:PD}{e:Expr}{pos:Pos}{ys:List U}
theorem xH(i:Nat){x:Str}{Qj PZ xp:Pos}(hp:ps[i]?=some (some (.own xs)))(ha:Ev X H0 O0 ps e (.lst ys))(hz:xs.length+ys.length<=sizeLine)(h:D.nx (ps.set i (some (.own (xs++ys)))))
  (hN:X.N[i]?=some x:=by rfl) (hv:Vis X.env.scope x:=by first |exact Or.inl rfl |exact Or.inr (Or.inl rfl) |exact Or.inr (Or.inr rfl)) (hd:(x==("__debug__":Str))=false:=by decide) (QD:(x==("__classdict__":Str))=false:=by decide)
  (QG:IW (.Name x xp) "extend" X.env (HE (.Name x xp) X.env)=HE (.Name x xp) X.env:=by rfl)
  (RM:((Iu PZ (E4 [e] X.env)).all (λx=>!x.1) && (NM PZ (Lo [] X.env)).all (λx=>x.1.isSome) && decide ([e].length+([]:List Km).length+(if ([]:List Km).isEmpty then 0 else 1)<30))=true:=by rfl)
  (QH:(Qj.endLine==PZ.line)=true:=by rfl) (hse:E4 [e] X.env=(false,HE e X.env)::E4 [] X.env:=by rfl) (QY:(Iu PZ (E4 [] X.env)).any (·.1)=false:=by rfl)
  (hs:Jv (.Call (.Attribute (.Name x xp) "extend" Qj) [e] [] PZ) none pos.line X.env=pure false:=by rfl):W1 X H0 O0 E (.Expr (.Call (.Attribute (.Name x xp) "extend" Qj) [e] [] PZ) pos) D ps:=
 PS.mono (jm (AU Jz PySem.F.slot_list_extend PySem.F.type_list_extend vt (fY hN hv hd QD) (ci ha eP hse) QG RM QH hse QY) hs) λD' σ H ⟨L,O,R⟩=>by
  obtain⟨v,h1,a,vs,rfl,h3,h4,h5,h6⟩:=R.at_ i _ hp;refine⟨_,h1,.inl ⟨rfl,_,SqL.of h5⟩,O,R,λw H' s r=>?_⟩
  cases r with
  | @lst b zs _ hq hl hh=>
   refine⟨a,b,vs,zs,rfl,rfl,s _ _ h5,ax _ _ hq,by rw[h6.len,hl];exact hz,?_⟩
   exact L.nx _ _ _ O ((R.go s).write hp h1 ((h6.same (aC s)).snoc ⟨hl,hh⟩)) h
end
end L2
namespace L2
open PySem PySem.Spec PySem.W PyProof.Rows
section
variable {X:Cx}
variable {H0:Hp}{O0:List E1}{E:XK}{ps:PSt}{D:PD}{a e:Expr}{es:List Expr}{us:List U}{k:Bool}{n:Nat}{fd:Ga}{pn:List Str}{Qd:List U→Out→Prop}
end
end L2
namespace L2
open PySem PySem.Spec PyProof.Rows
section
variable {X:Cx}{H0:Hp}{O0:List E1}{ps:PSt}{a b:Expr}{p:P2}{l:List P2}
end
end L2
namespace ST
open PySem PySem.W PySem.Calls PyProof.Rows
section
variable {prog:E2}{w:Fs}{A:Fq}{E:EU→ER→Prop}{s:ER}
end
end ST
namespace L2
open PySem PySem.Spec PyProof.Rows
section
variable {X:Cx}{H0:Hp}{O0:List E1}{ps:PSt}{e:Expr}{p pos:Pos}{a b:P2}
end
end L2
namespace ST
open PySem PySem.W PySem.Calls PyProof.Rows
section
variable {prog:E2}{w:Fs}{A:Fq}{E:EU→ER→Prop}{s:ER}
end
end ST
namespace L2
open PySem PySem.Spec PyProof.Rows
section
variable {X:Cx}{H0:Hp}{O0:List E1}{ps:PSt}{e:Expr}{pts:List P2}{pos p:Pos}
end
end L2
namespace L2
open PySem PySem.Spec PySem.W PyProof.Rows
variable {es:List Expr}{pn:List Str}{Qd:List U→Out→Prop}
section
variable {X:Cx}
variable {H0:Hp}{O0:List E1}{E:XK}{ps:PSt}{D:PD}{a e:Expr}{us:List U}{k:Bool}{n:Nat}{fd:Ga}
end
structure vL(K:EL)(x PM:Str)(st:Hr)(f:E1)(fd:Ga)(D:E1):Prop where
 ex:∃(oc:EU) (od:Option E1) (kV QK pm:EU) (an:Option E1) (PV ct:EU) (Rv:Array (Option EU)),
  fd=HC x PM (bW st) (bI st) (aj st) (.ref D) kV QK pm an PV ct/\K.lookup f=some ⟨oc,od,.func fd,Rv⟩/\JV K PV PM=true
 kp:Ho K (.ref f)=true
theorem AD{K:EL}{x PM:Str}{st:Hr}{f D:E1}{oc:EU}{od an:Option E1}{Rv:Array (Option EU)}{kV QK pm PV ct:EU}(l:K.lookup f=some ⟨oc,od,.func (HC x PM (bW st) (bI st) (aj st) (.ref D) kV QK pm an PV ct),Rv⟩)
  (c:JV K PV PM=true) (k:Ho K (.ref f)=true):vL K x PM st f (HC x PM (bW st) (bI st) (aj st) (.ref D) kV QK pm an PV ct) D:=⟨⟨oc,od,kV,QK,pm,an,PV,ct,Rv,rfl,l,c⟩,k⟩
section
variable {P:E2}{w:Fs}{K:EL}{mg:Str→Option EU}{base:Gz}{N:List Str}{PM nm:Str}{f D:E1}
theorem vL.okF{x:Str}{st:Hr}{fd:Ga}{k:Nat}{sp:Sp}(F:vL K x PM st f fd D)(S:av N pn (aj st))(len:∀vs H Q E,sp vs H Q E->vs.length=pn.length)
  (QF:∀(PV:EU) (A:Fq) (outer:List Env) (s:ER) (H:Hp) (vs:List V) (Q:VK) (E:XK),d6 k (A.deeper (L4 PM (aj st) s.heap.objs.size f PV))->sp vs H Q E->
   ∃t,PSs (m9 (CXF P w) P w K mg base N PM (aj st) f PV A outer s H E) (bI st) t/\t {nx:=λ_ H'=>Q .non H',rt:=Q } (start N vs) H):a9 P w K mg base (CXF P w) (k+1) f fd pn sp:=by
 obtain⟨oc,od,kV,QK,pm,an,PV,ct,Rv,rfl,lk,QD⟩:=F.ex;exact Bm lk QD S len λA outer s H vs Q E hr Q4=>QF PV A outer s H vs Q E hr Q4
theorem CQ{st:Hr}{fd:Ga}{k:Nat}{Qd:List U->Out->Prop}(F:vL K nm PM st f fd D)(S:av N pn (aj st))(len:∀us o,Qd us o->us.length=pn.length)
  (QF:∀(PV:EU) (A:Fq) (outer:List Env) (s:ER) (H:Hp) (E:XK) (O:List E1) (us:List U) (o:Out),d6 k (A.deeper (L4 PM (aj st) s.heap.objs.size f PV))->Qd us o->
   Ws (m9 (CXF P w) P w K mg base N PM (aj st) f PV A outer s H E) H O E (bI st) ⟨λ_=>o=.val .non,λo'=>o'=o,λ_=>False,λ_=>False⟩ (gl N us)):a9 P w K mg base (CXF P w) (k+1) f fd pn (spU K Qd):=by
 refine F.okF S (λvs H Q E h=>?_) λPV A outer s H vs Q E hr h=>?_
 ·obtain⟨us,O,o,_,r,Q4,_⟩:=h;rw[r.len];exact len us o Q4
 ·obtain⟨us,O,o,d,r,Q4,q⟩:=h;refine⟨_,QF PV A outer s H E O us o hr Q4,⟨λps σ H' O' R e=>?_,λ_ _ _ _ _ e=>e.elim,λ_ _ _ _ _ e=>e.elim,λo' e=>by subst e;exact q⟩,O,?_⟩
  ·subst e;exact q .non H' R.same .non
  ·refine⟨.refl H,λa h=>h,λa h=>.inl h,d,?_,λi sl e=>?_,λi j xs ys a e1 e2 _ _=>?_⟩
   ·unfold start gl;rw[FM,FM,EM,EM,HV,HV,r.len]
   ·unfold gl at e;by_cases hi:i<us.length
    ·rw[Fh (by simpa using hi),EW,EK hi]at e
     cases e;obtain⟨v,h1,h2⟩:=r.get (EK hi);refine⟨v,?_,h2⟩;unfold start;rw[Fh (by simpa [r.len] using hi),EW,h1];rfl
    ·rw[Fj (by simpa using hi),Hz]at e
     split at e <;>cases e
   ·exfalso
    unfold gl at e1;by_cases hi:i<us.length
    ·rw[Fh (by simpa using hi),EW,EK hi]at e1
     cases e1
    ·rw[Fj (by simpa using hi),Hz]at e1
     split at e1 <;>cases e1
end
section
variable {X:Cx}{H0:Hp}{O0:List E1}{ps:PSt}{e:Expr}{pos p:Pos}{u:U}{us:List U}{xs:List U}{CX:CXT}{n:Nat}{f:E1}{fd:Ga}{nm:Str}{j:Int}
theorem z9(F:a9 X.prog X.w X.K X.mg X.base CX n f fd pn (spU X.K Qd))(hr:d6 n X.A)(hg:Gl X nm)(hm:X.mg nm=some (.ref f))(hk:Ho X.K (.ref f)=true)(hb:∃t,dt X.K fd pn [.int j t])(hx:iL CX X E0)
  (ha:EvA X H0 O0 ps (e::es) us) (h:Qd (us++[.int j]) (.val u)) (Q6:(nm==("__debug__":Str))=false:=by decide) (he:E4 (e::es) X.env=(false,HE e X.env)::E4 es X.env:=by rfl) (QA:(Iu pos (E4 es X.env)).any (·.1)=false:=by rfl):
  Ev X H0 O0 ps (.Call (.Name nm p) (e::es) [] pos) u:=by
 obtain⟨t,hb⟩:=hb;refine PE.mono (mw F hr hg hm hk hb (.cons (show aZ (.int j) (.int j t) from ⟨t,rfl⟩) .nil) hx ha Q6 he QA) λσ H Q ⟨O,R,q⟩=>⟨O,R,λvs H1 s1 r1=>?_⟩
 show spU X.K Qd (vs++[.int j]) H1 Q _;exact⟨us++[.int j],O,.val u,(R.go s1).dom,r1.snoc (.cons (.int _) .nil),h,λv H2 s2 r2=>q v H2 (s1.trans s2) r2⟩
end
end L2
namespace L2
open PySem PySem.Spec PyProof.Rows
section
variable {X:Cx}{H0:Hp}{O0:List E1}{ps:PSt}{a b:Expr}{k:Int}{ns:List Int}
end
theorem uN{P:E2}{w:Fs}{K:EL}{tg:Expr}(it:E1)(lo:Int)(n:Nat):pY P w K tg (Itr lo n) [it] it (λi h=>IsLongIter h it (lo+(i:Nat) *1) ((n:Int)-(i:Nat)) 1) where
 mem:=by simp
 obj:=λi h st b hb=>by
  have e:b=it:=by simpa using hb
  subst e
  exact⟨_,st,λv z=>by
   have z':Data.fields _=Data.cell v:=z;cases z'⟩
 keep:=λi h h' st k=>k it (by simp) _ st
 item:=by
  intro X hP hw hK hc i pins s σ H E I hf st hg;subst hP hw hK;obtain⟨f0,f1,f2,f3,f4,f5⟩:=hf it (by simp)
  have W:=Walks.longrange (prog:=X.prog) (w:=X.w) (I.ok.hd hc) it lo 1 n;refine W.item i s _ _ hg st λv h' tk hv Qw kk=>?_
  obtain⟨t,rfl⟩:=hv;have I1:Inv X pins σ H {s with heap:=h',toks:=tk }:=I.turned (λb o hb e=>kk b o (by simpa using hb) e) f0 f1 f3 f4 f5
  refine⟨_,rfl,pV (s:={s with heap:=h',toks:=tk }) (n:="longrange_iterator") Qw rfl rfl (by decide) ⟨.int (lo+i),H,I1,⟨t,?_⟩,⟨rfl,rfl⟩,Qw,λb hb=>(hf b hb).1⟩⟩
  rw[Kl]
 done:=by
  intro X hP hw hK hc i pins s σ H E I hf st hg;subst hP hw hK;obtain⟨f0,f1,f2,f3,f4,f5⟩:=hf it (by simp)
  exact wpAny_pyNext_long_end (I.ok.hd hc) st (by have:n<=i:=hg;lia) λh' eb=>⟨rfl,I.turned (t':=s.toks) (λb o hb e=>eb b o hb e) f0 f1 f3 f4 f5⟩
 self:=λ_ _ _ _ _ st h=>wpAny_pyIter_longiter st h
section
variable {X:Cx}{tg:Expr}
theorem lQ{pins:List (E1×Obj)}{σ:St}{H:Hp}{s:ER}{R:It->Hp->Prop}{E:EU->ER->Prop}{lo hi:Int}{t u v:Tok}{tk:Nat}(I:Inv X pins σ H s)
  (q:R (Itr lo (hi-lo).toNat) H):Fd (FF X.prog X.w) X.A (Nq (.ref s.heap.objs.size)) (PIE X pins σ tg R) E {s with heap:=s.heap.push {cls:=.type "range",data:=.fields #[.int lo t,.int hi u,.int 1 v] },toks:=tk }:=by
 have I1:Inv X pins σ H {s with heap:=s.heap.push {cls:=.type "range",data:=.fields #[.int lo t,.int hi u,.int 1 v] },toks:=tk }:=I.kept λb o e=>EN _ e
 have e1:lo+((0:Nat):Int) *1=lo:=by simp
 have e2:(((hi-lo).toNat:Nat):Int)-((0:Nat):Int)=Builtin.Range.rangeSize lo hi 1:=by rw[rangeSize_one];split <;>lia
 by_cases hs:Builtin.Range.small lo hi 1=true
 ·refine KB (IsRange.new ..) hs ?_
  refine⟨(s.heap.push {cls:=.type "range",data:=.fields #[.int lo t,.int hi u,.int 1 v] }).objs.size,[(s.heap.push {cls:=.type "range",data:=.fields #[.int lo t,.int hi u,.int 1 v] }).objs.size],_,_,H,rfl,
   I1.kept (t':=tk) λb o e=>EN _ e,jR _ lo (hi-lo).toNat,?_,λb hb=>?_,q⟩
  ·show Ln _ _ (lo+((0:Nat):Int) *1) ((((hi-lo).toNat:Nat):Int)-((0:Nat):Int)) 1;rw[e1,e2];exact E3 _ rfl
  ·have e:b=(s.heap.push {cls:=.type "range",data:=.fields #[.int lo t,.int hi u,.int 1 v] }).objs.size:=by simpa using hb
   subst e;exact I1.fpOk (EX _) (I1.hok.fresh (EX _))
 ·refine wpAny_pyIter_longrange (IsRange.new ..) (by simpa using hs) ?_
  refine⟨(s.heap.push {cls:=.type "range",data:=.fields #[.int lo t,.int hi u,.int 1 v] }).objs.size,[(s.heap.push {cls:=.type "range",data:=.fields #[.int lo t,.int hi u,.int 1 v] }).objs.size],_,_,H,rfl,
   I1.kept (t':=tk) λb o e=>EN _ e,uN _ lo (hi-lo).toNat,?_,λb hb=>?_,q⟩
  ·show IsLongIter _ _ (lo+((0:Nat):Int) *1) ((((hi-lo).toNat:Nat):Int)-((0:Nat):Int)) 1;rw[e1,e2];exact E3 _ rfl
  ·have e:b=(s.heap.push {cls:=.type "range",data:=.fields #[.int lo t,.int hi u,.int 1 v] }).objs.size:=by simpa using hb
   subst e;exact I1.fpOk (EX _) (I1.hok.fresh (EX _))
def BP(ta:TA):TI:=λσ H R=>ta σ H λvs H1=>∃i j:Int,vs=[.int i,.int j]/\R (Itr i (j-i).toNat) H1
theorem qb{a b:Expr}{ta:TA}{p pos:Pos}(hg:Gl X "range")(hm:X.mg "range"=none)(ha:PA X [a,b] ta)(hs:E4 [a,b] X.env=[(false,HE a X.env),(false,HE b X.env)]:=by rfl)(Qq:E4 [b] X.env=[(false,HE b X.env)]:=by rfl):
  PI X tg (.Call (.Name "range" p) [a,b] [] pos) (BP ta):=by
 intro pins s σ H R I h;refine Call_ (ca I hg hm Mr (PyProof.Rows.callWith_type1 (thn (ha pos pins s σ H _ I h) λus s1 ⟨vs,H1,I1,r1,q1⟩=>?_) (by rw[hs,Qq]) (by rw[Qq];rfl)))
 obtain⟨i,j,e,q⟩:=q1;subst e;cases r1 with
 |cons r rr=>
  cases rr with
  |cons r' rr=>
   cases rr;obtain⟨t,rfl⟩:=r;obtain⟨t',rfl⟩:=r';exact call_range_2 (lQ I1 q)
variable {H0:Hp}{O0:List E1}{ps:PSt}{a b:Expr}{p pos:Pos}
theorem uF{i j:Int}(hg:Gl X "range")(hm:X.mg "range"=none)(ha:EvA X H0 O0 ps [a,b] [.int i,.int j])(hs:E4 [a,b] X.env=[(false,HE a X.env),(false,HE b X.env)]:=by rfl)(Qq:E4 [b] X.env=[(false,HE b X.env)]:=by rfl):
  EvI X H0 O0 ps tg (.Call (.Name "range" p) [a,b] [] pos) (eV i (j-i).toNat):=
 PI.mono (qb hg hm ha hs Qq) λσ H Q ⟨O,R,q⟩=>⟨O,R,λvs H' s r=>by
  obtain⟨v,w,rfl,k1,k2⟩:=gy r;cases k1;cases k2;exact⟨i,j,rfl,q _ H' s ij⟩⟩
variable {E:XK}{Qo:PSt}{D:PD}{iter cond:Expr}{xs:List U}
variable {e:Expr}{ns:List Int}
variable {c:Expr}
end
end L2
namespace TS
open PySem PyProof.Rows
variable {prog:E2}{w:Fs}{E:EU→ER→Prop}{s:ER}
section
variable {A:Fq}
def gt(a:Array Iq)(i:Nat):Iq:=a.getD i (Fl,Fl)
end
section
variable {α:Type}{R:α→α→Bool}{A B out:List α}{ia ib:Nat}
structure MI(R:α->α->Bool)(A B out:List α)(ia ib:Nat):Prop where
 perm:out.Perm (A.take ia++B.take ib)
 srt:out.Pairwise λx y=>R x y=true
 lA:∀x∈out,∀y∈A.drop ia,R x y=true
 lB:∀x∈out,∀y∈B.drop ib,R x y=true
structure MO(R:α->α->Bool)(A B:List α):Prop where
 tr:∀x y z,R x y=true->R y z=true->R x z=true
 sA:A.Pairwise λx y=>R x y=true
 sB:B.Pairwise λx y=>R x y=true
 tot:∀x∈A,∀y∈B,R y x=false->R x y=true
end
section
variable {M:Model}{A:Fq}{σ:Type}
theorem wif{α:Type}{c:Prop}[Decidable c]{x y:StateT σ Sem α}{Q:α->σ->Prop}{st:σ}(h:c->wpS M A E s x Q st)(k:¬ c->wpS M A E s y Q st):wpS M A E s (if c then x else y) Q st:=by
 by_cases e:c
 ·rw[if_pos e];exact h e
 ·rw[if_neg e];exact k e
def rD(prog:E2)(w:Fs)(A:Fq)(E:EU->ER->Prop)(s:ER)(κ:I0)(P:Iq->Prop)(R:Iq->Iq->Bool):Prop:=
 ∀x y st (Q:Option Bool->SortSt->Prop),P x->P y->kindOf st=κ->Q (some (R x y)) st->wpS (FF prog w) A E s (lt' x y) Q st
variable {κ:I0}{P:Iq→Prop}{R:Iq→Iq→Bool} (K:rD prog w A E s κ P R)
include K
end
section
variable {α:Type}{R:α→α→Bool}{A B:List α}
end
section
variable {prog:E2}{w:Fs}{A:Fq}{E:EU→ER→Prop}{s:ER}{κ:I0}{P:Iq→Prop}{R:Iq→Iq→Bool} (K:rD prog w A E s κ P R)
include K
end
section
end
section
variable {prog:E2}{w:Fs}{A:Fq}{E:EU→ER→Prop}{s:ER}{κ:I0}{P:Iq→Prop}{R:Iq→Iq→Bool} (K:rD prog w A E s κ P R)
include K
end
variable {R:Iq→Iq→Bool}{κ:I0}{P:Iq→Prop}{l:List Iq}{pd:Array (Nat×Nat×Nat)}
section
variable {A:Fq}
structure Ord(P:Iq->Prop)(R:Iq->Iq->Bool)(l:List Iq):Prop where
 tr:∀x y z,R x y=true->R y z=true->R x z=true
 tot:∀x∈l,∀y∈l,x≠y->R x y=false->R y x=true
 nd:l.Nodup
 hp:∀x∈l,P x
structure Stt(κ:I0)(l:List Iq)(pd:Array (Nat×Nat×Nat))(st:SortSt):Prop where
 kind:kindOf st=κ
 failed:failedOf st=none
 perm:(arrOf st).toList.Perm l
 pend:pendingOf st=pd
def Kept(a b:Array Iq)(lo:Nat):Prop:=∀j,j<lo->gt b j=gt a j
variable (K:rD prog w A E s κ P R)
include K
end
section
variable {A:Fq}
variable (K:rD prog w A E s κ P R)
include K
end
section
variable {A:Fq}
variable (K:rD prog w A E s κ P R)
include K
end
section
variable {A:Fq}
variable (K:rD prog w A E s κ P R)
include K
end
end TS
namespace ST
open PySem PySem.W PyProof.Rows
abbrev ky(p:(Int×Int)×E1):Iq:=(Ft p.2,Ft p.2)
open Classical in
noncomputable def RP (pb:PB) (x y:Iq):Bool:=decide (∃p∈pb,∃q∈pb,x=ky p/\y=ky q/\ltP p.1 q.1=true)
section
variable {prog:E2}{w:Fs}{A:Fq}{E:EU→ER→Prop}{s:ER}
end
end ST
namespace ST
open PySem PySem.W PyProof.Rows PySem.Calls
section
variable {prog:E2}{w:Fs}{A:Fq}{E:EU→ER→Prop}{s:ER}
end
end ST
namespace L2
open PySem PySem.Spec PyProof.Rows
section
variable {X:Cx}{H0:Hp}{O0:List E1}{ps:PSt}{e:Expr}{pts:List P2}{pos P9 p p':Pos}
end
section
variable {X:Cx}{tg:Expr}
def Ca(ta:TA):TI:=λσ H R=>ta σ H λvs H1=>∃j:Int,vs=[.int j]/\R (Itr 0 (j-0).toNat) H1
theorem rA{a:Expr}{ta:TA}{p pos:Pos}(hg:Gl X "range")(hm:X.mg "range"=none)(ha:PA X [a] ta)(hs:E4 [a] X.env=[(false,HE a X.env)]:=by rfl):
  PI X tg (.Call (.Name "range" p) [a] [] pos) (Ca ta):=by
 intro pins s σ H R I h;refine Call_ (ca I hg hm Mr (PyProof.Rows.callWith_type1 (thn (ha pos pins s σ H _ I h) λus s1 ⟨vs,H1,I1,r1,q1⟩=>?_) (by rw[hs];rfl) rfl))
 obtain⟨j,e,q⟩:=q1;subst e;cases r1 with
 |cons r rr=>
  cases rr;obtain⟨t,rfl⟩:=r;exact call_range_1 (lQ I1 q)
variable {H0:Hp}{O0:List E1}{ps:PSt}{a:Expr}{p pos:Pos}
theorem vh{j:Int}(hg:Gl X "range")(hm:X.mg "range"=none)(ha:EvA X H0 O0 ps [a] [.int j])(hs:E4 [a] X.env=[(false,HE a X.env)]:=by rfl):
  EvI X H0 O0 ps tg (.Call (.Name "range" p) [a] [] pos) (eV 0 (j-0).toNat):=
 PI.mono (rA hg hm ha hs) λσ H Q ⟨O,R,q⟩=>⟨O,R,λvs H' s r=>by
  obtain⟨v,rfl,h⟩:=cq r;cases h;exact⟨j,rfl,q _ H' s ij⟩⟩
end
end L2
namespace ST
open PySem PySem.W PySem.Calls PyProof.Rows
section
variable {prog:E2}{w:Fs}{A:Fq}{E:EU→ER→Prop}{s:ER}
end
end ST
namespace L2
open PySem PySem.Spec PyProof.Rows
section
variable {X:Cx}{H0:Hp}{O0:List E1}{ps:PSt}{e:Expr}{pts:List P2}{pos p:Pos}
variable {E:XK}{Qo:PSt}{D:PD}{a b c:Expr}{es:List Expr}{u:U}{xs ys us:List U}
 {n:Nat}{C:E1}{fd:Ga}{pn:List Str}{Qd:List U->Out->Prop}
end
end L2
namespace L2
open PySem PySem.Spec PySem.W PyProof.Rows
variable {H0:Hp}{O0:List E1}{pos:Pos}{mg:Str→Option EU}{es:List Expr}
section
variable {X:Cx}{E:XK}{ps:PSt}{D:PD}{s:Hr}{u:U}{xs:List U}
variable {P:E2}{w:Fs}{K:EL}{base:Gz}{N pn:List Str}{PM nm:Str}{f:E1}
variable {e:Expr}{us:List U}{x:Str}{pc p':Pos}
variable {c:Expr}{n:Nat}{fd:Ga}{Qd:List U→Out→Prop}{AA rest:List Hr}{nx:PSt→Prop}{ex:PSt→E1→Prop}
end
abbrev T'(l:List Nat):Str:=⟨l.toArray⟩
variable {tg:Expr}
section
variable {X:Cx}
end
abbrev sg(c:Nat):U:=.str ⟨#[c]⟩
variable {Qj:Pos}{PZ:Pos}
section
variable {X:Cx}{ps:PSt}{a b e:Expr}{p p2:Pos}{x y:Str}{i:Int}{lo hi:Option Expr}{l h:Option Int}
end
inductive Cst:Expr->U->Prop
 |str (x:Str) (j) (p:Pos):Cst (.Constant (.str x) j p) (.str x)
 |int (i:Int) (j) (p:Pos):Cst (.Constant (.int i) j p) (.int i)
 |bl (b:Bool) (j) (p:Pos):Cst (.Constant (.bool b) j p) (.bl b)
 |non (j) (p:Pos):Cst (.Constant .none j p) .non
inductive CK:List Expr->List U->Prop
 |nil:CK [] []
 |cons {e:Expr}{u:U}{es:List Expr}{us:List U}:Cst e u->CK es us->CK (e::es) (u::us)
structure EvD(X:Cx)(H0:Hp)(O0:List E1)(ps:PSt)(e:Expr)(u:U):Prop where
 ev:Ev X H0 O0 ps e u
theorem dsp{X:Cx}{H0:Hp}{O0:List E1}{ps:PSt}{es:List Expr}{us:List U}{pos:Pos}(h:EvS X H0 O0 ps es us)(hz:us.length<=sizeLine):EvD X H0 O0 ps (.List es pos) (.lst us):=⟨EvN.ev (cT h hz)⟩
section
variable {X:Cx}{ps:PSt}{a b e:Expr}{x y:Str}
end
def spl(c:Nat):List Nat->List (List Nat)
 |[]=>[[]]
 |a::l=>if a=c then []::spl c l else (a::(spl c l).headD [])::(spl c l).drop 1
section
variable {X:Cx}{E:XK}{ps:PSt}{a b e:Expr}{y:Str}{l:List Nat}{c:Nat}{u:U}{C:E1}
end
section
variable {M:Model}{A:Fq}{E:EU→ER→Prop}{s:ER}
end
section
variable {P:E2}{w:Fs}{K:Frag}{base:Gz}{N:List Str}{PM:Str}{PF:Ju}{f:E1}{cd:EU}{A:Fq}{outer:List Env}{s:ER}{H:Hp}{E:XK}
variable {X:Cx}{pins:List (E1×Obj)}{σ:St}
variable {ps:PSt}{iter Ql e:Expr}{p:Pos}{xs ys us:List U}{C0:E1}
end
structure EvM(X:Cx)(H0:Hp)(O0:List E1)(ps:PSt)(e:Expr)(us:List U):Prop where
 ev:EvN X H0 O0 ps e us
end L2
namespace L2
open PySem PySem.Spec PyProof.Rows
structure Dl(K:EL)(ps:PSt)(j:Nat)(xss:Nat->List U)(H0:Hp)(O0:List E1)(σ:St)(H:Hp)(O:List E1)(d:E1)(as:Nat->E1):Prop where
 rs:Rs K H0 O0 ps σ H O
 vals:∀(i:Nat) (s:Sl),ps[i]?=some (some s)->∃u,s=.val u
 non:ps[j]?=some none
 at_:σ[j]?=some (some (.ref d))
 dO:d∈O
 dO0:d ∉ O0
 aO:∀r,r<3->as r∈O/\as r ∉ O0
 da:∀r,r<3->as r≠d
 inj:∀r t,r<3->t<3->as r=as t->r=t
 dh:H d=some (.lst [.ref (as 0),.ref (as 1),.ref (as 2)])
 ah:∀r,r<3->∃vs,H (as r)=some (.lst vs)/\Rps K (hid H O) vs (xss r)
section
variable {K:EL}{H0 H H':Hp}{O0 O:List E1}{ps:PSt}{σ:St}{j:Nat}{xss:Nat→List U}{d:E1}{as:Nat→E1}
variable {X:Cx}{E:XK}{D:PD}{iter e1 e2:Expr}{items:List U}{ss:List Hr}
end
end L2
namespace ST2
open PySem PySem.SetTable ST
section
variable {prog:E2}{w:Fs}{A:Fq}{E:EU→ER→Prop}{s:ER}
abbrev K4:=(Int×Int)×(Int×Int)
abbrev l1(k:K4):List Int:=[k.1.1,k.1.2]
abbrev l2(k:K4):List Int:=[k.2.1,k.2.2]
def TQ(prog:E2)(w:Fs)(h:Gz)(k:K4)(b:E1):Prop:=∃o items n a1 a2,h.get? b=some o∧o.cls=.type "tuple"∧o.data=.seq items n∧items.toList=[.ref a1,.ref a2]∧TK prog w h (l1 k) a1∧TK prog w h (l2 k) a2
variable {hZ:K4→Int}
def ents(hZ:K4->Int)(kb:List (K4×E1)):List (Int×EU):=kb.map λp=>(hZ p.1,.ref p.2)
structure SP(prog:E2)(w:Fs)(hZ:K4->Int)(h:Gz)(S:E1)(kb:List (K4×E1)):Prop where
 ex:∃o es ep t,h.get? S=some o∧o.ExactSet∧o.data=.set es ep t∧es.toList=ents hZ kb∧TOk t (kb.map λp=>hZ p.1)∧t.led=(!w.params.followText "set-order")∧t.plain=true∧t.tooFull=false∧t.mask<8*kb.length+8
 keys:∀p∈kb,TQ prog w h p.1 p.2
 nd:(kb.map (·.1)).Nodup
structure Got(kx:Nat->K4×E1)(i:Nat)(kb:List (K4×E1)):Prop where
 src:∀p∈kb,∃j,j<i/\p=kx j
 all:∀j,j<i->(kx j).1∈kb.map (·.1)
 len:kb.length<=i
variable {R:Nr→ER→Prop}{I:E1}{fp wr:List E1}{G:Array IV→Array IV→Prop}{n:Nat}{P:Nat→EU→Prop}{St:Nat→ER→Prop}
end
end ST2
namespace ST
open PySem PySem.W PySem.Calls PyProof.Rows
section
variable {prog:E2}{w:Fs}{A:Fq}{E:EU→ER→Prop}{s:ER}
end
end ST
namespace L2
open PySem PySem.Spec PyProof.Rows
section
variable {X:Cx}{H0:Hp}{O0:List E1}{ps:PSt}{e:Expr}{p pos:Pos}{a b:P2}
variable {pts:List P2}{prs dd:List (P2×P2)}{P9 p':Pos}
end
end L2
namespace HT
open PySem PySem.W PySem.Spec PyProof.Rows L2
section
variable {prog:E2}{w:Fs}{A:Fq}{E:EU→ER→Prop}{s:ER}
end
end HT
namespace L2
open PySem PySem.Spec PyProof.Rows
section
variable {X:Cx}{H0:Hp}{O0:List E1}{E:XK}{ps:PSt}{D:PD}{e:Expr}{lo hi:Option Expr}{l h:Option Int}{pos p2:Pos}{xs ys:List U}
end
end L2
namespace L2
open PySem PySem.Spec PySem.W PyProof.Rows
open PySem.Builtin.Str in
def EI(x y z:Str):Str:=if ((occurrences x y 0 x.length 1).isEmpty || (y.length==0 && z.length==0))=true then x else glued z (partsBetween x (occurrences x y 0 x.length 1) y.length)
section
variable {prog:E2}{w:Fs}{A:Fq}{E:EU→ER→Prop}{s:ER}{x y z:Str}{t u v k:Tok}{Q:EU→ER→Prop}
end
section
variable {X:Cx}{H0:Hp}{O0:List E1}{E:XK}{ps:PSt}{D:PD}
end
end L2
namespace ST3
open PySem PySem.W PySem.Calls PyProof.Rows ST
abbrev TR:=(Int×Int)×(Int×Int)×(Int×Int)
def ltT(a b:TR):Bool:=if a.1=b.1 then (if a.2.1=b.2.1 then ltP a.2.2 b.2.2 else ltP a.2.1 b.2.1) else ltP a.1 b.1
theorem Aj{a b:TR}(h:ltT a b=true):ltT b a=false:=by
 unfold ltT at *;by_cases h1:a.1=b.1
 ·rw[if_pos h1]at h;rw[if_pos h1.symm];by_cases h2:a.2.1=b.2.1
  ·rw[if_pos h2]at h;rw[if_pos h2.symm];exact fC h
  ·rw[if_neg h2]at h;rw[if_neg (Ne.symm h2)];exact fC h
 ·rw[if_neg h1]at h;rw[if_neg (Ne.symm h1)];exact fC h
theorem Az{a b:TR}(h:a≠b)(k:ltT a b=false):ltT b a=true:=by
 unfold ltT at *;by_cases h1:a.1=b.1
 ·rw[if_pos h1]at k;rw[if_pos h1.symm];by_cases h2:a.2.1=b.2.1
  ·rw[if_pos h2]at k;rw[if_pos h2.symm];exact ltP_tot (λe=>h (GC h1 (GC h2 e))) k
  ·rw[if_neg h2]at k;rw[if_neg (Ne.symm h2)];exact ltP_tot h2 k
 ·rw[if_neg h1]at k;rw[if_neg (Ne.symm h1)];exact ltP_tot h1 k
theorem jt{a:Int×Int}:ltP a a=false:=asc_irr
theorem Cc{a b c:TR}(h:ltT a b=true)(k:ltT b c=true):ltT a c=true:=by
 unfold ltT at *;by_cases h1:a.1=b.1
 ·rw[if_pos h1]at h;by_cases k1:b.1=c.1
  ·rw[if_pos k1]at k;rw[if_pos (h1.trans k1)];by_cases h2:a.2.1=b.2.1
   ·rw[if_pos h2]at h;by_cases k2:b.2.1=c.2.1
    ·rw[if_pos k2]at k;rw[if_pos (h2.trans k2)];exact gZ h k
    ·rw[if_neg k2]at k;rw[if_neg (by rw[h2];exact k2),h2];exact k
   ·rw[if_neg h2]at h;by_cases k2:b.2.1=c.2.1
    ·rw[if_neg (by rw[<-k2];exact h2),<-k2];exact h
    ·rw[if_neg k2]at k;have t:=gZ h k;rw[if_neg (λe=>by rw[e,jt]at t;cases t)];exact t
  ·rw[if_neg k1]at k;rw[if_neg (by rw[h1];exact k1),h1];exact k
 ·rw[if_neg h1]at h;by_cases k1:b.1=c.1
  ·rw[if_neg (by rw[<-k1];exact h1),<-k1];exact h
  ·rw[if_neg k1]at k;have t:=gZ h k;rw[if_neg (λe=>by rw[e,jt]at t;cases t)];exact t
section
variable {prog:E2}{w:Fs}{A:Fq}{E:EU→ER→Prop}{s:ER}
abbrev lq(p:Int×Int):List Int:=[p.1,p.2]
def TT(prog:E2)(w:Fs)(h:Gz)(t:TR)(b:E1):Prop:=∃o items n a1 a2 a3,h.get? b=some o∧o.cls=.type "tuple"∧o.data=.seq items n∧items.toList=[.ref a1,.ref a2,.ref a3]∧TK prog w h (lq t.1) a1∧TK prog w h (lq t.2.1) a2∧TK prog w h (lq t.2.2) a3
theorem TT.grow{h h':Gz}{k:TR}{b:E1}(x:TT prog w h k b)(e:∀b o,o.cls=.type "tuple"→h.get? b=some o→h'.get? b=some o):TT prog w h' k b:=by
 obtain⟨o,it,n,a1,a2,a3,h1,hc,h2,h3,h4,h5,h6⟩:=x;have up:∀{k:List Int}{a:E1},TK prog w h k a->TK prog w h' k a:=λ{k a} t=>by obtain⟨o,it,n,g1,gc,g2⟩:=t;exact⟨o,it,n,e _ _ gc g1,gc,g2⟩
 exact⟨o,it,n,a1,a2,a3,e _ _ hc h1,hc,h2,h3,up h4,up h5,up h6⟩
theorem DU{p q:Int×Int}(h:lq p=lq q):p=q:=by
 obtain⟨a,b⟩:=p;obtain⟨c,d⟩:=q;injection h with h1 h2
 injection h2 with h2 _
 simp only at h1 h2;rw[h1,h2]
theorem mL(a b:Int×Int):decide (lq a=lq b)=decide (a=b):=decide_eq_decide.mpr ⟨DU,λe=>by rw[e]⟩
theorem BM(hu:A.units+1<II){x y:E1}{a b:TR}{Q:Bool->ER->Prop}(hx:TT prog w s.heap a x)(hy:TT prog w s.heap b y)(h:Q (ltT a b) s):Fd (FF prog w) A (keyLt' (KY false) (.ref x) (.ref y)) Q E s:=by
 obtain⟨o,PH,n,a1,a2,a3,ho,_,hd,hi,t1,t2,t3⟩:=hx;obtain⟨o',its',n',b1,b2,b3,QO,_,Qt,PY,u1,u2,u3⟩:=hy;refine kat_lt ho hd QO Qt ?_;rw[hi,PY];unfold ltT at h;refine kat_cons (IG (by lia) t1 u1 ?_)
 rw[mL];by_cases e1:a.1=b.1
 ·rw[decide_eq_true e1];rw[if_pos e1]at h;refine kat_yes (kat_cons (IG (by lia) t2 u2 ?_))
  rw[mL];by_cases e2:a.2.1=b.2.1
  ·rw[decide_eq_true e2];rw[if_pos e2]at h;refine kat_yes (kat_cons (IG (by lia) t3 u3 ?_))
   rw[mL];by_cases e3:a.2.2=b.2.2
   ·rw[decide_eq_true e3];refine kat_yes (kat_nil ?_);rw[e3,jt]at h
    have z2:decide (PH.size<its'.size)=false:=by
     rw[<-E_,<-E_,hi,PY];simp
    rw[z2];exact h
   ·rw[decide_eq_false e3];exact kat_no (kat_one _ _ (lt_ptsR (by lia) t3 u3 h))
  ·rw[decide_eq_false e2];rw[if_neg e2]at h;exact kat_no (kat_one _ _ (lt_ptsR (by lia) t2 u2 h))
 ·rw[decide_eq_false e1];rw[if_neg e1]at h;exact kat_no (kat_one _ _ (lt_ptsR (by lia) t1 u1 h))
abbrev PT3:=List (TR×E1)
abbrev AY(pb:PT3):List EU:=pb.map λp=>Ft p.2
theorem ye{pb:PT3}{Q:I0->ER->Prop}(Q1:∀p∈pb,TT prog w s.heap p.1 p.2)(h0:0<pb.length)(h:Q (KY false) s):Fd (FF prog w) A (OW (AY pb).toArray) Q E s:=by
 obtain⟨fs,hf,hl,hi⟩:∃fs,KatTups s.heap (AY pb) fs∧fs.length=pb.length∧∀v∈fs,∃a o,v=Ft a∧s.heap.get? a=some o∧o.cls=.type "tuple":=by
  clear h h0
  induction pb with
  |nil=>exact⟨[],.nil,rfl,λv hv=>by simp at hv⟩
  |cons p r ih=>
   obtain⟨fs,hf,hl,hi⟩:=ih λq hq=>Q1 q (ES _ hq)
   obtain⟨o,PH,n,a1,a2,a3,ho,hc,hd,QU,t1,_⟩:=Q1 p EY;refine⟨.ref a1::fs,.cons ho hc hd (by rw[<-FU,QU];rfl) hf,by simp[hl],λv hv=>?_⟩
   rcases ET.mp hv with z |z
   ·obtain⟨o1,_,_,g1,g2,_⟩:=t1;exact⟨a1,o1,z,g1,g2⟩
   ·exact hi v z
 refine kat_kind (T:=.type "tuple") hf (by lia) (λv hv=>?_) (by decide) h
 obtain⟨a,o,rfl,g1,g2⟩:=hi v hv;rw[<-g2];exact (Looks.ld g1).andThen .now
abbrev ky3(p:TR×E1):Iq:=(Ft p.2,Ft p.2)
open Classical in
noncomputable def RP3 (pb:PT3) (x y:Iq):Bool:=decide (∃p∈pb,∃q∈pb,x=ky3 p/\y=ky3 q/\ltT p.1 q.1=true)
end
end ST3
namespace L2
open PySem PySem.Spec PyProof.Rows
abbrev trU(t:ST3.TR):U:=.tup [pu t.1,pu t.2.1,pu t.2.2]
def t0:ST3.TR:=((0,0),(0,0),(0,0))
section
variable {X:Cx}{H0:Hp}{O0:List E1}{ps:PSt}{e:Expr}{trs:List ST3.TR}{pos p:Pos}
theorem DN{a b c:V}{us:List EU}(h:aQ [a,b,c] us):∃u v w,us=[u,v,w]/\aZ a u/\aZ b v/\aZ c w:=by
 cases h with
 |cons h1 r=>
  cases r with
  |cons h2 r=>
   cases r with
   |cons h3 r=>cases r;exact⟨_,_,_,rfl,h1,h2,h3⟩
end
end L2
namespace ST6
open PySem PySem.W PySem.Calls PyProof.Rows ST
def ltL:List Int->List Int->Bool
 |a::r,b::t=>if a=b then ltL r t else decide (a<b)
 |[],_::_=>true
 |_,[]=>false
section
variable {prog:E2}{w:Fs}{A:Fq}{E:EU→ER→Prop}{s:ER}
abbrev PT6:=List (List Int×E1)
abbrev ky6(p:List Int×E1):Iq:=(Ft p.2,Ft p.2)
open Classical in
noncomputable def RP6 (pb:PT6) (x y:Iq):Bool:=decide (∃p∈pb,∃q∈pb,x=ky6 p/\y=ky6 q/\ltL p.1 q.1=true)
end
end ST6
namespace L2
open PySem PySem.Spec PyProof.Rows
section
variable {X:Cx}{H0:Hp}{O0:List E1}{ps:PSt}{e:Expr}{trs:List (List Int)}{pos p:Pos}
end
end L2
namespace ST
open PySem
structure Z3A(z TI TO i1 i2 i3 l1 l2 l3:E1):Prop where
 TIz:TI≠z
 TOz:TO≠z
 i1z:i1≠z
 i2z:i2≠z
 i3z:i3≠z
 TITO:TI≠TO
 TIi1:TI≠i1
 TIi2:TI≠i2
 TIi3:TI≠i3
 TOi1:TO≠i1
 TOi2:TO≠i2
 TOi3:TO≠i3
 i12:i1≠i2
 i13:i1≠i3
 i23:i2≠i3
 l1z:l1≠z
 l1TO:l1≠TO
 l1i1:l1≠i1
 l1i2:l1≠i2
 l1i3:l1≠i3
 l2z:l2≠z
 l2TO:l2≠TO
 l2i1:l2≠i1
 l2i2:l2≠i2
 l2i3:l2≠i3
 l3z:l3≠z
 l3TO:l3≠TO
 l3i1:l3≠i1
 l3i2:l3≠i2
 l3i3:l3≠i3
section
variable {prog:E2}{w:Fs}{A:Fq}{E:EU→ER→Prop}{s:ER}
end
end ST
namespace L2
open PySem PySem.Spec PyProof.Rows
theorem ua{X:Cx}{pins:List (E1×Obj)}{σ:List (Option V)}{H:Hp}{s:ER}{h':Gz}{t':Nat}{fp:List E1}{p:E1}{xs:List V}(I:Inv X pins σ H s)(hf:∀b∈fp,iM X pins H b)
  (k:∀b o,b ∉ fp->s.heap.get? b=some o->h'.get? b=some o) (hp:s.heap.objs.size<=p) (new:b_ X.prog X.w (upd H p (.tup xs)) h' p (.tup xs)):
  Inv X pins σ (upd H p (.tup xs)) {s with heap:=h',toks:=t' }:=by
 have fresh:H p=none:=I.hok.fresh hp;have np:∀b o,s.heap.get? b=some o->b≠p:=λb o e z=>absurd (Fx (EZ e) hp) (by rw[z];exact FG _)
 have nh:∀b u,H b=some u->b≠p:=λb u e z=>by rw[z,fresh]at e;cases e
 have nf:∀b u,H b=some u->b ∉ fp:=λb u e z=>by rw[(hf b z).1]at e;cases e
 refine I.step (g':=s.gens) (d':=s.drawn) (ch:=fp) (λb hb=>?_) (λb o _ _ hc e _=>k b o hc e) (λb o _ _ hc e _=>⟨o.slots,k b o hc e⟩) (λb o _ e n=>by rw[aT (np b o e)];exact n)
  (λb o hc e=>⟨o,k b o hc e⟩) (λb xs e=>by rw[aT (nh b _ e)];exact e) (λb o u e=>by rw[aT (nh b _ e)];exact e) (λb ps e=>⟨#[],by rw[aT (nh b _ e),e];simp⟩) (λm hm=>?_) (λb u e=>?_) I.bare
 ·obtain⟨f0,f1,f2,f3,f4,f5⟩:=hf b hb;exact⟨f3,f1,f4,f5⟩
 ·obtain⟨o,es,ep,ho,r⟩:=hm;exact⟨o,es,ep,k _ o (λz=>(hf _ z).2.1 rfl) ho,r⟩
 ·by_cases hb:b=p
  ·subst hb;rw[aK]at e;cases e;exact new
  ·rw[aT hb]at e;refine (I.hok b u e).stay (λc v hc q=>k c v ?_ q) (λc q=>by rw[aT (nh c _ q)];exact q) λc xs q=>by rw[aT (nh c _ q)];exact q
   rcases hc with z |z
   ·rw[z];exact nf b u e
   ·exact nf c _ z
theorem tF{X:Cx}{pins:List (E1×Obj)}{σ:List (Option V)}{H:Hp}{s:ER}{h':Gz}{t':Nat}{fp:List E1}(I:Inv X pins σ H s)(hf:∀b∈fp,iM X pins H b)
  (k:∀b o,b ∉ fp->s.heap.get? b=some o->h'.get? b=some o):Inv X pins σ H {s with heap:=h',toks:=t' }:=by
 have nf:∀b u,H b=some u->b ∉ fp:=λb u e z=>by rw[(hf b z).1]at e;cases e
 refine I.step (g':=s.gens) (d':=s.drawn) (ch:=fp) (λb hb=>?_) (λb o _ _ hc e _=>k b o hc e) (λb o _ _ hc e _=>⟨o.slots,k b o hc e⟩) (λ_ _ _ _ n=>n)
  (λb o hc e=>⟨o,k b o hc e⟩) (λ_ _ e=>e) (λ_ _ _ e=>e) (λb ps e=>⟨#[],by rw[e];simp⟩) (λm hm=>?_) (λb u e=>?_) I.bare
 ·obtain⟨f0,f1,f2,f3,f4,f5⟩:=hf b hb;exact⟨f3,f1,f4,f5⟩
 ·obtain⟨o,es,ep,ho,r⟩:=hm;exact⟨o,es,ep,k _ o (λz=>(hf _ z).2.1 rfl) ho,r⟩
 ·refine (I.hok b u e).stay (λc v hc q=>k c v ?_ q) (λ_ q=>q) λ_ _ q=>q
  rcases hc with z |z
  ·rw[z];exact nf b u e
  ·exact nf c _ z
def Yz(K:EL)(J:It)(G:Hp)(xs:List U):Prop:=
 ∀H2,aJ G H2->(∀i,i<xs.length->J.go i H2/\∀x H3,J.yld i H2 x H3->aJ H2 H3/\∃u,xs[i]?=some u/\∀O2,(∀a∈O2,H2 a≠none)->aJ G (hid H2 O2)->Rp K (hid H3 O2) x u)/\J.stop xs.length H2
def EvZ(X:Cx)(H0:Hp)(O0:List E1)(ps:PSt)(tg iter:Expr)(xs:List U):Prop:=
 PI X tg iter λσ H R=>∃O,Rs X.K H0 O0 ps σ H O/\∀J H',aJ H H'->Yz X.K J (hid H' O) xs->R J H'
section
variable {X:Cx}{H0:Hp}{O0:List E1}{E:XK}{ps:PSt}{D:PD}{Qc:List Hr}{e f g tg iter:Expr}{es:List Expr}{p pos:Pos}{x y z:U}{xs ys zs us:List U}
end
abbrev Ent:=List Int×E1×EU
def Sd(P:E2)(w:Fs)(d:E1)(xs:List Ent)(h:Gz):Prop:=
 (d==Ot)=false/\xs.length<=sizeLine/\∃o es ep,h.get? d=some o/\o.ExactDict/\o.data=.dict es ep/\es.toList=xs.map (entryOfKey (tupleKind (JK P w)))/\(xs.map (·.1)).Nodup
section
variable {X:Cx}{pins:List (E1×Obj)}{σ:St}{H:Hp}{s:ER}{a b:E1}{k:List Int}{xs:List Ent}{A:Fq}{E:EU→ER→Prop}
variable {o i e QE:Expr}{pos P9 RA:Pos}{td ty tv:TE}
end
structure Sn(P:E2)(w:Fs)(K:EL)(ps:PSt)(j:Nat)(xs:List Ent)(H0:Hp)(O0:List E1)(σ:St)(H:Hp)(O:List E1)(d:E1):Prop where
 rs:Rs K H0 O0 ps σ H O
 vals:∀(i:Nat) (s:Sl),ps[i]?=some (some s)->∃u,s=.val u
 non:ps[j]?=some none
 at_:σ[j]?=some (some (.ref d))
 dO:d∈O
 dO0:d ∉ O0
 dh:H d=some (.ext (Sd P w d xs))
 ky:∀x∈xs,SqT K (hid H O) x.2.1 (x.1.map V.int)
section
variable {P:E2}{w:Fs}{K:EL}{H0 H H':Hp}{O0 O:List E1}{ps:PSt}{σ:St}{j:Nat}{xs:List Ent}{d:E1}
variable {X:Cx}{E:XK}{D:PD}{iter e t1:Expr}{items:List U}{ss b1 b2:List Hr}
end
end L2
namespace ST6
open PySem PyProof.Rows ST
section
variable {prog:E2}{w:Fs}{A:Fq}{E:EU→ER→Prop}{s:ER}
end
end ST6
namespace L2
open PySem PySem.Spec PyProof.Rows
section
variable {κ:Type} [DecidableEq κ]
end
abbrev KT(H:Hp):List (List Key×V)->List (List Key×E1×EU)->Prop:=Paired λp q=>p.1=q.1/\H q.2.1=some (.tup (p.1.map kV))/\aZ p.2 q.2.2
variable {P:E2}{w:Fs}{H:Hp}{pins:List (E1×Obj)}{σ:St}{s:ER}
section
variable {h:Gz}{a:E1}
variable {X:Cx}{y v:V}{u r:EU}{o:Option V}{A:Fq}{E:EU→ER→Prop}
variable {Qg:List (Key×V)}{k:Key}
end
variable {o:Expr}{pos:Pos}
section
variable {X:Cx}{i e QE:Expr}{P9 RA:Pos}{td ty tv:TE}
end
structure M1(X:Cx)(o:Expr)(m:Str)(Qj:Pos)(e:Expr)(PZ:Pos):Prop where
 base:IW o m X.env (HE o X.env)=HE o X.env
 few:((Iu PZ (E4 [e] X.env)).all (λx=>!x.1) && (NM PZ (Lo [] X.env)).all (λx=>x.1.isSome)
  && decide (([e]:List Expr).length+([]:List Km).length+(if ([]:List Km).isEmpty then 0 else 1)<30))=true
 line:(Qj.endLine==PZ.line)=true
 trees:Iu PZ (E4 [e] X.env)=[(false,HE e X.env)]
structure M2(X:Cx)(o:Expr)(m:Str)(Qj:Pos)(e f:Expr)(PZ:Pos):Prop where
 base:IW o m X.env (HE o X.env)=HE o X.env
 few:((Iu PZ (E4 [e,f] X.env)).all (λx=>!x.1) && (NM PZ (Lo [] X.env)).all (λx=>x.1.isSome)
  && decide (([e,f]:List Expr).length+([]:List Km).length+(if ([]:List Km).isEmpty then 0 else 1)<30))=true
 line:(Qj.endLine==PZ.line)=true
 trees:Iu PZ (E4 [e,f] X.env)=[(false,HE e X.env),(false,HE f X.env)]
section
variable {X:Cx}{a:E1}{y d:V}{u r:EU}{o:Option V}{A:Fq}{E:EU→ER→Prop}
end
variable {Qj:Pos}{PZ:Pos}
section
variable {X:Cx}{e f:Expr}{td ty tx:TE}
variable {a:E1}{Qg:List (Key×V)}{A:Fq}{E:EU→ER→Prop}
variable {y:V}{u:EU}
end
variable {u:U}{E:XK}{Qg:List (Str×U)}{K:EL}{H0:Hp}{O0:List E1}{D:PD}{C:E1}{d:E1}
section
variable {H':Hp}{kv:List (Key×V)}{k:Key}{v:V}{x:Str}
variable {X:Cx}{ps:PSt}{e:Expr}{p:Pos}{n:Str}{w:Bool}{a:E1}{i:Nat}
end
variable {pn:List Str}{PM:Str}
section
variable {mg:Str→Option EU}{base:Gz}{N:List Str}{nm:Str}{f:E1}
end
variable {es:List Expr}{us:List U}{fd:Ga}{Qd:E1→List (Str×U)→List U→Out→Prop}
section
variable {X:Cx}{ps ps1 R7:PSt}{e b:Expr}{rest:List Expr}{p:Pos}{z:U}{x n m:Str}{w:Bool}{Cx' a f:E1}{kvs':List (Str×U)}{i k:Nat}{c c':Bool}{CX:CXT}
end
section
variable {mg:Str→Option EU}{base:Gz}{N:List Str}{nm sf:Str}{f:E1}{p1 p2 p3 p4:Pos}
variable {X:Cx}{ps:PSt}{p p':Pos}{x:Str}{i k:Nat}{CX:CXT}
end
variable {xs:List U}
section
variable {X:Cx}{ps:PSt}{e:Expr}{p:Pos}{x m:Str}{w:Bool}{C' a f:E1}{i k:Nat}{CX:CXT}
end
section
variable {X:Cx}{ps:PSt}{e i:Expr}{p:Pos}{n nm t:Str}{vs:List (Str×EU)}{tk:Tok}{ty:TE}
variable {a:Expr}{x:Str}
end
def ED(K:EL)(l1 l2:E1):It:=
 ⟨λi H=>∃xs ys x y,SqL K H l1 xs/\SqL K H l2 ys/\xs[i]?=some x/\ys[i]?=some y,
  λi H u H'=>∃p x y,u=.ref p/\H p=none/\H'=upd H p (.tup [x,y])/\(∀xs,SqL K H l1 xs->xs[i]?=some x)/\(∀ys,SqL K H l2 ys->ys[i]?=some y),
  λi H=>∃xs ys,SqL K H l1 xs/\SqL K H l2 ys/\xs.length<=i⟩
theorem AC{P:E2}{w:Fs}{K:EL}{es:List Expr}{ctx pos}(z TI TO i1 i2 l1 l2:E1)(D:Ij z TI TO i1 i2 l1 l2):
  pY P w K (.Tuple es ctx pos) (ED K l1 l2) [z,TI,TO,i1,i2] z (λi h=>Lv h z TI TO .none/\Hb h TI (.ref i1) (.ref i2)/\(∃a b,Hb h TO a b)/\h.IsListIter i1 l1 i/\h.IsListIter i2 l2 i) where
 mem:=by simp
 obj:=λi h st b hb=>by
  obtain⟨gz,gI,⟨a,c,gO⟩,h1,h2⟩:=st
  have li:∀{it l k},h.IsListIter it l k->∃o,h.get? it=some o/\∀v,o.data≠.cell v:=λq=>by
   obtain⟨o,e,_,d⟩:=q;exact⟨o,e,λv z=>by rw[d]at z;cases z⟩
  simp only[ET,Fm,or_false]at hb;rcases hb with e |e |e |e |e <;>subst e
  ·exact⟨_,gz,λv z=>by cases z⟩
  ·exact⟨_,gI,λv z=>by cases z⟩
  ·exact⟨_,gO,λv z=>by cases z⟩
  ·exact li h1
  ·exact li h2
 keep:=λi h h' st k=>by
  obtain⟨gz,gI,⟨a,c,gO⟩,h1,h2⟩:=st;exact⟨k z (by simp) _ gz,k TI (by simp) _ gI,⟨a,c,k TO (by simp) _ gO⟩,h1.at λo e=>k i1 (by simp) o e,h2.at λo e=>k i2 (by simp) o e⟩
 item:=by
  intro X hP hw hK hc i pins s σ H E I hf st hg;subst hP hw hK;obtain⟨gz,gI,⟨a,b,gO⟩,h1,h2⟩:=st;obtain⟨xs,ys,x,y,q1,q2,e1,e2⟩:=hg;obtain⟨n1,r1,p1,_⟩:=I.list q1;obtain⟨n2,r2,p2,_⟩:=I.list q2;obtain⟨u1,k1,t1⟩:=r1.get e1;obtain⟨u2,k2,t2⟩:=r2.get e2;refine Mg D gz gI gO h1 h2 p1.isList p2.isList (x:=u1) (y:=u2) (by simpa using k1) (by simpa using k2) λh' a1 a2 a3 a4 a5 a6 kp=>?_
  refine⟨_,rfl,?_⟩;refine K1 (s:={s with heap:=h' }) a1 λhN b1 sb=>?_
  have nz:s.heap.objs.size≠z:=Hs (EZ gz);have tri:Hb hN s.heap.objs.size u1 u2:=(sb.2 _ nz).trans a5;have fresh:H s.heap.objs.size=none:=I.hok.fresh (EX _)
  have nf:s.heap.objs.size ∉ [z,TI,TO,i1,i2]:=λhb=>by
   have key:∀{d o},s.heap.get? d=some o->s.heap.objs.size≠d:=λe=>Hs (EZ e)
   have li:∀{it l k},s.heap.IsListIter it l k->s.heap.objs.size≠it:=λq=>by obtain⟨o,e,_⟩:=q;exact key e
   simp only[ET,Fm,or_false]at hb;rcases hb with e |e |e |e |e
   ·exact key gz e
   ·exact key gI e
   ·exact key gO e
   ·exact li h1 e
   ·exact li h2 e
  refine⟨.ref s.heap.objs.size,upd H s.heap.objs.size (.tup [x,y]),ua (s:=s) (h':=hN) (t':=s.toks) I hf (λd o hd e=>?_) (EX _) ⟨by show 2<=sizeLine;decide,[u1,u2],.cons t1 (.cons t2 .nil),⟨_,tri,rfl,_,rfl⟩⟩,rfl,
   ⟨_,x,y,rfl,fresh,rfl,λzs q=>by rw[I.list_inj q q1];exact e1,λzs q=>by rw[I.list_inj q q2];exact e2⟩,?_,λd hd=>?_⟩
  ·simp only[ET,Fm,or_false,not_or]at hd;obtain⟨d1,d2,d3,d4,d5⟩:=hd;exact (sb.2 d d1).trans (kp d o d1 d3 d4 d5 e)
  ·have up:∀d o,d≠z->h'.get? d=some o->hN.get? d=some o:=λd o n e=>(sb.2 d n).trans e
   exact⟨b1,up _ _ D.TIz (kp _ _ D.TIz D.TITO D.TIi1 D.TIi2 gI),⟨_,_,up _ _ D.TOz a2⟩,a3.at λo e=>up _ o D.i1z e,a4.at λo e=>up _ o D.i2z e⟩
  ·rw[aT λe=>nf (by rw[<-e];exact hd)]
   exact (hf d hd).1
 done:=by
  intro X hP hw hK hc i pins s σ H E I hf st hg;subst hP hw hK;obtain⟨gz,gI,⟨a,b,gO⟩,h1,h2⟩:=st;obtain⟨xs,ys,q1,q2,hl⟩:=hg;obtain⟨n1,r1,p1,_⟩:=I.list q1;obtain⟨n2,r2,p2,_⟩:=I.list q2;have e1:=r1.length;refine MA (I.ok.hd hc) D gz gI gO h1 h2 p1.isList p2.isList (.inl (by simp;lia)) λh' kp=>⟨rfl,tF (t':=s.toks) I hf λd o hd e=>?_⟩
  simp only[ET,Fm,or_false,not_or]at hd;exact kp d o (by simp_all) (by simp_all) (by simp_all) (by simp_all) e
 self:=λ_ _ _ _ _ st h=>Kd st.1 h
variable {Qc:List Hr}
section
variable {X:Cx}{ps:PSt}{e f g tg iter:Expr}{p:Pos}{x y z:U}{ys zs:List U}
def d9:List U->List U->List U
 |x::xs,y::ys=>.tup [x,y]::d9 xs ys
 |_,_=>[]
theorem iH:∀{xs ys:List U},xs.length=ys.length->(d9 xs ys).length=xs.length
 |[],_,_=>by simp[d9]
 |_::xs,_::ys,h1=>by simp only[d9,FV]at *;rw[iH (by lia)]
theorem jL:∀{xs ys:List U}{i:Nat}{a b:U},xs[i]?=some a->ys[i]?=some b->(d9 xs ys)[i]?=some (.tup [a,b])
 |_::xs,_::ys,0,a,b,h1,h2=>by simp at h1 h2;simp[d9,h1,h2]
 |_::xs,_::ys,i+1,a,b,h1,h2=>by rw[HA]at h1 h2;rw[d9,HA];exact jL h1 h2
theorem CJ{ctx RA}(hg:Gl X "zip")(hm:X.mg "zip"=none)(ha:Ev X H0 O0 ps e x)(hx:x=.lst xs∨x=.scr xs)(hb:Ev X H0 O0 ps f y)(hy:y=.lst ys∨y=.scr ys)
  (l12:xs.length=ys.length) (he:E4 [e,f] X.env=(false,HE e X.env)::E4 [f] X.env) (hf:E4 [f] X.env=(false,HE f X.env)::E4 [] X.env):
  EvZ X H0 O0 ps (.Tuple es ctx RA) (.Call (.Name "zip" p) [e,f] [] pos) (d9 xs ys):=by
 rintro pins s σ H Q I ⟨O,R,q⟩;refine Gh (ca I hg hm jF ?_)
 refine callWith_type1 (thn (ci ha (ci hb eP hf) he pos pins s σ H (λvs H1=>∃v u,vs=[v,u]/\aJ H H1/\Rp X.K (hid H1 O) v x/\Rp X.K (hid H1 O) u y) I
  ⟨O,R,λv H1 s1 r1=>⟨O,R.go s1,λu H2 s2 r2=>⟨v,u,rfl,s1.trans s2,r1.same (aC s2),r2⟩⟩⟩) λus s1 Q9=>?_) he (by rw[hf];rfl)
 obtain⟨vs,H1,I1,rv,v,u,rfl,sm,rp1,rp2⟩:=Q9;obtain⟨w1,w2,rfl,ru1,ru2⟩:=gG rv;obtain⟨a,va,rfl,Ra,S0⟩:=rh rp1 hx;obtain⟨b,vb,rfl,Qe,S1⟩:=rh rp2 hy;cases ru1;cases ru2;obtain⟨ia,ra,Qx,hz1⟩:=I1.list (ax.seq Ra);obtain⟨ib,rb,P6,hz2⟩:=I1.list (ax.seq Qe);have l1:=S0.len;have l2:=S1.len;have al:@LT.lt Nat instLTNat a s1.heap.objs.size:=by obtain⟨o,ho,_⟩:=Qx.isList;exact EZ ho
 have bl:@LT.lt Nat instLTNat b s1.heap.objs.size:=by obtain⟨o,ho,_⟩:=P6.isList;exact EZ ho
 refine call_zip_2 Qx.isList P6.isList λh' g1 g2 g3 g4 g5 g7 g8=>?_
 have D:Ij (s1.heap.objs.size+4) (s1.heap.objs.size+2) (s1.heap.objs.size+3) s1.heap.objs.size (s1.heap.objs.size+1) a b:=by constructor <;>exact qX (by lia)
 refine Kd (s:={s1 with heap:=h' }) g1 ?_
 have I2:Inv X pins σ H1 {s1 with heap:=h' }:=I1.kept (t':=s1.toks) g8
 refine⟨s1.heap.objs.size+4,_,_,_,H1,rfl,I2,AC _ _ _ _ _ a b D,⟨g1,g2,⟨_,_,g3⟩,g4,g5⟩,λd hd=>?_,q _ H1 sm λH2 s2=>?_⟩
 ·have ge:s1.heap.objs.size<=d:=by
   simp only[ET,Fm,or_false]at hd;rcases hd with e |e |e |e |e <;>rw[e] <;>first |exact NH _ _ |exact EX _
  exact I1.fpOk ge (I1.hok.fresh ge)
 ·rw[iH l12];refine⟨λi hi=>?_,⟨va,vb,s2.seq Ra,s2.seq Qe,by lia⟩⟩
  have h1:i<va.length:=by lia
  have h2:i<vb.length:=by lia
  refine⟨⟨va,vb,va[i],vb[i],s2.seq Ra,s2.seq Qe,EK h1,EK h2⟩,?_⟩;rintro _ H3 ⟨pp,x1,y1,rfl,nn,rfl,e1,e2⟩;have sm2:aJ H2 (upd H2 pp (.tup [x1,y1])):=aM nn _;have m1:xs[i]?=some (xs[i]'(by lia)):=EK (by lia)
  have m2:ys[i]?=some (ys[i]'(by lia)):=EK (by lia)
  refine⟨sm2,_,jL m1 m2,λO2 hO sG=>?_⟩
  have all:Rps X.K (hid (upd H2 pp (.tup [x1,y1])) O2) [x1,y1] [_,_]:=
   .cons ((S0.at_ i _ _ (e1 _ (s2.seq Ra)) m1).same (sG.trans (aC sm2))) (.cons ((S1.at_ i _ _ (e2 _ (s2.seq Qe)) m2).same (sG.trans (aC sm2))) .nil)
  exact .tup (SqT.of (cS aK λhp=>hO pp hp nn)) all.len all.at_
theorem jG{is:List Nat}{g:TG}{f:PSt->U->PSt}{dom:U->Prop}{σ:St}{H1:Hp}{O:List E1}{Q:VK}{J:It}{te:TE}(hg:GOk g X.K is f dom)(R1:Rs X.K H0 O0 ps σ H1 O)(Y:Yz X.K J (hid H1 O) xs)(PL:ys.length=xs.length)(hz:xs.length<=sizeLine)(Qu:∀x∈xs,dom x)
  (Rb:∀(i:Nat) (x y:U) (σ:St) (H:Hp) (O':List E1) (Q:VK),xs[i]?=some x->ys[i]?=some y->Rs X.K H0 O0 (f (cu is ps) x) σ H O'->(∀v H',aJ H H'->Rp X.K (hid H' O') v y->Q v H')->te σ H Q)
  (P4:∀a vs H',aJ H1 H'->H1 a=none->H' a=some (.lst vs)->Rps X.K (hid H' (a::O)) vs ys->Q (.ref a) H'):sC is g te σ Q J H1:=by
 intro l hl;refine⟨λi m H2=>m=xs.length-i/\i<=xs.length/\aJ H1 H2/\∃vs,H2 l=some (.lst vs)/\vs.length=i/\Rps X.K (hid H2 (l::O)) vs (ys.take i),⟨_,rfl,FX _,aM hl _,[],aK,rfl,by rw[JX];exact .nil⟩,?_⟩
 rintro i m H2 ⟨rfl,hi,s2,vs,h2,hv,rs⟩;have seen:aJ (hid H1 O) (hid H2 (l::O)):=bn s2 hl;obtain⟨y1,y2⟩:=Y H2 (seen.trans ax);by_cases PU:i<xs.length
 ·obtain⟨g1,g2⟩:=y1 i PU;refine .inr ⟨g1,λx H3 y=>?_⟩
  obtain⟨s3,u,hu,r⟩:=g2 x H3 y;have R2:=((R1.mask (is:=is)).hide s2 hl (by rw[h2];intro z;cases z)).go s3
  have h3:=s3 _ _ h2;refine hg H0 O0 _ _ H3 (l::O) x u _ (Qu u (E9 hu)) R2 (r (l::O) (λb hb z=>by rcases ET.mp hb with k |k;(rw[k,h2]at z;cases z);exact R1.dom b k (s2.free z)) seen) λRk R4 keep=>?_
  have hy:ys[i]?=some (ys[i]'(by lia)):=EK _
  refine Rb i u _ Rk H3 (l::O) _ hu hy R4 λv H5 s5 r5=>⟨λj w e=>keep j w (fg is σ j w e).2 e,vs,s5 _ _ h3,?_,xs.length-(i+1),by lia,rfl,PU,((s2.trans s3).trans s5).put hl _,vs++[v],aK,by simp[hv],?_⟩
  ·rw[hv];lia
  ·rw[iu EY,GO,hy];exact ((rs.same (aC s3)).same (aC s5)).snoc (.cons r5 .nil)
 ·have e:i=xs.length:=by lia
  subst e;rw[<-PL,GQ]at rs;exact .inl ⟨y2,P4 l vs H2 s2 hl h2 rs⟩
theorem rP{Ql:Expr}{PF:Ju}{cl:List (Str×E1)}{is:List Nat}{g:TG}{f:PSt->U->PSt}{dom:U->Prop}(hc:X.calm=true)(B:cF X PF cl is)(hi:EvZ X H0 O0 ps tg iter xs)(hg:∀C s H fp,PG (aA X PF cl C s H fp) tg g)(gk:GOk g X.K is f dom)
  (PL:ys.length=xs.length) (hz:xs.length<=sizeLine) (Qu:∀x∈xs,dom x) (he:∀C s H fp (i:Nat) (x y:U),xs[i]?=some x->ys[i]?=some y->Ev (aA X PF cl C s H fp) H0 O0 (f (cu is ps) x) Ql y)
  (hs:∀x,Gg iter X.env x=pure x:=by intro _;rfl):EvN X H0 O0 ps (.ListComp Ql [⟨tg,iter,[],0⟩] PF pos) ys:=by
 have Rb:∀C s H fp,PE (aA X PF cl C s H fp) Ql λσ H Q=>∃i x y,xs[i]?=some x/\ys[i]?=some y/\∃O',Rs X.K H0 O0 (f (cu is ps) x) σ H O'/\∀v H',aJ H H'->Rp X.K (hid H' O') v y->Q v H':=
  λC s H fp pins s' σ H' Q I ⟨i,x,y,h1,h2,z⟩=>he C s H fp i x y h1 h2 pins s' σ H' Q I z
 refine PE.mono (sO hc B hi hg Rb hs) λσ H Q ⟨O,R,q⟩=>⟨O,R,λJ H1 s1 Y=>?_⟩
 exact jG gk (R.go s1) Y PL hz Qu (λi x y σ H O' Q h1 h2 R' z=>⟨i,x,y,h1,h2,O',R',z⟩) λa vs H' s n h r=>q a vs H' (s1.trans s) (s1.free n) h r
theorem qc{Ql:Expr}{PF:Ju}{cl:List (Str×E1)}{RB py:Pos}{y:Str}{j:Nat}{is:List Nat}{g:TG}{f:PSt->U->PSt}{dom:U->Prop}(own:Bool)(hc:X.calm=true)(hN:X.N.Nodup)(hj:X.N[j]?=some y)(hy:Loc X.env.scope y)(B:cF X PF cl is)
  (hi:EvZ X H0 O0 ps tg iter xs) (hg:∀C s H fp,PG (aA X PF cl C s H fp) tg g) (gk:GOk g X.K is f dom) (PL:ys.length=xs.length) (hz:xs.length<=sizeLine) (Qu:∀x∈xs,dom x)
  (he:∀C s H fp (i:Nat) (x y:U),xs[i]?=some x->ys[i]?=some y->Ev (aA X PF cl C s H fp) H0 O0 (f (cu is ps) x) Ql y) (h:D.nx (ps.set j (some (if own then .own ys else .val (.lst ys)))))
  (hs:∀x,Gg iter X.env x=pure x:=by intro _;rfl)
  (hsw:Jv (.ListComp Ql [⟨tg,iter,[],0⟩] PF pos) (some (.Name y py)) RB.line X.env=pure true:=by rfl) (hf:X.fn y=true\/X.env.scope.names.lookup y=some .local:=by first |exact .inl rfl |exact .inr rfl |assumption):
  W1 X H0 O0 E (.Assign [.Name y py] (.ListComp Ql [⟨tg,iter,[],0⟩] PF pos) RB) D ps:=by
 have Rb:∀C s H fp,PE (aA X PF cl C s H fp) Ql λσ H Q=>∃i x y,xs[i]?=some x/\ys[i]?=some y/\∃O',Rs X.K H0 O0 (f (cu is ps) x) σ H O'/\∀v H',aJ H H'->Rp X.K (hid H' O') v y->Q v H':=
  λC s H fp pins s' σ H' Q I ⟨i,x,y,h1,h2,z⟩=>he C s H fp i x y h1 h2 pins s' σ H' Q I z
 refine PS.mono (qs hc hN hj hy B hi hg Rb hs hsw hf) λD' σ H ⟨L,O,R⟩=>⟨O,R,λJ H1 s1 Y=>?_⟩
 refine jG gk (R.go s1) Y PL hz Qu (λi x y σ H O' Q h1 h2 R' z=>⟨i,x,y,h1,h2,O',R',z⟩) λa vs H' s n h' r=>?_
 cases own with
 |true=>exact L.nx _ _ _ _ ((R.go s1).own s n h' r) h
 |false=>
  have na:a ∉ O:=λz=>(R.go s1).dom a z n
  have r':=r.same (e7 λb hb=>ES a hb)
  exact L.nx _ _ _ _ (((R.go s1).go s).set (.lst (cS h' na) r'.len r'.at_)) h
variable {n nm t:Str}{vs:List (Str×Str)}
end
structure EH(P:E2)(w:Fs)(K:EL)(mg:Str->Option EU)(base:Gz)(CX:CXT)(k:Nat)(f:E1)(fd:Ga)(ps:List Str)(sp:Sp):Prop where
 len:∀vs H Q E,sp vs H Q E->vs.length=ps.length
 run:∀(A:Fq) (outer:List Env) (s:ER) (H:Hp) (args:Args) (us:List EU) (vs:List V) (Q:VK) (E:XK),1<=s.toks->d6 k A->yl P w K mg base A outer s H->Nc s fd args (ps.zip us)->aQ vs us->sp vs H Q E->
  IJ (FF P w) A (.call (.ref f) args) (CR CX outer P w H s Q E) s
section
variable {X:Cx}{CX:CXT}{k:Nat}{f:E1}{ps:List Str}{sp:Sp}{Sq:List V}{ds:List EU}{x m:Str}{p:Pos}{e:Expr}{ta te:TE}{t:TA}{st:Hr}{rest:List Hr}{tS u:TS}
variable {tg:Expr}
variable {to:TE}{name:Str}{T id:String}{r:V→List V→Hp→VK→Prop}
end
section
variable {X:Cx}{ps Qo:PSt}{s:Hr}{ss:List Hr}{a b c e:Expr}{p:Pos}{x y:U}{ys:List U}{n:Nat}{CX:CXT}{f d':E1}{Qd:List U→Out→Prop}{nm:Str}
end
section
variable {mg:Str→Option EU}{base:Gz}{N:List Str}{nm:Str}{PF:Ju}{f:E1}{cd:EU}{A:Fq}{outer:List Env}{ps:PSt}
end
theorem jk{X:Cx}{H0:Hp}{O0:List E1}{ps:PSt}{e:Expr}{u u':U}(h:u=u')(t:Ev X H0 O0 ps e u):Ev X H0 O0 ps e u':=h ▸ t
end L2
namespace L2
open PySem PySem.Spec PySem.W PyProof.Rows
structure Dfn(K:EL)(mg:Str->Option EU)(x:Str)(st:Hr)(ps:List Str) where
 a:E1
 d:Ga
 F:Fun K x x st a d
 b:dt K d ps []
 m:mg x=some (.ref a)
structure DfD(K:EL)(mg:Str->Option EU)(x:Str)(st:Hr)(ps:List Str)(j:Int) where
 a:E1
 d:Ga
 D:E1
 F:vL K x x st a d D
 b:dt K d ps []
 bd:∃t,dt K d ps [.int j t]
 m:mg x=some (.ref a)
structure MDf(K:EL)(C:E1)(x q:Str)(st:Hr)(ps:List Str) where
 a:E1
 d:Ga
 F:Fun K x q st a d
 b:dt K d ps []
 m:Ef K C x a
structure IDf(K:EL)(C:E1)(x q:Str)(st:Hr)(ps:List Str) where
 a:E1
 d:Ga
 F:Fun K x q st a d
 b:dt K d ps []
 m:Mk K C a
structure Exn(mg:Str->Option EU)(x:Str) where
 c:E1
 m:mg x=some (.ref c)
abbrev B_(x q:Str)(st:Hr)(ps:List Str):Prop:=∀(kV QK pm:EU) (an:Option E1) (PV ct:EU) (us:List EU),us.length=ps.length->JU (fnOf x q (bW st) (bI st) (aj st) .none kV QK pm an PV ct) ⟨us,[]⟩=pure (ps.zip us)
section
variable {K:EL}{h:Gz}{mg:Str→Option EU}{x q:Str}{st:Hr}{ps:List Str}{f C D:E1}{j:Int}{oc:EU}{od an:Option E1}{kV dc pm cd ct:EU}{sl:Array (Option EU)}{x1 x2 x3 t:_}
def dfn(X:K.In h)(G:h.Ns GS mg)(hb:B_ x x st ps)(a:nsIn K GS x=some (some (.ref f)))(l:K.lookup f=some ⟨oc,od,.func (fnOf x x (bW st) (bI st) (aj st) .none kV dc pm an cd ct),sl⟩)(c:codeIn K cd x=true)(k:keepIn K (.ref f)=true):Dfn K mg x st ps:=⟨f,_,xZ l c k,(xZ l c k).binds hb,mg_of X G a⟩
def dfD(X:K.In h)(G:h.Ns GS mg)(hb:K.lookup D=some ⟨.type "tuple",x1,.seq #[.int j t] x2,x3⟩→∀(kV dc pm:EU) (an:Option E1) (cd ct:EU),dt K (fnOf x x (bW st) (bI st) (aj st) (.ref D) kV dc pm an cd ct) ps []∧∃t,dt K (fnOf x x (bW st) (bI st) (aj st) (.ref D) kV dc pm an cd ct) ps [.int j t])(a:nsIn K GS x=some (some (.ref f)))(l:K.lookup f=some ⟨oc,od,.func (fnOf x x (bW st) (bI st) (aj st) (.ref D) kV dc pm an cd ct),sl⟩)(c:codeIn K cd x=true)(k:keepIn K (.ref f)=true)(q:K.lookup D=some ⟨.type "tuple",x1,.seq #[.int j t] x2,x3⟩):DfD K mg x st ps j:=⟨f,_,D,AD l c k,(hb q kV dc pm an cd ct).1,(hb q kV dc pm an cd ct).2,mg_of X G a⟩
def exn(X:K.In h)(G:h.Ns GS mg)(a:nsIn K GS x=some (some (.ref f))):Exn mg x:=⟨f,mg_of X G a⟩
theorem g_i{t:_}(X:K.In h)(G:h.Ns GS mg)(a:nsIn K GS x=some (some (.int j t))):∃t,mg x=some (.int j t):=⟨t,mg_of X G a⟩
end
end L2
namespace SG
open PySem PySem.W PySem.Calls PyProof.Rows ST
abbrev rfs{α:Type}(pb:List (α×E1)):List EU:=pb.map λp=>Ft p.2
structure Ky(α:Type) where
 lt:α->α->Bool
 tr:∀{a b c:α},lt a b=true->lt b c=true->lt a c=true
 tot:∀{a b:α},a≠b->lt a b=false->lt b a=true
 asy:∀{a b:α},lt a b=true->lt b a=false
 is:E2->Fs->Gz->α->E1->Prop
 kd:I0
 grow:∀{prog:E2}{w:Fs}{h h':Gz}{a:α}{b:E1},is prog w h a b→(∀b o,o.cls=.type "tuple"→h.get? b=some o→h'.get? b=some o)→is prog w h' a b
 ask:∀{prog:E2}{w:Fs}{A:Fq}{E:EU->ER->Prop}{s:ER}{x y:E1}{a b:α}{Q:Bool->ER->Prop},A.units+1<II->is prog w s.heap a x->is prog w s.heap b y->Q (lt a b) s->Fd (FF prog w) A (keyLt' kd (.ref x) (.ref y)) Q E s
 kind:∀{prog:E2}{w:Fs}{A:Fq}{E:EU->ER->Prop}{s:ER}{pb:List (α×E1)}{Q:I0->ER->Prop},(∀p∈pb,is prog w s.heap p.1 p.2)->0<pb.length->Q kd s->Fd (FF prog w) A (OW (rfs pb).toArray) Q E s
section
variable {α:Type} [DecidableEq α] (S:Ky α)
def ins(x:α):List α->List α
 |[]=>[x]
 |y::r=>if x=y then y::r else if S.lt x y=true then x::y::r else y::ins x r
def srt(l:List α):List α:=l.foldr (ins S) []
theorem ins_mem(x z:α):∀l,z∈ins S x l↔z=x\/z∈l
 |[]=>by simp[ins]
 |y::r=>by
  unfold ins;split
  ·rename_i h;subst h;simp
  ·split
   ·simp
   ·rw[ET,ins_mem x z r,ET];grind
abbrev Asc(l:List α):Prop:=l.Pairwise (λx y=>S.lt x y=true)
theorem ins_asc(x:α):∀l,Asc S l->Asc S (ins S x l)
 |[],_=>by simp[ins]
 |y::r,h=>by
  unfold ins;split
  ·exact h
  ·rename_i PN
   obtain⟨h1,h2⟩:=Fv.mp h;split
   ·rename_i PU
    refine Fv.mpr ⟨λz hz=>?_,h⟩
    rcases ET.mp hz with e |e
    ·rw[e];exact PU
    ·exact S.tr PU (h1 z e)
   ·rename_i PU
    refine Fv.mpr ⟨λz hz=>?_,ins_asc x r h2⟩
    rcases (ins_mem S x z r).mp hz with e |e
    ·rw[e];exact S.tot PN (by simpa using PU)
    ·exact h1 z e
theorem srt_mem(z:α):∀l,z∈srt S l↔z∈l
 |[]=>by simp[srt]
 |y::r=>by
  show z∈ins S y (srt S r)↔_;rw[ins_mem,srt_mem z r,ET]
theorem srt_asc:∀l,Asc S (srt S l)
 |[]=>IX
 |y::r=>ins_asc S y (srt S r) (srt_asc r)
omit [DecidableEq α] in
theorem irr(a:α):S.lt a a=false:=by
 cases h:S.lt a a with
 |false=>rfl
 |true=>rw[S.asy h]at h;cases h
omit [DecidableEq α] in
theorem asc_one:∀{l m:List α},Asc S l->Asc S m->(∀z,z∈l↔z∈m)->l=m
 |[],[],_,_,_=>rfl
 |[],y::r,_,_,h=>by have:=(h y).mpr EY;simp at this
 |x::l,[],_,_,h=>by have:=(h x).mp EY;simp at this
 |x::l,y::m,hl,hm,h=>by
  obtain⟨a1,a2⟩:=Fv.mp hl;obtain⟨b1,b2⟩:=Fv.mp hm
  have e:x=y:=by
   rcases ET.mp ((h x).mp EY) with z |z
   ·exact z
   ·rcases ET.mp ((h y).mpr EY) with z' |z'
    ·exact z'.symm
    ·have:=S.asy (b1 x z);rw[a1 y z']at this;cases this
  subst e;congr 1;refine asc_one a2 b2 λz=>⟨λhz=>?_,λhz=>?_⟩
  ·rcases ET.mp ((h z).mp (ES _ hz)) with e |e
   ·have:=a1 z hz;rw[e,irr]at this;cases this
   ·exact e
  ·rcases ET.mp ((h z).mpr (ES _ hz)) with e |e
   ·have:=b1 z hz;rw[e,irr]at this;cases this
   ·exact e
end
section
variable {α:Type} (S:Ky α) {prog:E2}{w:Fs}{A:Fq}{E:EU→ER→Prop}{s:ER}
theorem zn(pb:List (α×E1))(d0:α×E1):(F3 pb.length).map (λi=>pb.getD i d0)=pb:=by
 apply NC
 ·simp
 ·intro i h1 h2;simp at h1;simp[h1]
include S
theorem BX{a:E1}{pb:List (α×E1)}{n:Nat}{P:M3→ER→Prop}(ho:s.heap.get? a=some (KG "list" (rfs pb).toArray n))(Q1:∀p∈pb,S.is prog w s.heap p.1 p.2)(hu:A.units+1<II)(d0:α×E1)(Rm:(pb.map (·.1)).Nodup)(h64:pb.length<64)
  (h:∀Qs:List (α×E1),Qs.Perm pb->(Qs.map (·.1)).Pairwise (λx y=>S.lt x y=true)->P (.done (.ret .none)) {s with heap:=sortedHeap s.heap a (rfs pb) (rfs Qs).toArray }):
  Fd (FF prog w) A (Builtin.«list.sort» ⟨[.ref a],[]⟩) P E s:=by
 have Sv:(rfs pb).length=pb.length:=by simp
 have RD:(rfs pb).toArray.size=pb.length:=by simp
 rw[NZ];have ha:a<s.heap.objs.size:=EZ ho;refine EJ (listItems_at ho rfl (EJ (JB ho rfl ?_ (by rw[RD,Gp];lia) (FX _))))
 obtain⟨e1,ho1⟩:∃e1,(s.heap.update a (FP λ_=>(#[]:Array EU))).get? a=some (KG "list" #[] e1):=⟨_,N0 ho (λ_=>#[])⟩
 refine EJ (Kp ho1 rfl (EJ (KZ ?_ (by show (rfs pb).length<=_;rw[Sv,Gp];lia))))
 refine EJ (Lr ?_ (FX _));refine F6 ?_;generalize hh6:((s.heap.update a (FP λ_=>(#[]:Array EU))).push (KG "tuple" (rfs pb).toArray 0)).push (KG "list" #[] 0)=h6
 have old6:∀b o,b≠a->s.heap.get? b=some o->h6.get? b=some o:=λb o hb e=>by
  rw[<-hh6];exact EN _ (EN _ ((Fk _ _ (Ne.symm hb)).trans e))
 have Sw:h6.get? a=some (KG "list" #[] e1):=by rw[←hh6];exact EN _ (EN _ ho1)
 have tk6:∀p∈pb,S.is prog w h6 p.1 p.2:=λp hp=>by
  refine S.grow (Q1 p hp) λb o hc e=>old6 b o (λz=>?_) e
  rw[z,ho]at e;cases e;exact absurd hc (by show ¬ (Gm "list"=Gm "tuple");decide)
 have P4:∀Qs:List (α×E1),Qs.Perm pb->(Qs.map (·.1)).Pairwise (λx y=>S.lt x y=true)->P (.done (.ret .none)) {s with heap:=h6.update a (FP λ_=>(rfs Qs).toArray) }:=λQs p1 p2=>by
  rw[<-hh6];exact h Qs p1 p2
 show Fd (FF prog w) A _ P E {s with heap:=h6 }
 dsimp only;by_cases h2:(rfs pb).toArray.size<2
 ·rw[if_pos h2,if_pos h2];refine EJ (EO ?_);rw[StateT.run_pure];refine EJ (EO ?_);dsimp only
  have eout:(arrOf (SortSt.mk' general' ((rfs pb).toArray.zip (rfs pb).toArray) #[] 7 none)).map (·.2)=(rfs pb).toArray:=by
   show (((rfs pb).toArray.zip (rfs pb).toArray)).map (·.2)=_;apply LK.mp
   have zip2:∀l:List EU,(l.zip l).map (·.2)=l:=λl=>by
    induction l with
    |nil=>rfl
    |cons x r ih=>rw[GB,Ff,ih]
   rw[LL,ND];exact zip2 _
  rw[eout];refine EJ (Kp Sw rfl (EJ (JB Sw rfl ?_ (FX _) (by rw[RD,Gp];lia))))
  show Fd _ _ (if (e1 !=e1)=true then _ else _) _ _ _
  rw[if_neg (by simp)]
  refine EO (P4 pb (KO _) ?_)
  match pb,RD,h2 with
  |[],_,_=>simp
  |[_],_,_=>simp
  |_::_::r,RD,h2=>rw[RD]at h2;exact absurd h2 (by simp)
 ·rw[if_neg h2,if_neg h2];rw[RD]at h2;have h2':2<=(rfs pb).length:=by rw[Sv];lia
  refine EJ (S.kind (s:={s with heap:=h6 }) tk6 (by lia) ?_)
  have inj:∀i j,i<pb.length->j<pb.length->i≠j->(pb.getD i d0).1≠(pb.getD j d0).1:=λi j hi hj QR e=>by
   refine QR ((J_ (xs:=pb.map (·.1)) (h₀:=by simpa using hi) (h₁:=by simpa using hj) Rm).mp ?_)
   simpa [hi,hj] using e
  have O:LtO pb.length (λi j=>S.lt (pb.getD i d0).1 (pb.getD j d0).1):=⟨λi j k=>S.tr,λi j hi hj QR=>S.tot (inj i j hi hj QR),λi j=>S.asy⟩
  obtain⟨p,R,RE,SS⟩:=px O (by lia)
  have hcmp:∀i j C,i<pb.length->j<pb.length->C (S.lt (pb.getD i d0).1 (pb.getD j d0).1) {s with heap:=h6 }->kas_ask prog w A (S.kd) (rfs pb) i j C {s with heap:=h6 }:=λi j C hi hj c=>by
   unfold kas_ask;have ei:(rfs pb).getD i Fl=.ref (pb.getD i d0).2:=by simp[hi]
   have ej:(rfs pb).getD j Fl=.ref (pb.getD j d0).2:=by simp[hj]
   rw[ei,ej];have mi:pb.getD i d0∈pb:=by simp[hi]
   have mj:pb.getD j d0∈pb:=by simp[hj]
   exact S.ask (s:={s with heap:=h6 }) hu (tk6 _ mi) (tk6 _ mj) c
  have tree:(kas_sort (rfs pb).length).kasWp (kas_ask prog w A (S.kd) (rfs pb)) (λp' s'=>p'=p/\s'={s with heap:=h6 }) {s with heap:=h6 }:=by
   rw[Sv];exact R.wp hcmp ⟨rfl,rfl⟩
  refine EJ (HS (kat_run (Q:=λQw s'=>s'={s with heap:=h6 }/\failedOf Qw=none/\(arrOf Qw).map (·.2)=Nv (p.toList.map λi=>(rfs pb).getD i Fl)) rfl h2' (by rw[Sv];exact h64) (λp' Qw s' _ a2 a3 a4=>?_) tree) ?_ λ_ _ e=>e)
  ·obtain⟨rfl,rfl⟩:=a4;exact⟨rfl,a3,kat_snds rfl a2⟩
  ·rintro ⟨⟨⟩,Qw⟩ s' ⟨rfl,hf,hout⟩;dsimp only;rw[hout];have PU:∀i∈p.toList,i<pb.length:=λi hi=>Fo.mp (RE.perm.mem_iff.mp hi)
   have er:(p.toList.map λi=>(rfs pb).getD i Fl)=rfs (p.toList.map λi=>pb.getD i d0):=by
    unfold rfs;rw[FI];refine Kq λi hi=>?_
    have:=PU i hi;simp[this]
   rw[er]
   have RW:(p.toList.map λi=>pb.getD i d0).Perm pb:=by
    refine (RE.perm.map _).trans ?_;rw[zn]
   have Qq:(rfs (p.toList.map λi=>pb.getD i d0)).toArray.size=pb.length:=by simp[RE.size]
   refine EJ (Kp Sw rfl (EJ (JB Sw rfl ?_ (FX _) (by rw[Qq,Gp];lia))))
   rw[hf];show Fd _ _ (if (e1 !=e1)=true then _ else _) _ _ _
   rw[if_neg (by simp)]
   refine EO (P4 _ RW ?_);rw[FI,FO,FE];intro i j hi hj QR;have hj':j<pb.length:=by rw[E_,RE.size]at hj;exact hj
   have q:=SS i j QR hj';have ei:g p i=p.toList[i]:=by simp[g,Hl,RE.size,show i<pb.length by lia]
   have ej:g p j=p.toList[j]:=by simp[g,Hl,RE.size,hj']
   rw[ei,ej]at q;exact q
theorem call_g{l:E1}{pb:List (α×E1)}{Q:EU->ER->Prop}(hl:s.heap.IsList l (rfs pb).toArray)(Q1:∀p∈pb,S.is prog w s.heap p.1 p.2)(hu:A.units+5<II)(d0:α×E1)(Rm:(pb.map (·.1)).Nodup)(h64:pb.length<64)
  (h:∀(h1 h':Gz) (tk:Nat) (Qs:List (α×E1)) (e:Nat),Qs.Perm pb→(Qs.map (·.1)).Pairwise (λx y=>S.lt x y=true)→(∀c o,s.heap.get? c=some o→h1.get? c=some o)→(∀c o,h1.get? c=some o→h'.get? c=some o)→h'.get? h1.objs.size=some (KG "list" (rfs Qs).toArray e)→Q (.ref h1.objs.size) {s with heap:=h',toks:=tk }):
  Fd (FF prog w) A (call (.builtin "sorted") [.ref l]) Q E s:=by
 have hrl:(rfs pb).length=pb.length:=by simp
 refine Calls.call_function_entry kind_sorted plain_sorted entry_sorted (args_sorted1 _) ?_;unfold Builtin.«sorted»;refine EJ (m:=checkCount "sorted" 1 1 _) (EO ?_);refine EJ (collect_list hl ?_ (by rw[hrl,Gp];lia))
 refine EJ (Lr ?_ (by rw[hrl,Gp];lia))
 generalize hg:(s.heap.push (KG "list" #[] 0)).update s.heap.objs.size (FP (·++(rfs pb).toArray))=h1
 have keep:∀c o,s.heap.get? c=some o->h1.get? c=some o:=λc o e=>by
  rw[<-hg,Fk _ _ (Hs (EZ e))];exact EN _ e
 have hD:(h1.push {cls:=.type "list",data:=.seq (rfs pb).toArray }).get? h1.objs.size=some (KG "list" (rfs pb).toArray 0):=E3 _ rfl
 have up:∀p∈pb,S.is prog w (h1.push {cls:=.type "list",data:=.seq (rfs pb).toArray }) p.1 p.2:=λp hp=>by
  exact S.grow (Q1 p hp) λb o _ e=>EN _ (keep _ _ e)
 refine EJ (F6 (F4 Om ⟨_,hD,rfl⟩ N2 ?_ (On _)));refine BX S (s:={s with heap:=h1.push {cls:=.type "list",data:=.seq (rfs pb).toArray } }) hD up (by show A.units+1+1+1<II;lia) d0 Rm h64 λQs pp so=>⟨_,rfl,EO ⟨_,rfl,?_⟩⟩
 obtain⟨e,eD⟩:=sortedHeap_at (out:=(rfs Qs).toArray) hD;refine h h1 _ s.toks Qs e pp so keep (λc o hb=>?_) eD
 have PU:=EZ hb;rw[Oo (Fy PU) (by rw[Gb];exact GY PU)]
 exact EN _ hb
end
end SG
namespace L2
open PySem PySem.Spec PyProof.Rows
section
variable {X:Cx}{H0:Hp}{O0:List E1}{ps:PSt}{e:Expr}{pos p:Pos}
theorem ju{α:Type}[DecidableEq α](S:SG.Ky α)(uf:α→U)(t0:α){trs:List α}(QU:∀{pins:List (E1×Obj)}{σ:St}{H:Hp}{s:ER}{z:V}{u:EU}{a:α},Inv X pins σ H s→Rp X.K H z (uf a)→aZ z u→∃b,z=.ref b∧u=.ref b∧S.is X.prog X.w s.heap a b)(hg:Gl X "sorted")(hm:X.mg "sorted"=none)(hu:X.A.units+10<II)(ha:Ev X H0 O0 ps e (.lst (trs.map uf)))(hl:trs.length<64∧trs.Nodup)
  (he:E4 [e] X.env=(false,HE e X.env)::E4 [] X.env:=by rfl):EvN X H0 O0 ps (.Call (.Name "sorted" p) [e] [] pos) ((SG.srt S trs).map uf):=by
 obtain⟨hl,hn⟩:=hl;rintro pins s σ H Q I ⟨O,R,q⟩;refine Gh (ca I hg hm boot_sorted ?_);refine callWith_builtin1 (e:=e) (rest:=[]) (thn (ci ha eP he pos pins s σ H (λvs H1=>∃v,vs=[v]/\aJ H H1/\Rp X.K (hid H1 O) v (.lst (trs.map uf))) I ⟨O,R,λv H1 s1 r1=>⟨v,rfl,s1,r1⟩⟩) λus s1 hx=>?_) he rfl
 obtain⟨vs,H1,I1,rv,v,rfl,sm,rp⟩:=hx;obtain⟨u,rfl,ru⟩:=eY rv;cases rp with
 | @lst a ws _ hq hwl hwi=>
  cases ru;obtain⟨PH,RH,pl,hz⟩:=I1.list (SqL.of (ax _ _ hq));have hlp:ws.length=trs.length:=by rw[hwl,EM]
  have hil:PH.length=trs.length:=by rw[<-RH.length,hlp]
  have item:∀i,i<trs.length->∃b,PH[i]?=some (.ref b)/\Rp X.K (hid H1 O) (.ref b) (uf (trs.getD i t0))/\S.is X.prog X.w s1.heap (trs.getD i t0) b:=λi hi=>by
   have hw:ws[i]?=some ws[i]:=EK (by lia)
   have hp:(trs.map uf)[i]?=some (uf (trs.getD i t0)):=by rw[EW,EK hi];simp[hi]
   have r:=hwi i _ _ hw hp;obtain⟨u',e1,e2⟩:=RH.get hw;obtain⟨b,ez,rfl,tb⟩:=QU I1 (r.same ax) e2;rw[ez]at r;exact⟨b,e1,r,tb⟩
  let ad:Nat->E1:=λi=>match PH[i]? with |some (.ref b)=>b |_=>0
  have SY:∀i,i<trs.length->PH[i]?=some (.ref (ad i))/\Rp X.K (hid H1 O) (.ref (ad i)) (uf (trs.getD i t0))/\S.is X.prog X.w s1.heap (trs.getD i t0) (ad i):=λi hi=>by
   obtain⟨b,e1,e2,e3⟩:=item i hi;have:ad i=b:=by show (match PH[i]? with |some (.ref b)=>b |_=>0)=b;rw[e1]
   rw[this];exact⟨e1,e2,e3⟩
  generalize ad=Q2 at SY;clear ad;generalize R9:((F3 trs.length).map λi=>((trs.getD i t0,Q2 i):α×E1))=pb
  have hits:PH=SG.rfs pb:=by
   apply HH;intro i;rw[<-R9];unfold SG.rfs;rcases G0 i trs.length with z |z
   ·rw[(SY i z).1];simp[z]
   ·rw[FC (by lia),FC (by simpa using z)]
  have h1p:pb.map (·.1)=trs:=by
   rw[<-R9,FI];apply HH;intro i;rcases G0 i trs.length with z |z
   ·simp[z]
   ·rw[FC (by simpa using z),FC z]
  have srcb:∀z∈pb,∃j,j<trs.length/\z=(trs.getD j t0,Q2 j):=λz hz=>by
   rw[<-R9]at hz;obtain⟨j,hj,rfl⟩:=EV.mp hz;exact⟨j,Fo.mp hj,rfl⟩
  have hbl:pb.length=trs.length:=by rw[<-h1p,EM]
  rw[hits]at pl;refine SG.call_g S (pb:=pb) pl.isList (λz hz=>?_) (by show X.A.units+5<II;lia) (t0,0) (by rw[h1p];exact hn) (by lia) λh3 h4 tk2 Qs ep pm so k1 k2 hD=>?_
  ·obtain⟨j,hj,rfl⟩:=srcb z hz;exact (SY j hj).2.2
  ·have I3:Inv X pins σ H1 {s1 with heap:=h3,toks:=tk2 }:=I1.kept (t':=tk2) k1
   have src:∀z∈Qs,∃j,j<trs.length/\z=(trs.getD j t0,Q2 j):=λz hz=>srcb z (pm.mem_iff.mp hz)
   have etrs:Qs.map (·.1)=SG.srt S trs:=by
    refine SG.asc_one S so (SG.srt_asc S trs) λz=>?_
    rw[SG.srt_mem,(pm.map (·.1)).mem_iff,h1p]
   have fr:H1 h3.objs.size=none:=I3.hok.fresh (EX _);refine⟨.ref h3.objs.size,upd H1 h3.objs.size (.lst (Qs.map λz=>V.ref z.2)),?_,rfl,?_⟩
   ·refine I3.laid (t':=tk2) k2 (EX _) ⟨?_,(SG.rfs Qs),ep,?_,hD⟩
    ·rw[EM,pm.length_eq,hbl,Gp];lia
    ·have all:∀l:List (α×E1),aQ (l.map λz=>V.ref z.2) (SG.rfs l):=λl=>by
      induction l with
      |nil=>exact .nil
      |cons z r ih=>exact .cons rfl ih
     exact all Qs
   ·refine q _ _ _ (sm.trans (aM fr _)) (sm.free fr) aK ⟨?_,λi z x e1 e2=>?_⟩
    ·rw[EM,<-etrs,EM,EM]
    ·rw[<-etrs,FI,EW]at e2;rw[EW]at e1;cases hpi:Qs[i]? with
     |none=>rw[hpi]at e1;cases e1
     |some y=>
      rw[hpi]at e1 e2;cases e1;cases e2;obtain⟨j,hj,rfl⟩:=src y (E9 hpi);exact (SY j hj).2.1.same (bn (aM fr _) fr)
end
end L2
namespace ST3
open PySem PySem.W PySem.Calls PyProof.Rows ST
def KT:SG.Ky TR:=⟨ltT,Cc,Az,Aj,TT,KY false,λh e=>h.grow e,λhu h k q=>BM hu h k q,λh k q=>ye h k q⟩
abbrev PQ:=(Int×Int)×Int
def ltQ(a b:PQ):Bool:=if a.1=b.1 then decide (a.2<b.2) else ltP a.1 b.1
theorem Cf{a b c:PQ}(h:ltQ a b=true)(k:ltQ b c=true):ltQ a c=true:=by
 unfold ltQ at *;by_cases h1:a.1=b.1
 ·rw[if_pos h1]at h;by_cases k1:b.1=c.1
  ·rw[if_pos k1]at k;rw[if_pos (h1.trans k1)];simp at *;lia
  ·rw[if_neg k1]at k;rw[if_neg (by rw[h1];exact k1),h1];exact k
 ·rw[if_neg h1]at h;by_cases k1:b.1=c.1
  ·rw[if_neg (by rw[<-k1];exact h1),<-k1];exact h
  ·rw[if_neg k1]at k;have t:=gZ h k;rw[if_neg (λe=>by rw[e,jt]at t;cases t)];exact t
theorem y9{a b:PQ}(h:a≠b)(k:ltQ a b=false):ltQ b a=true:=by
 unfold ltQ at *;by_cases h1:a.1=b.1
 ·rw[if_pos h1]at k;rw[if_pos h1.symm];have:a.2≠b.2:=λe=>h (GC h1 e)
  simp at *;lia
 ·rw[if_neg h1]at k;rw[if_neg (Ne.symm h1)];exact ltP_tot h1 k
theorem y_{a b:PQ}(h:ltQ a b=true):ltQ b a=false:=by
 unfold ltQ at *;by_cases h1:a.1=b.1
 ·rw[if_pos h1]at h;rw[if_pos h1.symm];simp at *;lia
 ·rw[if_neg h1]at h;rw[if_neg (Ne.symm h1)];exact fC h
section
variable {prog:E2}{w:Fs}{A:Fq}{E:EU→ER→Prop}{s:ER}
def TQ(prog:E2)(w:Fs)(h:Gz)(t:PQ)(b:E1):Prop:=∃o items n a1 u,h.get? b=some o∧o.cls=.type "tuple"∧o.data=.seq items n∧items.toList=[.ref a1,.int t.2 u]∧TK prog w h (lq t.1) a1
theorem TQ.grow{h h':Gz}{k:PQ}{b:E1}(x:TQ prog w h k b)(e:∀b o,o.cls=.type "tuple"→h.get? b=some o→h'.get? b=some o):TQ prog w h' k b:=by
 obtain⟨o,it,n,a1,u,h1,hc,h2,h3,h4⟩:=x;have up:∀{k:List Int}{a:E1},TK prog w h k a->TK prog w h' k a:=λ{k a} t=>by obtain⟨o,it,n,g1,gc,g2⟩:=t;exact⟨o,it,n,e _ _ gc g1,gc,g2⟩
 exact⟨o,it,n,a1,u,e _ _ hc h1,hc,h2,h3,up h4⟩
theorem BT(hu:A.units+1<II){x y:E1}{a b:PQ}{Q:Bool->ER->Prop}(hx:TQ prog w s.heap a x)(hy:TQ prog w s.heap b y)(h:Q (ltQ a b) s):Fd (FF prog w) A (keyLt' (KY false) (.ref x) (.ref y)) Q E s:=by
 obtain⟨o,PH,n,a1,u,ho,_,hd,hi,t1⟩:=hx;obtain⟨o',its',n',b1,u',QO,_,Qt,PY,u1⟩:=hy;refine kat_lt ho hd QO Qt ?_;rw[hi,PY];unfold ltQ at h;refine kat_cons (IG (by lia) t1 u1 ?_)
 rw[mL];by_cases e1:a.1=b.1
 ·rw[decide_eq_true e1];rw[if_pos e1]at h;refine kat_yes (kat_cons ((JK prog w).eqBool (a:=a.2) (b:=b.2) (Gq _ _ _ _) (Gq _ _ _ _) ?_));by_cases e2:a.2=b.2
  ·rw[decide_eq_true e2];refine kat_yes (kat_nil ?_);rw[decide_eq_false (by lia)]at h
   have z2:decide (PH.size<its'.size)=false:=by
    rw[<-E_,<-E_,hi,PY];simp
   rw[z2];exact h
  ·rw[decide_eq_false e2];exact kat_no (kat_one _ _ (lt_int h))
 ·rw[decide_eq_false e1];rw[if_neg e1]at h;exact kat_no (kat_one _ _ (lt_ptsR (by lia) t1 u1 h))
theorem v7{pb:List (PQ×E1)}{Q:I0->ER->Prop}(Q1:∀p∈pb,TQ prog w s.heap p.1 p.2)(h0:0<pb.length)(h:Q (KY false) s):Fd (FF prog w) A (OW (SG.rfs pb).toArray) Q E s:=by
 obtain⟨fs,hf,hl,hi⟩:∃fs,KatTups s.heap (SG.rfs pb) fs∧fs.length=pb.length∧∀v∈fs,∃a o,v=Ft a∧s.heap.get? a=some o∧o.cls=.type "tuple":=by
  clear h h0
  induction pb with
  |nil=>exact⟨[],.nil,rfl,λv hv=>by simp at hv⟩
  |cons p r ih=>
   obtain⟨fs,hf,hl,hi⟩:=ih λq hq=>Q1 q (ES _ hq)
   obtain⟨o,PH,n,a1,u,ho,hc,hd,QU,t1⟩:=Q1 p EY;refine⟨.ref a1::fs,.cons ho hc hd (by rw[<-FU,QU];rfl) hf,by simp[hl],λv hv=>?_⟩
   rcases ET.mp hv with z |z
   ·obtain⟨o1,_,_,g1,g2,_⟩:=t1;exact⟨a1,o1,z,g1,g2⟩
   ·exact hi v z
 refine kat_kind (T:=.type "tuple") hf (by lia) (λv hv=>?_) (by decide) h
 obtain⟨a,o,rfl,g1,g2⟩:=hi v hv;rw[<-g2];exact (Looks.ld g1).andThen .now
end
def KQ:SG.Ky PQ:=⟨ltQ,Cf,y9,y_,TQ,KY false,λh e=>h.grow e,λhu h k q=>BT hu h k q,λh k q=>v7 h k q⟩
def KP:SG.Ky (Int×Int):=⟨ltP,gZ,ltP_tot,fC,λprog w h p b=>TK prog w h (lq p) b,KY true,λt e=>by obtain⟨o,it,n,g1,gc,g2⟩:=t;exact⟨o,it,n,e _ _ gc g1,gc,g2⟩,λhu h k q=>xU h k q,λh k q=>oy h k q⟩
end ST3
namespace L2
open PySem PySem.Spec PyProof.Rows
abbrev qU(t:ST3.PQ):U:=.tup [pu t.1,.int t.2]
section
variable {X:Cx}{pins:List (E1×Obj)}{σ:St}{H:Hp}{s:ER}{z:V}{u:EU}
theorem Eu{a:ST3.TR}(I:Inv X pins σ H s)(r:Rp X.K H z (trU a))(e:aZ z u):∃b,z=.ref b/\u=.ref b/\ST3.KT.is X.prog X.w s.heap a b:=by
 cases r with
 | @tup b zs _ hs hsl hsi=>
  cases e;refine⟨b,rfl,rfl,?_⟩;obtain⟨jts,rj,ht,_⟩:=I.tuple hs;have z0:zs.length=3:=hsl
  match zs,z0,hsi,rj with
  |[z1,z2,z3],_,hsi,rj=>
   obtain⟨u1,u2,u3,rfl,r1,r2,r3⟩:=DN rj;obtain⟨x,rfl,tx⟩:=iJ I (hsi 0 z1 _ rfl rfl) r1;obtain⟨y,rfl,ty⟩:=iJ I (hsi 1 z2 _ rfl rfl) r2;obtain⟨v,rfl,tv⟩:=iJ I (hsi 2 z3 _ rfl rfl) r3;obtain⟨o,ho,RG,n,Sy⟩:=ht;exact⟨o,_,n,x,y,v,ho,RG,Sy,rfl,tx _ _,ty _ _,tv _ _⟩
theorem Df{a:ST3.PQ}(I:Inv X pins σ H s)(r:Rp X.K H z (qU a))(e:aZ z u):∃b,z=.ref b/\u=.ref b/\ST3.KQ.is X.prog X.w s.heap a b:=by
 cases r with
 | @tup b zs _ hs hsl hsi=>
  cases e;refine⟨b,rfl,rfl,?_⟩;obtain⟨jts,rj,ht,_⟩:=I.tuple hs;have z0:zs.length=2:=hsl
  match zs,z0,hsi,rj with
  |[z1,z2],_,hsi,rj=>
   obtain⟨u1,u2,rfl,r1,r2⟩:=gG rj;obtain⟨x,rfl,tx⟩:=iJ I (hsi 0 z1 _ rfl rfl) r1;have q2:=hsi 1 z2 _ rfl rfl;cases q2;obtain⟨t,rfl⟩:=r2;obtain⟨o,ho,RG,n,Sy⟩:=ht;exact⟨o,_,n,x,t,ho,RG,Sy,rfl,tx _ _⟩
theorem Ej{a:P2}(I:Inv X pins σ H s)(r:Rp X.K H z (pu a))(e:aZ z u):∃b,z=.ref b/\u=.ref b/\ST3.KP.is X.prog X.w s.heap a b:=by
 obtain⟨b,rfl,tb⟩:=iJ I r e;refine⟨b,?_,rfl,tb _ _⟩;cases r;cases e;rfl
variable {p:P2}{l:List P2}
end
end L2
namespace ST
open PySem
variable {E:EU→ER→Prop}
section
variable {prog:E2}{w:Fs}{A:Fq}{s:ER}
theorem zM{it t:E1}{i:Nat}{items:Array EU}{x:EU}{Q:EU->ER->Prop}(g:s.heap.IsTupleIter it t i)(gt:s.heap.IsTuple t items)(hx:items[i]?=some x)
  (q:∀h',h'.IsTupleIter it t (i+1)->IH it s.heap h'->Q x {s with heap:=h' }):Fd (FF prog w) A (Builtin.SmallTypes.nextOf (.ref it)) Q E s:=by
 obtain⟨o,e1,e2,e3⟩:=id g;obtain⟨o2,e4,_,n,e5⟩:=gt;unfold Builtin.SmallTypes.nextOf;refine EJ (Gi (name:=Str.ofString "__next__") g.typeIs Hf (F4 Hf g.typeIs JE ?_ (Jt _)));show Fd _ _ (Nl (.ref it) 0 >>=_) _ _ s;refine EJ (Gr e1 e3 (x:=.ref t) rfl ?_);show Fd _ _ (if (Ft t==Fl)=true then _ else _) _ _ s;rw[if_neg (show ¬ ((Ft t==Fl)=true) from Fn)]
 show Fd _ _ (Nl (.ref it) 1 >>=_) _ _ s;refine EJ (Gr e1 e3 (x:=.int i 0) rfl ?_);show Fd _ _ (J4 (.ref t) >>=_) _ _ s;refine EJ (F7 e4 e5 ?_);simp only[G3,hx];refine EJ (JZ e1 e3 (by simp) (EO ⟨x,rfl,EO (q _ ?_ (Hn ..))⟩))
 exact⟨_,FB _ e1 (J5 (G8 e3 _)),(Lc ..).trans e2,by rw[G8 e3];simp[Jw]⟩
theorem BF{it t:E1}{i:Nat}{items:Array EU}{Q:EU->ER->Prop}(hh:A.handled=none)(g:s.heap.IsTupleIter it t i)(gt:s.heap.IsTuple t items)(hx:items[i]?=none)
  (q:∀h' e,Pp it s.heap h'→(∃o,h'.get? e=some o∧o.cls=.type "StopIteration")→E (.ref e) {s with heap:=h' }):Fd (FF prog w) A (Builtin.SmallTypes.nextOf (.ref it)) Q E s:=by
 obtain⟨o,e1,e2,e3⟩:=id g;obtain⟨o2,e4,_,n,e5⟩:=gt;unfold Builtin.SmallTypes.nextOf;refine EJ (Gi (name:=Str.ofString "__next__") g.typeIs Hf (F4 Hf g.typeIs JE ?_ (Jt _)));show Fd _ _ (Nl (.ref it) 0 >>=_) _ _ s;refine EJ (Gr e1 e3 (x:=.ref t) rfl ?_);show Fd _ _ (if (Ft t==Fl)=true then _ else _) _ _ s;rw[if_neg (show ¬ ((Ft t==Fl)=true) from Fn)]
 show Fd _ _ (Nl (.ref it) 1 >>=_) _ _ s;refine EJ (Gr e1 e3 (x:=.int i 0) rfl ?_);show Fd _ _ (J4 (.ref t) >>=_) _ _ s;refine EJ (F7 e4 e5 ?_);simp only[G3,hx];refine EJ (IA (EJ (JZ e1 e3 (by simp) ?_)));show Fd _ _ (newExc (.type "StopIteration") [] >>=_) _ _ _
 refine EJ ?_;simp only[newExc,newTuple];refine EJ (GX ?_ (by size_fits))
 refine EJ (m:=KS _ _) (Lq (a:=Fl) (by simp only[KS];rfl) ?_);refine GX ?_ (by size_fits)
 simp only[raiseNew];refine EJ (wpAny_handled ?_)
 first |rw[show A.in1.handled=none from hh] |rw[hh]
 refine EJ (EO (wpAny_throw ?_));exact q _ _ (((Hn ..).extBut.push _).push _) ⟨_,E3 _ rfl,rfl⟩
theorem zR{z TI TO i1 i2 l1 l2:E1}{k1 k2:Nat}{xs ys:Array EU}{x y a b:EU}{Q:EU->ER->Prop}(D:Ij z TI TO i1 i2 l1 l2)
  (gz:Lv s.heap z TI TO .none) (gI:Hb s.heap TI (.ref i1) (.ref i2)) (gO:Hb s.heap TO a b)
  (h1:s.heap.IsTupleIter i1 l1 k1) (h2:s.heap.IsListIter i2 l2 k2) (Qk:s.heap.IsTuple l1 xs) (P7:s.heap.IsList l2 ys) (hx:xs[k1]?=some x) (hy:ys[k2]?=some y)
  (hQ:∀h',Lv h' z TI TO (Jw s.heap.objs.size)->Hb h' TO x y->h'.IsTupleIter i1 l1 (k1+1)->h'.IsListIter i2 l2 (k2+1)->Hb h' s.heap.objs.size x y->h'.objs.size=s.heap.objs.size+1->
   (∀d o,d≠z->d≠TO->d≠i1->d≠i2->s.heap.get? d=some o->h'.get? d=some o)->Q (.ref s.heap.objs.size) {s with heap:=h' }):
  Fd (FF prog w) A (Builtin.«zip.__next__» ⟨[.ref z],[]⟩) (λP4 s'=>∃v,P4=.done (.ret v)/\Q v s') E s:=by
 show Fd _ _ (Nl (.ref z) 2 >>=_) _ _ _;refine EJ (Gr gz rfl (x:=.bool false) rfl ?_);show Fd _ _ (Nl (.ref z) 3 >>=_) _ _ _;refine EJ (Gr gz rfl (x:=.ref TI) rfl ?_);refine EJ (F7 gI rfl ?_);show Fd _ _ (Builtin.SmallTypes.ownedTupleIsFree (.ref z) >>=_) _ _ _;refine EJ ?_;unfold Builtin.SmallTypes.ownedTupleIsFree;refine EJ (Gr gz rfl (x:=.none) rfl (EO ?_));simp only[if_true];refine EJ (IA ?_);refine EJ (Gr gz rfl (x:=.ref TO) rfl ?_);refine EJ (HX gz (by simp) λhp1 gz1 Rl=>?_);replace gz1:Lv hp1 z TI TO .ellipsis:=gz1
 refine EJ ?_;simp only[NI,N3,Ht,Ic];refine EJ (EJ (M6 ?_));show Fd _ _ (Builtin.SmallTypes.nextOf (.ref i1) >>=_) _ _ _;refine EJ (zM (h1.extBut Rl.extBut D.i1z) (Qk.extBut Rl.extBut D.l1z) hx λhp2 h12 Qq=>EO ?_)
 have gO2:Hb hp2 TO a b:=Qq.extBut _ _ D.TOi1 (Rl.extBut _ _ D.TOz gO);refine EJ (F7 gO2 rfl ?_);refine EJ (MD gO2 λhp3 gO3 Rq=>?_)
 replace gO3:Hb hp3 TO x b:=gO3
 refine EJ (HN (EO ?_));refine EJ (EJ (M6 ?_));show Fd _ _ (Builtin.SmallTypes.nextOf (.ref i2) >>=_) _ _ _
 refine EJ (IC (((h2.extBut Rl.extBut D.i2z).extBut Qq.extBut D.i12.symm).extBut Rq.extBut D.TOi2.symm)
  (((P7.extBut Rl.extBut D.l2z).extBut Qq.extBut D.l2i1).extBut Rq.extBut D.l2TO) hy λhp4 h24 hs4=>EO ?_)
 have gO4:Hb hp4 TO x b:=hs4.extBut _ _ D.TOi2 gO3;refine EJ (F7 gO4 rfl ?_);refine EJ (MD gO4 λRr gO7 hs7=>?_)
 replace gO7:Hb Rr TO x y:=gO7
 refine EJ (HN (EO (EO ?_)));refine EJ (F7 gO7 rfl ?_);refine EJ (KZ ?_);have Qr:Rr.objs.size=s.heap.objs.size:=by rw[hs7.1,hs4.1,Rq.1,Qq.1,Rl.1]
 have all:∀d o,d≠z->d≠TO->d≠i1->d≠i2->s.heap.get? d=some o->Rr.get? d=some o:=λd o c1 c2 c3 c4 e=>
  hs7.extBut _ _ c2 (hs4.extBut _ _ c4 (Rq.extBut _ _ c2 (Qq.extBut _ _ c3 (Rl.extBut _ _ c1 e))))
 have gz7:Lv Rr z TI TO .ellipsis:=hs7.extBut _ _ D.TOz.symm (hs4.extBut _ _ D.i2z.symm (Rq.extBut _ _ D.TOz.symm (Qq.extBut _ _ D.i1z.symm gz1)));have h17:Rr.IsTupleIter i1 l1 (k1+1):=((h12.extBut Rq.extBut D.TOi1.symm).extBut hs4.extBut D.i12).extBut hs7.extBut D.TOi1.symm;have h27:Rr.IsListIter i2 l2 (k2+1):=h24.extBut hs7.extBut D.TOi2.symm;have zlt:z<Rr.objs.size:=EZ gz7;show Fd _ _ (Builtin.SmallTypes.ownedTupleHandOut (.ref z) (.ref Rr.objs.size) >>=_) _ _ _;refine EJ ?_;unfold Builtin.SmallTypes.ownedTupleHandOut;have gz8:Lv (Rr.push {cls:=.type "tuple",data:=.seq #[x,y] }) z TI TO .ellipsis:=EN _ gz7;refine EJ (HX gz8 (by simp) λhp9 gz9 hs9=>?_);replace gz9:Lv hp9 z TI TO (Jw Rr.objs.size):=gz9
 refine HX gz9 (by simp) λhpA gzA hsA=>?_
 replace gzA:Lv hpA z TI TO (Jw Rr.objs.size):=gzA
 have up:∀d o,d≠z->Rr.get? d=some o->hpA.get? d=some o:=λd o c1 e=>hsA.extBut _ _ c1 (hs9.extBut _ _ c1 (EN _ e))
 have gT:Hb hpA Rr.objs.size x y:=hsA.extBut _ _ (Hs zlt) (hs9.extBut _ _ (Hs zlt) (E3 _ rfl));have szA:hpA.objs.size=Rr.objs.size+1:=by rw[hsA.1,hs9.1,Gb]
 rw[Qr]at gzA gT szA;refine EO ⟨_,rfl,?_⟩;show Q (.ref Rr.objs.size) _;rw[Qr];exact hQ hpA gzA (up _ _ D.TOz gO7) (h17.at λo e=>up _ o D.i1z e) (h27.at λo e=>up _ o D.i2z e) gT szA λd o c1 c2 c3 c4 e=>up d o c1 (all d o c1 c2 c3 c4 e)
theorem Bz{z TI TO i1 i2 l1:E1}{k1:Nat}{xs:Array EU}{Q:M3->ER->Prop}(hh:A.handled=none)(ne1:i1≠z)(ne2:l1≠z)
  (gz:Lv s.heap z TI TO .none) (gI:Hb s.heap TI (.ref i1) (.ref i2)) (h1:s.heap.IsTupleIter i1 l1 k1) (Qk:s.heap.IsTuple l1 xs) (hx:xs[k1]?=none)
  (hE:∀h' e,(∀d o,d≠z→d≠i1→s.heap.get? d=some o→h'.get? d=some o)→(∃o,h'.get? e=some o∧o.cls=.type "StopIteration")→E (.ref e) {s with heap:=h' }):
  Fd (FF prog w) A (Builtin.«zip.__next__» ⟨[.ref z],[]⟩) Q E s:=by
 show Fd _ _ (Nl (.ref z) 2 >>=_) _ _ _;refine EJ (Gr gz rfl (x:=.bool false) rfl ?_);show Fd _ _ (Nl (.ref z) 3 >>=_) _ _ _;refine EJ (Gr gz rfl (x:=.ref TI) rfl ?_);refine EJ (F7 gI rfl ?_);show Fd _ _ (Builtin.SmallTypes.ownedTupleIsFree (.ref z) >>=_) _ _ _;refine EJ ?_;unfold Builtin.SmallTypes.ownedTupleIsFree;refine EJ (Gr gz rfl (x:=.none) rfl (EO ?_));simp only[if_true];refine EJ (IA ?_);refine EJ (Gr gz rfl (x:=.ref TO) rfl ?_);refine EJ (HX gz (by simp) λhp1 gz1 Rl=>?_);replace gz1:Lv hp1 z TI TO .ellipsis:=gz1
 refine EJ ?_;simp only[NI,N3,Ht,Ic];refine EJ (EJ (M6 ?_));show Fd _ _ (Builtin.SmallTypes.nextOf (.ref i1) >>=_) _ _ _;refine EJ (BF hh (h1.extBut Rl.extBut ne1) (Qk.extBut Rl.extBut ne2) hx λhp2 e Qq he=>?_)
 obtain⟨oe,hoe,hce⟩:=he;have gz2:Lv hp2 z TI TO .ellipsis:=Qq _ _ ne1.symm gz1;have ez:e≠z:=λq=>by subst q;rw[gz2]at hoe;cases hoe;simp at hce
 refine HX gz2 (by simp) λhp3 _ Rq=>hE hp3 e (λd o c1 c3 q=>Rq.extBut _ _ c1 (Qq _ _ c3 (Rl.extBut _ _ c1 q))) ⟨oe,Rq.extBut _ _ ez hoe,hce⟩
theorem next_zt_item{z TI TO i1 i2 l1 l2:E1}{k1 k2:Nat}{xs ys:Array EU}{x y a b:EU}{Q:Option EU->ER->Prop}(D:Ij z TI TO i1 i2 l1 l2)
  (gz:Lv s.heap z TI TO .none) (gI:Hb s.heap TI (.ref i1) (.ref i2)) (gO:Hb s.heap TO a b)
  (h1:s.heap.IsTupleIter i1 l1 k1) (h2:s.heap.IsListIter i2 l2 k2) (Qk:s.heap.IsTuple l1 xs) (P7:s.heap.IsList l2 ys) (hx:xs[k1]?=some x) (hy:ys[k2]?=some y)
  (hQ:∀h',Lv h' z TI TO (Jw s.heap.objs.size)->Hb h' TO x y->h'.IsTupleIter i1 l1 (k1+1)->h'.IsListIter i2 l2 (k2+1)->Hb h' s.heap.objs.size x y->h'.objs.size=s.heap.objs.size+1->
   (∀d o,d≠z->d≠TO->d≠i1->d≠i2->s.heap.get? d=some o->h'.get? d=some o)->Q (some (.ref s.heap.objs.size)) {s with heap:=h' }):
  Fd (FF prog w) A (Iy (.ref z)) Q E s:=by
 have hT:s.TypeIs (.ref z) "zip":=⟨_,gz,rfl⟩;unfold Iy
 exact EJ (IZ (Gi (name:=Str.ofString "__next__") hT Gc (F4 Gc hT HP
   (zR D gz gI gO h1 h2 Qk P7 hx hy λh' a1 a2 a3 a4 a5 a6 a7=>EO (hQ h' a1 a2 a3 a4 a5 a6 a7)) (HB _))))
theorem next_zt_end{z TI TO i1 i2 l1:E1}{k1:Nat}{xs:Array EU}{Q:Option EU->ER->Prop}(hh:A.handled=none)(ne1:i1≠z)(ne2:l1≠z)
  (gz:Lv s.heap z TI TO .none) (gI:Hb s.heap TI (.ref i1) (.ref i2)) (h1:s.heap.IsTupleIter i1 l1 k1) (Qk:s.heap.IsTuple l1 xs) (hx:xs[k1]?=none)
  (hQ:∀h',(∀d o,d≠z->d≠i1->s.heap.get? d=some o->h'.get? d=some o)->Q none {s with heap:=h' }):Fd (FF prog w) A (Iy (.ref z)) Q E s:=by
 have hT:s.TypeIs (.ref z) "zip":=⟨_,gz,rfl⟩;unfold Iy
 refine EJ (IZ (Gi (name:=Str.ofString "__next__") hT Gc (F4 Gc hT HP
  (Bz hh ne1 ne2 gz gI h1 Qk hx λh' e hk he=>?_) (HB _))))
 obtain⟨o,ho,hc⟩:=he;refine EJ (Ha (b:=true) (T:="StopIteration") ⟨o,ho,hc⟩ KU ?_);exact EO (hQ _ hk)
end
abbrev yY(h:Gz)(l1:E1):Gz:=h.push {cls:=.type "tuple_iterator",data:=.fields #[.ref l1,.int 0 0] }
abbrev zO(h:Gz)(l1 l2:E1):Gz:=(yY h l1).push {cls:=.type "list_iterator",data:=.fields #[.ref l2,.int 0 0] }
abbrev AM(h:Gz)(l1 l2:E1):Gz:=(zO h l1 l2).push {cls:=.type "tuple",data:=.seq #[.ref h.objs.size,.ref (yY h l1).objs.size] }
abbrev zH(h:Gz)(l1 l2:E1):Gz:=(AM h l1 l2).push {cls:=.type "tuple",data:=.seq #[.none,.none] }
abbrev qH(h:Gz)(l1 l2:E1):Gz:=(zH h l1 l2).push {cls:=.type "zip",data:=.fields #[.none,.bool false,.bool false,.ref (zO h l1 l2).objs.size,.ref (AM h l1 l2).objs.size] }
theorem v_(l1 l2:E1)(xs ys:Array EU):
  Meets (Builtin.«zip.__new__» ⟨[.type "zip",.ref l1,.ref l2],[]⟩) (λ_ R s=>s.heap.IsTuple l1 xs∧s.heap.IsList l2 ys∧
   R (.ok (.ret (.ref (zH s.heap l1 l2).objs.size))) {s with heap:=qH s.heap l1 l2 }):=
 .of_wp λprog w A R s h=>by
  obtain⟨hp,g,d,tk,os⟩:=s;obtain⟨Qk,P7,h⟩:=h;have hsub:=sub_zip;have hL1:Heap.IsTuple (Pq ⟨hp,g,d,tk,os⟩) l1 xs:=Qk;have hL2:Heap.IsList (Pq ⟨hp.push {cls:=.type "tuple_iterator",data:=.fields #[.ref l1,.int 0 0] },g,d,tk,os⟩) l2 ys:=Pz P7 _
  wp_walk using MR hL1,GV hL2
  exact⟨_,rfl,h⟩
section
variable {prog:E2}{w:Fs}{A:Fq}{s:ER}
theorem call_zt{l1 l2:E1}{xs ys:Array EU}{Q:EU->ER->Prop}(Qk:s.heap.IsTuple l1 xs)(P7:s.heap.IsList l2 ys)
  (h:∀h',Lv h' (s.heap.objs.size+4) (s.heap.objs.size+2) (s.heap.objs.size+3) .none->Hb h' (s.heap.objs.size+2) (.ref s.heap.objs.size) (.ref (s.heap.objs.size+1))->
   Hb h' (s.heap.objs.size+3) .none .none->h'.IsTupleIter s.heap.objs.size l1 0->h'.IsListIter (s.heap.objs.size+1) l2 0->h'.objs.size=s.heap.objs.size+5->
   (∀c o,s.heap.get? c=some o->h'.get? c=some o)->Q (.ref (s.heap.objs.size+4)) {s with heap:=h' }):
  Fd (FF prog w) A (call (.type "zip") [.ref l1,.ref l2]) Q E s:=by
 refine callType_new PySem.F.called_zip (by decide) (PySem.F.typeCall_zip_2 _ _) (PySem.F.newCall_zip_2 _ _) (λo=>PySem.F.args_object_init_3 o _ _) PySem.F.entry_zip_new (v_ l1 l2 xs ys) ⟨Qk,P7,?_⟩
 have z1:(yY s.heap l1).objs.size=s.heap.objs.size+1:=Gb ..;have z2:(zO s.heap l1 l2).objs.size=s.heap.objs.size+2:=by rw[Gb,z1]
 have z3:(AM s.heap l1 l2).objs.size=s.heap.objs.size+3:=by rw[Gb,z2]
 have z4:(zH s.heap l1 l2).objs.size=s.heap.objs.size+4:=by rw[Gb,z3]
 have z5:(qH s.heap l1 l2).objs.size=s.heap.objs.size+5:=by rw[Gb,z4]
 have up:∀{h:Gz}{o o2:Obj}{c:E1},h.get? c=some o2->(h.push o).get? c=some o2:=λq=>EN _ q
 have g5:(qH s.heap l1 l2).get? (zH s.heap l1 l2).objs.size=some _:=E3 _ rfl;have g4:(qH s.heap l1 l2).get? (AM s.heap l1 l2).objs.size=some _:=up (E3 _ rfl);have g3:(qH s.heap l1 l2).get? (zO s.heap l1 l2).objs.size=some _:=up (up (E3 _ rfl));have g2:(qH s.heap l1 l2).get? (yY s.heap l1).objs.size=some _:=up (up (up (E3 _ rfl)));have g1:(qH s.heap l1 l2).get? s.heap.objs.size=some _:=up (up (up (up (E3 _ rfl))));show _/\_;rw[z2,z3,z4]at g5;rw[z1,z2]at g3;rw[z3]at g4;rw[z1]at g2;rw[z4];exact⟨⟨_,g5,rfl⟩,h _ g5 g3 g4 ⟨_,g1,rfl,rfl⟩ ⟨_,g2,rfl,rfl⟩ z5 λc o x=>up (up (up (up (up x))))⟩
end
end ST
namespace L2
open PySem PySem.Spec PyProof.Rows
def D_(K:EL)(l1 l2:E1):It:=
 ⟨λi H=>∃xs ys x y,SqT K H l1 xs/\SqL K H l2 ys/\xs[i]?=some x/\ys[i]?=some y,
  λi H u H'=>∃p x y,u=.ref p/\H p=none/\H'=upd H p (.tup [x,y])/\(∀xs,SqT K H l1 xs->xs[i]?=some x)/\(∀ys,SqL K H l2 ys->ys[i]?=some y),
  λi H=>∃xs ys,SqT K H l1 xs/\SqL K H l2 ys/\xs.length<=i⟩
theorem z_{P:E2}{w:Fs}{K:EL}{es:List Expr}{ctx pos}(z TI TO i1 i2 l1 l2:E1)(D:Ij z TI TO i1 i2 l1 l2):
  pY P w K (.Tuple es ctx pos) (D_ K l1 l2) [z,TI,TO,i1,i2] z (λi h=>Lv h z TI TO .none/\Hb h TI (.ref i1) (.ref i2)/\(∃a b,Hb h TO a b)/\h.IsTupleIter i1 l1 i/\h.IsListIter i2 l2 i) where
 mem:=by simp
 obj:=λi h st b hb=>by
  obtain⟨gz,gI,⟨a,c,gO⟩,h1,h2⟩:=st;simp only[ET,Fm,or_false]at hb;rcases hb with e |e |e |e |e <;>subst e
  ·exact⟨_,gz,λv z=>by cases z⟩
  ·exact⟨_,gI,λv z=>by cases z⟩
  ·exact⟨_,gO,λv z=>by cases z⟩
  ·obtain⟨o,e,_,d⟩:=h1;exact⟨o,e,λv z=>by rw[d]at z;cases z⟩
  ·obtain⟨o,e,_,d⟩:=h2;exact⟨o,e,λv z=>by rw[d]at z;cases z⟩
 keep:=λi h h' st k=>by
  obtain⟨gz,gI,⟨a,c,gO⟩,h1,h2⟩:=st;exact⟨k z (by simp) _ gz,k TI (by simp) _ gI,⟨a,c,k TO (by simp) _ gO⟩,h1.at λo e=>k i1 (by simp) o e,h2.at λo e=>k i2 (by simp) o e⟩
 item:=by
  intro X hP hw hK hc i pins s σ H E I hf st hg;subst hP hw hK;obtain⟨gz,gI,⟨a,b,gO⟩,h1,h2⟩:=st;obtain⟨xs,ys,x,y,q1,q2,e1,e2⟩:=hg;obtain⟨n1,r1,p1,_⟩:=I.tuple q1;obtain⟨n2,r2,p2,_⟩:=I.list q2;obtain⟨u1,k1,t1⟩:=r1.get e1;obtain⟨u2,k2,t2⟩:=r2.get e2;refine ST.next_zt_item D gz gI gO h1 h2 (show s.heap.IsTuple l1 n1.toArray from p1) p2.isList (x:=u1) (y:=u2) (by simpa using k1) (by simpa using k2) λh' a1 a2 a3 a4 a5 a6 kp=>?_
  refine⟨_,rfl,?_⟩;refine K1 (s:={s with heap:=h' }) a1 λhN b1 sb=>?_
  have nz:s.heap.objs.size≠z:=Hs (EZ gz);have tri:Hb hN s.heap.objs.size u1 u2:=(sb.2 _ nz).trans a5;have fresh:H s.heap.objs.size=none:=I.hok.fresh (EX _)
  have nf:s.heap.objs.size ∉ [z,TI,TO,i1,i2]:=λhb=>by
   have key:∀{d o},s.heap.get? d=some o->s.heap.objs.size≠d:=λe=>Hs (EZ e)
   simp only[ET,Fm,or_false]at hb;rcases hb with e |e |e |e |e
   ·exact key gz e
   ·exact key gI e
   ·exact key gO e
   ·obtain⟨o,q,_⟩:=h1;exact key q e
   ·obtain⟨o,q,_⟩:=h2;exact key q e
  refine⟨.ref s.heap.objs.size,upd H s.heap.objs.size (.tup [x,y]),ua (s:=s) (h':=hN) (t':=s.toks) I hf (λd o hd e=>?_) (EX _) ⟨by show 2<=sizeLine;decide,[u1,u2],.cons t1 (.cons t2 .nil),⟨_,tri,rfl,_,rfl⟩⟩,rfl,
   ⟨_,x,y,rfl,fresh,rfl,λzs q=>by rw[I.tuple_inj q q1];exact e1,λzs q=>by rw[I.list_inj q q2];exact e2⟩,?_,λd hd=>?_⟩
  ·simp only[ET,Fm,or_false,not_or]at hd;obtain⟨d1,d2,d3,d4,d5⟩:=hd;exact (sb.2 d d1).trans (kp d o d1 d3 d4 d5 e)
  ·have up:∀d o,d≠z->h'.get? d=some o->hN.get? d=some o:=λd o n e=>(sb.2 d n).trans e
   exact⟨b1,up _ _ D.TIz (kp _ _ D.TIz D.TITO D.TIi1 D.TIi2 gI),⟨_,_,up _ _ D.TOz a2⟩,a3.at λo e=>up _ o D.i1z e,a4.at λo e=>up _ o D.i2z e⟩
  ·rw[aT λe=>nf (by rw[<-e];exact hd)]
   exact (hf d hd).1
 done:=by
  intro X hP hw hK hc i pins s σ H E I hf st hg;subst hP hw hK;obtain⟨gz,gI,⟨a,b,gO⟩,h1,h2⟩:=st;obtain⟨xs,ys,q1,q2,hl⟩:=hg;obtain⟨n1,r1,p1,_⟩:=I.tuple q1;obtain⟨n2,r2,p2,_⟩:=I.list q2;have e1:=r1.length;refine ST.next_zt_end (I.ok.hd hc) D.i1z D.l1z gz gI h1 (show s.heap.IsTuple l1 n1.toArray from p1) (by simp;lia) λh' kp=>⟨rfl,tF (t':=s.toks) I hf λd o hd e=>?_⟩
  simp only[ET,Fm,or_false,not_or]at hd;exact kp d o (by simp_all) (by simp_all) e
 self:=λ_ _ _ _ _ st h=>Kd st.1 h
theorem C6{K:EL}{H:Hp}{v:V}{x:U}{xs:List U}(rp:Rp K H v x)(hx:x=.tup xs):∃a vs,v=.ref a/\SqT K H a vs/\Rps K H vs xs:=by
 subst hx;cases rp with
 | @tup a ws _ hq hl hh=>exact⟨a,ws,rfl,hq,⟨hl,hh⟩⟩
section
variable {X:Cx}{H0:Hp}{O0:List E1}{E:XK}{ps:PSt}{D:PD}{Qc:List Hr}{e f g tg iter:Expr}{es:List Expr}{p pos:Pos}{x y z:U}{xs ys zs us:List U}
theorem qJ{ctx RA}(hg:Gl X "zip")(hm:X.mg "zip"=none)(ha:Ev X H0 O0 ps e x)(hx:x=.tup xs)(hb:Ev X H0 O0 ps f y)(hy:y=.lst ys∨y=.scr ys)
  (l12:xs.length=ys.length) (he:E4 [e,f] X.env=(false,HE e X.env)::E4 [f] X.env) (hf:E4 [f] X.env=(false,HE f X.env)::E4 [] X.env):
  EvZ X H0 O0 ps (.Tuple es ctx RA) (.Call (.Name "zip" p) [e,f] [] pos) (d9 xs ys):=by
 rintro pins s σ H Q I ⟨O,R,q⟩;refine Gh (ca I hg hm jF ?_)
 refine callWith_type1 (thn (ci ha (ci hb eP hf) he pos pins s σ H (λvs H1=>∃v u,vs=[v,u]/\aJ H H1/\Rp X.K (hid H1 O) v x/\Rp X.K (hid H1 O) u y) I
  ⟨O,R,λv H1 s1 r1=>⟨O,R.go s1,λu H2 s2 r2=>⟨v,u,rfl,s1.trans s2,r1.same (aC s2),r2⟩⟩⟩) λus s1 Q9=>?_) he (by rw[hf];rfl)
 obtain⟨vs,H1,I1,rv,v,u,rfl,sm,rp1,rp2⟩:=Q9;obtain⟨w1,w2,rfl,ru1,ru2⟩:=gG rv;obtain⟨a,va,rfl,Ra,S0⟩:=C6 rp1 hx;obtain⟨b,vb,rfl,Qe,S1⟩:=rh rp2 hy;cases ru1;cases ru2;obtain⟨ia,ra,Qx,hz1⟩:=I1.tuple (ax.tup Ra);obtain⟨ib,rb,P6,hz2⟩:=I1.list (ax.seq Qe);have l1:=S0.len;have l2:=S1.len;have al:@LT.lt Nat instLTNat a s1.heap.objs.size:=by obtain⟨o,ho,_⟩:=Qx;exact EZ ho
 have bl:@LT.lt Nat instLTNat b s1.heap.objs.size:=by obtain⟨o,ho,_⟩:=P6.isList;exact EZ ho
 refine ST.call_zt (show s1.heap.IsTuple a ia.toArray from Qx) P6.isList λh' g1 g2 g3 g4 g5 g7 g8=>?_
 have D:Ij (s1.heap.objs.size+4) (s1.heap.objs.size+2) (s1.heap.objs.size+3) s1.heap.objs.size (s1.heap.objs.size+1) a b:=by constructor <;>exact qX (by lia)
 refine Kd (s:={s1 with heap:=h' }) g1 ?_
 have I2:Inv X pins σ H1 {s1 with heap:=h' }:=I1.kept (t':=s1.toks) g8
 refine⟨s1.heap.objs.size+4,_,_,_,H1,rfl,I2,z_ _ _ _ _ _ a b D,⟨g1,g2,⟨_,_,g3⟩,g4,g5⟩,λd hd=>?_,q _ H1 sm λH2 s2=>?_⟩
 ·have ge:s1.heap.objs.size<=d:=by
   simp only[ET,Fm,or_false]at hd;rcases hd with e |e |e |e |e <;>rw[e] <;>first |exact NH _ _ |exact EX _
  exact I1.fpOk ge (I1.hok.fresh ge)
 ·rw[iH l12];refine⟨λi hi=>?_,⟨va,vb,s2.tup Ra,s2.seq Qe,by lia⟩⟩
  have h1:i<va.length:=by lia
  have h2:i<vb.length:=by lia
  refine⟨⟨va,vb,va[i],vb[i],s2.tup Ra,s2.seq Qe,EK h1,EK h2⟩,?_⟩;rintro _ H3 ⟨pp,x1,y1,rfl,nn,rfl,e1,e2⟩;have sm2:aJ H2 (upd H2 pp (.tup [x1,y1])):=aM nn _;have m1:xs[i]?=some (xs[i]'(by lia)):=EK (by lia)
  have m2:ys[i]?=some (ys[i]'(by lia)):=EK (by lia)
  refine⟨sm2,_,jL m1 m2,λO2 hO sG=>?_⟩
  have all:Rps X.K (hid (upd H2 pp (.tup [x1,y1])) O2) [x1,y1] [_,_]:=
   .cons ((S0.at_ i _ _ (e1 _ (s2.tup Ra)) m1).same (sG.trans (aC sm2))) (.cons ((S1.at_ i _ _ (e2 _ (s2.seq Qe)) m2).same (sG.trans (aC sm2))) .nil)
  exact .tup (SqT.of (cS aK λhp=>hO pp hp nn)) all.len all.at_
variable {cond:Expr}{fs:List (Option U)}
theorem oN{is:List Nat}{g:TG}{f:PSt->U->PSt}{dom:U->Prop}{σ:St}{H1:Hp}{O:List E1}{Q:VK}{J:It}{tt:TT}{te:TE}(hg:GOk g X.K is f dom)(R1:Rs X.K H0 O0 ps σ H1 O)(Y:Yz X.K J (hid H1 O) xs)(PL:fs.length=xs.length)(hz:xs.length<=sizeLine)(Qu:∀x∈xs,dom x)
  (htt:∀(i:Nat) (x:U) (o:Option U) (σ:St) (H:Hp) (O':List E1) (Q:Bool->Hp->Prop),xs[i]?=some x->fs[i]?=some o->Rs X.K H0 O0 (f (cu is ps) x) σ H O'->(∀H',aJ H H'->Q o.isSome H')->tt σ H Q)
  (Rb:∀(i:Nat) (x y:U) (σ:St) (H:Hp) (O':List E1) (Q:VK),xs[i]?=some x->fs[i]?=some (some y)->Rs X.K H0 O0 (f (cu is ps) x) σ H O'->(∀v H',aJ H H'->Rp X.K (hid H' O') v y->Q v H')->te σ H Q)
  (P4:∀a vs H',aJ H1 H'->H1 a=none->H' a=some (.lst vs)->Rps X.K (hid H' (a::O)) vs (fs.filterMap id)->Q (.ref a) H'):qW is g tt te σ Q J H1:=by
 intro l hl;refine⟨λi m H2=>m=xs.length-i/\i<=xs.length/\aJ H1 H2/\∃vs,H2 l=some (.lst vs)/\vs.length<=i/\Rps X.K (hid H2 (l::O)) vs ((fs.take i).filterMap id),⟨_,rfl,FX _,aM hl _,[],aK,EX _,by rw[JX];exact .nil⟩,?_⟩
 rintro i m H2 ⟨rfl,hi,s2,vs,h2,hv,rs⟩;have seen:aJ (hid H1 O) (hid H2 (l::O)):=bn s2 hl;obtain⟨y1,y2⟩:=Y H2 (seen.trans ax);by_cases PU:i<xs.length
 ·obtain⟨g1,g2⟩:=y1 i PU;refine .inr ⟨g1,λx H3 y=>?_⟩
  obtain⟨s3,u,hu,r⟩:=g2 x H3 y;have R2:=((R1.mask (is:=is)).hide s2 hl (by rw[h2];intro z;cases z)).go s3
  have h3:=s3 _ _ h2;refine hg H0 O0 _ _ H3 (l::O) x u _ (Qu u (E9 hu)) R2 (r (l::O) (λb hb z=>by rcases ET.mp hb with k |k;(rw[k,h2]at z;cases z);exact R1.dom b k (s2.free z)) seen) λRk R4 keep=>?_
  obtain⟨o,ho⟩:∃o,fs[i]?=some o:=⟨_,EK (by lia)⟩
  refine htt i u o Rk H3 (l::O) _ hu ho R4 λH5 s5=>⟨λj w e=>keep j w (fg is σ j w e).2 e,?_⟩
  cases o with
  |none=>
   refine m_ ⟨xs.length-(i+1),by lia,rfl,PU,(s2.trans s3).trans s5,vs,s5 _ _ h3,by lia,?_⟩
   rw[GO,ho,JA,IL];simpa using (rs.same (aC s3)).same (aC s5)
  |some yv=>
   refine nj (Rb i u yv Rk H5 (l::O) _ hu ho (R4.go s5) λv H6 s6 r6=>⟨vs,s6 _ _ (s5 _ _ h3),?_,xs.length-(i+1),by lia,rfl,PU,(((s2.trans s3).trans s5).trans s6).put hl _,vs++[v],aK,by simp;lia,?_⟩)
   ·lia
   ·rw[iu EY,GO,ho,JA,IL];exact (((rs.same (aC s3)).same (aC s5)).same (aC s6)).snoc (.cons r6 .nil)
 ·have e:i=xs.length:=by lia
  subst e;rw[<-PL,GQ]at rs;exact .inl ⟨y2,P4 l vs H2 s2 hl h2 rs⟩
theorem xB{Ql:Expr}{PF:Ju}{cl:List (Str×E1)}{is:List Nat}{g:TG}{f:PSt->U->PSt}{dom:U->Prop}(fs:List (Option U))(hc:X.calm=true)(B:cF X PF cl is)(hi:EvZ X H0 O0 ps tg iter xs)(hg:∀C s H fp,PG (aA X PF cl C s H fp) tg g)(gk:GOk g X.K is f dom)
  (PL:fs.length=xs.length) (hz:xs.length<=sizeLine) (Qu:∀x∈xs,dom x) (ht:∀C s H fp (i:Nat) (x:U) (o:Option U),xs[i]?=some x->fs[i]?=some o->Tt (aA X PF cl C s H fp) H0 O0 (f (cu is ps) x) cond o.isSome)
  (he:∀C s H fp (i:Nat) (x y:U),xs[i]?=some x->fs[i]?=some (some y)->Ev (aA X PF cl C s H fp) H0 O0 (f (cu is ps) x) Ql y)
  (hs:∀x,Gg iter X.env x=pure x:=by intro _;rfl):EvN X H0 O0 ps (.ListComp Ql [⟨tg,iter,[cond],0⟩] PF pos) (fs.filterMap id):=by
 have Rb:∀C s H fp,PE (aA X PF cl C s H fp) Ql λσ H Q=>∃i x y,xs[i]?=some x/\fs[i]?=some (some y)/\∃O',Rs X.K H0 O0 (f (cu is ps) x) σ H O'/\∀v H',aJ H H'->Rp X.K (hid H' O') v y->Q v H':=
  λC s H fp pins s' σ H' Q I ⟨i,x,y,h1,h2,z⟩=>he C s H fp i x y h1 h2 pins s' σ H' Q I z
 have htt:∀C s H fp,PT (aA X PF cl C s H fp) cond λσ H Q=>∃(i:Nat) (x:U) (o:Option U),xs[i]?=some x/\fs[i]?=some o/\∃O',Rs X.K H0 O0 (f (cu is ps) x) σ H O'/\∀H',aJ H H'->Q o.isSome H':=
  λC s H fp pins s' σ H' Q I ⟨i,x,o,h1,h2,z⟩=>ht C s H fp i x o h1 h2 pins s' σ H' Q I z
 refine PE.mono (nY hc B hi hg htt Rb hs) λσ H Q ⟨O,R,q⟩=>⟨O,R,λJ H1 s1 Y=>?_⟩
 exact oN gk (R.go s1) Y PL hz Qu (λi x o σ H O' Q h1 h2 R' z=>⟨i,x,o,h1,h2,O',R',z⟩) (λi x y σ H O' Q h1 h2 R' z=>⟨i,x,y,h1,h2,O',R',z⟩) λa vs H' s n h r=>q a vs H' (s1.trans s) (s1.free n) h r
end
end L2
local macro_rules | `(tactic|walk_at"sz")=>`(tactic|first |with_reducible assumption | ((with_reducible apply L2.Sz.sub') <;>walk_at"sz") | ((with_reducible apply L2.Sz.add') <;>walk_at"sz") | ((with_reducible apply L2.Sz.mul) <;>walk_at"sz") | ((with_reducible apply L2.Sz.neg) <;>walk_at"sz") | ((with_reducible apply L2.Sz.ediv) <;>walk_at"sz") | ((with_reducible apply L2.Sz.abs) <;>walk_at"sz") |exact L2.Sz.lit (m:=8) (by decide) |exact L2.Sz.emod (m:=250) (by decide) (by decide) |exact L2.Sz.lit (m:=250) (by decide))
local macro_rules | `(tactic|walk_at"mul")=>`(tactic|exact L2.Sz.ok (by walk_at"sz") (by walk_at"sz") (by decide))
local macro_rules | `(tactic|walk_at"div")=>`(tactic|first |exact⟨by decide,L2.Sz.mono (m:=250) (by decide) (by decide)⟩ |exact⟨by lia,L2.Sz.mono (by walk_at"sz") (by decide)⟩)
local macro_rules | `(tactic|walk_at"mod")=>`(tactic|first |decide |lia)
local macro_rules | `(tactic|walk_at"szb")=>`(tactic|exact L2.Sz.mono (by walk_at"sz") (by decide))
local macro_rules | `(tactic|walk_at"kit")=>`(tactic|first |exact L2.kit_int_int _ |exact L2.kit_int_bool _ |exact L2.kit_tuple_tuple _ |exact L2.kit_list_list _ |exact L2.kit_bool_int _ |exact L2.kit_list_tuple _ |rfl)
local macro_rules | `(tactic|walk_at"ok")=>`(tactic|first |rfl |decide)
local macro_rules | `(tactic|walk_at"sub")=>`(tactic|first |exact trivial | (refine⟨rfl,?_⟩;walk_at"sub") | (with_reducible apply L2.SubP.skip;walk_at"sub"))
local macro_rules | `(tactic|walk_at"len")=>`(tactic|first |decide | (simp only[List.length_append,List.length_cons,List.length_nil,List.length_map];decide))
namespace My
open PySem PySem.Spec PyProof.Rows L2
def top(i:Nat):Hr:=PySem.Challenge.pw_stakefield_k36_whole_each_telling_is_tol.main.body.getD i (.Pass ⟨0,0,0,0⟩)
abbrev jS:Hr:=top 8
abbrev xm:Hr:=top 9
abbrev pW:Hr:=top 10
abbrev yF:Hr:=top 12
abbrev iI:Hr:=top 13
abbrev ja:Hr:=top 14
abbrev oZ:Hr:=top 15
abbrev sU:Hr:=top 16
abbrev kI:Hr:=top 17
abbrev sZ:Hr:=top 18
abbrev si:Hr:=top 19
abbrev vP:Hr:=top 21
abbrev ie:Hr:=top 22
abbrev rV:Hr:=top 23
abbrev rN:Hr:=top 24
abbrev fS:Hr:=top 25
abbrev mU:Hr:=top 26
abbrev eR:Hr:=top 27
abbrev xu:Hr:=top 28
abbrev eQ:Hr:=top 29
abbrev rH:Hr:=top 31
abbrev kj:Hr:=top 33
abbrev i7:Hr:=top 34
abbrev eH:Hr:=top 35
abbrev kL:Hr:=top 38
abbrev gA:Hr:=top 39
abbrev pH:Hr:=top 40
abbrev lL:Hr:=top 41
abbrev pz:Hr:=top 42
abbrev l4:Hr:=top 44
abbrev ud:Hr:=top 45
abbrev cR:Hr:=top 46
abbrev xG:Hr:=top 47
abbrev i9:Hr:=top 49
abbrev i6:Hr:=top 50
abbrev i0:Hr:=top 51
abbrev fQ:Hr:=top 52
abbrev l8:Hr:=top 53
abbrev iy:Hr:=top 54
abbrev hV:Hr:=top 55
abbrev iU:Hr:=top 56
abbrev i5:Hr:=top 57
abbrev ic:Hr:=top 58
abbrev iD:Hr:=top 59
abbrev gY:Hr:=top 60
abbrev eu:Hr:=top 61
abbrev iT:Hr:=top 62
abbrev A_:Hr:=top 63
theorem pJ:av ["thing"] ["thing"] (aj jS):=by walk_at"sC"
theorem Ac:av ["number"] ["number"] (aj xm):=by walk_at"sC"
theorem bF:av ["a","b","high","high_times","low","low_times","fits","rest","rest_times","s"] ["a","b"] (aj pW):=by walk_at"sC"
theorem zf:av ["move"] ["move"] (aj yF):=by walk_at"sC"
theorem jZ:av ["thing","number"] ["thing"] (aj iI):=by walk_at"sC"
theorem nD:av ["thing"] ["thing"] (aj ja):=by walk_at"sC"
theorem uz:av ["P","move"] ["P","move"] (aj oZ):=by walk_at"sC"
theorem oh:av ["P","move","place"] ["P","move"] (aj sU):=by walk_at"sC"
theorem cN:av ["move","side","a","b","c","d"] ["move"] (aj kI):=by walk_at"sC"
theorem vK:av ["P","Q"] ["P","Q"] (aj sZ):=by walk_at"sC"
theorem dP:av ["P","Q","far","u","v","parts","s","t"] ["P","Q"] (aj si):=by walk_at"sC"
theorem Ao:av ["P","Q","R"] ["P","Q","R"] (aj vP):=by walk_at"sC"
theorem eK:av ["row","kept","P"] ["row"] (aj ie):=by walk_at"sC"
theorem fR:av ["points","row","there","back"] ["points"] (aj rV):=by walk_at"sC"
theorem xq:av ["land"] ["land"] (aj rN):=by walk_at"sC"
theorem jh:av ["P","Q","R"] ["P","Q","R"] (aj fS):=by walk_at"sC"
theorem kR:av ["land","P","A","B"] ["land","P"] (aj mU):=by walk_at"sC"
theorem dQ:av ["land","A","B"] ["land"] (aj eR):=by walk_at"sC"
theorem qC:av ["land","A","B"] ["land"] (aj xu):=by walk_at"sC"
theorem fN:av ["land","move","P"] ["land","move"] (aj eQ):=by walk_at"sC"
theorem rK:av ["land","k","P"] ["land","k"] (aj rH):=by walk_at"sC"
theorem pQ:av ["land","k"] ["land","k"] (aj kj):=by walk_at"sC"
theorem nv:av ["land"] ["land"] (aj i7):=by walk_at"sC"
theorem oB:av ["land","k","many"] ["land","k"] (aj eH):=by walk_at"sC"
theorem bY:av ["land","y","begins","ends","A","B","rise","run"] ["land","y"] (aj kL):=by walk_at"sC"
theorem bT:av ["land","move","levelled","back","found","y","ends","x","P"] ["land"] (aj gA):=by walk_at"sC"
theorem vp:av ["land"] ["land"] (aj pH):=by walk_at"sC"
theorem fu:av ["row","hand","kept","cut","P"] ["row","hand"] (aj lL):=by walk_at"sC"
theorem lX:av ["land","row"] ["land"] (aj pz):=by walk_at"sC"
theorem fB:av ["piece","corners"] ["piece"] (aj l4):=by walk_at"sC"
theorem wu:av ["k","P","Q","R"] ["k","P","Q","R"] (aj ud):=by walk_at"sC"
theorem bu:av ["piece","k","P","corners","across","pairs","corner","side","pair"] ["piece","k","P"] (aj cR):=by walk_at"sC"
theorem tX:av ["land","k","P","piece"] ["land","k","P"] (aj xG):=by walk_at"sC"
theorem mG:av ["script","k"] ["script","k"] (aj i9):=by walk_at"sC"
theorem nV:av ["a","b","p"] ["a","b","p"] (aj i6):=by walk_at"sC"
theorem fE:av ["points","way","p"] ["points"] (aj i0):=by walk_at"sC"
theorem dz:av ["points","some"] ["points"] (aj fQ):=by walk_at"sC"
theorem j6:av ["land","p","k"] ["land","p"] (aj l8):=by walk_at"sC"
theorem lg:av ["thing"] ["thing"] (aj iy):=by walk_at"sC"
theorem gH:av ["piece","land","spot"] ["piece","land"] (aj hV):=by walk_at"sC"
theorem mM:av ["script"] ["script"] (aj iU):=by walk_at"sC"
theorem nM:av ["cell","x","y"] ["cell","x","y"] (aj i5):=by walk_at"sC"
theorem eO:av ["script","points","k"] ["script"] (aj ic):=by walk_at"sC"
theorem cA:av ["script","many","times_v","k","way"] ["script","many"] (aj iD):=by walk_at"sC"
theorem f9:av ["piece","times_v","spot","many"] ["piece","times_v"] (aj gY):=by walk_at"sC"
theorem ck:av ["piece","times_v","x","spot","many"] ["piece","times_v"] (aj eu):=by walk_at"sC"
theorem iF:av ["found","due","pair"] ["found","due"] (aj iT):=by walk_at"sC"
theorem fh:av ["script","land","some","piece","times_v","first","kept","more","found"] ["script"] (aj A_):=by walk_at"sC"
set_option genInjectivity false in
set_option genSizeOf false in
set_option genSizeOfSpec false in
structure Txt(w:Fs)(K:EL)(mg:Str->Option EU) where
 aaG:Dfn K mg "is_whole" jS ["thing"]
 aaU:Dfn K mg "sign" xm ["number"]
 aaE:Dfn K mg "shares" pW ["a","b"]
 aaV:Dfn K mg "hand" yF ["move"]
 aaM:Dfn K mg "is_move" iI ["thing"]
 aah:Dfn K mg "need_move" ja ["thing"]
 aaS:Dfn K mg "turned" oZ ["P","move"]
 aat:Dfn K mg "moved" sU ["P","move"]
 aaf:Dfn K mg "way_back" kI ["move"]
 aaA:Dfn K mg "steps" sZ ["P","Q"]
 aaB:Dfn K mg "level" si ["P","Q"]
 aaJ:Dfn K mg "turn" vP ["P","Q","R"]
 aag:Dfn K mg "left_bends" ie ["row"]
 aaC:Dfn K mg "field" rV ["points"]
 aap:Dfn K mg "sides" rN ["land"]
 aam:Dfn K mg "lies_between" fS ["P","Q","R"]
 aaQ:Dfn K mg "where" mU ["land","P"]
 aaq:Dfn K mg "double_area" eR ["land"]
 aa0:Dfn K mg "rim" xu ["land"]
 aar:Dfn K mg "field_moved" eQ ["land","move"]
 aaR:Dfn K mg "fold" rH ["land","k"]
 aaH:Dfn K mg "multiple" kj ["land","k"]
 aay:Dfn K mg "points_in" i7 ["land"]
 aaX:DfD K mg "count" eH ["land","k"] 1
 aaI:Dfn K mg "row_ends" kL ["land","y"]
 aaN:Dfn K mg "by_rows" gA ["land"]
 aaT:Dfn K mg "stakes" pH ["land"]
 aax:Dfn K mg "cut_off" lL ["row","hand"]
 aaF:Dfn K mg "pieces" pz ["land"]
 aaO:Dfn K mg "widened" l4 ["piece"]
 aaD:Dfn K mg "times" ud ["k","P","Q","R"]
 aan:Dfn K mg "put_together" cR ["piece","k","P"]
 aaW:Dfn K mg "told" xG ["land","k","P"]
 aaa:Dfn K mg "_law_cell" i9 ["script","k"]
 aad:Dfn K mg "_law_side" i6 ["a","b","p"]
 aai:Dfn K mg "_law_half" i0 ["points"]
 aao:Dfn K mg "_law_corners" fQ ["points"]
 aaP:Dfn K mg "_law_in" l8 ["land","p"]
 aab:Dfn K mg "_law_whole" iy ["thing"]
 aau:Dfn K mg "_law_piece" hV ["piece","land"]
 aaj:Dfn K mg "_law_ends" iU ["script"]
 aaz:Dfn K mg "_law_lean" i5 ["cell","x","y"]
 aav:Dfn K mg "_law_spots" ic ["script"]
 aaw:Dfn K mg "_law_times" iD ["script","many"]
 aas:Dfn K mg "_law_due" gY ["piece","times_v"]
 aak:Dfn K mg "_law_spot" eu ["piece","times_v"]
 aal:Dfn K mg "_law_same" iT ["found","due"]
 aa2:Dfn K mg "law" A_ ["script"]
 aa_:mg "abs"=none
 abb:mg "all"=none
 aa9:mg "bool"=none
 aba:mg "int"=none
 aac:mg "isinstance"=none
 aae:mg "len"=none
 aaK:mg "list"=none
 aa7:mg "max"=none
 aa6:mg "min"=none
 aaZ:mg "range"=none
 aa3:mg "reversed"=none
 aa8:mg "set"=none
 aaL:mg "sorted"=none
 aa4:mg "sum"=none
 aaY:mg "tuple"=none
 aa5:mg "zip"=none
 aa1:∃t,mg "MOST_STAKES"=some (.int 100 t)
section
variable {P:E2}{w:Fs}{K:EL}{mg:Str→Option EU}{base:Gz}
def sgn(n:Int):Int:=if 0<n then 1 else if n<0 then -1 else 0
def bV(b:Int):Int:=if b<0 then -b else b
theorem dj(b:Int):bV b=(b.natAbs:Int):=by unfold bV;split <;>lia
theorem iq{b:Int}(h:b≠0):0<bV b:=by unfold bV;split <;>lia
theorem dm(d b:Int):d ∣ bV b↔d ∣ b:=by
 unfold bV;split
 ·exact Lx
 ·exact Iff.rfl
theorem wk(d b:Int):bV b ∣ d↔b ∣ d:=by
 unfold bV;split
 ·exact Int.neg_dvd
 ·exact Iff.rfl
structure iX(a b high ht low lt:Int):Prop where
 hp:0<high
 lo0:0<=low
 lolt:low<high
 dv:∀d,(d ∣ high/\d ∣ low)↔(d ∣ a/\d ∣ b)
 ch:b ∣ ht*a-high
 cl:b ∣ lt*a-low
 bd:ht.natAbs*low.natAbs+lt.natAbs*high.natAbs<=b.natAbs
 hi:high.natAbs<=b.natAbs
theorem pf{a b:Int}(hb:b≠0):iX a b (bV b) 0 (a%bV b) 1:=by
 have h0:=iq hb;refine⟨h0,Im _ (by lia),Hx _ h0,λd=>?_,?_,?_,?_,by rw[dj];simp⟩
 ·rw[dm];constructor
  ·rintro ⟨h1,h2⟩;refine⟨?_,h1⟩;have e:=HZ a (bV b);rw[<-e];exact IS h2 (FY ((dm d b).mpr h1) (HI _ _))
  ·rintro ⟨h1,h2⟩;refine⟨h2,?_⟩;have e:a%bV b=a-bV b*(a/bV b):=by have:=HZ a (bV b);lia
   rw[e];exact Ks h1 (FY ((dm d b).mpr h2) (HI _ _))
 ·rw[Hc,Int.zero_sub,Lx];exact (dm b b).mpr (KI b)
 ·have e:1*a-a%bV b=bV b*(a/bV b):=by have:=HZ a (bV b);lia
  rw[e];exact FY ((dm b b).mpr (KI b)) (HI _ _)
 ·rw[dj];simp
theorem rR{a b high ht low lt:Int}(I:iX a b high ht low lt)(h:low≠0):iX a b low lt (high-high/low*low) (ht-high/low*lt)/\high-high/low*low<low:=by
 obtain⟨hp,lo0,lolt,dv,ch,cl,bd,hi⟩:=I;have hl:0<low:=by lia
 have e:=HZ high low;have r0:=Im high h;have r1:=Hx high hl;have hf:0<=high/low:=L6 (by lia) (by lia)
 have er:high-high/low*low=high%low:=by rw[J7];lia
 rw[er];refine⟨⟨hl,r0,r1,λd=>?_,cl,?_,?_,by lia⟩,r1⟩
 ·rw[<-dv d];constructor
  ·rintro ⟨h1,h2⟩;refine⟨?_,h1⟩;rw[<-e];exact IS h2 (FY h1 (HI _ _))
  ·rintro ⟨h1,h2⟩;refine⟨h2,?_⟩;rw[show high%low=high-low*(high/low) by lia]
   exact Ks h1 (FY h2 (HI _ _))
 ·have e2:(ht-high/low*lt) *a-high%low=(ht*a-high)-(high/low) *(lt*a-low):=by grind
  rw[e2];exact Ks ch (FY cl (F5 _ _))
 ·have n1:(ht-high/low*lt).natAbs<=ht.natAbs+(high/low).natAbs*lt.natAbs:=by
   have:=Int.natAbs_sub_le ht (high/low*lt);rw[JW]at this;exact this
  have n2:high.natAbs=(high%low).natAbs+low.natAbs*(high/low).natAbs:=by
   have:(high.natAbs:Int)=((high%low).natAbs+low.natAbs*(high/low).natAbs:Nat):=by
    push_cast
    rw[Jf r0,Jf hf,Jf (by lia:0<=high),Jf lo0]
    lia
   lia
  have n3:(ht-high/low*lt).natAbs*low.natAbs<=(ht.natAbs+(high/low).natAbs*lt.natAbs) *low.natAbs:=Mx _ n1;rw[n2]at bd;refine GJ ?_ bd;generalize (ht-high/low*lt).natAbs=A at *;generalize ht.natAbs=B at *;generalize lt.natAbs=C at *;generalize low.natAbs=D at *;generalize (high/low).natAbs=E at *;generalize (high%low).natAbs=F at *;grind
structure c6(a b g s t:Int):Prop where
 g0:0<=g
 eq:s*a+t*b=g
 da:g ∣ a
 db:g ∣ b
 z:b=0->t=0/\s=sgn a/\g=bV a
 nz:b≠0->0<g/\0<=s/\s<bV b/g
theorem ll(a:Int):c6 a 0 (bV a) (sgn a) 0:=by
 refine⟨by unfold bV;split <;>lia,?_,(wk a a).mpr (KI a),Pc _,λ_=>⟨rfl,rfl,rfl⟩,λh=>absurd rfl h⟩
 unfold sgn bV;split
 ·split <;>lia
 ·split
  ·lia
  ·lia
theorem xP{a b high ht lt:Int}(hb:b≠0)(I:iX a b high ht 0 lt):c6 a b high (ht%(bV b/high)) ((high-ht%(bV b/high) *a).fdiv b):=by
 obtain⟨hp,lo0,lolt,dv,ch,cl,bd,hi⟩:=I;obtain⟨ga,gb⟩:=(dv high).mp ⟨KI _,Pc _⟩;obtain⟨a',rfl⟩:=ga;have gb2:high ∣ bV b:=(dm _ _).mpr gb;obtain⟨b',RN⟩:=gb2;have hb0:=iq hb;have hq:bV b/high=b':=by rw[RN,G4 _ (by lia)]
 have hb1:0<b':=by
  have:0<high*b':=by lia
  exact G5 this (by lia)
 rw[hq];have es:=HZ ht b'
 have key:b ∣ high-ht%b'*(high*a'):=by
  have e:high-ht%b'*(high*a')=-(ht*(high*a')-high)+bV b*(a'*(ht/b')):=by
   rw[RN,show ht%b'=ht-b'*(ht/b') by lia];grind
  rw[e];refine IS (Lx.mpr ch) (FY ((dm b b).mpr (KI b)) (HI _ _))
 refine⟨by lia,?_,HI _ _,gb,λh=>absurd h hb,λ_=>⟨hp,Im _ (by lia),?_⟩⟩
 ·obtain⟨c,hc⟩:=key;rw[hc,Int.mul_fdiv_cancel_left _ hb,J7 c b];lia
 ·rw[hq];exact Hx _ hb1
theorem Dz{a b high ht low lt:Int}(I:iX a b high ht low lt):lt.natAbs<=b.natAbs:=by
 have h1:1<=high.natAbs:=by have:=I.hp;lia
 have h2:lt.natAbs*1<=lt.natAbs*high.natAbs:=Nat.mul_le_mul_left _ h1;have:=I.bd;lia
theorem xL{a b g s t g' s' t':Int}(h:c6 a b g s t)(h':c6 a b g' s' t'):g=g'/\s=s'/\t=t':=by
 have d1:g ∣ g':=by rw[<-h'.eq];exact IS (FY h.da (F5 _ _)) (FY h.db (F5 _ _))
 have d2:g' ∣ g:=by rw[<-h.eq];exact IS (FY h'.da (F5 _ _)) (FY h'.db (F5 _ _))
 have eg:g=g':=NJ h.g0 h'.g0 d1 d2;subst eg;by_cases hb:b=0
 ·obtain⟨h1,h2,_⟩:=h.z hb;obtain⟨k1,k2,_⟩:=h'.z hb;exact⟨rfl,by lia,by lia⟩
 ·obtain⟨p,s0,s1⟩:=h.nz hb;obtain⟨_,s0',s1'⟩:=h'.nz hb;obtain⟨a',ha⟩:=h.da;obtain⟨b',RN⟩:=(dm g b).mpr h.db;obtain⟨b'',RX⟩:=h.db;have hq:bV b/g=b':=by rw[RN,G4 _ (by lia)]
  rw[hq]at s1 s1';have e1:=h.eq;have e2:=h'.eq;have bz:b''≠0:=by intro z;rw[z,Hd]at RX;exact hb RX
  have k1:s*a'+t*b''=1:=by
   have:g*(s*a'+t*b'')=g*1:=by rw[ha,RX]at e1;grind
   exact F8 (by lia) this
  have k2:s'*a'+t'*b''=1:=by
   have:g*(s'*a'+t'*b'')=g*1:=by rw[ha,RX]at e2;grind
   exact F8 (by lia) this
  have k3:b'' ∣ s-s':=by
   refine⟨s*(t'-t)+t*(s-s'),?_⟩;grind
  have k4:b' ∣ s-s':=by
   have:b'.natAbs=b''.natAbs:=by
    have q1:(bV b).natAbs=b.natAbs:=by rw[dj];simp
    rw[RN,RX]at q1;rw[JW,JW]at q1;exact Nat.eq_of_mul_eq_mul_left (by lia) q1
   exact J8.mp (by rw[this];exact J8.mpr k3)
  have k5:s=s':=by
   have:s-s'=0:=Int.eq_zero_of_dvd_of_natAbs_lt_natAbs k4 (by lia)
   lia
  subst k5;refine⟨rfl,rfl,?_⟩;have:b*t=b*t':=by grind
  exact F8 hb this
theorem Bf{a b:Int}(hb:b≠0):∀(n:Nat) (high ht low lt:Int),low.toNat<=n->iX a b high ht low lt->∃high' ht' lt',iX a b high' ht' 0 lt'
 |0,high,ht,low,lt,hn,I=>by
  have:low=0:=by have:=I.lo0;lia
  subst this;exact⟨_,_,_,I⟩
 |n+1,high,ht,low,lt,hn,I=>by
  by_cases h:low=0
  ·subst h;exact⟨_,_,_,I⟩
  ·obtain⟨I2,less⟩:=rR I h;have:=I2.lo0;exact Bf hb n _ _ _ _ (by have:=I.lo0;lia) I2
theorem ik(a b:Int):∃g s t,c6 a b g s t:=by
 by_cases hb:b=0
 ·subst hb;exact⟨_,_,_,ll a⟩
 ·obtain⟨h,ht,lt,I⟩:=Bf hb _ _ _ _ _ (EX _) (pf (a:=a) hb);exact⟨_,_,_,xP hb I⟩
theorem iE{m:Nat}{a b g s t:Int}(G:c6 a b g s t)(sa:Sz m a)(sb:Sz m b):Sz (m+8) g/\Sz (m+8) s/\Sz (2*m+8) t:=by
 by_cases hb:b=0
 ·subst hb;obtain⟨h1,h2,h3⟩:=G.z rfl;rw[h1,h2,h3];have s1:Sz 8 (sgn a):=by unfold Sz sgn;split;decide;split <;>decide
  exact⟨(Sz.abs sa).mono (by lia),s1.mono (by lia),Sz.mono (m:=8) (by decide) (by lia)⟩
 ·obtain⟨g0,s0,s1⟩:=G.nz hb;have h1:bV b/g<=bV b:=LF _ (by have:=iq hb;lia)
  have h2:=dj b
  have sg:Sz m g:=by
   refine sb.natle ?_;exact Nat.le_of_dvd (by lia) (J8.mpr G.db)
  have ss:Sz m s:=sb.natle (by lia)
  refine⟨sg.mono (by lia),ss.mono (by lia),?_⟩
  have e:t*b=g-s*a:=by have:=G.eq;lia
  have q:Sz (2*m+1) (t*b):=by
   rw[e];have:Sz (m+m) (s*a):=ss.mul sa;have h3:=(sg.mono (show m<=m+m by lia)).sub this
   exact h3.mono (by lia)
  refine (Sz.mono (m:=2*m+1) ?_ (by lia))
  unfold Sz at *;rw[JW]at q;have:1<=b.natAbs:=by lia
  exact IE (Nat.le_mul_of_pos_right _ this) q
def uM:List U->Out->Prop:=λus o=>∃n:Int,us=[.int n]/\o=.val (.int (sgn n))
theorem sL(T:Txt w K mg):a9 P w K mg base (CXF P w) 1 T.aaU.a T.aaU.d ["number"] (spU K (uM)):=by
 refine aW T.aaU.F Ac (λus o h=>?_) (λPV A outer s H E O us o hr h=>?_)
 ·obtain⟨n,rfl,rfl⟩:=h;rfl
 obtain⟨n,rfl,rfl⟩:=h;refine Ws.nox ?_;refine af (nE (aF f8 (aa 0 rfl) ai) (λhT=>?_) (λhF=>(aG ?_)))
 ·refine af (bg ai ?_);exact vIO (by unfold sgn;rw[if_pos (dTb hT)])
 ·refine af (nE (aF gj (aa 0 rfl) ai) (λhT=>?_) (λhF=>(aG ?_)))
  ·refine af (bg (bN ai) ?_);exact vIO (by unfold sgn;rw[if_neg (dFb hF),if_pos (dTb hT)])
  ·rename_i hF2
   refine af (bg ai ?_);exact vIO (by unfold sgn;rw[if_neg (dFb hF),if_neg (dFb hF2)])
def pT:List U->Out->Prop:=λus o=>∃a b g s t:Int,us=[.int a,.int b]/\Sz 4000 a/\Sz 4000 b/\c6 a b g s t/\o=.val (.tup [.int g,.int s,.int t])
theorem o5{a b g s t g' s' t':Int}(G:c6 a b g s t)(G':c6 a b g' s' t'):Out.val (.tup [.int g,.int s,.int t])=Out.val (.tup [.int g',.int s',.int t']):=by
 obtain⟨rfl,rfl,rfl⟩:=xL G G';rfl
theorem lu(T:Txt w K mg):a9 P w K mg base (CXF P w) 2 T.aaE.a T.aaE.d ["a","b"] (spU K (pT)):=by
 refine aW T.aaE.F bF (λus o h=>?_) (λPV A outer s H E O us o hr h=>?_)
 ·obtain⟨a,b,g,s,t,rfl,sa,sb,G,rfl⟩:=h;rfl
 obtain⟨a,b,g,s,t,rfl,sa,sb,G,rfl⟩:=h;refine Ws.nox ?_;refine af (nE (aF bO (aa 1 rfl) ai) (λhT=>?_) (λhF=>(aG ?_)))
 ·have hb:b=0:=dTb hT;subst hb;refine af (bg (bw (aq (ar yC rfl T.aa_ PyProof.Rows.boot_abs (ae (aa 0 rfl) ak ag)) (aq (aw ((sL T).mono (by decide)) hr rfl T.aaU.m T.aaU.F.kp T.aaU.b au (ae (aa 0 rfl) ak ag) ⟨_,rfl,rfl⟩) (aq ai bj bq) aN) aN)) ?_)
  exact o5 (ll a) G
 ·have hb:b≠0:=dFb hF;have hp0:=iq hb;have sab:Sz 4000 (bV b):=Sz.abs sb;refine af (aV (i:=2) bF.nd rfl (Or.inl rfl) (ar yC rfl T.aa_ PyProof.Rows.boot_abs (ae (aa 1 rfl) ak ag)) ?_);refine af (aV (i:=3) bF.nd rfl (Or.inl rfl) ai ?_);refine af (aV (i:=4) bF.nd rfl (Or.inl rfl) (dw (aa 0 rfl) (aa 2 rfl) hp0) ?_);refine af (aV (i:=5) bF.nd rfl (Or.inl rfl) ai ?_);refine af (il (λm:Int×Int×Int×Int=>[some (.val (.int a)),some (.val (.int b)),some (.val (.int m.1)),some (.val (.int m.2.1)),some (.val (.int m.2.2.1)),some (.val (.int m.2.2.2)),none,none,none,none]) (λn m=>n=m.2.2.1.toNat/\iX a b m.1 m.2.1 m.2.2.1 m.2.2.2) PassesOwn.never ?h0 ?hs)
  case h0=>exact⟨_,(_,_,_,_),⟨rfl,pf hb⟩,rfl,rfl,rfl,rfl,rfl,rfl,trivial⟩
  case hs=>
   rintro m ⟨high,ht,low,lt⟩ ⟨rfl,I⟩;dsimp only at I |-;have hl0:=I.lo0;have Qk:=I.lolt;have sh:Sz 4000 high:=sb.natle I.hi;have sl:Sz 4000 low:=sh.natle (by lia)
   have slt:Sz 4000 lt:=sb.natle (Dz I);refine⟨_,(aF i4 (aa 4 rfl) ai),λh=>?_,λh ps Qh=>?_⟩
   ·have hl:low≠0:=nTb h;obtain⟨I2,less⟩:=rR I hl;have PU:(high-high/low*low).toNat<low.toNat:=by clear h;lia
    refine af (aV (i:=6) bF.nd rfl (Or.inl rfl) (gL (aa 2 rfl) (aa 4 rfl) (by walk_at"div")) ?_)
    have sf:Sz 4000 (high/low):=sh.ediv;refine af (aV (i:=7) bF.nd rfl (Or.inl rfl) (bA (aa 2 rfl) (be (aa 6 rfl) (aa 4 rfl) (by walk_at"mul"))) ?_)
    refine af (aV (i:=8) bF.nd rfl (Or.inl rfl) (bA (aa 3 rfl) (be (aa 6 rfl) (aa 5 rfl) (by walk_at"mul"))) ?_)
    refine af (aV (i:=2) bF.nd rfl (Or.inl rfl) (aa 4 rfl) ?_);refine af (aV (i:=3) bF.nd rfl (Or.inl rfl) (aa 5 rfl) ?_);refine af (aV (i:=4) bF.nd rfl (Or.inl rfl) (aa 7 rfl) ?_);refine af (aV (i:=5) bF.nd rfl (Or.inl rfl) (aa 8 rfl) (aG ?_));exact⟨_,(_,_,_,_),PU,⟨rfl,I2⟩,rfl,rfl,rfl,rfl,rfl,rfl,trivial⟩
   ·have hl:low=0:=nFb h;subst hl;refine du ?_ Qh;have G2:=xP hb I;obtain⟨g0,s0,s1⟩:=G2.nz hb;have hm:0<bV b/high:=by lia
    have hg:0<high:=I.hp
    have ss:Sz 4000 (ht%(bV b/high)):=by
     refine sb.natle ?_;have h1:bV b/high<=bV b:=LF _ (by lia)
     have h2:=dj b;lia
    refine af (aV (i:=9) bF.nd rfl (Or.inl rfl) (dw (aa 3 rfl) (gL (ar yC rfl T.aa_ PyProof.Rows.boot_abs (ae (aa 1 rfl) ak ag)) (aa 2 rfl) ⟨hg,sh.mono (by decide)⟩) hm) ?_)
    refine af (bg (bw (aq (aa 2 rfl) (aq (aa 9 rfl) (aq (BL (bA (aa 2 rfl) (be (aa 9 rfl) (aa 0 rfl) (Sz.ok ss sa (by decide)))) (aa 1 rfl) ⟨hb,sb.mono (by decide)⟩) bj bK) ag) ag)) ?_)
    exact o5 G2 G
abbrev mv(a b c d e f:Int):U:=.tup [.int a,.int b,.int c,.int d,.int e,.int f]
structure Mv(a b c d e f:Int):Prop where
 u:a*d-b*c=1\/a*d-b*c=-1
 a:Sz 30000 a
 b:Sz 30000 b
 c:Sz 30000 c
 d:Sz 30000 d
 e:Sz 30000 e
 f:Sz 30000 f
def qu:List U->Out->Prop:=λus o=>∃n:Int,us=[.int n]/\o=.val (.bl true)
theorem ph(T:Txt w K mg):a9 P w K mg base (CXF P w) 1 T.aaG.a T.aaG.d ["thing"] (spU K (qu)):=by
 refine aW T.aaG.F pJ (λus o h=>?_) (λPV A outer s H E O us o hr h=>?_)
 ·obtain⟨n,rfl,rfl⟩:=h;rfl
 obtain⟨n,rfl,rfl⟩:=h;refine Ws.nox ?_;refine af (bg (lP (ar (bZ (by intro _ h;cases h) (by walk_at"kit")) rfl T.aac GP (ae (aa 0 rfl) (ae (kA rfl T.aba boot_int) ak ag) ag)) (λhz=>(oP (Bj (ar (bZ (by intro _ h;cases h) (by walk_at"kit")) rfl T.aac GP (ae (aa 0 rfl) (ae (kA rfl T.aa9 boot_bool) ak ag) ag)))))) ?_);exact rfl
def vw:List U->Out->Prop:=λus o=>∃a b c d e f,us=[mv a b c d e f]/\Sz 30000 a/\Sz 30000 b/\Sz 30000 c/\Sz 30000 d/\o=.val (.int (a*d-b*c))
theorem tL(T:Txt w K mg):a9 P w K mg base (CXF P w) 1 T.aaV.a T.aaV.d ["move"] (spU K (vw)):=by
 refine aW T.aaV.F zf (λus o h=>?_) (λPV A outer s H E O us o hr h=>?_)
 ·obtain⟨a,b,c,d,e,f,rfl,sa,sb,sc,sd,rfl⟩:=h;rfl
 obtain⟨a,b,c,d,e,f,rfl,sa,sb,sc,sd,rfl⟩:=h;refine Ws.nox ?_;refine af (bg (bA (be (ay (aa 0 rfl) ai rfl rfl) (ay (aa 0 rfl) ai rfl rfl) (by walk_at"mul")) (be (ay (aa 0 rfl) ai rfl rfl) (ay (aa 0 rfl) ai rfl rfl) (by walk_at"mul"))) ?_);exact rfl
def nW:List U->Out->Prop:=λus o=>∃a b c d e f,us=[mv a b c d e f]/\Mv a b c d e f/\o=.val (.bl true)
theorem rB(T:Txt w K mg):a9 P w K mg base (CXF P w) 2 T.aaM.a T.aaM.d ["thing"] (spU K (nW)):=by
 refine aW T.aaM.F jZ (λus o h=>?_) (λPV A outer s H E O us o hr h=>?_)
 ·obtain⟨a,b,c,d,e,f,rfl,M,rfl⟩:=h;rfl
 obtain⟨a,b,c,d,e,f,rfl,M,rfl⟩:=h;refine Ws.nox ?_;refine af (br (Tw.t (kT (dY (dD (ar (bZ (by intro _ h;cases h) rfl) rfl T.aac GP (ae (aa 0 rfl) (ae (kA rfl T.aaY Li) ak ag) ag)))) (λhz=>(j_ (aF i4 (ar (bJ rfl) rfl T.aae Fp (ae (aa 0 rfl) ak ag)) ai))))) rfl (aG ?_))
 refine af (br (dY (dD (ar (DH rfl (bs:=[true,true,true,true,true,true])) rfl T.abb boot_all (ae (EvN.ev (fK  rfl (blk (aj iI) ["thing","number"] [1] rfl rfl rfl rfl (by decide+kernel)) (A2 (aa 0 rfl)) (λ_ _ _ _=>bi (i:=1) jZ.nd rfl (Or.inl rfl)) (e_ (by decide)) ?clen ?csz (λ_ _=>trivial) ?celt)) ak cU)))) rfl (aG ?_))
 case clen=>rfl
 case csz=>show 6<=sizeLine;decide
 case celt=>
  intro C s' H' fp i x y hx hy
  have k:∃n:Int,x=.int n/\y=.bl true:=by
   match i,hx,hy with
   |0,hx,hy=>cases hx;cases hy;exact⟨a,rfl,rfl⟩
   |1,hx,hy=>cases hx;cases hy;exact⟨b,rfl,rfl⟩
   |2,hx,hy=>cases hx;cases hy;exact⟨c,rfl,rfl⟩
   |3,hx,hy=>cases hx;cases hy;exact⟨d,rfl,rfl⟩
   |4,hx,hy=>cases hx;cases hy;exact⟨e,rfl,rfl⟩
   |5,hx,hy=>cases hx;cases hy;exact⟨f,rfl,rfl⟩
   |i+6,hx,hy=>cases hx
  obtain⟨n,rfl,rfl⟩:=k;exact (aw ((ph T).mono (by decide)) hr rfl T.aaG.m T.aaG.F.kp T.aaG.b au (ae (aa 1 rfl) ak ag) ⟨n,rfl,rfl⟩)
 refine af (bg (kJ (Ex rfl rfl rfl) (aw ((tL T).mono (by decide)) hr rfl T.aaV.m T.aaV.F.kp T.aaV.b au (ae (aa 0 rfl) ak ag) ⟨a,b,c,d,e,f,rfl,M.a,M.b,M.c,M.d,rfl⟩) (bw (aq ai (aq (bN ai) bj kc) bq))) ?_)
 refine vB ?_;show inV (fl (.int (a*d-b*c))) ([U.int 1,.int (-1)].map fl)=_;rcases M.u with h |h <;>rw[h] <;>rfl
def uT:List U->Out->Prop:=λus o=>∃a b c d e f,us=[mv a b c d e f]/\Mv a b c d e f/\o=.val .non
theorem ig(T:Txt w K mg):a9 P w K mg base (CXF P w) 3 T.aah.a T.aah.d ["thing"] (spU K (uT)):=by
 refine aW T.aah.F nD (λus o h=>?_) (λPV A outer s H E O us o hr h=>?_)
 ·obtain⟨a,b,c,d,e,f,rfl,M,rfl⟩:=h;rfl
 obtain⟨a,b,c,d,e,f,rfl,M,rfl⟩:=h;refine Ws.nox ?_;refine af (br (dY (dD (aw ((rB T).mono (by decide)) hr rfl T.aaM.m T.aaM.F.kp T.aaM.b au (ae (aa 0 rfl) ak ag) ⟨a,b,c,d,e,f,rfl,M,rfl⟩))) rfl (aG (aG ?_)))
 exact rfl
def oI:List U->Out->Prop:=λus o=>∃x y a b c d e f,us=[pt x y,mv a b c d e f]/\(Sz 30000 x/\Sz 30000 y/\Sz 30000 a/\Sz 30000 b/\Sz 30000 c/\Sz 30000 d)/\o=.val (pt (a*x+b*y) (c*x+d*y))
theorem uI(T:Txt w K mg):a9 P w K mg base (CXF P w) 1 T.aaS.a T.aaS.d ["P","move"] (spU K (oI)):=by
 refine aW T.aaS.F uz (λus o h=>?_) (λPV A outer s H E O us o hr h=>?_)
 ·obtain⟨x,y,a,b,c,d,e,f,rfl,⟨sx,sy,sa,sb,sc,sd⟩,rfl⟩:=h;rfl
 obtain⟨x,y,a,b,c,d,e,f,rfl,⟨sx,sy,sa,sb,sc,sd⟩,rfl⟩:=h;refine Ws.nox ?_;refine af (bg (bw (aq (cO (be (ay (aa 1 rfl) ai rfl rfl) (ay (aa 0 rfl) ai rfl rfl) (by walk_at"mul")) (be (ay (aa 1 rfl) ai rfl rfl) (ay (aa 0 rfl) ai rfl rfl) (by walk_at"mul"))) (aq (cO (be (ay (aa 1 rfl) ai rfl rfl) (ay (aa 0 rfl) ai rfl rfl) (by walk_at"mul")) (be (ay (aa 1 rfl) ai rfl rfl) (ay (aa 0 rfl) ai rfl rfl) (by walk_at"mul"))) bj bK) bK)) ?_);exact rfl
def p7:List U->Out->Prop:=λus o=>∃x y a b c d e f,us=[pt x y,mv a b c d e f]/\Mv a b c d e f/\Sz 30000 x/\Sz 30000 y/\o=.val (pt (a*x+b*y+e) (c*x+d*y+f))
theorem h9(T:Txt w K mg):a9 P w K mg base (CXF P w) 4 T.aat.a T.aat.d ["P","move"] (spU K (p7)):=by
 refine aW T.aat.F oh (λus o h=>?_) (λPV A outer s H E O us o hr h=>?_)
 ·obtain⟨x,y,a,b,c,d,e,f,rfl,M,sx,sy,rfl⟩:=h;rfl
 obtain⟨x,y,a,b,c,d,e,f,rfl,M,sx,sy,rfl⟩:=h;refine Ws.nox ?_;refine af (yI (aw ((ig T).mono (by decide)) hr rfl T.aah.m T.aah.F.kp T.aah.b au (ae (aa 1 rfl) ak ag) ⟨a,b,c,d,e,f,rfl,M,rfl⟩) ?_)
 refine af (aV (i:=2) oh.nd rfl (Or.inl rfl) (aw ((uI T).mono (by decide)) hr rfl T.aaS.m T.aaS.F.kp T.aaS.b au (ae (aa 0 rfl) (ae (aa 1 rfl) ak ag) ag) ⟨x,y,a,b,c,d,e,f,rfl,⟨sx,sy,M.a,M.b,M.c,M.d⟩,rfl⟩) ?_)
 refine af (bg (bw (aq (cO (ay (aa 2 rfl) ai rfl rfl) (ay (aa 1 rfl) ai rfl rfl)) (aq (cO (ay (aa 2 rfl) ai rfl rfl) (ay (aa 1 rfl) ai rfl rfl)) bj bK) bK)) ?_);exact rfl
def yV(a b c d e f:Int):U:=
 mv ((a*d-b*c) *d) (-(a*d-b*c) *b) (-(a*d-b*c) *c) ((a*d-b*c) *a) (-((a*d-b*c) *d*e+-(a*d-b*c) *b*f)) (-(-(a*d-b*c) *c*e+(a*d-b*c) *a*f))
def uK:List U->Out->Prop:=λus o=>∃a b c d e f,us=[mv a b c d e f]/\Mv a b c d e f/\o=.val (yV a b c d e f)
theorem fW(T:Txt w K mg):a9 P w K mg base (CXF P w) 4 T.aaf.a T.aaf.d ["move"] (spU K (uK)):=by
 refine aW T.aaf.F cN (λus o h=>?_) (λPV A outer s H E O us o hr h=>?_)
 ·obtain⟨a,b,c,d,e,f,rfl,M,rfl⟩:=h;rfl
 obtain⟨a,b,c,d,e,f,rfl,M,rfl⟩:=h;refine Ws.nox ?_;obtain⟨hd,sa,sb,sc,sd,se,sf⟩:=M;have M:Mv a b c d e f:=⟨hd,sa,sb,sc,sd,se,sf⟩;have sh:Sz 8 (a*d-b*c):=by rcases hd with h |h <;>rw[h] <;>decide
 refine af (yI (aw ((ig T).mono (by decide)) hr rfl T.aah.m T.aah.F.kp T.aah.b au (ae (aa 0 rfl) ak ag) ⟨a,b,c,d,e,f,rfl,M,rfl⟩) ?_)
 refine af (aV (i:=1) cN.nd rfl (Or.inl rfl) (aw ((tL T).mono (by decide)) hr rfl T.aaV.m T.aaV.F.kp T.aaV.b au (ae (aa 0 rfl) ak ag) ⟨a,b,c,d,e,f,rfl,sa,sb,sc,sd,rfl⟩) ?_)
 refine af (aV (i:=2) cN.nd rfl (Or.inl rfl) (be (aa 1 rfl) (ay (aa 0 rfl) ai rfl rfl) (by walk_at"mul")) ?_)
 refine af (aV (i:=3) cN.nd rfl (Or.inl rfl) (be (bN (aa 1 rfl)) (ay (aa 0 rfl) ai rfl rfl) (by walk_at"mul")) ?_)
 refine af (aV (i:=4) cN.nd rfl (Or.inl rfl) (be (bN (aa 1 rfl)) (ay (aa 0 rfl) ai rfl rfl) (by walk_at"mul")) ?_)
 refine af (aV (i:=5) cN.nd rfl (Or.inl rfl) (be (aa 1 rfl) (ay (aa 0 rfl) ai rfl rfl) (by walk_at"mul")) ?_)
 refine af (bg (bw (aq (aa 2 rfl) (aq (aa 3 rfl) (aq (aa 4 rfl) (aq (aa 5 rfl) (aq (bN (cO (be (aa 2 rfl) (ay (aa 0 rfl) ai rfl rfl) (by walk_at"mul")) (be (aa 3 rfl) (ay (aa 0 rfl) ai rfl rfl) (by walk_at"mul")))) (aq (bN (cO (be (aa 4 rfl) (ay (aa 0 rfl) ai rfl rfl) (by walk_at"mul")) (be (aa 5 rfl) (ay (aa 0 rfl) ai rfl rfl) (by walk_at"mul")))) bj kc) kc) ag) ag) ag) ag)) ?_)
 exact rfl
theorem yO{a b g s t:Int}(G:c6 a b g s t):g=((Ig a b:Nat):Int):=by
 have h1:g ∣ ((Ig a b:Nat):Int):=Mm G.da G.db
 have h2:((Ig a b:Nat):Int) ∣ g:=by
  rw[<-G.eq];exact IS (FY (Jm ..) (F5 _ _)) (FY (I_ ..) (F5 _ _))
 exact NJ G.g0 (Int.natCast_nonneg _) h1 h2
theorem kF(a b:Int):∃s t,c6 a b ((Ig a b:Nat):Int) s t:=by
 obtain⟨g,s,t,G⟩:=ik a b;have e:=yO G;subst e;exact⟨s,t,G⟩
theorem uG{a b g s t g' s' t':Int}(G:c6 a b g s t)(gp:0<g)(G':c6 (a/g) (b/g) g' s' t'):g'=1:=by
 obtain⟨a',ha⟩:=G.da;obtain⟨b',hb⟩:=G.db;have ea:a/g=a':=by rw[ha,G4 _ (by lia)]
 have eb:b/g=b':=by rw[hb,G4 _ (by lia)]
 rw[ea,eb]at G';have e:=G.eq
 have k1:s*a'+t*b'=1:=by
  have:g*(s*a'+t*b')=g*1:=by rw[ha,hb]at e;grind
  exact F8 (by lia) this
 have d:g' ∣ 1:=by rw[<-k1];exact IS (FY G'.da (F5 _ _)) (FY G'.db (F5 _ _))
 have:=Int.le_of_dvd (by decide) d
 have h0:=G'.g0;rcases GK h0 with h |h
 ·lia
 ·rw[<-h]at d;exact absurd (Nx.mp d) (by decide)
theorem vG{x0 y0 x1 y1 g s t:Int}(G:c6 (x1-x0) (y1-y0) g s t)(h:g=0):x0=x1/\y0=y1:=by
 subst h;have h1:=Nx.mp G.da;have h2:=Nx.mp G.db;lia
structure yn(x0 y0 x1 y1:Int):Prop where
 s0:Sz 3000 x0
 t0:Sz 3000 y0
 s1:Sz 3000 x1
 t1:Sz 3000 y1
def qh:List U->Out->Prop:=λus o=>∃x0 y0 x1 y1 g s t:Int,us=[pt x0 y0,pt x1 y1]/\yn x0 y0 x1 y1/\c6 (x1-x0) (y1-y0) g s t/\o=.val (.int g)
theorem jJ(T:Txt w K mg):a9 P w K mg base (CXF P w) 3 T.aaA.a T.aaA.d ["P","Q"] (spU K (qh)):=by
 refine aW T.aaA.F vK (λus o h=>?_) (λPV A outer s H E O us o hr h=>?_)
 ·obtain⟨x0,y0,x1,y1,g,s,t,rfl,⟨s0,t0,s1,t1⟩,G,rfl⟩:=h;rfl
 obtain⟨x0,y0,x1,y1,g,s,t,rfl,⟨s0,t0,s1,t1⟩,G,rfl⟩:=h;refine Ws.nox ?_;refine af (bg (ay (aw ((lu T).mono (by decide)) hr rfl T.aaE.m T.aaE.F.kp T.aaE.b au (ae (bA (ay (aa 1 rfl) ai rfl rfl) (ay (aa 0 rfl) ai rfl rfl)) (ae (bA (ay (aa 1 rfl) ai rfl rfl) (ay (aa 0 rfl) ai rfl rfl)) ak bK) bK) ⟨_,_,g,s,t,rfl,by walk_at"szb",by walk_at"szb",G,rfl⟩) ai rfl rfl) ?_)
 exact rfl
def rq:List U->Out->Prop:=λus o=>∃x0 y0 x1 y1 g a b s t:Int,us=[pt x0 y0,pt x1 y1]/\yn x0 y0 x1 y1/\c6 (x1-x0) (y1-y0) g a b/\g≠0/\c6 ((x1-x0)/g) ((y1-y0)/g) 1 s t/\
  o=.val (mv s t (-((y1-y0)/g)) ((x1-x0)/g) (-s*x0-t*y0) ((y1-y0)/g*x0-(x1-x0)/g*y0))
theorem jY(T:Txt w K mg):a9 P w K mg base (CXF P w) 4 T.aaB.a T.aaB.d ["P","Q"] (spU K (rq)):=by
 refine aW T.aaB.F dP (λus o h=>?_) (λPV A outer s H E O us o hr h=>?_)
 ·obtain⟨x0,y0,x1,y1,g,a,b,s,t,rfl,two,G,gn,G1,rfl⟩:=h;rfl
 obtain⟨x0,y0,x1,y1,g,a,b,s,t,rfl,two,G,gn,G1,rfl⟩:=h;refine Ws.nox ?_;have gp:0<g:=by have:=G.g0;lia
 obtain⟨s0,t0,s1,t1⟩:=two;have two:yn x0 y0 x1 y1:=⟨s0,t0,s1,t1⟩;have sx:Sz 3001 (x1-x0):=by walk_at"szb"
 have sy:Sz 3001 (y1-y0):=by walk_at"szb"
 obtain⟨sg,_,_⟩:=iE G sx sy;have su:Sz 3001 ((x1-x0)/g):=sx.ediv;have sv:Sz 3001 ((y1-y0)/g):=sy.ediv;obtain⟨_,ss,st⟩:=iE G1 su sv;refine af (aV (i:=2) dP.nd rfl (Or.inl rfl) (aw ((jJ T).mono (by decide)) hr rfl T.aaA.m T.aaA.F.kp T.aaA.b au (ae (aa 0 rfl) (ae (aa 1 rfl) ak ag) ag) ⟨x0,y0,x1,y1,g,a,b,rfl,two,G,rfl⟩) ?_)
 refine af (br (aF bO (aa 2 rfl) ai) (decide_eq_false gn) (aG ?_));refine af (aV (i:=3) dP.nd rfl (Or.inl rfl) (gL (bA (ay (aa 1 rfl) ai rfl rfl) (ay (aa 0 rfl) ai rfl rfl)) (aa 2 rfl) ⟨gp,sg.mono (by decide)⟩) ?_)
 refine af (aV (i:=4) dP.nd rfl (Or.inl rfl) (gL (bA (ay (aa 1 rfl) ai rfl rfl) (ay (aa 0 rfl) ai rfl rfl)) (aa 2 rfl) ⟨gp,sg.mono (by decide)⟩) ?_)
 refine af (aV (i:=5) dP.nd rfl (Or.inl rfl) (aw ((lu T).mono (by decide)) hr rfl T.aaE.m T.aaE.F.kp T.aaE.b au (ae (aa 3 rfl) (ae (aa 4 rfl) ak ag) ag) ⟨_,_,1,s,t,rfl,su.mono (by decide),sv.mono (by decide),G1,rfl⟩) ?_)
 refine af (aV (i:=6) dP.nd rfl (Or.inl rfl) (ay (aa 5 rfl) ai rfl rfl) ?_);refine af (aV (i:=7) dP.nd rfl (Or.inl rfl) (ay (aa 5 rfl) ai rfl rfl) ?_);refine af (bg (bw (aq (aa 6 rfl) (aq (aa 7 rfl) (aq (bN (aa 4 rfl)) (aq (aa 3 rfl) (aq (bA (be (bN (aa 6 rfl)) (ay (aa 0 rfl) ai rfl rfl) (by walk_at"mul")) (be (aa 7 rfl) (ay (aa 0 rfl) ai rfl rfl) (by walk_at"mul"))) (aq (bA (be (aa 4 rfl) (ay (aa 0 rfl) ai rfl rfl) (by walk_at"mul")) (be (aa 3 rfl) (ay (aa 0 rfl) ai rfl rfl) (by walk_at"mul"))) bj bK) bK) ag) kc) ag) ag)) ?_)
 exact rfl
abbrev Pt:=Int×Int
def plt(p q:Pt):Prop:=p.1<q.1\/(p.1=q.1/\p.2<q.2)
def ac(a b p:Pt):Int:=(b.1-a.1) *(p.2-a.2)-(b.2-a.2) *(p.1-a.1)
theorem aD{a b c:Pt}(h1:plt a b)(h2:plt b c):plt a c:=by unfold plt at *;lia
theorem aB(a:Pt):¬ plt a a:=by unfold plt;lia
theorem cE(a b:Pt):plt a b\/a=b\/plt b a:=by
 unfold plt;by_cases h1:a.1=b.1
 ·by_cases h2:a.2=b.2
  ·exact .inr (.inl (GC h1 h2))
  ·lia
 ·lia
def bQ(x y:Int):Prop:=0<x\/(x=0/\0<y)
theorem aI{a b:Pt}(h:plt a b):bQ (b.1-a.1) (b.2-a.2):=by unfold plt bQ at *;lia
theorem dg{u1 u2 v1 v2 w1 w2:Int}(hu:bQ u1 u2)(hv:bQ v1 v2)(hw:bQ w1 w2)(h1:0<=u1*v2-u2*v1)(h2:0<=v1*w2-v2*w1):0<=u1*w2-u2*w1:=by
 unfold bQ at *;by_cases hv1:v1=0
 ·subst hv1;have S2:0<v2:=by lia
  have hw1:w1=0:=by
   have:v2*w1<=0:=by rw[Hc]at h2;lia
   by_cases hz:0<w1
   ·have:=FK S2 hz;lia
   ·lia
  subst hw1;have hw2:0<w2:=by lia
  have:=E8 (show 0<=u1 by lia) (show 0<=w2 by lia)
  simp;lia
 ·have hv':0<v1:=by lia
  have e:v1*(u1*w2-u2*w1)=u1*(v1*w2-v2*w1)+w1*(u1*v2-u2*v1):=by grind
  have p1:=E8 (show 0<=u1 by lia) h2
  have p2:=E8 (show 0<=w1 by lia) h1
  have:0<=v1*(u1*w2-u2*w1):=by lia
  exact Hw this hv'
theorem d_{u1 u2 v1 v2 w1 w2:Int}(hu:bQ u1 u2)(hv:bQ v1 v2)(hw:bQ w1 w2)(h1:0<u1*v2-u2*v1)(h2:0<=v1*w2-v2*w1):0<u1*w2-u2*w1:=by
 unfold bQ at *;by_cases hv1:v1=0
 ·subst hv1;have S2:0<v2:=by lia
  have hw1:w1=0:=by
   have:v2*w1<=0:=by rw[Hc]at h2;lia
   by_cases hz:0<w1
   ·have:=FK S2 hz;lia
   ·lia
  subst hw1;have hw2:0<w2:=by lia
  have PX:0<u1:=by
   rcases hu with h |⟨h,_⟩
   ·exact h
   ·subst h;simp at h1
  have:=FK PX hw2;simp;lia
 ·have hv':0<v1:=by lia
  have e:v1*(u1*w2-u2*w1)=u1*(v1*w2-v2*w1)+w1*(u1*v2-u2*v1):=by grind
  have p1:=E8 (show 0<=u1 by lia) h2
  by_cases hw1:w1=0
  ·subst hw1;have hw2:0<w2:=by lia
   have PX:0<u1:=by
    rcases hu with h |⟨h,h'⟩
    ·exact h
    ·subst h;have:=FK h' hv';simp at h1;lia
   have:=FK PX hw2;simp;lia
  ·have p2:=FK (show 0<w1 by lia) h1
   have:0<v1*(u1*w2-u2*w1):=by lia
   exact G5 this (by lia)
def g_:List Pt->Prop
 |b::a::r=>plt a b/\g_ (a::r)
 |_=>True
def i8:List Pt->Prop
 |c::b::a::r=>0<ac a b c/\i8 (b::a::r)
 |_=>True
def gM(done:List Pt):List Pt->Prop
 |b::a::r=>(∀q∈done,0<=ac a b q)/\gM done (a::r)
 |_=>True
theorem i8.tail:∀{b:Pt}{st:List Pt},i8 (b::st)->i8 st
 |_,[],_=>trivial
 |_,[_],_=>trivial
 |_,_::_::_,h=>h.2
theorem g_.tail:∀{b:Pt}{st:List Pt},g_ (b::st)->g_ st
 |_,[],_=>trivial
 |_,_::_,h=>h.2
theorem gM.tail{done:List Pt}:∀{b:Pt}{st:List Pt},gM done (b::st)->gM done st
 |_,[],_=>trivial
 |_,_::_,h=>h.2
def aU(P:Pt):List Pt->List Pt
 |b::a::r=>if ac a b P<=0 then aU P (a::r) else b::a::r
 |st=>st
def am(row:List Pt):List Pt:=row.foldl (λst P=>P::aU P st) []
structure Kept(done st:List Pt):Prop where
 ne:st≠[]
 desc:g_ st
 turns:i8 st
 cover:gM done st
 sub:∀p∈st,p∈done
structure vd(done st:List Pt)(P:Pt):Prop extends Kept done st where
 pend:∀h r,st=h::r->∀q∈done,plt h q->0<=ac h P q
theorem uP{done:List Pt}{P b a:Pt}{r:List Pt}(hP:∀q∈done,plt q P)(D:vd done (b::a::r) P)(h:ac a b P<=0):vd done (a::r) P:=by
 refine⟨⟨by simp,D.desc.tail,D.turns.tail,D.cover.tail,λp hp=>D.sub p (ES _ hp)⟩,?_⟩
 intro h' r' e q hq PU;cases e;have Qy:=D.desc.1;have Qb:=D.cover.1 q hq;have hbP:=hP b (D.sub b EY);have hqP:=hP q hq;rcases cE q b with z |z |z
 ·have l1:=aI PU;have l2:=aI Qy;have l3:=aI (aD Qy hbP);have:=dg (u1:=P.1-a.1) (u2:=P.2-a.2) (v1:=b.1-a.1) (v2:=b.2-a.2) (w1:=q.1-a.1) (w2:=q.2-a.2) l3 l2 l1 (by unfold ac at h;grind) (by unfold ac at Qb;grind)
  unfold ac;grind
 ·subst z;unfold ac at *;grind
 ·have p:=D.pend b _ rfl q hq z;unfold ac at *;grind
theorem oR{done:List Pt}{P:Pt}(hP:∀q∈done,plt q P):∀st:List Pt,vd done st P->vd done (aU P st) P/\(∀b a r,aU P st=b::a::r->0<ac a b P)/\(st.getLast?=(aU P st).getLast?)
 |[],D=>absurd rfl D.ne
 |[b],D=>⟨D,λ_ _ _ e=>by simp[aU]at e,rfl⟩
 |b::a::r,D=>by
  by_cases h:ac a b P<=0
  ·rw[aU,if_pos h];obtain⟨h1,h2,h3⟩:=oR hP (a::r) (uP hP D h);exact⟨h1,h2,by rw[<-h3];simp⟩
  ·rw[aU,if_neg h];refine⟨D,λb' a' r' e=>?_,rfl⟩
   cases e;lia
theorem vA{done st:List Pt}{P:Pt}(hP:∀q∈done,plt q P)(D:vd done st P)(ht:∀b a r,st=b::a::r->0<ac a b P)(hmin:∀x,st=[x]->∀q∈done,q=x\/plt x q):Kept (done++[P]) (P::st):=by
 have up:∀(b:Pt) (r:List Pt),g_ (b::r)->i8 (b::r)->gM done (b::r)->plt b P->(∀a r',r=a::r'->0<=ac a b P)->gM (done++[P]) (b::r):=by
  intro b r
  induction r generalizing b with
  |nil=>intro _ _ _ _ _;trivial
  |cons a r ih=>
   intro hd htn hc hbP hl;refine⟨λq hq=>?_,?_⟩
   ·rcases FA.mp hq with z |z
    ·exact hc.1 q z
    ·rw[E5.mp z];exact hl a r rfl
   ·refine ih a hd.tail htn.tail hc.tail (aD hd.1 hbP) (λc r' e=>?_)
    subst e;have t:=htn.1;have g:=hl a _ rfl;have l1:=aI hd.2.1;have l2:=aI hd.1;have l3:=aI (aD hd.1 hbP);have:=dg (u1:=a.1-c.1) (u2:=a.2-c.2) (v1:=b.1-a.1) (v2:=b.2-a.2) (w1:=P.1-a.1) (w2:=P.2-a.2) l1 l2 l3 (by unfold ac at t;grind) (by unfold ac at g;grind)
    unfold ac;grind
 obtain⟨h,r,e⟩:∃h r,st=h::r:=by
  cases QM:st with
  |nil=>exact absurd QM D.ne
  |cons h r=>exact⟨h,r,rfl⟩
 subst e;have hhP:=hP h (D.sub h EY);refine⟨by simp,⟨hhP,D.desc⟩,?_,⟨λq hq=>?_,?_⟩,λp hp=>?_⟩
 ·cases r with
  |nil=>trivial
  |cons a r'=>exact⟨ht h a r' rfl,D.turns⟩
 ·rcases FA.mp hq with z |z
  ·rcases cE q h with y |y |y
   ·cases r with
    |nil=>
     rcases hmin h rfl q z with w |w
     ·subst w;exact absurd y (aB _)
     ·exact absurd (aD y w) (aB _)
    |cons a r'=>
     have t:=ht h a r' rfl;have c:=D.cover.1 q z;have l1:=aI D.desc.1;have l2:=aI y;have l3:=aI hhP;have:=dg (u1:=h.1-q.1) (u2:=h.2-q.2) (v1:=h.1-a.1) (v2:=h.2-a.2) (w1:=P.1-h.1) (w2:=P.2-h.2) l2 l1 l3 (by unfold ac at c;grind) (by unfold ac at t;grind)
     unfold ac;grind
   ·subst y;unfold ac;grind
   ·exact D.pend h r rfl q z y
  ·rw[E5.mp z];unfold ac;grind
 ·exact up h r D.desc D.turns D.cover hhP (λa r' e=>Ny (ht h a r' (by rw[e])))
 ·rcases ET.mp hp with z |z
  ·subst z;exact Fg _ EY
  ·exact FH _ (D.sub p z)
theorem j0(row:List Pt)(P:Pt):am (row++[P])=P::aU P (am row):=by
 unfold am;rw[Lj];rfl
theorem ki{row:List Pt}(hs:row.Pairwise plt):∀n,0<n->n<=row.length->Kept (row.take n) (am (row.take n))/\(am (row.take n)).getLast?=row.head?/\(am (row.take n)).head?=row[n-1]?
 |0,h,_=>absurd h (by decide)
 |1,_,h=>by
  cases row with
  |nil=>simp at h
  |cons a r=>
   simp only[List.take_succ_cons,JX];exact⟨⟨by simp[am],trivial,trivial,trivial,λp hp=>by simpa [am,aU] using hp⟩,rfl,rfl⟩
 |n+2,_,h=>by
  obtain⟨K,hl,hh⟩:=ki hs (n+1) (by lia) (by lia)
  have hn:n+1<row.length:=by lia
  have et:row.take (n+2)=row.take (n+1)++[row[n+1]]:=by rw[List.take_succ_eq_append_getElem hn]
  have hP:∀q∈row.take (n+1),plt q row[n+1]:=λq hq=>by
   obtain⟨i,hi,e⟩:=Jj.mp hq;subst e;exact FE.mp hs i (n+1) (by lia) hn (by lia)
  have D:vd (row.take (n+1)) (am (row.take (n+1))) row[n+1]:=⟨K,λh' r e q hq PU=>by
   exfalso
   rw[e]at hh;simp only[N4,M7]at hh;have hn':n<row.length:=by lia
   rw[EK hn']at hh;have hh':=FN hh;obtain⟨i,hi,e2⟩:=Jj.mp hq;subst e2;rw[hh']at PU;rcases G0 i n with z |z
   ·exact aB _ (aD PU (FE.mp hs i n (by lia) hn' z))
   ·have:i=n:=by lia
    subst this;exact aB _ PU⟩
  obtain⟨D2,ht,Qv⟩:=oR hP _ D;rw[et,j0];refine⟨vA hP D2 ht (λx e q hq=>?_),?_,?_⟩
  ·rw[e,hl]at Qv;simp at Qv;obtain⟨i,hi,e2⟩:=Jj.mp hq;have h0:0<row.length:=by lia
   have e3:row[0]=x:=by
    rw[Hg,EK h0]at Qv;exact FN Qv
   subst e2;rcases KF i with z |z
   ·subst z;exact .inl e3
   ·right;rw[<-e3];exact FE.mp hs 0 i h0 (by lia) z
  ·rw[List.getLast?_cons,<-Qv,hl];cases row with
   |nil=>simp at hn
   |cons a r=>rfl
  ·simp only[N4,M7];rw[show n+2-1=n+1 by lia,EK hn]
theorem ce{row:List Pt}(hs:row.Pairwise plt)(h:row≠[]):Kept row (am row)/\(am row).getLast?=row.head?/\(am row).head?=row.getLast?:=by
 have h0:0<row.length:=FJ.mpr h;obtain⟨h1,h2,h3⟩:=ki hs row.length h0 (EX _);rw[GQ]at h1 h2 h3;exact⟨h1,h2,by rw[h3,Gj]⟩
theorem jc{u1 u2 v1 v2 w1 w2:Int}(hu:bQ u1 u2)(hv:bQ v1 v2)(hw:bQ w1 w2)(h1:0<=u1*v2-u2*v1)(h2:0<v1*w2-v2*w1):0<u1*w2-u2*w1:=by
 unfold bQ at *;by_cases hv1:v1=0
 ·subst hv1;have S2:0<v2:=by lia
  have:=E8 (show 0<=v2 by lia) (show 0<=w1 by lia)
  simp at h2;lia
 ·have hv':0<v1:=by lia
  have PX:0<u1:=by
   rcases hu with h |⟨h,h'⟩
   ·exact h
   ·subst h;have:=FK h' hv';simp at h1;lia
  have e:v1*(u1*w2-u2*w1)=u1*(v1*w2-v2*w1)+w1*(u1*v2-u2*v1):=by grind
  have p1:=FK PX h2;have p2:=E8 (show 0<=w1 by lia) h1
  have q:0<v1*(u1*w2-u2*w1):=by lia
  exact G5 q hv'
def low(row:List Pt)(p:Pt):Prop:=∀a∈row,∀b∈row,plt a p->plt p b->0<ac a p b
theorem AS{row:List Pt}{p:Pt}:∀(st:List Pt) (n:Pt),g_ (n::st)->i8 (n::st)->gM row (n::st)->p∈st->(∀l,(n::st).getLast?=some l->plt l p)->
  ∃n' q,0<ac q p n'/\plt q p/\plt p n'/\(∀x∈row,0<=ac p n' x)/\(∀x∈row,0<=ac q p x)
 |[],n,_,_,_,hp,_=>by simp at hp
 |h::r,n,D,T,C,hp,hl=>by
  by_cases e:h=p
  ·subst e;cases r with
   |nil=>exact absurd (hl h (by simp)) (aB h)
   |cons q r'=>exact⟨n,q,T.1,D.2.1,D.1,C.1,C.2.1⟩
  ·have QV:p∈r:=by
    rcases ET.mp hp with z |z
    ·exact absurd z.symm e
    ·exact z
   exact AS r h D.tail T.tail C.tail QV (λl P8=>hl l (by rw[Gs];exact P8))
theorem md{row:List Pt}(hs:row.Pairwise plt){p:Pt}(hp:p∈am row):low row p:=by
 intro a ha b hb hap R9;have PN:row≠[]:=λz=>by rw[z]at ha;simp at ha
 obtain⟨K,Qv,Rj⟩:=ce hs PN
 have mn:∀x∈row,∀m,row.head?=some m->x=m\/plt m x:=λx hx m hm=>by
  cases row with
  |nil=>simp at hx
  |cons y r=>
   cases hm;rcases ET.mp hx with z |z
   ·exact .inl z
   ·exact .inr ((Fv.mp hs).1 x z)
 have mx:∀x∈row,∀m,row.getLast?=some m->x=m\/plt x m:=λx hx m hm=>by
  obtain⟨i,hi⟩:=F9.mp hx;have hil:=(E6.mp hi).1;rw[Gj]at hm;have hml:=(E6.mp hm).1;rcases Fu (show i<=row.length-1 by lia) with z |z
  ·right
   have h1:=FE.mp hs i (row.length-1) hil hml z;rw[(E6.mp hi).2,(E6.mp hm).2]at h1;exact h1
  ·left;rw[z,hm]at hi;exact (FN hi).symm
 cases QM:am row with
 |nil=>exact absurd QM K.ne
 |cons n st=>
  rw[QM]at K Qv Rj hp;have hn:row.getLast?=some n:=by rw[<-Rj];rfl
  have hpn:p∈st:=by
   rcases ET.mp hp with z |z
   ·rcases mx b hb n hn with y |y
    ·rw[y,<-z]at R9;exact absurd R9 (aB p)
    ·rw[z]at R9;exact absurd (aD R9 y) (aB n)
   ·exact z
  obtain⟨n',q,t,qp,pn,c1,c2⟩:=AS st n K.desc K.turns K.cover hpn (λl hl=>by
   rw[Qv]at hl;rcases mn a ha l hl with y |y
   ·rw[<-y];exact hap
   ·exact aD y hap)
  have g1:=c2 a ha;have g2:=c1 b hb;unfold ac at *;have k1:0<=(p.1-a.1) *(p.2-q.2)-(p.2-a.2) *(p.1-q.1):=by grind
  have k2:0<(p.1-q.1) *(n'.2-p.2)-(p.2-q.2) *(n'.1-p.1):=by grind
  have k3:0<=(n'.1-p.1) *(b.2-p.2)-(n'.2-p.2) *(b.1-p.1):=by grind
  have k4:=d_ (aI qp) (aI pn) (aI R9) k2 k3;have k5:=jc (aI hap) (aI qp) (aI R9) k1 k4;grind
theorem xK{row:List Pt}{p:Pt}:∀(st:List Pt) (h:Pt),g_ (h::st)->gM row (h::st)->p∈row->p ∉ h::st->plt p h->(∀l,(h::st).getLast?=some l->plt l p)->∃a∈h::st,∃b∈h::st,plt a p/\plt p b/\0<=ac a b p
 |[],h,_,_,_,_,hp,hl=>absurd (aD hp (hl h (by simp))) (aB p)
 |a::r,h,D,C,hr,QQ,hp,hl=>by
  rcases cE p a with z |z |z
  ·obtain⟨x,hx,y,hy,k⟩:=xK r a D.tail C.tail hr (λw=>QQ (ES _ w)) z (λl P8=>hl l (by rw[Gs];exact P8))
   exact⟨x,ES _ hx,y,ES _ hy,k⟩
  ·exact absurd (by rw[z];simp) QQ
  ·exact⟨a,by simp,h,by simp,z,hp,C.1 p hr⟩
theorem gap{row:List Pt}(hs:row.Pairwise plt){p:Pt}(hp:p∈row)(QQ:p ∉ am row):∃a∈am row,∃b∈am row,plt a p/\plt p b/\ac a p b<=0:=by
 have PN:row≠[]:=λz=>by rw[z]at hp;simp at hp
 obtain⟨K,Qv,Rj⟩:=ce hs PN;cases QM:am row with
 |nil=>exact absurd QM K.ne
 |cons n st=>
  rw[QM]at K Qv Rj QQ;have hn:row.getLast?=some n:=by rw[<-Rj];rfl
  have pn:plt p n:=by
   obtain⟨i,hi⟩:=F9.mp hp;have hil:=(E6.mp hi).1;rw[Gj]at hn;have hml:=(E6.mp hn).1;rcases Fu (show i<=row.length-1 by lia) with z |z
   ·have h1:=FE.mp hs i (row.length-1) hil hml z;rw[(E6.mp hi).2,(E6.mp hn).2]at h1;exact h1
   ·rw[z,hn]at hi;exact absurd (by rw[<-FN hi];simp) QQ
  obtain⟨a,ha,b,hb,k1,k2,k3⟩:=xK st n K.desc K.cover hp QQ pn (λl hl=>by
   have P8:=hl;rw[Qv]at hl;cases row with
   |nil=>simp at hp
   |cons y r=>
    cases hl;rcases ET.mp hp with z |z
    ·exact absurd (by rw[z];exact G_ P8) QQ
    ·exact (Fv.mp hs).1 p z)
  refine⟨a,ha,b,hb,k1,k2,?_⟩;unfold ac at *;grind
theorem uA{row QC:List Pt}(hs:row.Pairwise plt)(QS:QC.Pairwise plt)(h1:∀p∈QC,p∈row)(h2:∀p∈am row,p∈QC)(sub:∀(r:List Pt) (q:Pt),q∈am r->q∈r)(p:Pt):p∈am QC↔p∈am row:=by
 constructor
 ·intro hp;refine FD λQQ=>?_
  obtain⟨a,ha,b,hb,k1,k2,k3⟩:=gap hs (h1 p (sub _ _ hp)) QQ;have:=md QS hp a (h2 a ha) b (h2 b hb) k1 k2;lia
 ·intro hp;refine FD λQQ=>?_
  obtain⟨a,ha,b,hb,k1,k2,k3⟩:=gap QS (h2 p hp) QQ;have:=md hs hp a (h1 a (sub _ _ ha)) b (h1 b (sub _ _ hb)) k1 k2;lia
abbrev Szp(m:Nat)(p:P2):Prop:=Sz m p.1/\Sz m p.2
theorem tW(b:P2)(r:List P2):atI ((b::r).reverse.map pu) (-1)=some (pu b):=by
 have h:ixN ((b::r).reverse.map pu).length (-1)=some r.length:=by
  unfold ixN;simp;lia
 unfold atI;rw[h];simp
theorem tP(b a:P2)(r:List P2):atI ((b::a::r).reverse.map pu) (-2)=some (pu a):=by
 have h:ixN ((b::a::r).reverse.map pu).length (-2)=some r.length:=by
  unfold ixN;simp;lia
 unfold atI;rw[h];simp
theorem jq(P:P2):∀st:List P2,(aU P st).length<=st.length
 |[]=>EX _
 |[_]=>EX _
 |b::a::r=>by
  unfold aU;split
  ·have:=jq P (a::r);simp only[FV]at *;lia
  ·exact EX _
theorem rW(P:P2):∀(st:List P2) (q:P2),q∈aU P st->q∈st
 |[],_,h=>h
 |[_],_,h=>h
 |b::a::r,q,h=>by
  unfold aU at h;split at h
  ·exact ES _ (rW P (a::r) q h)
  ·exact h
theorem ft{row:List P2}{i:Nat}{P:P2}(h:row[i]?=some P):am (row.take (i+1))=P::aU P (am (row.take i)):=by
 rw[GO,h];exact j0 _ _
theorem gq(row:List P2):∀i,(am (row.take i)).length<=i
 |0=>by simp[am]
 |i+1=>by
  have ih:=gq row i;cases h:row[i]? with
  |none=>rw[GO,h];simp;lia
  |some P=>
   rw[ft h];have:=jq P (am (row.take i));simp only[FV];lia
theorem fe(row:List P2):∀i q,q∈am (row.take i)->q∈row
 |0,q,h=>by simp[am]at h
 |i+1,q,h=>by
  cases hi:row[i]? with
  |none=>rw[GO,hi]at h;exact fe row i q (by simpa using h)
  |some P=>
   rw[ft hi]at h;rcases ET.mp h with e |e
   ·rw[e];exact E9 hi
   ·exact fe row i q (rW P _ q e)
theorem wL(n:Int):decide (sgn n<1)=decide (n<=0):=by
 have h:sgn n<1↔n<=0:=by
  unfold sgn;split
  ·lia
  ·split <;>lia
 exact decide_eq_decide.mpr h
theorem gg(l:List P2):fI (l.map pu) none (some (-1))=l.dropLast.map pu:=by
 unfold fI HT.sIx;rw[Lk,List.dropLast_eq_take];simp
 try lia
def ao(pts:List P2):List P2:=if (ST.srt pts).length=1 then ST.srt pts else (am (ST.srt pts)).reverse.dropLast++(am (ST.srt pts).reverse).reverse.dropLast
theorem dW(a b:Pt):plt a b↔ST.ltP a b=true:=by unfold plt ST.ltP;simp
theorem iB{l:List Pt}:ST.Asc l↔l.Pairwise plt:=⟨λh=>h.imp λ{a b} k=>(dW a b).mpr k,λh=>h.imp λ{a b} k=>(dW a b).mp k⟩
theorem lM:∀{st:List Pt},g_ st->st.Pairwise (λx y=>plt y x)
 |[],_=>IX
 |[_],_=>by simp
 |b::a::r,h=>by
  have ih:=lM h.2;refine Fv.mpr ⟨λx hx=>?_,ih⟩
  rcases ET.mp hx with z |z
  ·rw[z];exact h.1
  ·exact aD ((Fv.mp ih).1 x z) h.1
theorem bM(row:List Pt)(q:Pt)(h:q∈am row):q∈row:=by
 have:=fe row row.length q;rw[GQ]at this;exact this h
theorem dI{row:List Pt}(hs:row.Pairwise plt):ST.Asc (am row).reverse:=by
 by_cases PN:row=[]
 ·subst PN;exact IX
 ·exact iB.mpr (IT.mpr (lM (ce hs PN).1.desc))
theorem pK{row QC:List Pt}(hs:row.Pairwise plt)(QS:QC.Pairwise plt)(h1:∀p∈QC,p∈row)(h2:∀p∈am row,p∈QC):am QC=am row:=by
 have e:=ST.asc_one (dI QS) (dI hs) λz=>by
  rw[Fc,Fc];exact uA hs QS h1 h2 bM z
 exact List.reverse_inj.mp e
def ng(p:Pt):Pt:=(-p.1,-p.2)
theorem gK(p:Pt):ng (ng p)=p:=by unfold ng;simp
theorem BK(l:List Pt):(l.map ng).map ng=l:=by
 rw[FI,show ng ∘ ng=id from funext gK,Pr]
theorem jU(a b c:Pt):ac (ng a) (ng b) (ng c)=ac a b c:=by unfold ac ng;grind
theorem kS{a b:Pt}(h:plt a b):plt (ng b) (ng a):=by unfold plt ng at *;simp;lia
theorem wO(P:Pt):∀st:List Pt,aU (ng P) (st.map ng)=(aU P st).map ng
 |[]=>rfl
 |[_]=>rfl
 |b::a::r=>by
  show aU (ng P) (ng b::ng a::r.map ng)=_;unfold aU;rw[jU];split
  ·exact wO P (a::r)
  ·rfl
theorem f6:∀row:List Pt,am (row.map ng)=(am row).map ng:=λrow=>by
 have key:∀(l:List Pt) (st:List Pt),(l.map ng).foldl (λst P=>P::aU P st) (st.map ng)=(l.foldl (λst P=>P::aU P st) st).map ng:=by
  intro l
  induction l with
  |nil=>intro st;rfl
  |cons p r ih=>
   intro st;rw[Ff,Hu,Hu,wO];exact ih (p::aU p st)
 exact key row []
theorem cZ{row:List Pt}(hs:row.Pairwise plt):(row.reverse.map ng).Pairwise plt:=by
 rw[FO,IT];exact hs.imp λ{a b} h=>kS h
theorem bS(row:List Pt):am row.reverse=(am (row.reverse.map ng)).map ng:=by rw[f6,BK]
theorem mE{row QC:List Pt}(hs:row.Pairwise plt)(QS:QC.Pairwise plt)(h1:∀p∈QC,p∈row)(h2:∀p∈am row.reverse,p∈QC):am QC.reverse=am row.reverse:=by
 rw[bS row,bS QC];congr 1;refine pK (cZ hs) (cZ QS) (λp hp=>?_) (λp hp=>?_)
 ·obtain⟨q,hq,rfl⟩:=EV.mp hp;exact EV.mpr ⟨q,Fc.mpr (h1 q (Fc.mp hq)),rfl⟩
 ·rw[f6]at hp;obtain⟨q,hq,rfl⟩:=EV.mp hp;exact EV.mpr ⟨q,Fc.mpr (h2 q hq),rfl⟩
theorem ends{row:List Pt}(hs:row.Pairwise plt)(h2:2<=row.length):∃mn mx t1 t2,am row=mx::t1/\am row.reverse=mn::t2/\mn∈t1/\mx∈t2/\(∀p∈row,p=mn\/plt mn p)/\(∀p∈row,p=mx\/plt p mx)/\mn∈row/\mx∈row:=by
 have PN:row≠[]:=λz=>by rw[z]at h2;simp at h2
 obtain⟨K,hl,hh⟩:=ce hs PN;have hneR:row.reverse.map ng≠[]:=by simpa using PN
 obtain⟨KR,hlR,hhR⟩:=ce (cZ hs) hneR;have e1:row.head?=some row[0]:=by rw[Hg];exact EK (by lia)
 have e2:row.getLast?=some row[row.length-1]:=by rw[Gj];exact EK (by lia)
 have l01:plt row[0] row[row.length-1]:=FE.mp hs 0 (row.length-1) (by lia) (by lia) (by lia)
 have mnA:∀p∈row,p=row[0]\/plt row[0] p:=λp hp=>by
  obtain⟨i,hi,rfl⟩:=ME.mp hp;rcases KF i with z |z
  ·left;subst z;rfl
  ·right;exact FE.mp hs 0 i (by lia) hi z
 have mxA:∀p∈row,p=row[row.length-1]\/plt p row[row.length-1]:=λp hp=>by
  obtain⟨i,hi,rfl⟩:=ME.mp hp;rcases Fu (show i<=row.length-1 by lia) with z |z
  ·right;exact FE.mp hs i (row.length-1) hi (by lia) z
  ·left;subst z;rfl
 have ne:row[0]≠row[row.length-1]:=λz=>by rw[z]at l01;exact aB _ l01
 generalize row[0]=mn at *;generalize row[row.length-1]=mx at *;have mmn:mn∈row:=Ja e1;have mmx:mx∈row:=G_ e2;rw[e1]at hl;rw[e2]at hh
 have RY:(am row.reverse).getLast?=some mx:=by
  rw[bS,JR,hlR,K3,KJ,e2];simp[gK]
 have SA:(am row.reverse).head?=some mn:=by
  rw[bS,K3,hhR,JR,J9,e1];simp[gK]
 cases hb:am row with
 |nil=>rw[hb]at hh;cases hh
 |cons x t1=>
  rw[hb]at hh hl;cases hh;cases hbR:am row.reverse with
  |nil=>rw[hbR]at SA;cases SA
  |cons y t2=>
   rw[hbR]at SA RY;cases SA;refine⟨_,_,t1,t2,rfl,rfl,?_,?_,mnA,mxA,mmn,mmx⟩
   ·cases t1 with
    |nil=>simp at hl;exact absurd hl.symm ne
    |cons z r=>rw[Gs]at hl;exact G_ hl
   ·cases t2 with
    |nil=>simp at RY;exact absurd RY ne
    |cons z r=>rw[Gs]at RY;exact G_ RY
theorem vQ(st:List Pt):st.reverse.dropLast=st.tail.reverse:=by
 cases st with
 |nil=>rfl
 |cons h t=>simp
theorem gx{l:List Pt}:l.reverse.Nodup↔l.Nodup:=by
 unfold List.Nodup;rw[IT];exact⟨λh=>h.imp λk=>Ne.symm k,λh=>h.imp λk=>Ne.symm k⟩
theorem c_:∀{l m:List Pt},l.Nodup->(∀x∈l,x∈m)->l.length<=m.length
 |[],_,_,_=>FX _
 |x::l,m,h,hs=>by
  obtain⟨h1,h2⟩:=GN.mp h;have hx:x∈m:=hs x EY;have ih:=c_ (m:=m.erase x) h2 λy hy=>(MC (λe=>h1 (by rw[<-e];exact hy))).mpr (hs y (ES _ hy))
  rw[Lh hx]at ih;have:=Gk hx;simp only[FV];lia
theorem dG(pts:List Pt):(ST.srt pts).Pairwise plt:=iB.mp (ST.srt_asc pts)
theorem f7{pts:List Pt}(h:2<=(ST.srt pts).length):ao pts=(am (ST.srt pts)).tail.reverse++(am (ST.srt pts).reverse).tail.reverse:=by
 unfold ao;rw[if_neg (by lia),vQ,vQ]
theorem ip{pts:List Pt}(h:pts≠[]):ao pts≠[]:=by
 have hs:ST.srt pts≠[]:=λz=>by
  obtain⟨p,r,rfl⟩:=List.exists_cons_of_ne_nil h;have:=(ST.srt_mem p (p::r)).mpr EY;rw[z]at this;simp at this
 by_cases h1:(ST.srt pts).length=1
 ·unfold ao;rw[if_pos h1];exact hs
 ·have h2:2<=(ST.srt pts).length:=by have:=FJ.mpr hs;lia
  obtain⟨mn,mx,t1,t2,e1,e2,m1,m2,_⟩:=ends (dG pts) h2;rw[f7 h2,e1,e2];intro z;have:t1.reverse=[]:=(LX.mp z).1;rw[List.reverse_eq_nil_iff.mp this]at m1;simp at m1
theorem b7(pts:List Pt):(ao pts).Nodup:=by
 have nd:∀{l:List Pt},l.Pairwise plt->l.Nodup:=λh=>h.imp λ{a b} k e=>by rw[e]at k;exact aB b k
 by_cases h2:2<=(ST.srt pts).length
 ·have hs:=dG pts;obtain⟨mn,mx,t1,t2,e1,e2,m1,m2,SQ,hmx,i1,i2⟩:=ends hs h2;have n1:(mx::t1).Nodup:=by rw[<-e1];exact gx.mp (nd (iB.mp (dI hs)))
  have n2:(mn::t2).Nodup:=by
   rw[<-e2,bS];have:=gx.mp (nd (iB.mp (dI (cZ hs))));refine FO.mpr (this.imp λ{a b} Qy e=>Qy ?_)
   rw[<-gK a,e,gK]
  obtain⟨x1,y1⟩:=GN.mp n1;obtain⟨x2,y2⟩:=GN.mp n2;rw[f7 h2,e1,e2,Ih,Ih,HG];refine⟨gx.mpr y1,gx.mpr y2,λp hp q hq=>?_⟩
  rintro rfl;have p1:p∈t1:=Fc.mp hp;have p2:p∈t2:=Fc.mp hq;have b1:p∈am (ST.srt pts):=by rw[e1];exact ES _ p1
  have b2:p∈am (ST.srt pts).reverse:=by rw[e2];exact ES _ p2
  have pr:=bM _ _ b1;have l1:plt mn p:=(SQ p pr).resolve_left λe=>x2 (by rw[<-e];exact p2)
  have l2:plt p mx:=(hmx p pr).resolve_left λe=>x1 (by rw[<-e];exact p1)
  have d1:=md hs b1 mn i1 mx i2 l1 l2;have b3:ng p∈am ((ST.srt pts).reverse.map ng):=by rw[f6];exact EV.mpr ⟨p,b2,rfl⟩
  have d2:=md (cZ hs) b3 (ng mx) (EV.mpr ⟨mx,Fc.mpr i2,rfl⟩) (ng mn) (EV.mpr ⟨mn,Fc.mpr i1,rfl⟩) (kS l2) (kS l1);rw[jU]at d2;unfold ac at d1 d2;grind
 ·unfold ao;split
  ·exact nd (dG pts)
  ·have e:ST.srt pts=[]:=GH.mp (by lia)
   rw[e];exact MK
theorem bH(pts:List Pt):∀p∈ao pts,p∈pts:=λp hp=>by
 unfold ao at hp;split at hp
 ·exact (ST.srt_mem p pts).mp hp
 ·rcases FA.mp hp with h |h
  ·exact (ST.srt_mem p pts).mp (bM _ _ (Fc.mp (MF _ h)))
  ·exact (ST.srt_mem p pts).mp (Fc.mp (bM _ _ (Fc.mp (MF _ h))))
theorem jx(pts:List Pt):(ao pts).length<=pts.length:=c_ (b7 pts) (bH pts)
theorem gB(pts:List Pt):ao (ao pts)=ao pts:=by
 by_cases h2:2<=(ST.srt pts).length
 ·have hs:=dG pts;obtain⟨mn,mx,t1,t2,e1,e2,m1,m2,SQ,hmx,i1,i2⟩:=ends hs h2;have ec:=f7 h2
  have mem1:∀p∈am (ST.srt pts),p∈ao pts:=λp hp=>by
   rw[ec,e1,e2,Ih,Ih];rw[e1]at hp;rcases ET.mp hp with z |z
   ·rw[z];exact Fg _ (Fc.mpr m2)
   ·exact FH _ (Fc.mpr z)
  have mem2:∀p∈am (ST.srt pts).reverse,p∈ao pts:=λp hp=>by
   rw[ec,e1,e2,Ih,Ih];rw[e2]at hp;rcases ET.mp hp with z |z
   ·rw[z];exact FH _ (Fc.mpr m1)
   ·exact Fg _ (Fc.mpr z)
  have QS:=dG (ao pts);have sub:∀p∈ST.srt (ao pts),p∈ST.srt pts:=λp hp=>(ST.srt_mem p pts).mpr (bH pts p ((ST.srt_mem p _).mp hp))
  have q1:=pK hs QS sub λp hp=>(ST.srt_mem p _).mpr (mem1 p hp)
  have q2:=mE hs QS sub λp hp=>(ST.srt_mem p _).mpr (mem2 p hp)
  have len:2<=(ST.srt (ao pts)).length:=by
   have a1:mn∈ST.srt (ao pts):=(ST.srt_mem _ _).mpr (mem1 mn (by rw[e1];exact ES _ m1))
   have a2:mx∈ST.srt (ao pts):=(ST.srt_mem _ _).mpr (mem1 mx (by rw[e1];exact EY))
   have ne:mn≠mx:=λz=>by
    have nd:=b7 pts;rw[ec,e1,e2,Ih,Ih,HG]at nd;exact nd.2.2 mn (Fc.mpr m1) mx (Fc.mpr m2) z
   have:=c_ (l:=[mn,mx]) (m:=ST.srt (ao pts)) (by simp[ne]) (λx hx=>by
    rcases ET.mp hx with z |z
    ·rw[z];exact a1
    ·rw[E5.mp z];exact a2)
   exact this
  rw[f7 len,q1,q2,<-ec]
 ·have e:ao pts=ST.srt pts:=by
   unfold ao;split
   ·rfl
   ·have e:ST.srt pts=[]:=GH.mp (by lia)
    rw[e];rfl
  rw[e];have e3:ST.srt (ST.srt pts)=ST.srt pts:=ST.asc_srt (ST.srt_asc pts);unfold ao;rw[e3];split
  ·rfl
  ·have e:ST.srt pts=[]:=GH.mp (by lia)
   rw[e];rfl
def u5:List U->Out->Prop:=λus o=>∃P Q R:P2,us=[pu P,pu Q,pu R]/\Szp 5000 P/\Szp 5000 Q/\Szp 5000 R/\o=.val (.int (sgn (ac P Q R)))
theorem jA(T:Txt w K mg):a9 P w K mg base (CXF P w) 2 T.aaJ.a T.aaJ.d ["P","Q","R"] (spU K (u5)):=by
 refine aW T.aaJ.F Ao (λus o h=>?_) (λPV A outer s H E O us o hr h=>?_)
 ·obtain⟨P,Q,R,rfl,⟨p1,p2⟩,⟨q1,q2⟩,⟨r1,r2⟩,rfl⟩:=h;rfl
 obtain⟨P,Q,R,rfl,⟨p1,p2⟩,⟨q1,q2⟩,⟨r1,r2⟩,rfl⟩:=h;refine Ws.nox ?_;refine af (bg (aw ((sL T).mono (by decide)) hr rfl T.aaU.m T.aaU.F.kp T.aaU.b au (ae (bA (be (bA (ay (aa 1 rfl) ai rfl rfl) (ay (aa 0 rfl) ai rfl rfl)) (bA (ay (aa 2 rfl) ai rfl rfl) (ay (aa 0 rfl) ai rfl rfl)) (by walk_at"mul")) (be (bA (ay (aa 1 rfl) ai rfl rfl) (ay (aa 0 rfl) ai rfl rfl)) (bA (ay (aa 2 rfl) ai rfl rfl) (ay (aa 0 rfl) ai rfl rfl)) (by walk_at"mul"))) ak bK) ⟨_,rfl,rfl⟩) ?_)
 exact rfl
def jK:List U->Out->Prop:=λus o=>∃row:List P2,us=[lp row]/\(∀p∈row,Szp 5000 p)/\row.length<=900/\o=.new ((am row).reverse.map pu)
theorem gN(T:Txt w K mg):a9 P w K mg base (CXF P w) 3 T.aag.a T.aag.d ["row"] (spU K (jK)):=by
 refine aW T.aag.F eK (λus o h=>?_) (λPV A outer s H E O us o hr h=>?_)
 ·obtain⟨row,rfl,sz,hl,rfl⟩:=h;rfl
 obtain⟨row,rfl,sz,hl,rfl⟩:=h;refine Ws.nox ?_;refine af (dS (i:=1) eK.nd rfl (Or.inl rfl) (cT bj) ?_);refine af (d7 (λst:List P2=>[some (.val (lp row)),some (.own (st.reverse.map pu)),none]) (λi st=>st=am (row.take i)) rfl PassesOwn.never (c9 (aa 0 rfl) (.inl rfl)) ?h0 ?hs ?hd)
 case h0=>exact⟨[],rfl,rfl,rfl,trivial⟩
 case hs=>
  rintro H0 i x _ hx rfl;obtain⟨P,hP,mP,rfl⟩:=t7 hx;have hi:i<row.length:=aL hP;have sP:=sz P mP;refine⟨_,(eI (i:=2) eK.nd rfl (Or.inl rfl)),?_⟩;have len0:=gq row i;refine kE (λps=>SubP [some (.val (lp row)),some (.own ((aU P (am (row.take i))).reverse.map pu)),some (.val (pu P))] ps) (il (λs2:List P2=>[some (.val (lp row)),some (.own (s2.reverse.map pu)),some (.val (pu P))]) (λm s2=>m=s2.length/\aU P s2=aU P (am (row.take i))/\(∀p∈s2,p∈row)/\s2.length<=i) PassesOwn.never ?h0 ?hs) ?hj
  case h0=>exact⟨_,_,⟨rfl,rfl,λq hq=>fe row i q hq,len0⟩,rfl,rfl,rfl,trivial⟩
  case hs=>
   rintro m s2 ⟨rfl,e2,sub,Q3⟩
   match s2,e2,sub,Q3 with
   |[],e2,sub,Q3=>
    refine⟨false,?_,λh=>(nomatch h),λh ps Qh=>e2 ▸ Qh⟩
    exact (Tw.t (iQ (aF f8 (b8 1 rfl rfl T.aae) ai) rfl))
   |[b],e2,sub,Q3=>
    refine⟨false,?_,λh=>(nomatch h),λh ps Qh=>e2 ▸ Qh⟩
    exact (Tw.t (iQ (aF f8 (b8 1 rfl rfl T.aae) ai) rfl))
   |b::a::r,e2,sub,Q3=>
    have sa:=sz a (sub a (by simp))
    have sb:=sz b (sub b (by simp))
    have e1:decide ((1:Int)<((((b::a::r).reverse.map pu).length:Nat):Int))=true:=decide_eq_true (by simp;lia)
    refine⟨decide ((1:Int)<((((b::a::r).reverse.map pu).length:Nat):Int)) && decide (sgn (ac a b P)<1),?_,λh=>?_,λh ps Qh=>?_⟩
    ·exact (Tw.t (sJ (aF f8 (b8 1 rfl rfl T.aae) ai) (λhz=>(qj (aF gj (aw ((jA T).mono (by decide)) hr rfl T.aaJ.m T.aaJ.F.kp T.aaJ.b au (ae (dU 1 rfl (bN ai) (tP b a r)) (ae (dU 1 rfl (bN ai) (tW b (a::r))) (ae (aa 2 rfl) ak ag) aR) aR) ⟨a,b,P,rfl,sa,sb,sP,rfl⟩) ai)))))
    ·rw[e1,IY,wL]at h;have hd:=dTb h;refine af (yL 1 rfl (by simp) (aG ?_))
     refine⟨_,a::r,?_,⟨rfl,?_,λq hq=>sub q (ES _ hq),?_⟩,rfl,?_,rfl,trivial⟩
     ·simp
     ·rw[←e2];conv=>rhs;unfold aU
      rw[if_pos hd]
     ·simp only[FV]at *;lia
     ·exact congrArg (λl=>some (Sl.own l)) (by simp)
    ·rw[e1,IY,wL]at h;have hd:=dFb h
     have e3:aU P (b::a::r)=b::a::r:=by conv=>lhs;unfold aU
                                        rw[if_neg hd]
     rw[<-e2,e3];exact Qh
  case hj=>
   intro ps Qh;refine du ?_ Qh;have e4:=ft hP;have SD:=jq P (am (row.take i));refine af (cB 1 rfl (aa 2 rfl) (by rw[EM,FR];exact aE (by lia)) (aG ?_))
   refine⟨_,rfl,rfl,?_,trivial⟩;exact congrArg (λl=>some (Sl.own l)) (by rw[e4];simp)
 case hd=>
  rintro st ps QM Qh;refine du ?_ Qh;refine af (fi 1 rfl ?_);rw[QM];simp
theorem yf{m:Nat}{pts:List P2}(h:∀p∈pts,Szp m p):∀p∈ST.srt pts,Szp m p:=λp hp=>h p ((ST.srt_mem p pts).mp hp)
theorem iA(row:List P2):(am row).length<=row.length:=by
 have:=gq row row.length
 rwa [GQ]at this
def qF:List U->Out->Prop:=λus o=>∃pts:List P2,us=[lp pts]/\(∀p∈pts,Szp 5000 p)/\pts.length<64/\pts≠[]/\o=.new ((ao pts).map pu)
theorem jM(T:Txt w K mg):a9 P w K mg base (CXF P w) 4 T.aaC.a T.aaC.d ["points"] (spU K (qF)):=by
 refine aW T.aaC.F fR (λus o h=>?_) (λPV A outer s H E O us o hr h=>?_)
 ·obtain⟨pts,rfl,sz,hl,PN,rfl⟩:=h;rfl
 obtain⟨pts,rfl,sz,hl,PN,rfl⟩:=h;refine Ws.nox ?_;have hml:((pts.map pu).length:Int)=(pts.length:Int):=by rw[EM]
 have hpos:0<pts.length:=FJ.mpr PN;refine af (br (aF bO (ar (bJ rfl) rfl T.aae Fp (ae (aa 0 rfl) ak ag)) ai) (by rw[hml];exact decide_eq_false (by lia)) (aG ?_))
 have sl:=ST.srt_len pts;have hms:(((ST.srt pts).map pu).length:Int)=((ST.srt pts).length:Int):=by rw[EM]
 have szs:=yf sz;by_cases h1:(ST.srt pts).length=1
 ·refine af (dS (i:=1) fR.nd rfl (Or.inl rfl) (gr rfl (fZ hr) rfl T.aaL rfl T.aa8 (aa 0 rfl) hl ag) ?_);refine af (c7 (aF bO (b8 1 rfl rfl T.aae) ai) (by rw[hms];exact decide_eq_true (by lia)) ?_)
  refine af (fi 1 rfl ?_);show Out.new _=Out.new _;unfold ao;rw[if_pos h1]
 ·refine af (aV (i:=1) fR.nd rfl (Or.inl rfl) (EvN.ev (gr rfl (fZ hr) rfl T.aaL rfl T.aa8 (aa 0 rfl) hl ag)) ?_);refine af (br (aF bO (ar (bJ rfl) rfl T.aae Fp (ae (aa 1 rfl) ak ag)) ai) (by rw[hms];exact decide_eq_false (by lia)) (aG ?_))
  have b1:=iA (ST.srt pts);have b2:=iA (ST.srt pts).reverse;rw[FR]at b2;refine af (aV (i:=2) fR.nd rfl (Or.inl rfl) (EvN.ev (ba ((gN T).mono (by decide)) hr rfl T.aag.m T.aag.F.kp T.aag.b au (ae (aa 1 rfl) ak ag) ⟨ST.srt pts,rfl,szs,by lia,rfl⟩)) ?_)
  refine af (aV (i:=3) fR.nd rfl (Or.inl rfl) (EvN.ev (ba ((gN T).mono (by decide)) hr rfl T.aag.m T.aag.F.kp T.aag.b au (ae (EvN.ev (DE (aa 1 rfl) (bN ai) (.inl rfl))) ak aR) ⟨(ST.srt pts).reverse,by rw[lp,He],λp hp=>szs p (Fc.mp hp),by rw[FR];lia,rfl⟩)) ?_)
  refine af (cw (lJ (EvN.ev (cP (aa 2 rfl) dR (dZ (bN ai)) (.inl rfl))) (EvN.ev (cP (aa 3 rfl) dR (dZ (bN ai)) (.inl rfl))) (by rw[gg,gg,EM,EM,G9,G9,FR,FR];exact FT (aE (by lia)))) ?_)
  show Out.new _=Out.new _;unfold ao;rw[if_neg h1,gg,gg,<-F1]
def ap(a b c d e f:Int)(p:P2):P2:=(a*p.1+b*p.2+e,c*p.1+d*p.2+f)
theorem Bh{m:Nat}{a b c d e f:Int}{p:P2}(sa:Sz 500 a)(sb:Sz 500 b)(sc:Sz 500 c)(sd:Sz 500 d)(se:Sz 500 e)(sf:Sz 500 f)(hm:m<=3000)(s:Szp m p):Szp (m+510) (ap a b c d e f p):=by
 have key:∀{x y z:Int},Sz 500 x->Sz 500 y->Sz 500 z->Sz (m+510) (x*p.1+y*p.2+z):=λsx sy sz=>by
  have h1:=L2.Sz.add' (L2.Sz.mul sx s.1) (L2.Sz.mul sy s.2);have h2:=L2.Sz.add' h1 sz;exact h2.mono (by lia)
 exact⟨key sa sb se,key sc sd sf⟩
def Aa:List U->Out->Prop:=λus o=>∃(pts:List P2) (a b c d e f:Int),us=[lp pts,mv a b c d e f]/\Mv a b c d e f/\(∀p∈pts,Szp 3000 p)/\(∀p∈pts,Szp 5000 (ap a b c d e f p))/\pts≠[]/\pts.length<64/\o=.new ((ao (pts.map (ap a b c d e f))).map pu)
theorem kq(T:Txt w K mg):a9 P w K mg base (CXF P w) 5 T.aar.a T.aar.d ["land","move"] (spU K (Aa)):=by
 refine aW T.aar.F fN (λus o h=>?_) (λPV A outer s H E O us o hr h=>?_)
 ·obtain⟨pts,a,b,c,d,e,f,rfl,M,sz,sy,PN,hl,rfl⟩:=h;rfl
 obtain⟨pts,a,b,c,d,e,f,rfl,M,sz,sy,PN,hl,rfl⟩:=h;refine Ws.nox ?_;refine af (cw (ba ((jM T).mono (by decide)) hr rfl T.aaC.m T.aaC.F.kp T.aaC.b au (ae (EvN.ev (fK (ys:=(pts.map λp=>pu (ap a b c d e f p))) rfl (blk (aj eQ) ["land","move","P"] [2] rfl rfl rfl rfl (by decide+kernel)) (c9 (aa 0 rfl) (.inl rfl)) (λ_ _ _ _=>bi (i:=2) fN.nd rfl (Or.inl rfl)) (e_ (by decide)) ?clen ?csz (λ_ _=>trivial) ?celt)) ak cU) ⟨pts.map (ap a b c d e f),by rw[lp,FI];rfl,λp hp=>by obtain⟨q,hq,rfl⟩:=EV.mp hp;exact sy q hq,by rw[EM];exact hl,by simpa using PN,rfl⟩) ?_)
 case clen=>simp
 case csz=>rw[EM];exact FT (aE (by lia))
 case celt=>
  intro C s' H' fp j x y hx hy;obtain⟨p,hp,mp,rfl,rfl⟩:=eF hx hy;exact (aw ((h9 T).mono (by decide)) hr rfl T.aat.m T.aat.F.kp T.aat.b au (ae (aa 2 rfl) (ae (aa 1 rfl) ak ag) ag) ⟨p.1,p.2,a,b,c,d,e,f,rfl,M,(sz p mp).1.mono (by decide),(sz p mp).2.mono (by decide),rfl⟩)
 exact rfl
theorem rC{l m:List Pt}(h:ST.srt l=ST.srt m):ao l=ao m:=by unfold ao;rw[h]
theorem l6{l m:List Pt}(h:∀z,z∈l↔z∈m):ST.srt l=ST.srt m:=ST.asc_one (ST.srt_asc l) (ST.srt_asc m) λz=>by rw[ST.srt_mem,ST.srt_mem];exact h z
theorem bU{pts:List Pt}(h:¬ 2<=(ST.srt pts).length):ao pts=ST.srt pts:=by
 unfold ao;split
 ·rfl
 ·have e:ST.srt pts=[]:=GH.mp (by lia)
  rw[e];rfl
section
variable {f:Pt→Pt}
theorem yU(hf:∀a b,plt a b->plt (f a) (f b))(l:List Pt):ST.srt (l.map f)=(ST.srt l).map f:=by
 refine ST.asc_one (ST.srt_asc _) (iB.mpr (FO.mpr ((dG l).imp λ{a b} h=>hf a b h))) λz=>?_
 rw[ST.srt_mem,EV,EV];exact⟨λ⟨x,hx,e⟩=>⟨x,(ST.srt_mem x l).mpr hx,e⟩,λ⟨x,hx,e⟩=>⟨x,(ST.srt_mem x l).mp hx,e⟩⟩
theorem r8(hd:∀a b c,ac (f a) (f b) (f c)<=0↔ac a b c<=0)(P:Pt):∀st:List Pt,aU (f P) (st.map f)=(aU P st).map f
 |[]=>rfl
 |[_]=>rfl
 |b::a::r=>by
  show aU (f P) (f b::f a::r.map f)=_;unfold aU;by_cases h:ac a b P<=0
  ·rw[if_pos h,if_pos ((hd a b P).mpr h)];exact r8 hd P (a::r)
  ·rw[if_neg h,if_neg λz=>h ((hd a b P).mp z)];rfl
theorem lR(hd:∀a b c,ac (f a) (f b) (f c)<=0↔ac a b c<=0)(row:List Pt):am (row.map f)=(am row).map f:=by
 have key:∀(l:List Pt) (st:List Pt),(l.map f).foldl (λst P=>P::aU P st) (st.map f)=(l.foldl (λst P=>P::aU P st) st).map f:=by
  intro l
  induction l with
  |nil=>intro st;rfl
  |cons p r ih=>
   intro st;rw[Ff,Hu,Hu,r8 hd];exact ih (p::aU p st)
 exact key row []
theorem oJ(hf:∀a b,plt a b->plt (f a) (f b))(hd:∀a b c,ac (f a) (f b) (f c)<=0↔ac a b c<=0)(l:List Pt):ao (l.map f)=(ao l).map f:=by
 unfold ao;rw[yU hf,EM,<-He,lR hd,lR hd];split
 ·rfl
 ·rw[F1,Lk,Lk,He,He]
end
def scl(k:Int)(p:Pt):Pt:=(k*p.1,k*p.2)
theorem sT{k:Int}(hk:0<k)(a b:Pt)(h:plt a b):plt (scl k a) (scl k b):=by
 unfold plt scl at *;rcases h with h |⟨h1,h2⟩
 ·exact .inl (KA h hk)
 ·exact .inr ⟨by rw[h1],KA h2 hk⟩
theorem Ae{k:Int}(hk:0<k)(a b c:Pt):ac (scl k a) (scl k b) (scl k c)<=0↔ac a b c<=0:=by
 have e:ac (scl k a) (scl k b) (scl k c)=(k*k) *ac a b c:=by unfold ac scl;grind
 have kk:0<k*k:=FK hk hk;rw[e];constructor
 ·intro h;refine FD λz=>?_
  have:=FK kk (show 0<ac a b c by lia)
  lia
 ·intro h;have:=E8 (show 0<=k*k by lia) (show 0<=- ac a b c by lia)
  rw[MN]at this;lia
theorem gv(p:Pt):scl 1 p=p:=by unfold scl;simp
def j5:List Int->Int
 |[]=>0
 |a::l=>l.foldl min a
theorem gU:∀(l:List Int) (a:Int),l.foldl min a∈a::l
 |[],a=>by simp
 |b::l,a=>by
  have:=gU l (min a b);rw[Hu];rcases ET.mp this with e |e
  ·rw[e];rcases Mn a b with h |h
   ·rw[Int.min_eq_left h];simp
   ·rw[Int.min_eq_right h];simp
  ·exact ES _ (ES _ e)
theorem hU:∀(l:List Int) (a:Int),∀x∈a::l,l.foldl min a<=x
 |[],a,x,h=>by simp at h;rw[h];exact Kt _
 |b::l,a,x,h=>by
  have ih:=hU l (min a b);rw[Hu];have h0:=ih (min a b) EY;rcases ET.mp h with rfl |h
  ·lia
  ·rcases ET.mp h with rfl |h
   ·lia
   ·exact ih x (ES _ h)
theorem bR{l:List Int}(h:l≠[]):j5 l∈l/\∀a∈l,j5 l<=a:=by
 cases l with
 |nil=>exact absurd rfl h
 |cons a l=>exact⟨gU l a,hU l a⟩
theorem xF{a b:Int}(h:a<=b):sgn a<=sgn b:=by
 unfold sgn;split <;>split <;>(try split) <;>(try split) <;>lia
theorem AH{l:List Int}(h:l≠[]):sgn (j5 l)∈l.map sgn/\∀a∈l.map sgn,sgn (j5 l)<=a:=by
 obtain⟨h1,h2⟩:=bR h;refine⟨FL h1,λa ha=>?_⟩
 obtain⟨b,hb,rfl⟩:=EV.mp ha;exact xF (h2 b hb)
abbrev gp(l:List P2)(i:Nat):P2:=l.getD i (0,0)
def nxt(l:List P2)(i:Nat):P2:=gp l ((i+1)%l.length)
def sdl(l:List P2):List (P2×P2):=(F3 l.length).map λi=>(gp l i,nxt l i)
abbrev pq(s:P2×P2):U:=.tup [pu s.1,pu s.2]
theorem dE{l:List P2}{i:Nat}(h:i<l.length):l[i]?=some (gp l i):=by simp[gp,h]
theorem cG{l:List P2}{i:Nat}(h:i<l.length):gp l i∈l:=E9 (dE h)
theorem iV(l:List U):fI l (some 1) none=l.drop 1:=by
 unfold fI HT.sIx;cases l with
 |nil=>simp
 |cons a l=>simp
theorem sM(l:List U):fI l none (some 1)=l.take 1:=by
 unfold fI HT.sIx;cases l with
 |nil=>simp
 |cons a l=>simp
theorem yh(l:List P2):KH (λa b=>U.tup [a,b]) (l.map pu) (fI (l.map pu) (some 1) none++fI (l.map pu) none (some 1))=(sdl l).map pq:=by
 rw[iV,sM];apply HH;intro i;unfold sdl;by_cases hi:i<l.length
 ·have e1:(l.map pu)[i]?=some (pu (gp l i)):=by rw[EW,dE hi];rfl
  have e2:((l.map pu).drop 1++(l.map pu).take 1)[i]?=some (pu (nxt l i)):=by
   unfold nxt;by_cases hj:i+1<l.length
   ·rw[Fh (by simp;lia),HW,Nat.add_comm,FW hj,EW,dE hj];rfl
   ·have e:i+1=l.length:=by lia
    rw[Fj (by simp;lia),e,Mo]
    rw[show i-((l.map pu).drop 1).length=0 by simp;lia,GW (by lia),EW,dE (by lia)];rfl
  rw[Hy.mpr ⟨_,_,e1,e2,rfl⟩,FI,EW,Hj hi];rfl
 ·rw[FC (by simp;lia),FC (by simp;lia)]
theorem gu(l:List P2):(sdl l).length=l.length:=by simp[sdl]
theorem bX{l:List P2}{s:P2×P2}(h:s∈sdl l):s.1∈l/\s.2∈l:=by
 obtain⟨i,hi,rfl⟩:=EV.mp h;have PY:=Fo.mp hi;exact⟨cG PY,cG (HF _ (by lia))⟩
def qO:List U->Out->Prop:=λus o=>∃l:List P2,us=[lp l]/\l.length<=900/\o=.new ((sdl l).map pq)
theorem gd(T:Txt w K mg):a9 P w K mg base (CXF P w) 1 T.aap.a T.aap.d ["land"] (spU K (qO)):=by
 refine aW T.aap.F xq (λus o h=>?_) (λPV A outer s H E O us o hr h=>?_)
 ·obtain⟨l,rfl,hl,rfl⟩:=h;rfl
 obtain⟨l,rfl,hl,rfl⟩:=h;refine Ws.nox ?_;have PL:(fI (l.map pu) (some 1) none++fI (l.map pu) none (some 1)).length=l.length:=by rw[iV,sM];simp;lia
 refine af (cw (uQ rfl rfl T.aaK rfl T.aa5 (aa 0 rfl) (.inl rfl) (EvN.ev (lJ (EvN.ev (cP (aa 0 rfl) (dZ ai) dR (.inl rfl))) (EvN.ev (cP (aa 0 rfl) dR (dZ ai) (.inl rfl))) (by rw[<-FM,PL];exact FT (aE (by lia))))) (.inl rfl) (by rw[PL,EM]) (by rw[EM];lia) ag bK) ?_)
 rw[yh]
def btw(P Q R:P2):Bool:=decide (ac P Q R=0) && (ST.leP P R && ST.leP R Q)
def nA(l:List P2)(p:P2):List Int:=(sdl l).map λs=>ac s.1 s.2 p
def whr(l:List P2)(p:P2):Int:=if l.length<3 then (if btw (gp l 0) (gp l (l.length-1)) p=true then 0 else -1) else sgn (j5 (nA l p))
theorem Dp{l:List P2}(h:0<l.length):atI (l.map pu) 0=some (pu (gp l 0)):=nQ (i:=0) rfl (by rw[EW,dE h];rfl)
theorem t8{l:List P2}(h:0<l.length):atI (l.map pu) (-1)=some (pu (gp l (l.length-1))):=by
 have e:ixN (l.map pu).length (-1)=some (l.length-1):=by
  unfold ixN;simp;lia
 unfold atI;rw[e];show (l.map pu)[l.length-1]?=_;rw[EW,dE (by lia)];rfl
def gst(s:P2×P2):Int:=((Ig (s.2.1-s.1.1) (s.2.2-s.1.2):Nat):Int)
def crs(s:P2×P2):Int:=s.1.1*s.2.2-s.1.2*s.2.1
def area(l:List P2):Int:=((sdl l).map crs).sum
def xj(l:List P2):Int:=((sdl l).map gst).sum
def pin(l:List P2):Int:=if l.length<3 then 0 else (area l-xj l+2)/2
theorem ji{s:P2×P2}(h:s.1≠s.2):0<gst s:=by
 unfold gst
 have:Ig (s.2.1-s.1.1) (s.2.2-s.1.2)≠0:=λe=>by
  have:=Int.gcd_eq_zero_iff.mp e;exact h (GC (by lia) (by lia))
 lia
def ev(p:P2):Int:=if p.1%2=0/\p.2%2=0 then 1 else 0
theorem sE(l:List P2):(sdl l).map (·.1)=l:=by
 apply HH;intro i;unfold sdl;rw[FI];by_cases hi:i<l.length
 ·rw[EW,Hj hi,dE hi];rfl
 ·rw[FC (by simp;lia),FC (by lia)]
theorem sK(l:List P2):(sdl l).map (·.2)=l.drop 1++l.take 1:=by
 apply HH;intro i;unfold sdl;rw[FI];by_cases hi:i<l.length
 ·rw[EW,Hj hi];show some (nxt l i)=_;unfold nxt;by_cases hj:i+1<l.length
  ·rw[Fh (by simp;lia),HW,show 1+i=i+1 by lia,FW hj,dE hj]
  ·have e:i+1=l.length:=by lia
   rw[Fj (by simp;lia),e,Mo]
   rw[show i-(l.drop 1).length=0 by simp;lia,GW (by lia),dE (by lia)]
 ·rw[FC (by simp;lia),FC (by simp;lia)]
theorem Co{l:List P2}(hn:l.Nodup)(h2:2<=l.length):∀s∈sdl l,s.1≠s.2:=λs hs e=>by
 obtain⟨i,hi,rfl⟩:=EV.mp hs;have PY:=Fo.mp hi;have hj:(i+1)%l.length<l.length:=HF _ (by lia)
 have e':gp l i=gp l ((i+1)%l.length):=e;have:l[i]?=l[(i+1)%l.length]?:=by rw[dE PY,dE hj,e']
 have:=(Jb PY hn).mp this;by_cases hk:i+1<l.length
 ·rw[FW hk]at this;lia
 ·have e:i+1=l.length:=by lia
  rw[e,Mo]at this;lia
theorem rG{m n:Nat}{l:List P2}(h:m<=n)(k:∀p∈l,Szp m p):∀p∈l,Szp n p:=λp hp=>⟨(k p hp).1.mono h,(k p hp).2.mono h⟩
def vI:List U->Out->Prop:=λus o=>∃l:List P2,us=[lp l]/\l.length<=900/\(∀p∈l,Szp 2500 p)/\o=.val (.int (area l))
theorem jN(T:Txt w K mg):a9 P w K mg base (CXF P w) 2 T.aaq.a T.aaq.d ["land"] (spU K (vI)):=by
 refine aW T.aaq.F dQ (λus o h=>?_) (λPV A outer s H E O us o hr h=>?_)
 ·obtain⟨l,rfl,hl,sz,rfl⟩:=h;rfl
 obtain⟨l,rfl,hl,sz,rfl⟩:=h;refine Ws.nox ?_;refine af (bg (ar (iN rfl ) rfl T.aa4 M8 (ae (EvN.ev (fK (ys:=(((sdl l).map crs).map U.int)) rfl (blk (aj eR) ["land","A","B"] [1,2] rfl rfl rfl rfl (by decide+kernel)) (c9 (EvN.ev (ba ((gd T).mono (by decide)) hr rfl T.aap.m T.aap.F.kp T.aap.b au (ae (aa 0 rfl) ak ag) ⟨l,rfl,hl,rfl⟩)) (.inl rfl)) (λ_ _ _ _=>gf rfl (bC (bi (i:=1) dQ.nd rfl (Or.inl rfl)) (bC (bi (i:=2) dQ.nd rfl (Or.inl rfl)) ef))) (fj (js:=[1,2]) (by decide)) ?clen ?csz ?dom ?celt)) ak cU)) ?_)
 case clen=>simp
 case csz=>simp only[gu,EM];exact FT (aE (by lia))
 case dom=>
  intro x hx;obtain⟨s,_,rfl⟩:=EV.mp hx;exact⟨_,rfl,rfl⟩
 case celt=>
  intro C s' H' fp j x y hx hy;rw[FI]at hy;obtain⟨s,hs,ms,rfl,rfl⟩:=eF hx hy;obtain⟨m1,m2⟩:=bX ms;have z1:=(sz _ m1).1;have z2:=(sz _ m1).2;have z3:=(sz _ m2).1;have z4:=(sz _ m2).2;exact (bA (be (ay (aa 1 rfl) ai rfl rfl) (ay (aa 2 rfl) ai rfl rfl) (by walk_at"mul")) (be (ay (aa 1 rfl) ai rfl rfl) (ay (aa 2 rfl) ai rfl rfl) (by walk_at"mul")))
 exact rfl
theorem pN{done:List Pt}:∀{st:List Pt},gM done st->∀(k:Nat) {a b:Pt},st[k]?=some b->st[k+1]?=some a->∀q∈done,0<=ac a b q
 |[],_,k,_,_,h,_=>by simp at h
 |[_],_,k,_,_,_,h=>by simp at h
 |x::y::r,C,0,a,b,h1,h2=>by
  simp at h1 h2;subst h1;subst h2;exact C.1
 |x::y::r,C,k+1,a,b,h1,h2=>pN C.2 k (by simpa using h1) (by simpa using h2)
theorem oG:∀{st:List Pt},i8 st->∀(k:Nat) {a b c:Pt},st[k]?=some c->st[k+1]?=some b->st[k+2]?=some a->0<ac a b c
 |[],_,k,_,_,_,h,_,_=>by simp at h
 |[_],_,k,_,_,_,_,h,_=>by simp at h
 |[_,_],_,k,_,_,_,_,_,h=>by simp at h
 |x::y::z::r,C,0,a,b,c,h1,h2,h3=>by
  simp at h1 h2 h3;subst h1;subst h2;subst h3;exact C.1
 |x::y::z::r,C,k+1,a,b,c,h1,h2,h3=>oG C.2 k (by simpa using h1) (by simpa using h2) (by simpa using h3)
theorem xA{st:List Pt}{i:Nat}{a b:Pt}(h1:st.reverse[i]?=some a)(h2:st.reverse[i+1]?=some b):∃k,st[k]?=some b/\st[k+1]?=some a:=by
 have l2:i+1<st.length:=by have:=(E6.mp h2).1;simpa using this
 rw[GF (by lia)]at h1
 rw[GF l2]at h2;exact⟨st.length-1-(i+1),h2,by rw[<-h1];congr 1;lia⟩
theorem ux{st:List Pt}{i:Nat}{a b c:Pt}(h1:st.reverse[i]?=some a)(h2:st.reverse[i+1]?=some b)(h3:st.reverse[i+2]?=some c):∃k,st[k]?=some c/\st[k+1]?=some b/\st[k+2]?=some a:=by
 have l3:i+2<st.length:=by have:=(E6.mp h3).1;simpa using this
 rw[GF (by lia)]at h1
 rw[GF (by lia)]at h2
 rw[GF l3]at h3;exact⟨st.length-1-(i+2),h3,by rw[<-h2];congr 1;lia,by rw[<-h1];congr 1;lia⟩
theorem fU{row:List Pt}(hs:row.Pairwise plt)(h:row≠[]){i:Nat}{a b:Pt}(h1:(am row).reverse[i]?=some a)(h2:(am row).reverse[i+1]?=some b):∀q∈row,0<=ac a b q:=by
 obtain⟨k,e1,e2⟩:=xA h1 h2;exact pN (ce hs h).1.cover k e1 e2
theorem gW{row:List Pt}(hs:row.Pairwise plt)(h:row≠[]){i:Nat}{a b c:Pt}(h1:(am row).reverse[i]?=some a)(h2:(am row).reverse[i+1]?=some b)(h3:(am row).reverse[i+2]?=some c):0<ac a b c:=by
 obtain⟨k,e1,e2,e3⟩:=ux h1 h2 h3;exact oG (ce hs h).1.turns k e1 e2 e3
theorem fq{row:List Pt}{i:Nat}{a:Pt}(h1:(am row.reverse).reverse[i]?=some a):(am (row.reverse.map ng)).reverse[i]?=some (ng a):=by
 rw[bS,<-He,EW]at h1;cases e:(am (row.reverse.map ng)).reverse[i]? with
 |none=>rw[e]at h1;cases h1
 |some z=>rw[e]at h1;cases h1;rw[gK]
theorem kM{row:List Pt}(hs:row.Pairwise plt)(h:row≠[]){i:Nat}{a b:Pt}(h1:(am row.reverse).reverse[i]?=some a)(h2:(am row.reverse).reverse[i+1]?=some b):∀q∈row,0<=ac a b q:=λq hq=>by
 have:=fU (cZ hs) (by simpa using h) (fq h1) (fq h2) (ng q) (FL (Fc.mpr hq))
 rwa [jU]at this
theorem lH{row:List Pt}(hs:row.Pairwise plt)(h:row≠[]){i:Nat}{a b c:Pt}(h1:(am row.reverse).reverse[i]?=some a)(h2:(am row.reverse).reverse[i+1]?=some b)(h3:(am row.reverse).reverse[i+2]?=some c):0<ac a b c:=by
 have:=gW (cZ hs) (by simpa using h) (fq h1) (fq h2) (fq h3)
 rwa [jU]at this
theorem v8{u1 u2 v1 v2 w1 w2:Int}(hu:bQ u1 u2)(hv:bQ v1 v2)(h0:u1*v2-u2*v1=0)(h1:u1*w2-u2*w1<=0)(h2:0<=v1*w2-v2*w1):u1*w2-u2*w1=0/\v1*w2-v2*w1=0:=by
 have e1:v1*(u1*w2-u2*w1)=u1*(v1*w2-v2*w1):=by grind
 have e2:v2*(u1*w2-u2*w1)=u2*(v1*w2-v2*w1):=by grind
 have P4:∀{s t A B:Int},0<s->0<t->s*A=t*B->A<=0->0<=B->A=0/\B=0:=λ{s t A B} hs ht e ha hb=>by
  have k1:s*A<=0:=Fw (by lia) ha
  have k2:0<=t*B:=E8 (by lia) hb
  have z1:s*A=0:=by lia
  have z2:t*B=0:=by lia
  refine⟨(Fi.mp z1).resolve_left (by lia),(Fi.mp z2).resolve_left (by lia)⟩
 rcases hu with hu |⟨hu,hu2⟩
 ·rcases hv with hv |⟨hv,S2⟩
  ·exact P4 hv hu e1 h1 h2
  ·rw[hv]at h0;have:=FK hu S2;lia
 ·rcases hv with hv |⟨hv,S2⟩
  ·rw[hu]at h0;have:=FK hu2 hv;lia
  ·exact P4 S2 hu2 e2 h1 h2
theorem uX{a m c:Pt}(ha:plt a m)(hc:plt c m)(h:ac a m c=0){q:Pt}(h1:0<=ac a m q)(h2:0<=ac m c q):ac a m q=0/\ac m c q=0:=by
 have k:=v8 (w1:=m.1-q.1) (w2:=m.2-q.2) (aI ha) (aI hc) (by unfold ac at h;grind) (by unfold ac at h1;grind) (by unfold ac at h2;grind)
 unfold ac;exact⟨by grind,by grind⟩
theorem z8(a b c:Pt):ac a b c=ac b c a:=by unfold ac;grind
theorem Dm{row:List Pt}(hs:row.Pairwise plt)(PN:row≠[]){i:Nat}{a m c:Pt}(h1:(am row).reverse[i]?=some a)(h2:(am row).reverse[i+1]?=some m)(hl:(am row).length=i+2)
  (h3:(am row.reverse).reverse[0]?=some m) (h4:(am row.reverse).reverse[1]?=some c) (ha:plt a m) (hc:plt c m) (big:2<(am row).length\/2<(am row.reverse).length):0<ac a m c:=by
 have mem:∀{j:Nat}{p:Pt},(am row).reverse[j]?=some p->p∈row:=λh=>bM row _ (Fc.mp (E9 h))
 have memR:∀{j:Nat}{p:Pt},(am row.reverse).reverse[j]?=some p->p∈row:=λh=>Fc.mp (bM _ _ (Fc.mp (E9 h)))
 have cv:=fU hs PN h1 h2;have cb:=kM hs PN h3 h4;have h0:=cv c (memR h4);rcases GK h0 with z |z
 ·exact z
 ·exfalso
  have flat:∀q∈row,ac a m q=0/\ac m c q=0:=λq hq=>uX ha hc z.symm (cv q hq) (cb q hq)
  rcases big with b |b
  ·have hi:0<i:=by lia
   have hx:i-1<(am row).reverse.length:=by simp;lia
   have e:=EK hx;have t:=gW hs PN e (by rw[Nat.sub_add_cancel hi];exact h1) (by rw[show i-1+2=i+1 by lia];exact h2)
   rw[z8,(flat _ (mem e)).1]at t;lia
  ·have hx:2<(am row.reverse).reverse.length:=by simpa using b
   have e:=EK hx;have t:=lH hs PN h3 h4 e;rw[(flat _ (memR e)).2]at t;lia
structure CF(row T B:List Pt)(mn mx:Pt):Prop where
 t0:T[0]?=some mn
 t1:T[T.length-1]?=some mx
 b0:B[0]?=some mx
 b1:B[B.length-1]?=some mn
 lt:2<=T.length
 lb:2<=B.length
 least:∀p∈row,p=mn\/plt mn p
 most:∀p∈row,p=mx\/plt p mx
theorem Bb{l:List Pt}:l.reverse[0]?=l.getLast?:=by rw[List.getLast?_eq_head?_reverse,Hg]
theorem Bk{l:List Pt}:l.reverse[l.reverse.length-1]?=l.head?:=by rw[<-Gj,J9]
theorem Bx{row:List Pt}(hs:row.Pairwise plt)(h2:2<=row.length):∃mn mx,CF row (am row).reverse (am row.reverse).reverse mn mx:=by
 have PN:row≠[]:=λz=>by rw[z]at h2;simp at h2
 obtain⟨mn,mx,t1,t2,e1,e2,m1,m2,least,most,_,_⟩:=ends hs h2;obtain⟨K,hl,hh⟩:=ce hs PN;obtain⟨KR,hlR,hhR⟩:=ce (cZ hs) (by simpa using PN)
 have l1:2<=(am row).length:=by rw[e1];have:=Gk m1;simp;lia
 have l2:2<=(am row.reverse).length:=by rw[e2];have:=Gk m2;simp;lia
 have hd:row.head?=some row[0]:=by rw[Hg];exact EK (by lia)
 have ld:row.getLast?=some row[row.length-1]:=by rw[Gj];exact EK (by lia)
 have q1:row[0]=mn:=by
  have hb:=hhR;rw[JR,J9,hd]at hb;have:(am row.reverse).head?=some row[0]:=by rw[bS,K3,hb];simp[gK]
  rw[e2]at this;exact (FN this).symm
 have q2:row[row.length-1]=mx:=by
  rw[ld,e1]at hh;exact (FN hh).symm
 refine⟨mn,mx,?_,?_,?_,?_,by simpa using l1,by simpa using l2,least,most⟩
 ·rw[Bb,hl,hd,q1]
 ·rw[Bk,hh,ld,q2]
 ·rw[Bb,bS,JR,hlR,K3,KJ,ld,q2];simp[gK]
 ·rw[Bk,e2];rfl
section
variable {row T B:List Pt}{mn mx:Pt}
theorem d8(W:CF row T B mn mx){k:Nat}(hk:k<=T.length-1):(T.dropLast++B.dropLast)[k%(T.dropLast++B.dropLast).length]?=T[k]?:=by
 have h1:=W.lt;have h2:=W.lb;have hn:(T.dropLast++B.dropLast).length=T.length-1+(B.length-1):=by simp
 rw[hn,FW (by lia)]
 by_cases h:k<T.length-1
 ·rw[Fh (by simpa using h),IB,if_pos h]
 ·obtain rfl:k=T.length-1:=by lia
  rw[Fj (by simp),G9,Nw,IB,if_pos (by lia),W.b0,W.t1]
theorem jo(W:CF row T B mn mx){k:Nat}(h0:T.length-1<=k)(hk:k<=T.length-1+(B.length-1)):(T.dropLast++B.dropLast)[k%(T.dropLast++B.dropLast).length]?=B[k-(T.length-1)]?:=by
 have h1:=W.lt;have h2:=W.lb;have hn:(T.dropLast++B.dropLast).length=T.length-1+(B.length-1):=by simp
 by_cases h:k<T.length-1+(B.length-1)
 ·rw[hn,FW h,Fj (by simpa using h0),G9,IB,if_pos (by lia)]
 ·obtain rfl:k=T.length-1+(B.length-1):=by lia
  have:=d8 W (k:=0) (by lia)
  rw[Pd]at this;rw[hn,Mo,this,W.t0,show T.length-1+(B.length-1)-(T.length-1)=B.length-1 by lia,W.b1]
end
theorem eo{l:List Pt}{i:Nat}(h:i<l.length):∃a,l[i]?=some a:=⟨_,EK h⟩
theorem kg{pts:List Pt}(h2:2<=(ST.srt pts).length){i:Nat}(hi:i<(ao pts).length):∃a b,(ao pts)[i]?=some a/\(ao pts)[(i+1)%(ao pts).length]?=some b/\(∀p∈pts,0<=ac a b p)/\(2<(ao pts).length->∃c,(ao pts)[(i+2)%(ao pts).length]?=some c/\0<ac a b c):=by
 have hs:=dG pts;have PN:ST.srt pts≠[]:=λz=>by rw[z]at h2;simp at h2
 obtain⟨mn,mx,W⟩:=Bx hs h2;have RZ:∀p∈pts,p∈ST.srt pts:=λp hp=>(ST.srt_mem p pts).mpr hp
 have hc:ao pts=(am (ST.srt pts)).reverse.dropLast++(am (ST.srt pts).reverse).reverse.dropLast:=by
  unfold ao;rw[if_neg (by lia)]
 have tc:∀{j:Nat}{a b:Pt},(am (ST.srt pts)).reverse[j]?=some a->(am (ST.srt pts)).reverse[j+1]?=some b->∀q∈ST.srt pts,0<=ac a b q:=λh h'=>fU hs PN h h'
 have tt:∀{j:Nat}{a b c:Pt},(am (ST.srt pts)).reverse[j]?=some a->(am (ST.srt pts)).reverse[j+1]?=some b->(am (ST.srt pts)).reverse[j+2]?=some c->0<ac a b c:=λh h' h''=>gW hs PN h h' h''
 have bc:∀{j:Nat}{a b:Pt},(am (ST.srt pts).reverse).reverse[j]?=some a->(am (ST.srt pts).reverse).reverse[j+1]?=some b->∀q∈ST.srt pts,0<=ac a b q:=λh h'=>kM hs PN h h'
 have bt:∀{j:Nat}{a b c:Pt},(am (ST.srt pts).reverse).reverse[j]?=some a->(am (ST.srt pts).reverse).reverse[j+1]?=some b->(am (ST.srt pts).reverse).reverse[j+2]?=some c->0<ac a b c:=λh h' h''=>lH hs PN h h' h''
 have SE:∀{j:Nat}{p:Pt},(am (ST.srt pts)).reverse[j]?=some p->p∈ST.srt pts:=λh=>bM _ _ (Fc.mp (E9 h))
 have memB:∀{j:Nat}{p:Pt},(am (ST.srt pts).reverse).reverse[j]?=some p->p∈ST.srt pts:=λh=>Fc.mp (bM _ _ (Fc.mp (E9 h)))
 have ndT:(am (ST.srt pts)).reverse.Nodup:=(dI hs).imp λ{a b} h e=>by subst e;exact aB _ ((dW _ _).mpr h)
 have ndB:(am (ST.srt pts).reverse).reverse.Nodup:=by
  rw[bS,<-He];have ndR:(am ((ST.srt pts).reverse.map ng)).reverse.Nodup:=(dI (cZ hs)).imp λ{a b} h e=>by subst e;exact aB _ ((dW _ _).mpr h)
  exact Ir _ (λa b (h:a≠b) e=>h (by have:=congrArg ng e;rwa [gK,gK]at this)) ndR
 have m1:∀{j:Nat}{a m c:Pt},(am (ST.srt pts)).reverse[j]?=some a->(am (ST.srt pts)).reverse[j+1]?=some m->(am (ST.srt pts)).length=j+2->(am (ST.srt pts).reverse).reverse[0]?=some m->(am (ST.srt pts).reverse).reverse[1]?=some c->plt a m->plt c m->2<(am (ST.srt pts)).length\/2<(am (ST.srt pts).reverse).length->0<ac a m c:=λa1 a2 a3 a4 a5 a6 a7 a8=>Dm hs PN a1 a2 a3 a4 a5 a6 a7 a8
 have m2:∀{j:Nat}{a m c:Pt},(am (ST.srt pts).reverse).reverse[j]?=some a->(am (ST.srt pts).reverse).reverse[j+1]?=some m->(am (ST.srt pts).reverse).length=j+2->(am (ST.srt pts)).reverse[0]?=some m->(am (ST.srt pts)).reverse[1]?=some c->plt m a->plt m c->2<(am (ST.srt pts)).length\/2<(am (ST.srt pts).reverse).length->0<ac a m c:=λ{j a m c} a1 a2 a3 a4 a5 a6 a7 a8=>by
  have er:((ST.srt pts).reverse.map ng).reverse=(ST.srt pts).map ng:=by rw[<-He,MG]
  have fw:∀{k:Nat}{p:Pt},(am (ST.srt pts)).reverse[k]?=some p->(am ((ST.srt pts).reverse.map ng).reverse).reverse[k]?=some (ng p):=λ{k p} h=>by
   rw[er,f6,<-He,EW,h];rfl
  have lb:(am ((ST.srt pts).reverse.map ng)).length=(am (ST.srt pts).reverse).length:=by rw[bS,EM]
  have lt:(am ((ST.srt pts).reverse.map ng).reverse).length=(am (ST.srt pts)).length:=by rw[er,f6,EM]
  have:=Dm (cZ hs) (by simpa using PN) (fq a1) (fq a2) (by rw[lb];exact a3) (fw a4) (fw a5) (kS a6) (kS a7) (by rw[lb,lt];exact a8.symm)
  rwa [jU]at this
 rw[hc]at hi |-;have lT:(am (ST.srt pts)).reverse.length=(am (ST.srt pts)).length:=FR;have lB:(am (ST.srt pts).reverse).reverse.length=(am (ST.srt pts).reverse).length:=FR;generalize (am (ST.srt pts)).reverse=T at *;generalize (am (ST.srt pts).reverse).reverse=B at *;have h1:=W.lt;have h3:=W.lb;have hn:(T.dropLast++B.dropLast).length=T.length-1+(B.length-1):=by simp
 have own:∀k,k<(T.dropLast++B.dropLast).length->(T.dropLast++B.dropLast)[k]?=(T.dropLast++B.dropLast)[k%(T.dropLast++B.dropLast).length]?:=λk hk=>by rw[FW hk]
 have tne:∀{j k:Nat}{p q:Pt},T[j]?=some p->T[k]?=some q->j≠k->p≠q:=λ{j k p q} a1 a2 a3 e=>a3 ((Jb (aL a1) ndT).mp (by rw[a1,a2,e]))
 have bne:∀{j k:Nat}{p q:Pt},B[j]?=some p->B[k]?=some q->j≠k->p≠q:=λ{j k p q} a1 a2 a3 e=>a3 ((Jb (aL a1) ndB).mp (by rw[a1,a2,e]))
 by_cases c1:i<T.length-1
 ·obtain⟨a,ea⟩:=eo (l:=T) (i:=i) (by lia)
  obtain⟨b,eb⟩:=eo (l:=T) (i:=i+1) (by lia)
  refine⟨a,b,by rw[own i hi,d8 W (by lia)];exact ea,by rw[d8 W (by lia)];exact eb,λp hp=>tc ea eb p (RZ p hp),λbig=>?_⟩
  by_cases c2:i+2<=T.length-1
  ·obtain⟨c,ec⟩:=eo (l:=T) (i:=i+2) (by lia)
   exact⟨c,by rw[d8 W c2];exact ec,tt ea eb ec⟩
  ·have e:i+1=T.length-1:=by lia
   obtain⟨c,ec⟩:=eo (l:=B) (i:=1) (by lia)
   have emx:b=mx:=by have:=W.t1;rw[<-e,eb]at this;exact FN this
   subst emx;refine⟨c,by rw[jo W (by lia) (by lia),show i+2-(T.length-1)=1 by lia];exact ec,m1 ea eb (by lia) W.b0 ec ?_ ?_ (by lia)⟩
   ·exact (W.most a (SE ea)).resolve_left (tne ea eb (by lia))
   ·exact (W.most c (memB ec)).resolve_left (bne ec W.b0 (by lia))
 ·obtain⟨a,ea⟩:=eo (l:=B) (i:=i-(T.length-1)) (by lia)
  obtain⟨b,eb⟩:=eo (l:=B) (i:=i-(T.length-1)+1) (by lia)
  refine⟨a,b,by rw[own i hi,jo W (by lia) (by lia)];exact ea,by rw[jo W (by lia) (by lia),show i+1-(T.length-1)=i-(T.length-1)+1 by lia];exact eb,λp hp=>bc ea eb p (RZ p hp),λbig=>?_⟩
  by_cases c2:i+2<=T.length-1+(B.length-1)
  ·obtain⟨c,ec⟩:=eo (l:=B) (i:=i-(T.length-1)+2) (by lia)
   exact⟨c,by rw[jo W (by lia) c2,show i+2-(T.length-1)=i-(T.length-1)+2 by lia];exact ec,bt ea eb ec⟩
  ·have e:i-(T.length-1)+1=B.length-1:=by lia
   obtain⟨c,ec⟩:=eo (l:=T) (i:=1) (by lia)
   have emn:b=mn:=by have:=W.b1;rw[<-e,eb]at this;exact FN this
   subst emn;refine⟨c,?_,m2 ea eb (by lia) W.t0 ec ?_ ?_ (by lia)⟩
   ·have:=d8 W (k:=1) (by lia)
    rw[show (i+2)%(T.dropLast++B.dropLast).length=1%(T.dropLast++B.dropLast).length by rw[hn,show i+2=1+(T.length-1+(B.length-1)) by lia,Nn],this]
    exact ec
   ·exact (W.least a (memB ea)).resolve_left (bne ea eb (by lia))
   ·exact (W.least c (SE ec)).resolve_left (tne ec W.t0 (by lia))
def cd(n q:Int):Int:=-(-n/q)
structure Chd(n q:Int):Prop where
 q0:0<=q
 qn:q<n
 g:Ig n q=1
def unc:List Int->Int×Int
 |[]=>(1,0)
 |b::l=>(b*(unc l).1-(unc l).2,(unc l).1)
structure Lvl(a b:Pt)(g u v s t:Int):Prop where
 g0:0<g
 e1:b.1-a.1=g*u
 e2:b.2-a.2=g*v
 st:s*u+t*v=1
def tx(a c:Pt)(s t:Int):Int:=s*(c.1-a.1)+t*(c.2-a.2)
def ty(a c:Pt)(u v:Int):Int:=u*(c.2-a.2)-v*(c.1-a.1)
def bk(a:Pt)(u v s t x y:Int):Pt:=(u*x-t*y+a.1,v*x+s*y+a.2)
theorem Lvl.area{a b:Pt}{g u v s t:Int}(L:Lvl a b g u v s t)(c:Pt):ac a b c=g*ty a c u v:=by
 have:=L.e1;have:=L.e2;unfold ac ty;grind
theorem Lvl.back{a b:Pt}{g u v s t:Int}(L:Lvl a b g u v s t)(c:Pt):c.1=u*tx a c s t-t*ty a c u v+a.1/\c.2=v*tx a c s t+s*ty a c u v+a.2:=by
 have:=L.st;unfold tx ty;constructor <;>grind
def wth(a b:Int)(p:Pt):Int:=a*p.1+b*p.2
theorem Cr{a b:Int}{u p v:Pt}(hb:b<=0)(h1:plt u p)(h2:plt p v)(h:ac u p v<=0):wth a b p<=wth a b u\/wth a b p<=wth a b v:=by
 rcases FQ (wth a b u) (wth a b p) with c1 |c1
 ·rcases FQ (wth a b v) (wth a b p) with c2 |c2
  ·exfalso
   have e:(v.1-p.1) *(wth a b p-wth a b u)+(p.1-u.1) *(wth a b p-wth a b v)=-((-b) *(-(ac u p v))):=by unfold wth ac;grind
   have n1:0<=(-b) *(-(ac u p v)):=E8 (by lia) (by lia)
   have d1:0<=p.1-u.1:=by unfold plt at h1;lia
   have d2:0<=v.1-p.1:=by unfold plt at h2;lia
   have m1:0<=(v.1-p.1) *(wth a b p-wth a b u):=E8 d2 (by lia)
   have m2:0<=(p.1-u.1) *(wth a b p-wth a b v):=E8 d1 (by lia)
   rcases FQ 0 (p.1-u.1) with d |d
   ·have:=FK d (show 0<wth a b p-wth a b v by lia)
    lia
   ·have ex:u.1=p.1:=by lia
    have ey:u.2<p.2:=by unfold plt at h1;lia
    have:0<=(-b) *(p.2-u.2):=E8 (by lia) (by lia)
    have e2:wth a b p-wth a b u=-((-b) *(p.2-u.2)):=by unfold wth;rw[ex];grind
    lia
  ·exact .inr c2
 ·exact .inl c1
theorem tq{row:List Pt}(hs:row.Pairwise plt){a b:Int}(hb:b<=0){p:Pt}(hp:p∈row):∃c∈am row,wth a b p<=wth a b c:=by
 by_cases h:p∈am row
 ·exact⟨p,h,Kt _⟩
 ·obtain⟨u,hu,v,hv,k1,k2,k3⟩:=gap hs hp h;rcases Cr (a:=a) hb k1 k2 k3 with e |e
  ·exact⟨u,hu,e⟩
  ·exact⟨v,hv,e⟩
theorem BS(a b:Int)(p:Pt):wth (-a) (-b) (ng p)=wth a b p:=by unfold wth ng;grind
theorem ze(a b:Int)(p:Pt):wth a b (ng p)=wth (-a) (-b) p:=by unfold wth ng;grind
theorem xr{row:List Pt}(hs:row.Pairwise plt){a b:Int}(hb:0<=b){p:Pt}(hp:p∈row):∃c∈am row.reverse,wth a b p<=wth a b c:=by
 obtain⟨c,hc,k⟩:=tq (cZ hs) (a:=-a) (b:=-b) (by lia) (p:=ng p) (EV.mpr ⟨p,Fc.mpr hp,rfl⟩)
 refine⟨ng c,by rw[bS];exact EV.mpr ⟨c,hc,rfl⟩,?_⟩
 rw[BS]at k;rw[ze];exact k
theorem oV{pts:List Pt}(a b:Int){p:Pt}(hp:p∈pts):∃c∈ao pts,wth a b p<=wth a b c:=by
 have QV:p∈ST.srt pts:=(ST.srt_mem p pts).mpr hp;by_cases h2:2<=(ST.srt pts).length
 ·have hs:=dG pts;obtain⟨mn,mx,t1,t2,e1,e2,m1,m2,_⟩:=ends hs h2;have big:=f7 h2;rw[e1,e2]at big;rcases Mn b 0 with hb |hb
  ·obtain⟨c,hc,k⟩:=tq hs (a:=a) hb QV;refine⟨c,?_,k⟩;rw[big];rw[e1]at hc;rcases ET.mp hc with rfl |hc
   ·exact Fg _ (Fc.mpr m2)
   ·exact FH _ (Fc.mpr hc)
  ·obtain⟨c,hc,k⟩:=xr hs (a:=a) hb QV;refine⟨c,?_,k⟩;rw[big];rw[e2]at hc;rcases ET.mp hc with rfl |hc
   ·exact FH _ (Fc.mpr m1)
   ·exact Fg _ (Fc.mpr hc)
 ·exact⟨p,by rw[bU h2];exact QV,Kt _⟩
def hiL:List Int->Int
 |[]=>0
 |a::l=>l.foldl max a
theorem eT:∀(l:List Int) (a:Int),l.foldl max a∈a::l
 |[],a=>by simp
 |b::l,a=>by
  have:=eT l (max a b);rw[Hu];rcases ET.mp this with e |e
  ·rw[e];rcases Mn a b with h |h
   ·rw[Int.max_eq_right h];simp
   ·rw[Int.max_eq_left h];simp
  ·exact ES _ (ES _ e)
theorem fD:∀(l:List Int) (a:Int),∀x∈a::l,x<=l.foldl max a
 |[],a,x,h=>by simp at h;rw[h];exact Kt _
 |b::l,a,x,h=>by
  have ih:=fD l (max a b);rw[Hu];have h0:=ih (max a b) EY;rcases ET.mp h with rfl |h
  ·lia
  ·rcases ET.mp h with rfl |h
   ·lia
   ·exact ih x (ES _ h)
def hiW(a b:Int)(l:List Pt):Int:=hiL (l.map (wth a b))
theorem mR{l:List Pt}(a b:Int)(h:l≠[]):(∃p∈l,wth a b p=hiW a b l)/\∀p∈l,wth a b p<=hiW a b l:=by
 cases l with
 |nil=>exact absurd rfl h
 |cons q l=>
  refine⟨?_,λp hp=>?_⟩
  ·have:=eT (l.map (wth a b)) (wth a b q);rw[<-Ff]at this;obtain⟨p,hp,e⟩:=EV.mp this;exact⟨p,hp,e⟩
  ·exact fD (l.map (wth a b)) (wth a b q) _ (by rw[<-Ff];exact FL hp)
theorem lh{l:List P2}(h3:3<=(ao l).length):2<=(ST.srt l).length:=by
 rcases G0 (ST.srt l).length 2 with h |h
 ·rw[bU (by lia)]at h3;lia
 ·exact h
theorem t5{l:List P2}{i:Nat}(h:i<l.length):(gp l i,gp l ((i+1)%l.length))∈sdl l:=EV.mpr ⟨i,Fo.mpr h,rfl⟩
theorem iY{l:List P2}{i:Nat}{a:P2}(h:l[i]?=some a):gp l i=a:=by simp[gp,h]
theorem yB{n i:Nat}:((i+1)%n+1)%n=(i+2)%n:=by rw[L9]
theorem di{l:List P2}(h3:3<=(ao l).length){s:P2×P2}(hs:s∈sdl (ao l)):∀q∈l,0<=ac s.1 s.2 q:=by
 obtain⟨i,hi,rfl⟩:=EV.mp hs;obtain⟨a,b,e1,e2,cov,_⟩:=kg (lh h3) (Fo.mp hi);show ∀q∈l,0<=ac (gp (ao l) i) (gp (ao l) ((i+1)%(ao l).length)) q;rw[iY e1,iY e2];exact cov
theorem jl{l:List P2}(h3:3<=(ao l).length){A B:P2}(hs:(A,B)∈sdl (ao l)):∃C,(B,C)∈sdl (ao l)/\0<ac A B C:=by
 obtain⟨i,hi,e⟩:=EV.mp hs;have PY:=Fo.mp hi;obtain⟨a,b,e1,e2,_,tu⟩:=kg (lh h3) PY;obtain⟨c,e3,pos⟩:=tu (by lia)
 have ea:A=a:=by rw[<-iY e1];exact (congrArg Ly e).symm
 have eb:B=b:=by rw[<-iY e2];exact (congrArg Mt e).symm
 refine⟨c,?_,by rw[ea,eb];exact pos⟩
 have:=t5 (l:=ao l) (i:=(i+1)%(ao l).length) (HF _ (by lia))
 rw[yB,iY e2,iY e3]at this;rw[eb];exact this
theorem Ds{l:List P2}{A:P2}(h:A∈l):∃B,(A,B)∈sdl l:=by
 obtain⟨i,hi⟩:=F9.mp h;have PY:=(E6.mp hi).1;have:=t5 PY;rw[iY hi]at this;exact⟨_,this⟩
theorem xg{l:List P2}{A:P2}(h:A∈l):∃Z,(Z,A)∈sdl l:=by
 obtain⟨i,hi⟩:=F9.mp h;have PY:=(E6.mp hi).1;have hj:(i+l.length-1)%l.length<l.length:=HF _ (by lia)
 have:=t5 hj
 have e:((i+l.length-1)%l.length+1)%l.length=i:=by
  rw[L9,show i+l.length-1+1=i+l.length by lia,Nn,FW PY]
 rw[e,iY hi]at this;exact⟨_,this⟩
theorem Bv{l:List P2}(hn:l.Nodup){A B C:P2}(h1:(A,B)∈sdl l)(h2:(A,C)∈sdl l):B=C:=by
 obtain⟨i,hi,e⟩:=EV.mp h1;obtain⟨j,hj,e'⟩:=EV.mp h2;have PY:=Fo.mp hi;have hj':=Fo.mp hj;have ea:gp l i=gp l j:=(congrArg Ly e).trans (congrArg Ly e').symm;have:i=j:=(Jb PY hn).mp (by rw[dE PY,dE hj',ea])
 subst this;exact (congrArg Mt e).symm.trans (congrArg Mt e')
theorem BA{u1 u2 v1 v2 w1 w2:Int}(hd:0<u1*v2-u2*v1)(h1:u1*w2-u2*w1=0)(h2:v1*w2-v2*w1=0):w1=0/\w2=0:=by
 have e1:(u1*v2-u2*v1) *w1=0:=by
  have:(u1*v2-u2*v1) *w1=v1*(u1*w2-u2*w1)-u1*(v1*w2-v2*w1):=by grind
  rw[this,h1,h2];simp
 have e2:(u1*v2-u2*v1) *w2=0:=by
  have:(u1*v2-u2*v1) *w2=v2*(u1*w2-u2*w1)-u2*(v1*w2-v2*w1):=by grind
  rw[this,h1,h2];simp
 refine⟨?_,?_⟩
 ·rcases Fi.mp e1 with h |h
  ·lia
  ·exact h
 ·rcases Fi.mp e2 with h |h
  ·lia
  ·exact h
def vE(l:List P2)(p:P2):Prop:=p∈l/\∃a b:Int,∀q∈l,q≠p->wth a b q<wth a b p
theorem eG{l:List P2}{p:P2}(h:vE l p):p∈ao l:=by
 obtain⟨hp,a,b,k⟩:=h;obtain⟨c,hc,e⟩:=oV a b hp;by_cases hcp:c=p
 ·rw[<-hcp];exact hc
 ·have:=k c (bH _ c hc) hcp;lia
theorem cM{l:List P2}(h3:3<=(ao l).length){p:P2}(hp:p∈ao l):vE l p:=by
 obtain⟨Z,hZ⟩:=xg hp;obtain⟨B,hB,pos⟩:=jl h3 hZ;refine⟨bH _ p hp,B.2-Z.2,Z.1-B.1,λq hq PN=>?_⟩
 have c1:=di h3 hZ q hq;have c2:=di h3 hB q hq;dsimp only at c1 c2;have e:wth (B.2-Z.2) (Z.1-B.1) q-wth (B.2-Z.2) (Z.1-B.1) p=-(ac Z p q+ac p B q):=by unfold wth ac;grind
 rcases GK (J0 c1 c2) with h |h
 ·lia
 ·exfalso
  have z1:ac Z p q=0:=by lia
  have z2:ac p B q=0:=by lia
  have:=BA (u1:=p.1-Z.1) (u2:=p.2-Z.2) (v1:=B.1-p.1) (v2:=B.2-p.2) (w1:=q.1-p.1) (w2:=q.2-p.2) (by rw[<-(show ac Z p B=(p.1-Z.1) *(B.2-p.2)-(p.2-Z.2) *(B.1-p.1) by unfold ac;grind)];exact pos) (by rw[<-z1];unfold ac;grind) (by rw[<-z2];unfold ac;grind)
  exact PN (GC (by lia) (by lia))
theorem CN{u1 u2 v1 v2 w1 w2:Int}(h:u1*w2-u2*w1=0):(u1*v2-u2*v1) *w1=(w1*v2-w2*v1) *u1/\(u1*v2-u2*v1) *w2=(w1*v2-w2*v1) *u2:=by
 constructor
 ·have:(u1*v2-u2*v1) *w1-(w1*v2-w2*v1) *u1=v1*(u1*w2-u2*w1):=by grind
  rw[h]at this;simp at this;lia
 ·have:(u1*v2-u2*v1) *w2-(w1*v2-w2*v1) *u2=v2*(u1*w2-u2*w1):=by grind
  rw[h]at this;simp at this;lia
theorem fV{l:List P2}(h3:3<=(ao l).length){A B:P2}:(A,B)∈sdl (ao l)↔A∈ao l/\B∈ao l/\A≠B/\∀q∈ao l,0<=ac A B q:=by
 constructor
 ·intro h;exact⟨(bX h).1,(bX h).2,Co (b7 l) (by lia) _ h,λq hq=>di h3 h q (bH _ q hq)⟩
 ·rintro ⟨hA,hB,PN,cov⟩;obtain⟨C,hC⟩:=Ds hA;obtain⟨Z,hZ⟩:=xg hA;by_cases hBC:B=C
  ·rw[hBC];exact hC
  ·exfalso
   obtain⟨D,hD,pD⟩:=jl h3 hC;obtain⟨C',hC',pC⟩:=jl h3 hZ;have:C'=C:=Bv (b7 l) hC' hC;subst this;have mC:=(bX hC).2;have mD:=(bX hD).2;have lB:=bH _ B hB;have k1:=di h3 hC B lB;have k2:=cov C' mC;have k3:=di h3 hZ B lB;have k4:=di h3 hD B lB;dsimp only at k1 k3 k4 mC mD
   have z:(C'.1-A.1) *(B.2-A.2)-(C'.2-A.2) *(B.1-A.1)=0:=by
    have e1:ac A C' B=(C'.1-A.1) *(B.2-A.2)-(C'.2-A.2) *(B.1-A.1):=rfl;have e2:ac A B C'=-((C'.1-A.1) *(B.2-A.2)-(C'.2-A.2) *(B.1-A.1)):=by unfold ac;grind
    omega
   obtain⟨p1,p2⟩:=CN (v1:=Z.1-A.1) (v2:=Z.2-A.2) z
   have dpos:0<(C'.1-A.1) *(Z.2-A.2)-(C'.2-A.2) *(Z.1-A.1):=by
    rw[<-(show ac Z A C'=(C'.1-A.1) *(Z.2-A.2)-(C'.2-A.2) *(Z.1-A.1) by unfold ac;grind)];exact pC
   have RB:0<=(B.1-A.1) *(Z.2-A.2)-(B.2-A.2) *(Z.1-A.1):=by
    rw[<-(show ac Z A B=(B.1-A.1) *(Z.2-A.2)-(B.2-A.2) *(Z.1-A.1) by unfold ac;grind)];exact k3
   generalize (C'.1-A.1) *(Z.2-A.2)-(C'.2-A.2) *(Z.1-A.1)=d at *;generalize (B.1-A.1) *(Z.2-A.2)-(B.2-A.2) *(Z.1-A.1)=s at *
   have s0:s≠0:=λe=>by
    rw[e,Hc]at p1 p2;have q1:=(Fi.mp p1).resolve_left (by lia)
    have q2:=(Fi.mp p2).resolve_left (by lia)
    exact PN (GC (by lia) (by lia))
   have s1:s≠d:=λe=>by
    rw[e]at p1 p2;have q1:=F8 (by lia) p1
    have q2:=F8 (by lia) p2
    exact hBC (GC (by lia) (by lia))
   have s2:s<=d:=by
    have e:d*ac C' D B=(d-s) *ac A C' D:=by
     have e1:d*ac C' D B=(D.1-C'.1) *(d*(B.2-A.2)-d*(C'.2-A.2))-(D.2-C'.2) *(d*(B.1-A.1)-d*(C'.1-A.1)):=by unfold ac;grind
     rw[e1,p1,p2];unfold ac;grind
    have:0<=d*ac C' D B:=E8 (by lia) k4
    rcases FQ d s with h |h
    ·have:0<(s-d) *ac A C' D:=FK (by lia) pD
     have e3:(d-s) *ac A C' D=-((s-d) *ac A C' D):=by grind
     lia
    ·exact h
   obtain⟨_,a,b,top⟩:=cM h3 hB;have t1:=top A (bH _ A hA) PN;have t2:=top C' (bH _ C' mC) (λe=>hBC e.symm)
   have w1:d*(wth a b B-wth a b A)=s*(wth a b C'-wth a b A):=by
    have e1:d*(wth a b B-wth a b A)=a*(d*(B.1-A.1))+b*(d*(B.2-A.2)):=by unfold wth;grind
    rw[e1,p1,p2];unfold wth;grind
   have g1:0<d*(wth a b B-wth a b A):=FK (by lia) (by lia)
   have g2:0<wth a b C'-wth a b A:=by
    rcases FQ 0 (wth a b C'-wth a b A) with h |h
    ·exact h
    ·have:0<=s* -(wth a b C'-wth a b A):=E8 (by lia) (by lia)
     have e3:s*(wth a b C'-wth a b A)=-(s* -(wth a b C'-wth a b A)):=by grind
     lia
   have g3:0<(d-s) *(wth a b C'-wth a b A):=FK (by lia) g2
   have w2:d*(wth a b B-wth a b C')=-((d-s) *(wth a b C'-wth a b A)):=by
    have:d*(wth a b B-wth a b C')=d*(wth a b B-wth a b A)-d*(wth a b C'-wth a b A):=by grind
    rw[this,w1];grind
   have g4:0<d*(wth a b B-wth a b C'):=FK (by lia) (by lia)
   lia
structure Lin(f:P2->P2)(d:Int):Prop where
 one:d=1\/d=-1
 ex:∃a b c e:Int,a*e-b*c=d/\∀p,f p=(a*p.1+b*p.2,c*p.1+e*p.2)
theorem Lin.det{f:P2->P2}{d:Int}(L:Lin f d)(A B q:P2):ac (f A) (f B) (f q)=d*ac A B q:=by
 obtain⟨a,b,c,e,h,k⟩:=L.ex;rw[k,k,k,<-h];unfold ac;grind
theorem m8{f:P2->P2}{d:Int}(L:Lin f d)(x y:Int):∃x' y':Int,∀p,wth x' y' (f p)=wth x y p:=by
 obtain⟨a,b,c,e,h,k⟩:=L.ex;refine⟨d*(x*e-y*c),d*(y*a-x*b),λp=>?_⟩
 rw[k];have dd:d*d=1:=by rcases L.one with z |z <;>rw[z] <;>rfl
 have:wth (d*(x*e-y*c)) (d*(y*a-x*b)) (a*p.1+b*p.2,c*p.1+e*p.2)=d*(a*e-b*c) *wth x y p:=by unfold wth;grind
 rw[this,h,dd,Iw]
theorem Lin.inj{f:P2->P2}{d:Int}(L:Lin f d){p q:P2}(e:f p=f q):p=q:=by
 obtain⟨x,y,h⟩:=m8 L 1 0;obtain⟨x',y',h'⟩:=m8 L 0 1;have h1:wth 1 0 p=wth 1 0 q:=by rw[<-h,<-h,e]
 have h2:wth 0 1 p=wth 0 1 q:=by rw[<-h',<-h',e]
 unfold wth at h1 h2;exact GC (by lia) (by lia)
theorem tO{f:P2->P2}{d:Int}(L:Lin f d){l:List P2}{p:P2}(h:vE l p):vE (l.map f) (f p):=by
 obtain⟨hp,a,b,k⟩:=h;obtain⟨x,y,e⟩:=m8 L a b;refine⟨FL hp,x,y,λq hq PN=>?_⟩
 obtain⟨r,hr,rfl⟩:=EV.mp hq;rw[e,e];exact k r hr λz=>PN (by rw[z])
theorem yz{f:P2->P2}{d:Int}(L:Lin f d){l:List P2}{p:P2}(hp:p∈l)(h:vE (l.map f) (f p)):vE l p:=by
 obtain⟨_,a,b,k⟩:=h;obtain⟨u,v,w,z,_,kf⟩:=L.ex;refine⟨hp,a*u+b*w,a*v+b*z,λq hq PN=>?_⟩
 have e:∀r:P2,wth (a*u+b*w) (a*v+b*z) r=wth a b (f r):=λr=>by rw[kf];unfold wth;grind
 rw[e,e];exact k (f q) (FL hq) λz=>PN (L.inj z)
theorem gs{f:P2->P2}{d:Int}(L:Lin f d){l:List P2}(h3:3<=(ao l).length):3<=(ao (l.map f)).length:=by
 have nd:((ao l).map f).Nodup:=Ir _ (λa b (h:a≠b) e=>h (L.inj e)) (b7 l)
 have:=c_ nd (m:=ao (l.map f)) λx hx=>by
  obtain⟨p,hp,rfl⟩:=EV.mp hx;exact eG (tO L (cM h3 hp))
 rw[EM]at this;lia
theorem dl{f:P2->P2}{d:Int}(L:Lin f d){l:List P2}(h3:3<=(ao l).length)(x:P2):x∈ao (l.map f)↔∃p∈ao l,f p=x:=by
 constructor
 ·intro h;obtain⟨p,hp,rfl⟩:=EV.mp (bH _ x h);exact⟨p,eG (yz L hp (cM (gs L h3) h)),rfl⟩
 ·rintro ⟨p,hp,rfl⟩;exact eG (tO L (cM h3 hp))
def sdf(f:P2->P2)(d:Int)(s:P2×P2):P2×P2:=if d=1 then (f s.1,f s.2) else (f s.2,f s.1)
theorem xy{f:P2->P2}{d:Int}(L:Lin f d){l:List P2}(h3:3<=(ao l).length)(t:P2×P2):t∈sdl (ao (l.map f))↔∃s∈sdl (ao l),sdf f d s=t:=by
 have QN:=gs L h3;have sw:∀A B q:P2,ac B A q=-ac A B q:=λA B q=>by unfold ac;grind
 constructor
 ·intro h;obtain⟨x,y⟩:=t;obtain⟨hx,hy,ne,cov⟩:=(fV QN).mp h;obtain⟨A,hA,rfl⟩:=(dl L h3 x).mp hx;obtain⟨B,hB,rfl⟩:=(dl L h3 y).mp hy
  have cv:∀q∈ao l,0<=d*ac A B q:=λq hq=>by
   have:=cov (f q) ((dl L h3 _).mpr ⟨q,hq,rfl⟩)
   rwa [L.det]at this
  rcases L.one with z |z
  ·refine⟨(A,B),(fV h3).mpr ⟨hA,hB,λe=>ne (by rw[e]),λq hq=>?_⟩,by unfold sdf;rw[if_pos z]⟩
   have:=cv q hq;rw[z]at this;lia
  ·refine⟨(B,A),(fV h3).mpr ⟨hB,hA,λe=>ne (by rw[e]),λq hq=>?_⟩,by unfold sdf;rw[if_neg (by lia)]⟩
   have:=cv q hq;rw[sw];rw[z]at this;lia
 ·rintro ⟨⟨A,B⟩,hs,rfl⟩;obtain⟨hA,hB,ne,cov⟩:=(fV h3).mp hs
  have cv:∀q∈ao (l.map f),0<=d*ac (f A) (f B) q:=λq hq=>by
   obtain⟨p,hp,rfl⟩:=(dl L h3 q).mp hq;have:=cov p hp;rw[L.det,<-OY,show d*d=1 by rcases L.one with z |z <;>rw[z] <;>rfl]
   lia
  unfold sdf;rcases L.one with z |z
  ·rw[if_pos z];refine (fV QN).mpr ⟨(dl L h3 _).mpr ⟨A,hA,rfl⟩,(dl L h3 _).mpr ⟨B,hB,rfl⟩,λe=>ne (L.inj e),λq hq=>?_⟩
   have:=cv q hq;dsimp only;rw[z]at this;lia
  ·rw[if_neg (by lia)]
   refine (fV QN).mpr ⟨(dl L h3 _).mpr ⟨B,hB,rfl⟩,(dl L h3 _).mpr ⟨A,hA,rfl⟩,λe=>ne (L.inj e.symm),λq hq=>?_⟩
   have:=cv q hq;dsimp only;rw[sw];rw[z]at this;lia
def ub(s:P2×P2):Int:=(s.2.1-s.1.1)/gst s
def vb(s:P2×P2):Int:=(s.2.2-s.1.2)/gst s
def onS(s:P2×P2)(k:Int):P2:=(s.1.1+k*ub s,s.1.2+k*vb s)
theorem jV(s:P2×P2):s.2.1-s.1.1=gst s*ub s:=by
 unfold ub;have h:gst s ∣ s.2.1-s.1.1:=Jm ..;rw[Jg h]
theorem km(s:P2×P2):s.2.2-s.1.2=gst s*vb s:=by
 unfold vb;have h:gst s ∣ s.2.2-s.1.2:=I_ ..;rw[Jg h]
theorem B7{s:P2×P2}(h:s.1≠s.2):∃cs ct,Lvl s.1 s.2 (gst s) (ub s) (vb s) cs ct:=by
 have g0:=ji h;obtain⟨cs,ct,G⟩:=kF (s.2.1-s.1.1) (s.2.2-s.1.2);have Ge:cs*(s.2.1-s.1.1)+ct*(s.2.2-s.1.2)=gst s:=G.eq;refine⟨cs,ct,g0,jV s,km s,?_⟩
 have e:gst s*(cs*ub s+ct*vb s)=gst s*1:=by
  rw[Kl];have:gst s*(cs*ub s+ct*vb s)=cs*(gst s*ub s)+ct*(gst s*vb s):=by grind
  rw[this,<-jV,<-km];exact Ge
 exact F8 (by lia) e
theorem zu{s:P2×P2}(h:s.1≠s.2){p:P2}(hp:ac s.1 s.2 p=0):∃k,p=onS s k:=by
 obtain⟨cs,ct,L⟩:=B7 h
 have z:ty s.1 p (ub s) (vb s)=0:=by
  rw[L.area]at hp;exact (Fi.mp hp).resolve_left (by have:=L.g0;lia)
 obtain⟨b1,b2⟩:=L.back p;rw[z]at b1 b2;refine⟨tx s.1 p cs ct,GC ?_ ?_⟩
 ·show p.1=s.1.1+tx s.1 p cs ct*ub s;grind
 ·show p.2=s.1.2+tx s.1 p cs ct*vb s;grind
theorem CG(s:P2×P2)(k:Int)(X Y:P2):gst s*ac X Y (onS s k)=(gst s-k) *ac X Y s.1+k*ac X Y s.2:=by
 have h1:=jV s;have h2:=km s;have e1:s.2.1=s.1.1+gst s*ub s:=by lia
 have e2:s.2.2=s.1.2+gst s*vb s:=by lia
 unfold onS ac;dsimp only;rw[e1,e2];grind
theorem cC{a b:Int}(ha:0<a)(h:0<=a*b):0<=b:=by
 rcases FQ b 0 with z |z
 ·have:=FK ha (show 0 < -b by lia)
  have e:a* -b=-(a*b):=by grind
  lia
 ·exact z
section
variable {l:List P2} (h3:3≤(ao l).length)
include h3
end
theorem nX{A B p:P2}(h:ST.ltP A B=true):(ac A B p=0/\ST.leP A p=true/\ST.leP p B=true)↔∃k:Int,0<=k/\k<=gst (A,B)/\p=onS (A,B) k:=by
 have PN:(A,B).1≠(A,B).2:=λe=>by
  dsimp only at e;subst e;unfold ST.ltP at h;simp at h
 have g0:=ji PN;have h1:=jV (A,B);have h2:=km (A,B);dsimp only at h1 h2;unfold ST.ltP at h;have h:=of_decide_eq_true h
 have lex:0<ub (A,B)\/(ub (A,B)=0/\0<vb (A,B)):=by
  rcases h with z |⟨z,w⟩
  ·left
   have:0<gst (A,B) *ub (A,B):=by lia
   exact G5 this (by lia)
  ·right
   have e:gst (A,B) *ub (A,B)=0:=by lia
   have:0<gst (A,B) *vb (A,B):=by lia
   exact⟨(Fi.mp e).resolve_left (by lia),G5 this (by lia)⟩
 have sg:∀k:Int,(ST.leP A (onS (A,B) k)=true↔0<=k)/\(ST.leP (onS (A,B) k) B=true↔k<=gst (A,B)):=λk=>by
  have r:∀m:Int,(0<m*ub (A,B)\/(m*ub (A,B)=0/\0<=m*vb (A,B)))↔0<=m:=λm=>by
   rcases lex with u |⟨u,v⟩
   ·constructor
    ·rintro (z |⟨z,_⟩)
     ·exact Ny (Int.pos_of_mul_pos_left z (by lia))
     ·rcases Fi.mp z with w |w <;>lia
    ·intro hm;rcases GK hm with z |z
     ·left;exact FK z u
     ·right;rw[<-z];simp
   ·rw[u,Hd];constructor
    ·rintro (z |⟨_,z⟩)
     ·lia
     ·rw[J7]at z;exact cC v z
    ·intro hm;exact .inr ⟨rfl,E8 hm (by lia)⟩
  have e1:(gst (A,B)-k) *ub (A,B)=B.1-(A.1+k*ub (A,B)):=by
   have:(gst (A,B)-k) *ub (A,B)=gst (A,B) *ub (A,B)-k*ub (A,B):=by grind
   lia
  have e2:(gst (A,B)-k) *vb (A,B)=B.2-(A.2+k*vb (A,B)):=by
   have:(gst (A,B)-k) *vb (A,B)=gst (A,B) *vb (A,B)-k*vb (A,B):=by grind
   lia
  have r1:=r k;have r2:=r (gst (A,B)-k);rw[e1,e2]at r2;unfold ST.leP onS;rw[decide_eq_true_eq,decide_eq_true_eq];dsimp only;constructor
  ·rw[<-r1];omega
  ·rw[show k<=gst (A,B)↔0<=gst (A,B)-k by lia,<-r2];lia
 constructor
 ·rintro ⟨d,a,b⟩;obtain⟨k,rfl⟩:=zu PN d;exact⟨k,(sg k).1.mp a,(sg k).2.mp b,rfl⟩
 ·rintro ⟨k,k0,k1,rfl⟩;refine⟨?_,(sg k).1.mpr k0,(sg k).2.mpr k1⟩;have m:=CG (A,B) k A B;have z1:ac A B A=0:=by unfold ac;grind
  have z2:ac A B B=0:=by unfold ac;grind
  dsimp only at m;rw[z1,z2,Hd,Hd,KL]at m;exact (Fi.mp m).resolve_left (by lia)
theorem y6{a b c e x y:Int}(h:a*e-b*c=1\/a*e-b*c=-1):Ig (a*x+b*y) (c*x+e*y)=Ig x y:=by
 apply Nat.dvd_antisymm
 ·have h1:((Ig (a*x+b*y) (c*x+e*y):Nat):Int) ∣ a*x+b*y:=Jm ..;have h2:((Ig (a*x+b*y) (c*x+e*y):Nat):Int) ∣ c*x+e*y:=I_ ..;generalize Ig (a*x+b*y) (c*x+e*y)=g at *
  have k1:(g:Int) ∣ (a*e-b*c) *x:=by
   have:(a*e-b*c) *x=e*(a*x+b*y)-b*(c*x+e*y):=by grind
   rw[this];exact Ks (FY h1 (F5 ..)) (FY h2 (F5 ..))
  have k2:(g:Int) ∣ (a*e-b*c) *y:=by
   have:(a*e-b*c) *y=a*(c*x+e*y)-c*(a*x+b*y):=by grind
   rw[this];exact Ks (FY h2 (F5 ..)) (FY h1 (F5 ..))
  have up:∀z:Int,(g:Int) ∣ (a*e-b*c) *z->(g:Int) ∣ z:=λz k=>by
   rcases h with w |w <;>rw[w]at k
   ·rwa [Iw]at k
   ·rw[Int.neg_one_mul]at k;exact Lx.mp k
  exact OZ.mp (Mm (up x k1) (up y k2))
 ·have h1:((Ig x y:Nat):Int) ∣ x:=Jm ..;have h2:((Ig x y:Nat):Int) ∣ y:=I_ ..;exact OZ.mp (Mm (IS (FY h1 (F5 ..)) (FY h2 (F5 ..))) (IS (FY h1 (F5 ..)) (FY h2 (F5 ..))))
theorem fc(A B:P2):gst (B,A)=gst (A,B):=by
 unfold gst;dsimp only;rw[show A.1-B.1=-(B.1-A.1) by lia,show A.2-B.2=-(B.2-A.2) by lia,Int.gcd_neg,Int.neg_gcd]
theorem An{f:P2->P2}{d:Int}(L:Lin f d)(s:P2×P2):gst (sdf f d s)=gst s:=by
 obtain⟨A,B⟩:=s
 have key:gst (f A,f B)=gst (A,B):=by
  obtain⟨a,b,c,e,h,k⟩:=L.ex;unfold gst;rw[k,k];dsimp only;rw[show a*B.1+b*B.2-(a*A.1+b*A.2)=a*(B.1-A.1)+b*(B.2-A.2) by grind,show c*B.1+e*B.2-(c*A.1+e*A.2)=c*(B.1-A.1)+e*(B.2-A.2) by grind]
  rw[y6 (by rw[h];exact L.one)]
 unfold sdf;split
 ·exact key
 ·exact (fc _ _).trans key
def chn:List P2->P2->Prop
 |b::c::r,q=>0<=ac b c q/\chn (c::r) q
 |_,_=>True
structure Cvx(a:P2)(ch:List P2):Prop where
 tr:ch.Pairwise λx y=>0<ac a x y
 sd:∀x,x=a\/x∈ch->chn ch x
theorem sW(l:List P2):sdl l=J1 l (l.drop 1++l.take 1):=by
 have h1:=sE l;have h2:=sK l
 have:sdl l=J1 ((sdl l).map (·.1)) ((sdl l).map (·.2)):=by
  generalize sdl l=s
  induction s with
  |nil=>rfl
  |cons x r ih=>simp only[Ff,GB];rw[<-ih]
 rw[h1,h2]at this;exact this
theorem h_{l:List P2}{k:Int}{i:Nat}(e:k=(i:Int))(h:i<l.length):atI (l.map pu) k=some (pu (gp l i)):=nQ e (by rw[EW,dE h];rfl)
theorem Szp.mono{m n:Nat}{p:P2}(h:Szp m p)(le:m<=n):Szp n p:=⟨h.1.mono le,h.2.mono le⟩
theorem zD(Z P B q:P2)(a b:Int):ac Z P B*(wth a b q-wth a b P)=-(ac P B q*(wth a b P-wth a b Z))-ac Z P q*(wth a b P-wth a b B):=by unfold ac wth;grind
theorem mO{l:List P2}(h3:3<=(ao l).length)(a b:Int):∃Z P B,(Z,P)∈sdl (ao l)/\(P,B)∈sdl (ao l)/\0<ac Z P B/\wth a b P=hiW a b (ao l)/\wth a b Z<=wth a b P/\wth a b B<=wth a b P:=by
 obtain⟨⟨P,hP,e⟩,k⟩:=mR a b (l:=ao l) (λz=>by rw[z]at h3;simp at h3)
 obtain⟨Z,hZ⟩:=xg hP;obtain⟨B,hB,pos⟩:=jl h3 hZ;refine⟨Z,P,B,hZ,hB,pos,e,?_,?_⟩
 ·rw[e];exact k Z (bX hZ).1
 ·rw[e];exact k B (bX hB).2
theorem DY{l:List P2}(h3:3<=(ao l).length)(a b:Int){q:P2}(hq:∀s∈sdl (ao l),0<=ac s.1 s.2 q):wth a b q<=hiW a b (ao l):=by
 obtain⟨Z,P,B,hZ,hB,pos,e,k1,k2⟩:=mO h3 a b;rw[<-e];have i1:0<=ac P B q*(wth a b P-wth a b Z):=E8 (hq _ hB) (by lia)
 have i2:0<=ac Z P q*(wth a b P-wth a b B):=E8 (hq _ hZ) (by lia)
 have pe:=zD Z P B q a b;rcases FQ (wth a b P) (wth a b q) with h |h
 ·have:=FK pos (show 0<wth a b q-wth a b P by lia)
  lia
 ·exact h
def uS(l:List P2):Int:=if l.length<3 then gst (gp l 0,gp l (l.length-1))+1 else xj l
def mS(a:Int)(n:Nat):List Int:=(F3 n).map λ(i:Nat)=>a+(i:Int)
def xC(x:Int)(n:Nat)(y:Int)(m:Nat):List P2:=((mS x n).map λa=>(mS y m).map λb=>(a,b)).flatten
theorem eZ{a:Int}{n:Nat}{x:Int}:x∈mS a n↔a<=x/\x<a+n:=by
 unfold mS;rw[EV];constructor
 ·rintro ⟨i,hi,rfl⟩;have:=Fo.mp hi;lia
 ·rintro ⟨h1,h2⟩;exact⟨(x-a).toNat,Fo.mpr (by lia),by lia⟩
theorem nF(a:Int)(n:Nat):(mS a n).Nodup:=by
 unfold mS;exact Ir _ (λi j (h:i≠j) e=>h (by lia)) LH
theorem xI{x y:Int}{n m:Nat}{p:P2}:p∈xC x n y m↔(x<=p.1/\p.1<x+n)/\y<=p.2/\p.2<y+m:=by
 unfold xC;rw[NK];constructor
 ·rintro ⟨q,hq,hp⟩;obtain⟨a,ha,rfl⟩:=EV.mp hq;obtain⟨b,hb,rfl⟩:=EV.mp hp;exact⟨eZ.mp ha,eZ.mp hb⟩
 ·rintro ⟨h1,h2⟩;exact⟨_,EV.mpr ⟨p.1,eZ.mpr h1,rfl⟩,EV.mpr ⟨p.2,eZ.mpr h2,rfl⟩⟩
theorem zG(x:Int)(n:Nat)(y:Int)(m:Nat):(xC x n y m).Nodup:=by
 unfold xC;refine List.pairwise_flatten.mpr ⟨λq hq=>?_,?_⟩
 ·obtain⟨a,_,rfl⟩:=EV.mp hq;exact Ir _ (λi j (h:i≠j) e=>h (congrArg Mt e)) (nF y m)
 ·refine FO.mpr ((nF x n).imp λ{a b} h p hp q hq e=>?_)
  obtain⟨_,_,rfl⟩:=EV.mp hp;obtain⟨_,_,rfl⟩:=EV.mp hq;exact h (congrArg Ly e)
def loX(l:List P2):Int:=j5 (l.map (·.1))
def hiX(l:List P2):Int:=hiL (l.map (·.1))
def loY(l:List P2):Int:=j5 (l.map (·.2))
def hiY(l:List P2):Int:=hiL (l.map (·.2))
theorem cI{l:List Int}(h:l≠[]):hiL l∈l/\∀a∈l,a<=hiL l:=by
 cases l with
 |nil=>exact absurd rfl h
 |cons a l=>exact⟨eT l a,fD l a⟩
def bxN(l:List P2):Nat:=(hiX l+1-loX l).toNat
def byN(l:List P2):Nat:=(hiY l+1-loY l).toNat
def box(l:List P2):List P2:=xC (loX l) (bxN l) (loY l) (byN l)
theorem de{l:List P2}(PN:l≠[]){p:P2}:p∈box l↔(loX l<=p.1/\p.1<=hiX l)/\loY l<=p.2/\p.2<=hiY l:=by
 unfold box bxN byN;rw[xI];lia
theorem qe{A B:List P2}(hA:A.Nodup)(hB:B.Nodup)(h:∀p,p∈A↔p∈B):A.length=B.length:=((HR hA hB).mpr h).length_eq
theorem xz{l:List P2}(h3:3<=(ao l).length){p:P2}(h:∀s∈sdl (ao l),0<=ac s.1 s.2 p):p∈box (ao l):=by
 have PN:ao l≠[]:=λz=>by rw[z]at h3;simp at h3
 have key:∀a b:Int,∃q∈ao l,wth a b p<=wth a b q:=λa b=>by
  obtain⟨⟨q,hq,e⟩,_⟩:=mR a b PN;exact⟨q,hq,by rw[e];exact DY h3 a b h⟩
 have hx:(ao l).map (·.1)≠[]:=by simpa using PN
 have hy:(ao l).map (·.2)≠[]:=by simpa using PN
 obtain⟨q1,m1,k1⟩:=key 1 0;obtain⟨q2,m2,k2⟩:=key (-1) 0;obtain⟨q3,m3,k3⟩:=key 0 1;obtain⟨q4,m4,k4⟩:=key 0 (-1);have a1:=(cI hx).2 q1.1 (FL m1);have a2:=(bR hx).2 q2.1 (FL m2);have a3:=(cI hy).2 q3.2 (FL m3);have a4:=(bR hy).2 q4.2 (FL m4);unfold wth at k1 k2 k3 k4;rw[de PN];unfold loX hiX loY hiY;lia
theorem AE(A:P2):box [A]=[A]:=by
 have h:∀p,p∈box [A]↔p∈[A]:=λp=>by
  rw[de (by simp),E5]
  unfold loX hiX loY hiY j5 hiL;simp only[Ff,Jp,List.foldl_nil];constructor
  ·intro h;exact GC (by lia) (by lia)
  ·rintro rfl;lia
 have hp:=(HR (zG _ _ _ _) (by simp:[A].Nodup)).mpr h
 exact MP.mp hp
theorem yX{A B p:P2}(h:ST.ltP A B=true):(p∈box [A,B]/\ac A B p=0)↔∃k:Int,0<=k/\k<=gst (A,B)/\p=onS (A,B) k:=by
 rw[<-nX h,de (by simp)]
 have lt:=h;unfold ST.ltP at lt;have lt:=of_decide_eq_true lt;have e1:loX [A,B]=A.1:=by show min A.1 B.1=A.1;lia
 have e2:hiX [A,B]=B.1:=by show max A.1 B.1=B.1;lia
 have e3:loY [A,B]=min A.2 B.2:=rfl;have e4:hiY [A,B]=max A.2 B.2:=rfl;rw[e1,e2,e3,e4];unfold ST.leP;rw[decide_eq_true_eq,decide_eq_true_eq];constructor
 ·rintro ⟨⟨⟨a1,a2⟩,b1,b2⟩,d⟩;refine⟨d,?_,?_⟩
  ·rcases GK a1 with z |z
   ·exact .inl z
   ·right
    refine⟨z,?_⟩;rcases lt with w |⟨w,w'⟩
    ·unfold ac at d;rw[<-z,Pe,Hd,KM]at d;have:=(Fi.mp d).resolve_left (by lia)
     lia
    ·lia
  ·rcases GK a2 with z |z
   ·exact .inl z
   ·right
    refine⟨z,?_⟩;rcases lt with w |⟨w,w'⟩
    ·have d':(B.1-A.1) *(p.2-B.2)=0:=by
      have:ac A B p=(B.1-A.1) *(p.2-B.2):=by unfold ac;rw[z];grind
      lia
     have:=(Fi.mp d').resolve_left (by lia)
     lia
    ·lia
 ·rintro ⟨d,a,b⟩;refine⟨⟨⟨by lia,by lia⟩,?_⟩,d⟩
  rcases lt with w |⟨w,w'⟩
  ·have hd:(B.1-A.1) *(p.2-A.2)=(B.2-A.2) *(p.1-A.1):=by unfold ac at d;lia
   have Qt:(B.1-A.1) *(B.2-p.2)=(B.2-A.2) *(B.1-p.1):=by grind
   rcases Mn A.2 B.2 with u |u
   ·have x1:=E8 (show 0<=B.2-A.2 by lia) (show 0<=p.1-A.1 by lia)
    have x2:=E8 (show 0<=B.2-A.2 by lia) (show 0<=B.1-p.1 by lia)
    rw[<-hd]at x1;rw[<-Qt]at x2;have y1:=cC (by lia) x1
    have y2:=cC (by lia) x2
    lia
   ·have x1:=E8 (show 0<=A.2-B.2 by lia) (show 0<=p.1-A.1 by lia)
    have x2:=E8 (show 0<=A.2-B.2 by lia) (show 0<=B.1-p.1 by lia)
    have f1:(A.2-B.2) *(p.1-A.1)=(B.1-A.1) *(A.2-p.2):=by grind
    have f2:(A.2-B.2) *(B.1-p.1)=(B.1-A.1) *(p.2-B.2):=by grind
    rw[f1]at x1;rw[f2]at x2;have y1:=cC (by lia) x1
    have y2:=cC (by lia) x2
    lia
  ·lia
theorem AQ(A B:P2):sdl [A,B]=[(A,B),(B,A)]:=by
 unfold sdl nxt;simp[JF]
theorem vH{A B:P2}(h:ao [A,B]=[A,B]):ST.ltP A B=true:=by
 have nd:[A,B].Nodup:=by rw[<-h];exact b7 _
 have ne:A≠B:=by simpa using nd
 have asc:=ST.srt_asc [A,B];have hm:=λz=>ST.srt_mem z [A,B]
 match e:ST.srt [A,B],asc,hm with
 |[],_,hm=>have:=(hm A).mpr (by simp);simp at this
 |[X],_,hm=>
  have a:=(hm A).mpr (by simp)
  have b:=(hm B).mpr (by simp)
  rw[E5]at a b;exact absurd (a.trans b.symm) ne
 |X::Y::[],asc,_=>
  have c:ao [A,B]=[X,Y]:=by unfold ao;rw[e];simp[am,aU]
  rw[h]at c;injection c with c1 c2
  injection c2 with c2 _
  subst c1 c2;exact (Fv.mp asc).1 _ (by simp)
 |X::Y::Z::r,_,_=>
  have:=ST.srt_len [A,B];rw[e]at this;simp at this
def p8(l:List P2):Int:=pin l+uS l
def TP:List P2->Prop
 |[]=>True
 |a::v=>(v.Pairwise λx y=>0<ac a x y)/\TP v
section
variable {l:List P2} (R:∀s∈sdl l,∀w∈l,w≠s.1→w≠s.2→0<ac s.1 s.2 w) (nd:l.Nodup)
include R nd
end
theorem AK(f:P2->P2)(l:List P2):sdl (l.map f)=(sdl l).map λs=>(f s.1,f s.2):=by
 rw[sW,sW,<-OV,<-MZ,<-F1];generalize l.drop 1++l.take 1=m
 induction l generalizing m with
 |nil=>rfl
 |cons a l ih=>
  cases m with
  |nil=>simp
  |cons b m=>simp only[Ff,GB];rw[ih]
theorem lN{a b:P2}(h:ST.ltP a b=true):ao [a,b]=[a,b]:=by
 have e:ST.srt [a,b]=[a,b]:=ST.asc_srt (by simp[ST.Asc,h])
 unfold ao;rw[e];simp[am,aU]
def cx(l:List P2)(p:P2):Bool:=if l.length=1 then decide (p=gp l 0) else if l.length=2 then (decide (ac (gp l 0) (gp l 1) p=0) && (ST.leP (gp l 0) p && ST.leP p (gp l 1))) else (sdl l).all λs=>decide (0<=ac s.1 s.2 p)
theorem f_{l:List P2}(h3:3<=l.length)(p:P2):cx l p=true↔∀s∈sdl l,0<=ac s.1 s.2 p:=by
 unfold cx;rw[if_neg (by lia),if_neg (by lia),Iz]
 simp only[decide_eq_true_eq]
theorem fF(A B p:P2):cx [A,B] p=true↔ac A B p=0/\ST.leP A p=true/\ST.leP p B=true:=by
 unfold cx;rw[if_neg (by simp),if_pos (by simp),Gv,Gv,decide_eq_true_eq]
 rfl
theorem iO(A p:P2):cx [A] p=true↔p=A:=by
 unfold cx;rw[if_pos (by simp),decide_eq_true_eq];rfl
section
variable {l:List P2} (h3:3≤(ao l).length)
include h3
end
theorem BY{A B:P2}(h:ST.ltP A B=true):A.1<B.1\/(A.1=B.1/\A.2<B.2):=by
 unfold ST.ltP at h;exact of_decide_eq_true h
theorem yN{A B:P2}(h:ST.ltP A B=true):loX [A,B]=A.1/\hiX [A,B]=B.1/\loY [A,B]=min A.2 B.2/\hiY [A,B]=max A.2 B.2:=by
 have:=BY h;exact⟨(by show min A.1 B.1=A.1;lia),(by show max A.1 B.1=B.1;lia),rfl,rfl⟩
theorem zN{A B:P2}(h:ST.ltP A B=true){p:P2}(hp:cx [A,B] p=true):p∈box [A,B]:=by
 have:=(fF A B p).mp hp;exact ((yX h).mpr ((nX h).mp this)).1
structure Fld(l:List P2):Prop where
 ne:l≠[]
 cr:ao l=l
theorem Fld.cases{l:List P2}(F:Fld l):(∃A,l=[A])\/(∃A B,l=[A,B]/\ST.ltP A B=true)\/3<=(ao l).length:=by
 match l,F with
 |[],F=>exact absurd rfl F.ne
 |[A],_=>exact .inl ⟨A,rfl⟩
 |[A,B],F=>exact .inr (.inl ⟨A,B,rfl,vH F.cr⟩)
 |A::B::C::r,F=>exact .inr (.inr (by rw[F.cr];simp))
theorem Fld.in_box{l:List P2}(F:Fld l){p:P2}(h:cx l p=true):p∈box l:=by
 rcases F.cases with ⟨A,rfl⟩ |⟨A,B,rfl,lt⟩ |h3
 ·rw[(iO A p).mp h,AE];simp
 ·exact zN lt h
 ·rw[<-F.cr]at h |-;exact xz h3 ((f_ h3 p).mp h)
def shf(s a b:Int)(p:P2):P2:=(p.1+a,p.2+s*p.1+b)
theorem Av(s a b:Int)(p q:P2)(h:plt p q):plt (shf s a b p) (shf s a b q):=by
 unfold plt shf at *;dsimp only;rcases h with h |⟨h,k⟩
 ·left;lia
 ·right;rw[h];lia
theorem nu(s a b:Int)(p q r:P2):ac (shf s a b p) (shf s a b q) (shf s a b r)=ac p q r:=by unfold ac shf;grind
theorem yQ{s a b:Int}{p q:P2}(e:shf s a b p=shf s a b q):p=q:=by
 have e1:p.1+a=q.1+a:=congrArg Ly e;have e2:p.2+s*p.1+b=q.2+s*q.1+b:=congrArg Mt e;have e1:p.1=q.1:=by lia
 rw[e1]at e2;exact GC e1 (by lia)
theorem ot(s a b:Int)(l:List P2):ao (l.map (shf s a b))=(ao l).map (shf s a b):=oJ (Av s a b) (λp q r=>by rw[nu]) l
theorem rM(s a b:Int)(p q:P2):ST.leP (shf s a b p) (shf s a b q)=ST.leP p q:=by
 unfold ST.leP shf;dsimp only;rw[HK,decide_eq_true_eq,decide_eq_true_eq];constructor
 ·rintro (h |⟨h,k⟩)
  ·left;lia
  ·right
   have:p.1=q.1:=by lia
   rw[this]at k;lia
 ·rintro (h |⟨h,k⟩)
  ·left;lia
  ·right;rw[h];lia
theorem qM{f:P2->P2}{l:List P2}{i:Nat}(h:i<l.length):gp (l.map f) i=f (gp l i):=by simp[gp,h]
theorem Cj(s a b:Int)(l:List P2)(PN:l≠[])(p:P2):cx (l.map (shf s a b)) (shf s a b p)=cx l p:=by
 have h0:0<l.length:=FJ.mpr PN;unfold cx;rw[EM];by_cases h1:l.length=1
 ·rw[if_pos h1,if_pos h1,qM h0];exact decide_eq_decide.mpr ⟨yQ,λe=>by rw[e]⟩
 ·rw[if_neg h1,if_neg h1];by_cases h2:l.length=2
  ·rw[if_pos h2,if_pos h2,qM h0,qM (show 1<l.length by lia),nu,rM,rM]
  ·rw[if_neg h2,if_neg h2,AK,O9];congr 1
   funext t
   show decide (0<=ac (shf s a b t.1) (shf s a b t.2) (shf s a b p))=_;rw[nu]
theorem vo{pts:List P2}(PN:pts≠[]):∃mn mx,(ao pts)[0]?=some mn/\mn∈pts/\mx∈pts/\(∀q∈pts,ST.ltP q mn=false)/\(∀q∈pts,ST.ltP mx q=false)/\(¬ 2<(ao pts).length->(ao pts)[(ao pts).length-1]?=some mx):=by
 have no:∀{a b:P2},(a=b\/plt a b)->ST.ltP b a=false:=λ{a b} h=>by
  rw[ST.ltP_no];rcases h with rfl |h
  ·lia
  ·unfold plt at h;lia
 by_cases h2:2<=(ST.srt pts).length
 ·have hs:=dG pts;obtain⟨mn,mx,W⟩:=Bx hs h2
  have hc:ao pts=(am (ST.srt pts)).reverse.dropLast++(am (ST.srt pts).reverse).reverse.dropLast:=by
   unfold ao;rw[if_neg (by lia)]
  have SE:mn∈ST.srt pts:=bM _ _ (Fc.mp (E9 W.t0));have memX:mx∈ST.srt pts:=bM _ _ (Fc.mp (E9 W.t1));refine⟨mn,mx,?_,(ST.srt_mem _ _).mp SE,(ST.srt_mem _ _).mp memX,λq hq=>no ((W.least q ((ST.srt_mem _ _).mpr hq)).imp (λe=>e.symm) id),λq hq=>no (W.most q ((ST.srt_mem _ _).mpr hq)),λh=>?_⟩
  ·have:=d8 W (k:=0) (by lia)
   rw[Pd]at this;rw[hc,this];exact W.t0
  ·rw[hc]at h |-;have h1:=W.lt;have h3:=W.lb;have hn:((am (ST.srt pts)).reverse.dropLast++(am (ST.srt pts).reverse).reverse.dropLast).length=(am (ST.srt pts)).reverse.length-1+((am (ST.srt pts).reverse).reverse.length-1):=by simp
   have:=d8 W (k:=(am (ST.srt pts)).reverse.length-1) (EX _);rw[W.t1,FW (by lia)]at this
   rw[<-this];congr 1;lia
 ·have h1:(ST.srt pts).length=1:=by
   obtain⟨x,hx⟩:=K5 pts PN;have:=Gk ((ST.srt_mem x pts).mpr hx);lia
  obtain⟨x,hx⟩:=ID.mp h1;have all:∀q∈pts,q=x:=λq hq=>by have:=(ST.srt_mem q pts).mpr hq;rw[hx]at this;simpa using this
  have mx:x∈pts:=(ST.srt_mem _ _).mp (by rw[hx];simp)
  rw[bU h2,hx];exact⟨x,x,rfl,mx,mx,λq hq=>no (.inl (all q hq).symm),λq hq=>no (.inl (all q hq)),λ_=>rfl⟩
theorem tw{f:P2->P2}{d:Int}(L:Lin f d)(A B:P2):gst (f A,f B)=gst (A,B):=by
 have:=An L (A,B);unfold sdf at this;split at this
 ·exact this
 ·rw[<-fc];exact this
theorem wn{f:P2->P2}{d:Int}(L:Lin f d){A B:P2}(h:A≠B)(k:Int):onS (f A,f B) k=f (onS (A,B) k):=by
 have g0:0<gst (A,B):=ji h;have e1:=jV (A,B);have e2:=km (A,B);have eg:=tw L A B;obtain⟨a,b,c,e,_,hf⟩:=L.ex
 have u1:ub (f A,f B)=a*ub (A,B)+b*vb (A,B):=by
  unfold ub;rw[eg];dsimp only at *;rw[hf,hf];dsimp only
  rw[show a*B.1+b*B.2-(a*A.1+b*A.2)=gst (A,B) *(a*ub (A,B)+b*vb (A,B)) by
   have:a*B.1+b*B.2-(a*A.1+b*A.2)=a*(B.1-A.1)+b*(B.2-A.2):=by grind
   rw[this,e1,e2];grind]
  rw[G4 _ (by lia)]
  rfl
 have v1:vb (f A,f B)=c*ub (A,B)+e*vb (A,B):=by
  unfold vb;rw[eg];dsimp only at *;rw[hf,hf];dsimp only
  rw[show c*B.1+e*B.2-(c*A.1+e*A.2)=gst (A,B) *(c*ub (A,B)+e*vb (A,B)) by
   have:c*B.1+e*B.2-(c*A.1+e*A.2)=c*(B.1-A.1)+e*(B.2-A.2):=by grind
   rw[this,e1,e2];grind]
  rw[G4 _ (by lia)]
  rfl
 unfold onS;rw[u1,v1];dsimp only;rw[hf,hf];dsimp only;exact GC (by dsimp only;grind) (by dsimp only;grind)
theorem Ah{A B:P2}(h:A≠B)(k:Int):onS (B,A) k=onS (A,B) (gst (A,B)-k):=by
 have e1:=jV (A,B);have e2:=km (A,B);have e3:=jV (B,A);have e4:=km (B,A);have g0:0<gst (A,B):=ji h;rw[fc]at e3 e4;dsimp only at *;have u:ub (B,A)=-ub (A,B):=F8 (a:=gst (A,B)) (by lia) (by rw[MN];lia)
 have v:vb (B,A)=-vb (A,B):=F8 (a:=gst (A,B)) (by lia) (by rw[MN];lia)
 unfold onS;rw[u,v];dsimp only;exact GC (by dsimp only;grind) (by dsimp only;grind)
def oW(A B p:P2):Prop:=∃k:Int,0<=k/\k<=gst (A,B)/\p=onS (A,B) k
theorem wQ{A B:P2}(h:A≠B)(p:P2):oW B A p↔oW A B p:=by
 have key:∀{A B:P2},A≠B->oW B A p->oW A B p:=λ{A B} h ⟨k,k0,k1,e⟩=>by
  rw[fc]at k1;exact⟨gst (A,B)-k,by lia,by lia,by rw[e,Ah h]⟩
 exact⟨key h,key h.symm⟩
theorem Ag{f:P2->P2}{d:Int}(L:Lin f d){A B:P2}(h:A≠B)(p:P2):oW (f A) (f B) (f p)↔oW A B p:=by
 unfold oW;rw[tw L];constructor
 ·rintro ⟨k,k0,k1,e⟩;exact⟨k,k0,k1,L.inj (by rw[e,wn L h])⟩
 ·rintro ⟨k,k0,k1,e⟩;exact⟨k,k0,k1,by rw[e,wn L h]⟩
theorem qN{A B:P2}(h:ST.ltP A B=true)(p:P2):cx [A,B] p=true↔oW A B p:=by rw[fF,nX h];rfl
theorem jP{A B:P2}(h:A≠B):(ST.ltP A B=true/\ao [A,B]=[A,B])\/(ST.ltP B A=true/\ao [A,B]=[B,A]):=by
 by_cases hl:ST.ltP A B=true
 ·exact .inl ⟨hl,lN hl⟩
 ·have hb:=ST.ltP_tot h (by simpa using hl)
  refine .inr ⟨hb,?_⟩;rw[rC (l6 (m:=[B,A]) λz=>by simp[or_comm]),lN hb]
theorem BH{f:P2->P2}{d:Int}(L:Lin f d){l:List P2}(F:Fld l)(p:P2):cx (ao (l.map f)) (f p)=cx l p:=by
 rw[HK];rcases F.cases with ⟨A,rfl⟩ |⟨A,B,rfl,lt⟩ |h3
 ·have e:ao ([A].map f)=[f A]:=rfl;rw[e,iO,iO];exact⟨λh=>L.inj h,λh=>by rw[h]⟩
 ·have ne:A≠B:=λe=>by rw[e,ST.asc_irr]at lt;cases lt
  have ne':f A≠f B:=λe=>ne (L.inj e)
  rw[qN lt,<-Ag L ne];show cx (ao [f A,f B]) (f p)=true↔_;rcases jP ne' with ⟨h,e⟩ |⟨h,e⟩
  ·rw[e,qN h]
  ·rw[e,qN h,wQ ne']
 ·have l3:=gs L h3;have QN:3<=l.length:=by rw[<-F.cr];exact h3
  rw[f_ l3,f_ QN];constructor
  ·intro h s hs;have:=h _ ((xy L h3 _).mpr ⟨s,by rw[F.cr];exact hs,rfl⟩)
   unfold sdf at this;rcases L.one with e |e
   ·rw[if_pos e]at this;dsimp only at this;rw[L.det,e,Iw]at this;exact this
   ·rw[if_neg (by lia)]at this
    dsimp only at this;rw[L.det,e]at this;have sw:ac s.2 s.1 p=-ac s.1 s.2 p:=by unfold ac;grind
    lia
  ·intro h t ht;obtain⟨s,hs,rfl⟩:=(xy L h3 t).mp ht;have k:=h s (by rw[F.cr]at hs;exact hs)
   unfold sdf;rcases L.one with e |e
   ·rw[if_pos e];dsimp only;rw[L.det,e,Iw];exact k
   ·rw[if_neg (by lia)]
    dsimp only;rw[L.det,e];have sw:ac s.2 s.1 p=-ac s.1 s.2 p:=by unfold ac;grind
    lia
theorem xw{a b c d:Int}(h:a*d-b*c=1\/a*d-b*c=-1):Lin (λp:P2=>(a*p.1+b*p.2,c*p.1+d*p.2)) (a*d-b*c):=⟨h,a,b,c,d,rfl,λ_=>rfl⟩
theorem oM(a b c d e f:Int)(l:List P2):l.map (ap a b c d e f)=(l.map λp:P2=>(a*p.1+b*p.2,c*p.1+d*p.2)).map (shf 0 e f):=by
 rw[FI];refine Kq λp _=>?_
 unfold ap shf;exact GC rfl (by dsimp only[Function.comp];lia)
theorem DK{a b c d:Int}(e f:Int)(h:a*d-b*c=1\/a*d-b*c=-1){l:List P2}(F:Fld l)(p:P2):cx (ao (l.map (ap a b c d e f))) (ap a b c d e f p)=cx l p:=by
 rw[oM,ot]
 have hp:ap a b c d e f p=shf 0 e f (a*p.1+b*p.2,c*p.1+d*p.2):=by
  unfold ap shf;exact GC rfl (by dsimp only;lia)
 rw[hp,Cj _ _ _ _ (ip (by simpa using F.ne))]
 exact BH (xw h) F p
theorem CY{a b c d:Int}(e f:Int){l:List P2}(F:Fld l):Fld (ao (l.map (ap a b c d e f))):=⟨ip (by simpa using F.ne),gB _⟩
def ko(s:P2×P2)(y:Int):Int:=(s.2.1-s.1.1) *(y-s.1.2)
def xM(y:Int)(s:P2×P2):Int:=s.1.1+ko s y/(s.2.2-s.1.2)
def xW(y:Int)(s:P2×P2):Int:=s.1.1-ko s y / -(s.2.2-s.1.2)
def cX(l:List P2)(ss:List (P2×P2))(y:Int):List Int:=hiX l::(ss.filter λs=>decide (0<s.2.2-s.1.2)).map (xM y)
def cQ(l:List P2)(ss:List (P2×P2))(y:Int):List Int:=loX l::(ss.filter λs=>decide (s.2.2-s.1.2<0)).map (xW y)
def kY(l:List P2)(y:Int):Int:=j5 (cX l (sdl l) y)
def fH(l:List P2)(y:Int):Int:=hiL (cQ l (sdl l) y)
theorem jB(s:P2×P2)(x y:Int):ac s.1 s.2 (x,y)=ko s y-(s.2.2-s.1.2) *(x-s.1.1):=by unfold ac ko;grind
theorem tE{s:P2×P2}{x y:Int}(h:0<s.2.2-s.1.2):0<=ac s.1 s.2 (x,y)↔x<=xM y s:=by
 rw[jB];unfold xM;have k:x-s.1.1<=ko s y/(s.2.2-s.1.2)↔(x-s.1.1) *(s.2.2-s.1.2)<=ko s y:=LY h;rw[J7]at k;lia
theorem sH{s:P2×P2}{x y:Int}(h:s.2.2-s.1.2<0):0<=ac s.1 s.2 (x,y)↔xW y s<=x:=by
 rw[jB];unfold xW;have k:s.1.1-x<=ko s y / -(s.2.2-s.1.2)↔(s.1.1-x) * -(s.2.2-s.1.2)<=ko s y:=LY (by lia)
 have e:(s.1.1-x) * -(s.2.2-s.1.2)=(s.2.2-s.1.2) *(x-s.1.1):=by grind
 rw[e]at k;lia
theorem ug{l:List P2}{ss:List (P2×P2)}{x y:Int}:x<=j5 (cX l ss y)↔x<=hiX l/\∀s∈ss,0<s.2.2-s.1.2->x<=xM y s:=by
 have ok:=bR (l:=cX l ss y) (by unfold cX;simp)
 constructor
 ·intro h;refine⟨IU h (ok.2 _ (by unfold cX;simp)),λs hs hr=>IU h (ok.2 _ ?_)⟩
  unfold cX;exact ES _ (FL (F_.mpr ⟨hs,decide_eq_true hr⟩))
 ·rintro ⟨h1,h2⟩;have m:=ok.1;unfold cX at m;rcases ET.mp m with e |e
  ·unfold cX;rw[e];exact h1
  ·obtain⟨s,hs,e2⟩:=EV.mp e;obtain⟨hs,hr⟩:=F_.mp hs;unfold cX;rw[<-e2];exact h2 s hs (of_decide_eq_true hr)
theorem tR{l:List P2}{ss:List (P2×P2)}{x y:Int}:hiL (cQ l ss y)<=x↔loX l<=x/\∀s∈ss,s.2.2-s.1.2<0->xW y s<=x:=by
 have ok:=cI (l:=cQ l ss y) (by unfold cQ;simp)
 constructor
 ·intro h;refine⟨IU (ok.2 _ (by unfold cQ;simp)) h,λs hs hr=>IU (ok.2 _ ?_) h⟩
  unfold cQ;exact ES _ (FL (F_.mpr ⟨hs,decide_eq_true hr⟩))
 ·rintro ⟨h1,h2⟩;have m:=ok.1;unfold cQ at m;rcases ET.mp m with e |e
  ·unfold cQ;rw[e];exact h1
  ·obtain⟨s,hs,e2⟩:=EV.mp e;obtain⟨hs,hr⟩:=F_.mp hs;unfold cQ;rw[<-e2];exact h2 s hs (of_decide_eq_true hr)
theorem wP{l:List P2}(PN:l≠[]):∃q∈l,q.2=loY l:=by
 obtain⟨q,hq,e⟩:=EV.mp (bR (l:=l.map (·.2)) (by simpa using PN)).1
 exact⟨q,hq,e⟩
theorem v0{l:List P2}(PN:l≠[]):∃q∈l,q.2=hiY l:=by
 obtain⟨q,hq,e⟩:=EV.mp (cI (l:=l.map (·.2)) (by simpa using PN)).1
 exact⟨q,hq,e⟩
theorem yq{l:List P2}(F:Fld l)(h3:3<=l.length){x y:Int}(y0:loY l<=y)(y1:y<=hiY l):cx l (x,y)=true↔fH l y<=x/\x<=kY l y:=by
 have hc:=F.cr;have c3:3<=(ao l).length:=by rw[hc];exact h3
 unfold fH kY;rw[ug,tR];constructor
 ·intro h;have d:=(f_ h3 _).mp h;have b:=(de F.ne).mp (F.in_box h);exact⟨⟨b.1.1,λs hs hr=>(sH hr).mp (d s hs)⟩,b.1.2,λs hs hr=>(tE hr).mp (d s hs)⟩
 ·rintro ⟨⟨_,hb⟩,_,he⟩;refine (f_ h3 _).mpr λs hs=>?_
  rcases FQ 0 (s.2.2-s.1.2) with z |z
  ·exact (tE z).mpr (he s hs z)
  ·rcases FQ (s.2.2-s.1.2) 0 with w |w
   ·exact (sH w).mpr (hb s hs w)
   ·have e0:s.2.2-s.1.2=0:=by lia
    have cov:∀q∈l,0<=(s.2.1-s.1.1) *(q.2-s.1.2):=λq hq=>by
     have k:=di c3 (by rw[hc];exact hs) q hq
     have:=jB s q.1 q.2;rw[e0,Hc,KM]at this;rw[<-show ko s q.2=(s.2.1-s.1.1) *(q.2-s.1.2) from rfl,<-this]
     exact k
    rw[jB,e0,Hc,KM];show 0<=(s.2.1-s.1.1) *(y-s.1.2);rcases FQ 0 (s.2.1-s.1.1) with u |u
    ·obtain⟨q,hq,eq⟩:=wP F.ne;have k:=Hw (cov q hq) u;exact E8 (by lia) (by lia)
    ·rcases FQ (s.2.1-s.1.1) 0 with v |v
     ·obtain⟨q,hq,eq⟩:=v0 F.ne;have c:=cov q hq;have e2:(s.2.1-s.1.1) *(q.2-s.1.2)=(-(s.2.1-s.1.1)) *(s.1.2-q.2):=by grind
      rw[e2]at c;have k:=Hw c (by lia)
      have e3:(s.2.1-s.1.1) *(y-s.1.2)=(-(s.2.1-s.1.1)) *(s.1.2-y):=by grind
      rw[e3];exact E8 (by lia) (by lia)
     ·rw[show s.2.1-s.1.1=0 by lia,Hc];exact Kt _
theorem bo{a b:P2}:ST.leP a b=true↔a.1<b.1\/(a.1=b.1/\a.2<=b.2):=by unfold ST.leP;exact decide_eq_true_iff
theorem xx{A B:P2}(lt:ST.ltP A B=true)(h:A.2=B.2){x y:Int}(hy:y=A.2):cx [A,B] (x,y)=true↔fH [A,B] y<=x/\x<=kY [A,B] y:=by
 obtain⟨b1,b2,_,_⟩:=yN lt;unfold fH kY;rw[ug,tR,fF,AQ,b1,b2];have hl:=BY lt;constructor
 ·rintro ⟨_,h1,h2⟩;rw[bo]at h1 h2;dsimp only at h1 h2;refine⟨⟨by lia,λs hs hr=>?_⟩,by lia,λs hs hr=>?_⟩
  ·simp at hs;rcases hs with rfl |rfl <;>dsimp only at hr <;>lia
  ·simp at hs;rcases hs with rfl |rfl <;>dsimp only at hr <;>lia
 ·rintro ⟨⟨h1,_⟩,h2,_⟩;rw[bo,bo];dsimp only;refine⟨?_,by lia,by lia⟩
  unfold ac;rw[hy,<-h];grind
def kP(l:List P2)(y:Int):List P2:=(mS (fH l y) (kY l y+1-fH l y).toNat).map λx=>(x,y)
def dF(l:List P2)(n:Nat):List P2:=((F3 n).map λy:Nat=>kP l (0+(y:Int))).flatten
theorem eX{l:List P2}{y:Int}{p:P2}:p∈kP l y↔p.2=y/\fH l y<=p.1/\p.1<=kY l y:=by
 unfold kP;rw[EV];constructor
 ·rintro ⟨x,hx,rfl⟩;have:=eZ.mp hx;exact⟨rfl,by lia,by lia⟩
 ·rintro ⟨e,h1,h2⟩;exact⟨p.1,eZ.mpr ⟨h1,by lia⟩,by rw[<-e]⟩
theorem dN{l:List P2}{n:Nat}{p:P2}:p∈dF l n↔(0<=p.2/\p.2<n)/\fH l p.2<=p.1/\p.1<=kY l p.2:=by
 unfold dF;rw[NK];constructor
 ·rintro ⟨r,hr,hp⟩;obtain⟨y,hy,rfl⟩:=EV.mp hr;have:=Fo.mp hy;obtain⟨e,h1,h2⟩:=eX.mp hp;rw[<-e]at h1 h2;exact⟨by lia,h1,h2⟩
 ·rintro ⟨h0,h1,h2⟩;exact⟨_,EV.mpr ⟨p.2.toNat,Fo.mpr (by lia),rfl⟩,eX.mpr ⟨by lia,by rw[show 0+(p.2.toNat:Int)=p.2 by lia];exact⟨h1,h2⟩⟩⟩
theorem tM(l:List P2)(y:Int):(kP l y).Nodup:=Ir _ (λa b h e=>h (congrArg Ly e)) (nF _ _)
theorem jQ(l:List P2)(n:Nat):dF l (n+1)=dF l n++kP l (0+(n:Int)):=by
 unfold dF;rw[JF,F1,List.flatten_append];simp
theorem jW(l:List P2):∀n,(dF l n).Nodup
 |0=>by unfold dF;simp
 |n+1=>by
  rw[jQ];refine HG.mpr ⟨jW l n,tM l _,λa ha b hb e=>?_⟩
  have h1:=dN.mp ha;have h2:=(eX.mp hb).1;rw[<-e]at h2;lia
structure Lev(l:List P2):Prop where
 F:Fld l
 y0:loY l=0
 two:l.length=2->hiY l=0
 ne1:2<=l.length
theorem kB{l:List P2}(L:Lev l)(p:P2):p∈dF l (hiY l+1).toNat↔cx l p=true:=by
 obtain⟨q,hq,eq⟩:=wP L.F.ne
 have hh:0<=hiY l:=by
  have:=(cI (l:=l.map (·.2)) (by simpa using L.F.ne)).2 q.2 (FL hq)
  have e:=L.y0;unfold hiY;lia
 rw[dN]
 have key:0<=p.2->p.2<=hiY l->(cx l (p.1,p.2)=true↔fH l p.2<=p.1/\p.1<=kY l p.2):=λh0 h1=>by
  rcases L.F.cases with ⟨A,rfl⟩ |⟨A,B,e,lt⟩ |h3
  ·have:=L.ne1;simp at this
  ·subst e;obtain⟨_,_,b3,b4⟩:=yN lt;have t:=L.two rfl;have y0:=L.y0;exact xx lt (by lia) (by lia)
  ·exact yq L.F (by rw[<-L.F.cr];exact h3) (by rw[L.y0];exact h0) h1
 constructor
 ·rintro ⟨h0,h1⟩;exact (key h0.1 (by lia)).mpr h1
 ·intro h;have b:=(de L.F.ne).mp (L.F.in_box h);rw[L.y0]at b;exact⟨by lia,(key b.2.1 b.2.2).mp h⟩
structure LvP(a b:P2)(g u v s t:Int):Prop where
 gp:0<g
 hu:g*u=b.1-a.1
 hv:g*v=b.2-a.2
 st:s*u+t*v=1
abbrev lvF(a:P2)(u v s t:Int):P2->P2:=ap s t (-v) u (-s*a.1-t*a.2) (v*a.1-u*a.2)
abbrev bkF(a:P2)(u v s t:Int):P2->P2:=ap u (-t) v s a.1 a.2
theorem rX{a b:P2}{g u v s t:Int}(L:LvP a b g u v s t)(p:P2):bkF a u v s t (lvF a u v s t p)=p/\lvF a u v s t (bkF a u v s t p)=p:=by
 have h:=L.st;unfold bkF lvF ap;refine⟨GC ?_ ?_,GC ?_ ?_⟩ <;>dsimp only
 ·have:u*(s*p.1+t*p.2+(-s*a.1-t*a.2))+-t*(-v*p.1+u*p.2+(v*a.1-u*a.2))+a.1=(s*u+t*v) *p.1-(s*u+t*v) *a.1+a.1:=by grind
  rw[this,h];lia
 ·have:v*(s*p.1+t*p.2+(-s*a.1-t*a.2))+s*(-v*p.1+u*p.2+(v*a.1-u*a.2))+a.2=(s*u+t*v) *p.2-(s*u+t*v) *a.2+a.2:=by grind
  rw[this,h];lia
 ·have:s*(u*p.1+-t*p.2+a.1)+t*(v*p.1+s*p.2+a.2)+(-s*a.1-t*a.2)=(s*u+t*v) *p.1:=by grind
  rw[this,h];lia
 ·have:-v*(u*p.1+-t*p.2+a.1)+u*(v*p.1+s*p.2+a.2)+(v*a.1-u*a.2)=(s*u+t*v) *p.2:=by grind
  rw[this,h];lia
theorem CH{a b:P2}{g u v s t:Int}(L:LvP a b g u v s t)(q:P2):g*(lvF a u v s t q).2=ac a b q:=by
 unfold lvF ap ac;dsimp only;rw[<-L.hu,<-L.hv];grind
theorem wI{l:List P2}(F:Fld l)(h2:2<=l.length){g u v s t:Int}(L:LvP (gp l 0) (gp l 1) g u v s t):Lev (ao (l.map (lvF (gp l 0) u v s t))):=by
 have hd:s*u-t* -v=1:=by have:=L.st;grind
 have F':=CY (a:=s) (b:=t) (c:=-v) (d:=u) (-s*(gp l 0).1-t*(gp l 0).2) (v*(gp l 0).1-u*(gp l 0).2) F;have hg:=L.gp;have im0:lvF (gp l 0) u v s t (gp l 0)=(0,0):=by unfold lvF ap;refine GC ?_ ?_ <;>dsimp only <;>grind
 have up:∀q∈l,0<=(lvF (gp l 0) u v s t q).2:=λq hq=>by
  have e:=CH L q
  have k:0<=ac (gp l 0) (gp l 1) q:=by
   rcases F.cases with ⟨A,rfl⟩ |⟨A,B,rfl,lt⟩ |h3
   ·simp at h2
   ·simp at hq;rcases hq with rfl |rfl
    ·show 0<=ac q B q;unfold ac;grind
    ·show 0<=ac A q q;unfold ac;grind
   ·have c3:3<=l.length:=by rw[<-F.cr];exact h3
    have hs:=t5 (l:=l) (i:=0) (by lia)
    rw[show (0+1)%l.length=1 from FW (by lia)]at hs
    exact di h3 (by rw[F.cr];exact hs) q hq
  rw[<-e]at k;exact Hw k hg
 have g0:gp l 0∈l:=cG (by lia)
 have yb:∀q∈ao (l.map (lvF (gp l 0) u v s t)),0<=q.2:=λq hq=>by
  obtain⟨p,hp,rfl⟩:=EV.mp (bH _ q hq);exact up p hp
 have SD:3<=l.length->3<=(ao (l.map (lvF (gp l 0) u v s t))).length:=λh3=>by
  unfold lvF;rw[oM,ot,EM];exact gs (xw (.inl hd)) (by rw[F.cr];exact h3)
 have two:∀A B,l=[A,B]->ST.ltP A B=true->ao (l.map (lvF (gp l 0) u v s t))=[(0,0),(g,0)]:=λA B e lt=>by
  subst e
  have im1:lvF A u v s t B=(g,0):=by
   have k1:=L.hu;have k2:=L.hv;have k3:=L.st;have k1':g*u=B.1-A.1:=k1;have k2':g*v=B.2-A.2:=k2;unfold lvF ap;refine GC ?_ ?_ <;>dsimp only
   ·have:s*B.1+t*B.2+(-s*A.1-t*A.2)=s*(B.1-A.1)+t*(B.2-A.2):=by grind
    rw[this,<-k1',<-k2'];have:s*(g*u)+t*(g*v)=g*(s*u+t*v):=by grind
    rw[this,k3,Kl]
   ·have:-v*B.1+u*B.2+(v*A.1-u*A.2)=u*(B.2-A.2)-v*(B.1-A.1):=by grind
    rw[this,<-k1',<-k2'];grind
  have im0':lvF A u v s t A=(0,0):=im0;show ao [lvF A u v s t A,lvF A u v s t B]=_;rw[im0',im1];rcases jP (A:=(0,0)) (B:=(g,0)) (λe=>by have:=congrArg Ly e;dsimp only at this;lia) with ⟨_,e⟩ |⟨z,_⟩
  ·exact e
  ·have:=BY z;dsimp only at this;lia
 refine⟨F',?_,λe=>?_,?_⟩
 ·obtain⟨c,hc,k⟩:=oV 0 (-1) (FL (f:=lvF (gp l 0) u v s t) g0);rw[im0]at k;unfold wth at k;dsimp only at k;have c0:=yb c hc;have ok:=bR (l:=(ao (l.map (lvF (gp l 0) u v s t))).map (·.2)) (by simpa using F'.ne)
  have le:=ok.2 c.2 (FL (f:=λp:P2=>p.2) hc)
  obtain⟨d,Qt,ed⟩:=EV.mp ok.1;have:=yb d Qt;unfold loY;lia
 ·rcases F.cases with ⟨A,rfl⟩ |⟨A,B,e2,lt⟩ |h3
  ·simp at h2
  ·rw[two A B e2 lt];rfl
  ·have:=SD (by rw[<-F.cr];exact h3);lia
 ·rcases F.cases with ⟨A,rfl⟩ |⟨A,B,e2,lt⟩ |h3
  ·simp at h2
  ·rw[two A B e2 lt];exact EX _
  ·have:=SD (by rw[<-F.cr];exact h3);lia
def ya(l:List P2)(u v s t:Int):List P2:=(dF (ao (l.map (lvF (gp l 0) u v s t))) (hiY (ao (l.map (lvF (gp l 0) u v s t)))+1).toNat).map (bkF (gp l 0) u v s t)
theorem rY{l:List P2}(F:Fld l)(h2:2<=l.length){g u v s t:Int}(L:LvP (gp l 0) (gp l 1) g u v s t)(p:P2):p∈ya l u v s t↔cx l p=true:=by
 have hd:s*u-t* -v=1:=by have:=L.st;grind
 have iw:=λq=>DK (a:=s) (b:=t) (c:=-v) (d:=u) (-s*(gp l 0).1-t*(gp l 0).2) (v*(gp l 0).1-u*(gp l 0).2) (.inl hd) F q
 have V:=wI F h2 L;unfold ya;rw[EV];constructor
 ·rintro ⟨q,hq,rfl⟩;have k:=(kB V q).mp hq;rw[<-(rX L q).2]at k;rw[<-iw];exact k
 ·intro h;exact⟨lvF (gp l 0) u v s t p,(kB V _).mpr (by rw[iw];exact h),(rX L p).1⟩
theorem xl{l:List P2}{g u v s t:Int}(L:LvP (gp l 0) (gp l 1) g u v s t):(ya l u v s t).Nodup:=
 Ir _ (λa b h e=>h (by rw[<-(rX L a).2,<-(rX L b).2,e])) (jW _ _)
def aH(l:List P2):List P2:=ST.srt ((box l).filter λp=>cx l p)
theorem bp{l:List P2}(F:Fld l)(p:P2):p∈aH l↔cx l p=true:=by
 unfold aH;rw[ST.srt_mem,F_];exact⟨λh=>h.2,λh=>⟨F.in_box h,h⟩⟩
theorem mX{l R:List P2}(F:Fld l)(h:∀p,p∈R↔cx l p=true):ST.srt R=aH l:=by
 unfold aH;refine l6 λp=>?_
 rw[h,F_];exact⟨λk=>⟨F.in_box k,k⟩,λk=>k.2⟩
def wx:List U->Out->Prop:=λus o=>∃l:List P2,us=[lp l]/\0<l.length/\l.length<=900/\(∀p∈l,Szp 2500 p)/\o=.val (.int (uS l))
theorem yw(T:Txt w K mg):a9 P w K mg base (CXF P w) 4 T.aa0.a T.aa0.d ["land"] (spU K (wx)):=by
 refine aW T.aa0.F qC (λus o h=>?_) (λPV A outer s H E O us o hr h=>?_)
 ·obtain⟨l,rfl,h0,hl,sz,rfl⟩:=h;rfl
 obtain⟨l,rfl,h0,hl,sz,rfl⟩:=h;refine Ws.nox ?_;have hm:((l.map pu).length:Int)=(l.length:Int):=by rw[EM]
 unfold uS;by_cases h3:l.length<3
 ·rw[if_pos h3];refine af (c7 (aF gj (ar (bJ rfl) rfl T.aae Fp (ae (aa 0 rfl) ak ag)) ai) (by rw[hm];exact decide_eq_true (by lia)) ?_)
  have z0:=sz _ (cG h0);have z1:=sz _ (cG (l:=l) (i:=l.length-1) (by lia))
  obtain⟨cs,ct,G⟩:=kF ((gp l (l.length-1)).1-(gp l 0).1) ((gp l (l.length-1)).2-(gp l 0).2);refine af (bg (cO (aw ((jJ T).mono (by decide)) hr rfl T.aaA.m T.aaA.F.kp T.aaA.b au (ae (ay (aa 0 rfl) ai rfl (Dp h0)) (ae (ay (aa 0 rfl) (bN ai) rfl (t8 h0)) ak aR) aR) ⟨_,_,_,_,_,cs,ct,rfl,⟨z0.1.mono (by decide),z0.2.mono (by decide),z1.1.mono (by decide),z1.2.mono (by decide)⟩,G,rfl⟩) ai) ?_)
  exact rfl
 ·rw[if_neg h3];refine af (br (aF gj (ar (bJ rfl) rfl T.aae Fp (ae (aa 0 rfl) ak ag)) ai) (by rw[hm];exact decide_eq_false (by lia)) (aG ?_))
  refine af (bg (ar (iN rfl ) rfl T.aa4 M8 (ae (EvN.ev (fK (ys:=(((sdl l).map gst).map U.int)) rfl (blk (aj xu) ["land","A","B"] [1,2] rfl rfl rfl rfl (by decide+kernel)) (c9 (EvN.ev (ba ((gd T).mono (by decide)) hr rfl T.aap.m T.aap.F.kp T.aap.b au (ae (aa 0 rfl) ak ag) ⟨l,rfl,hl,rfl⟩)) (.inl rfl)) (λ_ _ _ _=>gf rfl (bC (bi (i:=1) qC.nd rfl (Or.inl rfl)) (bC (bi (i:=2) qC.nd rfl (Or.inl rfl)) ef))) (fj (js:=[1,2]) (by decide)) ?clen ?csz ?dom ?celt)) ak cU)) ?_)
  case clen=>simp
  case csz=>simp only[gu,EM];exact FT (aE (by lia))
  case dom=>
   intro x hx;obtain⟨s,_,rfl⟩:=EV.mp hx;exact⟨_,rfl,rfl⟩
  case celt=>
   intro C s' H' fp j x y hx hy;rw[FI]at hy;obtain⟨s,hs,ms,rfl,rfl⟩:=eF hx hy;obtain⟨m1,m2⟩:=bX ms;obtain⟨cs,ct,G⟩:=kF (s.2.1-s.1.1) (s.2.2-s.1.2);exact (aw ((jJ T).mono (by decide)) hr rfl T.aaA.m T.aaA.F.kp T.aaA.b au (ae (aa 1 rfl) (ae (aa 2 rfl) ak ag) ag) ⟨_,_,_,_,_,cs,ct,rfl,⟨(sz _ m1).1.mono (by decide),(sz _ m1).2.mono (by decide),(sz _ m2).1.mono (by decide),(sz _ m2).2.mono (by decide)⟩,G,rfl⟩)
  exact rfl
theorem qx{m n:Nat}{k:Int}{p:P2}(sk:Sz n k)(s:Szp m p):Szp (n+m) (scl k p):=⟨L2.Sz.mul sk s.1,L2.Sz.mul sk s.2⟩
def u6:List U->Out->Prop:=λus o=>∃(pts:List P2) (k:Int),us=[lp pts,.int k]/\Sz 1000 k/\(∀p∈pts,Szp 3000 p)/\pts≠[]/\pts.length<64/\o=.new ((ao (pts.map (scl k))).map pu)
theorem mT(T:Txt w K mg):a9 P w K mg base (CXF P w) 5 T.aaR.a T.aaR.d ["land","k"] (spU K (u6)):=by
 refine aW T.aaR.F rK (λus o h=>?_) (λPV A outer s H E O us o hr h=>?_)
 ·obtain⟨pts,k,rfl,sk,sz,PN,hl,rfl⟩:=h;rfl
 obtain⟨pts,k,rfl,sk,sz,PN,hl,rfl⟩:=h;refine Ws.nox ?_;refine af (cw (ba ((jM T).mono (by decide)) hr rfl T.aaC.m T.aaC.F.kp T.aaC.b au (ae (EvN.ev (fK (ys:=(pts.map λp=>pu (scl k p))) rfl (blk (aj rH) ["land","k","P"] [2] rfl rfl rfl rfl (by decide+kernel)) (c9 (aa 0 rfl) (.inl rfl)) (λ_ _ _ _=>bi (i:=2) rK.nd rfl (Or.inl rfl)) (e_ (by decide)) ?clen ?csz (λ_ _=>trivial) ?celt)) ak cU) ⟨pts.map (scl k),by rw[lp,FI];rfl,λp hp=>by obtain⟨q,hq,rfl⟩:=EV.mp hp;have z:=qx sk (sz q hq);exact⟨z.1.mono (by decide),z.2.mono (by decide)⟩,by rw[EM];exact hl,by simpa using PN,rfl⟩) ?_)
 case clen=>simp
 case csz=>rw[EM];exact FT (aE (by lia))
 case celt=>
  intro C s' H' fp j x y hx hy;obtain⟨p,hp,mp,rfl,rfl⟩:=eF hx hy;have s1:=(sz p mp).1;have s2:=(sz p mp).2;exact (bw (aq (be (aa 1 rfl) (ay (aa 2 rfl) ai rfl rfl) (by walk_at"mul")) (aq (be (aa 1 rfl) (ay (aa 2 rfl) ai rfl rfl) (by walk_at"mul")) bj bK) bK))
 exact rfl
def u7:List U->Out->Prop:=λus o=>∃(pts:List P2) (k:Int),us=[lp pts,.int k]/\0<=k/\Sz 1000 k/\(∀p∈pts,Szp 3000 p)/\pts≠[]/\pts.length<64/\o=.new ((ao (pts.map (scl k))).map pu)
theorem oD(T:Txt w K mg):a9 P w K mg base (CXF P w) 6 T.aaH.a T.aaH.d ["land","k"] (spU K (u7)):=by
 refine aW T.aaH.F pQ (λus o h=>?_) (λPV A outer s H E O us o hr h=>?_)
 ·obtain⟨pts,k,rfl,k0,sk,sz,PN,hl,rfl⟩:=h;rfl
 obtain⟨pts,k,rfl,k0,sk,sz,PN,hl,rfl⟩:=h;refine Ws.nox ?_;refine af (br (aF gj (aa 1 rfl) ai) (decide_eq_false (by lia)) (aG ?_))
 refine af (cw (ba ((mT T).mono (by decide)) hr rfl T.aaR.m T.aaR.F.kp T.aaR.b au (ae (aa 0 rfl) (ae (aa 1 rfl) ak ag) ag) ⟨pts,k,rfl,sk,sz,PN,hl,rfl⟩) ?_)
 exact rfl
def yx:List U->Out->Prop:=λus o=>∃l:List P2,us=[lp l]/\l.length<=900/\(∀p∈l,Szp 2500 p)/\o=.val (.int (pin l))
theorem mm(T:Txt w K mg):a9 P w K mg base (CXF P w) 5 T.aay.a T.aay.d ["land"] (spU K (yx)):=by
 refine aW T.aay.F nv (λus o h=>?_) (λPV A outer s H E O us o hr h=>?_)
 ·obtain⟨l,rfl,hl,sz,rfl⟩:=h;rfl
 obtain⟨l,rfl,hl,sz,rfl⟩:=h;refine Ws.nox ?_;have hm:((l.map pu).length:Int)=(l.length:Int):=by rw[EM]
 by_cases h3:l.length<3
 ·refine af (c7 (aF gj (ar (bJ rfl) rfl T.aae Fp (ae (aa 0 rfl) ak ag)) ai) (by rw[hm];exact decide_eq_true (by lia)) ?_)
  refine af (bg ai ?_);exact vIO (by unfold pin;rw[if_pos h3])
 ·refine af (br (aF gj (ar (bJ rfl) rfl T.aae Fp (ae (aa 0 rfl) ak ag)) ai) (by rw[hm];exact decide_eq_false (by lia)) (aG ?_))
  have er:uS l=xj l:=by unfold uS;rw[if_neg h3]
  refine af (bg (gL (cO (bA (aw ((jN T).mono (by decide)) hr rfl T.aaq.m T.aaq.F.kp T.aaq.b au (ae (aa 0 rfl) ak ag) ⟨l,rfl,hl,sz,rfl⟩) (aw ((yw T).mono (by decide)) hr rfl T.aa0.m T.aa0.F.kp T.aa0.b au (ae (aa 0 rfl) ak ag) ⟨l,rfl,by lia,hl,sz,rfl⟩)) ai) ai (by walk_at"div")) ?_)
  exact vIO (by unfold pin;rw[if_neg h3,er])
theorem wo{pts:List P2}{k:Int}(sk:Sz 1000 k)(sz:∀p∈pts,Szp 1500 p):∀p∈ao (pts.map (scl k)),Szp 2500 p:=λp hp=>by
 obtain⟨q,hq,rfl⟩:=EV.mp (bH _ p hp);exact qx sk (sz q hq)
def j3:List U->Out->Prop:=λus o=>∃(pts:List P2) (k:Int),us=[lp pts,.int k]/\0<=k/\Sz 1000 k/\(∀p∈pts,Szp 1500 p)/\pts≠[]/\pts.length<64/\o=.val (.int (p8 (ao (pts.map (scl k)))))
theorem x9(T:Txt w K mg):a9 P w K mg base (CXF P w) 7 T.aaX.a T.aaX.d ["land","k"] (spU K (j3)):=by
 refine CQ T.aaX.F oB (λus o h=>?_) (λPV A outer s H E O us o hr h=>?_)
 ·obtain⟨pts,k,rfl,k0,sk,sz,PN,hl,rfl⟩:=h;rfl
 obtain⟨pts,k,rfl,k0,sk,sz,PN,hl,rfl⟩:=h;refine Ws.nox ?_;have cl:(ao (pts.map (scl k))).length<=900:=GJ (jx _) (by rw[EM];lia)
 have cn:0<(ao (pts.map (scl k))).length:=FJ.mpr (ip (by simpa using PN))
 refine af (aV (i:=2) oB.nd rfl (Or.inl rfl) (EvN.ev (ba ((oD T).mono (by decide)) hr rfl T.aaH.m T.aaH.F.kp T.aaH.b au (ae (aa 0 rfl) (ae (aa 1 rfl) ak ag) ag) ⟨pts,k,rfl,k0,sk,rG (by decide) sz,PN,hl,rfl⟩)) ?_)
 refine af (bg (cO (aw ((mm T).mono (by decide)) hr rfl T.aay.m T.aay.F.kp T.aay.b au (ae (aa 2 rfl) ak ag) ⟨_,rfl,cl,wo sk sz,rfl⟩) (aw ((yw T).mono (by decide)) hr rfl T.aa0.m T.aa0.F.kp T.aa0.b au (ae (aa 2 rfl) ak ag) ⟨_,rfl,cn,cl,wo sk sz,rfl⟩)) ?_)
 exact rfl
theorem qZ(l:List P2)(L:List (P2×P2))(s:P2×P2)(y:Int):cX l (L++[s]) y=cX l L y++(if 0<s.2.2-s.1.2 then [xM y s] else []):=by
 unfold cX;rw[M9,F1];by_cases h:0<s.2.2-s.1.2
 ·rw[if_pos h,Lz (by simpa using h)];rfl
 ·rw[if_neg h,LA (by simpa using h)];rfl
theorem rE(l:List P2)(L:List (P2×P2))(s:P2×P2)(y:Int):cQ l (L++[s]) y=cQ l L y++(if s.2.2-s.1.2<0 then [xW y s] else []):=by
 unfold cQ;rw[M9,F1];by_cases h:s.2.2-s.1.2<0
 ·rw[if_pos h,Lz (by simpa using h)];rfl
 ·rw[if_neg h,LA (by simpa using h)];rfl
theorem wG(l:List P2)(y:Int)(L:List (P2×P2)):(cX l L y).length<=L.length+1/\(cQ l L y).length<=L.length+1:=by
 unfold cX cQ;simp only[FV,EM];exact⟨NL (H_ _ _),NL (H_ _ _)⟩
def qP:List U->Out->Prop:=λus o=>∃(l:List P2) (y:Int),us=[lp l,.int y]/\l≠[]/\l.length<=900/\(∀q∈l,Szp 1000 q)/\Sz 1001 y/\o=.val (.tup [.int (fH l y),.int (kY l y)])
theorem oH(T:Txt w K mg):a9 P w K mg base (CXF P w) 2 T.aaI.a T.aaI.d ["land","y"] (spU K (qP)):=by
 refine aW T.aaI.F bY (λus o h=>?_) (λPV A outer s H E O us o hr h=>?_)
 ·obtain⟨l,y,rfl,PN,hl,sz,sy,rfl⟩:=h;rfl
 obtain⟨l,y,rfl,PN,hl,sz,sy,rfl⟩:=h;refine Ws.nox ?_;obtain⟨mn,mx,_,m1,m2,q1,q2,_⟩:=vo PN;have hx:l.map (·.1)≠[]:=by simpa using PN
 have e1:mn.1=loX l:=by
  have ok:=bR hx;obtain⟨q,hq,e⟩:=EV.mp ok.1;have a:=ok.2 mn.1 (FL (f:=λp:P2=>p.1) m1)
  have b:=q1 q hq;rw[ST.ltP_no]at b;unfold loX;lia
 have e2:mx.1=hiX l:=by
  have ok:=cI hx;obtain⟨q,hq,e⟩:=EV.mp ok.1;have a:=ok.2 mx.1 (FL (f:=λp:P2=>p.1) m2)
  have b:=q2 q hq;rw[ST.ltP_no]at b;unfold hiX;lia
 refine af (dS (i:=2) bY.nd rfl (Or.inl rfl) (cT (aq (ay (ar (B4 rfl (fZ hr) m1 q1) rfl T.aa6 NN (ae (aa 0 rfl) ak ag)) ai rfl rfl) bj aR)) ?_);refine af (dS (i:=3) bY.nd rfl (Or.inl rfl) (cT (aq (ay (ar (Bq rfl (fZ hr) m2 q2) rfl T.aa7 O1 (ae (aa 0 rfl) ak ag)) ai rfl rfl) bj aR)) ?_);rw[e1,e2];refine af (d7 (λi:Nat=>[some (.val (lp l)),some (.val (.int y)),some (.own ((cQ l ((sdl l).take i) y).map U.int)),some (.own ((cX l ((sdl l).take i) y).map U.int)),none,none,none,none]) (λi j=>i=j) rfl PassesOwn.never (c9 (EvN.ev (ba ((gd T).mono (by decide)) hr rfl T.aap.m T.aap.F.kp T.aap.b au (ae (aa 0 rfl) ak ag) ⟨l,rfl,hl,rfl⟩)) (.inl rfl)) ?h0 ?hs ?hd)
 case h0=>exact⟨0,rfl,rfl,rfl,rfl,rfl,trivial⟩
 case hs=>
  rintro H0 i x _ Q9 rfl
  have hq:∃s,(sdl l)[i]?=some s/\x=pq s:=by
   rw[EW]at Q9;cases e:(sdl l)[i]? with
   |none=>rw[e]at Q9;cases Q9
   |some s=>rw[e]at Q9;cases Q9;exact⟨s,rfl,rfl⟩
  obtain⟨s,hs,rfl⟩:=hq;obtain⟨n1,n2⟩:=bX (E9 hs);have hi:i<(sdl l).length:=aL hs;rw[gu]at hi;have z1:=(sz _ n1).1;have z2:=(sz _ n1).2;have z3:=(sz _ n2).1;have z4:=(sz _ n2).2;have tk:(sdl l).take (i+1)=(sdl l).take i++[s]:=by rw[GO,hs];rfl
  have bE:=qZ l ((sdl l).take i) s y;have bB:=rE l ((sdl l).take i) s y;rw[<-tk]at bE bB;obtain⟨r1,r2⟩:=wG l y ((sdl l).take i);have r0:((sdl l).take i).length<=i:=by simp;lia
  refine⟨_,(Dr [4,5] rfl (bC (bi (i:=4) bY.nd rfl (Or.inl rfl)) (bC (bi (i:=5) bY.nd rfl (Or.inl rfl)) ef)) rfl),?_⟩;refine af (aV (i:=6) bY.nd rfl (Or.inl rfl) (bA (ay (aa 5 rfl) ai rfl rfl) (ay (aa 4 rfl) ai rfl rfl)) ?_);refine af (aV (i:=7) bY.nd rfl (Or.inl rfl) (be (bA (ay (aa 5 rfl) ai rfl rfl) (ay (aa 4 rfl) ai rfl rfl)) (bA (aa 1 rfl) (ay (aa 4 rfl) ai rfl rfl)) (by walk_at"mul")) ?_)
  rw[show (s.2.1-s.1.1) *(y-s.1.2)=ko s y from rfl]
  have rz:Sz 1001 (s.2.2-s.1.2):=(L2.Sz.sub' z4 z2).mono (by decide)
  have rn:Sz 1001 (-(s.2.2-s.1.2)):=rz.natle (by lia)
  show Ws _ _ _ _ _ _ [some (.val (lp l)),some (.val (.int y)),some (.own ((cQ l ((sdl l).take i) y).map U.int)),some (.own ((cX l ((sdl l).take i) y).map U.int)),some (.val (pu s.1)),some (.val (pu s.2)),some (.val (.int (s.2.2-s.1.2))),some (.val (.int (ko s y)))];by_cases p:0<s.2.2-s.1.2
  ·rw[if_pos p]at bE;rw[if_neg (by lia),HL]at bB
   refine af (c7 (aF f8 (aa 6 rfl) ai) (decide_eq_true p) ?_);refine af (cB 3 rfl (cO (ay (aa 4 rfl) ai rfl rfl) (gL (aa 7 rfl) (aa 6 rfl) ⟨p,rz.mono (by decide)⟩)) (by rw[EM];exact aE (by lia)) (aG ?_))
   refine af (br (aF gj (aa 6 rfl) ai) (decide_eq_false (by lia)) (aG (aG ?_)))
   refine⟨i+1,rfl,rfl,rfl,?_,?_,trivial⟩
   ·exact congrArg (λl=>some (Sl.own l)) (by rw[bB])
   ·exact congrArg (λl=>some (Sl.own l)) (by rw[bE,F1];rfl)
  ·rw[if_neg p,HL]at bE;refine af (br (aF f8 (aa 6 rfl) ai) (decide_eq_false p) (aG ?_));by_cases n:s.2.2-s.1.2<0
   ·rw[if_pos n]at bB;refine af (c7 (aF gj (aa 6 rfl) ai) (decide_eq_true n) ?_);refine af (cB 2 rfl (bA (ay (aa 4 rfl) ai rfl rfl) (gL (aa 7 rfl) (bN (aa 6 rfl)) ⟨by lia,rn.mono (by decide)⟩)) (by rw[EM];exact aE (by lia)) (aG (aG ?_)))
    refine⟨i+1,rfl,rfl,rfl,?_,?_,trivial⟩
    ·exact congrArg (λl=>some (Sl.own l)) (by rw[bB,F1];rfl)
    ·exact congrArg (λl=>some (Sl.own l)) (by rw[bE])
   ·rw[if_neg n,HL]at bB;refine af (br (aF gj (aa 6 rfl) ai) (decide_eq_false n) (aG (aG ?_)));refine⟨i+1,rfl,rfl,rfl,?_,?_,trivial⟩
    ·exact congrArg (λl=>some (Sl.own l)) (by rw[bB])
    ·exact congrArg (λl=>some (Sl.own l)) (by rw[bE])
 case hd=>
  rintro q ps hq Qh;refine du ?_ Qh;have e:q=(sdl l).length:=by rw[<-hq,EM]
  subst e;rw[GQ];refine my 2 rfl (my 3 rfl ?_);show Ws _ _ _ _ _ _ [some (.val (lp l)),some (.val (.int y)),some (.val (.lst ((cQ l (sdl l) y).map U.int))),some (.val (.lst ((cX l (sdl l) y).map U.int))),none,none,none,none];refine af (bg (bw (aq (ar (yc rfl (cI (l:=cQ l (sdl l) y) (by unfold cQ;simp))) rfl T.aa7 O1 (ae (aa 2 rfl) ak ag)) (aq (ar (yu rfl (bR (l:=cX l (sdl l) y) (by unfold cX;simp))) rfl T.aa6 NN (ae (aa 3 rfl) ak ag)) bj aN) aN)) ?_)
  exact rfl
theorem DP{a b c d e f a' b' c' d' e' f':Int}(h1:a=a')(h2:b=b')(h3:c=c')(h4:d=d')(h5:e=e')(h6:f=f'):mv a b c d e f=mv a' b' c' d' e' f':=by rw[h1,h2,h3,h4,h5,h6]
theorem BG{a b:P2}(h:a≠b):∃g s1 t1 s t:Int,c6 (b.1-a.1) (b.2-a.2) g s1 t1/\g≠0/\c6 ((b.1-a.1)/g) ((b.2-a.2)/g) 1 s t/\LvP a b g ((b.1-a.1)/g) ((b.2-a.2)/g) s t:=by
 obtain⟨g,s1,t1,G⟩:=ik (b.1-a.1) (b.2-a.2)
 have gn:g≠0:=λe=>h (by
  obtain⟨h1,h2⟩:=vG G e;exact GC h1 h2)
 have gp:0<g:=by have:=G.g0;lia
 obtain⟨g',s,t,G'⟩:=ik ((b.1-a.1)/g) ((b.2-a.2)/g);have:=uG G gp G';subst this;exact⟨g,s1,t1,s,t,G,gn,G',gp,Jg G.da,Jg G.db,G'.eq⟩
theorem s_{a:P2}{u v s t:Int}(h:s*u+t*v=1):yV s t (-v) u (-s*a.1-t*a.2) (v*a.1-u*a.2)=mv u (-t) v s a.1 a.2:=by
 have k:s*u-t* -v=1:=by grind
 unfold yV;rw[k];refine DP (by lia) (by lia) (by lia) (by lia) ?_ ?_
 ·have:-(1*u*(-s*a.1-t*a.2)+-1*t*(v*a.1-u*a.2))=(s*u+t*v) *a.1:=by grind
  rw[this,h,Iw]
 ·have:-(-1* -v*(-s*a.1-t*a.2)+1*s*(v*a.1-u*a.2))=(s*u+t*v) *a.2:=by grind
  rw[this,h,Iw]
theorem zE{l:List P2}(F:Fld l)(h2:2<=l.length):gp l 0≠gp l 1:=λe=>by
 have nd:l.Nodup:=by rw[<-F.cr];exact b7 l
 have:l[0]?=l[1]?:=by rw[dE (by lia),dE (by lia),e]
 have:=(Jb (by lia) nd).mp this
 lia
theorem zI{l:List P2}{n y:Nat}(h:y<n):(kP l (0+(y:Int))).length<=(dF l n).length:=c_ (tM _ _) λp hp=>by
 have k:=eX.mp hp;refine dN.mpr ⟨by lia,?_⟩
 rw[k.1];exact k.2
theorem w6{l:List P2}{n y:Nat}(h:y<=n):(dF l y).length<=(dF l n).length:=c_ (jW _ _) λp hp=>by
 have k:=dN.mp hp;exact dN.mpr ⟨by lia,k.2⟩
theorem Cn(l:List P2):SG.srt ST3.KP l=ST.srt l:=ST.asc_one (SG.srt_asc ST3.KP l) (ST.srt_asc l) λz=>by rw[SG.srt_mem,ST.srt_mem]
def pX:List U->Out->Prop:=λus o=>∃l:List P2,us=[lp l]/\Fld l/\2<=l.length/\l.length<64/\(∀p∈l,Szp 150 p)/\(p8 l<=100/\(aH l).length<=60)/\o=.new ((aH l).map pu)
theorem wX{l:List P2}(F:Fld l)(h2:2<=l.length){g u v s t:Int}(L:LvP (gp l 0) (gp l 1) g u v s t):(ya l u v s t).length=(aH l).length:=qe (xl L) ((ST.srt_asc _).imp λ{a b} h e=>by subst e;rw[ST.asc_irr]at h;cases h) λp=>by rw[rY F h2 L,bp F]
theorem p5(T:Txt w K mg):a9 P w K mg base (CXF P w) 6 T.aaN.a T.aaN.d ["land"] (spU K (pX)):=by
 refine aW T.aaN.F bT (λus o h=>?_) (λPV A outer s H E O us o hr h=>?_)
 ·obtain⟨l,rfl,F,h2,hl,sz,⟨_,hc⟩,rfl⟩:=h;rfl
 obtain⟨l,rfl,F,h2,hl,sz,⟨_,hc⟩,rfl⟩:=h;refine Ws.nox ?_;obtain⟨g,s1,t1,s,t,G,gn,G1,L⟩:=BG (zE F h2);have z0:=sz _ (cG (l:=l) (i:=0) (by lia))
 have z1:=sz _ (cG (l:=l) (i:=1) (by lia))
 have zx:Sz 151 ((gp l 1).1-(gp l 0).1):=(L2.Sz.sub' z1.1 z0.1).mono (by decide)
 have zy:Sz 151 ((gp l 1).2-(gp l 0).2):=(L2.Sz.sub' z1.2 z0.2).mono (by decide)
 have two:yn (gp l 0).1 (gp l 0).2 (gp l 1).1 (gp l 1).2:=⟨z0.1.mono (by decide),z0.2.mono (by decide),z1.1.mono (by decide),z1.2.mono (by decide)⟩
 have su:Sz 151 (((gp l 1).1-(gp l 0).1)/g):=zx.ediv;have sv:Sz 151 (((gp l 1).2-(gp l 0).2)/g):=zy.ediv;obtain⟨_,ss,st⟩:=iE G1 su sv;refine af (aV (i:=1) bT.nd rfl (Or.inl rfl) (aw ((jY T).mono (by decide)) hr rfl T.aaB.m T.aaB.F.kp T.aaB.b au (ae (ay (aa 0 rfl) ai rfl (h_ (i:=0) (by decide) (by lia))) (ae (ay (aa 0 rfl) ai rfl (h_ (i:=1) (by decide) (by lia))) ak aR) aR) ⟨_,_,_,_,g,s1,t1,s,t,rfl,two,G,gn,G1,rfl⟩) ?_)
 have V:=wI F h2 L;have PL:=wX F h2 L;have RZ:=rY F h2 L;have Rm:=xl L;generalize hu:((gp l 1).1-(gp l 0).1)/g=u at *;generalize hv:((gp l 1).2-(gp l 0).2)/g=v at *;have hd:s*u-t* -v=1:=by have:=L.st;grind
 have a5:Sz 500 s:=ss.mono (by decide)
 have b5:Sz 500 t:=st.mono (by decide)
 have c5:Sz 500 (-v):=(sv.natle (by lia):Sz 151 (-v)).mono (by decide)
 have d5:Sz 500 u:=su.mono (by decide)
 have ns:Sz 310 (-s):=(ss.natle (by lia):Sz _ (-s)).mono (by decide)
 have e5:Sz 500 (-s*(gp l 0).1-t*(gp l 0).2):=(L2.Sz.sub' (L2.Sz.mul ns z0.1) (L2.Sz.mul (st.mono (n:=310) (by decide)) z0.2)).mono (by decide)
 have f5:Sz 500 (v*(gp l 0).1-u*(gp l 0).2):=(L2.Sz.sub' (L2.Sz.mul sv z0.1) (L2.Sz.mul su z0.2)).mono (by decide)
 have k5:500<=30000:=by decide
 have M:Mv s t (-v) u (-s*(gp l 0).1-t*(gp l 0).2) (v*(gp l 0).1-u*(gp l 0).2):=⟨.inl hd,a5.mono k5,b5.mono k5,c5.mono k5,d5.mono k5,e5.mono k5,f5.mono k5⟩;refine af (aV (i:=2) bT.nd rfl (Or.inl rfl) (EvN.ev (ba ((kq T).mono (by decide)) hr rfl T.aar.m T.aar.F.kp T.aar.b au (ae (aa 0 rfl) (ae (aa 1 rfl) ak ag) ag) ⟨l,_,_,_,_,_,_,rfl,M,rG (by decide) sz,λp hp=>by have z:=Bh a5 b5 c5 d5 e5 f5 (by decide) (sz p hp);exact⟨z.1.mono (by decide),z.2.mono (by decide)⟩,F.ne,hl,rfl⟩)) ?_)
 have mz:∀p∈ao (l.map (lvF (gp l 0) u v s t)),Szp 1000 p:=λp hp=>by
  obtain⟨q,hq,rfl⟩:=EV.mp (bH _ p hp);have z:=Bh a5 b5 c5 d5 e5 f5 (by decide) (sz q hq)
  exact⟨z.1.mono (by decide),z.2.mono (by decide)⟩
 have ml:(ao (l.map (lvF (gp l 0) u v s t))).length<=900:=GJ (jx _) (by rw[EM];lia)
 refine af (aV (i:=3) bT.nd rfl (Or.inr rfl) (aw ((fW T).mono (by decide)) hr rfl T.aaf.m T.aaf.F.kp T.aaf.b au (ae (aa 1 rfl) ak ag) ⟨_,_,_,_,_,_,rfl,M,rfl⟩) ?_)
 rw[s_ L.st];unfold ya at PL RZ Rm;rw[EM]at PL;have hbk:∀p:P2,pu (bkF (gp l 0) u v s t p)=pt (u*p.1+-t*p.2+(gp l 0).1) (v*p.1+s*p.2+(gp l 0).2):=λp=>rfl
 have nt:Sz 30000 (-t):=(st.natle (by lia):Sz _ (-t)).mono (by decide)
 have MB:Mv u (-t) v s (gp l 0).1 (gp l 0).2:=⟨.inl (by have:=L.st;grind),d5.mono k5,nt,sv.mono (by decide),a5.mono k5,z0.1.mono (by decide),z0.2.mono (by decide)⟩
 have mne:=V.F.ne;have hY:=cI (l:=(ao (l.map (lvF (gp l 0) u v s t))).map (·.2)) (by simpa using mne)
 have zY:Sz 1000 (hiY (ao (l.map (lvF (gp l 0) u v s t)))):=by
  obtain⟨q,hq,e⟩:=v0 mne;rw[<-e];exact (mz q hq).2
 show Ws _ _ _ _ _ _ [some (.val (lp l)),some (.val (mv s t (-v) u (-s*(gp l 0).1-t*(gp l 0).2) (v*(gp l 0).1-u*(gp l 0).2))),some (.val (lp (ao (l.map (lvF (gp l 0) u v s t))))),some (.val (mv u (-t) v s (gp l 0).1 (gp l 0).2)),none,none,none,none,none];generalize hM:ao (l.map (lvF (gp l 0) u v s t))=m at *;refine af (dS (i:=4) bT.nd rfl (Or.inl rfl) (cT bj) ?_);refine af (d7 (λi:Nat=>[some (.val (lp l)),some (.val (mv s t (-v) u (-s*(gp l 0).1-t*(gp l 0).2) (v*(gp l 0).1-u*(gp l 0).2))),some (.val (lp m)),some (.val (mv u (-t) v s (gp l 0).1 (gp l 0).2)),some (.own (((dF m i).map (bkF (gp l 0) u v s t)).map pu)),none,none,none,none]) (λi j=>i=j) rfl PassesOwn.never (vh rfl T.aaZ (ae (cO (ar (yc rfl hY) rfl T.aa7 O1 (ae (EvN.ev (fK (ys:=((m.map (·.2)).map U.int)) rfl (blk (aj gA) ["land","move","levelled","back","found","y","ends","x","P"] [8] rfl rfl rfl rfl (by decide+kernel)) (c9 (aa 2 rfl) (.inl rfl)) (λ_ _ _ _=>bi (i:=8) bT.nd rfl (Or.inl rfl)) (e_ (by decide)) ?clen ?csz (λ_ _=>trivial) ?celt)) ak cU)) ai) ak bK)) ?h0 ?hs ?hd)
 case clen=>simp
 case csz=>rw[EM];exact FT (aE (by lia))
 case celt=>
  intro C s' H' fp j x y hx hy;rw[FI]at hy;obtain⟨p,hp,mp,rfl,rfl⟩:=eF hx hy;exact (ay (aa 8 rfl) ai rfl rfl)
 case h0=>exact⟨0,rfl,rfl,rfl,rfl,rfl,rfl,trivial⟩
 case hs=>
  rintro H0 i x _ hx rfl;obtain⟨hi,rfl⟩:=fm hx
  have PY:i<(hiY m+1).toNat:=by
   have:hiL (m.map (·.2))=hiY m:=rfl;rw[this]at hi;lia
  have rf:=zI (l:=m) PY;have rg:=w6 (l:=m) (FT PY)
  have iz:Sz 1001 (0+(i:Int)):=by
   have one:Sz 1000 (1:Int):=Sz.mono (m:=8) (by decide) (by decide)
   exact Sz.le (by lia) (L2.Sz.add' zY one)
  have rl:(kP m (0+(i:Int))).length=(kY m (0+(i:Int))+1-fH m (0+(i:Int))).toNat:=by unfold kP mS;simp
  refine⟨_,(eI (i:=5) bT.nd rfl (Or.inr rfl)),?_⟩;refine af (aV (i:=6) bT.nd rfl (Or.inl rfl) (aw ((oH T).mono (by decide)) hr rfl T.aaI.m T.aaI.F.kp T.aaI.b au (ae (aa 2 rfl) (ae (aa 5 rfl) ak ag) ag) ⟨m,_,rfl,mne,ml,mz,iz,rfl⟩) ?_)
  refine af (xH 4 rfl (EvN.ev (fK (ys:=(((kP m (0+(i:Int))).map (bkF (gp l 0) u v s t)).map pu)) rfl (blk (aj gA) ["land","move","levelled","back","found","y","ends","x","P"] [7] rfl rfl rfl rfl (by decide+kernel)) (uF rfl T.aaZ (ae (ay (aa 6 rfl) ai rfl rfl) (ae (cO (ay (aa 6 rfl) ai rfl rfl) ai) ak bK) aR)) (λ_ _ _ _=>bi (i:=7) bT.nd rfl (Or.inl rfl)) (e_ (by decide)) ?clen ?csz (λ_ _=>trivial) ?celt)) (by simp only[EM];exact FT (aE (by lia))) (aG ?_))
  case clen=>rw[cL,EM,EM,rl]
  case csz=>rw[cL];exact FT (aE (by lia))
  case celt=>
   intro C s' H' fp j x y hx hy;obtain⟨hj,rfl⟩:=fm hx
   have ey:y=pu (bkF (gp l 0) u v s t (fH m (0+(i:Int))+(j:Int),0+(i:Int))):=by
    unfold kP mS at hy;rw[FI,FI,FI,EW,Hj hj]at hy;cases hy;rfl
   have hp:(fH m (0+(i:Int))+(j:Int),0+(i:Int))∈kP m (0+(i:Int)):=eX.mpr ⟨rfl,by dsimp only;lia,by dsimp only;lia⟩
   have hq:(fH m (0+(i:Int))+(j:Int),0+(i:Int))∈dF m (hiY m+1).toNat:=by
    have k:=eX.mp hp;exact dN.mpr ⟨by dsimp only;lia,k.2⟩
   have bx:=(de mne).mp (V.F.in_box ((kB V _).mp hq))
   have zX:Sz 30000 (fH m (0+(i:Int))+(j:Int)):=by
    obtain⟨q1,m1,e1⟩:=EV.mp (bR (l:=m.map (·.1)) (by simpa using mne)).1
    obtain⟨q2,m2,e2⟩:=EV.mp (cI (l:=m.map (·.1)) (by simpa using mne)).1
    have y1:=(mz q1 m1).1;have y2:=(mz q2 m2).1;have b1:q1.1<=fH m (0+(i:Int))+(j:Int):=by have:=bx.1.1;unfold loX at this;rw[<-e1]at this;exact this
    have b2:fH m (0+(i:Int))+(j:Int)<=q2.1:=by have:=bx.1.2;unfold hiX at this;rw[<-e2]at this;exact this
    rcases FQ (fH m (0+(i:Int))+(j:Int)) 0 with z |z
    ·exact (y1.natle (by lia):Sz 1000 _).mono (by decide)
    ·exact (y2.natle (by lia):Sz 1000 _).mono (by decide)
   rw[ey,hbk];exact (aw ((h9 T).mono (by decide)) hr rfl T.aat.m T.aat.F.kp T.aat.b au (ae (bw (aq (aa 7 rfl) (aq (aa 5 rfl) bj ag) ag)) (ae (aa 3 rfl) ak ag) fG) ⟨_,_,_,_,_,_,_,_,rfl,MB,zX,iz.mono (by decide),rfl⟩)
  refine⟨i+1,rfl,rfl,rfl,rfl,rfl,?_,trivial⟩;exact congrArg (λl=>some (Sl.own l)) (by rw[jQ,F1,F1])
 case hd=>
  rintro q ps hq Qh;refine du ?_ Qh;rw[cL]at hq;have e:q=(hiY m+1).toNat:=by rw[<-hq];show (hiY m+1-0).toNat=_;lia
  subst e;refine my 4 rfl ?_;have fs:=mX F RZ;have n64:((dF m (hiY m+1).toNat).map (bkF (gp l 0) u v s t)).length<64:=by rw[EM];lia
  refine af (cw (ju ST3.KP pu (0,0) (trs:=(dF m (hiY m+1).toNat).map (bkF (gp l 0) u v s t)) Ej rfl T.aaL (fZ hr) (aa 4 rfl) ⟨n64,Rm⟩ ag) ?_);rw[Cn,fs]
def o4:List U->Out->Prop:=λus o=>∃l:List P2,us=[lp l]/\Fld l/\l.length<64/\(∀p∈l,Szp 150 p)/\(p8 l<=100/\(aH l).length<=60)/\o=.new ((aH l).map pu)
theorem uZ(T:Txt w K mg):a9 P w K mg base (CXF P w) 8 T.aaT.a T.aaT.d ["land"] (spU K (o4)):=by
 refine aW T.aaT.F vp (λus o h=>?_) (λPV A outer s H E O us o hr h=>?_)
 ·obtain⟨l,rfl,F,hl,sz,hc,rfl⟩:=h;rfl
 obtain⟨l,rfl,F,hl,sz,hc,rfl⟩:=h;refine Ws.nox ?_;have hm:((l.map pu).length:Int)=(l.length:Int):=by rw[EM]
 have one:ao (l.map (scl 1))=l:=by rw[show scl 1=id from funext gv,Pr];exact F.cr
 have cs:j3 [lp l,.int 1] (.val (.int (p8 l))):=⟨l,1,rfl,by decide,Sz.mono (m:=8) (by decide) (by decide),rG (by decide) sz,F.ne,hl,by rw[one]⟩
 have l0:0<l.length:=FJ.mpr F.ne;have hc1:=hc.1;refine af (br (aF f8 (z9 ((x9 T).mono (by decide)) hr rfl T.aaX.m T.aaX.F.kp T.aaX.bd au (ae (aa 0 rfl) ak ag) cs) (DC rfl T.aa1)) (decide_eq_false (by lia)) (aG ?_))
 by_cases h1:l.length=1
 ·refine af (c7 (aF bO (ar (bJ rfl) rfl T.aae Fp (ae (aa 0 rfl) ak ag)) ai) (by rw[hm];exact decide_eq_true (by lia)) ?_)
  refine af (cw (df (eJ rfl) rfl T.aaK Ip (ae (aa 0 rfl) ak ag)) ?_);obtain⟨A,rfl⟩:=ID.mp h1
  have:aH [A]=[A]:=by
   rw[<-mX (R:=[A]) F λp=>by rw[iO];simp]
   exact bU (pts:=[A]) (by have:=ST.srt_len [A];simp at this;lia) ▸ F.cr
  rw[this]
 ·refine af (br (aF bO (ar (bJ rfl) rfl T.aae Fp (ae (aa 0 rfl) ak ag)) ai) (by rw[hm];exact decide_eq_false (by lia)) (aG ?_))
  refine af (cw (ba ((p5 T).mono (by decide)) hr rfl T.aaN.m T.aaN.F.kp T.aaN.b au (ae (aa 0 rfl) ak ag) ⟨l,rfl,F,by lia,hl,sz,hc,rfl⟩) ?_)
  exact rfl
theorem rL{A B C:P2}(hD:0<ac A B C)(h:∀p,0<=ac A B p->0<=ac B C p->0<=ac C A p->p=A\/p=B\/p=C):ac A B C=1:=by
 refine FD λn1=>?_
 obtain⟨g,s,t,G⟩:=ik (B.1-A.1) (B.2-A.2);obtain⟨u,hu⟩:=G.da;obtain⟨v,hv⟩:=G.db;have ge:=G.eq;have g0:=G.g0
 have gn:g≠0:=λe=>by
  rw[e,Hc]at hu hv;have:ac A B C=0:=by unfold ac;rw[hu,hv];lia
  lia
 have gp:0<g:=by lia
 have no:∀p:P2,0<=ac A B p->0<=ac B C p->0<=ac C A p->p≠A->p≠B->p≠C->False:=λp h1 h2 h3 a b c=>by
  rcases h p h1 h2 h3 with e |e |e
  ·exact a e
  ·exact b e
  ·exact c e
 have suv:s*u+t*v=1:=by
  have:g*(s*u+t*v)=g*1:=by rw[Kl];rw[hu,hv]at ge;rw[<-ge];grind
  exact F8 gn this
 have eD:ac A B C=g*(u*(C.2-A.2)-v*(C.1-A.1)):=by unfold ac;rw[hu,hv];grind
 by_cases g1:g=1
 ·subst g1;have hx:ac A B C=u*(C.2-A.2)-v*(C.1-A.1):=by rw[eD];lia
  generalize hd:ac A B C=d at *;obtain⟨x,hx0⟩:∃x,x=s*(C.1-A.1)+t*(C.2-A.2):=⟨_,rfl⟩
  have c1:C.1-A.1=x*u-d*t:=by
   have:x*u-d*t=(s*u+t*v) *(C.1-A.1):=by rw[hx0,hx];grind
   rw[this,suv];lia
  have c2:C.2-A.2=x*v+d*s:=by
   have:x*v+d*s=(s*u+t*v) *(C.2-A.2):=by rw[hx0,hx];grind
   rw[this,suv];lia
  have q1:=Im (-x) (show d≠0 by lia)
  have q2:=Hx (-x) hD;have q3:=Int.mul_ediv_add_emod (-x) d;generalize -x/d=m at *;generalize -x%d=r at *;have er:r=-x-d*m:=by lia
  have b1:B.1=A.1+u:=by lia
  have b2:B.2=A.2+v:=by lia
  have d1:ac A B (A.1-m*u-t,A.2-m*v+s)=1:=by
   unfold ac;dsimp only;rw[b1,b2,<-suv];grind
  have d3:ac C A (A.1-m*u-t,A.2-m*v+s)=r:=by
   have:ac C A (A.1-m*u-t,A.2-m*v+s)=(-m*u-t) *(C.2-A.2)-(-m*v+s) *(C.1-A.1):=by unfold ac;dsimp only;grind
   rw[this,c1,c2,er];have:(-m*u-t) *(x*v+d*s)-(-m*v+s) *(x*u-d*t)=(s*u+t*v) *(-x-d*m):=by grind
   rw[this,suv];lia
  have d2:ac B C (A.1-m*u-t,A.2-m*v+s)=d-1-r:=by
   have:ac A B (A.1-m*u-t,A.2-m*v+s)+ac B C (A.1-m*u-t,A.2-m*v+s)+ac C A (A.1-m*u-t,A.2-m*v+s)=ac A B C:=by unfold ac;dsimp only;grind
   lia
  have z:∀p q:P2,ac p q p=0/\ac p q q=0:=λp q=>by unfold ac;constructor <;>grind
  refine no (A.1-m*u-t,A.2-m*v+s) (by lia) (by lia) (by lia) (λe=>?_) (λe=>?_) (λe=>?_)
  ·rw[e,(z A B).1]at d1;lia
  ·rw[e,(z A B).2]at d1;lia
  ·rw[e,hd]at d1;lia
 ·have d1:ac A B (A.1+u,A.2+v)=0:=by unfold ac;dsimp only;rw[hu,hv];grind
  generalize hy:u*(C.2-A.2)-v*(C.1-A.1)=y at *;have yp:0<y:=by rw[eD]at hD;exact G5 hD gp
  have d3:ac C A (A.1+u,A.2+v)=y:=by unfold ac;dsimp only;rw[<-hy];grind
  have d2:ac B C (A.1+u,A.2+v)=(g-1) *y:=by
   have:ac A B (A.1+u,A.2+v)+ac B C (A.1+u,A.2+v)+ac C A (A.1+u,A.2+v)=ac A B C:=by unfold ac;dsimp only;grind
   rw[eD]at this;have e:(g-1) *y=g*y-y:=by grind
   rw[e];lia
  have d2':0<=(g-1) *y:=E8 (by lia) (by lia)
  have z:∀p q:P2,ac p q q=0/\ac p q p=0:=λp q=>by unfold ac;constructor <;>grind
  refine no (A.1+u,A.2+v) (by lia) (by lia) (by lia) (λe=>?_) (λe=>?_) (λe=>?_)
  ·rw[e,(z C A).1]at d3;lia
  ·rw[e,(z B C).2]at d2;have:=FK (show 0<g-1 by lia) yp
   lia
  ·rw[e]at d1;lia
def cy(s:Int)(P:P2):List P2->List P2
 |b::a::r=>if 0<s*ac a b P then cy s P (a::r) else b::a::r
 |st=>st
def dC(s:Int)(P:P2):List P2->List (P2×P2×P2)
 |b::a::r=>if 0<s*ac a b P then (a,b,P)::dC s P (a::r) else []
 |_=>[]
def Al(s:Int)(done:List P2):List P2->Prop
 |b::a::r=>(∀q∈done,s*ac a b q<=0/\(s*ac a b q=0->plt a q->plt q b->False))/\Al s done (a::r)
 |_=>True
theorem AW{s:Int}(hs:s=1\/s=-1){u1 u2 v1 v2 w1 w2:Int}(hu:bQ u1 u2)(hv:bQ v1 v2)(hw:bQ w1 w2)(h1:s*(u1*v2-u2*v1)<=0)(h2:s*(v1*w2-v2*w1)<=0):s*(u1*w2-u2*w1)<=0:=by
 rcases hs with e |e <;>subst e
 ·have:=dg hw hv hu (by grind) (by grind)
  grind
 ·have:=dg hu hv hw (by lia) (by lia)
  lia
theorem Dd{s:Int}(hs:s=1\/s=-1){u1 u2 p1 p2 w1 w2:Int}(hu:bQ u1 u2)(hp:bQ p1 p2)(hw:bQ w1 w2)(h1:0<s*(u1*p2-u2*p1))(h2:s*(u1*w2-u2*w1)<0):s*(p1*w2-p2*w1)<0:=by
 rcases hs with e |e <;>subst e
 ·have:=d_ hw hu hp (by grind) (by lia)
  grind
 ·have:=d_ hp hu hw (by grind) (by lia)
  lia
structure KW(s:Int)(done st:List P2):Prop where
 ne:st≠[]
 desc:g_ st
 cov:Al s done st
 sub:∀p∈st,p∈done
 bot:∀z,st.getLast?=some z->∀q∈done,¬ plt q z
structure DW(s:Int)(done st:List P2)(P:P2):Prop extends KW s done st where
 pend:∀h r,st=h::r->∀q∈done,plt h q->s*ac h P q<0
theorem tT{s:Int}(hs:s=1\/s=-1){done:List P2}{P b a:P2}{r:List P2}(hP:∀q∈done,plt q P)(D:DW s done (b::a::r) P)(h:0<s*ac a b P):DW s done (a::r) P:=by
 refine⟨⟨by simp,D.desc.tail,D.cov.2,λp hp=>D.sub p (ES _ hp),λz hz=>D.bot z (by rw[Gs];exact hz)⟩,?_⟩
 intro h' r' e q hq PU;cases e;have Qy:=D.desc.1;obtain⟨c1,c2⟩:=D.cov.1 q hq;have hbP:=hP b (D.sub b EY);rcases cE q b with z |z |z
 ·have Rg:s*ac a b q<0:=by
   rcases GK c1 with y |y
   ·exact y
   ·exact (c2 y PU z).elim
  have:=Dd hs (u1:=b.1-a.1) (u2:=b.2-a.2) (p1:=P.1-a.1) (p2:=P.2-a.2) (w1:=q.1-a.1) (w2:=q.2-a.2) (aI Qy) (aI (aD Qy hbP)) (aI PU) (by unfold ac at h;exact h) (by unfold ac at Rg;exact Rg)
  unfold ac;exact this
 ·subst z;have:ac a P q=- ac a q P:=by unfold ac;grind
  rw[this,MN];lia
 ·have p:=D.pend b _ rfl q hq z;have:ac a P q=ac a b q-ac a b P+ac b P q:=by unfold ac;grind
  rw[this];have e:s*(ac a b q-ac a b P+ac b P q)=s*ac a b q-s*ac a b P+s*ac b P q:=by grind
  lia
theorem xO{s:Int}(hs:s=1\/s=-1){done:List P2}{P:P2}(hP:∀q∈done,plt q P):∀st:List P2,DW s done st P->DW s done (cy s P st) P/\(∀b a r,cy s P st=b::a::r->s*ac a b P<=0)
 |[],D=>absurd rfl D.ne
 |[b],D=>⟨D,λ_ _ _ e=>by simp[cy]at e⟩
 |b::a::r,D=>by
  by_cases h:0<s*ac a b P
  ·rw[cy,if_pos h];exact xO hs hP (a::r) (tT hs hP D h)
  ·rw[cy,if_neg h];refine⟨D,λb' a' r' e=>?_⟩
   cases e;lia
theorem pj{s:Int}(hs:s=1\/s=-1){done:List P2}{P:P2}(hP:∀q∈done,plt q P):∀{st:List P2},g_ st->Al s done st->(∀p∈st,p∈done)->(∀b a r,st=b::a::r->s*ac a b P<=0)->Al s (done++[P]) st
 |[],_,_,_,_=>trivial
 |[_],_,_,_,_=>trivial
 |b::a::r,d,c,sub,h=>by
  have h0:=h b a r rfl;have mb:=sub b EY;refine⟨λq hq=>?_,pj hs hP d.tail c.2 (λp hp=>sub p (ES _ hp)) λb' a' r' e=>?_⟩
  ·rcases FA.mp hq with k |k
   ·exact c.1 q k
   ·rw[E5.mp k];refine⟨h0,λ_ _ k2=>?_⟩
    have:=hP b mb;unfold plt at *;lia
  ·cases e;have d2:=d.tail.1;have c2:=(c.2.1 b mb).1;have hb:=hP b mb
   have:=AW hs (u1:=a.1-a'.1) (u2:=a.2-a'.2) (v1:=b.1-a.1) (v2:=b.2-a.2) (w1:=P.1-b.1) (w2:=P.2-b.2) (aI d2) (aI d.1) (aI hb) (by
    have:ac a' a b=(a.1-a'.1) *(b.2-a.2)-(a.2-a'.2) *(b.1-a.1):=by unfold ac;grind
    rw[<-this];exact c2) (by
    have:ac a b P=(b.1-a.1) *(P.2-b.2)-(b.2-a.2) *(P.1-b.1):=by unfold ac;grind
    rw[<-this];exact h0)
   have e:s*ac a' a P=s*ac a' a b+s*((a.1-a'.1) *(P.2-b.2)-(a.2-a'.2) *(P.1-b.1)):=by unfold ac;grind
   lia
theorem Bu{s:Int}(hs:s=1\/s=-1){done st:List P2}{P:P2}(hP:∀q∈done,plt q P)(K:KW s done st)(top:∀h r,st=h::r->∀q∈done,¬ plt h q):KW s (done++[P]) (P::cy s P st):=by
 obtain⟨D,stop⟩:=xO hs hP st ⟨K,λh r e q hq PU=>absurd PU (top h r e q hq)⟩
 generalize cy s P st=t at *;have hPn:¬ plt P P:=by unfold plt;lia
 have R0:∀b a r,t=b::a::r->s*ac a b P<=0:=stop;have cm:=pj hs hP D.desc D.cov D.sub R0
 match t,D,R0,cm with
 |[],D,_,_=>exact absurd rfl D.ne
 |[b],D,R0,cm=>
  have mb:=D.sub b EY;refine⟨by simp,⟨hP b mb,trivial⟩,⟨λq hq=>?_,trivial⟩,λp hp=>?_,λz hz q hq=>?_⟩
  ·rcases FA.mp hq with k |k
   ·rcases cE q b with y |y |y
    ·exact absurd y (D.bot b rfl q k)
    ·subst y;exact⟨by unfold ac;grind,λ_ k1 _=>by unfold plt at k1;lia⟩
    ·have:=D.pend b _ rfl q k y;exact⟨by lia,λe _ _=>by lia⟩
   ·rw[E5.mp k];exact⟨by unfold ac;grind,λ_ _ k2=>hPn k2⟩
  ·rcases ET.mp hp with k |k
   ·rw[k];simp
   ·exact FH _ (D.sub p k)
  ·have ez:z=b:=by simpa using hz.symm
   subst ez;rcases FA.mp hq with k |k
   ·exact D.bot z rfl q k
   ·rw[E5.mp k];have:=hP z mb;unfold plt at *;lia
 |b::a::r,D,R0,cm=>
  have mb:=D.sub b EY;have h0:=R0 b a r rfl;refine⟨by simp,⟨hP b mb,D.desc⟩,⟨λq hq=>?_,cm⟩,λp hp=>?_,λz hz q hq=>?_⟩
  ·rcases FA.mp hq with k |k
   ·rcases cE q b with y |y |y
    ·have c1:=(D.cov.1 q k).1;have hb:=hP b mb
     have:=AW hs (u1:=b.1-q.1) (u2:=b.2-q.2) (v1:=b.1-a.1) (v2:=b.2-a.2) (w1:=P.1-b.1) (w2:=P.2-b.2) (aI y) (aI D.desc.1) (aI hb) (by
      have:(b.1-q.1) *(b.2-a.2)-(b.2-q.2) *(b.1-a.1)=ac a b q:=by unfold ac;grind
      rw[this];exact c1) (by
      have:ac a b P=(b.1-a.1) *(P.2-b.2)-(b.2-a.2) *(P.1-b.1):=by unfold ac;grind
      rw[<-this];exact h0)
     have e:ac b P q=(b.1-q.1) *(P.2-b.2)-(b.2-q.2) *(P.1-b.1):=by unfold ac;grind
     rw[e];exact⟨this,λ_ k1 _=>by unfold plt at *;lia⟩
    ·subst y;exact⟨by unfold ac;grind,λ_ k1 _=>by unfold plt at k1;lia⟩
    ·have:=D.pend b _ rfl q k y;exact⟨by lia,λe _ _=>by lia⟩
   ·rw[E5.mp k];exact⟨by unfold ac;grind,λ_ _ k2=>hPn k2⟩
  ·rcases ET.mp hp with k |k
   ·rw[k];simp
   ·exact FH _ (D.sub p k)
  ·have hz':(b::a::r).getLast?=some z:=by rw[Gs]at hz;exact hz
   rcases FA.mp hq with k |k
   ·exact D.bot z hz' q k
   ·rw[E5.mp k];have:=hP z (D.sub z (G_ hz'));unfold plt at *;lia
abbrev Tri:=P2×P2×P2
def gF(t:Tri):Int:=ac t.1 t.2.1 t.2.2
def wst(s:Int)(z:List P2×List Tri)(P:P2):List P2×List Tri:=(P::cy s P z.1,z.2++dC s P z.1)
def bv(s:Int)(row:List P2):List P2×List Tri:=row.foldl (wst s) ([],[])
theorem dM(s:Int)(row:List P2)(P:P2):bv s (row++[P])=wst s (bv s row) P:=by unfold bv;rw[Lj];rfl
theorem fJ{Q:List P2->Prop}(h0:Q [])(h1:∀l P,Q l->Q (l++[P])):∀l,Q l:=λl=>by
 have key:∀m:List P2,Q m.reverse:=λm=>by
  induction m with
  |nil=>exact h0
  |cons a m ih=>rw[JQ];exact h1 _ _ ih
 have:=key l.reverse
 rwa [MG]at this
theorem fX{l:List P2}{P:P2}(h:(l++[P]).Pairwise plt):l.Pairwise plt/\∀q∈l,plt q P:=by
 rw[List.pairwise_append]at h;exact⟨h.1,λq hq=>h.2.2 q hq P (by simp)⟩
theorem jp(s:Int)(row:List P2)(P:P2):(bv s (row++[P])).1.head?=some P:=by rw[dM];rfl
theorem tV{s:Int}(hs:s=1\/s=-1):∀row:List P2,row.Pairwise plt->row≠[]->KW s row (bv s row).1:=by
 refine fJ (λ_ h=>absurd rfl h) λl P ih Qq _=>?_
 obtain⟨h1,h2⟩:=fX Qq;rw[dM];show KW s (l++[P]) (P::cy s P (bv s l).1);by_cases hl:l=[]
 ·subst hl;show KW s [P] [P];refine⟨by simp,trivial,trivial,λp hp=>by simpa using hp,λz hz q hq=>?_⟩
  have e1:q=P:=by simpa using hq
  have e2:P=z:=by simpa using hz
  rw[e1,<-e2];unfold plt;lia
 ·have K:=ih h1 hl;refine Bu hs h2 K λh r e q hq=>?_
  have:l=l.dropLast++[l.getLast hl]:=(G6 hl).symm;have hd:=jp s l.dropLast (l.getLast hl);rw[<-this,e]at hd;have eh:h=l.getLast hl:=by simpa using hd
  rw[eh];rw[this]at h1 hq;rcases FA.mp hq with k |k
  ·have:=(fX h1).2 q k;unfold plt at *;lia
  ·rw[E5.mp k];unfold plt;lia
def chS:List P2->Int
 |b::a::r=>crs (a,b)+chS (a::r)
 |_=>0
theorem tZ(s:Int)(P:P2):∀st:List P2,chS (P::cy s P st)+((dC s P st).map gF).sum=chS (P::st)
 |[]=>by simp[cy,dC]
 |[b]=>by simp[cy,dC]
 |b::a::r=>by
  by_cases h:0<s*ac a b P
  ·rw[cy,dC,if_pos h,if_pos h,Ff,Ia];have ih:=tZ s P (a::r);show _+(ac a b P+_)=crs (b,P)+(crs (a,b)+chS (a::r));have e:chS (P::a::r)=crs (a,P)+chS (a::r):=rfl;rw[e]at ih;have d:ac a b P=crs (a,b)+crs (b,P)-crs (a,P):=by unfold ac crs;grind
   lia
  ·rw[cy,dC,if_neg h,if_neg h];simp
theorem oU{P t:P2}{st:List P2}(h:st.head?=some t):chS (P::st)=crs (t,P)+chS st:=by
 cases st with
 |nil=>cases h
 |cons a r=>cases h;rfl
theorem sS(s:Int):∀row:List P2,((bv s row).2.map gF).sum=chS row.reverse-chS (bv s row).1:=by
 refine fJ rfl λl P ih=>?_
 rw[dM,List.reverse_append];show (((bv s l).2++dC s P (bv s l).1).map gF).sum=chS (P::l.reverse)-chS (P::cy s P (bv s l).1);have h:=tZ s P (bv s l).1;rw[F1,List.sum_append,ih];by_cases hl:l=[]
 ·subst hl;simp[bv,cy,dC,chS]
 ·have e:l=l.dropLast++[l.getLast hl]:=(G6 hl).symm;have hd:=jp s l.dropLast (l.getLast hl);rw[<-e]at hd;have hr:l.reverse.head?=some (l.getLast hl):=by rw[KJ,Js hl]
  rw[oU hd]at h;rw[oU hr];lia
theorem lE(P:P2):∀st:List P2,Pf (aU P st) st
 |[]=>Jc _
 |[_]=>Jc _
 |b::a::r=>by
  rw[aU];split
  ·exact (lE P (a::r)).trans (List.sublist_cons_self _ _)
  ·exact Jc _
theorem kt:∀r:List P2,Pf (am r).reverse r:=by
 refine fJ (Jc _) λl P ih=>?_
 have e:am (l++[P])=P::aU P (am l):=by unfold am;rw[Lj];rfl
 rw[e,JQ];exact ((lE P (am l)).reverse.trans ih).append (Jc _)
structure TOk(s:Int)(row:List P2)(t:Tri):Prop where
 ma:t.1∈row
 mb:t.2.1∈row
 mP:t.2.2∈row
 ab:plt t.1 t.2.1
 bP:plt t.2.1 t.2.2
 d:0<s*gF t
 cov:∀q∈row,plt q t.2.2->s*ac t.1 t.2.1 q<=0/\(s*ac t.1 t.2.1 q=0->plt t.1 q->plt q t.2.1->False)
theorem AZ{s:Int}(hs:s=1\/s=-1){done:List P2}{P:P2}(hP:∀q∈done,plt q P):∀st:List P2,DW s done st P->∀t∈dC s P st,TOk s (done++[P]) t
 |[],_,t,h=>by cases h
 |[_],_,t,h=>by cases h
 |b::a::r,D,t,h=>by
  rw[dC]at h;split at h
  ·rename_i k
   rcases ET.mp h with e |e
   ·subst e;have ma:=D.sub a (by simp)
    have mb:=D.sub b (by simp)
    refine⟨FH _ ma,FH _ mb,by simp,D.desc.1,hP b mb,k,λq hq PU=>?_⟩
    rcases FA.mp hq with y |y
    ·exact D.cov.1 q y
    ·rw[E5.mp y]at PU;have hlt':plt P P:=PU;unfold plt at hlt';lia
   ·exact AZ hs hP (a::r) (tT hs hP D k) t e
  ·cases h
theorem vS{s:Int}{row:List P2}{P:P2}(hP:∀q∈row,plt q P){t:Tri}(h:TOk s row t):TOk s (row++[P]) t:=by
 refine⟨FH _ h.ma,FH _ h.mb,FH _ h.mP,h.ab,h.bP,h.d,λq hq PU=>?_⟩
 rcases FA.mp hq with y |y
 ·exact h.cov q y PU
 ·rw[E5.mp y]at PU;have:=hP _ h.mP;unfold plt at *;lia
theorem eA{s:Int}(hs:s=1\/s=-1):∀row:List P2,row.Pairwise plt->∀t∈(bv s row).2,TOk s row t:=by
 refine fJ (λ_ t h=>by cases h) λl P ih Qq t ht=>?_
 obtain⟨h1,h2⟩:=fX Qq;rw[dM]at ht;rcases FA.mp (show t∈(bv s l).2++dC s P (bv s l).1 from ht) with k |k
 ·exact vS h2 (ih h1 t k)
 ·by_cases hl:l=[]
  ·subst hl;cases k
  ·refine AZ hs h2 _ ⟨tV hs l h1 hl,λh r e q hq PU=>?_⟩ t k
   have e2:l=l.dropLast++[l.getLast hl]:=(G6 hl).symm;have hd:=jp s l.dropLast (l.getLast hl);rw[<-e2,e]at hd;have eh:h=l.getLast hl:=by simpa using hd
   rw[eh]at PU;rw[e2]at h1 hq
   exfalso
   rcases FA.mp hq with k |k
   ·have:=(fX h1).2 q k;unfold plt at *;lia
   ·rw[E5.mp k]at PU;unfold plt at PU;lia
theorem e9{s:Int}(hs:s=1\/s=-1){row:List P2}{t:Tri}(h:TOk s row t){p:P2}(hp:p∈row)(h1:0<=s*ac t.1 t.2.1 p)(h2:0<=s*ac t.2.1 t.2.2 p)(h3:0<=s*ac t.2.2 t.1 p):p=t.1\/p=t.2.1\/p=t.2.2:=by
 obtain⟨a,b,P⟩:=t;have ab:=h.ab;have bP:=h.bP;have d:=h.d;have cv:=h.cov p hp;dsimp only at *;unfold gF at d;dsimp only at d;have sum:s*ac a b p+s*ac b P p+s*ac P a p=s*ac a b P:=by unfold ac;grind
 have x1:s*ac a b P*(P.1-p.1)=s*ac b P p*(P.1-a.1)+s*ac P a p*(P.1-b.1):=by unfold ac;grind
 have x2:s*ac a b P*(P.2-p.2)=s*ac b P p*(P.2-a.2)+s*ac P a p*(P.2-b.2):=by unfold ac;grind
 have y1:s*ac a b P*(p.1-a.1)=s*ac P a p*(b.1-a.1)+s*ac a b p*(P.1-a.1):=by unfold ac;grind
 have y2:s*ac a b P*(p.2-a.2)=s*ac P a p*(b.2-a.2)+s*ac a b p*(P.2-a.2):=by unfold ac;grind
 have z1:s*ac a b P*(b.1-p.1)=s*ac b P p*(b.1-a.1)-s*ac a b p*(P.1-b.1):=by unfold ac;grind
 have z2:s*ac a b P*(b.2-p.2)=s*ac b P p*(b.2-a.2)-s*ac a b p*(P.2-b.2):=by unfold ac;grind
 generalize s*ac a b P=D at *;generalize s*ac b P p=α at *;generalize s*ac P a p=β at *;generalize s*ac a b p=γ at *;have aP:=aD ab bP
 have zero:∀{x:Int},D*x=0->x=0:=λ{x} e=>by
  rcases Fi.mp e with k |k
  ·lia
  ·exact k
 have neg:∀{x:Int},0<=D*x->0<=x:=λ{x} e=>by
  rcases FQ x 0 with k |k
  ·have:=Ii d k;lia
  ·exact k
 have SF:∀{x:Int},0<D*x->0<x:=λ{x} e=>by
  rcases FQ 0 x with k |k
  ·exact k
  ·have:=Fw (show 0<=D by lia) k
   lia
 have lex:∀{u1 u2 v1 v2:Int},bQ u1 u2->bQ v1 v2->∀{m n:Int},0<=m->0<=n->(m*u1+n*v1=0/\m*u2+n*v2=0/\m=0/\n=0)\/bQ (m*u1+n*v1) (m*u2+n*v2):=λ{u1 u2 v1 v2} hu hv {m n} hm hn=>by
  by_cases m0:m=0
  ·by_cases n0:n=0
   ·subst m0;subst n0;left;simp
   ·subst m0
    right
    unfold bQ at *;rcases hv with k |⟨k1,k2⟩
    ·left;have:=FK (show 0<n by lia) k;lia
    ·right;rw[k1];have:=FK (show 0<n by lia) k2;exact⟨by lia,by lia⟩
  ·right
   unfold bQ at *;have mp:0<m:=by lia
   rcases hu with k |⟨k1,k2⟩
   ·left
    have:=FK mp k;have:0<=n*v1:=E8 hn (by lia)
    lia
   ·rcases hv with j |⟨j1,j2⟩
    ·by_cases n0:n=0
     ·subst n0;right;rw[k1];have:=FK mp k2;exact⟨by lia,by lia⟩
     ·left;rw[k1];have:=FK (show 0<n by lia) j;lia
    ·right
     rw[k1,j1];have:=FK mp k2;have:0<=n*v2:=E8 hn (by lia)
     exact⟨by lia,by lia⟩
 by_cases hpP:p=P
 ·exact .inr (.inr hpP)
 have ltP:plt p P:=by
  rcases lex (aI aP) (aI bP) h2 h3 with ⟨e1,e2,_⟩ |k
  ·rw[<-x1]at e1;rw[<-x2]at e2;have e1:=zero e1;have e2:=zero e2;exact absurd (GC (by lia) (by lia)) hpP
  ·rw[<-x1,<-x2]at k;unfold bQ at k;unfold plt;rcases k with k |⟨k1,k2⟩
   ·have:=SF k;lia
   ·have:=zero k1;have:=SF k2;lia
 obtain⟨g1,g2⟩:=cv ltP;have g0:γ=0:=by lia
 rw[g0]at y1 y2 z1 z2;simp only[Hc,KL,KM]at y1 y2 z1 z2;by_cases b0:β=0
 ·rw[b0,Hc]at y1 y2;have e1:=zero y1;have e2:=zero y2;exact .inl (GC (by lia) (by lia))
 by_cases a0:α=0
 ·rw[a0,Hc]at z1 z2;have e1:=zero z1;have e2:=zero z2;exact .inr (.inl (GC (by lia) (by lia)))
 have l:=aI ab
 have mid:∀{m x1 x2:Int},0<m->D*x1=m*(b.1-a.1)->D*x2=m*(b.2-a.2)->bQ x1 x2:=λ{m x1 x2} hm e1 e2=>by
  unfold bQ at l |-;rcases l with k |⟨k1,k2⟩
  ·left;apply SF;rw[e1];exact FK hm k
  ·right
   rw[k1,Hd]at e1;exact⟨zero e1,SF (by rw[e2];exact FK hm k2)⟩
 have m1:=mid (show 0<β by lia) y1 y2
 have m2:=mid (show 0<α by lia) z1 z2
 refine (g2 g0 ?_ ?_).elim
 ·unfold bQ at m1;unfold plt;lia
 ·unfold bQ at m2;unfold plt;lia
theorem nG {s:Int} (hs:s=1∨s=-1) {row:List P2} (hr:row.Pairwise plt) (conv:∀a b c p:P2,a∈row→b∈row→c∈row→0<ac a b c→0≤ac a b p→0≤ac b c p→0≤ac c a p→p∈row):∀t∈(bv s row).2,gF t=s:=λt ht=>by
 have K:=eA hs row hr t ht;have d:=K.d;rcases hs with e |e <;>subst e
 ·have d1:0<ac t.1 t.2.1 t.2.2:=by unfold gF at d;lia
  refine rL d1 λp h1 h2 h3=>?_
  exact e9 (.inl rfl) K (conv _ _ _ p K.ma K.mb K.mP d1 h1 h2 h3) (by lia) (by lia) (by lia)
 ·have e1:ac t.2.1 t.1 t.2.2=- gF t:=by unfold gF ac;grind
  have d1:0<ac t.2.1 t.1 t.2.2:=by rw[e1];lia
  have:=rL d1 λp h1 h2 h3=>by
   have mp:=conv _ _ _ p K.mb K.ma K.mP d1 h1 h2 h3
   have f1:ac t.1 t.2.1 p=- ac t.2.1 t.1 p:=by unfold ac;grind
   have f2:ac t.2.1 t.2.2 p=- ac t.2.2 t.2.1 p:=by unfold ac;grind
   have f3:ac t.2.2 t.1 p=- ac t.1 t.2.2 p:=by unfold ac;grind
   rcases e9 (.inr rfl) K mp (by rw[f1];lia) (by rw[f2];lia) (by rw[f3];lia) with k |k |k
   ·exact .inr (.inl k)
   ·exact .inl k
   ·exact .inr (.inr k)
  rw[e1]at this;lia
theorem iG{c:Int}:∀{l:List Tri},(∀t∈l,gF t=c)->(l.map gF).sum=c*(l.length:Int)
 |[],_=>by simp
 |t::l,h=>by
  rw[Ff,Ia,h t EY,iG λx hx=>h x (ES _ hx),FV]
  grind
theorem mJ(s:Int)(P:P2):∀st:List P2,(dC s P st).map (λt=>t.2.1)++cy s P st=st
 |[]=>rfl
 |[_]=>rfl
 |b::a::r=>by
  by_cases h:0<s*ac a b P
  ·rw[cy,dC,if_pos h,if_pos h,Ff,LM,mJ s P (a::r)]
  ·rw[cy,dC,if_neg h,if_neg h];rfl
theorem jn(s:Int):∀row:List P2,M4 ((bv s row).2.map (λt=>t.2.1)++(bv s row).1) row:=by
 refine fJ (KO _) λl P ih=>?_
 rw[dM];show M4 (((bv s l).2++dC s P (bv s l).1).map (λt=>t.2.1)++(P::cy s P (bv s l).1)) (l++[P])
 have e:=mJ s P (bv s l).1;rw[F1,JO]
 have k:M4 ((dC s P (bv s l).1).map (λt=>t.2.1)++(P::cy s P (bv s l).1)) ((bv s l).1++[P]):=by
  refine LJ.trans ?_;rw[e];exact (Kz P _).symm
 refine (Md _ k).trans ?_;rw[<-JO];exact ih.append_right [P]
theorem x_(s:Int){row:List P2}(h:row.Nodup):((bv s row).2.map (λt=>t.2.1)).Nodup:=by
 have:=(jn s row).nodup_iff.mpr h;exact (HG.mp this).1
theorem Ar{row:List P2}(hr:row.Pairwise plt)(hn:row.Nodup):((bv 1 row).2++(bv (-1) row).2).Nodup:=by
 refine HG.mpr ⟨?_,?_,λt h1 u h2 e=>?_⟩
 ·exact (FO.mp (x_ 1 hn)).imp λ{a b} k e=>k (by rw[e])
 ·exact (FO.mp (x_ (-1) hn)).imp λ{a b} k e=>k (by rw[e])
 ·subst e;have d1:=(eA (.inl rfl) row hr t h1).d;have d2:=(eA (.inr rfl) row hr t h2).d;lia
theorem vT(s n:Int)(hs:s=1\/s=-1):decide (sgn n=s)=decide (0<s*n):=by
 refine decide_eq_decide.mpr ?_;unfold sgn;rcases hs with rfl |rfl <;>(repeat' split) <;>lia
def bD(t:Tri):ST3.TR:=if 0<ac t.1 t.2.1 t.2.2 then (t.1,t.2.1,t.2.2) else (t.1,t.2.2,t.2.1)
theorem pP{a b c:P2}(h1:plt a b)(h2:plt b c)(h:ac a b c≠0):ao [a,b,c]=[(bD (a,b,c)).1,(bD (a,b,c)).2.1,(bD (a,b,c)).2.2]:=by
 have h13:=aD h1 h2
 have hs:ST.srt [a,b,c]=[a,b,c]:=ST.asc_srt (by
  refine .cons (λx hx=>?_) (.cons (λx hx=>?_) (.cons (λx hx=>by simp at hx) .nil))
  ·simp at hx;rcases hx with rfl |rfl
   ·exact (dW _ _).mp h1
   ·exact (dW _ _).mp h13
  ·simp at hx;rw[hx];exact (dW _ _).mp h2)
 have hd:ac c b a=-ac a b c:=by unfold ac;grind
 unfold ao;rw[hs];unfold bD;by_cases k:0<ac a b c
 ·simp[am,aU,hd,k,show ¬ ac a b c<=0 by lia,show -ac a b c<=0 by lia]
 ·simp[am,aU,hd,k,show ac a b c<=0 by lia,show ¬ -ac a b c<=0 by lia]
theorem nL(s:Int)(row:List P2):(bv s row).2.length+(bv s row).1.length=row.length:=by
 have:=(jn s row).length_eq;rw[FM,EM]at this;exact this
theorem yW(s:Int)(row:List P2):∀q∈(bv s row).1,q∈row:=λq hq=>(jn s row).mem_iff.mp (Fg _ hq)
def wv:List U->Out->Prop:=λus o=>∃(row:List P2) (s:Int),us=[lp row,.int s]/\(s=1\/s=-1)/\row.Pairwise plt/\(∀p∈row,Szp 2500 p)/\row.length<=200/\o=.new ((bv s row).2.map λt=>trU (bD t))
theorem kw(T:Txt w K mg):a9 P w K mg base (CXF P w) 5 T.aax.a T.aax.d ["row","hand"] (spU K (wv)):=by
 refine aW T.aax.F fu (λus o h=>?_) (λPV A outer s H E O us o hr h=>?_)
 ·obtain⟨row,s,rfl,hs,SH,sz,hl,rfl⟩:=h;rfl
 obtain⟨row,s,rfl,hs,SH,sz,hl,rfl⟩:=h;refine Ws.nox ?_;refine af (dS (i:=2) fu.nd rfl (Or.inl rfl) (cT bj) ?_);refine af (dS (i:=3) fu.nd rfl (Or.inl rfl) (cT bj) ?_);refine af (d7 (λz:List P2×List Tri=>[some (.val (lp row)),some (.val (.int s)),some (.own (z.1.reverse.map pu)),some (.own (z.2.map λt=>trU (bD t))),none]) (λi z=>z=bv s (row.take i)) rfl PassesOwn.never (c9 (aa 0 rfl) (.inl rfl)) ?h0 ?hs ?hd)
 case h0=>exact⟨([],[]),rfl,rfl,rfl,rfl,rfl,trivial⟩
 case hs=>
  rintro H0 i x _ hx rfl;obtain⟨P,hP,mP,rfl⟩:=t7 hx;have hi:i<row.length:=aL hP;have sP:=sz P mP;refine⟨_,(eI (i:=4) fu.nd rfl (Or.inl rfl)),?_⟩;have tk:row.take (i+1)=row.take i++[P]:=by rw[GO,hP];rfl
  have hp:(row.take i++[P]).Pairwise plt:=by rw[<-tk];exact SH.sublist (Nd _ _)
  obtain⟨hp1,hp2⟩:=fX hp;have lz:=nL s (row.take i);rw[Ka]at lz
  have sub:∀q∈(bv s (row.take i)).1,q∈row/\plt q P:=λq hq=>by
   have:=yW s _ q hq;exact⟨MH this,hp2 q this⟩
  have hdesc:g_ (bv s (row.take i)).1:=by
   by_cases h0:row.take i=[]
   ·rw[h0];exact trivial
   ·exact (tV hs _ hp1 h0).desc
  have suc:bv s (row.take (i+1))=wst s (bv s (row.take i)) P:=by rw[tk,dM]
  generalize bv s (row.take i)=z at *;refine kE (λps=>SubP [some (.val (lp row)),some (.val (.int s)),some (.own ((cy s P z.1).reverse.map pu)),some (.own ((z.2++dC s P z.1).map λt=>trU (bD t))),some (.val (pu P))] ps) (il (λy:List P2×List Tri=>[some (.val (lp row)),some (.val (.int s)),some (.own (y.1.reverse.map pu)),some (.own (y.2.map λt=>trU (bD t))),some (.val (pu P))]) (λn y=>n=y.1.length/\cy s P y.1=cy s P z.1/\y.2++dC s P y.1=z.2++dC s P z.1/\(∀q∈y.1,q∈row/\plt q P)/\g_ y.1/\y.2.length+y.1.length<=i) PassesOwn.never ?h0 ?hs) ?hj
  case h0=>exact⟨_,z,⟨rfl,rfl,rfl,sub,hdesc,by lia⟩,rfl,rfl,rfl,rfl,rfl,trivial⟩
  case hs=>
   rintro m ⟨y1,y2⟩ ⟨rfl,e1,e2,sb,ds,le⟩;dsimp only at e1 e2 sb ds le |-
   match y1,e1,e2,sb,ds,le with
   |[],e1,e2,sb,ds,le=>
    refine⟨false,?_,λh=>(nomatch h),λh ps Qh=>?_⟩
    ·exact (Tw.t (iQ (aF f8 (b8 2 rfl rfl T.aae) ai) rfl))
    ·rw[<-e1,<-e2];simpa [cy,dC] using Qh
   |[b],e1,e2,sb,ds,le=>
    refine⟨false,?_,λh=>(nomatch h),λh ps Qh=>?_⟩
    ·exact (Tw.t (iQ (aF f8 (b8 2 rfl rfl T.aae) ai) rfl))
    ·rw[<-e1,<-e2];simpa [cy,dC] using Qh
   |b::a::r,e1,e2,sb,ds,le=>
    have sa:=sz a (sb a (by simp)).1
    have sbb:=sz b (sb b (by simp)).1
    have pbP:=(sb b (by simp)).2
    have pab:plt a b:=ds.1;have l1:decide ((1:Int)<((((b::a::r).reverse.map pu).length:Nat):Int))=true:=decide_eq_true (by simp;lia)
    have up:∀{p:P2},Szp 2500 p->Szp 5000 p:=λh=>⟨h.1.mono (by decide),h.2.mono (by decide)⟩
    refine⟨decide ((1:Int)<((((b::a::r).reverse.map pu).length:Nat):Int)) && decide (sgn (ac a b P)=s),?_,λh=>?_,λh ps Qh=>?_⟩
    ·exact (Tw.t (sJ (aF f8 (b8 2 rfl rfl T.aae) ai) (λhz=>(qj (aF bO (aw ((jA T).mono (by decide)) hr rfl T.aaJ.m T.aaJ.F.kp T.aaJ.b au (ae (dU 2 rfl (bN ai) (tP b a r)) (ae (dU 2 rfl (bN ai) (tW b (a::r))) (ae (aa 4 rfl) ak ag) aR) aR) ⟨a,b,P,rfl,up sa,up sbb,up sP,rfl⟩) (aa 1 rfl))))))
    ·rw[l1,IY,vT s _ hs]at h;have hd:=dTb h;have hd0:ac a b P≠0:=λz=>by rw[z]at hd;simp at hd
     have ct:=pP pab pbP hd0
     refine af (cB 3 rfl (zt (AN (.inl rfl)) rfl T.aaY Li (ae (EvN.ev (ba ((jM T).mono (by decide)) hr rfl T.aaC.m T.aaC.F.kp T.aaC.b au (ae (EvN.ev (cT (aq (dU 2 rfl (bN ai) (tP b a r)) (aq (dU 2 rfl (bN ai) (tW b (a::r))) (aq (aa 4 rfl) bj ag) aR) aR))) ak Cu) ⟨[a,b,P],rfl,λp hp=>by
      simp only[ET,Fm,or_false]at hp;rcases hp with rfl |rfl |rfl
      ·exact up sa
      ·exact up sbb
      ·exact up sP,by simp,by simp,by rw[ct]⟩)) ak aN)) (by rw[EM];exact aE (by simp at le;lia)) ?_)
     refine af (yL 2 rfl (by simp) (aG ?_))
     refine⟨_,(a::r,y2++[(a,b,P)]),?_,⟨rfl,?_,?_,λq hq=>sb q (ES _ hq),ds.2,?_⟩,rfl,rfl,?_,?_,rfl,trivial⟩
     ·simp
     ·rw[←e1];conv=>rhs;unfold cy
      rw[if_pos hd]
     ·rw[←e2];conv=>rhs;unfold dC
      rw[if_pos hd];simp
     ·simp at le |-;lia
     ·exact congrArg (λl=>some (Sl.own l)) (by simp)
     ·exact congrArg (λl=>some (Sl.own l)) (by simp)
    ·rw[l1,IY,vT s _ hs]at h;have hd:=dFb h
     have k1:cy s P (b::a::r)=b::a::r:=by conv=>lhs;unfold cy
                                          rw[if_neg hd]
     have k2:dC s P (b::a::r)=[]:=by conv=>lhs;unfold dC
                                     rw[if_neg hd]
     rw[<-e1,<-e2,k1,k2,HL];exact Qh
  case hj=>
   intro ps Qh;refine du ?_ Qh
   have kl:(cy s P z.1).length<=z.1.length:=by
    have:∀st:List P2,(cy s P st).length<=st.length:=λst=>by
     have:=congrArg NP (mJ s P st);rw[FM]at this;lia
    exact this _
   refine af (cB 2 rfl (aa 4 rfl) (by rw[EM,FR];exact aE (by lia)) (aG ?_))
   refine⟨_,rfl,rfl,rfl,?_,?_,trivial⟩
   ·exact congrArg (λl=>some (Sl.own l)) (by rw[suc];simp[wst])
   ·exact congrArg (λl=>some (Sl.own l)) (by rw[suc];rfl)
 case hd=>
  rintro q ps hq Qh;refine du ?_ Qh;rw[EM]at hq;subst hq;rw[GQ];refine af (fi 3 rfl ?_);exact rfl
def dk(k:Int)(Q R x:P2):Int:=k*(Q.1*R.2-Q.2*R.1)+x.1*(Q.2-R.2)-x.2*(Q.1-R.1)
structure Wt(a b c:P2)(α β γ k:Int)(x:P2):Prop where
 h1:0<=α
 h2:0<=β
 h3:0<=γ
 hk:α+β+γ=k
 hx:x.1=α*a.1+β*b.1+γ*c.1
 hy:x.2=α*a.2+β*b.2+γ*c.2
theorem Wt.dk{a b c x:P2}{α β γ k:Int}(W:Wt a b c α β γ k x)(u v:P2):dk k u v x=α*ac u v a+β*ac u v b+γ*ac u v c:=by
 have e1:=W.hx;have e2:=W.hy;have e3:=W.hk;unfold My.dk ac;rw[e1,e2,<-e3];grind
theorem b9(a b c:P2):ac a b a=0/\ac a b b=0/\ac b c a=ac a b c/\ac c a b=ac a b c:=by
 unfold ac;refine⟨?_,?_,?_,?_⟩ <;>grind
theorem Wt.one{a b c x:P2}{α β γ Qf Qa Qp k:Int}(W:Wt a b c α β γ k x)(W':Wt a b c Qf Qa Qp k x)(hd:ac a b c≠0):Qf=α/\Qa=β/\Qp=γ:=by
 have e1:=(W.dk b c).symm.trans (W'.dk b c);have e2:=(W.dk c a).symm.trans (W'.dk c a);have e3:=(W.dk a b).symm.trans (W'.dk a b);obtain⟨p1,p2,p3,p4⟩:=b9 a b c;obtain⟨q1,q2,_,_⟩:=b9 b c a;obtain⟨r1,r2,_,_⟩:=b9 c a b;rw[p3,q1,q2]at e1;rw[p4,r1,r2]at e2;rw[p1,p2]at e3;simp only[Hd,Mp,KL]at e1 e2 e3;exact⟨(Jd hd e1).symm,(Jd hd e2).symm,(Jd hd e3).symm⟩
def PP(a b c:P2)(α β γ:Int)(v:P2)(n:Int):Prop:=0<n/\((v=a/\n=α)\/(v=b/\n=β)\/(v=c/\n=γ))
theorem BO{s:Int}(hs:s=1\/s=-1){a b P q:P2}(hd:s*ac a b P=1)(h0:ac a b q=0)(u v:P2):ac u v q=(1-s*ac P a q) *ac u v a+s*ac P a q*ac u v b:=by
 have k:s*ac a b P*ac u v q=s*ac b P q*ac u v a+s*ac P a q*ac u v b+s*ac a b q*ac u v P:=by unfold ac;grind
 have m:s*ac b P q+s*ac P a q+s*ac a b q=s*ac a b P:=by unfold ac;grind
 rw[hd,h0]at k;rw[hd,h0]at m;have:s*ac b P q=1-s*ac P a q:=by simp at m;lia
 rw[this]at k;simp at k;exact k
theorem yr{i1 i2 i3 α β w1 w2 w3:Int}(ha:0<α)(hb:0<β)(h1:0<=w1)(h2:0<=w2)(h3:0<=w3)(hk:w1+w2+w3=α+β)(hi:w1*i1+w2*i2+w3*i3=β):
  ((0<w1/\i1<=0)\/(0<w2/\i2<=0)\/(0<w3/\i3<=0))/\((0<w1/\1<=i1)\/(0<w2/\1<=i2)\/(0<w3/\1<=i3)):=by
 constructor
 ·refine FD λz=>?_
  have g:∀{w i:Int},0<=w->(0<w->0<i)->w<=w*i:=λ{w i} hw h=>by
   by_cases e:0<w
   ·have:=Ke (show 1<=i from h e) hw
    lia
   ·have:w=0:=by lia
    subst this;simp
  have a1:=g h1 (i:=i1) (by lia)
  have a2:=g h2 (i:=i2) (by lia)
  have a3:=g h3 (i:=i3) (by lia)
  lia
 ·refine FD λz=>?_
  have g:∀{w i:Int},0<=w->(0<w->i<=0)->w*i<=0:=λ{w i} hw h=>by
   by_cases e:0<w
   ·exact Fw hw (h e)
   ·have:w=0:=by lia
    subst this;simp
  have a1:=g h1 (i:=i1) (by lia)
  have a2:=g h2 (i:=i2) (by lia)
  have a3:=g h3 (i:=i3) (by lia)
  lia
theorem EA{i j fa fb fv fw:Int}(hi:i<=0)(hj:1<=j)(ev:fv=(1-i) *fa+i*fb)(ew:fw=(1-j) *fa+j*fb)(hv:0<=fv)(hw:0<=fw):0<=fa/\0<=fb:=by
 have e1:(j-i) *fa=j*fv+(-i) *fw:=by rw[ev,ew];grind
 have e2:(j-i) *fb=(1-i) *fw+(j-1) *fv:=by rw[ev,ew];grind
 have n1:0<=j*fv+(-i) *fw:=J0 (E8 (by lia) hv) (E8 (by lia) hw)
 have n2:0<=(1-i) *fw+(j-1) *fv:=J0 (E8 (by lia) hw) (E8 (by lia) hv)
 have pos:∀{y:Int},0<=(j-i) *y->0<=y:=λ{y} h=>by
  rcases FQ y 0 with z |z
  ·have:=Ii (show 0<j-i by lia) z
   lia
  ·exact z
 exact⟨pos (by rw[e1];exact n1),pos (by rw[e2];exact n2)⟩
theorem D4{s s':Int}(hs:s=1\/s=-1)(QS:s'=1\/s'=-1){row:List P2}{a b P a' b' P' x:P2}{α β Qf Qa Qp k:Int}(ma:a∈row)(mb:b∈row)(hd:s*ac a b P=1)(T:TOk s' row (a',b',P'))(Qt:s'*ac a' b' P'=1)(W:Wt a b P α β 0 k x)(W':Wt a' b' P' Qf Qa Qp k x)
  (z1:0<Qf->ac a b a'=0) (z2:0<Qa->ac a b b'=0) (z3:0<Qp->ac a b P'=0):∀v n,PP a b P α β 0 v n↔PP a' b' P' Qf Qa Qp v n:=by
 obtain⟨p1,p2,p3,p4⟩:=b9 a' b' P';obtain⟨q1,q2,q3,q4⟩:=b9 b' P' a';obtain⟨r1,r2,r3,r4⟩:=b9 P' a' b';have fx:∀u v,dk k u v x=α*ac u v a+β*ac u v b:=λu v=>by rw[W.dk u v];simp
 have fx':=λu v=>W'.dk u v
 have x1:∀u v:P2,0<=s'*ac u v a'->0<=s'*ac u v b'->0<=s'*ac u v P'->(0<α->0<=s'*ac u v a)/\(0<β->0<=s'*ac u v b):=λu v g1 g2 g3=>by
  have e:=(fx u v).symm.trans (fx' u v)
  have e':α*(s'*ac u v a)+β*(s'*ac u v b)=Qf*(s'*ac u v a')+Qa*(s'*ac u v b')+Qp*(s'*ac u v P'):=by
   have:=congrArg (λz=>s'*z) e
   grind
  have n0:0<=α*(s'*ac u v a)+β*(s'*ac u v b):=by
   rw[e'];exact J0 (J0 (E8 W'.h1 g1) (E8 W'.h2 g2)) (E8 W'.h3 g3)
  have one:∀{m y:Int},0<m->0<=m*y->0<=y:=λ{m y} hm h=>by
   rcases FQ y 0 with z |z
   ·have:=Ii hm z;lia
   ·exact z
  by_cases hb:0<β
  ·by_cases ha:0<α
   ·-- Si:ends at either hand
    have l1:∀q,ac a b q=0->s'*ac u v q=(1-s*ac P a q) *(s'*ac u v a)+s*ac P a q*(s'*ac u v b):=λq hq=>by
     rw[BO hs hd hq u v];grind
    have hik:Qf*(s*ac P a a')+Qa*(s*ac P a b')+Qp*(s*ac P a P')=β:=by
     have e:=(fx P a).symm.trans (fx' P a);obtain⟨_,_,m3,m4⟩:=b9 a b P;rw[(b9 P a b).2.1,m4]at e;have:=congrArg (λz=>s*z) e
     have e2:s*(α*0+β*ac a b P)=β*(s*ac a b P):=by grind
     rw[e2,hd]at this;grind
    have kk:=W.hk;have kk':=W'.hk;have ends:=yr ha hb W'.h1 W'.h2 W'.h3 (by lia) hik
    have key:∀{w1 w2:Int}{c d:P2},(0<w1->ac a b c=0)->(0<w2->ac a b d=0)->0<=s'*ac u v c->0<=s'*ac u v d->0<w1->s*ac P a c<=0->0<w2->1<=s*ac P a d->0<=s'*ac u v a/\0<=s'*ac u v b:=λy1 y2 n1 n2 w1 i1 w2 i2=>EA i1 i2 (l1 _ (y1 w1)) (l1 _ (y2 w2)) n1 n2
    have Si:0<=s'*ac u v a/\0<=s'*ac u v b:=by
     rcases ends with ⟨⟨w1,i1⟩ |⟨w1,i1⟩ |⟨w1,i1⟩,⟨w2,i2⟩ |⟨w2,i2⟩ |⟨w2,i2⟩⟩
     ·exact key z1 z1 g1 g1 w1 i1 w2 i2
     ·exact key z1 z2 g1 g2 w1 i1 w2 i2
     ·exact key z1 z3 g1 g3 w1 i1 w2 i2
     ·exact key z2 z1 g2 g1 w1 i1 w2 i2
     ·exact key z2 z2 g2 g2 w1 i1 w2 i2
     ·exact key z2 z3 g2 g3 w1 i1 w2 i2
     ·exact key z3 z1 g3 g1 w1 i1 w2 i2
     ·exact key z3 z2 g3 g2 w1 i1 w2 i2
     ·exact key z3 z3 g3 g3 w1 i1 w2 i2
    exact⟨λ_=>Si.1,λ_=>Si.2⟩
   ·have a0:α=0:=by have:=W.h1;lia
    rw[a0,Hc,Mp]at n0;exact⟨λh=>absurd h ha,λh=>one h n0⟩
  ·have b0:β=0:=by have:=W.h2;lia
   rw[b0,Hc,KL]at n0;exact⟨λh=>one h n0,λh=>absurd h hb⟩
 have f1:=x1 a' b' (by rw[p1];simp) (by rw[p2];simp) (by lia)
 have f2:=x1 b' P' (by rw[p3];lia) (by rw[q1];simp) (by rw[q2];simp)
 have f3:=x1 P' a' (by rw[r2];simp) (by rw[p4];lia) (by rw[r1];simp)
 have va:0<α->a=a'\/a=b'\/a=P':=λh=>e9 QS T ma (f1.1 h) (f2.1 h) (f3.1 h)
 have vb:0<β->b=a'\/b=b'\/b=P':=λh=>e9 QS T mb (f1.2 h) (f2.2 h) (f3.2 h)
 have nd:ac a' b' P'≠0:=λz=>by rw[z]at Qt;simp at Qt
 have h1:=W.h1;have h2:=W.h2;have hk:=W.hk;have hx:=W.hx;have hy:=W.hy
 have P4:∀{u1 u2 u3:Int},Wt a' b' P' u1 u2 u3 k x->(∀v n,PP a b P α β 0 v n↔PP a' b' P' u1 u2 u3 v n)->∀v n,PP a b P α β 0 v n↔PP a' b' P' Qf Qa Qp v n:=λ{u1 u2 u3} V h=>by
  obtain⟨rfl,rfl,rfl⟩:=V.one W' nd;exact h
 have nab:0<α->0<β->a≠b:=λ_ _ z=>by
  subst z;have:ac a a P=0:=by unfold ac;grind
  rw[this]at hd;simp at hd
 have ppI:∀{c d e:P2}{m n o:Int}{q:P2}{j:Int},PP c d e m n o q j->0<j:=λh=>h.1
 by_cases ha:0<α
 ·by_cases hb:0<β
  ·have n0:=nab ha hb;rcases va ha with rfl |rfl |rfl <;>rcases vb hb with rfl |rfl |rfl
   ·exact absurd rfl n0
   ·exact P4 (u1:=α) (u2:=β) (u3:=0) ⟨h1,h2,by lia,by lia,by lia,by lia⟩ λv n=>by unfold PP;grind
   ·exact P4 (u1:=α) (u2:=0) (u3:=β) ⟨h1,by lia,h2,by lia,by lia,by lia⟩ λv n=>by unfold PP;grind
   ·exact P4 (u1:=β) (u2:=α) (u3:=0) ⟨h2,h1,by lia,by lia,by lia,by lia⟩ λv n=>by unfold PP;grind
   ·exact absurd rfl n0
   ·exact P4 (u1:=0) (u2:=α) (u3:=β) ⟨by lia,h1,h2,by lia,by lia,by lia⟩ λv n=>by unfold PP;grind
   ·exact P4 (u1:=β) (u2:=0) (u3:=α) ⟨h2,by lia,h1,by lia,by lia,by lia⟩ λv n=>by unfold PP;grind
   ·exact P4 (u1:=0) (u2:=β) (u3:=α) ⟨by lia,h2,h1,by lia,by lia,by lia⟩ λv n=>by unfold PP;grind
   ·exact absurd rfl n0
  ·have b0:β=0:=by lia
   subst b0;rcases va ha with rfl |rfl |rfl
   ·exact P4 (u1:=α) (u2:=0) (u3:=0) ⟨h1,by lia,by lia,by lia,by lia,by lia⟩ λv n=>by unfold PP;grind
   ·exact P4 (u1:=0) (u2:=α) (u3:=0) ⟨by lia,h1,by lia,by lia,by lia,by lia⟩ λv n=>by unfold PP;grind
   ·exact P4 (u1:=0) (u2:=0) (u3:=α) ⟨by lia,by lia,h1,by lia,by lia,by lia⟩ λv n=>by unfold PP;grind
 ·have a0:α=0:=by lia
  subst a0;by_cases hb:0<β
  ·rcases vb hb with rfl |rfl |rfl
   ·exact P4 (u1:=β) (u2:=0) (u3:=0) ⟨h2,by lia,by lia,by lia,by lia,by lia⟩ λv n=>by unfold PP;grind
   ·exact P4 (u1:=0) (u2:=β) (u3:=0) ⟨by lia,h2,by lia,by lia,by lia,by lia⟩ λv n=>by unfold PP;grind
   ·exact P4 (u1:=0) (u2:=0) (u3:=β) ⟨by lia,by lia,h2,by lia,by lia,by lia⟩ λv n=>by unfold PP;grind
  ·have b0:β=0:=by lia
   subst b0;exact P4 (u1:=0) (u2:=0) (u3:=0) ⟨by lia,by lia,by lia,by lia,by lia,by lia⟩ λv n=>by unfold PP;grind
theorem pB{s s':Int}(hs:s=1\/s=-1)(QS:s'=1\/s'=-1){row:List P2}{a b P a' b' P' x:P2}{α β γ Qf Qa Qp k:Int}(T:TOk s row (a,b,P))(hd:s*ac a b P=1)(T':TOk s' row (a',b',P'))(Qt:s'*ac a' b' P'=1)(W:Wt a b P α β γ k x)(W':Wt a' b' P' Qf Qa Qp k x)
  (hP:plt P' P):∀v n,PP a b P α β γ v n↔PP a' b' P' Qf Qa Qp v n:=by
 have lb:=aD T'.bP hP;have la:=aD T'.ab lb;have c1:=(T.cov a' T'.ma la).1;have c2:=(T.cov b' T'.mb lb).1;have c3:=(T.cov P' T'.mP hP).1;dsimp only at c1 c2 c3;have e:=(W.dk a b).symm.trans (W'.dk a b);rw[(b9 a b P).1,(b9 a b P).2.1]at e
 have e':γ*(s*ac a b P)=Qf*(s*ac a b a')+Qa*(s*ac a b b')+Qp*(s*ac a b P'):=by
  have:=congrArg (λz=>s*z) e
  grind
 rw[hd]at e';have n1:=Fw W'.h1 c1;have n2:=Fw W'.h2 c2;have n3:=Fw W'.h3 c3;have g0:γ=0:=by have:=W.h3;lia
 subst g0
 have zr:∀{m y:Int},m*(s*y)=0->0<m->y=0:=λ{m y} h hm=>by
  rcases Fi.mp h with z |z
  ·lia
  ·rcases Fi.mp z with z |z
   ·lia
   ·exact z
 exact D4 hs QS T.ma T.mb hd T' Qt W W' (zr (by omega)) (zr (by omega)) (zr (by omega))
theorem vW{s s':Int}(hs:s=1\/s=-1)(QS:s'=1\/s'=-1){row:List P2}{a b P a' b' x:P2}{α β γ Qf Qa Qp k:Int}(T:TOk s row (a,b,P))(hd:s*ac a b P=1)(T':TOk s' row (a',b',P))(Qt:s'*ac a' b' P=1)(W:Wt a b P α β γ k x)(W':Wt a' b' P Qf Qa Qp k x):
  ∀v n,PP a b P α β γ v n↔PP a' b' P Qf Qa Qp v n:=by
 have le:∀{s s':Int}{a b a' b':P2}{α β γ Qf Qa Qp:Int},TOk s row (a,b,P)->s*ac a b P=1->TOk s' row (a',b',P)->Wt a b P α β γ k x->Wt a' b' P Qf Qa Qp k x->γ=Qf*(s*ac a b a')+Qa*(s*ac a b b')+Qp/\Qf*(s*ac a b a')<=0/\Qa*(s*ac a b b')<=0:=λ{s s' a b a' b' α β γ Qf Qa Qp} T hd T' W W'=>by
  have c1:=(T.cov a' T'.ma (aD T'.ab T'.bP)).1;have c2:=(T.cov b' T'.mb T'.bP).1;dsimp only at c1 c2;have e:=(W.dk a b).symm.trans (W'.dk a b);rw[(b9 a b P).1,(b9 a b P).2.1]at e
  have e':γ*(s*ac a b P)=Qf*(s*ac a b a')+Qa*(s*ac a b b')+Qp*(s*ac a b P):=by
   have:=congrArg (λz=>s*z) e
   grind
  rw[hd]at e';exact⟨by lia,Fw W'.h1 c1,Fw W'.h2 c2⟩
 obtain⟨e1,n1,n2⟩:=le T hd T' W W';obtain⟨e2,m1,m2⟩:=le T' Qt T W' W;have eg:Qp=γ:=by lia
 subst eg
 have zr:∀{m y:Int},m*(s*y)=0->0<m->y=0:=λ{m y} h hm=>by
  rcases Fi.mp h with z |z
  ·lia
  ·rcases Fi.mp z with z |z
   ·lia
   ·exact z
 have V:Wt a b P α β 0 (k-Qp) (x.1-Qp*P.1,x.2-Qp*P.2):=⟨W.h1,W.h2,by lia,by have:=W.hk;lia,by have:=W.hx;dsimp only;lia,by have:=W.hy;dsimp only;lia⟩
 have V':Wt a' b' P Qf Qa 0 (k-Qp) (x.1-Qp*P.1,x.2-Qp*P.2):=⟨W'.h1,W'.h2,by lia,by have:=W'.hk;lia,by have:=W'.hx;dsimp only;lia,by have:=W'.hy;dsimp only;lia⟩
 have E:=D4 hs QS T.ma T.mb hd T' Qt V V' (zr (m:=Qf) (y:=ac a b a') (by omega)) (zr (m:=Qa) (y:=ac a b b') (by omega)) (λh=>absurd h (by omega))
 intro v n;have Ev:=E v n;unfold PP at Ev |-;grind
theorem p9{s s':Int}(hs:s=1\/s=-1)(QS:s'=1\/s'=-1){row:List P2}{a b P a' b' P' x:P2}{α β γ Qf Qa Qp k:Int}(T:TOk s row (a,b,P))(hd:s*ac a b P=1)(T':TOk s' row (a',b',P'))(Qt:s'*ac a' b' P'=1)(W:Wt a b P α β γ k x)(W':Wt a' b' P' Qf Qa Qp k x):
  ∀v n,PP a b P α β γ v n↔PP a' b' P' Qf Qa Qp v n:=by
 rcases cE P' P with h |h |h
 ·exact pB hs QS T hd T' Qt W W' h
 ·subst h;exact vW hs QS T hd T' Qt W W'
 ·exact λv n=>(pB QS hs T' Qt T hd W' W h v n).symm
theorem iK{n:Nat}{x a b:Int}(ha:Sz n a)(hb:Sz n b)(h1:a<=x)(h2:x<=b):Sz n x:=by
 rcases FQ x 0 with z |z
 ·exact ha.natle (by lia)
 ·exact hb.natle (by lia)
theorem nP{l:List P2}(PN:l≠[])(h:∀p∈l,Szp 150 p):loX l<=hiX l/\loY l<=hiY l/\Sz 150 (loX l)/\Sz 150 (hiX l)/\Sz 150 (loY l)/\Sz 150 (hiY l):=by
 have hx:l.map (·.1)≠[]:=by simpa using PN
 have hy:l.map (·.2)≠[]:=by simpa using PN
 obtain⟨q1,m1,e1⟩:=EV.mp (bR hx).1;obtain⟨q2,m2,e2⟩:=EV.mp (cI hx).1;obtain⟨q3,m3,e3⟩:=EV.mp (bR hy).1;obtain⟨q4,m4,e4⟩:=EV.mp (cI hy).1;have l1:=(bR hx).2 _ (cI hx).1;have l2:=(bR hy).2 _ (cI hy).1;refine⟨l1,l2,?_,?_,?_,?_⟩
 ·unfold loX;rw[<-e1];exact (h q1 m1).1
 ·unfold hiX;rw[<-e2];exact (h q2 m2).1
 ·unfold loY;rw[<-e3];exact (h q3 m3).2
 ·unfold hiY;rw[<-e4];exact (h q4 m4).2
theorem vD{Z P B q:P2}(hD:0<ac Z P B)(h1:ac Z P q=0)(h2:ac P B q=0):q=P:=by
 have f1:ac Z P B*(q.1-P.1)=0:=by
  have:ac Z P B*(q.1-P.1)=(B.1-P.1) *ac Z P q-(P.1-Z.1) *ac P B q:=by unfold ac;grind
  rw[this,h1,h2];simp
 have f2:ac Z P B*(q.2-P.2)=0:=by
  have:ac Z P B*(q.2-P.2)=(B.2-P.2) *ac Z P q-(P.2-Z.2) *ac P B q:=by unfold ac;grind
  rw[this,h1,h2];simp
 have g1:=(Fi.mp f1).resolve_left (by lia)
 have g2:=(Fi.mp f2).resolve_left (by lia)
 exact GC (by lia) (by lia)
theorem CD{l:List P2}(h3:3<=(ao l).length){p q:P2}{a b:Int}(hp:p∈ao l)(hw:∀r∈ao l,r≠p->wth a b r<wth a b p)(hq:∀s∈sdl (ao l),0<=ac s.1 s.2 q)(ne:q≠p):wth a b q<wth a b p:=by
 obtain⟨Z,P,B,hZ,hB,pos,e,k1,k2⟩:=mO h3 a b;have mZ:=bX hZ;have mB:=bX hB;dsimp only at mZ mB
 have hP:P=p:=FD λz=>by
  have w1:=hw P mZ.2 z;obtain⟨_,kk⟩:=mR a b (l:=ao l) (λz=>by rw[z]at h3;simp at h3)
  have:=kk p hp;lia
 subst hP
 have nZ:Z≠P:=fun z=>by subst z;have:ac Z Z B=0:=by unfold ac;grind
                        lia
 have nB:B≠P:=fun z=>by subst z;have:ac Z B B=0:=by unfold ac;grind
                        lia
 have wZ:=hw Z mZ.1 nZ;have wB:=hw B mB.2 nB;have i1:=hq _ hB;have i2:=hq _ hZ;dsimp only at i1 i2;have id:ac Z P B*(wth a b P-wth a b q)=ac P B q*(wth a b P-wth a b Z)+ac Z P q*(wth a b P-wth a b B):=by unfold ac wth;grind
 rcases FQ (wth a b q) (wth a b P) with z |z
 ·exact z
 ·exfalso
  have t1:0<=ac P B q*(wth a b P-wth a b Z):=E8 i1 (by lia)
  have t2:0<=ac Z P q*(wth a b P-wth a b B):=E8 i2 (by lia)
  have t3:ac Z P B*(wth a b P-wth a b q)<=0:=by
   have:=E8 (show 0<=ac Z P B by lia) (show 0<=wth a b q-wth a b P by lia)
   have e2:ac Z P B*(wth a b q-wth a b P)=-(ac Z P B*(wth a b P-wth a b q)):=by grind
   lia
  have z1:ac P B q*(wth a b P-wth a b Z)=0:=by omega
  have z2:ac Z P q*(wth a b P-wth a b B)=0:=by omega
  have d1:=(Fi.mp z1).resolve_right (by lia)
  have d2:=(Fi.mp z2).resolve_right (by lia)
  exact ne (vD pos d2 d1)
theorem lG{A B:List P2}(h:∀p,p∈A↔p∈B):ao A=ao B:=by
 have:ST.srt A=ST.srt B:=ST.asc_one (ST.srt_asc _) (ST.srt_asc _) λz=>by rw[ST.srt_mem,ST.srt_mem,h]
 unfold ao;rw[this]
theorem vF{l:List P2}(F:Fld l)(h3:3<=l.length):ao (aH l)=l:=by
 have hc:=F.cr;have QN:3<=(ao l).length:=by rw[hc];exact h3
 have inl:∀q,q∈aH l↔∀s∈sdl (ao l),0<=ac s.1 s.2 q:=λq=>by rw[bp F,f_ h3,hc]
 have sub:∀p∈l,p∈aH l:=λp hp=>(inl p).mpr λs hs=>((fV QN).mp hs).2.2.2 p (by rw[hc];exact hp)
 have up:∀p∈l,p∈ao (aH l):=λp hp=>by
  obtain⟨_,a,b,hw⟩:=cM QN (p:=p) (by rw[hc];exact hp)
  refine eG ⟨sub p hp,a,b,λq hq ne=>?_⟩
  exact CD QN (by rw[hc];exact hp) (λr hr=>hw r (bH _ r hr)) ((inl q).mp hq) ne
 have c3:3<=(ao (aH l)).length:=by
  have nd:l.Nodup:=by rw[<-hc];exact b7 l
  exact GJ h3 (L2.nd_len nd up)
 have dn:∀p∈ao (aH l),p∈l:=λp hp=>FD λz=>by
  obtain⟨hm,a,b,hw⟩:=cM c3 hp;have pk:=DY QN a b ((inl p).mp hm);obtain⟨⟨q,hq,e⟩,_⟩:=mR a b (l:=ao l) (λz=>by rw[z]at QN;simp at QN)
  rw[hc]at hq;have:=hw q (sub q hq) λe=>z (e ▸ hq)
  lia
 rw[<-gB (aH l),lG λp=>⟨dn p,up p⟩,hc]
theorem lO{l:List P2}(F:Fld l)(h3:3<=l.length):∀a b c p:P2,a∈aH l->b∈aH l->c∈aH l->0<ac a b c->0<=ac a b p->0<=ac b c p->0<=ac c a p->p∈aH l:=λa b c p ha hb hc hd h1 h2 h4=>by
 have inl:∀q,q∈aH l↔∀s∈sdl l,0<=ac s.1 s.2 q:=λq=>by rw[bp F,f_ h3]
 rw[inl]at *;intro s hs;have a1:=ha s hs;have b1:=hb s hs;have c1:=hc s hs;have id:ac a b c*ac s.1 s.2 p=ac s.1 s.2 a*ac b c p+ac s.1 s.2 b*ac c a p+ac s.1 s.2 c*ac a b p:=by unfold ac;grind
 have t1:=E8 a1 h2;have t2:=E8 b1 h4;have t3:=E8 c1 h1;rcases FQ (ac s.1 s.2 p) 0 with z |z
 ·exfalso
  have:=FK hd (show 0 < -ac s.1 s.2 p by lia)
  have e:ac a b c* -ac s.1 s.2 p=-(ac a b c*ac s.1 s.2 p):=by grind
  lia
 ·exact z
theorem bG(l:List P2):(aH l).Pairwise plt:=(ST.srt_asc _).imp λ{a b} h=>(dW a b).mpr h
def jI(l:List P2):List Tri:=(bv 1 (aH l)).2++(bv (-1) (aH l)).2
def pcs(l:List P2):List ST3.TR:=(jI l).map bD
theorem Ce(l:List P2):(pcs l).Nodup:=by
 have hp:=bG l;have nd:(aH l).Nodup:=hp.imp λ{a b} h e=>by subst e;exact aB a h
 unfold pcs;refine FO.mpr ((Ar hp nd).imp_of_mem λ{x y} hx hy ne e=>ne ?_)
 have key:∀t,t∈jI l->plt t.1 t.2.1/\plt t.2.1 t.2.2:=λt ht=>by
  rcases FA.mp ht with h |h
  ·have:=eA (.inl rfl) _ hp t h;exact⟨this.ab,this.bP⟩
  ·have:=eA (.inr rfl) _ hp t h;exact⟨this.ab,this.bP⟩
 obtain⟨x1,x2⟩:=key x hx;obtain⟨y1,y2⟩:=key y hy;obtain⟨a,b,c⟩:=x;obtain⟨a',b',c'⟩:=y;unfold bD at e;dsimp only at *;split at e <;>split at e <;>simp only[JC]at e
 ·obtain⟨rfl,rfl,rfl⟩:=e;rfl
 ·obtain⟨rfl,rfl,rfl⟩:=e;exact absurd (aD x2 y2) (aB _)
 ·obtain⟨rfl,rfl,rfl⟩:=e;exact absurd (aD x2 y2) (aB _)
 ·obtain⟨rfl,rfl,rfl⟩:=e;rfl
theorem zh(l:List P2):(jI l).length<=2*(aH l).length:=by
 unfold jI;have h1:=nL 1 (aH l);have h2:=nL (-1) (aH l);rw[FM];lia
def dy:List P2->List (List P2)
 |a::b::r=>[a,b]::dy (b::r)
 |_=>[]
def cV(l:List P2):List (List P2):=if l.length=1 then [[gp l 0]] else if l.length=2 then dy (aH l) else (SG.srt ST3.KT (pcs l)).map λt=>[t.1,t.2.1,t.2.2]
abbrev plU(q:List P2):U:=.tup (q.map pu)
theorem lw:∀r:List P2,KH (λa b=>U.tup [a,b]) (r.map pu) ((r.map pu).drop 1)=(dy r).map plU
 |[]=>rfl
 |[_]=>rfl
 |a::b::r=>by
  have ih:=lw (b::r);simp only[Ff,MQ,Os,List.zipWith_cons_cons,dy]at ih |-;rw[ih];rfl
theorem og{A:P2}(F:Fld [A]):aH [A]=[A]:=by
 rw[<-mX (R:=[A]) F λp=>by rw[iO];simp]
 exact bU (pts:=[A]) (by have:=ST.srt_len [A];simp at this;lia) ▸ F.cr
structure hW(l:List P2):Prop where
 F:Fld l
 l64:l.length<64
 sz:∀p∈l,Szp 150 p
 cnt:p8 l<=100
 np:(aH l).length<=60
 few:3<=l.length->(pcs l).length<64
def yy:List U->Out->Prop:=λus o=>∃l:List P2,us=[lp l]/\hW l/\o=.new ((cV l).map plU)
theorem lW(T:Txt w K mg):a9 P w K mg base (CXF P w) 9 T.aaF.a T.aaF.d ["land"] (spU K (yy)):=by
 refine aW T.aaF.F lX (λus o h=>?_) (λPV A outer s H E O us o hr h=>?_)
 ·obtain⟨l,rfl,⟨F,hl,sz,hc,fl,few⟩,rfl⟩:=h;rfl
 obtain⟨l,rfl,⟨F,hl,sz,hc,fl,few⟩,rfl⟩:=h;refine Ws.nox ?_;have hm:((l.map pu).length:Int)=(l.length:Int):=by rw[EM]
 have l0:0<l.length:=FJ.mpr F.ne;refine af (aV (i:=1) lX.nd rfl (Or.inl rfl) (EvN.ev (ba ((uZ T).mono (by decide)) hr rfl T.aaT.m T.aaT.F.kp T.aaT.b au (ae (aa 0 rfl) ak ag) ⟨l,rfl,F,hl,sz,⟨hc,fl⟩,rfl⟩)) ?_)
 by_cases h1:l.length=1
 ·obtain⟨A,rfl⟩:=ID.mp h1;rw[og F];refine af (c7 (aF bO (ar (bJ rfl) rfl T.aae Fp (ae (aa 0 rfl) ak ag)) ai) rfl ?_);refine af (cw (cT (aq (bw (aq (ay (aa 1 rfl) ai rfl rfl) bj aR)) bj fG)) ?_);exact rfl
 refine af (br (aF bO (ar (bJ rfl) rfl T.aae Fp (ae (aa 0 rfl) ak ag)) ai) (by rw[hm];exact decide_eq_false (by lia)) (aG ?_))
 by_cases h2:l.length=2
 ·refine af (c7 (aF bO (ar (bJ rfl) rfl T.aae Fp (ae (aa 0 rfl) ak ag)) ai) (by rw[hm];exact decide_eq_true (by lia)) ?_)
  refine af (cw (kQ rfl rfl T.aaK rfl T.aa5 (aa 1 rfl) (.inl rfl) (EvN.ev (cP (aa 1 rfl) (dZ ai) dR (.inl rfl))) (.inl rfl) (by rw[iV,NA];lia) (by rw[EM];lia) ag aR) ?_)
  rw[iV,lw];unfold cV;rw[if_neg h1,if_pos h2]
 refine af (br (aF bO (ar (bJ rfl) rfl T.aae Fp (ae (aa 0 rfl) ak ag)) ai) (by rw[hm];exact decide_eq_false (by lia)) (aG ?_))
 have rl:=zh l
 have fz:∀p∈aH l,Szp 2500 p:=λp hp=>by
  have q:=(de F.ne).mp (F.in_box ((bp F p).mp hp));obtain⟨_,_,w1,w2,w3,w4⟩:=nP F.ne sz;exact⟨(iK w1 w2 q.1.1 q.1.2).mono (by decide),(iK w3 w4 q.2.1 q.2.2).mono (by decide)⟩
 have hpc:U.lst (((bv 1 (aH l)).2.map λt=>trU (bD t))++((bv (-1) (aH l)).2.map λt=>trU (bD t)))=U.lst ((pcs l).map trU):=by
  unfold pcs jI;rw[FI,F1];rfl
 refine af (cw (ju ST3.KT trU t0 (trs:=pcs l) Eu rfl T.aaL (fZ hr) (jk hpc (EvN.ev (lJ (EvN.ev (ba ((kw T).mono (by decide)) hr rfl T.aax.m T.aax.F.kp T.aax.b au (ae (aa 1 rfl) (ae ai ak bq) ag) ⟨aH l,1,rfl,.inl rfl,bG l,fz,by lia,rfl⟩)) (EvN.ev (ba ((kw T).mono (by decide)) hr rfl T.aax.m T.aax.F.kp T.aax.b au (ae (aa 1 rfl) (ae (bN ai) ak kc) ag) ⟨aH l,-1,rfl,.inr rfl,bG l,fz,by lia,rfl⟩)) (by rw[EM,EM];exact FT (aE (by unfold jI at rl;rw[FM]at rl;lia)))))) ⟨few (by lia),Ce l⟩ bK) ?_)
 unfold cV;rw[if_neg h1,if_neg h2,FI];exact rfl
def mN:List U->Out->Prop:=λus o=>∃P Q R:P2,us=[pu P,pu Q,pu R]/\Szp 5000 P/\Szp 5000 Q/\Szp 5000 R/\o=.val (.bl (btw P Q R))
theorem vY(n:Int):decide (sgn n=0)=decide (n=0):=decide_eq_decide.mpr (by unfold sgn;split <;>(try split) <;>lia)
theorem jb(T:Txt w K mg):a9 P w K mg base (CXF P w) 3 T.aam.a T.aam.d ["P","Q","R"] (spU K (mN)):=by
 refine aW T.aam.F jh (λus o h=>?_) (λPV A outer s H E O us o hr h=>?_)
 ·obtain⟨P,Q,R,rfl,p,q,r,rfl⟩:=h;rfl
 obtain⟨P,Q,R,rfl,p,q,r,rfl⟩:=h;refine Ws.nox ?_;refine af (bg (lP (kJ bO (aw ((jA T).mono (by decide)) hr rfl T.aaJ.m T.aaJ.F.kp T.aaJ.b au (ae (aa 0 rfl) (ae (aa 1 rfl) (ae (aa 2 rfl) ak ag) ag) ag) ⟨P,Q,R,rfl,p,q,r,rfl⟩) ai) (λhz=>(oP (zV (tj (fZ hr)) (tj (fZ hr)) (aa 0 rfl) (aa 2 rfl) (aa 1 rfl))))) ?_)
 show Out.val (.bl (decide (sgn (ac P Q R)=0) && (ST.leP P R && ST.leP R Q)))=_;rw[vY];rfl
def q_:List U->Out->Prop:=λus o=>∃(l:List P2) (p:P2),us=[lp l,pu p]/\0<l.length/\l.length<=900/\(∀q∈l,Szp 5000 q)/\Szp 5000 p/\o=.val (.int (whr l p))
theorem o3(T:Txt w K mg):a9 P w K mg base (CXF P w) 4 T.aaQ.a T.aaQ.d ["land","P"] (spU K (q_)):=by
 refine aW T.aaQ.F kR (λus o h=>?_) (λPV A outer s H E O us o hr h=>?_)
 ·obtain⟨l,p,rfl,h0,hl,sz,sp,rfl⟩:=h;rfl
 obtain⟨l,p,rfl,h0,hl,sz,sp,rfl⟩:=h;refine Ws.nox ?_;have hm:((l.map pu).length:Int)=(l.length:Int):=by rw[EM]
 have z0:=sz _ (cG h0);have z1:=sz _ (cG (l:=l) (i:=l.length-1) (by lia))
 by_cases h3:l.length<3
 ·refine af (c7 (aF gj (ar (bJ rfl) rfl T.aae Fp (ae (aa 0 rfl) ak ag)) ai) (by rw[hm];exact decide_eq_true (by lia)) ?_)
  refine af (bg (DJ (dD (aw ((jb T).mono (by decide)) hr rfl T.aam.m T.aam.F.kp T.aam.b au (ae (ay (aa 0 rfl) ai rfl (Dp h0)) (ae (ay (aa 0 rfl) (bN ai) rfl (t8 h0)) (ae (aa 1 rfl) ak ag) aR) aR) ⟨_,_,_,rfl,z0,z1,sp,rfl⟩)) ai (bN ai)) ?_)
  unfold whr;rw[if_pos h3];by_cases hb:btw (gp l 0) (gp l (l.length-1)) p=true
  ·rw[if_pos hb,if_pos hb]
  ·rw[if_neg hb,if_neg hb]
 ·refine af (br (aF gj (ar (bJ rfl) rfl T.aae Fp (ae (aa 0 rfl) ak ag)) ai) (by rw[hm];exact decide_eq_false (by lia)) (aG ?_))
  refine af (bg (ar (yu rfl (AH (l:=nA l p) (by intro e;have:=congrArg NP e;simp[nA,gu]at this;rw[this]at h0;simp at h0))) rfl T.aa6 NN (ae (EvN.ev (fK (ys:=((nA l p).map sgn |>.map U.int)) rfl (blk (aj mU) ["land","P","A","B"] [2,3] rfl rfl rfl rfl (by decide+kernel)) (c9 (EvN.ev (ba ((gd T).mono (by decide)) hr rfl T.aap.m T.aap.F.kp T.aap.b au (ae (aa 0 rfl) ak ag) ⟨l,rfl,hl,rfl⟩)) (.inl rfl)) (λ_ _ _ _=>gf rfl (bC (bi (i:=2) kR.nd rfl (Or.inl rfl)) (bC (bi (i:=3) kR.nd rfl (Or.inl rfl)) ef))) (fj (js:=[2,3]) (by decide)) ?clen ?csz ?dom ?celt)) ak cU)) ?_)
  case clen=>simp[nA]
  case csz=>simp only[nA,gu,EM];exact FT (aE (by lia))
  case dom=>
   intro x hx;obtain⟨s,_,rfl⟩:=EV.mp hx;exact⟨_,rfl,rfl⟩
  case celt=>
   intro C s' H' fp j x y hx hy;rw[nA,FI,FI]at hy;obtain⟨s,hs,ms,rfl,rfl⟩:=eF hx hy;obtain⟨m1,m2⟩:=bX ms;exact (aw ((jA T).mono (by decide)) hr rfl T.aaJ.m T.aaJ.F.kp T.aaJ.b au (ae (aa 2 rfl) (ae (aa 3 rfl) (ae (aa 1 rfl) ak ag) ag) ag) ⟨s.1,s.2,p,rfl,sz _ m1,sz _ m2,sp,rfl⟩)
  unfold whr;rw[if_neg h3]
inductive Wd:List P2->List P2->Prop
 |one (a:P2) (s t:Int):c6 ((a.1+1)-a.1) (a.2-a.2) 1 s t->Wd [a] [a,(a.1+1,a.2),(a.1-t,a.2+s)]
 |two (a b:P2) (s t:Int):c6 (b.1-a.1) (b.2-a.2) 1 s t->Wd [a,b] [a,b,(a.1-t,a.2+s)]
 |three (a b c:P2):Wd [a,b,c] [a,b,c]
structure Lv1(a b:P2)(s t:Int):Prop where
 two:yn a.1 a.2 b.1 b.2
 G:c6 (b.1-a.1) (b.2-a.2) 1 s t
 G1:c6 ((b.1-a.1)/1) ((b.2-a.2)/1) 1 s t
 M:Mv s t (-((b.2-a.2)/1)) ((b.1-a.1)/1) (-s*a.1-t*a.2) ((b.2-a.2)/1*a.1-(b.1-a.1)/1*a.2)
 B:Mv ((b.1-a.1)/1) (-t) ((b.2-a.2)/1) s a.1 a.2
 e:yV s t (-((b.2-a.2)/1)) ((b.1-a.1)/1) (-s*a.1-t*a.2) ((b.2-a.2)/1*a.1-(b.1-a.1)/1*a.2)=mv ((b.1-a.1)/1) (-t) ((b.2-a.2)/1) s a.1 a.2
theorem lv1{a b:P2}{s t:Int}(za:Szp 2501 a)(zb:Szp 2501 b)(G:c6 (b.1-a.1) (b.2-a.2) 1 s t):Lv1 a b s t:=by
 have zx:Sz 2502 ((b.1-a.1)/1):=by rw[Mq];exact (L2.Sz.sub' zb.1 za.1).mono (by decide)
 have zy:Sz 2502 ((b.2-a.2)/1):=by rw[Mq];exact (L2.Sz.sub' zb.2 za.2).mono (by decide)
 have G1:c6 ((b.1-a.1)/1) ((b.2-a.2)/1) 1 s t:=by rw[Mq,Mq];exact G
 obtain⟨_,ss,st⟩:=iE G1 zx zy;have eq:=G1.eq;have ns:Sz _ (-s):=ss.natle (by lia)
 have nt:Sz _ (-t):=st.natle (by lia)
 have ny:Sz 2502 (-((b.2-a.2)/1)):=zy.natle (by lia)
 refine⟨⟨za.1.mono (by decide),za.2.mono (by decide),zb.1.mono (by decide),zb.2.mono (by decide)⟩,G,G1,⟨.inl (by grind),ss.mono (by decide),st.mono (by decide),ny.mono (by decide),zx.mono (by decide),(L2.Sz.sub' (L2.Sz.mul ns za.1) (L2.Sz.mul st za.2)).mono (by decide),(L2.Sz.sub' (L2.Sz.mul zy za.1) (L2.Sz.mul zx za.2)).mono (by decide)⟩,⟨.inl (by grind),zx.mono (by decide),nt.mono (by decide),zy.mono (by decide),ss.mono (by decide),za.1.mono (by decide),za.2.mono (by decide)⟩,s_ eq⟩
theorem oo{a b:P2}(s t:Int):pt ((b.1-a.1)/1*0+-t*1+a.1) ((b.2-a.2)/1*0+s*1+a.2)=pu (a.1-t,a.2+s):=by
 have e1:(b.1-a.1)/1*0+-t*1+a.1=a.1-t:=by rw[Hd];lia
 have e2:(b.2-a.2)/1*0+s*1+a.2=a.2+s:=by rw[Hd];lia
 rw[e1,e2]
def Ab:List U->Out->Prop:=λus o=>∃q c:List P2,us=[plU q]/\Wd q c/\(∀p∈q,Szp 2500 p)/\o=.new (c.map pu)
theorem qq(T:Txt w K mg):a9 P w K mg base (CXF P w) 5 T.aaO.a T.aaO.d ["piece"] (spU K (Ab)):=by
 refine aW T.aaO.F fB (λus o h=>?_) (λPV A outer s H E O us o hr h=>?_)
 ·obtain⟨q,c,rfl,W,sz,rfl⟩:=h;rfl
 obtain⟨q,c,rfl,W,sz,rfl⟩:=h;refine Ws.nox ?_;have o30:Sz 30000 (1:Int):=Sz.mono (m:=8) (by decide) (by decide)
 have z30:Sz 30000 (0:Int):=Sz.mono (m:=8) (by decide) (by decide)
 cases W with
 |one a s t G=>
  have za:=sz a (by simp)
  have zb:Szp 2501 (a.1+1,a.2):=⟨(L2.Sz.add' za.1 (Sz.mono (m:=8) (n:=2500) (by decide) (by decide))).mono (by decide),za.2.mono (by decide)⟩
  have L:=lv1 (a:=a) (b:=(a.1+1,a.2)) (za.mono (by decide)) zb G
  refine af (dS (i:=1) fB.nd rfl (Or.inl rfl) (df (eJ rfl) rfl T.aaK Ip (ae (aa 0 rfl) ak ag)) ?_);refine af (c7 (aF bO (b8 1 rfl rfl T.aae) ai) rfl ?_);refine af (cB 1 rfl (bw (aq (cO (ay (dU 1 rfl ai rfl) ai rfl rfl) ai) (aq (ay (dU 1 rfl ai rfl) ai rfl rfl) bj aR) bK)) (aE (by simp)) (aG ?_))
  refine af (c7 (aF bO (b8 1 rfl rfl T.aae) ai) rfl ?_);refine af (cB 1 rfl (aw ((h9 T).mono (by decide)) hr rfl T.aat.m T.aat.F.kp T.aat.b au (ae (bw (aq ai (aq ai bj bq) bq)) (ae (aw ((fW T).mono (by decide)) hr rfl T.aaf.m T.aaf.F.kp T.aaf.b au (ae (aw ((jY T).mono (by decide)) hr rfl T.aaB.m T.aaB.F.kp T.aaB.b au (ae (dU 1 rfl ai rfl) (ae (dU 1 rfl ai rfl) ak aR) aR) ⟨a.1,a.2,a.1+1,a.2,1,s,t,s,t,rfl,L.two,L.G,by decide,L.G1,rfl⟩) ak aN) ⟨_,_,_,_,_,_,rfl,L.M,rfl⟩) ak aN) fG) ⟨0,1,_,_,_,_,_,_,by rw[L.e],L.B,z30,o30,rfl⟩) (aE (by simp)) (aG ?_))
  refine af (fi 1 rfl ?_);rw[oo];exact rfl
 |two a b s t G=>
  have za:=sz a (by simp)
  have zb:=sz b (by simp)
  have L:=lv1 (a:=a) (b:=b) (za.mono (by decide)) (zb.mono (by decide)) G
  refine af (dS (i:=1) fB.nd rfl (Or.inl rfl) (df (eJ rfl) rfl T.aaK Ip (ae (aa 0 rfl) ak ag)) ?_);refine af (br (aF bO (b8 1 rfl rfl T.aae) ai) rfl (aG ?_));refine af (c7 (aF bO (b8 1 rfl rfl T.aae) ai) rfl ?_);refine af (cB 1 rfl (aw ((h9 T).mono (by decide)) hr rfl T.aat.m T.aat.F.kp T.aat.b au (ae (bw (aq ai (aq ai bj bq) bq)) (ae (aw ((fW T).mono (by decide)) hr rfl T.aaf.m T.aaf.F.kp T.aaf.b au (ae (aw ((jY T).mono (by decide)) hr rfl T.aaB.m T.aaB.F.kp T.aaB.b au (ae (dU 1 rfl ai rfl) (ae (dU 1 rfl ai rfl) ak aR) aR) ⟨a.1,a.2,b.1,b.2,1,s,t,s,t,rfl,L.two,L.G,by decide,L.G1,rfl⟩) ak aN) ⟨_,_,_,_,_,_,rfl,L.M,rfl⟩) ak aN) fG) ⟨0,1,_,_,_,_,_,_,by rw[L.e],L.B,z30,o30,rfl⟩) (aE (by simp)) (aG ?_))
  refine af (fi 1 rfl ?_);rw[oo];exact rfl
 |three a b c=>
  refine af (dS (i:=1) fB.nd rfl (Or.inl rfl) (df (eJ rfl) rfl T.aaK Ip (ae (aa 0 rfl) ak ag)) ?_);refine af (br (aF bO (b8 1 rfl rfl T.aae) ai) rfl (aG ?_));refine af (br (aF bO (b8 1 rfl rfl T.aae) ai) rfl (aG ?_));refine af (fi 1 rfl ?_);exact rfl
def qE:List U->Out->Prop:=λus o=>∃(k:Int) (x Q R:P2),us=[.int k,pu x,pu Q,pu R]/\Sz 1000 k/\Szp 5000 x/\Szp 5000 Q/\Szp 5000 R/\o=.val (.int (dk k Q R x))
theorem jC(T:Txt w K mg):a9 P w K mg base (CXF P w) 1 T.aaD.a T.aaD.d ["k","P","Q","R"] (spU K (qE)):=by
 refine aW T.aaD.F wu (λus o h=>?_) (λPV A outer s H E O us o hr h=>?_)
 ·obtain⟨k,x,Q,R,rfl,sk,⟨x1,x2⟩,⟨q1,q2⟩,⟨r1,r2⟩,rfl⟩:=h;rfl
 obtain⟨k,x,Q,R,rfl,sk,⟨x1,x2⟩,⟨q1,q2⟩,⟨r1,r2⟩,rfl⟩:=h;refine Ws.nox ?_;refine af (bg (bA (cO (be (aa 0 rfl) (bA (be (ay (aa 2 rfl) ai rfl rfl) (ay (aa 3 rfl) ai rfl rfl) (by walk_at"mul")) (be (ay (aa 2 rfl) ai rfl rfl) (ay (aa 3 rfl) ai rfl rfl) (by walk_at"mul"))) (by walk_at"mul")) (be (ay (aa 1 rfl) ai rfl rfl) (bA (ay (aa 2 rfl) ai rfl rfl) (ay (aa 3 rfl) ai rfl rfl)) (by walk_at"mul"))) (be (ay (aa 1 rfl) ai rfl rfl) (bA (ay (aa 2 rfl) ai rfl rfl) (ay (aa 3 rfl) ai rfl rfl)) (by walk_at"mul"))) ?_)
 exact rfl
def wts:List P2->Int->P2->List (P2×Int)
 |[a,b,c],k,x=>[(a,dk k b c x),(b,dk k c a x),(c,dk k a b x)]
 |_,_,_=>[]
def eM(c:List P2)(k:Int)(x:P2):List ST3.PQ:=SG.srt ST3.KQ ((wts c k x).filter λz=>decide (0<z.2))
def yP:List U->Out->Prop:=λus o=>∃(q c:List P2) (k:Int) (x:P2),us=[plU q,.int k,pu x]/\Wd q c/\(∀p∈q,Szp 2500 p)/\(∀p∈c,Szp 5000 p)/\c.Nodup/\Sz 1000 k/\Szp 5000 x/\o=.new ((eM c k x).map qU)
theorem wS{q c:List P2}(W:Wd q c):∃a b d:P2,c=[a,b,d]:=by cases W <;>exact⟨_,_,_,rfl⟩
def k_(l:List (P2×Int)):List (Option U):=l.map λz=>if 0<z.2 then some (qU z) else none
theorem tI(l:List (P2×Int)):(k_ l).filterMap id=(l.filter λz=>decide (0<z.2)).map qU:=by
 induction l with
 |nil=>rfl
 |cons p l ih=>
  unfold k_ at *;rw[Ff,LG];by_cases h:0<p.2
  ·rw[if_pos h,if_pos (by simpa using h),Ff,<-ih];rfl
  ·rw[if_neg h,if_neg (by simpa using h)];exact ih
theorem Ew(b d a:P2):(sdl [b,d,a]).map pq=[pq (b,d),pq (d,a),pq (a,b)]:=by
 unfold sdl nxt;simp[JF,gp]
theorem je(T:Txt w K mg):a9 P w K mg base (CXF P w) 6 T.aan.a T.aan.d ["piece","k","P"] (spU K (yP)):=by
 refine aW T.aan.F bu (λus o h=>?_) (λPV A outer s H E O us o hr h=>?_)
 ·obtain⟨q,c,k,x,rfl,W,sq,sc,nd,sk,sx,rfl⟩:=h;rfl
 obtain⟨q,c,k,x,rfl,W,sq,sc,nd,sk,sx,rfl⟩:=h;refine Ws.nox ?_;obtain⟨a,b,d,rfl⟩:=wS W;have sa:=sc a (by simp)
 have sb:=sc b (by simp)
 have sd:=sc d (by simp)
 refine af (aV (i:=3) bu.nd rfl (Or.inl rfl) (EvN.ev (ba ((qq T).mono (by decide)) hr rfl T.aaO.m T.aaO.F.kp T.aaO.b au (ae (aa 0 rfl) ak ag) ⟨q,_,rfl,W,sq,rfl⟩)) ?_)
 have e0:fI (([a,b,d]:List P2).map pu) (some 1) none++fI (([a,b,d]:List P2).map pu) none (some 1)=([b,d,a]:List P2).map pu:=by rw[iV,sM];rfl
 refine af (aV (i:=4) bu.nd rfl (Or.inl rfl) (EvN.ev (ba ((gd T).mono (by decide)) hr rfl T.aap.m T.aap.F.kp T.aap.b au (ae (jk (congrArg U.lst e0) (EvN.ev (lJ (EvN.ev (cP (aa 3 rfl) (dZ ai) dR (.inl rfl))) (EvN.ev (cP (aa 3 rfl) dR (dZ ai) (.inl rfl))) (by rw[iV,sM];exact FT (aE (by simp)))))) ak bK) ⟨[b,d,a],rfl,by simp,rfl⟩)) ?_)
 rw[Ew];show Ws _ _ _ _ _ _ [some (.val (plU q)),some (.val (.int k)),some (.val (pu x)),some (.val (lp [a,b,d])),some (.val (.lst [pq (b,d),pq (d,a),pq (a,b)])),none,none,none,none];refine af (qc (ys:=(wts [a,b,d] k x).map qU) (j:=5) false rfl bu.nd rfl (Or.inl rfl) (blk (aj cR) ["piece","k","P","corners","across","pairs","corner","side","pair"] [6,7] rfl rfl rfl rfl (by decide+kernel)) (CJ rfl T.aa5 (aa 3 rfl) (.inl rfl) (aa 4 rfl) (.inl rfl) rfl ag ag) (λ_ _ _ _=>gf rfl (bC (bi (i:=6) bu.nd rfl (Or.inl rfl)) (bC (bi (i:=7) bu.nd rfl (Or.inl rfl)) ef))) (fj (js:=[6,7]) (by decide)) ?clen ?csz ?dom ?celt ?_)
 case clen=>rfl
 case csz=>exact FT (aE (by simp[d9]))
 case dom=>
  intro z hz;simp only[d9,Ff,Jp,ET,Fm,or_false]at hz;rcases hz with rfl |rfl |rfl <;>exact⟨_,rfl,rfl⟩
 case celt=>
  intro C s' H' fp j z y hz hy
  match j,hz,hy with
  |0,hz,hy=>
   cases hz;cases hy;exact (bw (aq (aa 6 rfl) (aq (aw ((jC T).mono (by decide)) hr rfl T.aaD.m T.aaD.F.kp T.aaD.b au (ae (aa 1 rfl) (ae (aa 2 rfl) (ae (ay (aa 7 rfl) ai rfl rfl) (ae (ay (aa 7 rfl) ai rfl rfl) ak aR) aR) ag) ag) ⟨k,x,b,d,rfl,sk,sx,sb,sd,rfl⟩) bj aN) ag))
  |1,hz,hy=>
   cases hz;cases hy;exact (bw (aq (aa 6 rfl) (aq (aw ((jC T).mono (by decide)) hr rfl T.aaD.m T.aaD.F.kp T.aaD.b au (ae (aa 1 rfl) (ae (aa 2 rfl) (ae (ay (aa 7 rfl) ai rfl rfl) (ae (ay (aa 7 rfl) ai rfl rfl) ak aR) aR) ag) ag) ⟨k,x,d,a,rfl,sk,sx,sd,sa,rfl⟩) bj aN) ag))
  |2,hz,hy=>
   cases hz;cases hy;exact (bw (aq (aa 6 rfl) (aq (aw ((jC T).mono (by decide)) hr rfl T.aaD.m T.aaD.F.kp T.aaD.b au (ae (aa 1 rfl) (ae (aa 2 rfl) (ae (ay (aa 7 rfl) ai rfl rfl) (ae (ay (aa 7 rfl) ai rfl rfl) ak aR) aR) ag) ag) ⟨k,x,a,b,rfl,sk,sx,sa,sb,rfl⟩) bj aN) ag))
  |j+3,hz,hy=>simp[wts]at hy
 have nw:((wts [a,b,d] k x).map (·.1)).Nodup:=nd;have wl:(wts [a,b,d] k x).length=3:=rfl;show Ws _ _ _ _ _ _ [some (.val (plU q)),some (.val (.int k)),some (.val (pu x)),some (.val (lp [a,b,d])),some (.val (.lst [pq (b,d),pq (d,a),pq (a,b)])),some (.val (.lst ((wts [a,b,d] k x).map qU))),none,none,none];unfold eM;generalize wts [a,b,d] k x=w3 at *;refine af (cw (ju ST3.KQ qU ((0,0),0) (trs:=w3.filter λz=>decide (0<z.2)) Df rfl T.aaL (fZ hr) (jk (congrArg U.lst (tI w3)) (EvN.ev (AB (k_ w3) rfl (blk (aj cR) ["piece","k","P","corners","across","pairs","corner","side","pair"] [8] rfl rfl rfl rfl (by decide+kernel)) (c9 (aa 5 rfl) (.inl rfl)) (λ_ _ _ _=>bi (i:=8) bu.nd rfl (Or.inl rfl)) (e_ (by decide)) ?clen ?csz (λ_ _=>trivial) ?ctest ?celt))) ⟨IE (H_ _ _) (by lia),?nd⟩ cU) ?_)
 case clen=>unfold k_;simp
 case csz=>rw[EM];exact FT (aE (by lia))
 case ctest=>
  intro C s' H' fp j z o hz ho;rw[EW]at hz;obtain⟨e,he,rfl⟩:=Hh.mp hz;unfold k_ at ho;rw[EW,he]at ho;cases ho
  have key:(if 0<e.2 then some (qU e) else none).isSome=decide (e.2 >0):=by
   by_cases h:0<e.2
   ·rw[if_pos h,decide_eq_true h];rfl
   ·rw[if_neg h,decide_eq_false h];rfl
  rw[key];exact (aF f8 (ay (aa 8 rfl) ai rfl rfl) ai)
 case celt=>
  intro C s' H' fp j z y hz hy;rw[EW]at hz;obtain⟨e,he,rfl⟩:=Hh.mp hz;unfold k_ at hy;rw[EW,he]at hy;by_cases h:0<e.2
  ·rw[Ku,if_pos h]at hy;cases hy;exact (aa 8 rfl)
  ·rw[Ku,if_neg h]at hy;cases hy
 case nd=>exact ((FO.mp nw).imp λ{a b} h e=>h (by rw[e])).sublist Kv
 exact rfl
def inK(k:Int)(r:List P2)(x:P2):Bool:=decide (-1<whr (ao (r.map (scl k))) x)
def lv:List U->Out->Prop:=λus o=>∃(l:List P2) (k:Int) (x:P2) (u:List (List P2)) (q:List P2) (v:List (List P2)) (c:List P2),us=[lp l,.int k,pu x]/\hW l/\0<=k/\Sz 1000 k/\Szp 5000 x/\cV l=u++q::v/\(∀r∈u,inK k r x=false)/\inK k q x=true/\Wd q c/\(∀p∈c,Szp 5000 p)/\c.Nodup/\o=.new ((eM c k x).map qU)
theorem j4:∀{r:List P2}{q:List P2},q∈dy r->∃a b,q=[a,b]/\a∈r/\b∈r
 |[],q,h=>by cases h
 |[_],q,h=>by cases h
 |a::b::r,q,h=>by
  rcases ET.mp h with e |e
  ·exact⟨a,b,e,by simp,by simp⟩
  ·obtain⟨c,d,e1,e2,e3⟩:=j4 e;exact⟨c,d,e1,ES _ e2,ES _ e3⟩
theorem ww{l:List P2}{t:ST3.TR}(h:t∈pcs l):t.1∈aH l/\t.2.1∈aH l/\t.2.2∈aH l:=by
 obtain⟨r,hr,rfl⟩:=EV.mp h;have hp:=bG l
 have key:∀t,t∈jI l->t.1∈aH l/\t.2.1∈aH l/\t.2.2∈aH l:=λt ht=>by
  rcases FA.mp ht with h |h
  ·have:=eA (.inl rfl) _ hp t h;exact⟨this.ma,this.mb,this.mP⟩
  ·have:=eA (.inr rfl) _ hp t h;exact⟨this.ma,this.mb,this.mP⟩
 obtain⟨k1,k2,k3⟩:=key r hr;unfold bD;split
 ·exact⟨k1,k2,k3⟩
 ·exact⟨k1,k3,k2⟩
theorem nO{l:List P2}(F:Fld l){q:List P2}(h:q∈cV l):q≠[]/\q.length<=3/\∀p∈q,p∈aH l:=by
 have l0:0<l.length:=FJ.mpr F.ne;unfold cV at h;split at h
 ·rename_i h1
  obtain⟨A,rfl⟩:=ID.mp h1;rw[E5.mp h,og F];simp
 ·split at h
  ·obtain⟨a,b,rfl,ma,mb⟩:=j4 h;refine⟨by simp,by simp,λp hp=>?_⟩
   simp at hp;rcases hp with rfl |rfl
   ·exact ma
   ·exact mb
  ·obtain⟨t,ht,rfl⟩:=EV.mp h;obtain⟨k1,k2,k3⟩:=ww ((SG.srt_mem _ _ _).mp ht);refine⟨by simp,by simp,λp hp=>?_⟩
   simp at hp;rcases hp with rfl |rfl |rfl
   ·exact k1
   ·exact k2
   ·exact k3
theorem hW.fz{l:List P2}(O:hW l):∀p∈aH l,Szp 2500 p:=λp hp=>by
 have q:=(de O.F.ne).mp (O.F.in_box ((bp O.F p).mp hp));obtain⟨_,_,w1,w2,w3,w4⟩:=nP O.F.ne O.sz;exact⟨(iK w1 w2 q.1.1 q.1.2).mono (by decide),(iK w3 w4 q.2.1 q.2.2).mono (by decide)⟩
theorem ui(T:Txt w K mg):a9 P w K mg base (CXF P w) 10 T.aaW.a T.aaW.d ["land","k","P"] (spU K (lv)):=by
 refine aW T.aaW.F tX (λus o h=>?_) (λPV A outer s H E O us o hr h=>?_)
 ·obtain⟨l,k,x,u,q,v,c,rfl,O,k0,sk,sx,hp,hu,hq,W,sc,nd,rfl⟩:=h;rfl
 obtain⟨l,k,x,u,q,v,c,rfl,O,k0,sk,sx,hp,hu,hq,W,sc,nd,rfl⟩:=h;refine Ws.nox ?_;refine af (br (aF gj (aa 1 rfl) ai) (decide_eq_false (by lia)) (aG ?_))
 have fz:=O.fz;refine af (d7 (λ_:Unit=>[some (.val (lp l)),some (.val (.int k)),some (.val (pu x)),none]) (λi _=>i<=u.length) rfl PassesOwn.never (c9 (EvN.ev (ba ((lW T).mono (by decide)) hr rfl T.aaF.m T.aaF.F.kp T.aaF.b au (ae (aa 0 rfl) ak ag) ⟨l,rfl,O,rfl⟩)) (.inl rfl)) ?h0 ?hs ?hd)
 case h0=>exact⟨(),FX _,rfl,rfl,rfl,trivial⟩
 case hs=>
  rintro H0 i y _ hy hi;rw[EW]at hy;obtain⟨r,SH,rfl⟩:=Hh.mp hy;obtain⟨rn,r3,rm⟩:=nO O.F (E9 SH);have rz:∀p∈r,Szp 2500 p:=λp hp=>fz p (rm p hp)
  have cz:∀p∈ao (r.map (scl k)),Szp 5000 p:=λp hp=>by
   obtain⟨z,hz,rfl⟩:=EV.mp (bH _ p hp);exact (qx sk (rz z hz)).mono (by decide)
  have cl:=jx (r.map (scl k));rw[EM]at cl;have cn:ao (r.map (scl k))≠[]:=ip (by simpa using rn)
  refine⟨_,(eI (i:=3) tX.nd rfl (Or.inl rfl)),?_⟩;rw[hp]at SH;have test:decide (whr (ao (r.map (scl k))) x >-1)=inK k r x:=rfl;by_cases e:i<u.length
  ·rw[Fh e]at SH;have:=hu r (E9 SH);refine af (br (aF f8 (aw ((o3 T).mono (by decide)) hr rfl T.aaQ.m T.aaQ.F.kp T.aaQ.b au (ae (EvN.ev (ba ((mT T).mono (by decide)) hr rfl T.aaR.m T.aaR.F.kp T.aaR.b au (ae (EvN.ev (df (eJ rfl) rfl T.aaK Ip (ae (aa 3 rfl) ak ag))) (ae (aa 1 rfl) ak ag) aN) ⟨r,k,rfl,sk,λp hp=>(rz p hp).mono (by decide),rn,by lia,rfl⟩)) (ae (aa 2 rfl) ak ag) aN) ⟨_,x,rfl,FJ.mpr cn,by lia,cz,sx,rfl⟩) (bN ai)) (by rw[test];exact this) (aG (aG ?_)))
   exact⟨(),e,rfl,rfl,rfl,trivial⟩
  ·have ei:i=u.length:=by lia
   subst ei;rw[Fj (EX _),Nw]at SH;cases SH;refine af (c7 (aF f8 (aw ((o3 T).mono (by decide)) hr rfl T.aaQ.m T.aaQ.F.kp T.aaQ.b au (ae (EvN.ev (ba ((mT T).mono (by decide)) hr rfl T.aaR.m T.aaR.F.kp T.aaR.b au (ae (EvN.ev (df (eJ rfl) rfl T.aaK Ip (ae (aa 3 rfl) ak ag))) (ae (aa 1 rfl) ak ag) aN) ⟨q,k,rfl,sk,λp hp=>(rz p hp).mono (by decide),rn,by lia,rfl⟩)) (ae (aa 2 rfl) ak ag) aN) ⟨_,x,rfl,FJ.mpr cn,by lia,cz,sx,rfl⟩) (bN ai)) (by rw[test];exact hq) ?_)
   refine af (cw (ba ((je T).mono (by decide)) hr rfl T.aan.m T.aan.F.kp T.aan.b au (ae (aa 3 rfl) (ae (aa 1 rfl) (ae (aa 2 rfl) ak ag) ag) ag) ⟨q,c,k,x,rfl,W,rz,sc,nd,sk,sx,rfl⟩) ?_)
   exact rfl
 case hd=>
  rintro n ps hn Qh
  exfalso
  rw[EM,hp]at hn;simp at hn;lia
def cel(ns:List Int)(k:Int):Int:=if k<(ns.length:Int) then ns.getD k.toNat 0 else 7*k*k+3*k+1
theorem kO{ns:List Int}(h:∀m∈ns,Sz 1048576 m){k:Int}(h0:0<=k)(h1:k<1000):Sz 1048576 (cel ns k):=by
 unfold cel;split
 ·exact zo h _
 ·refine Sz.mono (m:=100) ?_ (by decide)
  have:7*k*k<=7*1000*1000:=by
   have:k*k<=1000*1000:=Int.mul_le_mul (by lia) (by lia) h0 (by lia)
   rw[OY];lia
  have h2:0<=7*k*k:=E8 (by lia) h0
  unfold Sz;lia
def ve:List U->Out->Prop:=λus o=>∃(ns:List Int) (k:Int),us=[.scr (ns.map U.int),.int k]/\ns.length<=63/\0<=k/\k<1000/\o=.val (.int (cel ns k))
theorem cf(T:Txt w K mg):a9 P w K mg base (CXF P w) 1 T.aaa.a T.aaa.d ["script","k"] (spU K (ve)):=by
 refine aW T.aaa.F mG (λus o h=>?_) (λPV A outer s H E O us o hr h=>?_)
 ·obtain⟨ns,k,rfl,hl,h0,h1,rfl⟩:=h;rfl
 obtain⟨ns,k,rfl,hl,h0,h1,rfl⟩:=h;refine Ws.nox ?_;have sk:Sz 64 k:=by unfold Sz;lia
 have hm:((ns.map U.int).length:Int)=(ns.length:Int):=by rw[EM]
 refine af (nE (aF gj (aa 1 rfl) (ar (bJ rfl) rfl T.aae Fp (ae (aa 0 rfl) ak ag))) (λhT=>?_) (λhF=>(aG ?_)))
 ·rw[hm]at hT;have hk:=dTb hT;refine af (bg (ay (aa 0 rfl) (aa 1 rfl) rfl (o9 h0 hk)) ?_);exact vIO (by unfold cel;rw[if_pos hk])
 ·rw[hm]at hF;have hk:=dFb hF;refine af (bg (cO (cO (be (be ai (aa 1 rfl) (by walk_at"mul")) (aa 1 rfl) (by walk_at"mul")) (be ai (aa 1 rfl) (by walk_at"mul"))) ai) ?_)
  exact vIO (by unfold cel;rw[if_neg hk])
def vf:List U->Out->Prop:=λus o=>∃P Q R:P2,us=[pu P,pu Q,pu R]/\Szp 5000 P/\Szp 5000 Q/\Szp 5000 R/\o=.val (.int (ac P Q R))
theorem fo(T:Txt w K mg):a9 P w K mg base (CXF P w) 1 T.aad.a T.aad.d ["a","b","p"] (spU K (vf)):=by
 refine aW T.aad.F nV (λus o h=>?_) (λPV A outer s H E O us o hr h=>?_)
 ·obtain⟨P,Q,R,rfl,⟨p1,p2⟩,⟨q1,q2⟩,⟨r1,r2⟩,rfl⟩:=h;rfl
 obtain⟨P,Q,R,rfl,⟨p1,p2⟩,⟨q1,q2⟩,⟨r1,r2⟩,rfl⟩:=h;refine Ws.nox ?_;refine af (bg (bA (be (bA (ay (aa 1 rfl) ai rfl rfl) (ay (aa 0 rfl) ai rfl rfl)) (bA (ay (aa 2 rfl) ai rfl rfl) (ay (aa 0 rfl) ai rfl rfl)) (by walk_at"mul")) (be (bA (ay (aa 1 rfl) ai rfl rfl) (ay (aa 0 rfl) ai rfl rfl)) (bA (ay (aa 2 rfl) ai rfl rfl) (ay (aa 0 rfl) ai rfl rfl)) (by walk_at"mul"))) ?_)
 exact rfl
theorem ir(T:Txt w K mg):a9 P w K mg base (CXF P w) 2 T.aai.a T.aai.d ["points"] (spU K (jK)):=by
 refine aW T.aai.F fE (λus o h=>?_) (λPV A outer s H E O us o hr h=>?_)
 ·obtain⟨row,rfl,sz,hl,rfl⟩:=h;rfl
 obtain⟨row,rfl,sz,hl,rfl⟩:=h;refine Ws.nox ?_;refine af (dS (i:=1) fE.nd rfl (Or.inl rfl) (cT bj) ?_);refine af (d7 (λst:List P2=>[some (.val (lp row)),some (.own (st.reverse.map pu)),none]) (λi st=>st=am (row.take i)) rfl PassesOwn.never (c9 (aa 0 rfl) (.inl rfl)) ?h0 ?hs ?hd)
 case h0=>exact⟨[],rfl,rfl,rfl,trivial⟩
 case hs=>
  rintro H0 i x _ hx rfl;obtain⟨P,hP,mP,rfl⟩:=t7 hx;have hi:i<row.length:=aL hP;have sP:=sz P mP;refine⟨_,(eI (i:=2) fE.nd rfl (Or.inl rfl)),?_⟩;have len0:=gq row i;refine kE (λps=>SubP [some (.val (lp row)),some (.own ((aU P (am (row.take i))).reverse.map pu)),some (.val (pu P))] ps) (il (λs2:List P2=>[some (.val (lp row)),some (.own (s2.reverse.map pu)),some (.val (pu P))]) (λm s2=>m=s2.length/\aU P s2=aU P (am (row.take i))/\(∀p∈s2,p∈row)/\s2.length<=i) PassesOwn.never ?h0 ?hs) ?hj
  case h0=>exact⟨_,_,⟨rfl,rfl,λq hq=>fe row i q hq,len0⟩,rfl,rfl,rfl,trivial⟩
  case hs=>
   rintro m s2 ⟨rfl,e2,sub,Q3⟩
   match s2,e2,sub,Q3 with
   |[],e2,sub,Q3=>
    refine⟨false,?_,λh=>(nomatch h),λh ps Qh=>e2 ▸ Qh⟩
    exact (Tw.t (iQ (aF f8 (b8 1 rfl rfl T.aae) ai) rfl))
   |[b],e2,sub,Q3=>
    refine⟨false,?_,λh=>(nomatch h),λh ps Qh=>e2 ▸ Qh⟩
    exact (Tw.t (iQ (aF f8 (b8 1 rfl rfl T.aae) ai) rfl))
   |b::a::r,e2,sub,Q3=>
    have sa:=sz a (sub a (by simp))
    have sb:=sz b (sub b (by simp))
    have e1:decide ((1:Int)<((((b::a::r).reverse.map pu).length:Nat):Int))=true:=decide_eq_true (by simp;lia)
    refine⟨decide ((1:Int)<((((b::a::r).reverse.map pu).length:Nat):Int)) && decide (ac a b P<=0),?_,λh=>?_,λh ps Qh=>?_⟩
    ·exact (Tw.t (sJ (aF f8 (b8 1 rfl rfl T.aae) ai) (λhz=>(qj (aF El (aw ((fo T).mono (by decide)) hr rfl T.aad.m T.aad.F.kp T.aad.b au (ae (dU 1 rfl (bN ai) (tP b a r)) (ae (dU 1 rfl (bN ai) (tW b (a::r))) (ae (aa 2 rfl) ak ag) aR) aR) ⟨a,b,P,rfl,sa,sb,sP,rfl⟩) ai)))))
    ·rw[e1,IY]at h;have hd:=dTb h;refine af (yL 1 rfl (by simp) (aG ?_))
     refine⟨_,a::r,?_,⟨rfl,?_,λq hq=>sub q (ES _ hq),?_⟩,rfl,?_,rfl,trivial⟩
     ·simp
     ·rw[←e2];conv=>rhs;unfold aU
      rw[if_pos hd]
     ·simp only[FV]at *;lia
     ·exact congrArg (λl=>some (Sl.own l)) (by simp)
    ·rw[e1,IY]at h;have hd:=dFb h
     have e3:aU P (b::a::r)=b::a::r:=by conv=>lhs;unfold aU
                                        rw[if_neg hd]
     rw[<-e2,e3];exact Qh
  case hj=>
   intro ps Qh;refine du ?_ Qh;have e4:=ft hP;have SD:=jq P (am (row.take i));refine af (cB 1 rfl (aa 2 rfl) (by rw[EM,FR];exact aE (by lia)) (aG ?_))
   refine⟨_,rfl,rfl,?_,trivial⟩;exact congrArg (λl=>some (Sl.own l)) (by rw[e4];simp)
 case hd=>
  rintro st ps QM Qh;refine du ?_ Qh;refine af (fi 1 rfl ?_);rw[QM];simp
def nq:List U->Out->Prop:=λus o=>∃pts:List P2,us=[lp pts]/\(∀p∈pts,Szp 5000 p)/\pts.length<64/\o=.new ((ao pts).map pu)
theorem kN{pts:List P2}(h:(ST.srt pts).length=2):ao pts=ST.srt pts:=by
 match e:ST.srt pts,h with
 |[a,b],_=>
  unfold ao;rw[e];simp[am,aU]
theorem jg(T:Txt w K mg):a9 P w K mg base (CXF P w) 3 T.aao.a T.aao.d ["points"] (spU K (nq)):=by
 refine aW T.aao.F dz (λus o h=>?_) (λPV A outer s H E O us o hr h=>?_)
 ·obtain⟨pts,rfl,sz,hl,rfl⟩:=h;rfl
 obtain⟨pts,rfl,sz,hl,rfl⟩:=h;refine Ws.nox ?_;have sl:=ST.srt_len pts;have hms:(((ST.srt pts).map pu).length:Int)=((ST.srt pts).length:Int):=by rw[EM]
 have szs:=yf sz;by_cases h1:(ST.srt pts).length<3
 ·refine af (dS (i:=1) dz.nd rfl (Or.inl rfl) (gr rfl (fZ hr) rfl T.aaL rfl T.aa8 (aa 0 rfl) hl ag) ?_);refine af (c7 (aF gj (b8 1 rfl rfl T.aae) ai) (by rw[hms];exact decide_eq_true (by lia)) ?_)
  refine af (fi 1 rfl ?_)
  have ec:ao pts=ST.srt pts:=by
   by_cases h2:(ST.srt pts).length=2
   ·exact kN h2
   ·exact bU (by lia)
  rw[ec]
 ·refine af (aV (i:=1) dz.nd rfl (Or.inl rfl) (EvN.ev (gr rfl (fZ hr) rfl T.aaL rfl T.aa8 (aa 0 rfl) hl ag)) ?_);refine af (br (aF gj (ar (bJ rfl) rfl T.aae Fp (ae (aa 1 rfl) ak ag)) ai) (by rw[hms];exact decide_eq_false (by lia)) (aG ?_))
  have b1:=iA (ST.srt pts);have b2:=iA (ST.srt pts).reverse;rw[FR]at b2;refine af (cw (lJ (EvN.ev (cP (EvN.ev (ba ((ir T).mono (by decide)) hr rfl T.aai.m T.aai.F.kp T.aai.b au (ae (aa 1 rfl) ak ag) ⟨ST.srt pts,rfl,szs,by lia,rfl⟩)) dR (dZ (bN ai)) (.inl rfl))) (EvN.ev (cP (EvN.ev (ba ((ir T).mono (by decide)) hr rfl T.aai.m T.aai.F.kp T.aai.b au (ae (EvN.ev (vC rfl rfl T.aaK rfl T.aa3 (aa 1 rfl) ag)) ak aN) ⟨(ST.srt pts).reverse,by rw[lp,He],λp hp=>szs p (Fc.mp hp),by rw[FR];lia,rfl⟩)) dR (dZ (bN ai)) (.inl rfl))) (by rw[gg,gg,EM,EM,G9,G9,FR,FR];exact FT (aE (by lia)))) ?_)
  show Out.new _=Out.new _;unfold ao;rw[if_neg (by lia),gg,gg,<-F1]
theorem CB{l:List P2}{j:Nat}(h:j<l.length):atI (l.map pu) ((0+(j:Int)+1)%((l.map pu).length:Int))=some (pu (nxt l j)):=by
 have e:(0+(j:Int)+1)%((l.map pu).length:Int)=(((j+1)%l.length:Nat):Int):=by
  rw[EM,Mp];simp
 rw[e];exact h_ rfl (HF _ (by lia))
theorem yE{l:List P2}{i:Nat}(h:i<l.length):(sdl l).take (i+1)=(sdl l).take i++[(gp l i,nxt l i)]:=by
 rw[GO];congr 1;unfold sdl;rw[EW,Hj h];rfl
def zZ:List U->Out->Prop:=λus o=>∃(l:List P2) (p:P2),us=[lp l,pu p]/\l≠[]/\l.length<=900/\(∀q∈l,Szp 5000 q)/\Szp 5000 p/\o=.val (.bl (cx l p))
theorem qd(T:Txt w K mg):a9 P w K mg base (CXF P w) 2 T.aaP.a T.aaP.d ["land","p"] (spU K (zZ)):=by
 refine aW T.aaP.F j6 (λus o h=>?_) (λPV A outer s H E O us o hr h=>?_)
 ·obtain⟨l,p,rfl,PN,hl,sz,sp,rfl⟩:=h;rfl
 obtain⟨l,p,rfl,PN,hl,sz,sp,rfl⟩:=h;refine Ws.nox ?_;have hm:((l.map pu).length:Int)=(l.length:Int):=by rw[EM]
 have h0:0<l.length:=FJ.mpr PN;by_cases h1:l.length=1
 ·refine af (c7 (aF bO (ar (bJ rfl) rfl T.aae Fp (ae (aa 0 rfl) ak ag)) ai) (by rw[hm];exact decide_eq_true (by lia)) ?_)
  refine af (bg (kJ (DI (fZ hr) rfl rfl) (aa 1 rfl) (ay (aa 0 rfl) ai rfl (h_ (i:=0) rfl h0))) ?_);exact vB (by rw[CO];unfold cx;rw[if_pos h1])
 ·refine af (br (aF bO (ar (bJ rfl) rfl T.aae Fp (ae (aa 0 rfl) ak ag)) ai) (by rw[hm];exact decide_eq_false (by lia)) (aG ?_))
  by_cases h2:l.length=2
  ·refine af (c7 (aF bO (ar (bJ rfl) rfl T.aae Fp (ae (aa 0 rfl) ak ag)) ai) (by rw[hm];exact decide_eq_true (by lia)) ?_)
   have h1':1<l.length:=by lia
   refine af (bg (lP (kJ bO (aw ((fo T).mono (by decide)) hr rfl T.aad.m T.aad.F.kp T.aad.b au (ae (ay (aa 0 rfl) ai rfl (h_ (i:=0) rfl h0)) (ae (ay (aa 0 rfl) ai rfl (h_ (i:=1) rfl h1')) (ae (aa 1 rfl) ak ag) aR) aR) ⟨_,_,_,rfl,sz _ (cG h0),sz _ (cG h1'),sp,rfl⟩) ai) (λhz=>(lP (kJ (tj (fZ hr)) (ay (aa 0 rfl) ai rfl (h_ (i:=0) rfl h0)) (aa 1 rfl)) (λhz=>(oP (kJ (tj (fZ hr)) (aa 1 rfl) (ay (aa 0 rfl) ai rfl (h_ (i:=1) rfl h1')))))))) ?_)
   exact vB (by unfold cx;rw[if_neg h1,if_pos h2])
  ·refine af (br (aF bO (ar (bJ rfl) rfl T.aae Fp (ae (aa 0 rfl) ak ag)) ai) (by rw[hm];exact decide_eq_false (by lia)) (aG ?_))
   have ew:cx l p=(sdl l).all λs=>decide (0<=ac s.1 s.2 p):=by unfold cx;rw[if_neg h1,if_neg h2]
   refine af (d7 (λ_:Unit=>[some (.val (lp l)),some (.val (pu p)),none]) (λi _=>∀s∈(sdl l).take i,0<=ac s.1 s.2 p) rfl PassesOwn.never (xR rfl T.aaZ (ae (ar (bJ rfl) rfl T.aae Fp (ae (aa 0 rfl) ak ag)) ak aN) (by rw[hm];lia) (by rw[hm];lia)) ?h0 ?hs ?hd)
   case h0=>exact⟨(),by simp,rfl,rfl,trivial⟩
   case hs=>
    rintro H0 i x _ hx Qn;obtain⟨hi,rfl⟩:=fm hx;have PY:i<l.length:=by lia
    have hz:(i+1)%l.length<l.length:=HF _ (by lia)
    refine⟨_,(eI (i:=2) j6.nd rfl (Or.inl rfl)),?_⟩;refine af (nE (aF gj (aw ((fo T).mono (by decide)) hr rfl T.aad.m T.aad.F.kp T.aad.b au (ae (ay (aa 0 rfl) (aa 2 rfl) rfl (h_ (i:=i) (by lia) PY)) (ae (ay (aa 0 rfl) (dw (cO (aa 2 rfl) ai) (ar (bJ rfl) rfl T.aae Fp (ae (aa 0 rfl) ak ag)) (by rw[hm];lia)) rfl (CB PY)) (ae (aa 1 rfl) ak ag) aR) aR) ⟨_,_,_,rfl,sz _ (cG PY),sz _ (cG hz),sp,rfl⟩) ai) (λhT=>?_) (λhF=>(aG (aG ?_))))
    ·refine af (bg zP ?_);refine vB ?_;rw[ew];refine (Bool.eq_false_iff.mpr λk=>?_).symm
     have:=of_decide_eq_true (Iz.mp k (gp l i,nxt l i) (EV.mpr ⟨i,Fo.mpr PY,rfl⟩));have h:=dTb hT;dsimp only at this;lia
    ·refine⟨(),λs hs=>?_,rfl,rfl,trivial⟩
     rw[yE PY]at hs;rcases FA.mp hs with k |k
     ·exact Qn s k
     ·rw[E5.mp k];have h:=dFb hF;show 0<=ac (gp l i) (nxt l i) p;lia
   case hd=>
    rintro _ ps Qn Qh;refine du ?_ Qh;refine af (bg zP ?_);refine vB ?_;rw[ew];refine (Iz.mpr λs hs=>decide_eq_true (Qn s ?_)).symm
    rw[cL,LV]
    ·exact hs
    ·rw[gu];lia
def Ai:List U->Out->Prop:=λus o=>∃n:Int,us=[.int n]/\o=.val (.bl true)
theorem eS(T:Txt w K mg):a9 P w K mg base (CXF P w) 1 T.aab.a T.aab.d ["thing"] (spU K (Ai)):=by
 refine aW T.aab.F lg (λus o h=>?_) (λPV A outer s H E O us o hr h=>?_)
 ·obtain⟨n,rfl,rfl⟩:=h;rfl
 obtain⟨n,rfl,rfl⟩:=h;refine Ws.nox ?_;refine af (bg (lP (ar (bZ (by intro _ h;cases h) (by walk_at"kit")) rfl T.aac GP (ae (aa 0 rfl) (ae (kA rfl T.aba boot_int) ak ag) ag)) (λhz=>(oP (Bj (ar (bZ (by intro _ h;cases h) (by walk_at"kit")) rfl T.aac GP (ae (aa 0 rfl) (ae (kA rfl T.aa9 boot_bool) ak ag) ag)))))) ?_)
 exact rfl
def eN(ns:List Int):Nat:=max 13 (min ns.length 60)
theorem Eg(ns:List Int):(if (if (60:Int)<((ns.map U.int).length:Int) then (60:Int) else ((ns.map U.int).length:Int)) >13 then (if (60:Int)<((ns.map U.int).length:Int) then (60:Int) else ((ns.map U.int).length:Int)) else 13)=(eN ns:Int):=by
 unfold eN;rw[EM];split <;>split <;>lia
def qa:List U->Out->Prop:=λus o=>∃ns:List Int,us=[.scr (ns.map U.int)]/\o=.val (.int (eN ns))
theorem ix(T:Txt w K mg):a9 P w K mg base (CXF P w) 1 T.aaj.a T.aaj.d ["script"] (spU K (qa)):=by
 refine aW T.aaj.F mM (λus o h=>?_) (λPV A outer s H E O us o hr h=>?_)
 ·obtain⟨ns,rfl,rfl⟩:=h;rfl
 obtain⟨ns,rfl,rfl⟩:=h;refine Ws.nox ?_;refine af (bg (ar (DZ rfl) rfl T.aa7 O1 (ae ai (ae (ar (A9 rfl) rfl T.aa6 NN (ae (ar (bJ rfl) rfl T.aae Fp (ae (aa 0 rfl) ak ag)) (ae ai ak bq) aN)) ak aN) bq)) ?_);exact vIO (Eg ns)
def lC(c x:Int):P2:=if c/5%5=0 then (x,2) else if c/5%5=1 then (3,x) else if c/5%5=2 then (x,x) else if c/5%5=3 then (x,5-x) else (1,4)
def gP(c x y:Int):P2:=if c%5=1 then lC c x else (x,y)
theorem zQ(c x:Int):atI ([pu (x,2),pu (3,x),pu (x,x),pu (x,5-x),pu (1,4)]:List U) (c/5%5)=some (pu (lC c x)):=by
 have h:c/5%5=0\/c/5%5=1\/c/5%5=2\/c/5%5=3\/c/5%5=4:=by lia
 unfold lC;rcases h with h |h |h |h |h <;>rw[h] <;>rfl
theorem lS{c x y:Int}(h1:0<=x/\x<=5)(h2:0<=y/\y<=5):(0<=(gP c x y).1/\(gP c x y).1<=5)/\0<=(gP c x y).2/\(gP c x y).2<=5:=by
 unfold gP lC
 (repeat' split) <;>dsimp only <;>lia
def uC:List U->Out->Prop:=λus o=>∃c x y:Int,us=[.int c,.int x,.int y]/\Sz 1048576 c/\Sz 8 x/\o=.val (pu (gP c x y))
theorem nU(T:Txt w K mg):a9 P w K mg base (CXF P w) 1 T.aaz.a T.aaz.d ["cell","x","y"] (spU K (uC)):=by
 refine aW T.aaz.F nM (λus o h=>?_) (λPV A outer s H E O us o hr h=>?_)
 ·obtain⟨c,x,y,rfl,sc,sx,rfl⟩:=h;rfl
 obtain⟨c,x,y,rfl,sc,sx,rfl⟩:=h;refine Ws.nox ?_;by_cases h:c%5=1
 ·refine af (br (aF i4 (dw (aa 0 rfl) ai (by walk_at"mod")) ai) (by rw[decide_eq_true h];rfl) (aG ?_))
  have el:gP c x y=lC c x:=by unfold gP;rw[if_pos h]
  rw[el];refine af ?_;refine bg (u:=pu (lC c x)) ?dd ?_
  case dd=>
   generalize hE:(Expr.List _ _)=E0;refine ay (xs:=[pu (x,2),pu (3,x),pu (x,x),pu (x,5-x),pu (1,4)]) (x:=.lst [pu (x,2),pu (3,x),pu (x,x),pu (x,5-x),pu (1,4)]) ?d (dw (gL (aa 0 rfl) ai (by walk_at"div")) ai (by walk_at"mod")) rfl (zQ c x)
   subst hE;refine EvD.ev ?_;refine dsp (us:=[pu (x,2),pu (3,x),pu (x,x),pu (x,5-x),pu (1,4)]) ?_ (FT (aE (by simp)))
   refine aq (bw (aq (aa 1 rfl) (aq ai bj bq) ag)) ?_ fG;refine aq (bw (aq ai (aq (aa 1 rfl) bj ag) bq)) ?_ fG;refine aq (bw (aq (aa 1 rfl) (aq (aa 1 rfl) bj ag) ag)) ?_ fG;refine aq (bw (aq (aa 1 rfl) (aq (bA ai (aa 1 rfl)) bj bK) ag)) ?_ fG;refine aq (bw (aq ai (aq ai bj bq) bq)) ?_ fG;exact bj
  exact rfl
 ·refine af (c7 (aF i4 (dw (aa 0 rfl) ai (by walk_at"mod")) ai) (by rw[decide_eq_false h];rfl) ?_)
  refine af (bg (bw (aq (aa 1 rfl) (aq (aa 2 rfl) bj ag) ag)) ?_);unfold gP;rw[if_neg h]
def nS(ns:List Int):Nat:=(eN ns-1)/4
def pS(ns:List Int)(i:Nat):P2:=gP (cel ns 3) (cel ns (4+(i:Int) *4)%6) (cel ns (4+(i:Int) *4)/6%6)
def spL(ns:List Int):List P2:=(F3 (nS ns)).map (pS ns)
theorem um(ns:List Int):13<=eN ns/\eN ns<=60:=by unfold eN;lia
theorem vM(ns:List Int):3<=nS ns/\nS ns<=14:=by have:=um ns;unfold nS;lia
def pi:List U->Out->Prop:=λus o=>∃ns:List Int,us=[.scr (ns.map U.int)]/\ns.length<=63/\(∀m∈ns,Sz 1048576 m)/\o=.new ((spL ns).map pu)
theorem lc(T:Txt w K mg):a9 P w K mg base (CXF P w) 2 T.aav.a T.aav.d ["script"] (spU K (pi)):=by
 refine aW T.aav.F eO (λus o h=>?_) (λPV A outer s H E O us o hr h=>?_)
 ·obtain⟨ns,rfl,hl,hB,rfl⟩:=h;rfl
 obtain⟨ns,rfl,hl,hB,rfl⟩:=h;refine Ws.nox ?_;have hN:=vM ns;have hE:=um ns
 have hmm:fL 4 (eN ns:Int) 4=nS ns:=by
  unfold fL nS;rw[if_pos (by lia)]
  lia
 have c3:=kO hB (k:=3) (by decide) (by decide)
 refine af (dS (i:=1) eO.nd rfl (Or.inl rfl) (cT bj) ?_);refine af (d7 (λi:Nat=>[some (.val (.scr (ns.map U.int))),some (.own (((F3 i).map (pS ns)).map pu)),none]) (λi j=>i=j) rfl PassesOwn.never (wT rfl T.aaZ (ae ai (ae (aw ((ix T).mono (by decide)) hr rfl T.aaj.m T.aaj.F.kp T.aaj.b au (ae (aa 0 rfl) ak ag) ⟨ns,rfl,rfl⟩) (ae ai ak bq) aN) bq) (by lia)) ?h0 ?hs ?hd)
 case h0=>exact⟨0,rfl,rfl,rfl,trivial⟩
 case hs=>
  rintro H0 i x _ hx rfl;rw[hmm]at hx;obtain⟨hi,rfl⟩:=o7 hx;have PY:i<14:=by lia
  refine⟨_,(eI (i:=2) eO.nd rfl (Or.inl rfl)),?_⟩;have cz:=kO hB (k:=4+(i:Int) *4) (by lia) (by lia)
  have P4:((F3 i).map (pS ns)).map pu++[pu (pS ns i)]=((F3 (i+1)).map (pS ns)).map pu:=by
   rw[JF,F1,F1];rfl
  refine af (cB 1 rfl (aw ((nU T).mono (by decide)) hr rfl T.aaz.m T.aaz.F.kp T.aaz.b au (ae (aw ((cf T).mono (by decide)) hr rfl T.aaa.m T.aaa.F.kp T.aaa.b au (ae (aa 0 rfl) (ae ai ak bq) ag) ⟨ns,_,rfl,hl,by decide,by decide,rfl⟩) (ae (dw (aw ((cf T).mono (by decide)) hr rfl T.aaa.m T.aaa.F.kp T.aaa.b au (ae (aa 0 rfl) (ae (aa 2 rfl) ak ag) ag) ⟨ns,_,rfl,hl,by lia,by lia,rfl⟩) ai (by walk_at"mod")) (ae (dw (gL (aw ((cf T).mono (by decide)) hr rfl T.aaa.m T.aaa.F.kp T.aaa.b au (ae (aa 0 rfl) (ae (aa 2 rfl) ak ag) ag) ⟨ns,_,rfl,hl,by lia,by lia,rfl⟩) ai (by walk_at"div")) ai (by walk_at"mod")) ak bK) bK) aN) ⟨_,_,_,rfl,c3,by unfold Sz;lia,rfl⟩) (by rw[EM,EM,La];exact aE (by lia)) (aG ?_))
  refine⟨i+1,rfl,rfl,?_,trivial⟩;exact congrArg (λl=>some (Sl.own l)) P4
 case hd=>
  rintro q ps hq Qh;refine du ?_ Qh;rw[fM,hmm]at hq;subst hq;refine af (fi 1 rfl ?_);exact rfl
def tmS(ns:List Int):Nat->List Int
 |0=>[0,0,0]
 |i+1=>if (5+(i:Int))%4=0 then tmS ns i else (tmS ns i).set ((5+(i:Int))%4-1).toNat ((tmS ns i).getD ((5+(i:Int))%4-1).toNat 0+cel ns (5+(i:Int))%10 ^ (60:Int).toNat)
theorem gw(ns:List Int):∀i,(tmS ns i).length=3
 |0=>rfl
 |i+1=>by
  rw[tmS];split
  ·exact gw ns i
  ·rw[HM];exact gw ns i
theorem sD{L:List Int}{Q:Int->Prop}{j:Nat}{v:Int}(h:∀t∈L,Q t)(hv:Q v):∀t∈L.set j v,Q t:=λt ht=>by
 rcases List.mem_or_eq_of_mem_set ht with z |z
 ·exact h t z
 ·rw[z];exact hv
theorem wg{L:List Int}{Q:Int->Prop}{j:Nat}(h:∀t∈L,Q t)(h0:Q 0):Q (L.getD j 0):=by
 rw[Fe];cases e:L[j]? with
 |none=>exact h0
 |some v=>exact h v (E9 e)
theorem D3(z:Int):0<=z%10 ^ (60:Int).toNat/\z%10 ^ (60:Int).toNat<=2 ^ 200:=by
 have e:(10:Int) ^ (60:Int).toNat=10 ^ 60:=rfl;have l:(10:Int) ^ 60<2 ^ 200:=by decide+kernel
 rw[e];have h1:=Im z (show (10:Int) ^ 60≠0 by decide)
 have h2:=Hx z (show (0:Int)<10 ^ 60 by decide)
 exact⟨h1,Ny (Int.lt_trans h2 l)⟩
theorem we(ns:List Int):∀i:Nat,∀t∈tmS ns i,0<=t/\t<=(i:Int) *2 ^ 200
 |0=>λt ht=>by
  have:t=0:=by simpa [tmS] using ht
  subst this;simp
 |i+1=>by
  have ih:=we ns i;have e:((i+1:Nat):Int) *2 ^ 200=(i:Int) *2 ^ 200+2 ^ 200:=by rw[Int.natCast_add,Int.add_mul];rfl
  have p:(0:Int)<=2 ^ 200:=by decide
  have p2:(0:Int)<=(i:Int) *2 ^ 200:=E8 (by lia) p
  rw[e];generalize (i:Int) *2 ^ 200=B at *;rw[tmS];obtain⟨a,b⟩:=D3 (cel ns (5+(i:Int)));generalize (2:Int) ^ 200=C at *;split
  ·exact λt ht=>⟨(ih t ht).1,by have:=(ih t ht).2;lia⟩
  ·have g:=wg (Q:=λt=>0<=t/\t<=B) (j:=((5+(i:Int))%4-1).toNat) ih ⟨Kt _,p2⟩
   exact sD (Q:=λt=>0<=t/\t<=B+C) (λt ht=>⟨(ih t ht).1,by have:=(ih t ht).2;lia⟩) ⟨by lia,by lia⟩
def nT(ns:List Int):Nat:=eN ns-5
def wy(ns:List Int):Int:=cel ns 1%10
def tmA(ns:List Int):List Int:=if wy ns%2=1 then (tmS ns (nT ns)).set (wy ns/2%3).toNat 0 else tmS ns (nT ns)
def tmB(ns:List Int):List Int:=if wy ns=2\/wy ns=4 then [0,0,0] else tmA ns
def tmL(ns:List Int)(many:Nat):List Int:=(tmB ns).take many
theorem w8(ns:List Int):(tmB ns).length=3/\∀t∈tmB ns,0<=t/\Sz 210 t:=by
 have hE:=um ns
 have key:∀t∈tmS ns (nT ns),0<=t/\Sz 210 t:=λt ht=>by
  have h:=we ns (nT ns) t ht;refine⟨h.1,?_⟩;have l:((nT ns:Nat):Int) *2 ^ 200<=55*2 ^ 200:=Int.mul_le_mul_of_nonneg_right (by unfold nT;lia) (by decide)
  have m:(55:Int) *2 ^ 200<2 ^ 209:=by decide
  have q:=Int.lt_of_le_of_lt (IU h.2 l) m;unfold Sz;lia
 have z:∀t∈([0,0,0]:List Int),0<=t/\Sz 210 t:=λt ht=>by
  have:t=0:=by simpa using ht
  subst this;exact⟨by decide,Sz.mono (m:=8) (by decide) (by decide)⟩
 unfold tmB;split
 ·exact⟨rfl,z⟩
 ·unfold tmA;split
  ·exact⟨by rw[HM];exact gw _ _,sD (Q:=λt=>0<=t/\Sz 210 t) key ⟨by decide,Sz.mono (m:=8) (by decide) (by decide)⟩⟩
  ·exact⟨gw _ _,key⟩
theorem A6{L:List Int}(h:L.length=3){n:Int}(h0:0<=n)(h1:n<3):ixN (L.map U.int).length n=some n.toNat:=by
 unfold ixN;rw[if_pos h0,if_pos (by rw[EM,h];exact h1)]
theorem map_set(L:List Int)(j:Nat)(v:Int):(L.map U.int).set j (.int v)=(L.set j v).map U.int:=(List.map_set).symm
theorem yK(L:List U)(k:Nat)(h:L.length=3)(hk:1<=k/\k<=3):fI L none (some (k:Int))=L.take k:=by
 match L,h with
 |[a,b,c],_=>
  have:k=1\/k=2\/k=3:=by lia
  rcases this with rfl |rfl |rfl <;>rfl
def oF:List U->Out->Prop:=λus o=>∃(ns:List Int) (many:Nat),us=[.scr (ns.map U.int),.int (many:Int)]/\ns.length<=63/\(∀m∈ns,Sz 1048576 m)/\1<=many/\many<=3/\o=.new ((tmL ns many).map U.int)
theorem k8(T:Txt w K mg):a9 P w K mg base (CXF P w) 2 T.aaw.a T.aaw.d ["script","many"] (spU K (oF)):=by
 refine aW T.aaw.F cA (λus o h=>?_) (λPV A outer s H E O us o hr h=>?_)
 ·obtain⟨ns,many,rfl,hl,hB,m1,m3,rfl⟩:=h;rfl
 obtain⟨ns,many,rfl,hl,hB,m1,m3,rfl⟩:=h;refine Ws.nox ?_;have hE:=um ns;have hn:((eN ns:Int)-5).toNat=nT ns:=by unfold nT;lia
 have c1:=kO hB (k:=1) (by decide) (by decide)
 refine af (dS (i:=2) cA.nd rfl (Or.inl rfl) (cT (aq ai (aq ai (aq ai bj bq) bq) bq)) ?_);refine af (d7 (λi:Nat=>[some (.val (.scr (ns.map U.int))),some (.val (.int (many:Int))),some (.own ((tmS ns i).map U.int)),none,none]) (λi j=>i=j) rfl PassesOwn.never (xS rfl T.aaZ (ae ai (ae (aw ((ix T).mono (by decide)) hr rfl T.aaj.m T.aaj.F.kp T.aaj.b au (ae (aa 0 rfl) ak ag) ⟨ns,rfl,rfl⟩) ak aN) bq) (by lia)) ?h0 ?hs ?hd)
 case h0=>exact⟨0,rfl,rfl,rfl,rfl,trivial⟩
 case hs=>
  rintro H0 i x _ hx rfl;rw[hn]at hx;obtain⟨hi,rfl⟩:=fm hx;have PY:i<55:=by unfold nT at hi;lia
  refine⟨_,(eI (i:=3) cA.nd rfl (Or.inl rfl)),?_⟩;have cz:=kO hB (k:=5+(i:Int)) (by lia) (by lia)
  have tl:=gw ns i;by_cases h:(5+(i:Int))%4=0
  ·refine af (br (aF i4 (dw (aa 3 rfl) ai (by walk_at"mod")) ai) (by rw[decide_eq_true h];rfl) (aG (aG ?_)))
   refine⟨i+1,rfl,rfl,rfl,?_,trivial⟩;exact congrArg (λl=>some (Sl.own l)) (by rw[tmS,if_pos h])
  ·refine af (c7 (aF i4 (dw (aa 3 rfl) ai (by walk_at"mod")) ai) (by rw[decide_eq_false h];rfl) ?_)
   have b0:0<=(5+(i:Int))%4-1:=by lia
   have b1:(5+(i:Int))%4-1<3:=by lia
   refine af (t_ 2 rfl (cO (dU 2 rfl (bA (dw (aa 3 rfl) ai (by decide+kernel)) ai) (o9 b0 (by rw[tl];exact b1))) (dw (aw ((cf T).mono (by decide)) hr rfl T.aaa.m T.aaa.F.kp T.aaa.b au (ae (aa 0 rfl) (ae (aa 3 rfl) ak ag) ag) ⟨ns,_,rfl,hl,by lia,by lia,rfl⟩) (C9 ai ai ⟨by decide,by decide,by decide⟩) (by decide+kernel))) (bA (dw (aa 3 rfl) ai (by decide+kernel)) ai) (A6 tl b0 b1) (aG (aG ?_)))
   refine⟨i+1,rfl,rfl,rfl,?_,trivial⟩;exact congrArg (λl=>some (Sl.own l)) (by rw[map_set,tmS,if_neg h])
 case hd=>
  rintro q ps hq Qh;refine du ?_ Qh;rw[cL,hn]at hq;subst hq;have tl:=gw ns (nT ns);refine af (aV (i:=4) cA.nd rfl (Or.inl rfl) (dw (aw ((cf T).mono (by decide)) hr rfl T.aaa.m T.aaa.F.kp T.aaa.b au (ae (aa 0 rfl) (ae ai ak bq) ag) ⟨ns,_,rfl,hl,by decide,by decide,rfl⟩) ai (by walk_at"mod")) ?_)
  refine kE (λps=>SubP [some (.val (.scr (ns.map U.int))),some (.val (.int (many:Int))),some (.own ((tmA ns).map U.int)),none,some (.val (.int (wy ns)))] ps) (nE (aF bO (dw (aa 4 rfl) ai (by walk_at"mod")) ai) (λhT=>?_) (λhF=>(aG ?_))) ?hj
  ·have h:=dTb hT;have b0:0<=wy ns/2%3:=by lia
   have b1:wy ns/2%3<3:=by lia
   refine af (t_ 2 rfl ai (dw (gL (aa 4 rfl) ai (by walk_at"div")) ai (by walk_at"mod")) (A6 tl b0 b1) (aG ?_))
   refine⟨rfl,rfl,?_,rfl,trivial⟩;exact congrArg (λl=>some (Sl.own l)) (by rw[map_set];unfold tmA;rw[if_pos (show wy ns%2=1 from h)];rfl)
  ·have h:=dFb hF;refine⟨rfl,rfl,?_,rfl,trivial⟩;exact congrArg (λl=>some (Sl.own l)) (by unfold tmA;rw[if_neg (show ¬ wy ns%2=1 from h)])
  case hj=>
   intro ps Qh;refine du ?_ Qh;have tb:=(w8 ns).1;refine kE (λps=>SubP [some (.val (.scr (ns.map U.int))),some (.val (.int (many:Int))),some (.own ((tmB ns).map U.int)),none,some (.val (.int (wy ns)))] ps) (nE (Tw.t (kT (aF bO (aa 4 rfl) ai) (λhz=>(j_ (aF bO (aa 4 rfl) ai))))) (λhT=>?_) (λhF=>(aG ?_))) ?hj2
   ·refine af (dS (i:=2) cA.nd rfl (Or.inl rfl) (cT (aq ai (aq ai (aq ai bj bq) bq) bq)) ?_);refine aG ?_;refine⟨rfl,rfl,?_,rfl,trivial⟩;exact congrArg (λl=>some (Sl.own l)) (by unfold tmB;rw[if_pos (by simpa using hT)];rfl)
   ·refine⟨rfl,rfl,?_,rfl,trivial⟩;exact congrArg (λl=>some (Sl.own l)) (by unfold tmB;rw[if_neg (by simpa using hF)])
   case hj2=>
    intro ps Qh;refine du ?_ Qh;refine my 2 rfl ?_;refine af (cw (cP (aa 2 rfl) dR (dZ (aa 1 rfl)) (.inl rfl)) ?_);rw[yK _ many (by rw[EM];exact tb) ⟨m1,m3⟩,<-MZ]
    exact rfl
structure Es(l:List P2):Prop where
 len:l.length<=3
 asc:l.Pairwise plt
 two:∀a b,l=[a,b]->Ig (b.1-a.1) (b.2-a.2)=1
 three:∀a b c,l=[a,b,c]->ac a b c=1\/ac a b c=-1
def sN(z:List ST3.PQ):Int:=(z.map (·.2)).sum
def sX(z:List ST3.PQ):Int:=(z.map λe=>e.1.1*e.2).sum
def sY(z:List ST3.PQ):Int:=(z.map λe=>e.1.2*e.2).sum
theorem eC:∀(q:List P2) (ts:List Int),d9 (q.map pu) (ts.map U.int)=(q.zip ts).map qU
 |[],_=>by simp[d9]
 |_::_,[]=>by simp[d9]
 |a::q,t::ts=>by
  rw[Ff,Ff,d9,eC q ts,GB,Ff]
def gC(z:List ST3.PQ):List ST3.PQ:=z.filter λe=>decide (0<e.2)
structure QT(q:List P2)(ts:List Int):Prop where
 l:ts.length=q.length
 l3:q.length<=3
 sq:∀p∈q,Szp 2500 p
 st:∀t∈ts,Sz 300 t
 nd:q.Nodup
theorem QT.z{q:List P2}{ts:List Int}(h:QT q ts):(q.zip ts).length<=3:=by have:=h.l;have:=h.l3;rw[List.length_zip];lia
theorem QT.len{q:List P2}{ts:List Int}(h:QT q ts):(q.map pu).length=(ts.map U.int).length:=by rw[EM,EM,h.l]
theorem QT.mem{q:List P2}{ts:List Int}(h:QT q ts){e:ST3.PQ}(he:e∈q.zip ts):Szp 2500 e.1/\Sz 300 e.2:=⟨h.sq _ (Il he).1,h.st _ (Il he).2⟩
def uH:List U->Out->Prop:=λus o=>∃(q:List P2) (ts:List Int),us=[plU q,.lst (ts.map U.int)]/\QT q ts/\o=.new ((SG.srt ST3.KQ (gC (q.zip ts))).map qU)
theorem i_(T:Txt w K mg):a9 P w K mg base (CXF P w) 1 T.aas.a T.aas.d ["piece","times_v"] (spU K (uH)):=by
 refine aW T.aas.F f9 (λus o h=>?_) (λPV A outer s H E O us o hr h=>?_)
 ·obtain⟨q,ts,rfl,K,rfl⟩:=h;rfl
 obtain⟨q,ts,rfl,K,rfl⟩:=h;refine Ws.nox ?_;have kz:=K.z
 have nz:(q.zip ts).Nodup:=by
  have:((q.zip ts).map Ly).Nodup:=by
   rw[List.map_fst_zip (by rw[K.l];exact EX _)];exact K.nd
  exact (FO.mp this).imp λ{a b} h e=>h (by rw[e])
 refine af (cw (ju ST3.KQ qU ((0,0),0) (trs:=gC (q.zip ts)) Df rfl T.aaL (fZ hr) (jk (congrArg U.lst (tI (q.zip ts))) (EvN.ev (xB (k_ (q.zip ts)) rfl (blk (aj gY) ["piece","times_v","spot","many"] [2,3] rfl rfl rfl rfl (by decide+kernel)) (qJ rfl T.aa5 (aa 0 rfl) rfl (aa 1 rfl) (.inl rfl) K.len ag ag) (λ_ _ _ _=>gf rfl (bC (bi (i:=2) f9.nd rfl (Or.inl rfl)) (bC (bi (i:=3) f9.nd rfl (Or.inl rfl)) ef))) (fj (js:=[2,3]) (by decide)) ?clen ?csz ?dom ?ctest ?celt))) ⟨IE (H_ _ _) (by lia),nz.sublist Kv⟩ cU) ?_)
 case clen=>rw[eC];unfold k_;rw[EM,EM]
 case csz=>rw[eC,EM];exact FT (aE (by lia))
 case dom=>
  intro z hz;rw[eC]at hz;obtain⟨e,_,rfl⟩:=EV.mp hz;exact⟨_,rfl,rfl⟩
 case ctest=>
  intro C s' H' fp j z o hz ho;rw[eC,EW]at hz;obtain⟨e,he,rfl⟩:=Hh.mp hz;unfold k_ at ho;rw[EW,he]at ho;cases ho
  have key:(if 0<e.2 then some (qU e) else none).isSome=decide (e.2 >0):=by
   by_cases h:0<e.2
   ·rw[if_pos h,decide_eq_true h];rfl
   ·rw[if_neg h,decide_eq_false h];rfl
  rw[key];exact (aF f8 (aa 3 rfl) ai)
 case celt=>
  intro C s' H' fp j z y hz hy;rw[eC,EW]at hz;obtain⟨e,he,rfl⟩:=Hh.mp hz;unfold k_ at hy;rw[EW,he]at hy;by_cases h:0<e.2
  ·rw[Ku,if_pos h]at hy;cases hy;exact (bw (aq (aa 2 rfl) (aq (aa 3 rfl) bj ag) ag))
  ·rw[Ku,if_neg h]at hy;cases hy
 exact rfl
def qD:List U->Out->Prop:=λus o=>∃(q:List P2) (ts:List Int),us=[plU q,.lst (ts.map U.int)]/\QT q ts/\o=.val (pu (sX (q.zip ts),sY (q.zip ts)))
theorem iC(T:Txt w K mg):a9 P w K mg base (CXF P w) 1 T.aak.a T.aak.d ["piece","times_v"] (spU K (qD)):=by
 refine aW T.aak.F ck (λus o h=>?_) (λPV A outer s H E O us o hr h=>?_)
 ·obtain⟨q,ts,rfl,K,rfl⟩:=h;rfl
 obtain⟨q,ts,rfl,K,rfl⟩:=h;refine Ws.nox ?_;have kz:=K.z;refine af (aV (i:=2) ck.nd rfl (Or.inl rfl) (ar (iN rfl (ns:=(q.zip ts).map λe=>e.1.1*e.2)) rfl T.aa4 M8 (ae (EvN.ev (rP (ys:=((q.zip ts).map λe=>e.1.1*e.2).map U.int) rfl (blk (aj eu) ["piece","times_v","x","spot","many"] [3,4] rfl rfl rfl rfl (by decide+kernel)) (by exact qJ rfl T.aa5 (aa 0 rfl) rfl (aa 1 rfl) (.inl rfl) K.len ag ag) (λ_ _ _ _=>gf rfl (bC (bi (i:=3) ck.nd rfl (Or.inl rfl)) (bC (bi (i:=4) ck.nd rfl (Or.inl rfl)) ef))) (fj (js:=[3,4]) (by decide)) ?clen ?csz ?dom ?celt)) ak cU)) ?_)
 case clen=>rw[eC];simp
 case csz=>rw[eC,EM];exact FT (aE (by lia))
 case dom=>
  intro z hz;rw[eC]at hz;obtain⟨e,_,rfl⟩:=EV.mp hz;exact⟨_,rfl,rfl⟩
 case celt=>
  intro C s' H' fp j z y hz hy;rw[eC]at hz;rw[FI]at hy;obtain⟨e,he,me,rfl,rfl⟩:=eF hz hy;have h1:=(K.mem me).1.1;have h2:=(K.mem me).2;exact (be (ay (aa 3 rfl) ai rfl rfl) (aa 4 rfl) (by walk_at"mul"))
 refine af (bg (bw (aq (aa 2 rfl) (aq (ar (iN rfl (ns:=(q.zip ts).map λe=>e.1.2*e.2)) rfl T.aa4 M8 (ae (EvN.ev (rP (ys:=((q.zip ts).map λe=>e.1.2*e.2).map U.int) rfl (blk (aj eu) ["piece","times_v","x","spot","many"] [3,4] rfl rfl rfl rfl (by decide+kernel)) (by exact qJ rfl T.aa5 (aa 0 rfl) rfl (aa 1 rfl) (.inl rfl) K.len ag ag) (λ_ _ _ _=>gf rfl (bC (bi (i:=3) ck.nd rfl (Or.inl rfl)) (bC (bi (i:=4) ck.nd rfl (Or.inl rfl)) ef))) (fj (js:=[3,4]) (by decide)) ?clen ?csz ?dom ?celt)) ak cU)) bj aN) ag)) ?_)
 case clen=>rw[eC];simp
 case csz=>rw[eC,EM];exact FT (aE (by lia))
 case dom=>
  intro z hz;rw[eC]at hz;obtain⟨e,_,rfl⟩:=EV.mp hz;exact⟨_,rfl,rfl⟩
 case celt=>
  intro C s' H' fp j z y hz hy;rw[eC]at hz;rw[FI]at hy;obtain⟨e,he,me,rfl,rfl⟩:=eF hz hy;have h1:=(K.mem me).1.2;have h2:=(K.mem me).2;exact (be (ay (aa 3 rfl) ai rfl rfl) (aa 4 rfl) (by walk_at"mul"))
 exact rfl
def p6:List U->Out->Prop:=λus o=>∃z:List ST3.PQ,us=[.lst (z.map qU),.lst (z.map qU)]/\o=.val (.bl true)
theorem h7(T:Txt w K mg):a9 P w K mg base (CXF P w) 2 T.aal.a T.aal.d ["found","due"] (spU K (p6)):=by
 refine aW T.aal.F iF (λus o h=>?_) (λPV A outer s H E O us o hr h=>?_)
 ·obtain⟨z,rfl,rfl⟩:=h;rfl
 obtain⟨z,rfl,rfl⟩:=h;refine Ws.nox ?_;have okt:okU 9 (.lst (z.map qU))=true:=oa λ_=>rfl
 refine af (br (Tw.t (kT (dY (dD (ar (bZ (by intro _ h;cases h) (L2.kit_list_list _)) rfl T.aac GP (ae (aa 0 rfl) (ae (kA rfl T.aaK Ip) ak ag) ag)))) (λhz=>(j_ (aF (EB (fZ hr) okt okt) (aa 0 rfl) (aa 1 rfl)))))) (by rw[jO 9 _ okt];rfl) (aG ?_))
 refine af (d7 (λ_:Unit=>[some (.val (.lst (z.map qU))),some (.val (.lst (z.map qU))),none]) (λ_ _=>True) rfl PassesOwn.never (c9 (aa 0 rfl) (.inl rfl)) ?h0 ?hs ?hd)
 case h0=>exact⟨(),trivial,rfl,rfl,trivial⟩
 case hs=>
  rintro H0 i y _ hy _;rw[EW]at hy;obtain⟨e,he,rfl⟩:=Hh.mp hy;refine⟨_,(eI (i:=2) iF.nd rfl (Or.inl rfl)),?_⟩;refine af (br (Tw.t (kT (dY (dD (ar (bZ (by intro _ h;cases h) (by walk_at"kit")) rfl T.aac GP (ae (aa 2 rfl) (ae (kA rfl T.aaY Li) ak ag) ag)))) (λhz=>(kT (dY (dD (aw ((eS T).mono (by decide)) hr rfl T.aab.m T.aab.F.kp T.aab.b au (ae (ay (aa 2 rfl) ai rfl rfl) ak aR) ⟨_,rfl,rfl⟩))) (λhz=>(j_ (dY (dD (ar (bZ (by intro _ h;cases h) (by walk_at"kit")) rfl T.aac GP (ae (ay (aa 2 rfl) ai rfl rfl) (ae (kA rfl T.aaY Li) ak ag) aR)))))))))) rfl (aG (aG ?_)))
  exact⟨(),trivial,rfl,rfl,trivial⟩
 case hd=>
  rintro _ ps _ Qh;refine du ?_ Qh;refine af (bg zP ?_);exact rfl
def oE:List U->Out->Prop:=λus o=>∃q l:List P2,us=[plU q,lp l]/\q.length=min 3 l.length/\l≠[]/\l.length<=900/\(∀p∈l,Szp 5000 p)/\(∀p∈q,Szp 5000 p/\cx l p=true)/\o=.val (.bl true)
theorem kW(T:Txt w K mg):a9 P w K mg base (CXF P w) 3 T.aau.a T.aau.d ["piece","land"] (spU K (oE)):=by
 refine aW T.aau.F gH (λus o h=>?_) (λPV A outer s H E O us o hr h=>?_)
 ·obtain⟨q,l,rfl,hm,PN,hl,sl,hq,rfl⟩:=h;rfl
 obtain⟨q,l,rfl,hm,PN,hl,sl,hq,rfl⟩:=h;refine Ws.nox ?_
 refine af (br (Tw.t (kT (dY (dD (ar (bZ (by intro _ h;cases h) (by walk_at"kit")) rfl T.aac GP (ae (aa 0 rfl) (ae (kA rfl T.aaY Li) ak ag) ag)))) (λhz=>(j_ (aF i4 (ar (bJ rfl) rfl T.aae Fp (ae (aa 0 rfl) ak ag)) (ar (A9 rfl) rfl T.aa6 NN (ae ai (ae (ar (bJ rfl) rfl T.aae Fp (ae (aa 1 rfl) ak ag)) ak aN) bq))))))) (show (!true || !decide (((q.map pu).length:Int)=if ((l.map pu).length:Int)<3 then ((l.map pu).length:Int) else 3))=false by
  rw[decide_eq_true (by rw[EM,EM];split <;>lia)];rfl) (aG ?_))
 refine af (d7 (λ_:Unit=>[some (.val (plU q)),some (.val (lp l)),none]) (λ_ _=>True) rfl PassesOwn.never (A2 (aa 0 rfl)) ?h0 ?hs ?hd)
 case h0=>exact⟨(),trivial,rfl,rfl,trivial⟩
 case hs=>
  rintro H0 i y _ hy _;obtain⟨p,hp,mp,rfl⟩:=t7 hy;refine⟨_,(eI (i:=2) gH.nd rfl (Or.inl rfl)),?_⟩;refine af (br (Tw.t (kT (dY (dD (ar (bZ (by intro _ h;cases h) (by walk_at"kit")) rfl T.aac GP (ae (aa 2 rfl) (ae (kA rfl T.aaY Li) ak ag) ag)))) (λhz=>(kT (aF i4 (ar (bJ rfl) rfl T.aae Fp (ae (aa 2 rfl) ak ag)) ai) (λhz=>(kT (dY (dD (aw ((eS T).mono (by decide)) hr rfl T.aab.m T.aab.F.kp T.aab.b au (ae (ay (aa 2 rfl) ai rfl rfl) ak aR) ⟨_,rfl,rfl⟩))) (λhz=>(j_ (dY (dD (aw ((eS T).mono (by decide)) hr rfl T.aab.m T.aab.F.kp T.aab.b au (ae (ay (aa 2 rfl) ai rfl rfl) ak aR) ⟨_,rfl,rfl⟩))))))))))) rfl (aG ?_))
  refine af (br (dY (dD (aw ((qd T).mono (by decide)) hr rfl T.aaP.m T.aaP.F.kp T.aaP.b au (ae (aa 1 rfl) (ae (aa 2 rfl) ak ag) ag) ⟨l,p,rfl,PN,hl,sl,(hq p mp).1,rfl⟩))) (by rw[(hq p mp).2];rfl) (aG (aG ?_)))
  exact⟨(),trivial,rfl,rfl,trivial⟩
 case hd=>
  rintro _ ps _ Qh;refine du ?_ Qh;refine af (bg zP ?_);exact rfl
theorem uL{l m:List Int}(h:l.Perm m):l.sum=m.sum:=by
 induction h with
 |nil=>rfl
 |cons x _ ih=>rw[Ia,Ia,ih]
 |swap x y l=>simp only[Ia];lia
 |trans _ _ h1 h2=>exact h1.trans h2
theorem oS{l:List ST3.PQ}(h:l.Nodup):(SG.srt ST3.KQ l).Perm l:=by
 refine (HR ?_ h).mpr λz=>SG.srt_mem _ z l
 exact (SG.srt_asc ST3.KQ l).imp λ{a b} h e=>by subst e;rw[SG.irr]at h;cases h
theorem mF(k:Int)(a b d x:P2):dk k b d x+dk k d a x+dk k a b x=k*ac a b d:=by unfold dk ac;grind
theorem yZ(k:Int)(a b d x:P2):a.1*dk k b d x+b.1*dk k d a x+d.1*dk k a b x=x.1*ac a b d/\a.2*dk k b d x+b.2*dk k d a x+d.2*dk k a b x=x.2*ac a b d:=by
 unfold dk ac;constructor <;>grind
theorem rS{α:Type}(f:α->Int)(g:α->Int)(h:∀e,g e=0->f e=0):∀l:List α,(∀e∈l,0<=g e)->((l.filter λe=>decide (0<g e)).map f).sum=(l.map f).sum
 |[],_=>rfl
 |e::l,hl=>by
  have ih:=rS f g h l λz hz=>hl z (ES _ hz)
  have h0:=hl e EY;rw[LG,Ff,Ia];by_cases k:0<g e
  ·rw[if_pos (by simpa using k),Ff,Ia,ih]
  ·rw[if_neg (by simpa using k),ih,h e (by lia)];lia
theorem zk{u1 u2 v1 v2:Int}(h:u1*v2-u2*v1=1\/u1*v2-u2*v1=-1):Ig u1 u2=1:=by
 have d1:((Ig u1 u2:Nat):Int) ∣ u1:=Jm ..;have d2:((Ig u1 u2:Nat):Int) ∣ u2:=I_ ..
 have:((Ig u1 u2:Nat):Int) ∣ 1:=by
  have e:=Ks (LB (c:=v2) d1) (LB (c:=v1) d2);rcases h with h |h
  ·rwa [h]at e
  ·rw[h]at e;exact (Lx).mp e
 have:=Int.eq_one_of_dvd_one (by lia) this
 lia
theorem pU{a b d p q r:P2}(hd:ac a b d=1)(hn:[p,q,r].Nodup)(hs:∀z∈[p,q,r],z∈[a,b,d]):ac p q r=1\/ac p q r=-1:=by
 have e1:ac a d b=-1:=by have:ac a d b=-ac a b d:=by unfold ac;grind
                         lia
 have e2:ac b a d=-1:=by have:ac b a d=-ac a b d:=by unfold ac;grind
                         lia
 have e3:ac d b a=-1:=by have:ac d b a=-ac a b d:=by unfold ac;grind
                         lia
 have e4:ac b d a=1:=by have:ac b d a=ac a b d:=by unfold ac;grind
                        lia
 have e5:ac d a b=1:=by have:ac d a b=ac a b d:=by unfold ac;grind
                        lia
 have hp:=hs p (by simp)
 have hq:=hs q (by simp)
 have hr:=hs r (by simp)
 simp only[ET,Fm,or_false]at hp hq hr;simp only[GN,ET,Fm,or_false,not_or,MK,and_true,not_false_iff]at hn;obtain⟨⟨n1,n2⟩,n3⟩:=hn;rcases hp with rfl |rfl |rfl <;>rcases hq with rfl |rfl |rfl <;>rcases hr with rfl |rfl |rfl <;>first |exact absurd rfl n1 |exact absurd rfl n2 |exact absurd rfl n3 |lia
theorem xE{a b d p q:P2}(hd:ac a b d=1)(hn:p≠q)(hp:p∈[a,b,d])(hq:q∈[a,b,d]):Ig (q.1-p.1) (q.2-p.2)=1:=by
 simp only[ET,Fm,or_false]at hp hq;have key:∀r:P2,(ac p q r=1\/ac p q r=-1)->Ig (q.1-p.1) (q.2-p.2)=1:=λr h=>zk (v1:=r.1-p.1) (v2:=r.2-p.2) (by unfold ac at h;exact h)
 have nd:[a,b,d].Nodup:=by
  have z1:a≠b:=fun e=>by subst e;have:ac a a d=0:=by unfold ac;grind
                         lia
  have z2:a≠d:=fun e=>by subst e;have:ac a b a=0:=by unfold ac;grind
                         lia
  have z3:b≠d:=fun e=>by subst e;have:ac a b b=0:=by unfold ac;grind
                         lia
  simp[z1,z2,z3]
 have third:∃r∈[a,b,d],r≠p/\r≠q:=by
  simp only[GN,ET,Fm,or_false,not_or]at nd;obtain⟨⟨n1,n2⟩,n3,_⟩:=nd;rcases hp with rfl |rfl |rfl <;>rcases hq with rfl |rfl |rfl
  ·exact absurd rfl hn
  ·exact⟨d,by simp,Ne.symm n2,Ne.symm n3⟩
  ·exact⟨b,by simp,Ne.symm n1,n3⟩
  ·exact⟨d,by simp,Ne.symm n3,Ne.symm n2⟩
  ·exact absurd rfl hn
  ·exact⟨a,by simp,n1,n2⟩
  ·exact⟨b,by simp,n3,Ne.symm n1⟩
  ·exact⟨a,by simp,n2,n1⟩
  ·exact absurd rfl hn
 obtain⟨r,mr,r1,r2⟩:=third;refine key r (pU hd (p:=p) (q:=q) (r:=r) (by simp[hn,Ne.symm r1,Ne.symm r2]) λz hz=>?_)
 simp only[ET,Fm,or_false]at hz |-;rcases hz with rfl |rfl |rfl
 ·exact hp
 ·exact hq
 ·simpa using mr
structure Dc(c:List P2)(k:Int)(x:P2)(z:List ST3.PQ):Prop where
 n:sN z=k
 x1:sX z=x.1
 y1:sY z=x.2
 len:z.length<=3
 pos:∀e∈z,1<=e.2
 mem:∀e,e∈z↔e∈wts c k x/\0<e.2
 near:Es (z.map (·.1))
theorem ue{a b d x:P2}{k:Int}(hd:ac a b d=1)(w1:0<=dk k b d x)(w2:0<=dk k d a x)(w3:0<=dk k a b x):Dc [a,b,d] k x (eM [a,b,d] k x):=by
 have z1:a≠b:=fun e=>by subst e;have:ac a a d=0:=by unfold ac;grind
                        lia
 have z2:a≠d:=fun e=>by subst e;have:ac a b a=0:=by unfold ac;grind
                        lia
 have z3:b≠d:=fun e=>by subst e;have:ac a b b=0:=by unfold ac;grind
                        lia
 have hw:wts [a,b,d] k x=[(a,dk k b d x),(b,dk k d a x),(d,dk k a b x)]:=rfl;have ndw:(wts [a,b,d] k x).Nodup:=by rw[hw];simp[z1,z2,z3]
 have nn:∀e∈wts [a,b,d] k x,0<=e.2:=λe he=>by
  rw[hw]at he;simp only[ET,Fm,or_false]at he;rcases he with rfl |rfl |rfl
  ·exact w1
  ·exact w2
  ·exact w3
 have ndf:=ndw.sublist (Kv (p:=λz:P2×Int=>decide (0<z.2)))
 have pm:=oS ndf
 have mem:∀e,e∈eM [a,b,d] k x↔e∈wts [a,b,d] k x/\0<e.2:=λe=>by
  unfold eM;rw[pm.mem_iff,F_];simp
 have sm:∀f:P2×Int->Int,(∀e,e.2=0->f e=0)->((eM [a,b,d] k x).map f).sum=f (a,dk k b d x)+f (b,dk k d a x)+f (d,dk k a b x):=λf hf=>by
  unfold eM;rw[uL (pm.map f)];have:=rS f (λe=>e.2) hf (wts [a,b,d] k x) nn
  rw[this,hw];simp;lia
 have s0:=mF k a b d x;obtain⟨s1,s2⟩:=yZ k a b d x;rw[hd]at s0 s1 s2;have asc:=SG.srt_asc ST3.KQ ((wts [a,b,d] k x).filter λz=>decide (0<z.2))
 have sub:∀p∈(eM [a,b,d] k x).map (·.1),p∈[a,b,d]:=λp hp=>by
  obtain⟨e,he,rfl⟩:=EV.mp hp;have:=((mem e).mp he).1;rw[hw]at this;simp only[ET,Fm,or_false]at this |-;rcases this with rfl |rfl |rfl <;>simp
 have one:∀e∈wts [a,b,d] k x,∀e'∈wts [a,b,d] k x,e.1=e'.1->e=e':=λe he e' he' h=>by
  rw[hw]at he he';simp only[ET,Fm,or_false]at he he';rcases he with rfl |rfl |rfl <;>rcases he' with rfl |rfl |rfl <;>first |rfl |exact absurd h z1 |exact absurd h z2 |exact absurd h z3 |exact absurd h (Ne.symm z1) |exact absurd h (Ne.symm z2) |exact absurd h (Ne.symm z3)
 have pl:((eM [a,b,d] k x).map (·.1)).Pairwise plt:=by
  refine FO.mpr (Jq (λ{e e'} he he' h=>?_) asc)
  have m1:=((mem e).mp he).1;have m2:=((mem e').mp he').1;have h':ST3.ltQ e e'=true:=h;unfold ST3.ltQ at h';by_cases q:e.1=e'.1
  ·have:=one e m1 e' m2 q;subst this;rw[if_pos rfl]at h';simp at h'
  ·rw[if_neg q]at h';exact (dW _ _).mpr h'
 have len:(eM [a,b,d] k x).length<=3:=by
  unfold eM;rw[pm.length_eq];exact GJ (H_ _ _) (by rw[hw];simp)
 refine⟨?_,?_,?_,len,λe he=>by have:=((mem e).mp he).2;lia,mem,⟨by rw[EM];exact len,pl,λp q e=>?_,λp q r e=>?_⟩⟩
 ·unfold sN;rw[sm (λe=>e.2) λe h=>h]
  dsimp only;lia
 ·unfold sX;rw[sm (λe=>e.1.1*e.2) λe h=>by rw[h];simp]
  dsimp only;lia
 ·unfold sY;rw[sm (λe=>e.1.2*e.2) λe h=>by rw[h];simp]
  dsimp only;lia
 ·rw[e]at pl sub;have ne:p≠q:=λz=>by subst z;exact aB p ((Fv.mp pl).1 p (by simp))
  exact xE hd ne (sub p (by simp)) (sub q (by simp))
 ·rw[e]at pl sub;refine pU hd ?_ sub;exact pl.imp λ{a b} h e=>by subst e;exact aB a h
def CX(s k:Int)(x:P2):List P2->Prop
 |b::a::r=>s*dk k a b x<=0/\CX s k x (a::r)
 |_=>True
theorem eU(a b q:P2):dk 1 a b q=ac a b q:=by unfold dk ac;grind
theorem ku{α:Type}{p:α->Bool}:∀{L:List α},(∃x∈L,p x=true)->∃u q v,L=u++q::v/\(∀r∈u,p r=false)/\p q=true
 |[],⟨x,hx,_⟩=>by cases hx
 |a::L,⟨x,hx,h⟩=>by
  cases ha:p a with
  |true=>exact⟨[],a,L,rfl,(λr hr=>by cases hr),ha⟩
  |false=>
   have Q9:x∈L:=by
    rcases ET.mp hx with e |e
    ·subst e;rw[ha]at h;cases h
    ·exact e
   obtain⟨u,q,v,e,h1,h2⟩:=ku (p:=p) ⟨x,Q9,h⟩;refine⟨a::u,q,v,by rw[e];rfl,λr hr=>?_,h2⟩
   rcases ET.mp hr with e |e
   ·rw[e];exact ha
   ·exact h1 r e
theorem AO{b c p q r:P2}(h:plt b c)(hp:ac b c p=0)(hq:ac b c q=0)(hr:ac b c r=0):ac p q r=0:=by
 have l:=aI h;unfold bQ at l
 have f:(c.1-b.1) *ac p q r=0/\(c.2-b.2) *ac p q r=0:=by
  unfold ac at *;constructor <;>grind
 rcases l with z |⟨z,z2⟩
 ·exact (Fi.mp f.1).resolve_left (by lia)
 ·exact (Fi.mp f.2).resolve_left (by lia)
structure Cq(l:List P2)(t:ST3.TR):Prop where
 d:ac t.1 t.2.1 t.2.2=1
 c:ao [t.1,t.2.1,t.2.2]=[t.1,t.2.1,t.2.2]
 m1:t.1∈aH l
 m2:t.2.1∈aH l
 m3:t.2.2∈aH l
theorem jX{l:List P2}(F:Fld l)(h3:3<=l.length){s:Int}(hs:s=1\/s=-1){t:Tri}(ht:t∈(bv s (aH l)).2):TOk s (aH l) t/\s*gF t=1/\bD t∈pcs l/\Cq l (bD t)/\
  ∀(k:Int) (x:P2),(0<=s*dk k t.1 t.2.1 x/\0<=s*dk k t.2.1 t.2.2 x/\0<=s*dk k t.2.2 t.1 x)↔(0<=dk k (bD t).1 (bD t).2.1 x/\0<=dk k (bD t).2.1 (bD t).2.2 x/\0<=dk k (bD t).2.2 (bD t).1 x):=by
 have hp:=bG l;have T:=eA hs _ hp t ht;have d1:=nG hs hp (lO F h3) t ht;have hd:s*gF t=1:=by rcases hs with rfl |rfl <;>lia
 have mp:bD t∈pcs l:=by
  refine EV.mpr ⟨t,?_,rfl⟩;unfold jI;rcases hs with rfl |rfl
  ·exact FH _ ht
  ·exact Fg _ ht
 obtain⟨k1,k2,k3⟩:=ww mp;have ct:=pP T.ab T.bP (λz=>by unfold gF at hd;rw[z]at hd;simp at hd)
 have cc:ao [(bD t).1,(bD t).2.1,(bD t).2.2]=[(bD t).1,(bD t).2.1,(bD t).2.2]:=by
  have:=gB [t.1,t.2.1,t.2.2];rw[ct]at this;exact this
 have sw:∀(k:Int) (a b x:P2),dk k a b x=-dk k b a x:=λk a b x=>by unfold dk;grind
 refine⟨T,hd,mp,⟨?_,cc,k1,k2,k3⟩,λk x=>?_⟩
 ·unfold bD;unfold gF at hd;split
  ·rename_i h
   dsimp only;rcases hs with rfl |rfl <;>lia
  ·rename_i h
   have:ac t.1 t.2.2 t.2.1=-ac t.1 t.2.1 t.2.2:=by unfold ac;grind
   rcases hs with rfl |rfl <;>dsimp only <;>lia
 ·unfold bD;unfold gF at hd;have e1:=sw k t.1 t.2.1 x;have e2:=sw k t.2.1 t.2.2 x;have e3:=sw k t.2.2 t.1 x;split
  ·rename_i h
   have:s=1:=by rcases hs with rfl |rfl <;>lia
   subst this;dsimp only;constructor <;>intro ⟨a,b,c⟩ <;>refine⟨?_,?_,?_⟩ <;>lia
  ·rename_i h
   have:s=-1:=by rcases hs with rfl |rfl <;>lia
   subst this;dsimp only;constructor <;>intro ⟨a,b,c⟩ <;>refine⟨?_,?_,?_⟩ <;>lia
theorem tY{l:List P2}(F:Fld l)(h3:3<=l.length){T:ST3.TR}(h:T∈pcs l):Cq l T/\∀p∈aH l,0<=ac T.1 T.2.1 p->0<=ac T.2.1 T.2.2 p->0<=ac T.2.2 T.1 p->p=T.1\/p=T.2.1\/p=T.2.2:=by
 obtain⟨t,ht,rfl⟩:=EV.mp h
 have key:∀s,s=1\/s=-1->t∈(bv s (aH l)).2->Cq l (bD t)/\∀p∈aH l,0<=ac (bD t).1 (bD t).2.1 p->0<=ac (bD t).2.1 (bD t).2.2 p->0<=ac (bD t).2.2 (bD t).1 p->p=(bD t).1\/p=(bD t).2.1\/p=(bD t).2.2:=λs hs ht=>by
  obtain⟨T,hd,_,R,eq⟩:=jX F h3 hs ht;refine⟨R,λp hp i1 i2 i3=>?_⟩
  have:=(eq 1 p).mpr (by rw[eU,eU,eU];exact⟨i1,i2,i3⟩)
  rw[eU,eU,eU]at this;have v:=e9 hs T hp this.1 this.2.1 this.2.2;unfold bD;split <;>dsimp only <;>grind
 rcases FA.mp ht with z |z
 ·exact key 1 (.inl rfl) z
 ·exact key (-1) (.inr rfl) z
theorem rQ{T:ST3.TR}{k:Int}{x:P2}(hk:0<k)(hc:ao [T.1,T.2.1,T.2.2]=[T.1,T.2.1,T.2.2]):inK k [T.1,T.2.1,T.2.2] x=true↔0<=dk k T.1 T.2.1 x/\0<=dk k T.2.1 T.2.2 x/\0<=dk k T.2.2 T.1 x:=by
 have e:ao ([T.1,T.2.1,T.2.2].map (scl k))=[scl k T.1,scl k T.2.1,scl k T.2.2]:=by rw[oJ (sT hk) (Ae hk),hc];rfl
 have dd:∀a b:P2,ac (scl k a) (scl k b) x=k*dk k a b x:=λa b=>by unfold scl ac dk;grind
 have ds:nA [scl k T.1,scl k T.2.1,scl k T.2.2] x=[k*dk k T.1 T.2.1 x,k*dk k T.2.1 T.2.2 x,k*dk k T.2.2 T.1 x]:=by
  unfold nA sdl nxt;simp[JF,gp,dd]
 unfold inK;rw[e];unfold whr;rw[if_neg (by simp),ds,decide_eq_true_iff]
 have ok:=bR (l:=[k*dk k T.1 T.2.1 x,k*dk k T.2.1 T.2.2 x,k*dk k T.2.2 T.1 x]) (by simp)
 have sg:∀n:Int,-1<sgn n↔0<=n:=λn=>by unfold sgn;split <;>(try split) <;>lia
 rw[sg]
 have pos:∀{y:Int},0<=k*y↔0<=y:=λ{y}=>⟨λh=>by
  rcases FQ y 0 with z |z
  ·have:=Ii hk z;lia
  ·exact z,λh=>E8 (by lia) h⟩
 constructor
 ·intro h;refine⟨pos.mp (IU h (ok.2 _ (by simp))),pos.mp (IU h (ok.2 _ (by simp))),pos.mp (IU h (ok.2 _ (by simp)))⟩
 ·rintro ⟨h1,h2,h3⟩;have m:=ok.1;generalize j5 [k*dk k T.1 T.2.1 x,k*dk k T.2.1 T.2.2 x,k*dk k T.2.2 T.1 x]=w at *;simp only[ET,Fm,or_false]at m;rcases m with rfl |rfl |rfl
  ·exact pos.mpr h1
  ·exact pos.mpr h2
  ·exact pos.mpr h3
structure C7(q:List P2)(k:Int)(x:P2)(c:List P2):Prop where
 W:Wd q c
 sz:∀p∈c,Szp 5000 p
 nd:c.Nodup
 T:Dc c k x (eM c k x)
 mem:∀e∈eM c k x,e.1∈q
theorem mt{a b d:P2}(h:ac a b d=1):[a,b,d].Nodup:=by
 have z1:a≠b:=fun e=>by subst e;have:ac a a d=0:=by unfold ac;grind
                        lia
 have z2:a≠d:=fun e=>by subst e;have:ac a b a=0:=by unfold ac;grind
                        lia
 have z3:b≠d:=fun e=>by subst e;have:ac a b b=0:=by unfold ac;grind
                        lia
 simp[z1,z2,z3]
theorem hW.f150{l:List P2}(O:hW l):∀p∈aH l,Szp 150 p:=λp hp=>by
 have q:=(de O.F.ne).mp (O.F.in_box ((bp O.F p).mp hp));obtain⟨_,_,w1,w2,w3,w4⟩:=nP O.F.ne O.sz;exact⟨iK w1 w2 q.1.1 q.1.2,iK w3 w4 q.2.1 q.2.2⟩
theorem pZ(A:P2):ao [A]=[A]:=by
 rw[bU (by have:=ST.srt_len [A];simp at this;lia)]
 exact ST.asc_srt (LC _ _)
theorem jv{A x:P2}{k:Int}:inK k [A] x=true↔x=scl k A:=by
 unfold inK;rw[Ff,Jp,pZ];unfold whr;rw[if_pos (by simp),decide_eq_true_iff]
 show -1<(if btw (scl k A) (scl k A) x=true then 0 else -1)↔_
 unfold btw;rw[show ac (scl k A) (scl k A) x=0 by unfold ac;grind]
 by_cases h:x=scl k A
 ·subst h;rw[if_pos (by unfold ST.leP;simp)]
  simp
 ·rw[if_neg]
  ·simp[h]
  ·intro z;simp at z;rw[bo,bo]at z;exact h (GC (by lia) (by lia))
theorem Bp(A:P2):c6 (A.1+1-A.1) (A.2-A.2) 1 1 0:=by
 have e1:A.1+1-A.1=1:=by lia
 have e2:A.2-A.2=0:=by lia
 rw[e1,e2];exact⟨by decide,by decide,by decide,by decide,λ_=>⟨rfl,by decide,by decide⟩,λh=>absurd rfl h⟩
theorem A5{A:P2}(O:hW [A]){k:Int}{x:P2}(hk:0<k)(hi:inK k [A] x=true):C7 [A] k x [A,(A.1+1,A.2),(A.1-0,A.2+1)]/\eM [A,(A.1+1,A.2),(A.1-0,A.2+1)] k x=[(A,k)]:=by
 have hx:=jv.mp hi;have hd:ac A (A.1+1,A.2) (A.1-0,A.2+1)=1:=by unfold ac;dsimp only;grind
 have w1:dk k (A.1+1,A.2) (A.1-0,A.2+1) x=k:=by rw[hx];unfold dk scl;dsimp only;grind
 have w2:dk k (A.1-0,A.2+1) A x=0:=by rw[hx];unfold dk scl;dsimp only;grind
 have w3:dk k A (A.1+1,A.2) x=0:=by rw[hx];unfold dk scl;dsimp only;grind
 have T:=ue (k:=k) (x:=x) hd (by lia) (by lia) (by lia)
 have sA:=O.sz A (by simp)
 have o:Sz 150 (1:Int):=Sz.mono (m:=8) (by decide) (by decide)
 have m:∀e:P2×Int,e∈eM [A,(A.1+1,A.2),(A.1-0,A.2+1)] k x↔e=(A,k):=λe=>by
  rw[T.mem];simp only[wts,ET,Fm,or_false];rw[w1,w2,w3];obtain⟨a,n⟩:=e;simp only[JC];constructor
  ·rintro ⟨⟨rfl,rfl⟩ |⟨_,rfl⟩ |⟨_,rfl⟩,h⟩
   ·exact⟨rfl,rfl⟩
   ·lia
   ·lia
  ·rintro ⟨rfl,rfl⟩;exact⟨.inl ⟨rfl,rfl⟩,hk⟩
 refine⟨⟨.one A 1 0 (Bp A),λp hp=>?_,mt hd,T,λe he=>?_⟩,?_⟩
 ·simp only[ET,Fm,or_false]at hp;rcases hp with rfl |rfl |rfl
  ·exact sA.mono (by decide)
  ·exact⟨(L2.Sz.add' sA.1 o).mono (by decide),sA.2.mono (by decide)⟩
  ·exact⟨by rw[KM];exact sA.1.mono (by decide),(L2.Sz.add' sA.2 o).mono (by decide)⟩
 ·rw[(m e).mp he];simp
 ·exact SG.asc_one ST3.KQ (SG.srt_asc ST3.KQ _) (LC _ _) λz=>by rw[E5];exact m z
theorem dH:∀{r:List P2}{q:List P2},r.Pairwise plt->q∈dy r->∃a b,q=[a,b]/\a∈r/\b∈r/\plt a b/\∀c∈r,plt a c->plt c b->False
 |[],q,_,h=>by cases h
 |[_],q,_,h=>by cases h
 |a::b::r,q,hs,h=>by
  obtain⟨h1,h2⟩:=Fv.mp hs;rcases ET.mp h with e |e
  ·refine⟨a,b,e,by simp,by simp,h1 b (by simp),λc hc l1 l2=>?_⟩
   rcases ET.mp hc with e |e
   ·subst e;exact aB _ l1
   ·rcases ET.mp e with e |e
    ·subst e;exact aB _ l2
    ·exact aB _ (aD l2 ((Fv.mp h2).1 c e))
  ·obtain⟨c,d,e1,e2,e3,e4,e5⟩:=dH h2 e;refine⟨c,d,e1,ES _ e2,ES _ e3,e4,λy hy l1 l2=>?_⟩
   rcases ET.mp hy with z |z
   ·subst z;exact aB _ (aD l1 (h1 c e2))
   ·exact e5 y z l1 l2
theorem Ct{a b:P2}(h:plt a b):ao [a,b]=[a,b]:=by
 have e:ST.srt [a,b]=[a,b]:=ST.asc_srt (by simp[(dW a b).mp h])
 rw[kN (by rw[e];rfl),e]
theorem jz{a b x:P2}{k:Int}(hk:0<k)(h:plt a b):inK k [a,b] x=true↔dk k a b x=0/\ST.leP (scl k a) x=true/\ST.leP x (scl k b)=true:=by
 unfold inK;rw[Ff,Ff,Jp,Ct (sT hk _ _ h)];unfold whr;rw[if_pos (by simp),decide_eq_true_iff]
 show -1<(if btw (scl k a) (scl k b) x=true then 0 else -1)↔_
 have dd:ac (scl k a) (scl k b) x=k*dk k a b x:=by unfold scl ac dk;grind
 have z:decide (ac (scl k a) (scl k b) x=0)=decide (dk k a b x=0):=decide_eq_decide.mpr (by
  rw[dd];exact⟨λe=>(Fi.mp e).resolve_left (by lia),λe=>by rw[e];simp⟩)
 unfold btw;rw[z];by_cases h1:dk k a b x=0/\ST.leP (scl k a) x=true/\ST.leP x (scl k b)=true
 ·rw[if_pos (by simp[h1.1,h1.2.1,h1.2.2])]
  simp[h1]
 ·rw[if_neg (by simpa using h1)]
  simp only[h1];simp
theorem wU{A B a b:P2}(F:Fld [A,B])(ma:a∈aH [A,B])(mb:b∈aH [A,B])(Qy:plt a b)(no:∀c∈aH [A,B],plt a c->plt c b->False):∃s t,c6 (b.1-a.1) (b.2-a.2) 1 s t:=by
 obtain⟨g,s,t,G⟩:=ik (b.1-a.1) (b.2-a.2);have l:=aI Qy;have g0:=G.g0;obtain⟨u,hu⟩:=G.da;obtain⟨v,hv⟩:=G.db
 have gp:0<g:=by
  rcases FQ 0 g with z |z
  ·exact z
  ·have:g=0:=by lia
   subst this;unfold bQ at l;simp at hu hv;lia
 have luv:bQ u v:=by
  unfold bQ at l |-;rw[hu,hv]at l;rcases l with z |⟨z,z2⟩
  ·left
   rcases FQ 0 u with y |y
   ·exact y
   ·have:=Fw g0 y;lia
  ·right
   refine⟨(Fi.mp z).resolve_left (by lia),?_⟩
   rcases FQ 0 v with y |y
   ·exact y
   ·have:=Fw g0 y;lia
 by_cases h1:g=1
 ·subst h1;exact⟨s,t,G⟩
 ·exfalso
  have ia:=(fF A B a).mp ((bp F a).mp ma);have ib:=(fF A B b).mp ((bp F b).mp mb);have p1:plt a (a.1+u,a.2+v):=by unfold bQ at luv;unfold plt;dsimp only;lia
  have p2:plt (a.1+u,a.2+v) b:=by
   have m:bQ ((g-1) *u) ((g-1) *v):=by
    unfold bQ at luv |-;rcases luv with z |⟨z,z2⟩
    ·left;exact FK (by lia) z
    ·right;rw[z];exact⟨by simp,FK (by lia) z2⟩
   unfold bQ at m;unfold plt;dsimp only;have e1:(g-1) *u=b.1-a.1-u:=by rw[hu];grind
   have e2:(g-1) *v=b.2-a.2-v:=by rw[hv];grind
   lia
  refine no (a.1+u,a.2+v) ((bp F _).mpr ((fF A B _).mpr ⟨?_,?_,?_⟩)) p1 p2
  ·have e:g*ac A B (a.1+u,a.2+v)=ac A B b+(g-1) *ac A B a:=by unfold ac;dsimp only;grind
   have e':g*ac A B (a.1+u,a.2+v)=0:=by rw[e,ia.1,ib.1];simp
   exact (Fi.mp e').resolve_left (by lia)
  ·have c1:=bo.mp ia.2.1;rw[bo];unfold plt at p1;dsimp only at *;lia
  ·have c1:=bo.mp ib.2.2;rw[bo];unfold plt at p2;dsimp only at *;lia
theorem C4{A B:P2}(O:hW [A,B]){k:Int}{x:P2}(hk:0<k){q:List P2}(hq:q∈dy (aH [A,B]))(hi:inK k q x=true):∃c,C7 q k x c:=by
 obtain⟨a,b,rfl,ma,mb,Qy,no⟩:=dH (bG _) hq;obtain⟨s,t,G⟩:=wU O.F ma mb Qy no;obtain⟨d0,l1,l2⟩:=(jz hk Qy).mp hi;have eq:=G.eq;have hd:ac a b (a.1-t,a.2+s)=1:=by unfold ac;dsimp only;grind
 have s0:=mF k a b (a.1-t,a.2+s) x;obtain⟨s1,s2⟩:=yZ k a b (a.1-t,a.2+s) x;rw[hd,d0]at s0 s1 s2;have l:=aI Qy
 have w2:0<=dk k (a.1-t,a.2+s) a x:=by
  rw[bo]at l1;unfold scl at l1;dsimp only at l1;generalize dk k (a.1-t,a.2+s) a x=β at *;generalize dk k b (a.1-t,a.2+s) x=α at *;have f1:x.1-k*a.1=β*(b.1-a.1):=by grind
  have f2:x.2-k*a.2=β*(b.2-a.2):=by grind
  rcases FQ β 0 with z |z
  ·exfalso
   unfold bQ at l;rcases l with y |⟨y,y2⟩
   ·have:=Hq z y;lia
   ·rw[y,Hd]at f1;have:=Hq z y2;lia
  ·exact z
 have w1:0<=dk k b (a.1-t,a.2+s) x:=by
  rw[bo]at l2;unfold scl at l2;dsimp only at l2;generalize dk k (a.1-t,a.2+s) a x=β at *;generalize dk k b (a.1-t,a.2+s) x=α at *;have f1:k*b.1-x.1=α*(b.1-a.1):=by grind
  have f2:k*b.2-x.2=α*(b.2-a.2):=by grind
  rcases FQ α 0 with z |z
  ·exfalso
   unfold bQ at l;rcases l with y |⟨y,y2⟩
   ·have:=Hq z y;lia
   ·rw[y,Hd]at f1;have:=Hq z y2;lia
  ·exact z
 have T:=ue hd w1 w2 (by lia)
 have sa:=O.f150 a ma;have sb:=O.f150 b mb;obtain⟨_,ss,st⟩:=iE G (L2.Sz.sub' sb.1 sa.1) (L2.Sz.sub' sb.2 sa.2);refine⟨_,.two a b s t G,λp hp=>?_,mt hd,T,λe he=>?_⟩
 ·simp only[ET,Fm,or_false]at hp;rcases hp with rfl |rfl |rfl
  ·exact sa.mono (by decide)
  ·exact sb.mono (by decide)
  ·exact⟨(L2.Sz.sub' (sa.1.mono (n:=400) (by decide)) (st.mono (n:=400) (by decide))).mono (by decide),(L2.Sz.add' (sa.2.mono (n:=400) (by decide)) (ss.mono (n:=400) (by decide))).mono (by decide)⟩
 ·obtain⟨m1,m2⟩:=(T.mem e).mp he;simp only[wts,ET,Fm,or_false]at m1 |-;rcases m1 with rfl |rfl |rfl
  ·simp
  ·simp
  ·dsimp only at m2;lia
theorem gh{A B:P2}(F:Fld [A,B]):plt A B:=by
 have hc:=F.cr;have asc:=ST.srt_asc [A,B]
 have e:ST.srt [A,B]=[A,B]:=by
  by_cases h:(ST.srt [A,B]).length=2
  ·rw[<-kN h];exact hc
  ·have l:=ST.srt_len [A,B];simp at l;rw[bU (by lia)]at hc
   exact hc
 rw[e]at asc;exact (dW A B).mpr ((Fv.mp asc).1 B (by simp))
def wf(A B:P2)(p:P2):Int:=if A.1<B.1 then p.1 else p.2
theorem gR{A B p x:P2}{k:Int}(h:plt A B)(hp:ac A B p=0)(hx:dk k A B x=0):(ST.leP (scl k p) x=true↔k*wf A B p<=wf A B x)/\(ST.leP x (scl k p)=true↔wf A B x<=k*wf A B p):=by
 rw[bo,bo];unfold wf scl;dsimp only;by_cases z:A.1<B.1
 ·rw[if_pos z,if_pos z];have e:(B.1-A.1) *(x.2-k*p.2)=(B.2-A.2) *(x.1-k*p.1):=by unfold ac at hp;unfold dk at hx;grind
  have s:x.1=k*p.1->x.2=k*p.2:=λq=>by
   rw[q,Pe,Hd]at e;have:=(Fi.mp e).resolve_left (by lia)
   lia
  refine⟨⟨λh=>by lia,λh=>?_⟩,⟨λh=>by lia,λh=>?_⟩⟩
  ·rcases GK h with y |y
   ·exact .inl y
   ·exact .inr ⟨y,by have:=s y.symm;lia⟩
  ·rcases GK h with y |y
   ·exact .inl y
   ·exact .inr ⟨y,by have:=s y;lia⟩
 ·rw[if_neg z,if_neg z];unfold plt at h;have e1:A.1=B.1:=by lia
  have e2:A.2<B.2:=by lia
  have f1:p.1=A.1:=by
   have:(B.2-A.2) *(p.1-A.1)=0:=by unfold ac at hp;grind
   have:=(Fi.mp this).resolve_left (by lia)
   lia
  have f2:x.1=k*A.1:=by
   have:(B.2-A.2) *(x.1-k*A.1)=0:=by unfold dk at hx;grind
   have:=(Fi.mp this).resolve_left (by lia)
   lia
  rw[f1,f2];refine⟨⟨λh=>?_,λh=>.inr ⟨rfl,h⟩⟩,⟨λh=>?_,λh=>.inr ⟨rfl,h⟩⟩⟩ <;>lia
theorem fT{A B:P2}(F:Fld [A,B]):(∀p∈aH [A,B],ac A B p=0/\wf A B A<=wf A B p/\wf A B p<=wf A B B)/\A∈aH [A,B]/\B∈aH [A,B]/\(aH [A,B]).Pairwise (λp q=>wf A B p<wf A B q):=by
 have h:=gh F;have dA:ac A B A=0:=by unfold ac;grind
 have dB:ac A B B=0:=by unfold ac;grind
 have one:∀p:P2,scl 1 p=p:=gv;have dk1:∀p:P2,ac A B p=0->dk 1 A B p=0:=λp hp=>by rw[eU];exact hp
 have mA:A∈aH [A,B]:=(bp F A).mpr ((fF A B A).mpr ⟨dA,by rw[bo];lia,by rw[bo];unfold plt at h;lia⟩)
 have mB:B∈aH [A,B]:=(bp F B).mpr ((fF A B B).mpr ⟨dB,by rw[bo];unfold plt at h;lia,by rw[bo];lia⟩)
 have all:∀p∈aH [A,B],ac A B p=0/\ST.leP A p=true/\ST.leP p B=true:=λp hp=>(fF A B p).mp ((bp F p).mp hp)
 refine⟨λp hp=>?_,mA,mB,(bG [A,B]).imp_of_mem λ{p q} hp hq l=>?_⟩
 ·obtain⟨e,l1,l2⟩:=all p hp;have w1:=(gR h dA (dk1 p e)).1;have w2:=(gR h dB (dk1 p e)).2;rw[one,Iw]at w1 w2;exact⟨e,w1.mp l1,w2.mp l2⟩
 ·obtain⟨e1,_,_⟩:=all p hp;obtain⟨e2,_,_⟩:=all q hq;have w1:=(gR h e1 (dk1 q e2)).1;have w2:=(gR h e1 (dk1 q e2)).2;rw[one,Iw]at w1 w2
  have n2:¬ wf A B q<=wf A B p:=λz=>by
   have:=w2.mpr z;rw[bo]at this;unfold plt at l;lia
  lia
def InB(c p:P2):Prop:=(c.1<=p.1/\p.1<=c.1+5)/\c.2<=p.2/\p.2<=c.2+5
def chG(g:P2×P2->Int):List P2->Int
 |a::b::r=>g (a,b)+chG g (b::r)
 |_=>0
theorem xV(g:P2×P2->Int)(m:P2):∀u v:List P2,chG g (u++m::v)=chG g (u++[m])+chG g (m::v)
 |[],v=>by simp[chG]
 |[a],v=>by simp[chG]
 |a::b::u,v=>by
  have ih:=xV g m (b::u) v;show g (a,b)+chG g (b::u++m::v)=g (a,b)+chG g (b::u++[m])+chG g (m::v);rw[ih];exact (Int.add_assoc ..).symm
theorem pF(g:P2×P2->Int)(a:P2):∀(x:P2) (r:List P2),((J1 (x::r) (r++[a])).map g).sum=chG g (x::r++[a])
 |x,[]=>by simp[chG]
 |x,y::r=>by
  have ih:=pF g a y r;rw[LM,GB,Ff,Ia,ih];rfl
theorem wW(a:P2)(r:List P2):sdl (a::r)=J1 (a::r) (r++[a]):=by
 have key:∀l:List (P2×P2),l=J1 (l.map (·.1)) (l.map (·.2)):=λl=>by
  induction l with
  |nil=>rfl
  |cons x l ih=>rw[Ff,Ff,GB,<-ih]
 rw[key (sdl (a::r)),sE,sK];rfl
theorem kG{g:P2×P2->Int}{f:P2->Int}{R:P2->P2->Prop}{Q:P2->Prop}(hg:∀a b,Q a->Q b->R a b->g (a,b)<=f b-f a):∀(L:List P2) (x y:P2),L.Pairwise R->(∀p∈L,Q p)->L.head?=some x->L.getLast?=some y->chG g L<=f y-f x
 |[],_,_,_,_,h,_=>by cases h
 |[a],x,y,_,_,h1,h2=>by
  cases h1;have:a=y:=by simpa using h2
  rw[this];show (0:Int)<=_;lia
 |a::b::r,x,y,hp,hq,h1,h2=>by
  cases h1;have ih:=kG hg (b::r) b y (Fv.mp hp).2 (λp h=>hq p (ES _ h)) rfl (by rw[Gs]at h2;exact h2)
  have:=hg a b (hq a (by simp)) (hq b (by simp)) ((Fv.mp hp).1 b (by simp))
  show g (a,b)+chG g (b::r)<=_;lia
structure Ez(g:P2×P2->Int)(pts T B:List P2)(mn mx:P2):Prop where
 t:T.Pairwise plt
 b:B.Pairwise λx y=>plt y x
 tm:∀p∈T,p∈pts
 bm:∀p∈B,p∈pts
 t0:T.head?=some mn
 t1:T.getLast?=some mx
 b0:B.head?=some mx
 b1:B.getLast?=some mn
 s:((sdl (ao pts)).map g).sum=chG g T+chG g B
theorem pO(g:P2×P2->Int){pts:List P2}(h2:2<=(ST.srt pts).length):∃T B mn mx,Ez g pts T B mn mx:=by
 have asc:(ST.srt pts).Pairwise plt:=(ST.srt_asc pts).imp λ{a b} h=>by
  unfold ST.ltP at h;unfold plt;simpa using h
 have ec:ao pts=(am (ST.srt pts)).reverse.dropLast++(am (ST.srt pts).reverse).reverse.dropLast:=by unfold ao;rw[if_neg (by lia)]
 have hm:∀p,p∈ST.srt pts->p∈pts:=λp h=>(ST.srt_mem p pts).mp h
 generalize ST.srt pts=row at *;obtain⟨mn,mx,Wy⟩:=Bx asc h2;have ts:=kt row;have bs:=kt row.reverse;generalize (am row).reverse=T at *;generalize (am row.reverse).reverse=B at *;have l1:=Wy.lt;have l2:=Wy.lb;have tne:T≠[]:=λe=>by rw[e]at l1;simp at l1
 have bne:B≠[]:=λe=>by rw[e]at l2;simp at l2
 have tl:T.getLast?=some mx:=by rw[Gj];exact Wy.t1
 have bl:B.getLast?=some mn:=by rw[Gj];exact Wy.b1
 have th:T.head?=some mn:=by rw[Hg];exact Wy.t0
 have bh:B.head?=some mx:=by rw[Hg];exact Wy.b0
 refine⟨T,B,mn,mx,asc.sublist ts,Pg bs (IT.mpr asc),λp hp=>hm p (ts.subset hp),λp hp=>hm p (Fc.mp (bs.subset hp)),th,tl,bh,bl,?_⟩
 have key:∀{L:List P2}{x y:P2},2<=L.length->L.head?=some x->L.getLast?=some y->∃t,L=x::t++[y]/\L.dropLast=x::t:=λ{L x y} hl hh hy=>by
  have ln:L≠[]:=λe=>by rw[e]at hl;simp at hl
  have e:L=L.dropLast++[y]:=by
   have h:L.getLast ln=y:=by rw[Js ln]at hy;exact FN hy
   rw[<-h];exact (G6 ln).symm
  match L,hl,hh,e with
  |a::b::r,_,hh,e=>cases hh;exact⟨(b::r).dropLast,e,rfl⟩
 obtain⟨t,e1,d1⟩:=key l1 th tl;obtain⟨v,e2,d2⟩:=key l2 bh bl;rw[ec,d1,d2,LM,wW,pF,e1,e2];rw[show mn::(t++mx::v)++[mn]=(mn::t)++mx::(v++[mn]) by simp,xV]
 rfl
theorem uc{l:List P2}(h:2<=(ao l).length):2<=(ST.srt l).length:=FD λz=>by
 rw[bU z]at h;exact z h
theorem wK{x a b:Int}(hx:0<=x)(h:a<=b):x*a<=x*b:=Ke h hx
theorem CL{a b:P2}(h:plt a b):a.1<=b.1:=by unfold plt at h;lia
theorem nK{c a b:P2}(ha:InB c a)(hb:InB c b)(h:plt a b):(b.1*b.2-(2*c.2+10) *b.1)-(a.1*a.2-(2*c.2+10) *a.1)<=crs (a,b)/\crs (a,b)<=(b.1*b.2-2*c.2*b.1)-(a.1*a.2-2*c.2*a.1):=by
 have e:crs (a,b)=b.1*b.2-a.1*a.2-(b.1-a.1) *(a.2+b.2):=by unfold crs;grind
 have h0:0<=b.1-a.1:=by have:=CL h;lia
 have u1:=wK h0 (show 2*c.2<=a.2+b.2 by unfold InB at ha hb;lia)
 have u2:=wK h0 (show a.2+b.2<=2*c.2+10 by unfold InB at ha hb;lia)
 have e1:(b.1-a.1) *(2*c.2)=2*c.2*b.1-2*c.2*a.1:=by grind
 have e2:(b.1-a.1) *(2*c.2+10)=(2*c.2+10) *b.1-(2*c.2+10) *a.1:=by grind
 rw[e1]at u1;rw[e2]at u2;rw[e];lia
theorem mK{c a b:P2}(ha:InB c a)(hb:InB c b)(h:plt a b):gst (a,b)<=(6*b.1+b.2)-(6*a.1+a.2):=by
 unfold gst Ig;dsimp only;unfold InB at ha hb;unfold plt at h;by_cases k:a.1<b.1
 ·have:=Nat.gcd_le_left (b.2-a.2).natAbs (show 0<(b.1-a.1).natAbs by lia)
  lia
 ·have e:b.1-a.1=0:=by lia
  rw[e,Int.natAbs_zero,Nat.gcd_zero_left];lia
theorem ym{c:P2}{l:List P2}(h:∀p∈l,InB c p)(h2:2<=(ao l).length):area (ao l)<=50:=by
 obtain⟨T,B,mn,mx,W⟩:=pO crs (uc h2);have q1:=kG (g:=crs) (f:=λp=>p.1*p.2-2*c.2*p.1) (R:=plt) (Q:=InB c) (λa b ha hb hr=>(nK ha hb hr).2) T mn mx W.t (λp hp=>h p (W.tm p hp)) W.t0 W.t1
 have q2:=kG (g:=crs) (f:=λp=>p.1*p.2-(2*c.2+10) *p.1) (R:=λx y=>plt y x) (Q:=InB c) (λa b ha hb hr=>by
  have:=(nK hb ha hr).1;have e:crs (a,b)=-crs (b,a):=by unfold crs;grind
  rw[e];lia) B mx mn W.b (λp hp=>h p (W.bm p hp)) W.b0 W.b1
 have hn:=h mn (W.tm _ (Ja W.t0));have hx:=h mx (W.bm _ (Ja W.b0));have s:=W.s;unfold area;have e:(mx.1*mx.2-2*c.2*mx.1-(mn.1*mn.2-2*c.2*mn.1))+(mn.1*mn.2-(2*c.2+10) *mn.1-(mx.1*mx.2-(2*c.2+10) *mx.1))=10*(mx.1-mn.1):=by grind
 unfold InB at hn hx;lia
theorem zU{c:P2}{l:List P2}(h:∀p∈l,InB c p)(h2:2<=(ao l).length):xj (ao l)<=70:=by
 obtain⟨T,B,mn,mx,W⟩:=pO gst (uc h2);have q1:=kG (g:=gst) (f:=λp=>6*p.1+p.2) (R:=plt) (Q:=InB c) (λa b ha hb hr=>mK ha hb hr) T mn mx W.t (λp hp=>h p (W.tm p hp)) W.t0 W.t1
 have q2:=kG (g:=gst) (f:=λp=>-(6*p.1+p.2)) (R:=λx y=>plt y x) (Q:=InB c) (λa b ha hb hr=>by
  have:=mK hb ha hr;rw[fc];lia) B mx mn W.b (λp hp=>h p (W.bm p hp)) W.b0 W.b1
 have hn:=h mn (W.tm _ (Ja W.t0));have hx:=h mx (W.bm _ (Ja W.b0));have s:=W.s;unfold xj;unfold InB at hn hx;lia
theorem zp{c:P2}{l:List P2}(F:Fld l)(h:∀p∈l,InB c p):p8 l<=100:=by
 have hc:=F.cr;have l0:0<l.length:=FJ.mpr F.ne;unfold p8 uS pin;by_cases h3:l.length<3
 ·rw[if_pos h3,if_pos h3];have a:=h _ (cG l0);have b:=h _ (cG (l:=l) (i:=l.length-1) (by lia))
  have:gst (gp l 0,gp l (l.length-1))<=40:=by
   rcases cE (gp l 0) (gp l (l.length-1)) with k |k |k
   ·have:=mK a b k;unfold InB at a b;lia
   ·rw[k];unfold gst;simp
   ·have:=mK b a k;rw[fc];unfold InB at a b;lia
  lia
 ·rw[if_neg h3,if_neg h3];have a:=ym h (by rw[hc];lia)
  have r:=zU h (by rw[hc];lia)
  rw[hc]at a r;lia
theorem mh{f h:P2->Int}{Q:P2->Prop}(hg:∀a b,Q a->Q b->plt a b->f b-f a<=crs (a,b)/\crs (a,b)<=h b-h a):∀(K:List P2) (x y:P2),g_ K->(∀p∈K,Q p)->K.head?=some y->K.getLast?=some x->f y-f x<=chS K/\chS K<=h y-h x
 |[],_,_,_,_,e,_=>by cases e
 |[b],x,y,_,_,e1,e2=>by
  cases e1;have:b=x:=by simpa using e2
  rw[this];show _<=(0:Int)/\(0:Int)<=_;lia
 |b::a::r,x,y,hd,hq,e1,e2=>by
  cases e1;have ih:=mh hg (a::r) x a hd.2 (λp hp=>hq p (ES _ hp)) rfl (by rw[Gs]at e2;exact e2)
  have:=hg a b (hq a (by simp)) (hq b (by simp)) hd.1
  show _<=crs (a,b)+chS (a::r)/\crs (a,b)+chS (a::r)<=_;lia
theorem wA {c:P2}{row:List P2} (asc:row.Pairwise plt) (PN:row≠[]) (h:∀p∈row,InB c p) (conv:∀a b c p:P2,a∈row→b∈row→c∈row→0<ac a b c→0≤ac a b p→0≤ac b c p→0≤ac c a p→p∈row):(bv 1 row).2.length+(bv (-1) row).2.length≤50:=by
 have key:∀s,s=1\/s=-1->∀K,(bv s row).1=K->KW s row K/\K.head?=some (row.getLast PN)/\∃z,K.getLast?=some z:=λs hs K e=>by
  have W:=tV hs row asc PN;have e2:row=row.dropLast++[row.getLast PN]:=(G6 PN).symm;have hd:=jp s row.dropLast (row.getLast PN);rw[<-e2]at hd;subst e;exact⟨W,hd,_,Js W.ne⟩
 have c1:=sS 1 row;have c2:=sS (-1) row
 rw[iG (nG (.inl rfl) asc conv)]at c1
 rw[iG (nG (.inr rfl) asc conv)]at c2
 obtain⟨W1,h1,z1,l1⟩:=key 1 (.inl rfl) _ rfl;obtain⟨W2,h2,z2,l2⟩:=key (-1) (.inr rfl) _ rfl;have m1:=W1.sub z1 (G_ l1);have m2:=W2.sub z2 (G_ l2)
 have ez:z1=z2:=by
  have b1:=W1.bot z1 l1 z2 m2;have b2:=W2.bot z2 l2 z1 m1;rcases cE z1 z2 with k |k |k
  ·exact absurd k b2
  ·exact k
  ·exact absurd k b1
 subst ez;have b1:=mh (f:=λp=>p.1*p.2-(2*c.2+10) *p.1) (h:=λp=>p.1*p.2-2*c.2*p.1) (Q:=InB c) (λa b ha hb hr=>nK ha hb hr) _ _ _ W1.desc (λp hp=>h p (W1.sub p hp)) h1 l1
 have b2:=mh (f:=λp=>p.1*p.2-(2*c.2+10) *p.1) (h:=λp=>p.1*p.2-2*c.2*p.1) (Q:=InB c) (λa b ha hb hr=>nK ha hb hr) _ _ _ W2.desc (λp hp=>h p (W2.sub p hp)) h2 l2
 have hn:=h z1 m1;have hx:=h _ (List.getLast_mem PN);generalize row.getLast PN=y at *;have e:(y.1*y.2-2*c.2*y.1-(z1.1*z1.2-2*c.2*z1.1))-(y.1*y.2-(2*c.2+10) *y.1-(z1.1*z1.2-(2*c.2+10) *z1.1))=10*(y.1-z1.1):=by grind
 have b1':=b1.1;have b2':=b2.2;unfold InB at hn hx;lia
def W36:List P2:=(F3 36).map λk=>(((k%6:Nat):Int),((k/6:Nat):Int))
theorem zw{p:P2}(h:(0<=p.1/\p.1<=5)/\0<=p.2/\p.2<=5):p∈W36:=by
 unfold W36;refine EV.mpr ⟨(p.1+6*p.2).toNat,Fo.mpr (by lia),GC (by dsimp only;lia) (by dsimp only;lia)⟩
def Win(p:P2):Prop:=(0<=p.1/\p.1<=5)/\0<=p.2/\p.2<=5
theorem Cg{l:List P2}(F:Fld l)(hw:∀p∈l,Win p){p:P2}(h:cx l p=true):Win p:=by
 have b:=(de F.ne).mp (F.in_box h);have hx:l.map (·.1)≠[]:=by simpa using F.ne
 have hy:l.map (·.2)≠[]:=by simpa using F.ne
 obtain⟨q1,m1,e1⟩:=EV.mp (bR hx).1;obtain⟨q2,m2,e2⟩:=EV.mp (cI hx).1;obtain⟨q3,m3,e3⟩:=EV.mp (bR hy).1;obtain⟨q4,m4,e4⟩:=EV.mp (cI hy).1;have w1:=hw q1 m1;have w2:=hw q2 m2;have w3:=hw q3 m3;have w4:=hw q4 m4;unfold loX hiX loY hiY at b;unfold Win at *;lia
theorem Ad{c:P2}{l:List P2}(F:Fld l)(h3:3<=l.length)(h:∀p∈aH l,InB c p):(pcs l).length<64:=by
 have PN:aH l≠[]:=λe=>by
  have:=vF F h3;rw[e]at this;rw[<-this]at h3;simp[ao,ST.srt,am]at h3
 have:=wA (bG l) PN h (lO F h3);unfold pcs jI;rw[EM,FM];lia
theorem AR{l:List P2}(F:Fld l){p:P2}(hp:p∈l):cx l p=true:=by
 have hc:=F.cr
 match l,F,hc,hp with
 |[],_,_,hp=>cases hp
 |[A],_,_,hp=>rw[iO];exact E5.mp hp
 |[A,B],F,_,hp=>
  obtain⟨_,mA,mB,_⟩:=fT F;simp only[ET,Fm,or_false]at hp;rcases hp with rfl |rfl
  ·exact (bp F _).mp mA
  ·exact (bp F _).mp mB
 |A::B::C::r,F,hc,hp=>
  have h3:3<=(A::B::C::r).length:=by simp
  rw[f_ h3];intro s hs;exact ((fV (by rw[hc];exact h3)).mp (by rw[hc];exact hs)).2.2.2 p (by rw[hc];exact hp)
theorem pA{A B:List ST3.PQ}(h:∀e,e∈A↔e∈B):SG.srt ST3.KQ A=SG.srt ST3.KQ B:=SG.asc_one ST3.KQ (SG.srt_asc _ _) (SG.srt_asc _ _) λz=>by rw[SG.srt_mem,SG.srt_mem,h]
theorem qL{a b c:P2}{α β γ:Int}(e:ST3.PQ):e∈gC [(a,α),(b,β),(c,γ)]↔PP a b c α β γ e.1 e.2:=by
 obtain⟨v,n⟩:=e;unfold gC PP;rw[F_];simp only[ET,Fm,or_false,JC,decide_eq_true_eq];exact And.comm
theorem C3{a b c x:P2}{k:Int}(hd:ac a b c=1)(w1:0<=dk k b c x)(w2:0<=dk k c a x)(w3:0<=dk k a b x):Wt a b c (dk k b c x) (dk k c a x) (dk k a b x) k x:=by
 have s0:=mF k a b c x;obtain⟨s1,s2⟩:=yZ k a b c x;rw[hd]at s0 s1 s2;exact⟨w1,w2,w3,by lia,by grind,by grind⟩
theorem wd{t:Tri}{x:P2}{α β γ k:Int}(W:Wt (bD t).1 (bD t).2.1 (bD t).2.2 α β γ k x):∃Qf Qa Qp,Wt t.1 t.2.1 t.2.2 Qf Qa Qp k x/\∀v n,PP t.1 t.2.1 t.2.2 Qf Qa Qp v n↔PP (bD t).1 (bD t).2.1 (bD t).2.2 α β γ v n:=by
 unfold bD at *;split at W
 ·rename_i h
  rw[if_pos h];exact⟨α,β,γ,W,λ_ _=>Iff.rfl⟩
 ·rename_i h
  rw[if_neg h];have hk:=W.hk;have hx:=W.hx;have hy:=W.hy;exact⟨α,γ,β,⟨W.h1,W.h3,W.h2,by lia,by dsimp only at hx;lia,by dsimp only at hy;lia⟩,λv n=>by unfold PP;dsimp only;exact and_congr_right λ_=>or_congr_right Or.comm⟩
theorem Cm{l:List P2}(F:Fld l)(h3:3<=l.length){T T':ST3.TR}(hT:T∈pcs l)(hT':T'∈pcs l){x:P2}{α β γ Qf Qa Qp k:Int}(W:Wt T.1 T.2.1 T.2.2 α β γ k x)(W':Wt T'.1 T'.2.1 T'.2.2 Qf Qa Qp k x):∀v n,PP T.1 T.2.1 T.2.2 α β γ v n↔PP T'.1 T'.2.1 T'.2.2 Qf Qa Qp v n:=by
 have key:∀t∈jI l,∃s,(s=1\/s=-1)/\TOk s (aH l) t/\s*ac t.1 t.2.1 t.2.2=1:=λt ht=>by
  rcases FA.mp ht with z |z
  ·exact⟨1,.inl rfl,(jX F h3 (.inl rfl) z).1,(jX F h3 (.inl rfl) z).2.1⟩
  ·exact⟨-1,.inr rfl,(jX F h3 (.inr rfl) z).1,(jX F h3 (.inr rfl) z).2.1⟩
 obtain⟨t,ht,rfl⟩:=EV.mp hT;obtain⟨t',ht',rfl⟩:=EV.mp hT';obtain⟨s,hs,K,hd⟩:=key t ht;obtain⟨s',QS,K',Qt⟩:=key t' ht';obtain⟨_,_,_,V,e⟩:=wd W;obtain⟨_,_,_,V',e'⟩:=wd W';exact λv n=>((e v n).symm.trans (p9 hs QS (a:=t.1) (b:=t.2.1) (P:=t.2.2) (a':=t'.1) (b':=t'.2.1) (P':=t'.2.2) K hd K' Qt V V' v n)).trans (e' v n)
theorem yo{fa fb ga gb α β Qf Qa k:Int}(h1:fa<fb)(h2:ga<gb)(a0:0<=α)(b0:0<=Qa)(e1:α+β=k)(e2:Qf+Qa=k)(hk:0<k)(e:α*fa+β*fb=Qf*ga+Qa*gb)(h:fb<=ga):fb=ga/\α=0/\Qa=0:=by
 have s:k*(ga - fb)+α*(fb - fa)+Qa*(gb - ga)=0:=by subst e1;have:Qf=α+β - Qa:=by lia
                                                   subst this;grind
 have t1:=E8 (show 0<=k by lia) (show 0<=ga-fb by lia)
 have t2:=E8 a0 (show 0<=fb-fa by lia)
 have t3:=E8 b0 (show 0<=gb-ga by lia)
 have z1:=(Fi.mp (show k*(ga-fb)=0 by omega)).resolve_left (by omega)
 have z2:=(Fi.mp (show α*(fb-fa)=0 by omega)).resolve_right (by omega)
 have z3:=(Fi.mp (show Qa*(gb-ga)=0 by omega)).resolve_right (by omega)
 exact⟨by lia,z2,z3⟩
def P2P(a b:P2)(α β:Int)(v:P2)(n:Int):Prop:=0<n/\((v=a/\n=α)\/(v=b/\n=β))
theorem BN{A B:P2}(F:Fld [A,B]){a b a' b':P2}(ma:a∈aH [A,B])(mb:b∈aH [A,B])(RJ:a'∈aH [A,B])(R3:b'∈aH [A,B])(Qy:plt a b)(RF:plt a' b')(no:∀c∈aH [A,B],plt a c->plt c b->False)(no':∀c∈aH [A,B],plt a' c->plt c b'->False)
  {α β Qf Qa k:Int} (a0:0<=α) (b0:0<=β) (a1:0<=Qf) (b1:0<=Qa) (e1:α+β=k) (e2:Qf+Qa=k) (hk:0<k) (e:α*wf A B a+β*wf A B b=Qf*wf A B a'+Qa*wf A B b'):∀v n,P2P a b α β v n↔P2P a' b' Qf Qa v n:=by
 have up:∀{p q:P2},p∈aH [A,B]->q∈aH [A,B]->plt p q->wf A B p<wf A B q:=λ{p q} hp hq h=>by
  have pw:=(fT F).2.2.2;have ps:=bG [A,B];obtain⟨i,hi⟩:=F9.mp hp;obtain⟨j,hj⟩:=F9.mp hq;obtain⟨li,ei⟩:=E6.mp hi;obtain⟨lj,ej⟩:=E6.mp hj;rcases Hk i j with z |z |z
  ·have:=FE.mp pw i j li lj z
   rwa [ei,ej]at this
  ·subst z;rw[ei]at ej;subst ej;exact absurd h (aB _)
  ·have:=FE.mp ps j i lj li z;rw[ei,ej]at this;exact absurd (aD h this) (aB _)
 have f1:=up ma mb Qy;have f2:=up RJ R3 RF
 have part:∀{a b a' b':P2}{α β Qf Qa:Int},a∈aH [A,B]->b∈aH [A,B]->a'∈aH [A,B]->b'∈aH [A,B]->(∀c∈aH [A,B],plt a c->plt c b->False)->wf A B a<wf A B b->wf A B a'<wf A B b'->0<=α->0<=Qa->α+β=k->Qf+Qa=k->α*wf A B a+β*wf A B b=Qf*wf A B a'+Qa*wf A B b'->plt a a'->b=a'/\α=0/\Qa=0:=λ{a b a' b' α β Qf Qa} ma mb RJ R3 no f1 f2 a0 b1 e1 e2 e h=>by
  have le:wf A B b<=wf A B a'/\(wf A B b=wf A B a'->b=a'):=by
   rcases cE b a' with z |z |z
   ·have:=up mb RJ z;exact⟨by lia,λq=>by lia⟩
   ·subst z;exact⟨by lia,λ_=>rfl⟩
   ·exact (no a' RJ h z).elim
  obtain⟨q1,q2,q3⟩:=yo f1 f2 a0 b1 e1 e2 hk e le.1;exact⟨le.2 q1,q2,q3⟩
 rcases cE a a' with z |z |z
 ·obtain⟨rfl,q2,q3⟩:=part ma mb RJ R3 no f1 f2 a0 b1 e1 e2 e z;subst q2;subst q3;intro v n;unfold P2P;have:β=Qf:=by lia
  subst this;constructor
  ·rintro ⟨h,⟨_,rfl⟩ |h2⟩
   ·lia
   ·exact⟨h,.inl h2⟩
  ·rintro ⟨h,h2 |⟨_,rfl⟩⟩
   ·exact⟨h,.inr h2⟩
   ·lia
 ·subst z
  have eb:b=b':=by
   rcases cE b b' with z |z |z
   ·exact (no' b mb Qy z).elim
   ·exact z
   ·exact (no b' R3 RF z).elim
  subst eb
  have d:(β - Qa) *(wf A B b - wf A B a)=0:=by have:α=k - β:=by lia
                                               subst this;have:Qf=k-Qa:=by lia
                                               subst this;grind
  have:=(Fi.mp d).resolve_right (by lia)
  have q1:β=Qa:=by lia
  have q2:α=Qf:=by lia
  subst q1;subst q2;exact λ_ _=>Iff.rfl
 ·obtain⟨rfl,q2,q3⟩:=part RJ R3 ma mb no' f2 f1 a1 b0 e2 e1 e.symm z;subst q2;subst q3;intro v n;unfold P2P;have:Qa=α:=by lia
  subst this;constructor
  ·rintro ⟨h,h2 |⟨_,rfl⟩⟩
   ·exact⟨h,.inr h2⟩
   ·lia
  ·rintro ⟨h,⟨_,rfl⟩ |h2⟩
   ·lia
   ·exact⟨h,.inl h2⟩
structure Br(q c:List P2):Prop where
 W:Wd q c
 sz:∀p∈c,Szp 5000 p
 nd:c.Nodup
structure AV(l:List P2)(z:List ST3.PQ)(u:List (List P2))(r:List P2)(v:List (List P2))(c:List P2):Prop where
 e:cV l=u++r::v
 no:∀r'∈u,inK (sN z) r' (sX z,sY z)=false
 yes:inK (sN z) r (sX z,sY z)=true
 K:Br r c
 t:eM c (sN z) (sX z,sY z)=SG.srt ST3.KQ (gC z)
theorem Cw(c:List P2):eM c 0 (0,0)=[]:=by
 have d0:∀a b:P2,dk 0 a b (0,0)=0:=λa b=>by unfold dk;simp
 unfold eM
 have:(wts c 0 (0,0)).filter (λz=>decide (0<z.2))=[]:=by
  match c with
  |[a,b,d]=>simp[wts,d0]
  |[]=>rfl
  |[_]=>rfl
  |[_,_]=>rfl
  |_::_::_::_::_=>rfl
 rw[this];rfl
theorem zd{q:List P2}(h:q≠[]):inK 0 q (0,0)=true:=by
 have e:ao (q.map (scl 0))=[(0,0)]:=by
  have hs:∀p,p∈q.map (scl 0)↔p∈([(0,0)]:List P2):=λp=>by
   rw[E5];constructor
   ·intro hp;obtain⟨y,_,rfl⟩:=EV.mp hp;unfold scl;simp
   ·intro hp;obtain⟨y,hy⟩:=K5 _ h;exact EV.mpr ⟨y,hy,by rw[hp];unfold scl;simp⟩
  rw[lG hs,pZ]
 have:=jv (A:=(0,0)) (x:=(0,0)) (k:=0);unfold inK at this |-;rw[e];rw[Ff,Jp,show scl 0 (0,0)=(0,0) by unfold scl;simp,pZ]at this
 exact this.mpr rfl
theorem nI{l:List P2}(h3:3<=l.length){q:List P2}(hq:q∈cV l):∃T∈pcs l,q=[T.1,T.2.1,T.2.2]:=by
 have e:cV l=(SG.srt ST3.KT (pcs l)).map λt=>[t.1,t.2.1,t.2.2]:=by unfold cV;rw[if_neg (by lia),if_neg (by lia)]
 rw[e]at hq;obtain⟨T,hT,rfl⟩:=EV.mp hq;exact⟨T,(SG.srt_mem _ _ _).mp hT,rfl⟩
theorem yG{l:List P2}(O:hW l){r:List P2}(hr:r∈cV l):∃c,Br r c:=by
 have fz:=O.fz;rcases O.F.cases with ⟨A,rfl⟩ |⟨A,B,rfl,_⟩ |h3
 ·rw[E5.mp (show r∈[[A]] from hr)]
  have D:=(A5 O (k:=1) (x:=A) (by decide) (jv.mpr (gv A).symm)).1
  exact⟨_,D.W,D.sz,D.nd⟩
 ·obtain⟨a,b,rfl,ma,mb,Qy,no⟩:=dH (bG _) (show r∈dy (aH [A,B]) from hr)
  have hi:inK 1 [a,b] a=true:=(jz (by decide) Qy).mpr ⟨by rw[eU];unfold ac;grind,by rw[gv,bo];lia,by rw[gv,bo];unfold plt at Qy;lia⟩
  obtain⟨c,D⟩:=C4 O (k:=1) (x:=a) (by decide) hr hi
  exact⟨c,D.W,D.sz,D.nd⟩
 ·have QN:3<=l.length:=by rw[<-O.F.cr];exact h3
  obtain⟨T,hT,rfl⟩:=nI QN hr;obtain⟨R,_⟩:=tY O.F QN hT;refine⟨_,.three _ _ _,λp hp=>?_,mt R.d⟩
  simp only[ET,Fm,or_false]at hp;rcases hp with rfl |rfl |rfl
  ·exact (fz _ R.m1).mono (by decide)
  ·exact (fz _ R.m2).mono (by decide)
  ·exact (fz _ R.m3).mono (by decide)
theorem DR(a b c:P2)(α β γ:Int):sN [(a,α),(b,β),(c,γ)]=α+β+γ/\sX [(a,α),(b,β),(c,γ)]=α*a.1+β*b.1+γ*c.1/\sY [(a,α),(b,β),(c,γ)]=α*a.2+β*b.2+γ*c.2:=by
 unfold sN sX sY;simp;refine⟨by lia,by grind,by grind⟩
theorem C_(a b:P2)(α β:Int):sN [(a,α),(b,β)]=α+β/\sX [(a,α),(b,β)]=α*a.1+β*b.1/\sY [(a,α),(b,β)]=α*a.2+β*b.2:=by
 unfold sN sX sY;simp;exact⟨by grind,by grind⟩
theorem CM{a b d:P2}(hd:ac a b d=1)(k:Int)(x u v:P2):dk k u v x=dk k b d x*ac u v a+dk k d a x*ac u v b+dk k a b x*ac u v d:=by
 have:ac a b d*dk k u v x=dk k b d x*ac u v a+dk k d a x*ac u v b+dk k a b x*ac u v d:=by unfold dk ac;grind
 rw[<-this,hd,Iw]
theorem qG(A B a b:P2)(α β:Int):wf A B (α*a.1+β*b.1,α*a.2+β*b.2)=α*wf A B a+β*wf A B b:=by
 unfold wf;split <;>rfl
theorem Dj{A B a b x:P2}{k s t:Int}(F:Fld [A,B])(ma:a∈aH [A,B])(mb:b∈aH [A,B])(Qy:plt a b)(f1:wf A B a<wf A B b)(G:c6 (b.1-a.1) (b.2-a.2) 1 s t)(hk:0<k)(hi:inK k [a,b] x=true):
  ∃α β,0<=α/\0<=β/\α+β=k/\x=(α*a.1+β*b.1,α*a.2+β*b.2)/\wts [a,b,(a.1-t,a.2+s)] k x=[(a,α),(b,β),((a.1-t,a.2+s),0)]:=by
 have eq:=G.eq;have hd:ac a b (a.1-t,a.2+s)=1:=by unfold ac;dsimp only;grind
 obtain⟨d0,l1,l2⟩:=(jz hk Qy).mp hi;have wa:=((fT F).1 a ma).1;have wb:=((fT F).1 b mb).1;have hx:dk k A B x=0:=by rw[CM hd k x A B,wa,wb,d0];simp
 have s0:=mF k a b (a.1-t,a.2+s) x;obtain⟨s1,s2⟩:=yZ k a b (a.1-t,a.2+s) x;rw[hd,d0]at s0 s1 s2;have i1:=(gR (gh F) wa hx).1.mp l1;have i2:=(gR (gh F) wb hx).2.mp l2;have hw:wts [a,b,(a.1-t,a.2+s)] k x=[(a,dk k b (a.1-t,a.2+s) x),(b,dk k (a.1-t,a.2+s) a x),((a.1-t,a.2+s),dk k a b x)]:=rfl;rw[d0]at hw;generalize dk k b (a.1-t,a.2+s) x=α at *;generalize dk k (a.1-t,a.2+s) a x=β at *;have ex:x=(α*a.1+β*b.1,α*a.2+β*b.2):=GC (by dsimp only;grind) (by dsimp only;grind)
 have fx:wf A B x=α*wf A B a+β*wf A B b:=by rw[ex];exact qG A B a b α β
 have ek:α+β=k:=by lia
 have pos:∀{y:Int},0<=y*(wf A B b-wf A B a)->0<=y:=λ{y} h=>by
  rcases FQ y 0 with z |z
  ·have:=Hq z (show 0<wf A B b-wf A B a by lia)
   lia
  ·exact z
 refine⟨α,β,pos ?_,pos ?_,ek,ex,hw⟩
 ·have:α*(wf A B b-wf A B a)=k*wf A B b-wf A B x:=by rw[fx,<-ek];grind
  lia
 ·have:β*(wf A B b-wf A B a)=wf A B x-k*wf A B a:=by rw[fx,<-ek];grind
  lia
theorem CI{a b:P2}{α β:Int}(e:ST3.PQ):e∈gC [(a,α),(b,β)]↔P2P a b α β e.1 e.2:=by
 obtain⟨v,n⟩:=e;unfold gC P2P;rw[F_];simp only[ET,Fm,or_false,JC,decide_eq_true_eq];exact And.comm
theorem BC{a b d:P2}{α β:Int}(e:ST3.PQ):e∈gC [(a,α),(b,β),(d,0)]↔P2P a b α β e.1 e.2:=by
 rw[qL];unfold PP P2P;constructor
 ·rintro ⟨h,h2 |h2 |⟨_,h2⟩⟩
  ·exact⟨h,.inl h2⟩
  ·exact⟨h,.inr h2⟩
  ·lia
 ·rintro ⟨h,h2 |h2⟩
  ·exact⟨h,.inl h2⟩
  ·exact⟨h,.inr (.inl h2)⟩
theorem A4{A B:P2}(F:Fld [A,B]){p q:P2}(hp:p∈aH [A,B])(hq:q∈aH [A,B])(h:plt p q):wf A B p<wf A B q:=by
 have wp:=((fT F).1 p hp).1;have wq:=((fT F).1 q hq).1;have hx:dk 1 A B q=0:=by rw[eU];exact wq
 have Q9:dk 1 A B p=0:=by rw[eU];exact wp
 have i1:=(gR (gh F) wp hx).1;have i2:=(gR (gh F) wq Q9).1;rw[gv,bo,Iw]at i1 i2;unfold plt at h;have a1:=i1.mp (by lia)
 rcases FQ (wf A B p) (wf A B q) with z |z
 ·exact z
 ·have:=i2.mpr z;lia
theorem x4:∀{L:List ST3.PQ},(∀e∈L,0<=e.2)->0<=sN L/\∀e∈L,e.2<=sN L
 |[],_=>⟨by unfold sN;simp,λe he=>by cases he⟩
 |y::L,h=>by
  obtain⟨h1,h2⟩:=x4 (L:=L) λe he=>h e (ES _ he)
  have h3:=h y EY;have hs:sN (y::L)=y.2+sN L:=by unfold sN;simp
  refine⟨by lia,λe he=>?_⟩
  rcases ET.mp he with z |z
  ·rw[z];lia
  ·have:=h2 e z;lia
theorem B5{l:List P2}(O:hW l){q:List P2}(hq:q∈cV l){ts:List Int}(hl:ts.length=q.length)(h0:∀t∈ts,0<=t):∃u r v c,AV l (q.zip ts) u r v c:=by
 have z0:∀e∈q.zip ts,0<=e.2:=λe he=>h0 e.2 (Il he).2
 obtain⟨kn,ke⟩:=x4 z0;by_cases hk:0<sN (q.zip ts)
 ·have find:inK (sN (q.zip ts)) q (sX (q.zip ts),sY (q.zip ts))=true->(∀r∈cV l,∀c,Br r c->inK (sN (q.zip ts)) r (sX (q.zip ts),sY (q.zip ts))=true->eM c (sN (q.zip ts)) (sX (q.zip ts),sY (q.zip ts))=SG.srt ST3.KQ (gC (q.zip ts)))->∃u r v c,AV l (q.zip ts) u r v c:=λh1 h2=>by
   obtain⟨u,r,v,e,n,y⟩:=ku (p:=λr=>inK (sN (q.zip ts)) r (sX (q.zip ts),sY (q.zip ts))) ⟨q,hq,h1⟩
   have hr:r∈cV l:=by rw[e];simp
   obtain⟨c,K⟩:=yG O hr;exact⟨u,r,v,c,e,n,y,K,h2 r hr c K y⟩
  rcases O.F.cases with ⟨A,rfl⟩ |⟨A,B,rfl,_⟩ |h3
  ·have eq:=E5.mp (show q∈[[A]] from hq)
   subst eq
   match ts,hl with
   |[t],_=>
    have e1:sN (J1 [A] [t])=t/\sX (J1 [A] [t])=t*A.1/\sY (J1 [A] [t])=t*A.2:=by unfold sN sX sY;simp;exact⟨J7 _ _,J7 _ _⟩
    obtain⟨e1,e2,e3⟩:=e1;rw[e1,e2,e3]at find;rw[e1]at hk;refine find (jv.mpr rfl) λr hr c K hi=>?_
    rw[E5.mp (show r∈[[A]] from hr)]at K hi
    obtain⟨D,td⟩:=A5 O hk hi
    have hc:c=[A,(A.1+1,A.2),(A.1-0,A.2+1)]:=by
     have W:=K.W;cases W with
     |one _ s' t' G=>
      have g1:=G.eq;have g2:=(G.z (by lia)).1
      have ea:A.1+1-A.1=1:=by lia
      rw[ea,g2]at g1;have:s'=1:=by simp at g1;lia
      rw[this,g2]
    rw[hc,td];have:gC (J1 [A] [t])=[(A,t)]:=by unfold gC;simp[hk]
    rw[this];exact (MP.mp (oS (by simp))).symm
  ·obtain⟨a,b,rfl,ma,mb,Qy,no⟩:=dH (bG _) (show q∈dy (aH [A,B]) from hq)
   match ts,hl with
   |[α,β],_=>
    have a0:=h0 α (by simp)
    have b0:=h0 β (by simp)
    have ez:J1 [a,b] [α,β]=[(a,α),(b,β)]:=rfl;rw[ez]at hk find |-;obtain⟨e1,e2,e3⟩:=C_ a b α β;rw[e1,e2,e3]at find;rw[e1]at hk;have fx:=qG A B a b α β;have f1:=A4 O.F ma mb Qy;have wa:=((fT O.F).1 a ma).1;have wb:=((fT O.F).1 b mb).1;have hx:∀u v:P2,dk (α+β) u v (α*a.1+β*b.1,α*a.2+β*b.2)=α*ac u v a+β*ac u v b:=λu v=>by unfold dk ac;dsimp only;grind
    have hX:dk (α+β) A B (α*a.1+β*b.1,α*a.2+β*b.2)=0:=by rw[hx,wa,wb];simp
    refine find ((jz hk Qy).mpr ⟨?_,(gR (gh O.F) wa hX).1.mpr ?_,(gR (gh O.F) wb hX).2.mpr ?_⟩) λr hr c K hi=>?_
    ·rw[hx,(b9 a b a).1,(b9 a b a).2.1];simp
    ·rw[fx];have:=E8 b0 (show 0<=wf A B b-wf A B a by lia)
     have e:(α+β) *wf A B a=α*wf A B a+β*wf A B b-β*(wf A B b-wf A B a):=by grind
     lia
    ·rw[fx];have:=E8 a0 (show 0<=wf A B b-wf A B a by lia)
     have e:(α+β) *wf A B b=α*wf A B a+β*wf A B b+α*(wf A B b-wf A B a):=by grind
     lia
    ·obtain⟨a',b',rfl,RJ,R3,RF,no'⟩:=dH (bG _) (show r∈dy (aH [A,B]) from hr)
     have W:=K.W;cases W with
     |two _ _ s t G=>
      obtain⟨Qf,Qa,a1,b1,ek,ex,hw⟩:=Dj O.F RJ R3 RF (A4 O.F RJ R3 RF) G hk hi;have fx':=qG A B a' b' Qf Qa;rw[<-ex,fx]at fx';have al:=BN O.F ma mb RJ R3 Qy RF no no' a0 b0 a1 b1 rfl ek hk fx';unfold eM;rw[hw];exact pA λe=>(BC e).trans ((al e.1 e.2).symm.trans (CI e).symm)
  ·have QN:3<=l.length:=by rw[<-O.F.cr];exact h3
   obtain⟨T,hT,rfl⟩:=nI QN hq;obtain⟨R,_⟩:=tY O.F QN hT
   match ts,hl with
   |[α,β,γ],_=>
    have a0:=h0 α (by simp)
    have b0:=h0 β (by simp)
    have c0:=h0 γ (by simp)
    have ez:J1 [T.1,T.2.1,T.2.2] [α,β,γ]=[(T.1,α),(T.2.1,β),(T.2.2,γ)]:=rfl;rw[ez]at hk find |-;obtain⟨e1,e2,e3⟩:=DR T.1 T.2.1 T.2.2 α β γ;rw[e1,e2,e3]at find;rw[e1]at hk;have W:Wt T.1 T.2.1 T.2.2 α β γ (α+β+γ) (α*T.1.1+β*T.2.1.1+γ*T.2.2.1,α*T.1.2+β*T.2.1.2+γ*T.2.2.2):=⟨a0,b0,c0,rfl,rfl,rfl⟩;obtain⟨p1,p2,p3,p4⟩:=b9 T.1 T.2.1 T.2.2;obtain⟨q1,q2,_,_⟩:=b9 T.2.1 T.2.2 T.1;obtain⟨r1,r2,_,_⟩:=b9 T.2.2 T.1 T.2.1;have g1:=W.dk T.1 T.2.1;have g2:=W.dk T.2.1 T.2.2;have g3:=W.dk T.2.2 T.1;rw[p1,p2,R.d]at g1;rw[p3,q1,q2,R.d]at g2;rw[r2,p4,r1,R.d]at g3;simp only[Hd,Mp,KL,Kl]at g1 g2 g3;refine find ((rQ hk R.c).mpr ⟨by lia,by lia,by lia⟩) λr hr c K hi=>?_
    obtain⟨T',hT',rfl⟩:=nI QN hr;obtain⟨R',_⟩:=tY O.F QN hT';have Wd':=K.W;cases Wd';obtain⟨w1,w2,w3⟩:=(rQ hk R'.c).mp hi;have al:=Cm O.F QN hT hT' W (C3 R'.d w2 w3 w1);exact pA λe=>(qL e).trans ((al e.1 e.2).symm.trans (qL e).symm)
 ·have k0:sN (q.zip ts)=0:=by lia
  have all:∀e∈q.zip ts,e.2=0:=λe he=>by
   have:=ke e he;have:=z0 e he;lia
  have sm:∀f:ST3.PQ->Int,(∀e∈q.zip ts,f e=0)->((q.zip ts).map f).sum=0:=λf h=>by
   generalize q.zip ts=L at *;clear hk k0 kn ke all z0 hl hq
   induction L with
   |nil=>rfl
   |cons e L ih=>rw[Ff,Ia,h e (by simp),ih λy hy=>h y (ES _ hy)];rfl
  have x0:sX (q.zip ts)=0:=sm _ λe he=>by rw[all e he];simp
  have y0:sY (q.zip ts)=0:=sm _ λe he=>by rw[all e he];simp
  have p0:gC (q.zip ts)=[]:=List.filter_eq_nil_iff.mpr λe he=>by rw[all e he];decide
  match hP:cV l with
  |[]=>rw[hP]at hq;cases hq
  |r::v=>
   have hr:r∈cV l:=by rw[hP];simp
   obtain⟨c,K⟩:=yG O hr;refine⟨[],r,v,c,hP,(λr' h=>by cases h),?_,K,?_⟩
   ·rw[k0,x0,y0];exact zd (nO O.F hr).1
   ·rw[k0,x0,y0,p0,Cw];rfl
theorem yk{l:List P2}(O:hW l){q:List P2}(hq:q∈cV l):q.length=min 3 l.length/\q.Nodup:=by
 rcases O.F.cases with ⟨A,rfl⟩ |⟨A,B,rfl,_⟩ |h3
 ·rw[E5.mp (show q∈[[A]] from hq)]
  exact⟨rfl,by simp⟩
 ·obtain⟨a,b,rfl,_,_,Qy,_⟩:=dH (bG _) (show q∈dy (aH [A,B]) from hq)
  exact⟨rfl,by simp;intro e;subst e;exact aB _ Qy⟩
 ·have QN:3<=l.length:=by rw[<-O.F.cr];exact h3
  obtain⟨T,hT,rfl⟩:=nI QN hq;obtain⟨R,_⟩:=tY O.F QN hT;exact⟨by show 3=_;lia,mt R.d⟩
theorem oK:∀{b:P2}{r:List P2},g_ (b::r)->∀q∈r,plt q b
 |_,[],_,q,hq=>by cases hq
 |b,a::r,d,q,hq=>by
  rcases ET.mp hq with e |e
  ·rw[e];exact d.1
  ·exact aD (oK d.2 q e) d.1
theorem zg{l:List P2}(O:hW l):cV l≠[]:=λe=>by
 have sub:∀p∈l,p∈aH l:=λp hp=>(bp O.F p).mpr (AR O.F hp)
 rcases O.F.cases with ⟨A,rfl⟩ |⟨A,B,rfl,_⟩ |h3
 ·cases e
 ·have e':dy (aH [A,B])=[]:=e;have mA:=sub A (by simp)
  have mB:=sub B (by simp)
  match hF:aH [A,B] with
  |[]=>rw[hF]at mA;cases mA
  |[x]=>
   rw[hF,E5]at mA mB;have:=gh O.F;rw[mA,mB]at this;exact aB _ this
  |x::y::r=>rw[hF]at e';cases e'
 ·have QN:3<=l.length:=by rw[<-O.F.cr];exact h3
  have e1:pcs l=[]:=by
   match hP:pcs l with
   |[]=>rfl
   |T::v=>
    have:([T.1,T.2.1,T.2.2]:List P2)∈cV l:=by
     unfold cV;rw[if_neg (by lia),if_neg (by lia)]
     exact EV.mpr ⟨T,(SG.srt_mem _ _ _).mpr (by rw[hP];simp),rfl⟩
    rw[e]at this;cases this
  have e2:jI l=[]:=List.map_eq_nil_iff.mp e1;obtain⟨f1,f2⟩:=LX.mp e2;have hp:=bG l;obtain⟨Z,P,B,hZ,hB,pos,_⟩:=mO (l:=l) h3 0 1;have mZ:=bX hZ;have mB:=bX hB;rw[O.F.cr]at mZ mB;have ne:aH l≠[]:=λe=>by have:=sub Z mZ.1;rw[e]at this;cases this
  have key:∀s,s=1\/s=-1->(bv s (aH l)).2=[]->∃b a r,(bv s (aH l)).1=b::a::r/\(∀q∈aH l,q=b\/q=a\/plt q a)/\plt a b/\b∈aH l/\a∈aH l/\∀q∈aH l,s*ac a b q<=0:=λs hs f=>by
   have W:=tV hs _ hp ne;have pm:=jn s (aH l);rw[f,Jp,List.nil_append]at pm
   match hK:(bv s (aH l)).1,W,pm with
   |[],W,_=>exact absurd rfl W.ne
   |[b],_,pm=>
    have z:∀q∈l,q=b:=λq hq=>by simpa using pm.mem_iff.mpr (sub q hq)
    rw[z Z mZ.1,z P mZ.2,z B mB.2]at pos;have:ac b b b=0:=by unfold ac;grind
    lia
   |b::a::r,W,pm=>
    refine⟨b,a,r,rfl,λq hq=>?_,W.desc.1,pm.mem_iff.mp (by simp),pm.mem_iff.mp (by simp),λq hq=>(W.cov.1 q hq).1⟩
    have:=pm.mem_iff.mpr hq;rcases ET.mp this with z |z
    ·exact .inl z
    ·rcases ET.mp z with y |y
     ·exact .inr (.inl y)
     ·exact .inr (.inr (oK W.desc.2 q y))
  obtain⟨b,a,_,_,g1,h1,mb,ma,c1⟩:=key 1 (.inl rfl) f1;obtain⟨b',a',_,_,g2,h2,R3,RJ,c2⟩:=key (-1) (.inr rfl) f2;have irr:=aB
  have eb:b=b':=by
   rcases g1 b' R3 with z |z |z
   ·exact z.symm
   ·rcases g2 b mb with y |y |y
    ·exact y
    ·rw[z]at h2;rw[y]at h1;exact (irr _ (aD h1 h2)).elim
    ·rw[z]at h2;exact (irr _ (aD (aD y h2) h1)).elim
   ·rcases g2 b mb with y |y |y
    ·exact y
    ·rw[<-y]at h2;exact (irr _ (aD (aD z h1) h2)).elim
    ·exact (irr _ (aD (aD z h1) (aD y h2))).elim
  subst eb
  have ea:a=a':=by
   rcases g1 a' RJ with z |z |z
   ·rw[z]at h2;exact (irr _ h2).elim
   ·exact z.symm
   ·rcases g2 a ma with y |y |y
    ·rw[y]at h1;exact (irr _ h1).elim
    ·exact y
    ·exact (irr _ (aD z y)).elim
  subst ea
  have z0:∀q∈l,ac a b q=0:=λq hq=>by
   have x1:=c1 q (sub q hq);have x2:=c2 q (sub q hq);lia
  have:=AO h1 (z0 Z mZ.1) (z0 P mZ.2) (z0 B mB.2);lia
theorem BD(ns:List Int):hW (ao (spL ns)):=by
 have hN:=vM ns;have spl:(spL ns).length=nS ns:=by unfold spL;simp
 have spw:∀p∈spL ns,Win p:=λp hp=>by
  obtain⟨i,_,rfl⟩:=EV.mp hp;exact lS (by lia) (by lia)
 have sne:spL ns≠[]:=λe=>by rw[e]at spl;simp at spl;lia
 have F0:Fld (ao (spL ns)):=⟨ip sne,gB _⟩;have win:∀p∈ao (spL ns),Win p:=λp hp=>spw p (bH _ p hp)
 have cl:=jx (spL ns);generalize ao (spL ns)=l at *;have ib:∀p,Win p->InB (0,0) p:=λp h=>by unfold Win at h;unfold InB;dsimp only;lia
 have fw:∀p∈aH l,Win p:=λp hp=>Cg F0 win ((bp F0 p).mp hp)
 refine⟨F0,by lia,λp hp=>?_,zp (c:=(0,0)) F0 λp hp=>ib p (win p hp),?_,λh3=>Ad (c:=(0,0)) F0 h3 λp hp=>ib p (fw p hp)⟩
 ·have:=win p hp;unfold Win at this;refine⟨Sz.mono (m:=8) ?_ (by decide),Sz.mono (m:=8) ?_ (by decide)⟩ <;>(unfold Sz;lia)
 ·have nd:(aH l).Nodup:=(bG l).imp λ{x y} h e=>by subst e;exact aB _ h
  have:=c_ nd λp hp=>zw (fw p hp)
  have e:W36.length=36:=by decide
  lia
theorem Cd{q:List P2}{ts:List Int}(h:ts.length=q.length):sN (q.zip ts)=ts.sum:=by
 have e:(q.zip ts).map Mt=ts:=List.map_snd_zip (by lia)
 unfold sN;rw[show (q.zip ts).map (λe=>e.2)=(q.zip ts).map Mt from rfl,e]
theorem r_{m:Nat}{L:List Int}(h:∀n∈L,Sz m n)(hl:L.length<=3):Sz (m+2) L.sum:=by
 have p:(2:Nat) ^ (m+2)=4*2 ^ m:=by rw[Pm];lia
 match L,hl with
 |[],_=>unfold Sz;simp;exact Pn (by decide)
 |[a],_=>
  have h1:=h a (by simp)
  unfold Sz at *;rw[p];simp;lia
 |[a,b],_=>
  have h1:=h a (by simp)
  have h2:=h b (by simp)
  unfold Sz at *;rw[p];simp;lia
 |[a,b,c],_=>
  have h1:=h a (by simp)
  have h2:=h b (by simp)
  have h3:=h c (by simp)
  unfold Sz at *;rw[p];simp;lia
 |_::_::_::_::_,hl=>simp at hl
theorem wt{l:List P2}(O:hW l){q:List P2}(hq:q∈cV l){ts:List Int}(K:QT q ts)(h0:∀t∈ts,0<=t):lv [lp l,.int ts.sum,pu (sX (q.zip ts),sY (q.zip ts))] (.new ((SG.srt ST3.KQ (gC (q.zip ts))).map qU)):=by
 obtain⟨u,r,v,c,S⟩:=B5 O hq K.l h0;have sn:=Cd K.l;have zl:=K.z;have zz:∀f:ST3.PQ->Int,(∀e∈q.zip ts,Sz 3000 (f e))->Sz 3002 ((q.zip ts).map f).sum:=λf hf=>r_ (λn hn=>by obtain⟨e,he,rfl⟩:=EV.mp hn;exact hf e he) (by rw[EM];exact zl)
 have x1:Sz 3002 (sX (q.zip ts)):=zz _ λe he=>(L2.Sz.mul (K.mem he).1.1 (K.mem he).2).mono (by decide)
 have x2:Sz 3002 (sY (q.zip ts)):=zz _ λe he=>(L2.Sz.mul (K.mem he).1.2 (K.mem he).2).mono (by decide)
 have k0:0<=ts.sum:=by rw[<-sn];exact (x4 λe he=>h0 e.2 (Il he).2).1
 have ks:Sz 302 ts.sum:=r_ K.st (by have:=K.l;have:=K.l3;lia)
 rw[<-sn]at k0 ks |-;rw[<-S.t];exact⟨l,_,_,u,r,v,c,rfl,O,k0,ks.mono (by decide),⟨x1.mono (by decide),x2.mono (by decide)⟩,S.e,S.no,S.yes,S.K.W,S.K.sz,S.K.nd,rfl⟩
theorem De{L:List (List P2)}(h:L≠[])(z:Int):atI (L.map plU) (z%((L.map plU).length:Int))=some (plU (L.getD (z%(L.length:Int)).toNat []))/\L.getD (z%(L.length:Int)).toNat []∈L:=by
 have l0:0<L.length:=FJ.mpr h;have m1:=Im z (show (L.length:Int)≠0 by lia)
 have m2:=Hx z (show (0:Int)<L.length by lia)
 have hi:(z%(L.length:Int)).toNat<L.length:=by lia
 have e:L.getD (z%(L.length:Int)).toNat []=L[(z%(L.length:Int)).toNat]:=by rw[Fe,EK hi];rfl
 rw[e,EM];exact⟨nQ (i:=(z%(L.length:Int)).toNat) (by lia) (by rw[EW,EK hi];rfl),Jk hi⟩
theorem Cz(T:Txt w K mg):a9 P w K mg base (CXF P w) 11 T.aa2.a T.aa2.d ["script"] (spU K (ii)):=by
 refine aW T.aa2.F fh (λus o h=>?_) (λPV A outer s H E O us o hr h=>?_)
 ·obtain⟨ns,rfl,h63,hB,rfl⟩:=h;rfl
 obtain⟨ns,rfl,h63,hB,rfl⟩:=h;refine Ws.nox ?_;have O:=BD ns;have hN:=vM ns;have spl:(spL ns).length=nS ns:=by unfold spL;simp
 have sps:∀p∈spL ns,Szp 5000 p:=λp hp=>by
  obtain⟨i,_,rfl⟩:=EV.mp hp;have:=lS (c:=cel ns 3) (x:=cel ns (4+(i:Int) *4)%6) (y:=cel ns (4+(i:Int) *4)/6%6) (by lia) (by lia)
  refine⟨Sz.mono (m:=8) ?_ (by decide),Sz.mono (m:=8) ?_ (by decide)⟩ <;>(unfold Sz pS;lia)
 refine af (aV (i:=1) fh.nd rfl (Or.inl rfl) (EvN.ev (ba ((jg T).mono (by decide)) hr rfl T.aao.m T.aao.F.kp T.aao.b au (ae (EvN.ev (ba ((lc T).mono (by decide)) hr rfl T.aav.m T.aav.F.kp T.aav.b au (ae (aa 0 rfl) ak ag) ⟨ns,rfl,h63,hB,rfl⟩)) ak aN) ⟨spL ns,rfl,sps,by lia,rfl⟩)) ?_)
 generalize ao (spL ns)=l at *;refine af (aV (i:=2) fh.nd rfl (Or.inl rfl) (EvN.ev (ba ((lW T).mono (by decide)) hr rfl T.aaF.m T.aaF.F.kp T.aaF.b au (ae (EvN.ev (df (eJ rfl) rfl T.aaK Ip (ae (aa 1 rfl) ak ag))) ak aN) ⟨l,rfl,O,rfl⟩)) ?_)
 have pne:=zg O;have pl0:0<(cV l).length:=FJ.mpr pne;have plm:(((cV l).map plU).length:Int)=((cV l).length:Int):=by rw[EM]
 refine af (br (Tw.t (kT (dY (dD (ar (bZ (by intro _ h;cases h) (L2.kit_list_list _)) rfl T.aac GP (ae (aa 2 rfl) (ae (kA rfl T.aaK Ip) ak ag) ag)))) (λhz=>(j_ (aF bO (ar (bJ rfl) rfl T.aae Fp (ae (aa 2 rfl) ak ag)) ai))))) (show (!true ||decide ((((cV l).map plU).length:Int)=0))=false by rw[plm,decide_eq_false (by lia)];rfl) (aG ?_))
 have c0:=kO hB (k:=0) (by decide) (by decide)
 obtain⟨ap,mq⟩:=De pne (cel ns 0);refine af (aV (i:=3) fh.nd rfl (Or.inl rfl) (ay (aa 2 rfl) (dw (aw ((cf T).mono (by decide)) hr rfl T.aaa.m T.aaa.F.kp T.aaa.b au (ae (aa 0 rfl) (ae ai ak bq) ag) ⟨ns,_,rfl,h63,by decide,by decide,rfl⟩) (ar (bJ rfl) rfl T.aae Fp (ae (aa 2 rfl) ak ag)) (by rw[plm];lia)) rfl ap) ?_)
 generalize (cV l).getD (cel ns 0%((cV l).length:Int)).toNat []=q at *;obtain⟨ql,qn⟩:=yk O mq;have qin:=(nO O.F mq).2.2;have fz:=O.fz;have l0:0<l.length:=FJ.mpr O.F.ne;have l64:=O.l64;refine af (br (dY (dD (aw ((kW T).mono (by decide)) hr rfl T.aau.m T.aau.F.kp T.aau.b au (ae (aa 3 rfl) (ae (aa 1 rfl) ak ag) ag) ⟨q,l,rfl,ql,O.F.ne,by lia,λp hp=>(O.sz p hp).mono (by decide),λp hp=>⟨(fz p (qin p hp)).mono (by decide),(bp O.F p).mp (qin p hp)⟩,rfl⟩))) rfl (aG ?_))
 have q3:1<=q.length/\q.length<=3:=by lia
 have qm:((q.map pu).length:Int)=((q.length:Nat):Int):=by rw[EM]
 refine af (aV (i:=4) fh.nd rfl (Or.inl rfl) (EvN.ev (ba ((k8 T).mono (by decide)) hr rfl T.aaw.m T.aaw.F.kp T.aaw.b au (ae (aa 0 rfl) (ae (ar (bJ rfl) rfl T.aae Fp (ae (aa 3 rfl) ak ag)) ak aN) ag) ⟨ns,q.length,by rw[qm],h63,hB,q3.1,q3.2,rfl⟩)) ?_)
 have tb:=w8 ns;have tl:(tmL ns q.length).length=q.length:=by unfold tmL;rw[Ka,tb.1];lia
 have tt:∀t∈tmL ns q.length,0<=t/\Sz 210 t:=λt ht=>tb.2 t (MH ht)
 generalize tmL ns q.length=ts at *;have K:QT q ts:=⟨tl,q3.2,λp hp=>fz p (qin p hp),λt ht=>(tt t ht).2.mono (by decide),qn⟩
 have T1:=wt O mq K λt ht=>(tt t ht).1
 show Ws _ _ _ _ _ _ [some (.val (.scr (ns.map U.int))),some (.val (lp l)),some (.val (.lst ((cV l).map plU))),some (.val (plU q)),some (.val (.lst (ts.map U.int))),none,none,none,none];refine af (aV (i:=5) fh.nd rfl (Or.inl rfl) (EvN.ev (ba ((ui T).mono (by decide)) hr rfl T.aaW.m T.aaW.F.kp T.aaW.b au (ae (EvN.ev (df (eJ rfl) rfl T.aaK Ip (ae (aa 1 rfl) ak ag))) (ae (ar (iN rfl (ns:=ts)) rfl T.aa4 M8 (ae (aa 4 rfl) ak ag)) (ae (aw ((iC T).mono (by decide)) hr rfl T.aak.m T.aak.F.kp T.aak.b au (ae (aa 3 rfl) (ae (aa 4 rfl) ak ag) ag) ⟨q,ts,rfl,K,rfl⟩) ak aN) aN) aN) T1)) ?_)
 refine af (br (dY (dD (aw ((h7 T).mono (by decide)) hr rfl T.aal.m T.aal.F.kp T.aal.b au (ae (aa 5 rfl) (ae (EvN.ev (ba ((i_ T).mono (by decide)) hr rfl T.aas.m T.aas.F.kp T.aas.b au (ae (aa 3 rfl) (ae (aa 4 rfl) ak ag) ag) ⟨q,ts,rfl,K,rfl⟩)) ak aN) ag) ⟨_,rfl,rfl⟩))) rfl (aG ?_))
 refine af (aV (i:=6) fh.nd rfl (Or.inl rfl) (EvN.ev (df (eJ rfl) rfl T.aaK Ip (ae (aa 5 rfl) ak ag))) ?_)
 match ts,tl,tt,K,T1 with
 |[],tl,_,_,_=>exact absurd tl (by simp;lia)
 |t::tr,tl,tt,K,T1=>
  have t0:=tt t (by simp)
  have K2:QT q ((t+1)::tr):=⟨tl,q3.2,K.sq,λy hy=>by
   rcases ET.mp hy with z |z
   ·rw[z];exact (L2.Sz.add' (t0.2.mono (n:=290) (by decide)) (Sz.mono (m:=8) (n:=290) (by decide) (by decide))).mono (by decide)
   ·exact (tt y (ES _ z)).2.mono (by decide),qn⟩
  have T2:=wt O mq K2 λy hy=>by
   rcases ET.mp hy with z |z
   ·rw[z];lia
   ·exact (tt y (ES _ z)).1
  have t1:=t0.2;have e0:([.int (t+1)]:List U)++fI ((t::tr).map U.int) (some 1) none=(((t+1)::tr).map U.int):=by rw[iV];rfl
  refine af (aV (i:=7) fh.nd rfl (Or.inl rfl) (EvN.ev (lJ (EvN.ev (cT (aq (cO (ay (aa 4 rfl) ai rfl (nQ (v:=U.int t) (i:=0) rfl rfl)) ai) bj bK))) (EvN.ev (cP (aa 4 rfl) (dZ ai) dR (.inl rfl))) (by rw[iV];simp only[FV,IK,EM,Ff,MQ,Os];exact FT (aE (by simp at tl;lia))))) ?_)
  rw[e0];show Ws _ _ _ _ _ _ [some (.val (.scr (ns.map U.int))),some (.val (lp l)),some (.val (.lst ((cV l).map plU))),some (.val (plU q)),some (.val (.lst ((t::tr).map U.int))),some (.val (.lst ((SG.srt ST3.KQ (gC (q.zip (t::tr)))).map qU))),some (.val (.lst ((SG.srt ST3.KQ (gC (q.zip (t::tr)))).map qU))),some (.val (.lst (((t+1)::tr).map U.int))),none];generalize (t+1)::tr=ms at *;refine af (aV (i:=8) fh.nd rfl (Or.inl rfl) (EvN.ev (ba ((ui T).mono (by decide)) hr rfl T.aaW.m T.aaW.F.kp T.aaW.b au (ae (EvN.ev (df (eJ rfl) rfl T.aaK Ip (ae (aa 1 rfl) ak ag))) (ae (ar (iN rfl (ns:=ms)) rfl T.aa4 M8 (ae (aa 7 rfl) ak ag)) (ae (aw ((iC T).mono (by decide)) hr rfl T.aak.m T.aak.F.kp T.aak.b au (ae (aa 3 rfl) (ae (aa 7 rfl) ak ag) ag) ⟨q,ms,rfl,K2,rfl⟩) ak aN) aN) aN) T2)) ?_)
  generalize SG.srt ST3.KQ (gC (q.zip (t::tr)))=za at *;have okt:okU 9 (.lst (za.map qU))=true:=oa λ_=>rfl
  refine af (bg (lP (aw ((h7 T).mono (by decide)) hr rfl T.aal.m T.aal.F.kp T.aal.b au (ae (aa 8 rfl) (ae (EvN.ev (ba ((i_ T).mono (by decide)) hr rfl T.aas.m T.aas.F.kp T.aas.b au (ae (aa 3 rfl) (ae (aa 7 rfl) ak ag) ag) ⟨q,ms,rfl,K2,rfl⟩)) ak aN) ag) ⟨_,rfl,rfl⟩) (λhz=>(oP (kJ (DI (fZ hr) okt okt) (aa 5 rfl) (aa 6 rfl))))) ?_)
  refine vB ?_;rw[jO 9 _ okt];rfl
end
theorem ar1{fd:Ga}{ps:List Str}{us:List EU}(h:us.length=1)(q:∀a0,JU fd ⟨[a0],[]⟩=pure (ps.zip [a0])):JU fd ⟨us,[]⟩=pure (ps.zip us):=match us,h with |[a0],_=>q a0
theorem ar2{fd:Ga}{ps:List Str}{us:List EU}(h:us.length=2)(q:∀a0 a1,JU fd ⟨[a0,a1],[]⟩=pure (ps.zip [a0,a1])):JU fd ⟨us,[]⟩=pure (ps.zip us):=match us,h with |[a0,a1],_=>q a0 a1
theorem ar3{fd:Ga}{ps:List Str}{us:List EU}(h:us.length=3)(q:∀a0 a1 a2,JU fd ⟨[a0,a1,a2],[]⟩=pure (ps.zip [a0,a1,a2])):JU fd ⟨us,[]⟩=pure (ps.zip us):=match us,h with |[a0,a1,a2],_=>q a0 a1 a2
theorem ar4{fd:Ga}{ps:List Str}{us:List EU}(h:us.length=4)(q:∀a0 a1 a2 a3,JU fd ⟨[a0,a1,a2,a3],[]⟩=pure (ps.zip [a0,a1,a2,a3])):JU fd ⟨us,[]⟩=pure (ps.zip us):=match us,h with |[a0,a1,a2,a3],_=>q a0 a1 a2 a3
theorem bd_count{K:EL}{D:E1}{x1 x2 x3 t:_}(q:K.lookup D=some ⟨.type "tuple",x1,.seq #[.int 1 t] x2,x3⟩)(kV dc pm:EU)(an:Option E1)(cd ct:EU):dt K (HC "count" "count" (bW eH) (bI eH) (aj eH) (.ref D) kV dc pm an cd ct) ["land","k"] []∧∃t,dt K (HC "count" "count" (bW eH) (bI eH) (aj eH) (.ref D) kV dc pm an cd ct) ["land","k"] [.int 1 t]:=
 ⟨λs us X hl=>match us,hl with |[_,_],_=>BindsTo.of_defaults rfl (X _ _ q) rfl rfl rfl,t,λs us X hl=>match us,(show us.length=1 by simpa using hl) with |[_],_=>BindsTo.of_defaults rfl (X _ _ q) rfl rfl rfl⟩
abbrev spLaw(K:EL):Sp:=spU K ii
theorem law_start(K:EL)(H:Hp)(a:E1)(ns:List Int)(h1:ns.length<=63)(h2:∀m∈ns,Sz 1048576 m)(_:Aw H)(h3:SqL K H a (ns.map V.int)):spLaw K [.ref a] H (λv _=>v=.bl true) λ_ _ _=>False:=uU h1 h2 h3
theorem law_ok{P:E2}{w:Fs}{K:EL}{mg:Str→Option EU}{fa:E1}(hfa:mg "law"=some (.ref fa))(T:Txt w K mg):
  ∃fd:Ga,(∀(s:ER) (u:EU),Nc s fd ⟨[u],[]⟩ [("script",u)])∧∀base:Gz,K.In base→base.Ns GS mg→a9 P w K mg base CX0 11 fa fd ["script"] (spLaw K):=by
 cases hfa.symm.trans T.aa2.m;obtain⟨_,_,_,_,_,_,_,_,_,hd,_⟩:=T.aa2.F.ex;exact⟨T.aa2.d,λs v=>by rw[hd];exact .of_eq rfl,λbase _ _=>(Cz T).calm xk⟩
end My
namespace PySem.W.Fast
theorem tw10116198710608448541:True:=trivial
theorem tw10276805844260328160:True:=trivial
theorem tw10624711580098506010:True:=trivial
theorem tw10780186272071257683:True:=trivial
theorem tw11081464268572856641:True:=trivial
theorem tw11168748787804914768:True:=trivial
theorem tw1118509133738712709:True:=trivial
theorem tw11227230410146443129:True:=trivial
theorem tw11245477903217573693:True:=trivial
theorem tw1136108846220558786:True:=trivial
theorem tw11377839921448546497:True:=trivial
theorem tw11518637604155569820:True:=trivial
theorem tw11542242311849942918:True:=trivial
theorem tw11842200819546771133:True:=trivial
theorem tw11913903915118536328:True:=trivial
theorem tw12023658195773752372:True:=trivial
theorem tw12210247225966168236:True:=trivial
theorem tw1257254148825255468:True:=trivial
theorem tw1258713286879386486:True:=trivial
theorem tw12659727758473610681:True:=trivial
theorem tw1279651810815183301:True:=trivial
theorem tw13255577560168480232:True:=trivial
theorem tw13331238981258384665:True:=trivial
theorem tw1335604100691193341:True:=trivial
theorem tw13418179191017273704:True:=trivial
theorem tw13507198344299523356:True:=trivial
theorem tw1350721531629429501:True:=trivial
theorem tw13581379432719689215:True:=trivial
theorem tw13595443580923904068:True:=trivial
theorem tw13612918576613627912:True:=trivial
theorem tw13758302153063014212:True:=trivial
theorem tw13909660211298672755:True:=trivial
theorem tw13951155900484767304:True:=trivial
theorem tw14174412695028163624:True:=trivial
theorem tw14412594370048821770:True:=trivial
theorem tw14522286266992690267:True:=trivial
theorem tw14739972099810964677:True:=trivial
theorem tw14756703185774919604:True:=trivial
theorem tw14889570499597646876:True:=trivial
theorem tw14889681352112321780:True:=trivial
theorem tw14940448954223752851:True:=trivial
theorem tw14984992527621777617:True:=trivial
theorem tw15169538273296456880:True:=trivial
theorem tw15180689312159987218:True:=trivial
theorem tw15311550461460720557:True:=trivial
theorem tw153835507325033417:True:=trivial
theorem tw15410270348911377226:True:=trivial
theorem tw15551788446475315909:True:=trivial
theorem tw15678557165766583944:True:=trivial
theorem tw15702020527580184112:True:=trivial
theorem tw15757354404016246865:True:=trivial
theorem tw15762563533865288349:True:=trivial
theorem tw15781266334494575286:True:=trivial
theorem tw15855777414133379489:True:=trivial
theorem tw16128447675896603151:True:=trivial
theorem tw16198648584830747208:True:=trivial
theorem tw16440329401822556813:True:=trivial
theorem tw16452039996349265607:True:=trivial
theorem tw16715476023456456371:True:=trivial
theorem tw16730900444333139107:True:=trivial
theorem tw16744666380476650672:True:=trivial
theorem tw16815610587536131078:True:=trivial
theorem tw16831017178788037782:True:=trivial
theorem tw17054393145539800667:True:=trivial
theorem tw1716019705662674139:True:=trivial
theorem tw17377240843693274109:True:=trivial
theorem tw17380856070544776411:True:=trivial
theorem tw17456933394239551578:True:=trivial
theorem tw17564263582334248384:True:=trivial
theorem tw17606392090958140430:True:=trivial
theorem tw17631278798423465098:True:=trivial
theorem tw17666905828057980295:True:=trivial
theorem tw18120464720247612693:True:=trivial
theorem tw1812465981472348680:True:=trivial
theorem tw18346090291248083354:True:=trivial
theorem tw18371472138613171803:True:=trivial
theorem tw18401570790599682221:True:=trivial
theorem tw1950009925914848507:True:=trivial
theorem tw2028692973506493953:True:=trivial
theorem tw2074286541135488123:True:=trivial
theorem tw2587716346904324137:True:=trivial
theorem tw2769177326234032090:True:=trivial
theorem tw2769981517243869986:True:=trivial
theorem tw2842688511715981569:True:=trivial
theorem tw2921017197849468670:True:=trivial
theorem tw305662195573814863:True:=trivial
theorem tw3168599396133596221:True:=trivial
theorem tw3254954972229527544:True:=trivial
theorem tw3258164052773232283:True:=trivial
theorem tw3259405180166796577:True:=trivial
theorem tw3365154686252316017:True:=trivial
theorem tw3450962017252937826:True:=trivial
theorem tw3499127058202239978:True:=trivial
theorem tw3576440750607197382:True:=trivial
theorem tw3697781560715997353:True:=trivial
theorem tw3747270567883574910:True:=trivial
theorem tw415244310212029167:True:=trivial
theorem tw4174462567668033507:True:=trivial
theorem tw4212189771452252410:True:=trivial
theorem tw4250584655306534331:True:=trivial
theorem tw4253470867421112472:True:=trivial
theorem tw4377480894831727389:True:=trivial
theorem tw4427516399427386472:True:=trivial
theorem tw4483213155123827310:True:=trivial
theorem tw4644808416222458288:True:=trivial
theorem tw4648884706994586200:True:=trivial
theorem tw471167679412558412:True:=trivial
theorem tw5220757701858188984:True:=trivial
theorem tw528367032921727904:True:=trivial
theorem tw5287614073713271501:True:=trivial
theorem tw5451587164128975042:True:=trivial
theorem tw5454013445816599282:True:=trivial
theorem tw5480738337059001600:True:=trivial
theorem tw5602777276078607295:True:=trivial
theorem tw5643891793025449114:True:=trivial
theorem tw5829819225056354553:True:=trivial
theorem tw5834345667368691043:True:=trivial
theorem tw5841035508846746139:True:=trivial
theorem tw5919482627097666357:True:=trivial
theorem tw608164558320123011:True:=trivial
theorem tw6097691774147164961:True:=trivial
theorem tw6312346036839438146:True:=trivial
theorem tw6433796962449137801:True:=trivial
theorem tw6489051572653492140:True:=trivial
theorem tw6513663417583998577:True:=trivial
theorem tw6831593986643636869:True:=trivial
theorem tw684309483167532215:True:=trivial
theorem tw699191506609250573:True:=trivial
theorem tw7315546004978843769:True:=trivial
theorem tw7366647045159678755:True:=trivial
theorem tw7537956225260586518:True:=trivial
theorem tw7545167478902986392:True:=trivial
theorem tw7611615885430421620:True:=trivial
theorem tw779079740310045533:True:=trivial
theorem tw8010870863212235217:True:=trivial
theorem tw8114608130229558376:True:=trivial
theorem tw8407891906458270585:True:=trivial
theorem tw8410208359001158587:True:=trivial
theorem tw8411764031204801180:True:=trivial
theorem tw861461650418998799:True:=trivial
theorem tw8652906190344366729:True:=trivial
theorem tw869052759193895417:True:=trivial
theorem tw8786499711631457394:True:=trivial
theorem tw8806681614401460845:True:=trivial
theorem tw9081922400623501270:True:=trivial
theorem tw941897888026509377:True:=trivial
theorem tw9443661675306526892:True:=trivial
theorem tw9660849153521878417:True:=trivial
theorem tw9854121893692367473:True:=trivial
theorem tw995650277118200086:True:=trivial
end PySem.W.Fast
open PySem PySem.W PyProof.Rows L2
set_option maxRecDepth 100000 in
set_option maxHeartbeats 0 in
set_option maxHeartbeats 0 in
theorem PySem.Challenge.cw_stakefield_k36_whole_each_telling_is_tol_holds : PySem.Challenge.rw_stakefield_k36_whole_each_telling_is_tol.Holds := by
 w_on;o_law;k_head;(case hw=>w_witness2)
 k_fill
 refine L2.walk_ofB (l:=PySem.Challenge.rw_stakefield_k36_whole_each_telling_is_tol) (n:=63) (k:=11) (x:="script") (CX:=CX0) (sp:=My.spLaw) rfl (by decide) rfl ⟨rfl,by decide,by decide⟩ (λw h Y=>by first |exact Og Y |exact PySem.W.km_in_of Y) ?F My.law_start (λ_ _ _ _ z=>z)
 case F=>
  intro w mg fa h KX G hmg
  refine' My.law_ok hmg ⟨L2.dfn KX G (by walk_at"b1") ?_ ?_ ?_ ?_,L2.dfn KX G (by walk_at"b1") ?_ ?_ ?_ ?_,L2.dfn KX G (by walk_at"b2") ?_ ?_ ?_ ?_,L2.dfn KX G (by walk_at"b1") ?_ ?_ ?_ ?_,L2.dfn KX G (by walk_at"b1") ?_ ?_ ?_ ?_,L2.dfn KX G (by walk_at"b1") ?_ ?_ ?_ ?_,L2.dfn KX G (by walk_at"b2") ?_ ?_ ?_ ?_,L2.dfn KX G (by walk_at"b2") ?_ ?_ ?_ ?_,L2.dfn KX G (by walk_at"b1") ?_ ?_ ?_ ?_,L2.dfn KX G (by walk_at"b2") ?_ ?_ ?_ ?_,L2.dfn KX G (by walk_at"b2") ?_ ?_ ?_ ?_,L2.dfn KX G (by walk_at"b3") ?_ ?_ ?_ ?_,L2.dfn KX G (by walk_at"b1") ?_ ?_ ?_ ?_,L2.dfn KX G (by walk_at"b1") ?_ ?_ ?_ ?_,L2.dfn KX G (by walk_at"b1") ?_ ?_ ?_ ?_,L2.dfn KX G (by walk_at"b3") ?_ ?_ ?_ ?_,L2.dfn KX G (by walk_at"b2") ?_ ?_ ?_ ?_,L2.dfn KX G (by walk_at"b1") ?_ ?_ ?_ ?_,L2.dfn KX G (by walk_at"b1") ?_ ?_ ?_ ?_,L2.dfn KX G (by walk_at"b2") ?_ ?_ ?_ ?_,L2.dfn KX G (by walk_at"b2") ?_ ?_ ?_ ?_,L2.dfn KX G (by walk_at"b2") ?_ ?_ ?_ ?_,L2.dfn KX G (by walk_at"b1") ?_ ?_ ?_ ?_,L2.dfD KX G My.bd_count ?_ ?_ ?_ ?_ ?_,L2.dfn KX G (by walk_at"b2") ?_ ?_ ?_ ?_,L2.dfn KX G (by walk_at"b1") ?_ ?_ ?_ ?_,L2.dfn KX G (by walk_at"b1") ?_ ?_ ?_ ?_,L2.dfn KX G (by walk_at"b2") ?_ ?_ ?_ ?_,L2.dfn KX G (by walk_at"b1") ?_ ?_ ?_ ?_,L2.dfn KX G (by walk_at"b1") ?_ ?_ ?_ ?_,L2.dfn KX G (λ_ _ _ _ _ _ _ h=>My.ar4 h λ_ _ _ _=>rfl) ?_ ?_ ?_ ?_,L2.dfn KX G (by walk_at"b3") ?_ ?_ ?_ ?_,L2.dfn KX G (by walk_at"b3") ?_ ?_ ?_ ?_,L2.dfn KX G (by walk_at"b2") ?_ ?_ ?_ ?_,L2.dfn KX G (by walk_at"b3") ?_ ?_ ?_ ?_,L2.dfn KX G (by walk_at"b1") ?_ ?_ ?_ ?_,L2.dfn KX G (by walk_at"b1") ?_ ?_ ?_ ?_,L2.dfn KX G (by walk_at"b2") ?_ ?_ ?_ ?_,L2.dfn KX G (by walk_at"b1") ?_ ?_ ?_ ?_,L2.dfn KX G (by walk_at"b2") ?_ ?_ ?_ ?_,L2.dfn KX G (by walk_at"b1") ?_ ?_ ?_ ?_,L2.dfn KX G (by walk_at"b3") ?_ ?_ ?_ ?_,L2.dfn KX G (by walk_at"b1") ?_ ?_ ?_ ?_,L2.dfn KX G (by walk_at"b2") ?_ ?_ ?_ ?_,L2.dfn KX G (by walk_at"b2") ?_ ?_ ?_ ?_,L2.dfn KX G (by walk_at"b2") ?_ ?_ ?_ ?_,L2.dfn KX G (by walk_at"b2") ?_ ?_ ?_ ?_,L2.dfn KX G (by walk_at"b1") ?_ ?_ ?_ ?_,FS KX G ?_,FS KX G ?_,FS KX G ?_,FS KX G ?_,FS KX G ?_,FS KX G ?_,FS KX G ?_,FS KX G ?_,FS KX G ?_,FS KX G ?_,FS KX G ?_,FS KX G ?_,FS KX G ?_,FS KX G ?_,FS KX G ?_,FS KX G ?_,L2.g_i KX G ?_⟩
  all_goals try first |k_is | (dsimp only[L2.exn];first |k_is |k_exc |kit_is)
